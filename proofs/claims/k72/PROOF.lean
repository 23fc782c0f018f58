import PyProof.Rows.All
import Wide.All
import OpenK.AllK
import Wide.FinOn
import PyProof.EqAt
import PyProof.EqKinds
import PyProof.NeKinds
import PyProof.TupleCall
import KE.KRevIter
import PyProof.ZipIter
import PyProof.Rows.SetFrom
import PyProof.StrWalks
import PyProof.DictStraight
import PyProof.StrLawsFrom
import PyProof.Rows.StrNews2
import KE.KMinBuiltin
import PyProof.Rows.CallKwBuiltin
import PyProof.Rows.SortShell
import KE.KSortTup
import KE.KBoundM
import KE.KLam
import Lean
import PySem.Challenge.RW_letterlaw_k72_world_of_forms
set_option Elab.async false
set_option linter.all false
set_option maxRecDepth 100000
set_option maxHeartbeats 4000000
namespace L2
open PySem PySem.Spec PyProof.Rows
abbrev Key:=Sum Int Str
def UO:Key -> Value -> Bool
 | .inl k,v=>Value.isInt k v
 | .inr x,v=>Value.isStrOf x v
def JP (w:World):Key -> Int
 | .inl k=>hashInt k
 | .inr x=>hashStr w x
theorem z6:∀ {k:Key} {v:Value},UO k v = true -> (∃ i t,k = Sum.inl i /\ v = Value.int i t) \/ (∃ x t,k = Sum.inr x /\ v = Value.str x t)
 | .inl i,v,h=>by
  obtain ⟨t,e⟩:=Value.isInt_shape (k:=i) (v:=v) h
  exact .inl ⟨i,t,rfl,e⟩
 | .inr x,v,h=>by
  obtain ⟨t,e⟩:=Value.isStrOf_shape (x:=x) (v:=v) h
  exact .inr ⟨x,t,rfl,e⟩
theorem UP (a b:Int):decide ((Sum.inl a:Key) = Sum.inl b) = (a == b):=by
 by_cases e:a = b
 ·subst e; simp
 ·have h:¬ (Sum.inl a:Key) = Sum.inl b:=fun q=>e (Sum.inl.inj q)
  rw [decide_eq_false h]
  exact (beq_eq_false_iff_ne.mpr e).symm
theorem Ud (a b:Str):decide ((Sum.inr a:Key) = Sum.inr b) = decide (a = b):=by
 by_cases e:a = b
 ·subst e; simp
 ·have h:¬ (Sum.inr a:Key) = Sum.inr b:=fun q=>e (Sum.inr.inj q)
  rw [decide_eq_false h,decide_eq_false e]
theorem V5 (a:Int) (b:Str):decide ((Sum.inl a:Key) = Sum.inr b) = false:=decide_eq_false (fun q=>nomatch q)
theorem V8 (a:Str) (b:Int):decide ((Sum.inr a:Key) = Sum.inl b) = false:=decide_eq_false (fun q=>nomatch q)
def jw (prog:Program) (w:World):PySem.KeyKind prog w Key where
 is:=UO
 hash:=JP w
 inj:=fun v a b ha hb=>by
  rcases z6 ha with ⟨i,t,rfl,rfl⟩ | ⟨x,t,rfl,rfl⟩
  ·rcases z6 hb with ⟨j,u,rfl,e⟩ | ⟨y,u,rfl,e⟩
   ·injection e with e1 _; rw [e1]
   ·exact nomatch e
  ·rcases z6 hb with ⟨j,u,rfl,e⟩ | ⟨y,u,rfl,e⟩
   ·exact nomatch e
   ·injection e with e1 _; rw [e1]
 byValue:=fun k v h=>by
  rcases z6 h with ⟨i,t,rfl,rfl⟩ | ⟨x,t,rfl,rfl⟩ <;> rfl
 pyHash:=fun hv h=>by
  rcases z6 hv with ⟨i,t,rfl,rfl⟩ | ⟨x,t,rfl,rfl⟩
  ·exact wpAny_pyHash_int h
  ·exact wpAny_pyHash_str h
 eqBool:=fun hu hv h=>by
  rcases z6 hu with ⟨i,t,rfl,rfl⟩ | ⟨x,t,rfl,rfl⟩
  ·rcases z6 hv with ⟨j,u,rfl,rfl⟩ | ⟨y,u,rfl,rfl⟩
   ·rw [UP] at h; exact wpAny_eqBool_int h
   ·rw [V5] at h; exact SeqAt.EqAt.int_str i t y u _ _ _ _ h
  ·rcases z6 hv with ⟨j,u,rfl,rfl⟩ | ⟨y,u,rfl,rfl⟩
   ·rw [V8] at h; exact SeqAt.EqAt.str_int x t j u _ _ _ _ h
   ·rw [Ud] at h; exact wpAny_eqBool_str h
 «strs»:=fun k x t v h=>by
  rcases z6 h with ⟨i,u,rfl,e⟩ | ⟨y,u,rfl,e⟩
  ·exact nomatch e
  ·injection e with e1 _
   subst e1
   cases v <;> rfl
end L2
namespace L2
open PySem PySem.Spec PyProof.Rows
inductive V where
 | non | bl (b:Bool) | int (i:Int) | str (x:Str) | byt (b:Array UInt8) | flt (b:UInt64) | ref (a:Addr) | ty (n:String)
 deriving DecidableEq
def RelV:V -> Value -> Prop
 | .non,u=>u = Value.none
 | .bl b,u=>u = Value.bool b
 | .int i,u=>∃ t,u = Value.int i t
 | .str x,u=>∃ t,u = Value.str x t
 | .byt b,u=>∃ t,u = Value.bytes b t
 | .flt b,u=>∃ t,u = Value.float b t
 | .ref a,u=>u = Value.ref a
 | .ty n,u=>u = Value.type n
abbrev Vals:List V -> List Value -> Prop:=Paired RelV
theorem Vals.length {xs:List V} {us:List Value} (r:Vals xs us):xs.length = us.length:=Paired.length r
theorem Vals.get:∀ {xs:List V} {us:List Value} {i:Nat} {x:V},Vals xs us -> xs[i]? = some x -> ∃ u,us[i]? = some u /\ RelV x u
 | _,_,_,_,.nil,e=>by simp at e
 | _,_,0,_,.cons r _,e=>by simp at e; subst e; exact ⟨_,rfl,r⟩
 | _,_,i + 1,x,.cons _ t,e=>by
  obtain ⟨u,h1,h2⟩:=Vals.get (i:=i) (x:=x) t (by simpa using e)
  exact ⟨u,by simpa using h1,h2⟩
theorem Vals.set {x:V} {u:Value} (r:RelV x u):∀ {xs:List V} {us:List Value} (i:Nat),Vals xs us -> Vals (xs.set i x) (us.set i u)
 | _,_,_,.nil=>.nil
 | _,_,0,.cons _ t=>.cons r t
 | _,_,i + 1,.cons q t=>.cons q (Vals.set r i t)
theorem Vals.append:∀ {xs ys:List V} {us ws:List Value},Vals xs us -> Vals ys ws -> Vals (xs ++ ys) (us ++ ws)
 | _,_,_,_,.nil,s=>s
 | _,_,_,_,.cons r t,s=>.cons r (Vals.append t s)
theorem Vals.take:∀ {xs:List V} {us:List Value} (n:Nat),Vals xs us -> Vals (xs.take n) (us.take n)
 | _,_,0,_=>.nil
 | _,_,_ + 1,.nil=>.nil
 | _,_,n + 1,.cons r t=>.cons r (Vals.take n t)
theorem Vals.drop:∀ {xs:List V} {us:List Value} (n:Nat),Vals xs us -> Vals (xs.drop n) (us.drop n)
 | _,_,0,r=>r
 | _,_,_ + 1,.nil=>.nil
 | _,_,n + 1,.cons _ t=>Vals.drop n t
def RelO:Option V -> Option Value -> Prop
 | some v,some u=>RelV v u
 | none,none=>True
 | _,_=>False
def KV {κ:Type}:List (κ × V) -> List (κ × Value) -> Prop:=Paired fun (p:κ × V) (q:κ × Value)=>p.1 = q.1 /\ RelV p.2 q.2
def kV:Key -> V
 | .inl i=>.int i
 | .inr x=>.str x
inductive HO where
  | lst (xs:List V)
  | tup (xs:List V)
  | dK (kvs:List (Key × V)) | dT (kvs:List (List Key × V))
  | set (S:Int -> Bool) (n:Nat)
  | ins (C dx:Addr) (fs:List (Str × V))
  | own (x:Addr)
  | xd (fs:List (Str × V))
  | met (f x:Addr)
  | rng (lo hi:Int)
  | frz (o:Obj) (u:HO)
  | tbl (ps:Array Value)
  | ext (φ:Heap -> Prop)
abbrev Hp:=Addr -> Option HO
def upd (H:Hp) (a:Addr) (o:HO):Hp:=fun b=>if b = a then some o else H b
theorem zd {H:Hp} {a:Addr} {o:HO}:upd H a o a = some o:=by unfold upd; rw [if_pos rfl]
theorem zi {H:Hp} {a b:Addr} {o:HO} (h:b ≠ a):upd H a o b = H b:=by unfold upd; rw [if_neg h]
theorem zv {H:Hp} {a b:Addr} {o:HO} (h:H a = some o) (h':H b = none):a ≠ b:=by
 intro e; subst e; rw [h] at h'; cases h'
section
variable (P:Program) (w:World)
def ObjOk (H:Hp) (h:Heap) (a:Addr):HO -> Prop
 | .lst xs=>xs.length <= sizeLine /\ ∃ (its:List Value) (n:Nat),Vals xs its /\ h.get? a = some { cls:=.type "list",data:=.seq its.toArray n }
 | .tup xs=>xs.length <= sizeLine /\ ∃ its:List Value,Vals xs its /\ IsTup h a its.toArray
 | .dK kvs=>kvs.length <= sizeLine /\ (a == sysModules) = false /\ ∃ vs,KV kvs vs /\ h.DictOf (jw P w) a vs
 | .dT kvs=>kvs.length <= sizeLine /\ (a == sysModules) = false /\ ∃ xs:List (List Key × Addr × Value),
   Paired (fun (p:List Key × V) (q:List Key × Addr × Value)=>p.1 = q.1 /\ H q.2.1 = some (.tup (p.1.map kV)) /\ RelV p.2 q.2.2) kvs xs /\
   ∃ o es ep,h.get? a = some o /\ o.ExactDict /\ o.data = .dict es ep /\ es.toList = xs.map (entryOfKey (tupleKind (jw P w))) /\ (xs.map (·.1)).Nodup
 | .set S n=>h.SetOf (intKind P w) a S n
 | .ins C dx fs=>H dx = some (.own a) /\ fs.length <= 1000 /\ dx ≠ a /\ h.get? a = some (PySem.W.instObj C dx) /\
   ∃ mA,h.Ns1 dx mA /\ (∀ f,RelO (fs.lookup f) (mA f)) /\ PySem.Within mA (fs.map (·.1))
 | .own _=>∃ o,h.get? a = some o
 | .xd fs=>∃ mA,h.Ns1 a mA /\ ∀ f,RelO (fs.lookup f) (mA f)
 | .rng lo hi=>∃ t u v,h.get? a = some { cls:=.type "range",data:=.fields #[.int lo t,.int hi u,.int 1 v] }
 | .frz o u=>h.get? a = some o /\ ObjOk H h a u
 | .tbl ps=>h.get? a = some { cls:=.none,data:=.fields ps }
 | .met f x=>h.get? a = some (PySem.W.methodObj (.ref f) (.ref x))
 | .ext φ=>φ h /\ (∃ o,h.get? a = some o) /\ ∀ h1 h2:Heap,φ h1 -> (∀ o,h1.get? a = some o -> h2.get? a = some o) -> φ h2
def HOk (H:Hp) (h:Heap):Prop:=∀ a o,H a = some o -> ObjOk P w H h a o
end
section
variable {P:Program} {w:World} {H H':Hp} {h h':Heap} {a:Addr} {o:HO}
theorem ObjOk.lt (x:ObjOk P w H h a o):a < h.objs.size:=by
 cases o with
 | lst xs=>obtain ⟨_,_,_,_,e⟩:=x; exact Heap.lt_size e
 | tup xs=>obtain ⟨_,_,_,p⟩:=x; exact p.lt
 | dK kvs=>obtain ⟨_,_,_,_,o,_,_,e,_⟩:=x; exact Heap.lt_size e
 | dT kvs=>obtain ⟨_,_,_,_,o,_,_,e,_⟩:=x; exact Heap.lt_size e
 | set S n=>obtain ⟨o,_,_,_,e,_⟩:=x; exact Heap.lt_size e
 | ins C dx fs=>obtain ⟨_,_,_,e,_⟩:=x; exact Heap.lt_size e
 | own y=>obtain ⟨_,e⟩:=x; exact Heap.lt_size e
 | xd fs=>obtain ⟨_,⟨_,_,_,e,_⟩,_⟩:=x; exact Heap.lt_size e
 | rng lo hi=>obtain ⟨_,_,_,e⟩:=x; exact Heap.lt_size e
 | frz ob u=>obtain ⟨e,_⟩:=x; exact Heap.lt_size e
 | tbl ps=>exact Heap.lt_size (show h.get? a = some _ from x)
 | met f y=>exact Heap.lt_size (show h.get? a = some _ from x)
 | ext φ=>obtain ⟨_,⟨_,e⟩,_⟩:=x; exact Heap.lt_size e
theorem Paired.mapP {α β:Type} {F G:α -> β -> Prop}:∀ {l₁:List α} {l₂:List β},Paired F l₁ l₂ -> (∀ a b,F a b -> G a b) -> Paired G l₁ l₂
 | _,_,.nil,_=>.nil
 | _,_,.cons r t,f=>.cons (f _ _ r) (Paired.mapP t f)
theorem ObjOk.stay (x:ObjOk P w H h a o) (k:∀ b u,(b = a \/ H b = some (.own a)) -> h.get? b = some u -> h'.get? b = some u)
  (ho:∀ b,H b = some (.own a) -> H' b = some (.own a)) (ht:∀ b xs,H b = some (.tup xs) -> H' b = some (.tup xs)):ObjOk P w H' h' a o:=by
 induction o with
 | lst xs=>obtain ⟨z,its,n,r,e⟩:=x; exact ⟨z,its,n,r,k _ _ (.inl rfl) e⟩
 | tup xs=>obtain ⟨z,its,r,ob,e,c⟩:=x; exact ⟨z,its,r,ob,k _ _ (.inl rfl) e,c⟩
 | dK kvs=>obtain ⟨z,y,vs,r,ob,es,ep,e,c⟩:=x; exact ⟨z,y,vs,r,ob,es,ep,k _ _ (.inl rfl) e,c⟩
 | dT kvs =>
  obtain ⟨z,y,xs,r,ob,es,ep,e,c⟩:=x
  exact ⟨z,y,xs,Paired.mapP r fun p q z=>⟨z.1,ht _ _ z.2.1,z.2.2⟩,ob,es,ep,k _ _ (.inl rfl) e,c⟩
 | set S n=>obtain ⟨ob,es,ep,t,e,c⟩:=x; exact ⟨ob,es,ep,t,k _ _ (.inl rfl) e,c⟩
 | ins C dx fs =>
  obtain ⟨d,z,ne,e,mA,⟨od,es,ep,e2,c⟩,r⟩:=x
  exact ⟨ho _ d,z,ne,k _ _ (.inl rfl) e,mA,⟨od,es,ep,k _ _ (.inr d) e2,c⟩,r⟩
 | own y=>obtain ⟨ob,e⟩:=x; exact ⟨ob,k _ _ (.inl rfl) e⟩
 | xd fs=>obtain ⟨mA,⟨od,es,ep,e,c⟩,r⟩:=x; exact ⟨mA,⟨od,es,ep,k _ _ (.inl rfl) e,c⟩,r⟩
 | rng lo hi=>obtain ⟨t,u,v,e⟩:=x; exact ⟨t,u,v,k _ _ (.inl rfl) e⟩
 | frz ob u ih=>obtain ⟨e,q⟩:=x; exact ⟨k _ _ (.inl rfl) e,ih q⟩
 | tbl ps =>
  have e:h.get? a = some { cls:=.none,data:=.fields ps }:=x
  show h'.get? a = some { cls:=.none,data:=.fields ps }
  exact k a _ (.inl rfl) e
 | met f y =>
  have e:h.get? a = some (PySem.W.methodObj (.ref f) (.ref y)):=x
  show h'.get? a = some (PySem.W.methodObj (.ref f) (.ref y))
  exact k a _ (.inl rfl) e
 | ext φ=>obtain ⟨p,⟨o,e⟩,st⟩:=x; exact ⟨st _ _ p fun o q=>k _ _ (.inl rfl) q,⟨o,k _ _ (.inl rfl) e⟩,st⟩
theorem HOk.lt (x:HOk P w H h) (e:H a = some o):a < h.objs.size:=(x a o e).lt
theorem HOk.fresh (x:HOk P w H h) (e:h.objs.size <= a):H a = none:=by
 cases q:H a with
 | none=>rfl
 | some u=>exact absurd (Nat.lt_of_lt_of_le (x.lt q) e) (Nat.lt_irrefl _)
theorem HOk.kept (x:HOk P w H h) (k:∀ b u,h.get? b = some u -> h'.get? b = some u):HOk P w H h':=fun a o e =>
 (x a o e).stay (fun b u _ q=>k b u q) (fun _ q=>q) fun _ _ q=>q
theorem HOk.laid (x:HOk P w H h) (k:∀ b u,h.get? b = some u -> h'.get? b = some u) (hp:h.objs.size <= a) (new:ObjOk P w (upd H a o) h' a o):HOk P w (upd H a o) h':=fun b u e=>by
 have hn:=x.fresh hp
 by_cases hb:b = a
 ·subst hb; rw [zd] at e; cases e; exact new
 ·rw [zi hb] at e
  exact (x b u e).stay (fun c v _ q=>k c v q) (fun c q=>by rw [zi (zv q hn)]; exact q) fun c xs q=>by rw [zi (zv q hn)]; exact q
end
def Rd (H:Hp) (a:Addr) (u:HO):Prop:=H a = some u \/ ∃ o,H a = some (.frz o u)
theorem Rd.ok {P:Program} {w:World} {H:Hp} {h:Heap} {a:Addr} {u:HO} (r:Rd H a u) (x:HOk P w H h):ObjOk P w H h a u:=by
 rcases r with r | ⟨o,r⟩
 ·exact x a u r
 ·obtain ⟨_,q⟩:=x a _ r
  exact q
def Mut:Option HO -> Prop
 | some (.lst _)=>True
 | some (.dK _)=>True
 | some (.dT _)=>True
 | some (.set _ _)=>True
 | some (.ins _ _ _)=>True
 | some (.ext _)=>True
 | _=>False
section
variable {P:Program} {w:World} {H:Hp} {h h':Heap} {x e:Addr} {o':HO}
theorem HOk.write (ok:HOk P w H h) (mu:Mut (H x)) (he:e = x \/ H e = some (.own x)) (k:∀ b u,b ≠ e -> h.get? b = some u -> h'.get? b = some u) (heo:∃ u,h'.get? e = some u)
  (new:ObjOk P w (upd H x o') h' x o'):HOk P w (upd H x o') h':=fun b u q=>by
 have nown:∀ c y,H c = some (.own y) -> c ≠ x:=fun c y r z=>by subst z; rw [r] at mu; exact mu
 have ntup:∀ c xs,H c = some (.tup xs) -> c ≠ x:=fun c xs r z=>by subst z; rw [r] at mu; exact mu
 by_cases hb:b = x
 ·subst hb; rw [zd] at q; cases q; exact new
 ·rw [zi hb] at q
  by_cases hbe:b = e
  ·have q':H b = some (.own x):=by
    rcases he with z | z
    ·exact absurd (hbe.trans z) hb
    ·rw [hbe]; exact z
   rw [q] at q'; cases q'
   obtain ⟨v,hv⟩:=heo
   exact ⟨v,by rw [hbe]; exact hv⟩
  ·refine (ok b u q).stay (fun c v hc r=>k c v ?_ r) (fun c r=>by rw [zi (nown c b r)]; exact r) fun c xs r=>by rw [zi (ntup c xs r)]; exact r
   rcases hc with rfl | hc
   ·exact hbe
   ·rintro rfl
    rcases he with z | z
    ·exact nown c b hc z
    ·rw [hc] at z; cases z; exact hb rfl
end
structure Un (fs ex:List Addr) (H H':Hp) (h h':Heap):Prop where
 keep:∀ b o,h.get? b = some o -> H b = none -> b ∉ fs -> b ∉ ex -> h'.get? b = some o
 slot:∀ b o,h.get? b = some o -> H b = none -> b ∈ fs -> b ∉ ex -> ∃ sl,h'.get? b = some { o with slots:=sl }
 free:∀ b o,h.get? b = some o -> H b = none -> b ∉ ex -> H' b = none
 there:∀ b o,h.get? b = some o -> b ∉ ex -> ∃ o',h'.get? b = some o'
 tups:∀ b xs,H b = some (.tup xs) -> H' b = some (.tup xs)
 frzs:∀ b o u,H b = some (.frz o u) -> H' b = some (.frz o u)
 tbls:∀ b ps,H b = some (.tbl ps) -> ∃ more,H' b = some (.tbl (ps ++ more))
section
variable {fs fs' ex ex':List Addr} {H H1 H2:Hp} {h h1 h2 h':Heap} {a x e:Addr} {o:HO}
theorem Un.any (u:Un fs ex H H1 h h1) {b:Addr} {ob:Obj} (q:h.get? b = some ob) (n:H b = none) (hx:b ∉ ex):∃ sl,h1.get? b = some { ob with slots:=sl }:=by
 by_cases hb:b ∈ fs
 ·exact u.slot b ob q n hb hx
 ·exact ⟨ob.slots,u.keep b ob q n hb hx⟩
theorem Un.kept (k:∀ b u,h.get? b = some u -> h'.get? b = some u):Un fs ex H H h h' :=
 ⟨fun b ob q _ _ _=>k b ob q,fun b ob q _ _ _=>⟨ob.slots,k b ob q⟩,fun _ _ _ n _=>n,fun b ob q _=>⟨ob,k b ob q⟩,fun _ _ q=>q,fun _ _ _ q=>q,fun _ ps q=>⟨#[],by rw [q]; simp⟩⟩
theorem Un.refl:Un fs ex H H h h:=Un.kept fun _ _ q=>q
theorem Un.laid (k:∀ b u,h.get? b = some u -> h'.get? b = some u) (hp:h.objs.size <= a) (hn:H a = none):Un fs ex H (upd H a o) h h' where
 keep:=fun b u q _ _ _=>k b u q
 slot:=fun b u q _ _ _=>⟨u.slots,k b u q⟩
 free:=fun b u q n _=>by rw [zi (Nat.ne_of_lt (Nat.lt_of_lt_of_le (Heap.lt_size q) hp))]; exact n
 there:=fun b u q _=>⟨u,k b u q⟩
 tups:=fun b xs q=>by rw [zi (zv q hn)]; exact q
 frzs:=fun b u xs q=>by rw [zi (zv q hn)]; exact q
 tbls:=fun b ps q=>⟨#[],by rw [zi (zv q hn),q]; simp⟩
theorem Un.write (mu:Mut (H x)) (he:e = x \/ H e = some (.own x)) (k:∀ b u,b ≠ e -> h.get? b = some u -> h'.get? b = some u) (heo:∃ u,h'.get? e = some u):Un fs ex H (upd H x o) h h':=by
 have hx:∀ b,H b = none -> b ≠ x:=fun b n z=>by subst z; rw [n] at mu; exact mu
 have hb:∀ b,H b = none -> b ≠ e:=fun b n z=>by
  subst z
  rcases he with r | r
  ·exact hx b n r
  ·rw [n] at r; cases r
 have hm:∀ b u,H b = some u -> ¬ Mut (some u) -> b ≠ x:=fun b u q nm z=>by subst z; rw [q] at mu; exact nm mu
 refine ⟨fun b u q n _ _=>k b u (hb b n) q,fun b u q n _ _=>⟨u.slots,k b u (hb b n) q⟩,fun b u q n _=>by rw [zi (hx b n)]; exact n,fun b u q _=>?_,
  fun b xs q=>by rw [zi (hm b _ q fun z=>z)]; exact q,fun b u xs q=>by rw [zi (hm b _ q fun z=>z)]; exact q,fun b ps q=>⟨#[],by rw [zi (hm b _ q fun z=>z),q]; simp⟩⟩
 by_cases hbe:b = e
 ·subst hbe; exact heo
 ·exact ⟨u,k b u hbe q⟩
end
def trk (h:Heap) (H:Hp):List Addr:=(List.range h.objs.size).filter fun a=>(H a).isSome
def Wv (h:Heap) (H:Hp):Heap:=PySem.W.hideAll h (trk h H)
theorem Yz (h:Heap) (H:Hp):(Wv h H).objs.size = h.objs.size:=PySem.W.hideAll_size _ _
theorem XF {h:Heap} {H:Hp} {b:Addr} {o:Obj} (e:h.get? b = some o) (n:H b = none):(Wv h H).get? b = some o :=
 PySem.W.hideAll_get _ e fun hm=>by
  have q:(H b).isSome = true:=(List.mem_filter.mp hm).2
  rw [n] at q; simp at q
theorem Vu {h:Heap} {H:Hp} {b:Addr} {o:Obj} (e:(Wv h H).get? b = some o):h.get? b = some o /\ H b = none:=by
 have e':h.get? b = some o:=PySem.W.of_hideAll (trk h H) e
 refine ⟨e',?_⟩
 cases q:H b with
 | none=>rfl
 | some x =>
  have hm:b ∈ trk h H:=List.mem_filter.mpr ⟨List.mem_range.mpr (Heap.lt_size e'),by simp [q]⟩
  have z:(Wv h H).get? b = none:=PySem.W.hideAll_none (trk h H) hm
  rw [z] at e; cases e
def Vt (g h:Heap) (L:Addr):List (Addr × Obj):=(List.range h.objs.size).filterMap fun a=>if a = L \/ (g.get? a).isSome = true then none else (h.get? a).map fun o=>(a,o)
def rest (g h:Heap) (L d:Addr):List (Addr × Obj):=(Vt g h L).filter fun p=>decide (p.1 ≠ d)
end L2
namespace L2
open PySem PySem.Spec PyProof.Rows
structure Mod (K:PySem.W.Frag) (mg:Str -> Option Value) (base:Heap):Prop where
 kin:K.In base
 glob:base.Ns mainGlobals mg
 blt:∃ mb,base.Ns builtinsNs mb /\ ∀ x:Str,x ≠ "__name__" -> mb x = bootBuiltins x
 nolimit:base.NoLimit
structure Cx where
 prog:Program
 w:World
 K:PySem.W.Frag
 mg:Str -> Option Value
 base:Heap
 A:Around
 N:List Str
 s₀:Shared
 H₀:Hp
 env:Env
 outer:List Env
 stack:List Env
 ex:List Addr
 fn:Str -> Bool
 calm:Bool
 pn:List (Addr × Obj)
 xe:Value -> Shared -> Prop
def frs (l:List Env):List Addr:=l.filterMap (·.frame)
abbrev Cx.fs (X:Cx):List Addr:=frs X.outer
def Vis (sc:Scope) (x:Str):Prop:=sc.names.lookup x = some .local \/ sc.names.lookup x = some .cell \/ sc.names.lookup x = some .free
def Loc (sc:Scope) (x:Str):Prop:=sc.names.lookup x = some .local \/ sc.names.lookup x = some .cell
def JO (env:Env) (h:Heap) (m:Str -> Option Value) (x:Str) (u:Value):Prop :=
 (env.kindOf x = some .local /\ m x = some u) \/ ((env.kindOf x = some .cell \/ env.kindOf x = some .free) /\ ∃ c,env.cells.lookup x = some c /\ h.IsCell c (some u))
structure Cx.Ok (X:Cx):Prop where
 mod:Mod X.K X.mg X.base
 kind:X.env.scope.kind = .function
 glob:X.env.globals = mainGlobals
 blt:X.env.builtins = builtinsNs
 above:X.s₀.heap.objs.size <= X.env.locals
 inj:∀ x y c,X.env.cells.lookup x = some c -> X.env.cells.lookup y = some c -> x = y
 has:∀ x,(X.env.kindOf x = some .cell \/ X.env.kindOf x = some .free) -> ∃ c,X.env.cells.lookup x = some c
 cab:∀ x c,X.fn x = true -> X.env.cells.lookup x = some c -> X.s₀.heap.objs.size <= c
 hd:X.calm = true -> X.A.handled = none
 frames:X.A.frames = some X.stack
 stk:X.stack = X.outer \/ (X.stack = X.env :: X.outer /\ X.env.frame = some X.env.locals)
 exf:∀ b ∈ X.ex,b ≠ X.env.locals /\ ∀ x c,X.env.cells.lookup x = some c -> c ≠ b
 bs:∀ b o,X.base.get? b = some o -> X.s₀.heap.get? b = some o /\ X.H₀ b = none
 bsz:X.base.objs.size <= X.s₀.heap.objs.size
 noex:∀ b o,X.base.get? b = some o -> b ∉ X.ex
 exfs:∀ b ∈ X.ex,b ∉ X.fs
 funs:X.s₀.heap.FunFrames X.base X.outer
 frf:∀ b ∈ X.fs,X.H₀ b = none
structure Inv (X:Cx) (pins:List (Addr × Obj)) (σ:List (Option V)) (H:Hp) (s:Shared):Prop where
 ok:X.Ok
 os:s.os = X.s₀.os
 bare:AllBare s.gens
 base:Un X.fs X.ex X.H₀ H X.s₀.heap s.heap
 loc:∃ m,s.heap.Ns X.env.locals m /\ ∀ (i:Nat) (x:Str) (v:V),X.N[i]? = some x -> σ[i]? = some (some v) -> Vis X.env.scope x -> ∃ u,RelV v u /\ JO X.env s.heap m x u
 cell:∀ x c,X.env.cells.lookup x = some c -> ∃ v,s.heap.IsCell c v
 free:H X.env.locals = none
 freeC:∀ x c,X.env.cells.lookup x = some c -> H c = none
 pin:∀ p ∈ X.pn ++ pins,s.heap.get? p.1 = some p.2 /\ H p.1 = none /\ p.1 ≠ X.env.locals /\ p.1 ∉ X.fs /\ ∀ v,p.2.data ≠ .cell v
 hok:HOk X.prog X.w H s.heap
 len:σ.length = X.N.length
section
variable {X:Cx} {pins:List (Addr × Obj)} {σ:List (Option V)} {H H':Hp} {s:Shared} {h':Heap}
theorem Cx.Ok.nofr (ok:X.Ok) {b:Addr} {o:Obj} (e:X.base.get? b = some o):b ∉ X.fs:=fun hb=>by
 have:=(ok.funs.mem hb).1
 rw [e] at this; cases this
theorem Inv.bs (I:Inv X pins σ H s):∀ b o,X.base.get? b = some o -> s.heap.get? b = some o /\ H b = none:=fun b o e =>
 ⟨I.base.keep b o (I.ok.bs b o e).1 (I.ok.bs b o e).2 (I.ok.nofr e) (I.ok.noex b o e),I.base.free b o (I.ok.bs b o e).1 (I.ok.bs b o e).2 (I.ok.noex b o e)⟩
theorem Inv.bk (I:Inv X pins σ H s):∀ b o,X.base.get? b = some o -> s.heap.get? b = some o:=fun b o e=>(I.bs b o e).1
theorem Inv.mod (I:Inv X pins σ H s):Mod X.K X.mg X.base:=I.ok.mod
theorem Inv.kIn (I:Inv X pins σ H s):X.K.In s.heap:=I.ok.mod.kin.keeps I.bk
theorem Inv.nolimit (I:Inv X pins σ H s):s.heap.NoLimit:=I.ok.mod.nolimit.keeps I.bk
theorem Inv.fr (I:Inv X pins σ H s):∃ m,Fr X.base X.env.locals s.heap m :=
 let ⟨m,hn,_⟩:=I.loc
 ⟨m,hn,I.bk,Nat.le_trans I.ok.bsz I.ok.above⟩
theorem Inv.lt (I:Inv X pins σ H s):X.env.locals < s.heap.objs.size:=let ⟨_,hn,_⟩:=I.loc; hn.lt
theorem Inv.sz (I:Inv X pins σ H s):X.s₀.heap.objs.size <= s.heap.objs.size:=Nat.le_trans I.ok.above (Nat.le_of_lt I.lt)
theorem Inv.nofs (I:Inv X pins σ H s) {a:Addr} (h:s.heap.objs.size <= a):a ∉ X.fs:=fun hb=>by
 obtain ⟨_,o,ho,_⟩:=I.ok.funs.mem hb
 exact absurd (Nat.lt_of_lt_of_le (Heap.lt_size ho) (Nat.le_trans I.sz h)) (Nat.lt_irrefl _)
theorem Inv.cne (I:Inv X pins σ H s):∀ x c,X.env.cells.lookup x = some c -> c ≠ X.env.locals:=fun x c e z=>by
 obtain ⟨v,o,ho,hd⟩:=I.cell x c e
 obtain ⟨m,⟨o',es,ep,ho',hd',_⟩,_⟩:=I.loc
 rw [z,ho'] at ho; cases ho; rw [hd'] at hd; cases hd
theorem Inv.funs (I:Inv X pins σ H s):s.heap.FunFrames X.base X.outer:=by
 have all:∀ (l:List Env),(∀ b ∈ frs l,b ∈ X.fs) -> X.s₀.heap.FunFrames X.base l -> s.heap.FunFrames X.base l:=by
  intro l
  induction l with
  | nil=>intro _ _; trivial
  | cons env r ih =>
   intro hs hl
   obtain ⟨hk,⟨L,o,hf,hn,ho,hd⟩,hr⟩:=hl
   have hL:L ∈ X.fs:=hs L (by unfold frs; rw [List.filterMap_cons,hf]; exact List.mem_cons_self)
   obtain ⟨sl,e⟩:=I.base.slot L o ho (I.ok.frf L hL) hL fun z=>I.ok.exfs L z hL
   exact ⟨hk,⟨L,_,hf,hn,e,hd⟩,ih (fun b hb=>hs b (by unfold frs; rw [List.filterMap_cons,hf]; exact List.mem_cons_of_mem _ hb)) hr⟩
 exact all X.outer (fun _ hb=>hb) I.ok.funs
theorem Inv.stack (I:Inv X pins σ H s):s.heap.FunFrames X.base X.stack:=by
 rcases I.ok.stk with e | ⟨e,hf⟩
 ·rw [e]; exact I.funs
 ·rw [e]
  obtain ⟨m,hn,_⟩:=I.loc
  refine .cons (by rw [I.ok.kind]; decide) hf hn ?_ I.funs
  exact Heap.get?_none_of_le (Nat.le_trans I.ok.bsz I.ok.above)
theorem Inv.stkSub (I:Inv X pins σ H s):∀ b ∈ frs X.stack,b ∈ X.env.locals :: X.fs:=fun b hb=>by
 rcases I.ok.stk with e | ⟨e,hf⟩
 ·rw [e] at hb; exact List.mem_cons_of_mem _ hb
 ·rw [e] at hb
  unfold frs at hb
  rw [List.filterMap_cons,hf] at hb
  exact hb
theorem Inv.stkFree (I:Inv X pins σ H s):∀ b ∈ frs X.stack,H b = none:=fun b hb=>by
 rcases List.mem_cons.mp (I.stkSub b hb) with e | hb
 ·rw [e]; exact I.free
 ·obtain ⟨_,o,ho,_⟩:=I.ok.funs.mem hb
  exact I.base.free b o ho (I.ok.frf b hb) fun z=>I.ok.exfs b z hb
theorem Inv.step {g':Array GenState} {t':Nat} {d':Drawn} {ch:List Addr} (I:Inv X pins σ H s)
  (hch:∀ b ∈ ch,(b ∈ X.ex \/ X.s₀.heap.objs.size <= b) /\ b ≠ X.env.locals /\ (∀ x c,X.env.cells.lookup x = some c -> c ≠ b) /\ ∀ p ∈ X.pn ++ pins,p.1 ≠ b)
  (keep:∀ b o,b ≠ X.env.locals -> b ∉ X.fs -> b ∉ ch -> s.heap.get? b = some o -> H b = none -> h'.get? b = some o)
  (slot:∀ b o,b ≠ X.env.locals -> b ∈ X.fs -> b ∉ ch -> s.heap.get? b = some o -> H b = none -> ∃ sl,h'.get? b = some { o with slots:=sl }) (free:∀ b o,b ∉ ch -> s.heap.get? b = some o -> H b = none -> H' b = none)
  (there:∀ b o,b ∉ ch -> s.heap.get? b = some o -> ∃ o',h'.get? b = some o')
  (tups:∀ b xs,H b = some (.tup xs) -> H' b = some (.tup xs)) (frzs:∀ b o u,H b = some (.frz o u) -> H' b = some (.frz o u)) (tbls:∀ b ps,H b = some (.tbl ps) -> ∃ more,H' b = some (.tbl (ps ++ more)))
  (ns:∀ m,s.heap.Ns X.env.locals m -> h'.Ns X.env.locals m) (hok:HOk X.prog X.w H' h') (hg:AllBare g') :
  Inv X pins σ H' { s with heap:=h',gens:=g',drawn:=d',toks:=t' }:=by
 have neL:∀ b o,X.s₀.heap.get? b = some o -> b ≠ X.env.locals:=fun b o e=>Nat.ne_of_lt (Nat.lt_of_lt_of_le (Heap.lt_size e) I.ok.above)
 have neC:∀ b o,X.s₀.heap.get? b = some o -> b ∉ X.ex -> b ∉ ch:=fun b o e hx hb=>by
  rcases (hch b hb).1 with z | z
  ·exact hx z
  ·exact absurd (Nat.lt_of_lt_of_le (Heap.lt_size e) z) (Nat.lt_irrefl _)
 have cellK:∀ x c,X.env.cells.lookup x = some c -> ∀ v,s.heap.IsCell c v -> h'.IsCell c v:=fun x c e v ⟨o,ho,hd⟩=>by
  have nch:c ∉ ch:=fun z=>(hch c z).2.2.1 x c e rfl
  by_cases hc:c ∈ X.fs
  ·obtain ⟨sl,q⟩:=slot c o (I.cne x c e) hc nch ho (I.freeC x c e)
   exact ⟨_,q,hd⟩
  ·exact ⟨o,keep c o (I.cne x c e) hc nch ho (I.freeC x c e),hd⟩
 refine ⟨I.ok,I.os,hg,⟨fun b o e n hb hx=>?_,fun b o e n hb hx=>?_,fun b o e n hx=>?_,fun b o e hx=>?_,fun b xs e=>tups b xs (I.base.tups b xs e),fun b o xs e=>frzs b o xs (I.base.frzs b o xs e),fun b ps e=>?_⟩,?_,fun x c e=>?_,?_,fun x c e=>?_,fun p hp=>?_,hok,I.len⟩
 ·exact keep b o (neL b o e) hb (neC b o e hx) (I.base.keep b o e n hb hx) (I.base.free b o e n hx)
 ·obtain ⟨sl,e1⟩:=I.base.slot b o e n hb hx
  obtain ⟨sl',e2⟩:=slot b _ (neL b o e) hb (neC b o e hx) e1 (I.base.free b o e n hx)
  exact ⟨sl',e2⟩
 ·obtain ⟨o',e1⟩:=I.base.there b o e hx
  exact free b o' (neC b o e hx) e1 (I.base.free b o e n hx)
 ·obtain ⟨o',e1⟩:=I.base.there b o e hx
  exact there b o' (neC b o e hx) e1
 ·obtain ⟨m1,e1⟩:=I.base.tbls b ps e
  obtain ⟨m2,e2⟩:=tbls b _ e1
  exact ⟨m1 ++ m2,by rw [e2,Array.append_assoc]⟩
 ·obtain ⟨m,hn,hl⟩:=I.loc
  refine ⟨m,ns m hn,fun i x v e1 e2 e3=>?_⟩
  obtain ⟨u,r,l⟩:=hl i x v e1 e2 e3
  refine ⟨u,r,?_⟩
  rcases l with l | ⟨k,c,e,z⟩
  ·exact .inl l
  ·exact .inr ⟨k,c,e,cellK x c e _ z⟩
 ·obtain ⟨v,z⟩:=I.cell x c e
  exact ⟨v,cellK x c e v z⟩
 ·obtain ⟨m,⟨o,_,_,ho,_⟩,_⟩:=I.loc
  exact free _ o (fun z=>(hch _ z).2.1 rfl) ho I.free
 ·obtain ⟨v,o,ho,hd⟩:=I.cell x c e
  exact free c o (fun z=>(hch c z).2.2.1 x c e rfl) ho (I.freeC x c e)
 ·obtain ⟨e,n,ne,nf,d⟩:=I.pin p hp
  have nch:p.1 ∉ ch:=fun z=>(hch p.1 z).2.2.2 p hp rfl
  exact ⟨keep p.1 p.2 ne nf nch e n,free p.1 p.2 nch e n,ne,nf,d⟩
theorem Inv.un {t':Nat} (I:Inv X pins σ H s) (u:Un X.fs [] H H' s.heap h') (hok:HOk X.prog X.w H' h'):Inv X pins σ H' { s with heap:=h',toks:=t' }:=by
 obtain ⟨m,⟨o,es,ep,ho,r⟩,_⟩:=id I.loc
 obtain ⟨sl,hL⟩:=u.any ho I.free (by simp)
 exact I.step (g':=s.gens) (d':=s.drawn) (ch:=[]) (fun _ z=>nomatch z) (fun b o _ hb _ e n=>u.keep b o e n hb (by simp)) (fun b o _ hb _ e n=>u.slot b o e n hb (by simp)) (fun b o _ e n=>u.free b o e n (by simp)) (fun b o _ e=>u.there b o e (by simp)) u.tups u.frzs u.tbls (fun m' hm=>by
  obtain ⟨o',es',ep',ho',r'⟩:=hm
  rw [ho] at ho'; cases ho'
  exact ⟨_,es',ep',hL,r'⟩) hok I.bare
theorem Inv.call {g':Array GenState} {t':Nat} {d':Drawn} {ch:List Addr} (I:Inv X pins σ H s) (u:Un (frs X.stack) ch H H' s.heap h') (hok:HOk X.prog X.w H' h') (hg:AllBare g')
  (hch:∀ b ∈ ch,(b ∈ X.ex \/ X.s₀.heap.objs.size <= b) /\ b ≠ X.env.locals /\ (∀ x c,X.env.cells.lookup x = some c -> c ≠ b) /\ ∀ p ∈ X.pn ++ pins,p.1 ≠ b) :
  Inv X pins σ H' { s with heap:=h',gens:=g',drawn:=d',toks:=t' }:=by
 obtain ⟨m,⟨o,es,ep,ho,r⟩,_⟩:=id I.loc
 obtain ⟨sl,hL⟩:=u.any ho I.free fun z=>(hch _ z).2.1 rfl
 exact I.step (ch:=ch) hch (fun b o hL hb hc e n=>u.keep b o e n (fun z=>(List.mem_cons.mp (I.stkSub b z)).elim hL hb) hc) (fun b o _ _ hc e n=>u.any e n hc) (fun b o hc e n=>u.free b o e n hc) (fun b o hc e=>u.there b o e hc) u.tups u.frzs u.tbls (fun m' hm=>by
  obtain ⟨o',es',ep',ho',r'⟩:=hm
  rw [ho] at ho'; cases ho'
  exact ⟨_,es',ep',hL,r'⟩) hok hg
theorem Inv.turned {t':Nat} {it:Addr} (I:Inv X pins σ H s) (k:∀ b o,b ≠ it -> s.heap.get? b = some o -> h'.get? b = some o) (hn:H it = none) (hL:it ≠ X.env.locals)
  (h1:it ∈ X.ex \/ X.s₀.heap.objs.size <= it) (h2:∀ x c,X.env.cells.lookup x = some c -> c ≠ it) (h3:∀ p ∈ X.pn ++ pins,p.1 ≠ it):Inv X pins σ H { s with heap:=h',toks:=t' }:=by
 have nit:∀ b u,H b = some u -> b ≠ it:=fun b u e z=>by rw [z,hn] at e; cases e
 refine I.step (g':=s.gens) (d':=s.drawn) (ch:=[it]) (fun b hb=>?_) (fun b o _ _ hc e _=>k b o (fun z=>hc (by simp [z])) e) (fun b o _ _ hc e _=>⟨o.slots,k b o (fun z=>hc (by simp [z])) e⟩) (fun _ _ _ _ n=>n)
  (fun b o hc e=>⟨o,k b o (fun z=>hc (by simp [z])) e⟩) (fun _ _ e=>e) (fun _ _ _ e=>e) (fun b ps e=>⟨#[],by rw [e]; simp⟩) (fun m hm=>?_) (fun b u e=>?_) I.bare
 ·have e:b = it:=by simpa using hb
  subst e
  exact ⟨h1,hL,h2,h3⟩
 ·obtain ⟨o,es,ep,ho,r⟩:=hm
  exact ⟨o,es,ep,k _ o (Ne.symm hL) ho,r⟩
 ·refine (I.hok b u e).stay (fun c v hc q=>k c v ?_ q) (fun _ q=>q) fun _ _ q=>q
  rcases hc with z | z
  ·rw [z]; exact nit b u e
  ·exact nit c _ z
theorem Inv.tok (I:Inv X pins σ H s) (t:Nat):Inv X pins σ H { s with toks:=t }:=I.un (h':=s.heap) (t':=t) Un.refl I.hok
theorem Inv.kept {t':Nat} (I:Inv X pins σ H s) (k:∀ b u,s.heap.get? b = some u -> h'.get? b = some u):Inv X pins σ H { s with heap:=h',toks:=t' }:=I.un (Un.kept k) (I.hok.kept k)
theorem Inv.laid {a:Addr} {o:HO} {t':Nat} (I:Inv X pins σ H s) (k:∀ b u,s.heap.get? b = some u -> h'.get? b = some u) (hp:s.heap.objs.size <= a) (new:ObjOk X.prog X.w (upd H a o) h' a o) :
  Inv X pins σ (upd H a o) { s with heap:=h',toks:=t' }:=I.un (Un.laid k hp (I.hok.fresh hp)) (I.hok.laid k hp new)
theorem Inv.write {x e:Addr} {o:HO} {t':Nat} (I:Inv X pins σ H s) (mu:Mut (H x)) (he:e = x \/ H e = some (.own x)) (k:∀ b u,b ≠ e -> s.heap.get? b = some u -> h'.get? b = some u) (heo:∃ u,h'.get? e = some u)
  (new:ObjOk X.prog X.w (upd H x o) h' x o):Inv X pins σ (upd H x o) { s with heap:=h',toks:=t' }:=I.un (Un.write mu he k heo) (I.hok.write mu he k heo new)
theorem Inv.weak {σ':List (Option V)} (I:Inv X pins σ H s) (hl:σ'.length = σ.length) (w:∀ (i:Nat) v,σ'[i]? = some (some v) -> σ[i]? = some (some v)):Inv X pins σ' H s :=
 ⟨I.ok,I.os,I.bare,I.base,let ⟨m,hn,hl'⟩:=I.loc; ⟨m,hn,fun i x v e1 e2 e3=>hl' i x v e1 (w i v e2) e3⟩,I.cell,I.free,I.freeC,I.pin,I.hok,hl.trans I.len⟩
theorem Inv.pins_of {pins':List (Addr × Obj)} (I:Inv X pins σ H s) (h:∀ p ∈ pins',s.heap.get? p.1 = some p.2 /\ H p.1 = none /\ p.1 ≠ X.env.locals /\ p.1 ∉ X.fs /\ ∀ v,p.2.data ≠ .cell v):Inv X pins' σ H s :=
 ⟨I.ok,I.os,I.bare,I.base,I.loc,I.cell,I.free,I.freeC,fun p hp=>(List.mem_append.mp hp).elim (fun z=>I.pin p (List.mem_append_left _ z)) (h p),I.hok,I.len⟩
theorem qD {N:List Str} (hN:N.Nodup) {i j:Nat} {x:Str} (a:N[i]? = some x) (b:N[j]? = some x):i = j:=by
 obtain ⟨h1,e1⟩:=List.getElem?_eq_some_iff.mp a
 obtain ⟨h2,e2⟩:=List.getElem?_eq_some_iff.mp b
 exact (List.getElem_inj hN).mp (e1.trans e2.symm)
theorem ji {M:Model} {A:Around} {E:Value -> Shared -> Prop} {i:Nat} {x:Str} {v:V} {u:Value} {Q:Unit -> Shared -> Prop} (I:Inv X pins σ H s) (hN:X.N.Nodup) (hi:X.N[i]? = some x) (hx:Loc X.env.scope x) (r:RelV v u)
  (h:∀ s',Inv X pins (σ.set i (some v)) H s' -> (∃ a,Heap.SameBut a s.heap s'.heap /\ (a = X.env.locals \/ X.env.cells.lookup x = some a)) -> Q () s') (hf:X.fn x = true \/ X.env.scope.names.lookup x = some .local:=by first | exact .inl rfl | exact .inr rfl | assumption):wpAny M A (storeName X.env x u) Q E s:=by
 obtain ⟨m,hn,hl⟩:=id I.loc
 have hcls:(X.env.scope.kind == .class || (X.env.scope.kind == .module && X.env.locals != X.env.globals)) = false:=by rw [I.ok.kind]; rfl
 have hiσ:i < σ.length:=by rw [I.len]; exact (List.getElem?_eq_some_iff.mp hi).1
 have cne:=I.cne
 have tracked:∀ {a:Addr} {h':Heap},(∃ o,s.heap.get? a = some o /\ H a = none) -> Heap.SameBut a s.heap h' -> HOk X.prog X.w H h':=fun {a h'} ha hs b ob e=>by
  obtain ⟨_,_,hfree⟩:=ha
  refine (I.hok b ob e).stay (fun c w' hc q=>(hs.2 c ?_).trans q) (fun _ q=>q) fun _ _ q=>q
  rintro rfl
  rcases hc with rfl | hc
  ·rw [hfree] at e; cases e
  ·rw [hfree] at hc; cases hc
 rcases hx with hk | hk
 ·refine wpAny_storeName_local hk hn (fun h' hn' hs=>?_) hcls
  obtain ⟨oL,_,_,hoL,_⟩:=id hn
  refine h _ ⟨I.ok,I.os,I.bare,⟨fun b o e n hb hx=>?_,fun b o e n hb hx=>?_,I.base.free,fun b o e hx=>?_,I.base.tups,I.base.frzs,I.base.tbls⟩,⟨_,hn',fun j y v' e1 e2 e3=>?_⟩,fun y c e=>?_,I.free,I.freeC,fun p hp=>?_,tracked ⟨oL,hoL,I.free⟩ hs,by simpa using I.len⟩ ⟨_,hs,.inl rfl⟩
  ·exact (hs.2 b (Nat.ne_of_lt (Nat.lt_of_lt_of_le (Heap.lt_size e) I.ok.above))).trans (I.base.keep b o e n hb hx)
  ·obtain ⟨sl,e1⟩:=I.base.slot b o e n hb hx
   exact ⟨sl,(hs.2 b (Nat.ne_of_lt (Nat.lt_of_lt_of_le (Heap.lt_size e) I.ok.above))).trans e1⟩
  ·obtain ⟨o',e1⟩:=I.base.there b o e hx
   exact ⟨o',(hs.2 b (Nat.ne_of_lt (Nat.lt_of_lt_of_le (Heap.lt_size e) I.ok.above))).trans e1⟩
  ·by_cases hj:j = i
   ·subst hj
    rw [hi] at e1; cases e1
    rw [List.getElem?_set_self hiσ] at e2
    cases e2
    exact ⟨u,r,.inl ⟨hk,by simp⟩⟩
   ·rw [List.getElem?_set_ne (Ne.symm hj)] at e2
    obtain ⟨u',r',q⟩:=hl j y v' e1 e2 e3
    refine ⟨u',r',?_⟩
    rcases q with ⟨k,e⟩ | ⟨k,c,e,z⟩
    ·refine .inl ⟨k,?_⟩
     have:y ≠ x:=fun e=>hj (qD hN e1 (e ▸ hi))
     simp [this,e]
    ·exact .inr ⟨k,c,e,z.sameBut hs (cne y c e)⟩
  ·obtain ⟨w',z⟩:=I.cell y c e
   exact ⟨w',z.sameBut hs (cne y c e)⟩
  ·obtain ⟨e,n,ne,nf,d⟩:=I.pin p hp
   exact ⟨(hs.2 p.1 ne).trans e,n,ne,nf,d⟩
 ·have hfn:X.fn x = true:=by
   rcases hf with z | z
   ·exact z
   ·rw [z] at hk; cases hk
  obtain ⟨c,hc⟩:=I.ok.has x (.inl hk)
  obtain ⟨w',z⟩:=I.cell x c hc
  refine wpAny_storeName_cell I.ok.kind hk hc z (fun h' hc' hs=>?_)
  obtain ⟨oc,hoc,hocd⟩:=id z
  refine h { s with heap:=h' } ⟨I.ok,I.os,I.bare,⟨fun b o e n hb hx=>?_,fun b o e n hb hx=>?_,I.base.free,fun b o e hx=>?_,I.base.tups,I.base.frzs,I.base.tbls⟩,⟨m,hn.sameBut hs (Ne.symm (cne x c hc)),fun j y v' e1 e2 e3=>?_⟩,fun y c' e=>?_,I.free,I.freeC,fun p hp=>?_,tracked ⟨oc,hoc,I.freeC x c hc⟩ hs,by simpa using I.len⟩ ⟨c,hs,.inr hc⟩
  ·exact (hs.2 b (Nat.ne_of_lt (Nat.lt_of_lt_of_le (Heap.lt_size e) (I.ok.cab x c hfn hc)))).trans (I.base.keep b o e n hb hx)
  ·obtain ⟨sl,e1⟩:=I.base.slot b o e n hb hx
   exact ⟨sl,(hs.2 b (Nat.ne_of_lt (Nat.lt_of_lt_of_le (Heap.lt_size e) (I.ok.cab x c hfn hc)))).trans e1⟩
  ·obtain ⟨o',e1⟩:=I.base.there b o e hx
   exact ⟨o',(hs.2 b (Nat.ne_of_lt (Nat.lt_of_lt_of_le (Heap.lt_size e) (I.ok.cab x c hfn hc)))).trans e1⟩
  ·by_cases hj:j = i
   ·subst hj
    rw [hi] at e1; cases e1
    rw [List.getElem?_set_self hiσ] at e2
    cases e2
    exact ⟨u,r,.inr ⟨.inl hk,c,hc,hc'⟩⟩
   ·rw [List.getElem?_set_ne (Ne.symm hj)] at e2
    obtain ⟨u',r',q⟩:=hl j y v' e1 e2 e3
    refine ⟨u',r',?_⟩
    rcases q with q | ⟨k,c',e,z'⟩
    ·exact .inl q
    ·refine .inr ⟨k,c',e,z'.sameBut hs ?_⟩
     rintro rfl
     exact hj (qD hN e1 (I.ok.inj _ _ _ e hc ▸ hi))
  ·by_cases hcc:c' = c
   ·subst hcc; exact ⟨_,hc'⟩
   ·obtain ⟨w2,z2⟩:=I.cell y c' e
    exact ⟨w2,z2.sameBut hs hcc⟩
  ·obtain ⟨e,n,ne,nf,d⟩:=I.pin p hp
   refine ⟨(hs.2 p.1 ?_).trans e,n,ne,nf,d⟩
   intro q
   rw [q,hoc] at e
   have q':oc = p.2:=Option.some.inj e
   exact d w' (by rw [<- q']; exact hocd)
theorem vJ {M:Model} {A:Around} {E:Value -> Shared -> Prop} {i:Nat} {x:Str} {v:V} {u:Value} {Q:Unit -> Shared -> Prop} (I:Inv X pins σ H s) (hN:X.N.Nodup) (hi:X.N[i]? = some x) (hx:Loc X.env.scope x) (r:RelV v u)
  (h:∀ s',Inv X pins (σ.set i (some v)) H s' -> Q () s') (hf:X.fn x = true \/ X.env.scope.names.lookup x = some .local:=by first | exact .inl rfl | exact .inr rfl | assumption):wpAny M A (storeName X.env x u) Q E s :=
 ji I hN hi hx r (fun s' I' _=>h s' I') hf
theorem Inv.call' {s':Shared} {ch:List Addr} (I:Inv X pins σ H s) (ho:s'.os = s.os) (u:Un (frs X.stack) ch H H' s.heap s'.heap) (hok:HOk X.prog X.w H' s'.heap) (hg:AllBare s'.gens)
  (hch:∀ b ∈ ch,(b ∈ X.ex \/ X.s₀.heap.objs.size <= b) /\ b ≠ X.env.locals /\ (∀ x c,X.env.cells.lookup x = some c -> c ≠ b) /\ ∀ p ∈ X.pn ++ pins,p.1 ≠ b):Inv X pins σ H' s':=by
 obtain ⟨h',g',d',t',o'⟩:=s'
 have e:o' = s.os:=ho
 subst e
 exact I.call (g':=g') (t':=t') (d':=d') u hok hg hch
end
abbrev XK:=Value -> Option Addr -> Hp -> Prop
abbrev St:=List (Option V)
abbrev VK:=V -> Hp -> Prop
abbrev TE:=St -> Hp -> VK -> Prop
abbrev TT:=St -> Hp -> (Bool -> Hp -> Prop) -> Prop
abbrev TA:=St -> Hp -> (List V -> Hp -> Prop) -> Prop
structure xg where
 nx:St -> Hp -> Prop
 rt:VK
 bk:St -> Hp -> Prop:=fun _ _=>False
 ct:St -> Hp -> Prop:=fun _ _=>False
abbrev TS:=xg -> St -> Hp -> Prop
def EP (X:Cx) (pins:List (Addr × Obj)) (σ:St) (Q:VK) (u:Value) (s':Shared):Prop:=∃ v H',Inv X pins σ H' s' /\ RelV v u /\ Q v H'
def TP (X:Cx) (pins:List (Addr × Obj)) (σ:St) (Q:Bool -> Hp -> Prop) (b:Bool) (s':Shared):Prop:=∃ H',Inv X pins σ H' s' /\ Q b H'
def AP (X:Cx) (pins:List (Addr × Obj)) (σ:St) (Q:List V -> Hp -> Prop) (us:List Value) (s':Shared):Prop:=∃ vs H',Inv X pins σ H' s' /\ Vals vs us /\ Q vs H'
def SP (X:Cx) (pins:List (Addr × Obj)) (D:xg) (f:Flow) (s':Shared):Prop :=
 match f with
 | .next=>∃ σ' H',Inv X pins σ' H' s' /\ D.nx σ' H'
 | .brk=>∃ σ' H',Inv X pins σ' H' s' /\ D.bk σ' H'
 | .cont=>∃ σ' H',Inv X pins σ' H' s' /\ D.ct σ' H'
 | .ret u=>∃ v σ' H',Inv X pins σ' H' s' /\ RelV v u /\ D.rt v H'
def PE (X:Cx) (e:Expr) (t:TE):Prop :=
 ∀ (pins:List (Addr × Obj)) (s:Shared) (σ:St) (H:Hp) (Q:VK),Inv X pins σ H s -> t σ H Q -> wpAny (model X.prog X.w) X.A (eval e X.env) (EP X pins σ Q) X.xe s
def PT (X:Cx) (e:Expr) (t:TT):Prop :=
 ∀ (pins:List (Addr × Obj)) (s:Shared) (σ:St) (H:Hp) (Q:Bool -> Hp -> Prop),Inv X pins σ H s -> t σ H Q -> wpAny (model X.prog X.w) X.A (isTrue e X.env (eval e X.env)) (TP X pins σ Q) X.xe s
def PW (X:Cx) (e:Expr) (t:TT):Prop :=
 ∀ (whole:Sem Value) (pins:List (Addr × Obj)) (s:Shared) (σ:St) (H:Hp) (Q:Bool -> Hp -> Prop),Inv X pins σ H s -> t σ H Q -> wpAny (model X.prog X.w) X.A (isTrue e X.env whole) (TP X pins σ Q) X.xe s
theorem PW.pt {X:Cx} {e:Expr} {t:TT} (h:PW X e t):PT X e t:=h _
def PA (X:Cx) (es:List Expr) (t:TA):Prop :=
 ∀ (pos:Pos) (pins:List (Addr × Obj)) (s:Shared) (σ:St) (H:Hp) (Q:List V -> Hp -> Prop),Inv X pins σ H s -> t σ H Q -> wpAny (model X.prog X.w) X.A (spliced (backTo pos (starEach es X.env))) (AP X pins σ Q) X.xe s
def PS (X:Cx) (st:Stmt) (t:TS):Prop :=
 ∀ (pins:List (Addr × Obj)) (s:Shared) (σ:St) (H:Hp) (D:xg),Inv X pins σ H s -> t D σ H -> wpAny (model X.prog X.w) X.A (exec st X.env) (SP X pins D) X.xe s
def PSs (X:Cx) (st:List Stmt) (t:TS):Prop :=
 ∀ (pins:List (Addr × Obj)) (s:Shared) (σ:St) (H:Hp) (D:xg),Inv X pins σ H s -> t D σ H -> wpAny (model X.prog X.w) X.A (execs st X.env) (SP X pins D) X.xe s
theorem thn {α:Type} {t:Sem α} {Q Q':α -> Shared -> Prop} {M:Model} {A:Around} {E:Value -> Shared -> Prop} {s:Shared} (h:wpAny M A t Q E s) (hQ:∀ a s,Q a s -> Q' a s):wpAny M A t Q' E s:=wpAny_mono h hQ fun _ _ x=>x
end L2
namespace L2
open PySem PySem.Spec PyProof.Rows
section
variable {X:Cx}
theorem bin {a b:Expr} {ta tb:TE} (ha:PE X a ta) (hb:PE X b tb) {pins:List (Addr × Obj)} {s:Shared} {σ:St} {H:Hp} {R:V -> V -> Hp -> Prop} (I:Inv X pins σ H s) (h:ta σ H fun x H1=>tb σ H1 fun y H2=>R x y H2)
  {α:Type} {Q:α -> Shared -> Prop} {f:Value -> Value -> Sem α}
  (hf:∀ v u s2 x y H2,Inv X pins σ H2 s2 -> RelV x v -> RelV y u -> R x y H2 -> wpAny (model X.prog X.w) X.A (f v u) Q X.xe s2) :
  wpAny (model X.prog X.w) X.A (eval a X.env) (fun v s₁=>wpAny (model X.prog X.w) X.A (eval b X.env) (fun u s₂=>wpAny (model X.prog X.w) X.A (f v u) Q X.xe s₂) X.xe s₁) X.xe s:=by
 refine thn (ha pins s σ H _ I h) fun v s1 ⟨x,H1,I1,r1,q1⟩=>?_
 refine thn (hb pins s1 σ H1 _ I1 q1) fun u s2 ⟨y,H2,I2,r2,q2⟩=>?_
 exact hf v u s2 x y H2 I2 r1 r2 q2
def xh (i:Nat):TE:=fun σ H Q=>∃ v,σ[i]? = some (some v) /\ Q v H
def tC (v:V):TE:=fun _ H Q=>Q v H
theorem VR {i:Nat} {x:Str} {pos:Pos} (hN:X.N[i]? = some x) (hv:Vis X.env.scope x) (hd:(x == ("__debug__" : Str)) = false:=by decide) (hcd:(x == ("__classdict__" : Str)) = false:=by decide):PE X (.Name x pos) (xh i):=by
 intro pins s σ H Q I h
 obtain ⟨v,e,h⟩:=h
 obtain ⟨m,hn,hl⟩:=I.loc
 obtain ⟨u,r,l⟩:=hl i x v hN e hv
 have fin:EP X pins σ Q u s:=⟨v,H,I,r,h⟩
 rcases l with ⟨hk,hm⟩ | ⟨hk,c,hc,hcell⟩
 ·exact wpAny_Name (wpAny_loadName_local I.ok.kind hk hn hm fin) hd
 ·rcases hk with hk | hk
  ·exact wpAny_Name (wpAny_loadName_cell I.ok.kind hk hc hcell fin) hd
  ·exact wpAny_Name (wpAny_loadName_free I.ok.kind hk hc hcell fin hcd) hd
theorem zg {i j pos}:PE X (.Constant (.int i) j pos) (tC (.int i)):=fun _ _ _ H _ I h=>wpAny_Constant_int ⟨.int i,H,I.tok _,⟨_,rfl⟩,h⟩
theorem wx {b j pos}:PE X (.Constant (.bool b) j pos) (tC (.bl b)):=fun _ _ _ H _ I h=>Constant_bool ⟨.bl b,H,I,rfl,h⟩
theorem wC {j pos}:PE X (.Constant .none j pos) (tC .non):=fun _ _ _ H _ I h=>Constant_none ⟨.non,H,I,rfl,h⟩
theorem yK {x j pos}:PE X (.Constant (.str x) j pos) (tC (.str x)):=fun _ _ _ H _ I h=>Calls.Constant_str ⟨.str x,H,I.tok _,⟨_,rfl⟩,h⟩
def Gl (X:Cx) (x:Str):Prop:=X.env.kindOf x = some .globalImplicit
theorem wk {E:Value -> Shared -> Prop} {pins:List (Addr × Obj)} {s:Shared} {σ:St} {H:Hp} {x:Str} {u:Value} {pos:Pos} {Q:Value -> Shared -> Prop} (I:Inv X pins σ H s) (hg:Gl X x) (hm:X.mg x = some u) (h:Q u s)
  (hd:(x == ("__debug__" : Str)) = false:=by decide):wpAny (model X.prog X.w) X.A (eval (.Name x pos) X.env) Q E s :=
 Calls.Name_function_global I.ok.kind hg (Calls.loadGlobal_global (by rw [I.ok.glob]; exact I.mod.glob.keeps I.bk) hm h) hd
theorem um {E:Value -> Shared -> Prop} {pins:List (Addr × Obj)} {s:Shared} {σ:St} {H:Hp} {x:Str} {u:Value} {pos:Pos} {Q:Value -> Shared -> Prop} (I:Inv X pins σ H s) (hg:Gl X x) (hm:X.mg x = none) (hv:bootBuiltins x = some u) (h:Q u s)
  (hn:x ≠ "__name__":=by decide) (hd:(x == ("__debug__" : Str)) = false:=by decide):wpAny (model X.prog X.w) X.A (eval (.Name x pos) X.env) Q E s:=by
 obtain ⟨mb,h1,h2⟩:=I.mod.blt
 exact Calls.Name_function_global I.ok.kind hg (Calls.loadGlobal_builtin (by rw [I.ok.glob]; exact I.mod.glob.keeps I.bk) hm (by rw [I.ok.blt]; exact h1.keeps I.bk) ((h2 x hn).trans hv) h) hd
theorem wY {x:Str} {v:V} {u:Value} {pos:Pos} (hg:Gl X x) (hm:X.mg x = some u) (r:RelV v u) (hd:(x == ("__debug__" : Str)) = false:=by decide):PE X (.Name x pos) (tC v) :=
 fun _ _ _ H _ I h=>wk I hg hm ⟨v,H,I,r,h⟩ hd
theorem WY {x:Str} {v:V} {u:Value} {pos:Pos} (hg:Gl X x) (hm:X.mg x = none) (hv:bootBuiltins x = some u) (r:RelV v u) (hn:x ≠ "__name__":=by decide) (hd:(x == ("__debug__" : Str)) = false:=by decide):PE X (.Name x pos) (tC v) :=
 fun _ _ _ H _ I h=>um I hg hm hv ⟨v,H,I,r,h⟩ hn hd
variable {a b:Expr} {ta tb:TE} {pos:Pos}
variable {tA tB':TT} {rest:List Expr}
def Q9 (t u:TT):TT:=fun σ H Q=>t σ H fun c H1=>if c = true then u σ H1 Q else Q false H1
def tOr (t u:TT):TT:=fun σ H Q=>t σ H fun c H1=>if c = true then Q true H1 else u σ H1 Q
def Jt (t:TT):TT:=fun σ H Q=>t σ H fun c H1=>Q (!c) H1
theorem Ym (ha:PT X a tA):PW X (.BoolOp .And [a] pos) tA:=by
 intro wh pins s σ H Q I h
 refine isTrue_and (thn (ha pins s σ H Q I h) fun c s1 e=>?_)
 cases c with
 | true=>exact isTrue_and_nil e
 | false=>exact e
theorem jk (ha:PT X a tA):PW X (.BoolOp .Or [a] pos) tA:=by
 intro wh pins s σ H Q I h
 refine isTrue_or (thn (ha pins s σ H Q I h) fun c s1 e=>?_)
 cases c with
 | false=>exact isTrue_or_nil e
 | true=>exact e
theorem Xe (ha:PT X a tA) (hb:PW X (.BoolOp .And (b :: rest) pos) tB'):PW X (.BoolOp .And (a :: b :: rest) pos) (Q9 tA tB'):=by
 intro wh pins s σ H Q I h
 refine isTrue_and (thn (ha pins s σ H _ I h) fun c s1 ⟨H1,I1,q1⟩=>?_)
 cases c with
 | true=>exact hb wh pins s1 σ H1 Q I1 q1
 | false=>exact ⟨H1,I1,q1⟩
theorem Zm (ha:PT X a tA) (hb:PW X (.BoolOp .Or (b :: rest) pos) tB'):PW X (.BoolOp .Or (a :: b :: rest) pos) (tOr tA tB'):=by
 intro wh pins s σ H Q I h
 refine isTrue_or (thn (ha pins s σ H _ I h) fun c s1 ⟨H1,I1,q1⟩=>?_)
 cases c with
 | true=>exact ⟨H1,I1,q1⟩
 | false=>exact hb wh pins s1 σ H1 Q I1 q1
theorem yU (ha:PT X a tA):PT X (.UnaryOp .Not a pos) (Jt tA):=by
 intro pins s σ H Q I h
 exact isTrue_not (ha pins s σ H (fun c H1=>Q (!c) H1) I h)
def WT (ta tb:TE):TE:=fun σ H Q=>ta σ H fun x H1=>∃ c,x = .bl c /\ if c = true then tb σ H1 Q else Q (.bl false) H1
def J7 (ta tb:TE):TE:=fun σ H Q=>ta σ H fun x H1=>∃ c,x = .bl c /\ if c = true then Q (.bl true) H1 else tb σ H1 Q
def X6 (ta:TE):TE:=fun σ H Q=>ta σ H fun x H1=>∃ c,x = .bl c /\ Q (.bl (!c)) H1
theorem Uc {op} {t:TE} (h:PE X a t):PE X (.BoolOp op [a] pos) t:=fun pins s σ H Q I hw=>BoolOp_one (h pins s σ H Q I hw)
theorem V4 (ha:PE X a ta) (hb:PE X (.BoolOp .And (b :: rest) pos) tb):PE X (.BoolOp .And (a :: b :: rest) pos) (WT ta tb):=by
 intro pins s σ H Q I h
 refine BoolOp_and (thn (ha pins s σ H _ I h) fun v s1 ⟨x,H1,I1,r1,q1⟩=>?_)
 obtain ⟨c,rfl,q1⟩:=q1
 cases r1
 refine wpAny_truthy_bool ?_
 cases c with
 | true=>exact hb pins s1 σ H1 Q I1 q1
 | false=>exact ⟨.bl false,H1,I1,rfl,q1⟩
theorem Wy (ha:PE X a ta):PE X (.UnaryOp .Not a pos) (X6 ta):=by
 intro pins s σ H Q I h
 refine UnaryOp_ (thn (ha pins s σ H _ I h) fun v s1 ⟨x,H1,I1,r1,q1⟩=>?_)
 obtain ⟨c,rfl,q1⟩:=q1
 cases r1
 exact not_of (wpAny_truthy_bool ⟨.bl (!c),H1,I1,rfl,q1⟩)
def tIf (t:TT) (ta tb:TE):TE:=fun σ H Q=>t σ H fun c H1=>if c = true then ta σ H1 Q else tb σ H1 Q
theorem Wp {c:Expr} (hc:PT X c tA) (ha:PE X a ta) (hb:PE X b tb):PE X (.IfExp c a b pos) (tIf tA ta tb):=by
 intro pins s σ H Q I h
 refine wpAny_IfExp (thn (hc pins s σ H _ I h) fun d s1 ⟨H1,I1,q1⟩=>?_)
 cases d with
 | true=>exact ha pins s1 σ H1 Q I1 q1
 | false=>exact hb pins s1 σ H1 Q I1 q1
end
end L2
namespace L2
open PySem PySem.Spec PyProof.Rows
def SqL (K:PySem.W.Frag) (H:Hp) (a:Addr) (xs:List V):Prop :=
 Rd H a (.lst xs) \/
  ∃ (o:Obj) (its:Array Value) (n:Nat),K.lookup a = some o /\ o.cls = .type "list" /\ o.dict = none /\ o.data = .seq its n /\ its.size <= sizeLine /\ Vals xs its.toList
def SqT (K:PySem.W.Frag) (H:Hp) (a:Addr) (xs:List V):Prop :=
 Rd H a (.tup xs) \/
  ∃ (o:Obj) (its:Array Value) (n:Nat),K.lookup a = some o /\ o.cls = .type "tuple" /\ o.data = .seq its n /\ its.size <= sizeLine /\ Vals xs its.toList
def Jk:Value -> Option V
 | .none=>some .non
 | .bool b=>some (.bl b)
 | .int i _=>some (.int i)
 | .str x _=>some (.str x)
 | .bytes b _=>some (.byt b)
 | .float b _=>some (.flt b)
 | .ref a=>some (.ref a)
 | .type n=>some (.ty n)
 | _=>none
theorem RelV.abs {x:V} {u:Value} (r:RelV x u):Jk u = some x:=by
 cases x with
 | non=>cases r; rfl
 | bl _=>cases r; rfl
 | int _=>obtain ⟨t,rfl⟩:=r; rfl
 | str _=>obtain ⟨t,rfl⟩:=r; rfl
 | byt _=>obtain ⟨t,rfl⟩:=r; rfl
 | flt _=>obtain ⟨t,rfl⟩:=r; rfl
 | ref _=>cases r; rfl
 | ty _=>cases r; rfl
theorem RelV.inj {x y:V} {u:Value} (r:RelV x u) (q:RelV y u):x = y:=Option.some.inj (r.abs.symm.trans q.abs)
theorem Vals.inj:∀ {xs ys:List V} {us:List Value},Vals xs us -> Vals ys us -> xs = ys
 | _,_,_,.nil,.nil=>rfl
 | _,_,_,.cons r t,.cons r' t'=>by rw [r.inj r',Vals.inj t t']
section
variable {X:Cx} {pins:List (Addr × Obj)} {σ:St} {H:Hp} {s:Shared} {a:Addr} {xs ys:List V}
theorem SqL.of {K:PySem.W.Frag} (h:H a = some (.lst xs)):SqL K H a xs:=.inl (.inl h)
theorem SqT.of {K:PySem.W.Frag} (h:H a = some (.tup xs)):SqT K H a xs:=.inl (.inl h)
theorem Inv.list (I:Inv X pins σ H s) (h:SqL X.K H a xs):∃ its:List Value,Vals xs its /\ PlainL s.heap a its.toArray /\ xs.length <= sizeLine:=by
 rcases h with h | ⟨o,its,n,hk,hc,hd,hs,hz,r⟩
 ·obtain ⟨z,its,n,r,e⟩:=h.ok I.hok
  exact ⟨its,r,⟨_,n,e,rfl,rfl,rfl⟩,z⟩
 ·refine ⟨its.toList,r,⟨o,n,I.kIn a o hk,hc,hd,by simpa using hs⟩,?_⟩
  have e:=r.length
  simp only [Array.length_toList] at e
  omega
theorem Inv.tuple (I:Inv X pins σ H s) (h:SqT X.K H a xs):∃ its:List Value,Vals xs its /\ IsTup s.heap a its.toArray /\ xs.length <= sizeLine:=by
 rcases h with h | ⟨o,its,n,hk,hc,hs,hz,r⟩
 ·obtain ⟨z,its,r,p⟩:=h.ok I.hok
  exact ⟨its,r,p,z⟩
 ·refine ⟨its.toList,r,⟨o,I.kIn a o hk,hc,n,by simpa using hs⟩,?_⟩
  have e:=r.length
  simp only [Array.length_toList] at e
  omega
theorem Inv.list_inj (I:Inv X pins σ H s) (h:SqL X.K H a xs) (h':SqL X.K H a ys):xs = ys:=by
 obtain ⟨its,r,⟨o,n,e,_,_,d⟩,_⟩:=I.list h
 obtain ⟨its',r',⟨o',n',e',_,_,d'⟩,_⟩:=I.list h'
 rw [e] at e'; cases e'
 rw [d] at d'
 injection d' with d1 _
 have:its = its':=by simpa using congrArg Array.toList d1
 subst this
 exact r.inj r'
theorem Inv.tuple_inj (I:Inv X pins σ H s) (h:SqT X.K H a xs) (h':SqT X.K H a ys):xs = ys:=by
 obtain ⟨its,r,⟨o,e,_,n,d⟩,_⟩:=I.tuple h
 obtain ⟨its',r',⟨o',e',_,n',d'⟩,_⟩:=I.tuple h'
 rw [e] at e'; cases e'
 rw [d] at d'
 injection d' with d1 _
 have:its = its':=by simpa using congrArg Array.toList d1
 subst this
 exact r.inj r'
end
abbrev Cx.wish (X:Cx) (E:Value -> Shared -> Prop):Cx:={ X with xe:=E }
abbrev Cx.nox (X:Cx):Cx:=X.wish fun _ _=>False
theorem Cx.Ok.wish {X:Cx} (ok:X.Ok) (E:Value -> Shared -> Prop):(X.wish E).Ok :=
 ⟨ok.mod,ok.kind,ok.glob,ok.blt,ok.above,ok.inj,ok.has,ok.cab,ok.hd,ok.frames,ok.stk,ok.exf,ok.bs,ok.bsz,ok.noex,ok.exfs,ok.funs,ok.frf⟩
theorem Cx.Ok.unwish {X:Cx} {E:Value -> Shared -> Prop} (ok:(X.wish E).Ok):X.Ok :=
 ⟨ok.mod,ok.kind,ok.glob,ok.blt,ok.above,ok.inj,ok.has,ok.cab,ok.hd,ok.frames,ok.stk,ok.exf,ok.bs,ok.bsz,ok.noex,ok.exfs,ok.funs,ok.frf⟩
section
variable {X:Cx} {pins:List (Addr × Obj)} {σ:St} {H:Hp} {s:Shared} {E:Value -> Shared -> Prop}
theorem Inv.wish (I:Inv X pins σ H s) (E:Value -> Shared -> Prop):Inv (X.wish E) pins σ H s:=⟨I.ok.wish E,I.os,I.bare,I.base,I.loc,I.cell,I.free,I.freeC,I.pin,I.hok,I.len⟩
theorem Inv.unwish (I:Inv (X.wish E) pins σ H s):Inv X pins σ H s:=⟨I.ok.unwish,I.os,I.bare,I.base,I.loc,I.cell,I.free,I.freeC,I.pin,I.hok,I.len⟩
theorem SP.unwish {D:xg} {f:Flow} {s':Shared} (h:SP (X.wish E) pins D f s'):SP X pins D f s':=by
 cases f with
 | next=>obtain ⟨σ',H',I,q⟩:=h; exact ⟨σ',H',I.unwish,q⟩
 | brk=>obtain ⟨σ',H',I,q⟩:=h; exact ⟨σ',H',I.unwish,q⟩
 | cont=>obtain ⟨σ',H',I,q⟩:=h; exact ⟨σ',H',I.unwish,q⟩
 | ret u=>obtain ⟨v,σ',H',I,r,q⟩:=h; exact ⟨v,σ',H',I.unwish,r,q⟩
theorem PSs.nox {st:List Stmt} {t:TS} (h:PSs X.nox st t):PSs X st t:=fun pins s σ H D I hw =>
 wpAny_mono (h pins s σ H D (I.wish _) hw) (fun _ _ q=>q.unwish) fun _ _ z=>False.elim z
end
section
variable {X:Cx} {st:Stmt} {rest:List Stmt} {t u:TS} {e:Expr} {te:TE} {pos:Pos}
def UX:TS:=fun D σ H=>D.nx σ H
def Jr (t u:TS):TS:=fun D σ H=>t { D with nx:=u D } σ H
theorem zx:PSs X [] UX:=fun _ _ σ H _ I h=>wpAny_execs_nil ⟨σ,H,I,h⟩
theorem zt (h1:PS X st t) (h2:PSs X rest u):PSs X (st :: rest) (Jr t u):=by
 intro pins s σ H D I h
 refine wpAny_execs_cons (thn (h1 pins s σ H { D with nx:=u D } I h) fun f s1 q=>?_)
 cases f with
 | next =>
  obtain ⟨σ',H',I',q⟩:=q
  exact h2 pins s1 σ' H' D I' q
 | ret v=>exact q
 | brk=>exact q
 | cont=>exact q
theorem ze (h1:PS X st t):PSs X [st] t:=by
 intro pins s σ H D I h
 refine wpAny_execs_cons (thn (h1 pins s σ H D I h) fun f s1 q=>?_)
 cases f with
 | next=>exact wpAny_execs_nil q
 | ret v=>exact q
 | brk=>exact q
 | cont=>exact q
def UQ:TS:=fun D σ H=>D.bk σ H
def Qn:TS:=fun D σ H=>D.ct σ H
theorem Inv.quiet {pins:List (Addr × Obj)} {σ:St} {H:Hp} {s:Shared} (I:Inv X pins σ H s):interactive X.env = false:=by simp [interactive,I.ok.kind]
def UJ (te:TE):TS:=fun D σ H=>te σ H fun _ H1=>D.nx σ H1
theorem yQ (he:PE X e te) (hs:swapsWith e none pos.line X.env = pure false:=by rfl):PS X (.Expr e pos) (UJ te):=by
 intro pins s σ H D I h
 exact wpAny_Expr_any (thn (he pins s σ H _ I h) fun v s1 ⟨x,H1,I1,r1,q1⟩=>⟨σ,H1,I1,q1⟩) I.quiet hs
def Jc (te:TE):TS:=fun D σ H=>te σ H D.rt
theorem zr (he:PE X e te):PS X (.Return (some e) pos) (Jc te):=by
 intro pins s σ H D I h
 exact wpAny_Return_some (thn (he pins s σ H _ I h) fun v s1 ⟨x,H1,I1,r1,q1⟩=>⟨x,σ,H1,I1,r1,q1⟩)
def QF:TS:=fun D _ H=>D.rt .non H
def Jj (c:TT) (t u:TS):TS:=fun D σ H=>c σ H fun b H1=>if b = true then t D σ H1 else u D σ H1
theorem ya {c:Expr} {a b:List Stmt} {tc:TT} (hc:PT X c tc) (ha:PSs X a t) (hb:PSs X b u):PS X (.If c a b pos) (Jj tc t u):=by
 intro pins s σ H D I h
 refine wpAny_If (thn (hc pins s σ H _ I h) fun d s1 ⟨H1,I1,q1⟩=>?_)
 cases d with
 | true=>exact ha pins s1 σ H1 D I1 q1
 | false=>exact hb pins s1 σ H1 D I1 q1
end
abbrev TG:=V -> St -> Hp -> (St -> Hp -> Prop) -> Prop
abbrev TGs:=List V -> St -> Hp -> (St -> Hp -> Prop) -> Prop
def PG (X:Cx) (target:Expr) (t:TG):Prop :=
 ∀ (pins:List (Addr × Obj)) (s:Shared) (σ:St) (H:Hp) (v:V) (u:Value) (Q:St -> Hp -> Prop),Inv X pins σ H s -> RelV v u -> t v σ H Q ->
  wpAny (model X.prog X.w) X.A (assign target X.env u) (fun _ s'=>∃ σ' H',Inv X pins σ' H' s' /\ Q σ' H') X.xe s
def PGs (X:Cx) (ts:List Expr) (t:TGs):Prop :=
 ∀ (pins:List (Addr × Obj)) (s:Shared) (σ:St) (H:Hp) (vs:List V) (us:List Value) (Q:St -> Hp -> Prop),Inv X pins σ H s -> Vals vs us -> t vs σ H Q ->
  wpAny (model X.prog X.w) X.A (assignInOrder ((assignEach ts X.env).map (·.2)) us) (fun _ s'=>∃ σ' H',Inv X pins σ' H' s' /\ Q σ' H') X.xe s
abbrev Q1:=V -> V -> V -> Hp -> (Hp -> Prop) -> Prop
def Jv (X:Cx) (t:Q1):Prop :=
 ∀ (pins:List (Addr × Obj)) (s:Shared) (σ:St) (H:Hp) (o i v:V) (ov iv u:Value) (Q:Hp -> Prop),Inv X pins σ H s -> RelV o ov -> RelV i iv -> RelV v u -> t o i v H Q ->
  wpAny (model X.prog X.w) X.A (setItem ov iv u) (fun _ s'=>∃ H',Inv X pins σ H' s' /\ Q H') X.xe s
section
variable {X:Cx} {pos:Pos}
def y8 (i:Nat):TG:=fun v σ H Q=>Q (σ.set i (some v)) H
theorem zu {i:Nat} {x:Str} (hN:X.N.Nodup) (hi:X.N[i]? = some x) (hx:Loc X.env.scope x) (hf:X.fn x = true \/ X.env.scope.names.lookup x = some .local:=by first | exact .inl rfl | exact .inr rfl | assumption):PG X (.Name x pos) (y8 i):=by
 intro pins s σ H v u Q I r h
 exact wpAny_assign_Name (vJ I hN hi hx r (fun s' I'=>⟨_,H,I',h⟩) hf)
def UD:TGs:=fun vs σ H Q=>vs = [] /\ Q σ H
def jI (t:TG) (u:TGs):TGs:=fun vs σ H Q=>∃ v r,vs = v :: r /\ t v σ H fun σ' H'=>u r σ' H' Q
theorem wp:PGs X [] UD:=by
 intro pins s σ H vs us Q I r h
 obtain ⟨e,h⟩:=h
 subst e
 cases r
 exact assignInOrder_nil ⟨σ,H,I,h⟩
theorem ye {e:Expr} {es:List Expr} {t:TG} {u:TGs} (h1:PG X e t) (h2:PGs X es u)
  (hs:(assignEach (e :: es) X.env).map (·.2) = assign e X.env :: (assignEach es X.env).map (·.2):=by rfl):PGs X (e :: es) (jI t u):=by
 intro pins s σ H vs us Q I r h
 obtain ⟨v,vr,e1,h⟩:=h
 subst e1
 cases r with
 | cons r rr =>
  rw [hs]
  refine assignInOrder_cons (thn (h1 pins s σ H _ _ _ I r h) fun _ s1 ⟨σ1,H1,I1,q1⟩=>?_)
  exact h2 pins s1 σ1 H1 _ _ Q I1 rr q1
def UM (K:PySem.W.Frag) (n:Nat) (t:TGs):TG:=fun v σ H Q=>∃ a xs,v = .ref a /\ SqT K H a xs /\ xs.length = n /\ t xs σ H Q
theorem ue {es:List Expr} {k:Nat} {t:TGs} {n:Nat} (hc:X.calm = true) (h:PGs X es t)
  (hn:(assignEach es X.env).length = n:=by rfl) (hst:(assignEach es X.env).findIdx? (·.1) = none:=by rfl):PG X (.Tuple es k pos) (UM X.K n t):=by
 intro pins s σ H v u Q I r hw
 obtain ⟨a,xs,e1,hq,hl,hw⟩:=hw
 subst e1
 cases r
 obtain ⟨its,rv,ht,hz⟩:=I.tuple hq
 refine assign_Tuple_tuple (I.ok.hd hc) ht (by simp [hn,<- hl,rv.length]) hst fun h' hx=>?_
 have I1:Inv X pins σ H { s with heap:=h' }:=I.kept (t':=s.toks) fun b o e=>hx b o (Nat.ne_of_lt (Heap.lt_size e)) e
 exact h pins _ σ H xs _ Q I1 (by simpa using rv) hw
def Jl (to ti:TE) (t:Q1):TG:=fun v σ H Q=>to σ H fun o H1=>ti σ H1 fun i H2=>t o i v H2 fun H3=>Q σ H3
theorem V6 {o i:Expr} {to ti:TE} {t:Q1} (ho:PE X o to) (hi:PE X i ti) (hs:Jv X t)
  (ha:∀ v,assign (.Subscript o i pos) X.env v = (do
   let ov <- holding [v] (eval o X.env)
   let iv <- holding [v,ov] (eval i X.env)
   standAt pos
   holding [v,ov,iv] (setItem ov iv v)
   release [v,ov,iv] []):=by intro _; rfl):PG X (.Subscript o i pos) (Jl to ti t):=by
 intro pins s σ H v u Q I r h
 rw [ha]
 refine wpAny_bind (wpAny_holding (thn (ho pins s σ H _ I h) fun ov s1 ⟨x,H1,I1,r1,q1⟩=>?_))
 refine wpAny_bind (wpAny_holding (thn (hi pins s1 σ H1 _ I1 q1) fun iv s2 ⟨y,H2,I2,r2,q2⟩=>?_))
 refine wpAny_bind (wpAny_standAt (wpAny_bind (wpAny_holding (thn (hs pins s2 σ H2 x y v ov iv u _ I2 r1 r2 r q2) fun _ s3 ⟨H3,I3,q3⟩=>?_))))
 exact wpAny_release ⟨σ,H3,I3,q3⟩
def U3 (te:TE) (g:TG):TS:=fun D σ H=>te σ H fun x H1=>g x σ H1 D.nx
theorem YZ {tg e:Expr} {te:TE} {g:TG} (he:PE X e te) (hg:PG X tg g) (hs:swapsWithSole [tg] e pos.line X.env = pure false:=by rfl) (hw:swappedStores [tg] e X.env = pure none:=by rfl)
  (h1:(assignEach [tg] X.env).map (·.2) = [assign tg X.env]:=by rfl):PS X (.Assign [tg] e pos) (U3 te g):=by
 intro pins s σ H D I h
 refine wpAny_Assign_stores (thn (he pins s σ H _ I h) fun v s1 ⟨x,H1,I1,r1,q1⟩=>?_) hs hw
 rw [h1]
 exact thn (hg pins s1 σ H1 x v _ I1 r1 q1) fun _ s2 q=>q
theorem zq {i:Nat} {x:Str} {e:Expr} {te:TE} {pos':Pos} (hN:X.N.Nodup) (hi:X.N[i]? = some x) (hx:Loc X.env.scope x) (he:PE X e te) (hs:swapsWith e (some (.Name x pos')) pos.line X.env = pure false:=by rfl) (hf:X.fn x = true \/ X.env.scope.names.lookup x = some .local:=by first | exact .inl rfl | exact .inr rfl | assumption) :
  PS X (.Assign [.Name x pos'] e pos) (U3 te (y8 i)):=by
 intro pins s σ H D I h
 refine wpAny_Assign_Name (thn (he pins s σ H _ I h) fun v s1 ⟨y,H1,I1,r1,q1⟩=>?_) hs
 exact vJ I1 hN hi hx r1 (fun s2 I2=>⟨_,H1,I2,q1⟩) hf
def JM (i j:Nat) (ta:TA):TS:=fun D σ H=>ta σ H fun vs H1=>∃ v w,vs = [v,w] /\ D.nx ((σ.set i (some v)).set j (some w)) H1
end
section
variable {X:Cx} {pos:Pos}
def uK (c:TT) (tb:TS):TS:=fun D σ H=>∃ W:Nat -> St -> Hp -> Prop,(∃ m,W m σ H) /\ ∀ m σ H,W m σ H ->
 c σ H fun b H1=>if b = true then ∃ N:St -> Hp -> Prop,(∀ σ' H',N σ' H' -> ∃ m',m' < m /\ W m' σ' H') /\ tb { D with nx:=N,ct:=N,bk:=D.nx } σ H1 else D.nx σ H1
theorem wB {c:Expr} {body:List Stmt} {tc:TT} {tb:TS} (hp:PassesOwn (model X.prog X.w) X.A X.env X.xe) (hc:PT X c tc) (hb:PSs X body tb):PS X (.While c body [] pos) (uK tc tb):=by
 intro pins s σ H D I h
 obtain ⟨W,⟨m0,w0⟩,turn⟩:=h
 refine wpAny_While (codeAny_whileLoop (fun n s'=>∃ σ' H',Inv X pins σ' H' s' /\ W n σ' H') ?_ m0 ⟨σ,H,I,w0⟩)
 rintro n s1 ⟨σ1,H1,I1,w1⟩
 refine wpAny_passesOwn hp (thn (hc pins s1 σ1 H1 _ I1 (turn n σ1 H1 w1)) fun b s2 ⟨H2,I2,q2⟩=>?_)
 cases b with
 | true =>
  obtain ⟨N,hN,q2⟩:=q2
  rw [if_pos rfl]
  refine wpAny_passesOwn hp (thn (hb pins s2 σ1 H2 _ I2 q2) fun f s3 q3=>?_)
  cases f with
  | next =>
   obtain ⟨σ3,H3,I3,n3⟩:=q3
   obtain ⟨m',hm,w3⟩:=hN σ3 H3 n3
   exact ⟨m',hm,σ3,H3,I3,w3⟩
  | cont =>
   obtain ⟨σ3,H3,I3,n3⟩:=q3
   obtain ⟨m',hm,w3⟩:=hN σ3 H3 n3
   exact ⟨m',hm,σ3,H3,I3,w3⟩
  | brk=>exact q3
  | ret v=>exact q3
 | false =>
  rw [if_neg Bool.false_ne_true]
  exact wpAny_execs_nil ⟨σ1,H2,I2,q2⟩
end
structure It where
 go:Nat -> Hp -> Prop
 yld:Nat -> Hp -> V -> Hp -> Prop
 stop:Nat -> Hp -> Prop
def wZ (X:Cx) (pins:List (Addr × Obj)) (H:Hp) (b:Addr):Prop :=
 H b = none /\ b ≠ X.env.locals /\ b ∉ X.fs /\ (b ∈ X.ex \/ X.s₀.heap.objs.size <= b) /\ (∀ x c,X.env.cells.lookup x = some c -> c ≠ b) /\ ∀ p ∈ X.pn ++ pins,p.1 ≠ b
theorem Inv.fpOk {X:Cx} {pins:List (Addr × Obj)} {σ:St} {H H':Hp} {s:Shared} {b:Addr} (I:Inv X pins σ H s) (hb:s.heap.objs.size <= b) (hn:H' b = none):wZ X pins H' b:=by
 refine ⟨hn,Nat.ne_of_gt (Nat.lt_of_lt_of_le I.lt hb),I.nofs hb,.inr (Nat.le_trans I.sz hb),fun x c e z=>?_,fun p hp z=>?_⟩
 ·obtain ⟨v,q⟩:=I.cell x c e
  exact absurd (Nat.lt_of_lt_of_le q.lt (by rw [z]; exact hb)) (Nat.lt_irrefl _)
 ·exact absurd (Nat.lt_of_lt_of_le (Heap.lt_size (I.pin p hp).1) (by rw [z]; exact hb)) (Nat.lt_irrefl _)
structure W7 (P:Program) (w:World) (K:PySem.W.Frag) (tg:Expr) (J:It) (fp:List Addr) (it:Addr) (tn:Nat -> Heap -> Prop):Prop where
 mem:it ∈ fp
 obj:∀ i h,tn i h -> ∀ b ∈ fp,∃ o,h.get? b = some o /\ ∀ v,o.data ≠ .cell v
 keep:∀ i h h',tn i h -> (∀ b ∈ fp,∀ o,h.get? b = some o -> h'.get? b = some o) -> tn i h'
 item:∀ (X:Cx),X.prog = P -> X.w = w -> X.K = K -> X.calm = true -> ∀ (i:Nat) (pins:List (Addr × Obj)) (s:Shared) (σ:St) (H:Hp) (E:Value -> Shared -> Prop),Inv X pins σ H s -> (∀ b ∈ fp,wZ X pins H b) -> tn i s.heap -> J.go i H ->
  wpAny (model P w) X.A (pyNext (.ref it)) (fun r s1=>∃ u,r = some u /\
   wpAny (model P w) X.A (letOwnedTupleGo tg (.ref it) u) (fun _ s2=>∃ x H',Inv X pins σ H' s2 /\ RelV x u /\ J.yld i H x H' /\ tn (i + 1) s2.heap /\ ∀ b ∈ fp,H' b = none) E s1) E s
 done:∀ (X:Cx),X.prog = P -> X.w = w -> X.K = K -> X.calm = true -> ∀ (i:Nat) (pins:List (Addr × Obj)) (s:Shared) (σ:St) (H:Hp) (E:Value -> Shared -> Prop),Inv X pins σ H s -> (∀ b ∈ fp,wZ X pins H b) -> tn i s.heap -> J.stop i H ->
  wpAny (model P w) X.A (pyNext (.ref it)) (fun r s1=>r = none /\ Inv X pins σ H s1) E s
 self:∀ (A:Around) (i:Nat) (s:Shared) (Q:Value -> Shared -> Prop) (E:Value -> Shared -> Prop),tn i s.heap -> Q (.ref it) s -> wpAny (model P w) A (pyIter (.ref it)) Q E s
abbrev TI:=St -> Hp -> (It -> Hp -> Prop) -> Prop
def PIE (X:Cx) (pins:List (Addr × Obj)) (σ:St) (tg:Expr) (R:It -> Hp -> Prop) (itv:Value) (s2:Shared):Prop :=
 ∃ (it:Addr) (fp:List Addr) (tn:Nat -> Heap -> Prop) (J:It) (H':Hp),itv = .ref it /\ Inv X pins σ H' s2 /\ W7 X.prog X.w X.K tg J fp it tn /\ tn 0 s2.heap /\ (∀ b ∈ fp,wZ X pins H' b) /\ R J H'
def PI (X:Cx) (tg iter:Expr) (wi:TI):Prop :=
 ∀ (pins:List (Addr × Obj)) (s:Shared) (σ:St) (H:Hp) (R:It -> Hp -> Prop),Inv X pins σ H s -> wi σ H R ->
  wpAny (model X.prog X.w) X.A (eval iter X.env) (fun v s1=>wpAny (model X.prog X.w) X.A (pyIter v) (PIE X pins σ tg R) X.xe s1) X.xe s
theorem Vh {M:Model} {A:Around} {E:Value -> Shared -> Prop} {s:Shared} {tg:Expr} {it:Addr} {u:Value} {o:Obj} {n:String} {vs:Array Value} {Q:Unit -> Shared -> Prop} (ho:s.heap.get? it = some o) (hc:o.cls = .type n) (hd:o.data = .fields vs)
    (hn:["enumerate", "zip", "dict_itemiterator", "dict_reverseitemiterator", "odict_iterator", "itertools.zip_longest", "itertools.pairwise"].contains n = false) (hQ:Q () s):wpAny M A (letOwnedTupleGo tg (.ref it) u) Q E s:=by
  unfold letOwnedTupleGo
  cases tg <;> first
    | exact wpAny_pure hQ
    | (cases u <;> first
        | exact wpAny_pure hQ
        | (refine wpAny_bind (wpAny_load ho ?_)
           rw [hc,hd]
           show wpAny M A (if (["enumerate", "zip", "dict_itemiterator", "dict_reverseitemiterator", "odict_iterator", "itertools.zip_longest", "itertools.pairwise"].contains n && vs[0]? == some (rawInt _)) = true then _ else _) Q E s
           rw [if_neg (by intro h; rw [hn,Bool.false_and] at h; cases h)]
           exact wpAny_pure hQ))
def Itl (K:PySem.W.Frag) (a:Addr):It :=
 ⟨fun i H=>∃ xs x,SqL K H a xs /\ xs[i]? = some x,fun i H x H'=>H' = H /\ ∀ xs,SqL K H a xs -> xs[i]? = some x,fun i H=>∃ xs,SqL K H a xs /\ xs.length <= i⟩
def Itt (K:PySem.W.Frag) (a:Addr):It :=
 ⟨fun i H=>∃ xs x,SqT K H a xs /\ xs[i]? = some x,fun i H x H'=>H' = H /\ ∀ xs,SqT K H a xs -> xs[i]? = some x,fun i H=>∃ xs,SqT K H a xs /\ xs.length <= i⟩
def Itr (lo:Int) (n:Nat):It:=⟨fun i _=>i < n,fun i H x H'=>H' = H /\ x = .int (lo + i),fun i _=>n <= i⟩
theorem YJ {P:Program} {w:World} {K:PySem.W.Frag} {tg:Expr} (a it:Addr):W7 P w K tg (Itl K a) [it] it (fun i h=>h.IsListIter it a i) where
 mem:=by simp
 obj:=fun i h st b hb=>by
  have e:b = it:=by simpa using hb
  subst e
  obtain ⟨o,e,c,d⟩:=st
  exact ⟨o,e,fun v z=>by rw [d] at z; cases z⟩
 keep:=fun i h h' st k=>st.at fun o e=>k it (by simp) o e
 item:=by
  intro X hP hw hK hc i pins s σ H E I hf st hg
  subst hP hw hK
  obtain ⟨xs,x,hq,hx⟩:=hg
  obtain ⟨its,rv,p,hz⟩:=I.list hq
  obtain ⟨u,hu,ru⟩:=rv.get hx
  obtain ⟨f0,f1,f2,f3,f4,f5⟩:=hf it (by simp)
  refine wpAny_pyNext_list_item st p.isList (x:=u) (by simpa using hu) fun h' st' sb=>?_
  have I1:Inv X pins σ H { s with heap:=h' }:=I.turned (t':=s.toks) (fun b o hb e=>(sb.2 b hb).trans e) f0 f1 f3 f4 f5
  obtain ⟨o,e,c,d⟩:=id st'
  exact ⟨u,rfl,Vh (s:={ s with heap:=h' }) e c d (by decide) ⟨x,H,I1,ru,⟨rfl,fun ys hy=>by rw [I.list_inj hy hq]; exact hx⟩,st',fun b hb=>(hf b hb).1⟩⟩
 done:=by
  intro X hP hw hK hc i pins s σ H E I hf st hg
  subst hP hw hK
  obtain ⟨xs,hq,hx⟩:=hg
  obtain ⟨its,rv,p,hz⟩:=I.list hq
  obtain ⟨f0,f1,f2,f3,f4,f5⟩:=hf it (by simp)
  have hl:=rv.length
  exact wpAny_pyNext_list_end (I.ok.hd hc) st p.isList (by simp; omega) fun h' eb=>⟨rfl,I.turned (t':=s.toks) (fun b o hb e=>eb b o hb e) f0 f1 f3 f4 f5⟩
 self:=fun _ _ _ _ _ st h=>wpAny_pyIter_listiter st h
theorem kR {P:Program} {w:World} {K:PySem.W.Frag} {tg:Expr} (it:Addr) (lo:Int) (n:Nat):W7 P w K tg (Itr lo n) [it] it (fun i h=>IsRangeIter h it (lo + (i:Nat) * 1) ((n:Int) - (i:Nat)) 1) where
 mem:=by simp
 obj:=fun i h st b hb=>by
  have e:b = it:=by simpa using hb
  subst e
  exact ⟨_,st,fun v z=>by
   have z':Data.fields _ = Data.cell v:=z
   cases z'⟩
 keep:=fun i h h' st k=>k it (by simp) _ st
 item:=by
  intro X hP hw hK hc i pins s σ H E I hf st hg
  subst hP hw hK
  obtain ⟨f0,f1,f2,f3,f4,f5⟩:=hf it (by simp)
  have W:=Walks.range (prog:=X.prog) (w:=X.w) (I.ok.hd hc) it lo 1 n
  refine W.item i s _ _ hg st fun v h' tk hv st' kk=>?_
  obtain ⟨t,rfl⟩:=hv
  have I1:Inv X pins σ H { s with heap:=h',toks:=tk }:=I.turned (fun b o hb e=>kk b o (by simpa using hb) e) f0 f1 f3 f4 f5
  refine ⟨_,rfl,Vh (s:={ s with heap:=h',toks:=tk }) (n:="range_iterator") st' rfl rfl (by decide) ⟨.int (lo + i),H,I1,⟨t,?_⟩,⟨rfl,rfl⟩,st',fun b hb=>(hf b hb).1⟩⟩
  rw [Int.mul_one]
 done:=by
  intro X hP hw hK hc i pins s σ H E I hf st hg
  subst hP hw hK
  obtain ⟨f0,f1,f2,f3,f4,f5⟩:=hf it (by simp)
  exact wpAny_pyNext_range_end (I.ok.hd hc) st (by have:n <= i:=hg; omega) fun h' eb=>⟨rfl,I.turned (t':=s.toks) (fun b o hb e=>eb b o hb e) f0 f1 f3 f4 f5⟩
 self:=fun _ _ _ _ _ st h=>wpAny_pyIter_rangeiter st h
end L2
namespace L2
open PySem PySem.Spec PyProof.Rows
section
variable {X:Cx} {tg:Expr}
def Vm (K:PySem.W.Frag) (tl:TE):TI:=fun σ H R=>tl σ H fun x H1=>∃ a,x = .ref a /\ (∃ xs,SqL K H1 a xs) /\ R (Itl K a) H1
def J6 (K:PySem.W.Frag) (tl:TE):TI:=fun σ H R=>tl σ H fun x H1=>∃ a,x = .ref a /\ (∃ xs,SqT K H1 a xs) /\ R (Itt K a) H1
theorem yx {l:Expr} {tl:TE} (hl:PE X l tl):PI X tg l (Vm X.K tl):=by
 intro pins s σ H R I h
 refine thn (hl pins s σ H _ I h) fun v s1 ⟨x,H1,I1,r1,q1⟩=>?_
 obtain ⟨a,e,⟨xs,hq⟩,q⟩:=q1
 subst e
 cases r1
 obtain ⟨its,rv,p,hz⟩:=I1.list hq
 refine wpAny_pyIter_list p.isList ?_
 refine ⟨s1.heap.objs.size,[s1.heap.objs.size],_,_,H1,rfl,I1.kept (t':=s1.toks) fun b o e=>Heap.get?_push_of_some _ e,YJ a _,⟨_,Heap.get?_push_size _ rfl,rfl,rfl⟩,fun b hb=>?_,q⟩
 have e:b = s1.heap.objs.size:=by simpa using hb
 subst e
 exact I1.fpOk (Nat.le_refl _) (I1.hok.fresh (Nat.le_refl _))
theorem Xt {pins:List (Addr × Obj)} {σ:St} {H:Hp} {s:Shared} {R:It -> Hp -> Prop} {E:Value -> Shared -> Prop} {lo hi:Int} {t u v:Tok} {tk:Nat} (I:Inv X pins σ H s) (h1:-(2 ^ 62) <= lo) (h2:lo < 2 ^ 62) (h3:-(2 ^ 62) <= hi) (h4:hi < 2 ^ 62)
  (q:R (Itr lo (hi - lo).toNat) H):wpAny (model X.prog X.w) X.A (pyIter (.ref s.heap.objs.size)) (PIE X pins σ tg R) E { s with heap:=s.heap.push { cls:=.type "range",data:=.fields #[.int lo t,.int hi u,.int 1 v] },toks:=tk }:=by
 refine wpAny_pyIter_range (IsRange.new ..) (small_one h1 h2 h3 h4) ?_
 have I1:Inv X pins σ H { s with heap:=s.heap.push { cls:=.type "range",data:=.fields #[.int lo t,.int hi u,.int 1 v] },toks:=tk }:=I.kept fun b o e=>Heap.get?_push_of_some _ e
 refine ⟨(s.heap.push { cls:=.type "range",data:=.fields #[.int lo t,.int hi u,.int 1 v] }).objs.size,[(s.heap.push { cls:=.type "range",data:=.fields #[.int lo t,.int hi u,.int 1 v] }).objs.size],_,_,H,rfl,
  I1.kept (t':=tk) fun b o e=>Heap.get?_push_of_some _ e,kR _ lo (hi - lo).toNat,?_,fun b hb=>?_,q⟩
 ·have e1:lo + ((0:Nat):Int) * 1 = lo:=by simp
  have e2:(((hi - lo).toNat:Nat):Int) - ((0:Nat):Int) = Builtin.Range.rangeSize lo hi 1:=by rw [rangeSize_one]; split <;> omega
  show IsRangeIter _ _ (lo + ((0:Nat):Int) * 1) ((((hi - lo).toNat:Nat):Int) - ((0:Nat):Int)) 1
  rw [e1,e2]
  exact Heap.get?_push_size _ rfl
 ·have e:b = (s.heap.push { cls:=.type "range",data:=.fields #[.int lo t,.int hi u,.int 1 v] }).objs.size:=by simpa using hb
  subst e
  exact I1.fpOk (Nat.le_refl _) (I1.hok.fresh (Nat.le_refl _))
def Vn (ta:TA):TI:=fun σ H R=>ta σ H fun vs H1=>∃ j:Int,vs = [.int j] /\ -(2 ^ 62) <= j /\ j < 2 ^ 62 /\ R (Itr 0 j.toNat) H1
def Qz (ta:TA):TI:=fun σ H R=>ta σ H fun vs H1=>∃ i j:Int,vs = [.int i,.int j] /\ (-(2 ^ 62) <= i /\ i < 2 ^ 62 /\ -(2 ^ 62) <= j /\ j < 2 ^ 62) /\ R (Itr i (j - i).toNat) H1
theorem xG {a:Expr} {ta:TA} {p pos:Pos} (hg:Gl X "range") (hm:X.mg "range" = none) (ha:PA X [a] ta) (hs:starEach [a] X.env = [(false,eval a X.env)]:=by rfl):PI X tg (.Call (.Name "range" p) [a] [] pos) (Vn ta):=by
 intro pins s σ H R I h
 refine Call_ (um I hg hm boot_range (PyProof.Rows.callWith_type1 (thn (ha pos pins s σ H _ I h) fun us s1 ⟨vs,H1,I1,r1,q1⟩=>?_) hs rfl))
 obtain ⟨j,e,q1,q2,q⟩:=q1
 subst e
 cases r1 with
 | cons r rr =>
  cases rr
  obtain ⟨t,rfl⟩:=r
  exact call_range_1 (Xt I1 (by omega) (by omega) q1 q2 (by simpa using q))
def Wn (wi:TI) (g:TG) (tb:TS):TS:=fun D σ H=>wi σ H fun J H1=>∃ W:Nat -> Nat -> St -> Hp -> Prop,(∃ m,W 0 m σ H1) /\ ∀ i m σ H,W i m σ H ->
 (J.stop i H /\ D.nx σ H) \/ (J.go i H /\ ∃ N:St -> Hp -> Prop,(∀ σ' H',N σ' H' -> ∃ m',m' < m /\ W (i + 1) m' σ' H') /\ ∀ x H',J.yld i H x H' -> g x σ H' fun σ2 H2=>tb { D with nx:=N,ct:=N,bk:=D.nx } σ2 H2)
def qV (fp:List Addr) (h:Heap):List (Addr × Obj):=fp.filterMap fun b=>(h.get? b).map fun o=>(b,o)
theorem xO {fp:List Addr} {h:Heap} {b:Addr} {o:Obj} (hb:b ∈ fp) (e:h.get? b = some o):(b,o) ∈ qV fp h:=List.mem_filterMap.mpr ⟨b,hb,by rw [e]; rfl⟩
theorem ZC {fp:List Addr} {h:Heap} {p:Addr × Obj} (hp:p ∈ qV fp h):p.1 ∈ fp /\ h.get? p.1 = some p.2:=by
 obtain ⟨b,hb,e⟩:=List.mem_filterMap.mp hp
 cases q:h.get? b with
 | none=>rw [q] at e; cases e
 | some o =>
  rw [q] at e
  have e':(b,o) = p:=Option.some.inj e
  subst e'
  exact ⟨hb,q⟩
theorem Inv.pinned {pins:List (Addr × Obj)} {σ:St} {H:Hp} {s:Shared} {fp:List Addr} (I:Inv X pins σ H s) (hf:∀ b ∈ fp,wZ X pins H b) (ho:∀ b ∈ fp,∃ o,s.heap.get? b = some o /\ ∀ v,o.data ≠ .cell v):Inv X (pins ++ qV fp s.heap) σ H s :=
 I.pins_of fun p hp=>(List.mem_append.mp hp).elim (fun z=>I.pin p (List.mem_append_right _ z)) fun z=>by
  obtain ⟨hb,e⟩:=ZC z
  obtain ⟨f0,f1,f2,_⟩:=hf p.1 hb
  obtain ⟨o,e',d⟩:=ho p.1 hb
  rw [e] at e'; cases e'
  exact ⟨e,f0,f1,f2,d⟩
theorem Inv.unpinned {pins pl:List (Addr × Obj)} {σ:St} {H:Hp} {s:Shared} (I:Inv X (pins ++ pl) σ H s):Inv X pins σ H s:=I.pins_of fun p hp=>I.pin p (List.mem_append_right _ (List.mem_append_left _ hp))
theorem yl {iter:Expr} {body:List Stmt} {wi:TI} {g:TG} {tb:TS} {pos:Pos} (hp:PassesOwn (model X.prog X.w) X.A X.env X.xe) (hc:X.calm = true) (hi:PI X tg iter wi) (hg:PG X tg g) (hb:PSs X body tb)
  (hs:∀ x,foldedSetIterable iter X.env x = pure x:=by intro _; rfl):PS X (.For tg iter body [] pos) (Wn wi g tb):=by
 intro pins s σ H D I h
 refine wpAny_For (thn (hi pins s σ H _ I h) fun v s1 h1=>thn h1 fun itv s2 h2=>?_) hs
 obtain ⟨it,fp,tn,J,H2,e,I2,T,st2,f2,W,⟨m0,w0⟩,turn⟩:=h2
 subst e
 have stat:∀ {H':Hp},(∀ b ∈ fp,H' b = none) -> ∀ b ∈ fp,wZ X pins H' b:=fun hn b hb=>⟨hn b hb,(f2 b hb).2⟩
 refine codeAny_forLoop_any (fun n s'=>∃ i σ' H',Inv X pins σ' H' s' /\ tn i s'.heap /\ (∀ b ∈ fp,H' b = none) /\ W i n σ' H') ?_ m0 ⟨0,σ,H2,I2,st2,fun b hb=>(f2 b hb).1,w0⟩
 rintro n s3 ⟨i,σ3,H3,I3,st3,fr3,w3⟩
 rcases turn i n σ3 H3 w3 with ⟨stop,qn⟩ | ⟨go,N,hN,step⟩
 ·refine wpAny_passesOwn hp (thn (T.done X rfl rfl rfl hc i pins s3 σ3 H3 X.xe I3 (stat fr3) st3 stop) fun r s4 ⟨hr,I4⟩=>?_)
  subst hr
  exact wpAny_execs_nil ⟨σ3,H3,I4,qn⟩
 ·refine wpAny_passesOwn hp (thn (T.item X rfl rfl rfl hc i pins s3 σ3 H3 X.xe I3 (stat fr3) st3 go) fun r s4 ⟨u,hr,h4⟩=>?_)
  subst hr
  refine wpAny_passesOwn hp (thn h4 fun _ s5 ⟨x,H5,I5,r5,y5,st5,fr5⟩=>?_)
  have I5':=I5.pinned (stat fr5) (T.obj _ _ st5)
  refine wpAny_passesOwn hp (thn (hg _ s5 σ3 H5 x u _ I5' r5 (step x H5 y5)) fun _ s6 ⟨σ6,H6,I6,q6⟩=>?_)
  refine wpAny_passesOwn hp (thn (hb _ s6 σ6 H6 _ I6 q6) fun f s7 q7=>?_)
  have again:∀ {σ7:St} {H7:Hp},Inv X (pins ++ qV fp s5.heap) σ7 H7 s7 -> N σ7 H7 -> ∃ m,m < n /\ ∃ i σ' H',Inv X pins σ' H' s7 /\ tn i s7.heap /\ (∀ b ∈ fp,H' b = none) /\ W i m σ' H':=fun {σ7 H7} I7 n7=>by
   obtain ⟨m',hm,w7⟩:=hN σ7 H7 n7
   refine ⟨m',hm,i + 1,σ7,H7,I7.unpinned,T.keep _ _ _ st5 fun b hb o e=>(I7.pin (b,o) (List.mem_append_right _ (List.mem_append_right _ (xO hb e)))).1,fun b hb=>?_,w7⟩
   obtain ⟨o,e,d⟩:=T.obj _ _ st5 b hb
   exact (I7.pin (b,o) (List.mem_append_right _ (List.mem_append_right _ (xO hb e)))).2.1
  cases f with
  | next=>obtain ⟨σ7,H7,I7,n7⟩:=q7; exact again I7 n7
  | cont=>obtain ⟨σ7,H7,I7,n7⟩:=q7; exact again I7 n7
  | brk=>obtain ⟨σ7,H7,I7,q7⟩:=q7; exact ⟨σ7,H7,I7.unpinned,q7⟩
  | ret v=>obtain ⟨x7,σ7,H7,I7,r7,q7⟩:=q7; exact ⟨x7,σ7,H7,I7.unpinned,r7,q7⟩
end
theorem XS {K:PySem.W.Frag} {a:Addr} {xs:List V} {g:TG} {tb:TS} {D:xg} {σ:St} {H:Hp} (Pv:Nat -> St -> Hp -> Prop) (h0:Pv 0 σ H) (hl:∀ i σ H,i <= xs.length -> Pv i σ H -> SqL K H a xs)
  (hs:∀ i x σ H,xs[i]? = some x -> Pv i σ H -> g x σ H fun σ2 H2=>tb { D with nx:=Pv (i + 1),ct:=Pv (i + 1),bk:=D.nx } σ2 H2) (hd:∀ σ H,Pv xs.length σ H -> D.nx σ H) :
  ∃ W:Nat -> Nat -> St -> Hp -> Prop,(∃ m,W 0 m σ H) /\ ∀ i m σ H,W i m σ H ->
   ((Itl K a).stop i H /\ D.nx σ H) \/ ((Itl K a).go i H /\ ∃ N:St -> Hp -> Prop,(∀ σ' H',N σ' H' -> ∃ m',m' < m /\ W (i + 1) m' σ' H') /\ ∀ x H',(Itl K a).yld i H x H' -> g x σ H' fun σ2 H2=>tb { D with nx:=N,ct:=N,bk:=D.nx } σ2 H2):=by
 refine ⟨fun i m σ H=>m = xs.length - i /\ i <= xs.length /\ Pv i σ H,⟨xs.length,by simp,Nat.zero_le _,h0⟩,?_⟩
 rintro i m σ H ⟨rfl,hi,p⟩
 have q:=hl i σ H hi p
 by_cases hlt:i < xs.length
 ·refine .inr ⟨⟨xs,xs[i],q,by simp [hlt]⟩,Pv (i + 1),fun σ' H' p'=>⟨xs.length - (i + 1),by omega,rfl,hlt,p'⟩,fun x H' y=>?_⟩
  obtain ⟨e,y⟩:=y
  subst e
  exact hs i x σ _ (y xs q) p
 ·have e:i = xs.length:=by omega
  subst e
  exact .inl ⟨⟨xs,q,Nat.le_refl _⟩,hd σ H p⟩
theorem ZT {lo:Int} {n:Nat} {g:TG} {tb:TS} {D:xg} {σ:St} {H:Hp} (Pv:Nat -> St -> Hp -> Prop) (h0:Pv 0 σ H)
  (hs:∀ i σ H,i < n -> Pv i σ H -> g (.int (lo + i)) σ H fun σ2 H2=>tb { D with nx:=Pv (i + 1),ct:=Pv (i + 1),bk:=D.nx } σ2 H2) (hd:∀ σ H,Pv n σ H -> D.nx σ H) :
  ∃ W:Nat -> Nat -> St -> Hp -> Prop,(∃ m,W 0 m σ H) /\ ∀ i m σ H,W i m σ H ->
   ((Itr lo n).stop i H /\ D.nx σ H) \/ ((Itr lo n).go i H /\ ∃ N:St -> Hp -> Prop,(∀ σ' H',N σ' H' -> ∃ m',m' < m /\ W (i + 1) m' σ' H') /\ ∀ x H',(Itr lo n).yld i H x H' -> g x σ H' fun σ2 H2=>tb { D with nx:=N,ct:=N,bk:=D.nx } σ2 H2):=by
 refine ⟨fun i m σ H=>m = n - i /\ i <= n /\ Pv i σ H,⟨n,by simp,Nat.zero_le _,h0⟩,?_⟩
 rintro i m σ H ⟨rfl,hi,p⟩
 by_cases hlt:i < n
 ·refine .inr ⟨hlt,Pv (i + 1),fun σ' H' p'=>⟨n - (i + 1),by omega,rfl,hlt,p'⟩,fun x H' y=>?_⟩
  obtain ⟨e,y⟩:=y
  subst e y
  exact hs i σ _ hlt p
 ·have e:i = n:=by omega
  subst e
  exact .inl ⟨Nat.le_refl _,hd σ H p⟩
end L2
namespace L2
open PySem PySem.Spec PyProof.Rows
abbrev R2:=V -> V -> Hp -> VK -> Prop
def OpR (X:Cx) (f:Value -> Value -> Sem Value) (r:R2):Prop :=
 ∀ (pins:List (Addr × Obj)) (s:Shared) (σ:St) (H:Hp) (x y:V) (v u:Value) (Q:VK),Inv X pins σ H s -> RelV x v -> RelV y u -> r x y H Q ->
  wpAny (model X.prog X.w) X.A (f v u) (EP X pins σ Q) X.xe s
def UnR (X:Cx) (f:Value -> Sem Value) (r:V -> Hp -> VK -> Prop):Prop :=
 ∀ (pins:List (Addr × Obj)) (s:Shared) (σ:St) (H:Hp) (x:V) (v:Value) (Q:VK),Inv X pins σ H s -> RelV x v -> r x H Q ->
  wpAny (model X.prog X.w) X.A (f v) (EP X pins σ Q) X.xe s
def wJ (X:Cx) (f:Value) (r:List V -> Hp -> VK -> Prop):Prop :=
 ∀ (pins:List (Addr × Obj)) (s:Shared) (σ:St) (H:Hp) (xs:List V) (us:List Value) (Q:VK),Inv X pins σ H s -> Vals xs us -> r xs H Q ->
  wpAny (model X.prog X.w) X.A (call f us) (EP X pins σ Q) X.xe s
def JT (X:Cx) (r:V -> Hp -> (Bool -> Hp -> Prop) -> Prop):Prop :=
 ∀ (pins:List (Addr × Obj)) (s:Shared) (σ:St) (H:Hp) (x:V) (v:Value) (Q:Bool -> Hp -> Prop),Inv X pins σ H s -> RelV x v -> r x H Q ->
  wpAny (model X.prog X.w) X.A (truthy v) (TP X pins σ Q) X.xe s
def tOp (r:R2) (ta tb:TE):TE:=fun σ H Q=>ta σ H fun x H1=>tb σ H1 fun y H2=>r x y H2 Q
def tUn (r:V -> Hp -> VK -> Prop) (ta:TE):TE:=fun σ H Q=>ta σ H fun x H1=>r x H1 Q
def rI (C:Int -> Int -> Prop) (g:Int -> Int -> V):R2:=fun x y H Q=>∃ i j,x = .int i /\ y = .int j /\ C i j /\ Q (g i j) H
def rI0 (g:Int -> Int -> V):R2:=fun x y H Q=>∃ i j,x = .int i /\ y = .int j /\ Q (g i j) H
def rU (g:Int -> V):V -> Hp -> VK -> Prop:=fun x H Q=>∃ i,x = .int i /\ Q (g i) H
section
variable {X:Cx} {a b c:Expr} {ta tb tc:TE} {pos:Pos}
theorem QE (ha:PE X a ta) (hb:PE X b tb) {pins:List (Addr × Obj)} {s:Shared} {σ:St} {H:Hp} {R:V -> V -> Hp -> Prop} (I:Inv X pins σ H s)
  (h:ta σ H fun x H1=>tb σ H1 fun y H2=>R x y H2) {Q:Value -> Shared -> Prop} {f:Value -> Value -> Sem Value}
  (hf:∀ v u s2 x y H2,Inv X pins σ H2 s2 -> RelV x v -> RelV y u -> R x y H2 -> wpAny (model X.prog X.w) X.A (f v u) Q X.xe s2) :
  wpAny (model X.prog X.w) X.A (eval a X.env) (fun v s₁=>wpAny (model X.prog X.w) X.A (eval b X.env) (fun u s₂=>wpAny (model X.prog X.w) X.A (f v u) Q X.xe s₂) X.xe s₁) X.xe s:=by
 refine thn (ha pins s σ H _ I h) fun v s1 ⟨x,H1,I1,r1,q1⟩=>?_
 refine thn (hb pins s1 σ H1 _ I1 q1) fun u s2 ⟨y,H2,I2,r2,q2⟩=>?_
 exact hf v u s2 x y H2 I2 r1 r2 q2
theorem zw {op:Operator} {r:R2} (ho:OpR X (binaryOp op) r) (ha:PE X a ta) (hb:PE X b tb):PE X (.BinOp a op b pos) (tOp r ta tb):=by
 intro pins s σ H Q I h
 exact wpAny_BinOp (QE ha hb I h fun v u s2 x y H2 I2 rx ry q=>ho pins s2 σ H2 x y v u Q I2 rx ry q)
theorem Qw {op:UnaryOp} {r:V -> Hp -> VK -> Prop} (ho:UnR X (unaryOp op) r) (ha:PE X a ta):PE X (.UnaryOp op a pos) (tUn r ta):=by
 intro pins s σ H Q I h
 exact UnaryOp_ (thn (ha pins s σ H _ I h) fun v s1 ⟨x,H1,I1,r1,q1⟩=>ho pins s1 σ H1 x v Q I1 r1 q1)
theorem opI {f:Value -> Value -> Sem Value} {C:Int -> Int -> Prop} {g:Int -> Int -> Int}
  (rule:∀ (i j:Int) (t u:Tok) (s:Shared) (Q:Value -> Shared -> Prop) (E:Value -> Shared -> Prop),C i j -> Q (.int (g i j) s.toks) { s with toks:=s.toks + 1 } -> wpAny (model X.prog X.w) X.A (f (.int i t) (.int j u)) Q E s) :
  OpR X f (rI C fun i j=>.int (g i j)):=by
 intro pins s σ H x y v u Q I rx ry h
 obtain ⟨i,j,rfl,rfl,hc,q⟩:=h
 obtain ⟨t,rfl⟩:=rx
 obtain ⟨t',rfl⟩:=ry
 exact rule i j t t' s _ _ hc ⟨.int (g i j),H,I.tok _,⟨_,rfl⟩,q⟩
theorem Jy {f:Value -> Value -> Sem Value} {g:Int -> Int -> Int}
  (rule:∀ (i j:Int) (t u:Tok) (s:Shared) (Q:Value -> Shared -> Prop) (E:Value -> Shared -> Prop),Q (.int (g i j) s.toks) { s with toks:=s.toks + 1 } -> wpAny (model X.prog X.w) X.A (f (.int i t) (.int j u)) Q E s) :
  OpR X f (rI0 fun i j=>.int (g i j)):=by
 intro pins s σ H x y v u Q I rx ry h
 obtain ⟨i,j,rfl,rfl,q⟩:=h
 obtain ⟨t,rfl⟩:=rx
 obtain ⟨t',rfl⟩:=ry
 exact rule i j t t' s _ _ ⟨.int (g i j),H,I.tok _,⟨_,rfl⟩,q⟩
theorem U6 {f:Value -> Value -> Sem Value} {g:Int -> Int -> Bool}
  (rule:∀ (i j:Int) (t u:Tok) (s:Shared) (Q:Value -> Shared -> Prop) (E:Value -> Shared -> Prop),Q (.bool (g i j)) s -> wpAny (model X.prog X.w) X.A (f (.int i t) (.int j u)) Q E s) :
  OpR X f (rI0 fun i j=>.bl (g i j)):=by
 intro pins s σ H x y v u Q I rx ry h
 obtain ⟨i,j,rfl,rfl,q⟩:=h
 obtain ⟨t,rfl⟩:=rx
 obtain ⟨t',rfl⟩:=ry
 exact rule i j t t' s _ _ ⟨.bl (g i j),H,I,rfl,q⟩
def JH (i j:Int):Prop:=0 < j /\ j < 1073741824
def CMul (i j:Int):Prop:=(-(2 ^ 64) < i /\ i < 2 ^ 64) \/ (-(2 ^ 64) < j /\ j < 2 ^ 64)
theorem CMul.ok {i j:Int} (h:CMul i j):IntMulOk i j:=by
 rcases h with ⟨h1,h2⟩ | ⟨h1,h2⟩
 ·exact .of_left (intBits_le_64 h1 h2)
 ·exact .of_right (intBits_le_64 h1 h2)
theorem op_add:OpR X (binaryOp .Add) (rI0 fun i j=>.int (i + j)):=Jy fun _ _ _ _ _ _ _ q=>add_int q
theorem jr:OpR X (binaryOp .Sub) (rI0 fun i j=>.int (i - j)):=Jy fun _ _ _ _ _ _ _ q=>sub_int q
theorem op_mul:OpR X (binaryOp .Mult) (rI CMul fun i j=>.int (i * j)):=opI fun _ _ _ _ _ _ _ hc q=>mul_int q hc.ok
theorem wv:OpR X (binaryOp .FloorDiv) (rI JH fun i j=>.int (i / j)):=opI fun i j _ _ _ _ _ hc q=>by
 have h1:(0:Int) < j:=hc.1
 have h2:j < 1073741824:=hc.2
 exact floordiv_int (by omega) (by rw [Int.fdiv_eq_ediv_of_nonneg i (by omega)]; exact q) (.inl (PyProof.noPylong_small (by omega)))
theorem yA:OpR X (binaryOp .Mod) (rI (fun _ j=>0 < j) fun i j=>.int (i % j)):=opI fun i j _ _ _ _ _ hc q=>by
 have h1:(0:Int) < j:=hc
 exact mod_int' (by omega) (by rw [Int.fmod_eq_emod_of_nonneg i (by omega)]; exact q)
theorem unI {f:Value -> Sem Value} {g:Int -> Int}
  (rule:∀ (i:Int) (t:Tok) (s:Shared) (Q:Value -> Shared -> Prop) (E:Value -> Shared -> Prop),Q (.int (g i) s.toks) { s with toks:=s.toks + 1 } -> wpAny (model X.prog X.w) X.A (f (.int i t)) Q E s) :
  UnR X f (rU fun i=>.int (g i)):=by
 intro pins s σ H x v Q I rx h
 obtain ⟨i,rfl,q⟩:=h
 obtain ⟨t,rfl⟩:=rx
 exact rule i t s _ _ ⟨.int (g i),H,I.tok _,⟨_,rfl⟩,q⟩
theorem Uo:UnR X (unaryOp .USub) (rU fun i=>.int (-i)):=unI fun _ _ _ _ _ q=>neg_int q
end
def Vg:V -> V -> Bool
 | .non,.non=>true | .non,.int _=>true | .int _,.non=>true | .non,.bl _=>true | .bl _,.non=>true | .non,.str _=>true | .str _,.non=>true
 | .int _,.int _=>true | .bl _,.bl _=>true | .str _,.str _=>true | .byt _,.byt _=>true
 | .int _,.str _=>true | .str _,.int _=>true | .bl _,.str _=>true | .str _,.bl _=>true
 | _,_=>false
def rEq:R2:=fun x y H Q=>Vg x y = true /\ Q (.bl (decide (x = y))) H
def rNe:R2:=fun x y H Q=>Vg x y = true /\ Q (.bl (!decide (x = y))) H
theorem ZU {i j:Int}:decide (V.int i = V.int j) = (i == j):=by
 rw [Bool.eq_iff_iff]
 simp
theorem WH {i j:Bool}:decide (V.bl i = V.bl j) = (i == j):=by
 rw [Bool.eq_iff_iff]
 simp
theorem Z2 {i j:Str}:decide (V.str i = V.str j) = (i == j):=by
 rw [Bool.eq_iff_iff]
 simp
theorem Xd {i j:Array UInt8}:decide (V.byt i = V.byt j) = (i.toList == j.toList):=by
 rw [Bool.eq_iff_iff]
 cases i
 cases j
 simp
section
variable {X:Cx} {a b c:Expr} {ta tb tc:TE} {pos:Pos}
theorem zO {pins:List (Addr × Obj)} {σ:St} {H:Hp} {s:Shared} {Q:VK} {k k':Bool} (I:Inv X pins σ H s) (q:Q (.bl k) H) (e:k = k'):EP X pins σ Q (.bool k') s:=by
 subst e
 exact ⟨.bl k,H,I,rfl,q⟩
theorem qA:OpR X (compareOp .Eq) rEq:=by
 intro pins s σ H x y v u Q I rx ry h
 obtain ⟨hs,q⟩:=h
 cases x with
 | non =>
  cases rx
  cases y with
  | non=>cases ry; exact PySem.EqNone.eq_none_none (zO I q (by simp))
  | bl j=>cases ry; exact PySem.EqNone.eq_none_bool (zO I q (by simp))
  | int j=>obtain ⟨t',rfl⟩:=ry; exact PySem.EqNone.eq_none_int (zO I q (by simp))
  | str j=>obtain ⟨t',rfl⟩:=ry; exact PySem.EqNone.eq_none_str (zO I q (by simp))
  | _=>exact absurd (show false = true from hs) Bool.false_ne_true
 | bl i =>
  cases rx
  cases y with
  | non=>cases ry; exact PySem.EqNone.eq_bool_none (zO I q (by simp))
  | bl j=>cases ry; exact eq_bool (zO I q WH)
  | str j=>obtain ⟨t',rfl⟩:=ry; exact PySem.EqMixed.eq_bool_str (zO I q (by simp))
  | _=>exact absurd (show false = true from hs) Bool.false_ne_true
 | int i =>
  obtain ⟨t,rfl⟩:=rx
  cases y with
  | non=>cases ry; exact PySem.EqNone.eq_int_none (zO I q (by simp))
  | int j=>obtain ⟨t',rfl⟩:=ry; exact eq_int (zO I q ZU)
  | str j=>obtain ⟨t',rfl⟩:=ry; exact PySem.EqMixed.eq_int_str (zO I q (by simp))
  | _=>exact absurd (show false = true from hs) Bool.false_ne_true
 | str i =>
  obtain ⟨t,rfl⟩:=rx
  cases y with
  | non=>cases ry; exact PySem.EqNone.eq_str_none (zO I q (by simp))
  | bl j=>cases ry; exact PySem.EqMixed.eq_str_bool (zO I q (by simp))
  | int j=>obtain ⟨t',rfl⟩:=ry; exact PySem.EqMixed.eq_str_int (zO I q (by simp))
  | str j=>obtain ⟨t',rfl⟩:=ry; exact eq_str (zO I q Z2)
  | _=>exact absurd (show false = true from hs) Bool.false_ne_true
 | byt i =>
  obtain ⟨t,rfl⟩:=rx
  cases y with
  | byt j=>obtain ⟨t',rfl⟩:=ry; exact PySem.W.eq_bytes (zO I q Xd)
  | _=>exact absurd (show false = true from hs) Bool.false_ne_true
 | _=>cases y <;> exact absurd (show false = true from hs) Bool.false_ne_true
theorem jW:OpR X (compareOp .NotEq) rNe:=by
 intro pins s σ H x y v u Q I rx ry h
 obtain ⟨hs,q⟩:=h
 cases x with
 | non =>
  cases rx
  cases y with
  | non=>cases ry; exact PySem.EqNone.ne_none_none (zO I q (by simp))
  | bl j=>cases ry; exact PySem.EqNone.ne_none_bool (zO I q (by simp))
  | int j=>obtain ⟨t',rfl⟩:=ry; exact PySem.EqNone.ne_none_int (zO I q (by simp))
  | str j=>obtain ⟨t',rfl⟩:=ry; exact PySem.EqNone.ne_none_str (zO I q (by simp))
  | _=>exact absurd (show false = true from hs) Bool.false_ne_true
 | bl i =>
  cases rx
  cases y with
  | non=>cases ry; exact PySem.EqNone.ne_bool_none (zO I q (by simp))
  | bl j=>cases ry; exact ne_bool (zO I q (congrArg not WH))
  | str j=>obtain ⟨t',rfl⟩:=ry; exact PySem.EqMixed.ne_bool_str (zO I q (by simp))
  | _=>exact absurd (show false = true from hs) Bool.false_ne_true
 | int i =>
  obtain ⟨t,rfl⟩:=rx
  cases y with
  | non=>cases ry; exact PySem.EqNone.ne_int_none (zO I q (by simp))
  | int j=>obtain ⟨t',rfl⟩:=ry; exact ne_int (zO I q (congrArg not ZU))
  | str j=>obtain ⟨t',rfl⟩:=ry; exact PySem.EqMixed.ne_int_str (zO I q (by simp))
  | _=>exact absurd (show false = true from hs) Bool.false_ne_true
 | str i =>
  obtain ⟨t,rfl⟩:=rx
  cases y with
  | non=>cases ry; exact PySem.EqNone.ne_str_none (zO I q (by simp))
  | bl j=>cases ry; exact PySem.EqMixed.ne_str_bool (zO I q (by simp))
  | int j=>obtain ⟨t',rfl⟩:=ry; exact PySem.EqMixed.ne_str_int (zO I q (by simp))
  | str j=>obtain ⟨t',rfl⟩:=ry; exact ne_str (zO I q (congrArg not Z2))
  | _=>exact absurd (show false = true from hs) Bool.false_ne_true
 | byt i =>
  obtain ⟨t,rfl⟩:=rx
  cases y with
  | byt j=>obtain ⟨t',rfl⟩:=ry; exact PySem.W.ne_bytes (zO I q (congrArg not Xd))
  | _=>exact absurd (show false = true from hs) Bool.false_ne_true
 | _=>cases y <;> exact absurd (show false = true from hs) Bool.false_ne_true
theorem op_lt:OpR X (compareOp .Lt) (rI0 fun i j=>.bl (decide (i < j))):=U6 fun _ _ _ _ _ _ _ q=>lt_int q
theorem op_le:OpR X (compareOp .LtE) (rI0 fun i j=>.bl (decide (i <= j))):=U6 fun _ _ _ _ _ _ _ q=>le_int q
theorem op_gt:OpR X (compareOp .Gt) (rI0 fun i j=>.bl (decide (j < i))):=U6 fun _ _ _ _ _ _ _ q=>gt_int q
theorem Qs:OpR X (compareOp .GtE) (rI0 fun i j=>.bl (decide (j <= i))):=U6 fun _ _ _ _ _ _ _ q=>ge_int q
theorem Yg:OpR X (compareOp .Lt) (fun x y H Q=>∃ i j,x = .str i /\ y = .str j /\ Q (.bl (decide (i.cps.toList < j.cps.toList))) H):=by
 intro pins s σ H x y v u Q I rx ry h
 obtain ⟨i,j,rfl,rfl,q⟩:=h
 obtain ⟨t,rfl⟩:=rx
 obtain ⟨t',rfl⟩:=ry
 exact lt_str (zO I q rfl)
theorem Ue:OpR X (compareOp .Is) (fun x y H Q=>y = .non /\ Q (.bl (decide (x = .non))) H):=by
 intro pins s σ H x y v u Q I rx ry h
 obtain ⟨rfl,q⟩:=h
 cases ry
 refine is_none_gen (zO I q ?_)
 cases x <;> first
  | (cases rx; rfl)
  | (obtain ⟨t,rfl⟩:=rx; rfl)
theorem Ve:OpR X (compareOp .IsNot) (fun x y H Q=>y = .non /\ Q (.bl (!decide (x = .non))) H):=by
 intro pins s σ H x y v u Q I rx ry h
 obtain ⟨rfl,q⟩:=h
 cases ry
 refine isnot_none_gen (zO I q ?_)
 cases x <;> first
  | (cases rx; rfl)
  | (obtain ⟨t,rfl⟩:=rx; rfl)
theorem OpR.or {f:Value -> Value -> Sem Value} {r r':R2} (h:OpR X f r) (h':OpR X f r'):OpR X f (fun x y H Q=>r x y H Q \/ r' x y H Q):=by
 intro pins s σ H x y v u Q I rx ry q
 rcases q with q | q
 ·exact h pins s σ H x y v u Q I rx ry q
 ·exact h' pins s σ H x y v u Q I rx ry q
theorem zG (b:Expr) {op:CmpOp} (h:op ≠ .In:=by decide) (h2:op ≠ .NotIn:=by decide):behindInMarks op b = false:=by
 have e1:(op == CmpOp.In) = false:=by cases op <;> first | rfl | exact absurd rfl h
 have e2:(op == CmpOp.NotIn) = false:=by cases op <;> first | rfl | exact absurd rfl h2
 cases b <;> simp [behindInMarks,e1,e2]
theorem ve {op:CmpOp} {r:R2} (ho:OpR X (compareOp op) r) (ha:PE X a ta) (hb:PE X b tb) (hm:behindInMarks op b = false):PE X (.Compare a [op] [b] pos) (tOp r ta tb):=by
 intro pins s σ H Q I h
 exact wpAny_Compare1 (QE ha hb I h fun v u s2 x y H2 I2 rx ry q=>ho pins s2 σ H2 x y v u Q I2 rx ry q) hm
def Vr (t:TE):TT:=fun σ H Q=>t σ H fun x H'=>∃ k,x = .bl k /\ Q k H'
theorem zy {op:CmpOp} {r:R2} (ho:OpR X (compareOp op) r) (ha:PE X a ta) (hb:PE X b tb) (hm:behindInMarks op b = false):PT X (.Compare a [op] [b] pos) (Vr (tOp r ta tb)):=by
 intro pins s σ H Q I h
 refine wpAny_isTrue_Compare1 (thn (ha pins s σ H _ I h) fun v s1 ⟨x,H1,I1,r1,q1⟩=>thn (hb pins s1 σ H1 _ I1 q1) fun u s2 ⟨y,H2,I2,r2,q2⟩ =>
  thn (ho pins s2 σ H2 x y v u _ I2 r1 r2 q2) fun c s3 ⟨z,H3,I3,r3,k,e,q3⟩=>?_) hm
 subst e
 cases r3
 exact wpAny_truthy_bool ⟨H3,I3,q3⟩
def ZE (r r':R2) (ta tb tc:TE):TE:=fun σ H Q=>ta σ H fun x H1=>tb σ H1 fun y H2=>r x y H2 fun z H3=>∃ k,z = .bl k /\
 (if k = true then tc σ H3 fun w' H4=>r' y w' H4 Q else Q (.bl false) H3)
theorem Wo {op op':CmpOp} {r r':R2} (ho:OpR X (compareOp op) r) (ho':OpR X (compareOp op') r') (ha:PE X a ta) (hb:PE X b tb) (hc:PE X c tc)
  (hm:lastMarks [op,op'] [b,c] = false:=by with_unfolding_all rfl):PE X (.Compare a [op,op'] [b,c] pos) (ZE r r' ta tb tc):=by
 intro pins s σ H Q I h
 refine Compare_chain (thn (ha pins s σ H _ I h) fun v s1 ⟨x,H1,I1,r1,q1⟩=>chain_link (thn (hb pins s1 σ H1 _ I1 q1) fun u s2 ⟨y,H2,I2,r2,q2⟩ =>
  thn (ho pins s2 σ H2 x y v u _ I2 r1 r2 q2) fun d s3 ⟨z,H3,I3,r3,k,e,q3⟩=>?_)) hm
 subst e
 cases r3
 refine wpAny_truthy_bool ?_
 cases k with
 | false=>exact ite_ff ⟨.bl false,H3,I3,rfl,q3⟩
 | true=>exact ite_tt (chain_last (thn (hc pins s3 σ H3 _ I3 q3) fun w' s4 ⟨z',H4,I4,r4,q4⟩=>ho' pins s4 σ H4 y z' u w' Q I4 r2 r4 q4))
theorem wQ {op op':CmpOp} {r r':R2} (ho:OpR X (compareOp op) r) (ho':OpR X (compareOp op') r') (ha:PE X a ta) (hb:PE X b tb) (hc:PE X c tc)
  (hm:lastMarks [op,op'] [b,c] = false:=by with_unfolding_all rfl):PT X (.Compare a [op,op'] [b,c] pos) (Vr (ZE r r' ta tb tc)):=by
 intro pins s σ H Q I h
 refine isTrue_chain (thn (ha pins s σ H _ I h) fun v s1 ⟨x,H1,I1,r1,q1⟩=>test_link (thn (hb pins s1 σ H1 _ I1 q1) fun u s2 ⟨y,H2,I2,r2,q2⟩ =>
  thn (ho pins s2 σ H2 x y v u _ I2 r1 r2 q2) fun d s3 ⟨z,H3,I3,r3,k,e,q3⟩=>?_)) hm
 subst e
 cases r3
 refine wpAny_truthy_bool ?_
 cases k with
 | false =>
  obtain ⟨k',e',q'⟩:=q3
  cases e'
  exact ite_ff ⟨H3,I3,q'⟩
 | true =>
  refine ite_tt (test_last (thn (hc pins s3 σ H3 _ I3 q3) fun w' s4 ⟨z',H4,I4,r4,q4⟩=>thn (ho' pins s4 σ H4 y z' u w' _ I4 r2 r4 q4) fun d' s5 ⟨z2,H5,I5,r5,k2,e2,q5⟩=>?_))
  subst e2
  cases r5
  exact wpAny_truthy_bool ⟨H5,I5,q5⟩
def VO (K:PySem.W.Frag) (x:V) (H:Hp) (k:Bool):Prop :=
 match x with
 | .non=>k = false
 | .bl b=>k = b
 | .int i=>k = (i != 0)
 | .str y=>y.length <= sizeLine /\ k = ((y.length:Int) != 0)
 | .byt y=>y.size <= sizeLine /\ k = ((y.size:Int) != 0)
 | .ref p=>(∃ xs,SqL K H p xs /\ k = !xs.isEmpty) \/ (∃ xs,SqT K H p xs /\ k = !xs.isEmpty) \/ ∃ kvs,H p = some (.dK kvs) /\ k = !kvs.isEmpty
 | _=>False
theorem Zq {κ:Type} {kvs:List (κ × V)} {vs:List (κ × Value)} (r:KV kvs vs):(!vs.isEmpty) = !kvs.isEmpty:=by
 cases r <;> rfl
theorem uN {xs:List V} {its:List Value} (r:Vals xs its):(!its.toArray.isEmpty) = !xs.isEmpty:=by
 cases r <;> simp
theorem uJ:(sizeLine:Nat) < 2 ^ 63:=by rw [sizeLine_eq]; decide
theorem Ww:JT X (fun x H Q=>∃ k,VO X.K x H k /\ Q k H):=by
 intro pins s σ H x v Q I rx h
 obtain ⟨k,e,q⟩:=h
 have hl:=uJ
 have hs:sizeLine = 16777216:=sizeLine_eq
 cases x with
 | non =>
  cases rx
  have e':k = false:=e
  subst e'
  exact truthy_none ⟨H,I,q⟩
 | bl b =>
  cases rx
  have e':k = b:=e
  subst e'
  exact wpAny_truthy_bool ⟨H,I,q⟩
 | int i =>
  obtain ⟨t,rfl⟩:=rx
  have e':k = (i != 0):=e
  subst e'
  exact PySem.P.truthy_int ⟨H,I,q⟩
 | str y =>
  obtain ⟨t,rfl⟩:=rx
  obtain ⟨hy,e'⟩:y.length <= sizeLine /\ k = ((y.length:Int) != 0):=e
  subst e'
  exact PySem.P.truthy_str (by omega) ⟨H,I.tok _,q⟩
 | byt y =>
  obtain ⟨t,rfl⟩:=rx
  obtain ⟨hy,e'⟩:y.size <= sizeLine /\ k = ((y.size:Int) != 0):=e
  subst e'
  exact PySem.W.truthy_bytes (by omega) ⟨H,I.tok _,q⟩
 | ref p =>
  cases rx
  have e':(∃ xs,SqL X.K H p xs /\ k = !xs.isEmpty) \/ (∃ xs,SqT X.K H p xs /\ k = !xs.isEmpty) \/ ∃ kvs,H p = some (.dK kvs) /\ k = !kvs.isEmpty:=e
  rcases e' with ⟨xs,hx,e'⟩ | ⟨xs,hx,e'⟩ | ⟨kvs,hx,e'⟩
  ·subst e'
   obtain ⟨its,r,pl,hz⟩:=I.list hx
   have hlen:=r.length
   exact wpAny_truthy_list pl.isList (by simp only [List.size_toArray]; omega) ⟨H,I.tok _,by rw [uN r]; exact q⟩
  ·subst e'
   obtain ⟨its,r,pl,hz⟩:=I.tuple hx
   have hlen:=r.length
   exact truthy_tuple pl (by simp only [List.size_toArray]; omega) ⟨H,I.tok _,by rw [uN r]; exact q⟩
  ·subst e'
   obtain ⟨hz,hS,vs,r,m⟩:kvs.length <= sizeLine /\ (p == sysModules) = false /\ ∃ vs,KV kvs vs /\ s.heap.DictOf (jw X.prog X.w) p vs:=I.hok p _ hx
   have hlen:kvs.length = vs.length:=Paired.length r
   exact wpAny_truthy_dict hS m (by omega) ⟨H,I.tok _,by rw [Zq r]; exact q⟩
 | _=>exact (show False from e).elim
theorem kH (ha:PE X a ta) (he:∀ whole,isTrue a X.env whole = (do let v <- whole; standAt a.pos; holding [v] (truthy v))) :
  PT X a (fun σ H Q=>ta σ H fun x H'=>∃ k,VO X.K x H' k /\ Q k H'):=by
 intro pins s σ H Q I h
 exact isTrue_plain (thn (ha pins s σ H _ I h) fun v s1 ⟨x,H1,I1,r1,q1⟩=>Ww pins s1 σ H1 x v Q I1 r1 q1) (he _)
theorem op_add_str:OpR X (binaryOp .Add) (fun x y H Q=>∃ i j,x = .str i /\ y = .str j /\ i.length + j.length <= sizeLine /\ Q (.str (i ++ j)) H):=by
 intro pins s σ H x y v u Q I rx ry h
 obtain ⟨i,j,rfl,rfl,hz,q⟩:=h
 obtain ⟨t,rfl⟩:=rx
 obtain ⟨t',rfl⟩:=ry
 exact add_str (fun t' tk=>⟨.str (i ++ j),H,I.tok _,⟨_,rfl⟩,q⟩) hz
theorem vm {x:V} {us:List Value} (r:Vals [x] us):∃ u,us = [u] /\ RelV x u:=by
 cases r with
 | cons r1 r2=>cases r2; exact ⟨_,rfl,r1⟩
theorem Zg {x y:V} {us:List Value} (r:Vals [x,y] us):∃ u w',us = [u,w'] /\ RelV x u /\ RelV y w':=by
 cases r with
 | cons r1 r2 =>
  cases r2 with
  | cons r3 r4=>cases r4; exact ⟨_,_,rfl,r1,r3⟩
theorem YN (hc:X.calm = true):wJ X (.builtin "max") (fun xs H Q=>∃ i j,xs = [.int i,.int j] /\ Q (.int (if j > i then j else i)) H):=by
 intro pins s σ H xs us Q I r h
 obtain ⟨i,j,rfl,q⟩:=h
 obtain ⟨u,w',rfl,⟨t,rfl⟩,⟨t',rfl⟩⟩:=Zg r
 refine max_two_ints (I.ok.hd hc) fun h' tk k=>⟨_,H,I.kept k,?_,q⟩
 by_cases hj:j > i
 ·rw [if_pos hj,if_pos hj]; exact ⟨_,rfl⟩
 ·rw [if_neg hj,if_neg hj]; exact ⟨_,rfl⟩
theorem Yk (hc:X.calm = true):wJ X (.builtin "min") (fun xs H Q=>∃ i j,xs = [.int i,.int j] /\ Q (.int (if j < i then j else i)) H):=by
 intro pins s σ H xs us Q I r h
 obtain ⟨i,j,rfl,q⟩:=h
 obtain ⟨u,w',rfl,⟨t,rfl⟩,⟨t',rfl⟩⟩:=Zg r
 refine min_two_ints (I.ok.hd hc) fun h' tk k=>⟨_,H,I.kept k,?_,q⟩
 by_cases hj:j < i
 ·rw [if_pos hj,if_pos hj]; exact ⟨_,rfl⟩
 ·rw [if_neg hj,if_neg hj]; exact ⟨_,rfl⟩
def Q3 (K:PySem.W.Frag) (x:V) (H:Hp) (n:Nat):Prop :=
 match x with
 | .str y=>y.length <= sizeLine /\ n = y.length
 | .byt y=>y.size <= sizeLine /\ n = y.size
 | .ref p=>(∃ xs,SqL K H p xs /\ n = xs.length) \/ ∃ xs,SqT K H p xs /\ n = xs.length
 | _=>False
theorem XH:wJ X (.builtin "len") (fun xs H Q=>∃ x n,xs = [x] /\ Q3 X.K x H n /\ Q (.int n) H):=by
 intro pins s σ H xs us Q I r h
 obtain ⟨x,n,rfl,e,q⟩:=h
 obtain ⟨u,rfl,rx⟩:=vm r
 have hl:=uJ
 have hs:sizeLine = 16777216:=sizeLine_eq
 cases x with
 | str y =>
  obtain ⟨t,rfl⟩:=rx
  obtain ⟨hy,e'⟩:y.length <= sizeLine /\ n = y.length:=e
  subst e'
  exact len_str (by omega) ⟨.int _,H,I.tok _,⟨_,rfl⟩,q⟩
 | byt y =>
  obtain ⟨t,rfl⟩:=rx
  obtain ⟨hy,e'⟩:y.size <= sizeLine /\ n = y.size:=e
  subst e'
  exact PySem.W.len_bytes (by omega) ⟨.int _,H,I.tok _,⟨_,rfl⟩,q⟩
 | ref p =>
  cases rx
  have e':(∃ xs,SqL X.K H p xs /\ n = xs.length) \/ ∃ xs,SqT X.K H p xs /\ n = xs.length:=e
  rcases e' with ⟨xs,hx,e'⟩ | ⟨xs,hx,e'⟩
  ·subst e'
   obtain ⟨its,r',pl,hz⟩:=I.list hx
   have hlen:=r'.length
   exact Calls.call_len_list pl.isList (by simp only [List.size_toArray]; omega) ⟨.int xs.length,H,I.tok _,⟨_,by simp only [List.size_toArray]; rw [hlen]⟩,q⟩
  ·subst e'
   obtain ⟨its,r',pl,hz⟩:=I.tuple hx
   have hlen:=r'.length
   exact len_tuple pl (by simp only [List.size_toArray]; omega) ⟨.int xs.length,H,I.tok _,⟨_,by simp only [List.size_toArray]; rw [hlen]⟩,q⟩
 | _=>exact (show False from e).elim
end
end L2
namespace L2
open PySem PySem.Spec PyProof.Rows
structure ObjM (h:Heap) (x dx C:Addr) (mA:Str -> Option Value):Prop where
 obj:h.get? x = some (PySem.W.instObj C dx)
 ns:h.Ns1 dx mA
 ne:dx ≠ x
theorem YW {h:Heap} {dx:Addr} {mA:Str -> Option Value} (n:h.Ns1 dx mA):∃ od,h.get? dx = some od /\ ∀ name,PySem.W.lookIn name od = some (mA name):=by
 obtain ⟨o,es,ep,ho,hd,hk,_,hm⟩:=n
 refine ⟨o,ho,fun name=>?_⟩
 have e:=hm name
 unfold nsFind findBy at e
 rw [<- Array.find?_toList] at e
 unfold PySem.W.lookIn
 rw [hd]
 dsimp only
 split
 ·rename_i y q
  rw [q] at e
  exact congrArg some e
 ·rename_i q
  rw [q] at e
  have a:es.toList.any (·.refKey) = false:=by
   rw [List.any_eq_false]
   intro y hy
   obtain ⟨z,t,hkey⟩:=hk y (Array.mem_toList_iff.mp hy)
   simp [DictEntry.refKey,hkey]
  have a':¬ es.toList.any (·.refKey) = true:=by rw [a]; exact Bool.false_ne_true
  rw [if_neg a']
  exact congrArg some e
theorem ObjM.look {h:Heap} {x dx C:Addr} {mA:Str -> Option Value} (I:ObjM h x dx C mA):∃ od,PySem.W.InstAt h x (PySem.W.instObj C dx) C (some od) /\ ∀ name,PySem.W.lookIn name od = some (mA name) :=
 let ⟨od,ho,hl⟩:=YW I.ns
 ⟨od,⟨I.obj,rfl,rfl,ho⟩,hl⟩
section
variable {prog:Program} {w:World} {A:Around} {E:Value -> Shared -> Prop} {s:Shared} {K:PySem.W.Frag} {x dx C f:Addr} {mA:Str -> Option Value} {name:Str} {v:Value}
theorem Vl {expr:Bool} {Q:Value -> Shared -> Prop} (X:K.In s.heap) (I:ObjM s.heap x dx C mA) (hg:PySem.W.plainGet K C name = true) (hh:PySem.W.hasDictIn K C = true)
  (ha:PySem.W.findIn K (.ref C) name = some none) (hv:mA name = some v) (hv':PySem.W.handedIn v = true) (h:Q v { s with toks:=s.toks + 1 }) :
  wpAny (model prog w) A (getAttr (.ref x) name expr) Q E s:=by
 obtain ⟨od,J,hl⟩:=I.look
 exact PySem.W.get_value X J (PySem.W.plainGet_of hg).1 (PySem.W.findObj_own hh ha rfl (by rw [hl,hv])) hv' h
theorem X0 {pl:Sem Bool} {Q:Value × List Value -> Shared -> Prop} (X:K.In s.heap) (I:ObjM s.heap x dx C mA) (hg:PySem.W.plainGet K C name = true)
  (hf:PySem.W.findIn K (.ref C) name = some (some (.ref f))) (ht:PySem.W.isFn K (.ref f) = true) (hv:mA name = none) (h:Q (.ref f,[.ref x]) s) :
  wpAny (model prog w) A (getMethod (.ref x) name pl) Q E s:=by
 obtain ⟨od,J,hl⟩:=I.look
 exact PySem.W.method_fn X J (PySem.W.plainGet_of hg).1 (PySem.W.plainGet_of hg).2 hf (beq_iff_eq.mp ht) (by show (PySem.W.lookIn name od).map (·.isSome) = some false; rw [hl,hv]; rfl) h
theorem Va {ns:List Str} {Q:Unit -> Shared -> Prop} (X:K.In s.heap) (I:ObjM s.heap x dx C mA)
  (hs:PySem.W.findIn K (.ref C) "__setattr__" = some (some (.builtin "object.__setattr__"))) (hp:PySem.W.plainOver K C = true) (ht:PySem.W.takerIn K C name = some none) (hh:PySem.W.hasDictIn K C = true)
  (hw:PySem.Within mA ns) (hsz:ns.length <= sizeLine)
  (h:∀ h',ObjM h' x dx C (fun y=>if y = name then some v else mA y) -> Heap.SameBut dx s.heap h' -> Q () { s with heap:=h',toks:=s.toks + 2 }) :
  wpAny (model prog w) A (setAttr (.ref x) name v) Q E s:=by
 obtain ⟨od,J,hl⟩:=I.look
 refine PySem.W.set_plain X J hs (PySem.W.osa_open (s:={ s with toks:=s.toks + 1 }) (r:=none) X J hp ht fun b=>?_)
 obtain ⟨cd,hc,hd'⟩:=PySem.W.any_some hh
 have hx:s.heap.get? x = some ⟨.ref C,some dx,.plain,#[]⟩:=I.obj
 refine wpAny_bind (wpAny_pure (wpAny_bind (wpAny_bind (wpAny_loadPart hx (wpAny_bind (PySem.W.Looks.here (s:={ s with toks:=s.toks + 1 }) (PySem.W.looks_clsIn X hc) ?_))))))
 rw [hd']
 refine wpAny_pure (a:=some dx) (wpAny_bind (wpAny_pure (wpAny_bind ?_)))
 refine wpAny_nsSet1 (s:={ s with toks:=s.toks + 1 }) I.ns fun h' hn2 hs2=>?_
 obtain ⟨oD,esD,epD,hoD,hdD,hcD⟩:=hn2.count (PySem.Within.cons name v hw)
 refine wpAny_bind (wpAny_lookBehind hoD (by rw [hdD]; exact pastItsLine_dict (Nat.le_trans hcD (by rw [List.length_cons]; omega))) ?_)
 exact wpAny_pure (h _ ⟨(hs2.2 _ (Ne.symm I.ne)).trans I.obj,hn2,I.ne⟩ hs2)
theorem XL {R:Result -> Shared -> Prop} {vs:List Value} {kw:List (Str × Value)} (X:K.In s.heap) (hm:PySem.W.makesIn K C = true)
  (hi:PySem.W.findIn K (.ref C) "__init__" = some (some (.ref f))) (hf:PySem.W.typeIn K (.ref f) = some (.type "function"))
  (h:codeAny (model prog w) (A.under (.builtin "type.__call__" ⟨.ref C :: vs,kw⟩)) (.call (.ref f) ⟨.ref (s.heap.objs.size + 1) :: vs,kw⟩) (PySem.W.InitBack (s.heap.objs.size + 1) R)
   { s with heap:=(s.heap.push PySem.W.emptyDict).push (PySem.W.instObj C s.heap.objs.size) }) :
  codeAny (model prog w) A (.call (.ref C) ⟨vs,kw⟩) R s:=by
 obtain ⟨hh,g,d,t,os⟩:=s
 exact PySem.W.make_core (PySem.W.makes_of X hm) (PySem.W.looks_findIn X hi) (fun self=>PySem.W.bind_fn X self hf) (.inl rfl) h
end
def jc (f:Str) (v:V):List (Str × V) -> List (Str × V)
  | []=>[(f,v)]
  | (g,x) :: r=>if g = f then (g,v) :: r else (g,x) :: jc f v r
theorem vZ (f g:Str) (v:V):∀ fs:List (Str × V),(jc f v fs).lookup g = if g = f then some v else fs.lookup g
  | []=>by
    show List.lookup g [(f,v)] = _
    by_cases h:g = f
    · have hb:(g == f) = true:=beq_iff_eq.mpr h
      simp only [List.lookup,hb,if_pos h]
    · have hb:(g == f) = false:=beq_eq_false_iff_ne.mpr h
      simp only [List.lookup,hb,if_neg h]
  | (k,x) :: r=>by
    have ih:=vZ f g v r
    rw [show jc f v ((k,x) :: r) = (if k = f then (k,v) :: r else (k,x) :: jc f v r) from rfl]
    by_cases hk:k = f
    · rw [if_pos hk]
      by_cases h:g = k
      · have hb:(g == k) = true:=beq_iff_eq.mpr h
        simp only [List.lookup,hb,if_pos (h.trans hk)]
      · have hb:(g == k) = false:=beq_eq_false_iff_ne.mpr h
        simp only [List.lookup,hb,if_neg (fun e:g = f=>h (e.trans hk.symm))]
    · rw [if_neg hk]
      by_cases h:g = k
      · have hb:(g == k) = true:=beq_iff_eq.mpr h
        simp only [List.lookup,hb,if_neg (fun e:g = f=>hk (h.symm.trans e))]
      · have hb:(g == k) = false:=beq_eq_false_iff_ne.mpr h
        simp only [List.lookup,hb]
        exact ih
theorem ug (f:Str) (v:V):∀ fs:List (Str × V),f ∈ (jc f v fs).map (·.1) /\ ∀ g,g ∈ fs.map (·.1) -> g ∈ (jc f v fs).map (·.1)
  | []=>⟨by simp [jc],fun g h=>by simp at h⟩
  | (k,x) :: r=>by
    obtain ⟨i1,i2⟩:=ug f v r
    rw [show jc f v ((k,x) :: r) = (if k = f then (k,v) :: r else (k,x) :: jc f v r) from rfl]
    by_cases hk:k = f
    · rw [if_pos hk]
      subst hk
      exact ⟨by simp,fun g h=>by simpa using h⟩
    · rw [if_neg hk]
      refine ⟨?_,fun g h=>?_⟩
      · rw [List.map_cons]
        exact List.mem_cons_of_mem _ i1
      · rw [List.map_cons] at h ⊢
        rcases List.mem_cons.mp h with e | e
        · exact List.mem_cons.mpr (.inl e)
        · exact List.mem_cons_of_mem _ (i2 g e)
theorem vV (f:Str) (v:V):∀ fs:List (Str × V),(jc f v fs).length <= fs.length + 1
  | []=>by simp [jc]
  | (k,x) :: r=>by
    have ih:=vV f v r
    rw [show jc f v ((k,x) :: r) = (if k = f then (k,v) :: r else (k,x) :: jc f v r) from rfl]
    by_cases hk:k = f
    · rw [if_pos hk,List.length_cons,List.length_cons]; omega
    · rw [if_neg hk,List.length_cons,List.length_cons]; omega
theorem RelO.some_of {v:V} {o:Option Value} (r:RelO (some v) o):∃ u,o = some u /\ RelV v u:=by
 cases o with
 | none=>exact (show False from r).elim
 | some u=>exact ⟨u,rfl,r⟩
theorem RelO.none_of {o:Option Value} (r:RelO none o):o = none:=by
 cases o with
 | none=>rfl
 | some u=>exact (show False from r).elim
theorem Ys {v:V} {u:Value} (r:RelV v u):PySem.W.handedIn u = true:=by
 cases v with
 | non=>cases (show u = Value.none from r); rfl
 | bl b=>cases (show u = Value.bool b from r); rfl
 | int i=>obtain ⟨t,e⟩:=(show ∃ t,u = Value.int i t from r); cases e; rfl
 | str x=>obtain ⟨t,e⟩:=(show ∃ t,u = Value.str x t from r); cases e; rfl
 | byt b=>obtain ⟨t,e⟩:=(show ∃ t,u = Value.bytes b t from r); cases e; rfl
 | flt b=>obtain ⟨t,e⟩:=(show ∃ t,u = Value.float b t from r); cases e; rfl
 | ref a=>cases (show u = Value.ref a from r); rfl
 | ty n=>cases (show u = Value.type n from r); rfl
section
variable {P:Program} {w:World} {H H':Hp} {h h':Heap} {a C dx:Addr} {fs fs':List (Str × V)}
theorem qh (hok:HOk P w H h) (e:H a = some (.ins C dx fs)):∃ mA,ObjM h a dx C mA /\ (∀ f,RelO (fs.lookup f) (mA f)) /\ PySem.Within mA (fs.map (·.1)) /\ fs.length <= 1000 /\ H dx = some (.own a):=by
 obtain ⟨d,z,ne,ob,mA,n,r,q⟩:=(show ObjOk P w H h a (.ins C dx fs) from hok a _ e)
 exact ⟨mA,⟨ob,n,ne⟩,r,q,z,d⟩
end
structure Cls (K:PySem.W.Frag) (C:Addr):Prop where
 pg:PySem.W.plainGet K C Str.empty = true
 hd:PySem.W.hasDictIn K C = true
 po:PySem.W.plainOver K C = true
 sa:PySem.W.findIn K (.ref C) "__setattr__" = some (some (.builtin "object.__setattr__"))
theorem Cls.get {K:PySem.W.Frag} {C:Addr} (c:Cls K C) (f:Str):PySem.W.plainGet K C f = true:=c.pg
def NoAttr (K:PySem.W.Frag) (C:Addr) (f:Str):Prop:=PySem.W.findIn K (.ref C) f = some none
theorem NoAttr.taker {K:PySem.W.Frag} {C:Addr} {f:Str} (n:NoAttr K C f):PySem.W.takerIn K C f = some none:=by
 unfold PySem.W.takerIn
 rw [show PySem.W.findIn K (.ref C) f = some none from n]
 rfl
structure VM (K:PySem.W.Frag) (C:Addr) (m:Str) (f:Addr):Prop where
 at_:PySem.W.findIn K (.ref C) m = some (some (.ref f))
 fn:PySem.W.isFn K (.ref f) = true
 kp:PySem.W.keepIn K (.ref f) = true
section
variable {X:Cx} {pins:List (Addr × Obj)} {σ:St} {H:Hp} {s:Shared} {a C dx:Addr} {fs:List (Str × V)} {f:Str} {v:V} {A:Around} {E:Value -> Shared -> Prop}
theorem Zf {b:Bool} {Q:Value -> Shared -> Prop} (I:Inv X pins σ H s) (e:H a = some (.ins C dx fs)) (c:Cls X.K C) (n:NoAttr X.K C f) (l:fs.lookup f = some v)
  (h:∀ u s',Inv X pins σ H s' -> RelV v u -> Q u s'):wpAny (model X.prog X.w) A (getAttr (.ref a) f b) Q E s:=by
 obtain ⟨mA,O,r,_,_,_⟩:=qh I.hok e
 obtain ⟨u,hu,ru⟩:=RelO.some_of (v:=v) (o:=mA f) (by rw [<- l]; exact r f)
 exact Vl I.kIn O (c.get f) c.hd n hu (Ys ru) (h u _ (I.tok _) ru)
theorem xr {m:Str} {g:Addr} {pl:Sem Bool} {Q:Value × List Value -> Shared -> Prop} (I:Inv X pins σ H s) (e:H a = some (.ins C dx fs)) (c:Cls X.K C) (k:VM X.K C m g) (l:fs.lookup m = none)
  (h:Q (.ref g,[.ref a]) s):wpAny (model X.prog X.w) A (getMethod (.ref a) m pl) Q E s:=by
 obtain ⟨mA,O,r,_,_,_⟩:=qh I.hok e
 have hn:mA m = none:=RelO.none_of (by rw [<- l]; exact r m)
 exact X0 I.kIn O (c.get m) k.at_ k.fn hn h
theorem Zc {y:V} {u:Value} {Q:Unit -> Shared -> Prop} (I:Inv X pins σ H s) (e:H a = some (.ins C dx fs)) (c:Cls X.K C) (n:NoAttr X.K C f) (hl:fs.length < 1000) (ry:RelV y u)
  (h:∀ s',Inv X pins σ (upd H a (.ins C dx (jc f y fs))) s' -> Q () s'):wpAny (model X.prog X.w) A (setAttr (.ref a) f u) Q E s:=by
 obtain ⟨mA,O,r,wi,_,ho⟩:=qh I.hok e
 have hz:(fs.map (·.1)).length <= sizeLine:=by rw [List.length_map,sizeLine_eq]; omega
 refine Va I.kIn O c.sa c.po n.taker c.hd wi hz fun h' O' sb=>h _ ?_
 have hd:∃ o,h'.get? dx = some o:=let ⟨o,_,_,e',_⟩:=O'.ns; ⟨o,e'⟩
 refine I.write (x:=a) (e:=dx) (by rw [e]; exact True.intro) (.inr ho) (fun b q hb z=>(sb.2 b hb).trans z) hd ?_
 refine ⟨by rw [zi O.ne]; exact ho,?_,O.ne,O'.obj,_,O'.ns,fun g=>?_,fun g hg=>?_⟩
 ·have:=vV f y fs; omega
 ·show RelO ((jc f y fs).lookup g) (if g = f then some u else mA g)
  rw [vZ]
  by_cases q:g = f
  ·rw [if_pos q,if_pos q]; exact ry
  ·rw [if_neg q,if_neg q]; exact r g
 ·by_cases q:g = f
  ·rw [q]; exact (ug f y fs).1
  ·refine (ug f y fs).2 g (wi g fun z=>hg ?_)
   show (if g = f then some u else mA g) = none
   rw [if_neg q]; exact z
theorem Inv.made (I:Inv X pins σ H s):Inv X pins σ (upd (upd H s.heap.objs.size (.own (s.heap.objs.size + 1))) (s.heap.objs.size + 1) (.ins C s.heap.objs.size []))
  { s with heap:=(s.heap.push PySem.W.emptyDict).push (PySem.W.instObj C s.heap.objs.size) }:=by
 have e1:(s.heap.push PySem.W.emptyDict).get? s.heap.objs.size = some PySem.W.emptyDict:=Heap.get?_push_size s.heap rfl
 have e2:((s.heap.push PySem.W.emptyDict).push (PySem.W.instObj C s.heap.objs.size)).get? (s.heap.objs.size + 1) = some (PySem.W.instObj C s.heap.objs.size):=by
  have:=Heap.get?_push_size (s.heap.push PySem.W.emptyDict) (o:=PySem.W.instObj C s.heap.objs.size) rfl
  rwa [Heap.size_push] at this
 have e3:(s.heap.push PySem.W.emptyDict).Ns s.heap.objs.size (fun _=>none):=⟨PySem.W.emptyDict,#[],_,e1,rfl,(fun e he=>absurd he (by simp)),fun _=>rfl⟩
 have I1:=I.laid (a:=s.heap.objs.size) (o:=.own (s.heap.objs.size + 1)) (h':=s.heap.push PySem.W.emptyDict) (t':=s.toks) (fun b u q=>Heap.get?_push_of_some _ q) (Nat.le_refl _) ⟨_,e1⟩
 refine I1.laid (a:=s.heap.objs.size + 1) (o:=.ins C s.heap.objs.size []) (t':=s.toks) (fun b u q=>Heap.get?_push_of_some _ q) (Nat.le_of_eq (Heap.size_push _ _)) ?_
 have ne:s.heap.objs.size ≠ s.heap.objs.size + 1:=Nat.ne_of_lt (Nat.lt_succ_self _)
 refine ⟨by rw [zi ne,zd],Nat.zero_le _,ne,e2,fun _=>none,(Heap.Ns1.of_empty e3).at fun o q=>Heap.get?_push_of_some _ q,fun _=>True.intro,fun y hy=>absurd rfl hy⟩
theorem Vf {prog:Program} {w:World} {env:Env} {e:Expr} {f:Str} {pos:Pos} {s:Shared} {Q:Value -> Shared -> Prop} (hb:attributeBase e f env (eval e env) = eval e env)
  (h:wpAny (model prog w) A (eval e env) (fun o s₁=>wpAny (model prog w) A (getAttr o f true) Q E s₁) E s):wpAny (model prog w) A (eval (.Attribute e f pos) env) Q E s :=
 Attribute_any_ h (by rw [arm_eval_Attribute,hb])
end
def Uu (K:PySem.W.Frag) (ta:TE) (f:Str):TE:=fun σ H Q=>ta σ H fun x H1=>∃ a C dx fs v,x = .ref a /\ H1 a = some (.ins C dx fs) /\ Cls K C /\ NoAttr K C f /\ fs.lookup f = some v /\ Q v H1
def Jd (K:PySem.W.Frag) (ta tv:TE) (f:Str):TS:=fun D σ H=>tv σ H fun y H1=>ta σ H1 fun x H2=>∃ a C dx fs,x = .ref a /\ H2 a = some (.ins C dx fs) /\ Cls K C /\ NoAttr K C f /\ fs.length < 1000 /\
 D.nx σ (upd H2 a (.ins C dx (jc f y fs)))
section
variable {X:Cx} {o e value:Expr} {f:Str} {pos pos' tpos:Pos} {ta tv:TE}
theorem yI (he:PE X e ta) (hb:attributeBase e f X.env (eval e X.env) = eval e X.env):PE X (.Attribute e f pos) (Uu X.K ta f):=by
 intro pins s σ H Q I h
 refine Vf hb (thn (he pins s σ H _ I h) fun u s1 ⟨x,H1,I1,rx,a,C,dx,fs,v,ex,ea,c,n,l,q⟩=>?_)
 subst ex
 obtain rfl:u = Value.ref a:=rx
 exact Zf I1 ea c n l fun u' s2 I2 ru=>⟨v,H1,I2,ru,q⟩
theorem uT (ha:PE X o ta) (hv:PE X value tv) (hs:swapsWith value (some (.Attribute o f pos')) pos.line X.env = pure false):PS X (.Assign [.Attribute o f pos'] value pos) (Jd X.K ta tv f):=by
 intro pins s σ H D I h
 refine plainObj_wpAny_Assign_Attribute (thn (hv pins s σ H _ I h) fun u s1 ⟨y,H1,I1,ry,q⟩=>thn (ha pins s1 σ H1 _ I1 q) fun ov s2 ⟨x,H2,I2,rx,a,C,dx,fs,ex,ea,c,n,l,q2⟩=>?_) hs
 subst ex
 obtain rfl:ov = Value.ref a:=rx
 exact Zc I2 ea c n l ry fun s3 I3=>⟨σ,_,I3,q2⟩
theorem VA {pl:Sem Bool} {m:Str} {apos:Pos} {args:List Expr} {pins:List (Addr × Obj)} {s:Shared} {σ:St} {H:Hp} {Q:Value -> Shared -> Prop} {te:TE} (he:PE X e te) (I:Inv X pins σ H s)
    (h:te σ H fun x H1=>∃ a C dx fs g,x = .ref a /\ H1 a = some (.ins C dx fs) /\ Cls X.K C /\ VM X.K C m g /\ fs.lookup m = none /\
      ∀ s1,Inv X pins σ H1 s1 -> wpAny (model X.prog X.w) X.A (callWith pos (.ref g) [.ref a] (backTo pos (starEach args X.env)) (backToKw pos (keywordEach [] X.env))) Q X.xe s1)
    (ht:eval (.Call (.Attribute e m apos) args [] pos) X.env = (do
      let ov <- eval e X.env
      standAt apos.atName
      let (f,first) <- holding [ov] (getMethod ov m pl)
      callWith pos f first (backTo pos (starEach args X.env)) (backToKw pos (keywordEach [] X.env)))) :
    wpAny (model X.prog X.w) X.A (eval (.Call (.Attribute e m apos) args [] pos) X.env) Q X.xe s:=by
  refine PySem.W.methodCall_KW (pl:=pl) (thn (he pins s σ H _ I h) fun u s1 ⟨x,H1,I1,rx,a,C,dx,fs,g,ex,ea,c,k,l,q⟩=>?_) ht
  subst ex
  obtain rfl:u = Value.ref a:=rx
  exact xr I1 ea c k l (q s1 I1)
end
section
variable {X:Cx} {pins:List (Addr × Obj)} {σ:St} {H:Hp} {s:Shared} {A:Around} {E:Value -> Shared -> Prop} {Q:Value -> Shared -> Prop} {c:Value} {b:Bool}
inductive j7 (K:PySem.W.Frag) (H:Hp):V -> Value -> Prop where
 | non:j7 K H .non (.type "NoneType")
 | bl (x:Bool):j7 K H (.bl x) (.type "bool")
 | int (i:Int):j7 K H (.int i) (.type "int")
 | str (x:Str):j7 K H (.str x) (.type "str")
 | flt (x:UInt64):j7 K H (.flt x) (.type "float")
 | lst {a:Addr} {xs:List V} (e:H a = some (.lst xs)):j7 K H (.ref a) (.type "list")
 | frz {a:Addr} {o:Obj} {xs:List V} (e:H a = some (.frz o (.lst xs))):j7 K H (.ref a) (.type "list")
 | tup {a:Addr} {xs:List V} (e:H a = some (.tup xs)):j7 K H (.ref a) (.type "tuple")
 | dK {a:Addr} {kvs:List (Key × V)} (e:H a = some (.dK kvs)):j7 K H (.ref a) (.type "dict")
 | dT {a:Addr} {kvs:List (List Key × V)} (e:H a = some (.dT kvs)):j7 K H (.ref a) (.type "dict")
 | ins {a C dx:Addr} {fs:List (Str × V)} (e:H a = some (.ins C dx fs)) (cl:Cls K C) (ha:PySem.W.findIn K (.ref C) "__class__" = some (some (.builtin "object.__class__")))
   (hn:PySem.W.specialIn K (.builtin "object.__class__") "__get__" = some (some (.builtin "getset_descriptor.__get__"))) (htk:PySem.W.takesIn K (.builtin "object.__class__") = some true)
   (hm:PySem.W.mroIn K C (.type "object") = some true):j7 K H (.ref a) (.ref C)
theorem Xj {x:V} {u t:Value} (I:Inv X pins σ H s) (rx:RelV x u) (ty:j7 X.K H x t) (e:PySem.W.kitOne X.K t c = some b) (h:∀ tk,Q (.bool b) { s with toks:=tk }) :
  wpAny (model X.prog X.w) A (call (.builtin "isinstance") [u,c]) Q E s:=by
 cases ty with
 | non=>cases (show u = Value.none from rx); exact PySem.W.kia_one PySem.W.kitx_none I.kIn True.intro e (fun z=>nomatch z) h
 | bl y=>cases (show u = Value.bool y from rx); exact PySem.W.kia_one PySem.W.kitx_bool I.kIn True.intro e (fun z=>nomatch z) h
 | int i=>obtain ⟨t,q⟩:=(show ∃ t,u = Value.int i t from rx); cases q; exact PySem.W.kia_one PySem.W.kitx_int I.kIn True.intro e (fun z=>nomatch z) h
 | str y=>obtain ⟨t,q⟩:=(show ∃ t,u = Value.str y t from rx); cases q; exact PySem.W.kia_one PySem.W.kitx_str I.kIn True.intro e (fun z=>nomatch z) h
 | flt y=>obtain ⟨t,q⟩:=(show ∃ t,u = Value.float y t from rx); cases q; exact PySem.W.kia_one PySem.W.kitx_float I.kIn True.intro e (fun z=>nomatch z) h
 | @lst a xs ea =>
  cases (show u = Value.ref a from rx)
  obtain ⟨_,_,n,_,h1⟩:=(show ObjOk X.prog X.w H s.heap a (.lst xs) from I.hok a _ ea)
  exact PySem.W.kia_one PySem.W.kitx_list I.kIn ⟨_,h1,rfl⟩ e (fun z=>nomatch z) h
 | @frz a ob xs ea =>
  cases (show u = Value.ref a from rx)
  obtain ⟨_,_,_,n,_,h1⟩:=(show ObjOk X.prog X.w H s.heap a (.frz ob (.lst xs)) from I.hok a _ ea)
  exact PySem.W.kia_one PySem.W.kitx_list I.kIn ⟨_,h1,rfl⟩ e (fun z=>nomatch z) h
 | @tup a xs ea =>
  cases (show u = Value.ref a from rx)
  obtain ⟨_,_,_,p⟩:=(show ObjOk X.prog X.w H s.heap a (.tup xs) from I.hok a _ ea)
  obtain ⟨o,h1,h2,_⟩:=p
  exact PySem.W.kia_one PySem.W.kitx_tuple I.kIn ⟨o,h1,h2⟩ e (fun z=>nomatch z) h
 | @dK a kvs ea =>
  cases (show u = Value.ref a from rx)
  obtain ⟨_,_,vs,_,p⟩:=(show ObjOk X.prog X.w H s.heap a (.dK kvs) from I.hok a _ ea)
  obtain ⟨o,es,ep,h1,h2,_⟩:=p
  exact PySem.W.kia_one PySem.W.kitx_dict I.kIn ⟨o,h1,h2.1⟩ e (fun z=>nomatch z) h
 | @dT a kvs ea =>
  cases (show u = Value.ref a from rx)
  obtain ⟨_,_,xs,_,o,es,ep,h1,h2,_⟩:=(show ObjOk X.prog X.w H s.heap a (.dT kvs) from I.hok a _ ea)
  exact PySem.W.kia_one PySem.W.kitx_dict I.kIn ⟨o,h1,h2.1⟩ e (fun z=>nomatch z) h
 | @ins a C dx fs ea cl ha hn htk hm =>
  cases (show u = Value.ref a from rx)
  obtain ⟨mA,O,_⟩:=qh I.hok ea
  obtain ⟨od,J,_⟩:=O.look
  exact PySem.W.kia_one (PySem.W.kitx_own (cl.get _) cl.hd ha hn htk hm) I.kIn J e (fun z=>nomatch z) h
end
end L2
namespace L2
open PySem PySem.Spec PyProof.Rows
structure Room (k:Nat) (A:Around):Prop where
 hd:A.handled = none
 dp:A.depth + 3 * k + 5 < recursionLimit
 un:A.units + 16 * k + 200 < cLine
theorem Room.mono {j k:Nat} {A:Around} (r:Room k A) (h:j <= k):Room j A:=⟨r.hd,by have:=r.dp; omega,by have:=r.un; omega⟩
theorem Room.deeper {k:Nat} {A:Around} (r:Room (k + 1) A) (env:Env):Room k (A.deeper env) :=
 ⟨r.hd,by have:=r.dp; show A.depth + 1 + 3 * k + 5 < _; omega,by have:=r.un; show A.units + 3 + 16 * k + 200 < _; omega⟩
theorem Room.in1 {k:Nat} {A:Around} (r:Room (k + 1) A):Room k A.in1 :=
 ⟨r.hd,by have:=r.dp; show A.depth + 3 * k + 5 < _; omega,by have:=r.un; show A.units + 1 + 16 * k + 200 < _; omega⟩
theorem Zu {A:Around} {C:Addr} {us:List Value} {kw:List (Str × Value)}:(A.under (.builtin "type.__call__" ⟨.ref C :: us,kw⟩)).depth = A.depth + 1:=by
 first | rfl | simp [Around.under,Code.weight,Code.isCreation,Code.isGuard,Code.isCaller,Code.frames,Code.isFrame,guardIds]
theorem Zd {A:Around} {C:Addr} {us:List Value} {kw:List (Str × Value)}:(A.under (.builtin "type.__call__" ⟨.ref C :: us,kw⟩)).units = A.units + 1:=by
 first | rfl | simp [Around.under,Code.cUnits,Code.frames,Code.isFrame]
theorem Room.make {k:Nat} {A:Around} (r:Room (k + 1) A) (C:Addr) (us:List Value) (kw:List (Str × Value)):Room k (A.under (.builtin "type.__call__" ⟨.ref C :: us,kw⟩)) :=
 ⟨r.hd,by have:=r.dp; rw [Zu]; omega,by have:=r.un; rw [Zd]; omega⟩
theorem Room.depth {k:Nat} {A:Around} (r:Room k A):A.depth < recursionLimit:=by have:=r.dp; omega
theorem Room.units {k:Nat} {A:Around} (r:Room k A):A.units + 64 < cLine:=by have:=r.un; omega
def wU:TA:=fun _ H Q=>Q [] H
def zW (ta:TE) (tr:TA):TA:=fun σ H Q=>ta σ H fun x H1=>tr σ H1 fun xs H2=>Q (x :: xs) H2
section
variable {X:Cx} {e:Expr} {es:List Expr} {te:TE} {t:TA} {pos:Pos}
theorem zc:PA X [] wU:=fun _ _ _ _ H Q I h=>Calls.spliced_nil ⟨[],H,I,.nil,h⟩
theorem za (ha:PE X e te) (hr:PA X es t) (hs:starEach (e :: es) X.env = (false,eval e X.env) :: starEach es X.env:=by rfl):PA X (e :: es) (zW te t):=by
 intro pos pins s σ H Q I h
 rw [hs]
 show wpAny _ _ (spliced ((false,eval e X.env) :: backTo pos (starEach es X.env))) _ _ s
 refine Calls.spliced_cons (thn (ha pins s σ H _ I h) fun u s1 ⟨x,H1,I1,r1,q1⟩=>?_)
 exact thn (hr pos pins s1 σ H1 _ I1 q1) fun us s2 ⟨xs,H2,I2,r2,q2⟩=>⟨x :: xs,H2,I2,.cons r1 r2,q2⟩
def Jb (t:TA):TE:=fun σ H Q=>t σ H fun xs H1=>xs.length <= sizeLine /\ ∀ p,H1 p = none -> Q (.ref p) (upd H1 p (.tup xs))
def Q6 (t:TA):TE:=fun σ H Q=>t σ H fun xs H1=>xs.length <= sizeLine /\ ∀ p,H1 p = none -> Q (.ref p) (upd H1 p (.lst xs))
theorem vw {x1} (h:PA X es t):PE X (.Tuple es x1 pos) (Jb t):=by
 intro pins s σ H Q I hq
 refine wpAny_Tuple_spliced (thn (h pos pins s σ H _ I hq) fun us s1 ⟨xs,H1,I1,r,z,q⟩=>⟨by rw [<- r.length]; exact z,?_⟩)
 have hf:H1 s1.heap.objs.size = none:=I1.hok.fresh (Nat.le_refl _)
 refine ⟨.ref s1.heap.objs.size,upd H1 s1.heap.objs.size (.tup xs),I1.laid (t':=s1.toks) (fun b u e=>Heap.get?_push_of_some _ e) (Nat.le_refl _) ?_,rfl,q _ hf⟩
 exact ⟨z,us,r,⟨_,Heap.get?_push_size _ rfl,rfl,_,rfl⟩⟩
theorem yX (h:PA X es t):PE X (.List es pos) (Q6 t):=by
 intro pins s σ H Q I hq
 refine wpAny_List_spliced (thn (h pos pins s σ H _ I hq) fun us s1 ⟨xs,H1,I1,r,z,q⟩=>⟨by rw [<- r.length]; exact z,?_⟩)
 have hf:H1 s1.heap.objs.size = none:=I1.hok.fresh (Nat.le_refl _)
 refine ⟨.ref s1.heap.objs.size,upd H1 s1.heap.objs.size (.lst xs),I1.laid (t':=s1.toks) (fun b u e=>Heap.get?_push_of_some _ e) (Nat.le_refl _) ?_,rfl,q _ hf⟩
 exact ⟨z,us,0,r,Heap.get?_push_size _ rfl⟩
end
abbrev Sp:=List V -> Hp -> VK -> XK -> Prop
abbrev CXT:=List Env -> Hp -> Shared -> XK -> Value -> Shared -> Prop
structure Env0 (P:Program) (w:World) (K:PySem.W.Frag) (mg:Str -> Option Value) (base:Heap) (A:Around) (outer:List Env) (s:Shared) (H:Hp):Prop where
 frames:A.frames = some outer
 mod:Mod K mg base
 bs:∀ b o,base.get? b = some o -> s.heap.get? b = some o /\ H b = none
 bsz:base.objs.size <= s.heap.objs.size
 funs:s.heap.FunFrames base outer
 frf:∀ b ∈ frs outer,H b = none
 hok:HOk P w H s.heap
 bare:AllBare s.gens
def CE (outer:List Env) (P:Program) (w:World) (H:Hp) (s:Shared) (Q:VK) (u:Value) (s':Shared):Prop :=
 ∃ v H',s'.os = s.os /\ AllBare s'.gens /\ Un (frs outer) [] H H' s.heap s'.heap /\ HOk P w H' s'.heap /\ RelV v u /\ Q v H'
def CR (CX:CXT) (outer:List Env) (P:Program) (w:World) (H:Hp) (s:Shared) (Q:VK) (E:XK) (r:Result) (s':Shared):Prop :=
 match r with
 | .ok (.ret u)=>CE outer P w H s Q u s'
 | .ok _=>False
 | .error e=>CX outer H s E e s'
structure FnOk (P:Program) (w:World) (K:PySem.W.Frag) (mg:Str -> Option Value) (base:Heap) (CX:CXT) (k:Nat) (f:Addr) (fd:FuncData) (ps:List Str) (sp:Sp):Prop where
 len:∀ vs H Q E,sp vs H Q E -> vs.length = ps.length
 run:∀ (A:Around) (outer:List Env) (s:Shared) (H:Hp) (args:Args) (us:List Value) (vs:List V) (Q:VK) (E:XK),Room k A -> Env0 P w K mg base A outer s H -> BindsTo s fd args (ps.zip us) -> Vals vs us -> sp vs H Q E ->
  codeAny (model P w) A (.call (.ref f) args) (CR CX outer P w H s Q E) s
theorem FnOk.imp {P:Program} {w:World} {K:PySem.W.Frag} {mg:Str -> Option Value} {base:Heap} {CX:CXT} {k:Nat} {f:Addr} {fd:FuncData} {ps:List Str} {sp sp':Sp} (F:FnOk P w K mg base CX k f fd ps sp)
  (h:∀ vs H Q E,sp' vs H Q E -> sp vs H Q E):FnOk P w K mg base CX k f fd ps sp' :=
 ⟨fun vs H Q E q=>F.len vs H Q E (h _ _ _ _ q),fun A outer s H args us vs Q E hr he hb hv hs=>F.run A outer s H args us vs Q E hr he hb hv (h _ _ _ _ hs)⟩
theorem Env0.make {P:Program} {w:World} {K:PySem.W.Frag} {mg:Str -> Option Value} {base:Heap} {A:Around} {outer:List Env} {s:Shared} {H:Hp} (e:Env0 P w K mg base A outer s H) (C:Addr) (us:List Value) (kw:List (Str × Value)) :
  Env0 P w K mg base (A.under (.builtin "type.__call__" ⟨.ref C :: us,kw⟩)) outer s H:=⟨by first | exact e.frames | (simpa [Around.under,Code.envs,Code.isFrame,pushEnvs] using e.frames),e.mod,e.bs,e.bsz,e.funs,e.frf,e.hok,e.bare⟩
theorem Env0.in1 {P:Program} {w:World} {K:PySem.W.Frag} {mg:Str -> Option Value} {base:Heap} {A:Around} {outer:List Env} {s:Shared} {H:Hp} (e:Env0 P w K mg base A outer s H) :
  Env0 P w K mg base A.in1 outer s H:=⟨e.frames,e.mod,e.bs,e.bsz,e.funs,e.frf,e.hok,e.bare⟩
section
variable {X:Cx} {pins:List (Addr × Obj)} {σ:St} {H:Hp} {s s':Shared}
theorem Inv.env0 (I:Inv X pins σ H s):Env0 X.prog X.w X.K X.mg X.base X.A X.stack s H :=
 ⟨I.ok.frames,I.ok.mod,I.bs,Nat.le_trans I.ok.bsz I.sz,I.stack,I.stkFree,I.hok,I.bare⟩
theorem Inv.after {Q:VK} {u:Value} (I:Inv X pins σ H s) (h:CE X.stack X.prog X.w H s Q u s'):EP X pins σ Q u s':=by
 obtain ⟨v,H',os,bare,un,hok,r,q⟩:=h
 obtain ⟨hh,g,d,t,os'⟩:=s'
 obtain rfl:os' = s.os:=os
 exact ⟨v,H',I.call (h':=hh) (g':=g) (d':=d) (t':=t) (ch:=[]) un hok bare (fun b z=>absurd z (by simp)),r,q⟩
end
def uB (sp:Sp) (dvs:List V) (E:XK) (t:TA):TE:=fun σ H Q=>t σ H fun vs H1=>sp (vs ++ dvs) H1 Q E
def uE (C:Addr) (m:Str) (sp:Sp) (dvs:List V) (E:XK) (ta:TE) (t:TA):TE:=fun σ H Q=>ta σ H fun x H1=>∃ a dx fs,x = .ref a /\ H1 a = some (.ins C dx fs) /\ fs.lookup m = none /\
 t σ H1 fun vs H2=>sp (x :: (vs ++ dvs)) H2 Q E
def XD (C:Addr) (sp:Sp) (dvs:List V) (E:XK) (t:TA):TE:=fun σ H Q=>t σ H fun vs H1=>∀ x dx,H1 x = none -> H1 dx = none -> dx ≠ x ->
 sp (.ref x :: (vs ++ dvs)) (upd (upd H1 dx (.own x)) x (.ins C dx [])) (fun v H2=>v = .non /\ Q (.ref x) H2) E
def Binds (K:PySem.W.Frag) (fd:FuncData) (ps:List Str) (ds:List Value):Prop :=
 ∀ (s:Shared) (us:List Value),K.In s.heap -> (us ++ ds).length = ps.length -> BindsTo s fd ⟨us,[]⟩ (ps.zip (us ++ ds))
theorem Binds.all {K:PySem.W.Frag} {fd:FuncData} {ps:List Str} (h:∀ us:List Value,us.length = ps.length -> bindArgs fd ⟨us,[]⟩ = pure (ps.zip us)):Binds K fd ps []:=fun s us _ hl=>by
 rw [List.append_nil] at hl ⊢
 exact .of_eq (h us hl)
def vA (CX:CXT) (X:Cx) (E:XK):Prop:=∀ (pins:List (Addr × Obj)) (σ:St) (H:Hp) (s:Shared) (e:Value) (s':Shared),Inv X pins σ H s -> CX X.stack H s E e s' -> X.xe e s'
section
variable {X:Cx} {CX:CXT} {k:Nat} {f C:Addr} {fd:FuncData} {ps:List Str} {sp:Sp} {dvs:List V} {ds:List Value} {E:XK} {x m:Str} {p pos apos:Pos} {e o:Expr} {es:List Expr} {ta:TE} {t:TA}
theorem uM {pins:List (Addr × Obj)} {σ:St} {H:Hp} {s:Shared} {Q:VK} {us:List Value} {vs:List V} (F:FnOk X.prog X.w X.K X.mg X.base CX k f fd ps sp) (hr:Room k X.A) (hb:Binds X.K fd ps ds) (hd:Vals dvs ds) (hx:vA CX X E)
  (I:Inv X pins σ H s) (r:Vals vs us) (h:sp (vs ++ dvs) H Q E):wpAny (model X.prog X.w) X.A (call (.ref f) us) (EP X pins σ Q) X.xe s:=by
 have r2:Vals (vs ++ dvs) (us ++ ds):=r.append hd
 have hl:(us ++ ds).length = ps.length:=by rw [<- r2.length]; exact F.len _ _ _ _ h
 refine wpAny_call (codeAny_mono (F.run X.A X.stack s H ⟨us,[]⟩ (us ++ ds) (vs ++ dvs) Q E hr I.env0 (hb s us I.kIn hl) r2 h) fun r s' hq=>?_)
 cases r with
 | error e=>exact hx pins σ H s e s' I hq
 | ok fl =>
  cases fl with
  | ret u=>exact I.after hq
  | next=>exact False.elim hq
  | brk=>exact False.elim hq
  | cont=>exact False.elim hq
theorem ZR (F:FnOk X.prog X.w X.K X.mg X.base CX k f fd ps sp) (hr:Room k X.A) (hg:Gl X x) (hm:X.mg x = some (.ref f)) (hk:PySem.W.keepIn X.K (.ref f) = true) (hb:Binds X.K fd ps ds) (hd:Vals dvs ds) (hx:vA CX X E)
  (ha:PA X (e :: es) t) (hdb:(x == ("__debug__" : Str)) = false:=by decide) (he:starEach (e :: es) X.env = (false,eval e X.env) :: starEach es X.env:=by rfl) (hpl:(backTo pos (starEach es X.env)).any (·.1) = false:=by rfl) :
  PE X (.Call (.Name x p) (e :: es) [] pos) (uB sp dvs E t):=by
 intro pins s σ H Q I h
 refine wpAny_Call_Name_kw (wk I hg hm ?_ hdb)
 refine PySem.W.callWith_K (h₀:=X.base) I.ok.mod.kin hk (thn (ha pos pins s σ H _ I h) fun us s1 ⟨vs,H1,I1,r,q⟩=>⟨I1.kIn,?_⟩) he hpl
 exact uM F hr hb hd hx I1 r q
theorem YT {pl:Sem Bool} (he:PE X o ta) (c:Cls X.K C) (hm:VM X.K C m f) (F:FnOk X.prog X.w X.K X.mg X.base CX k f fd ps sp) (hr:Room k X.A) (hb:Binds X.K fd ps ds) (hd:Vals dvs ds) (hx:vA CX X E) (ha:PA X (e :: es) t)
    (hst:starEach (e :: es) X.env = (false,eval e X.env) :: starEach es X.env:=by rfl) (hpl:(backTo pos (starEach es X.env)).any (·.1) = false:=by rfl)
    (ht:eval (.Call (.Attribute o m apos) (e :: es) [] pos) X.env = (do
      let ov <- eval o X.env
      standAt apos.atName
      let (f,first) <- holding [ov] (getMethod ov m pl)
      callWith pos f first (backTo pos (starEach (e :: es) X.env)) (backToKw pos (keywordEach [] X.env))):=by rfl) :
    PE X (.Call (.Attribute o m apos) (e :: es) [] pos) (uE C m sp dvs E ta t):=by
  intro pins s σ H Q I h
  refine PySem.W.methodCall_KW (pl:=pl) (thn (he pins s σ H _ I h) fun u s1 ⟨x,H1,I1,rx,a,dx,fs,ex,ea,l,q⟩=>?_) ht
  subst ex
  obtain rfl:u = Value.ref a:=rx
  refine xr I1 ea c hm l ?_
  refine PySem.W.callWith_K (first:=[.ref a]) (h₀:=X.base) I.ok.mod.kin hm.kp (thn (ha pos pins s1 σ H1 _ I1 q) fun us s2 ⟨vs,H2,I2,r,q2⟩=>⟨I2.kIn,?_⟩) hst hpl
  exact uM (us:=.ref a :: us) (vs:=.ref a :: vs) F hr hb hd hx I2 (.cons rfl r) q2
theorem X9 {pl:Sem Bool} (he:PE X o ta) (c:Cls X.K C) (hm:VM X.K C m f) (F:FnOk X.prog X.w X.K X.mg X.base CX k f fd ps sp) (hr:Room k X.A) (hb:Binds X.K fd ps ds) (hd:Vals dvs ds) (hx:vA CX X E)
    (ht:eval (.Call (.Attribute o m apos) [] [] pos) X.env = (do
      let ov <- eval o X.env
      standAt apos.atName
      let (f,first) <- holding [ov] (getMethod ov m pl)
      callWith pos f first (backTo pos (starEach [] X.env)) (backToKw pos (keywordEach [] X.env))):=by rfl) :
    PE X (.Call (.Attribute o m apos) [] [] pos) (uE C m sp dvs E ta wU):=by
  intro pins s σ H Q I h
  refine PySem.W.methodCall_KW (pl:=pl) (thn (he pins s σ H _ I h) fun u s1 ⟨x,H1,I1,rx,a,dx,fs,ex,ea,l,q⟩=>?_) ht
  subst ex
  obtain rfl:u = Value.ref a:=rx
  refine xr I1 ea c hm l ?_
  exact PySem.W.callWith_K0 (first:=[.ref a]) I1.kIn hm.kp (uM (us:=[.ref a]) (vs:=[.ref a]) F hr hb hd hx I1 (.cons rfl .nil) q)
structure Mk (K:PySem.W.Frag) (C f:Addr):Prop where
 makes:PySem.W.makesIn K C = true
 init:PySem.W.findIn K (.ref C) "__init__" = some (some (.ref f))
 fn:PySem.W.isFn K (.ref f) = true
 kp:PySem.W.keepIn K (.ref C) = true
theorem XB {pins:List (Addr × Obj)} {σ:St} {H:Hp} {s:Shared} {Q:VK} {us:List Value} {vs:List V} (M:Mk X.K C f) (F:FnOk X.prog X.w X.K X.mg X.base CX k f fd ps sp) (hr:Room (k + 1) X.A) (hb:Binds X.K fd ps ds) (hd:Vals dvs ds)
  (hx:vA CX X E) (I:Inv X pins σ H s) (r:Vals vs us)
  (h:∀ x dx,H x = none -> H dx = none -> dx ≠ x -> sp (.ref x :: (vs ++ dvs)) (upd (upd H dx (.own x)) x (.ins C dx [])) (fun v H2=>v = .non /\ Q (.ref x) H2) E) :
  wpAny (model X.prog X.w) X.A (call (.ref C) us) (EP X pins σ Q) X.xe s:=by
 have hq:=h (s.heap.objs.size + 1) s.heap.objs.size (I.hok.fresh (Nat.le_succ _)) (I.hok.fresh (Nat.le_refl _)) (Nat.ne_of_lt (Nat.lt_succ_self _))
 have I2:=Inv.made (C:=C) I
 have r2:Vals (V.ref (s.heap.objs.size + 1) :: (vs ++ dvs)) (Value.ref (s.heap.objs.size + 1) :: (us ++ ds)):=.cons rfl (r.append hd)
 have hl:(Value.ref (s.heap.objs.size + 1) :: us ++ ds).length = ps.length:=by
  have e:=r2.length
  rw [F.len _ _ _ _ hq] at e
  exact e.symm
 refine wpAny_call (XL (f:=f) I.kIn M.makes M.init (beq_iff_eq.mp M.fn) (codeAny_mono (F.run _ X.stack _ _ ⟨Value.ref (s.heap.objs.size + 1) :: us,[]⟩ (Value.ref (s.heap.objs.size + 1) :: (us ++ ds)) _ _ E (hr.make C us [])
  (I2.env0.make C us []) (hb _ (Value.ref (s.heap.objs.size + 1) :: us) I2.kIn hl) r2 hq) fun r s' hq'=>?_))
 cases r with
 | error e=>exact hx pins σ _ _ e s' I2 hq'
 | ok fl =>
  cases fl with
  | ret u =>
   obtain ⟨v,H',I3,rv,ev,q3⟩:=I2.after hq'
   subst ev
   exact ⟨rv,⟨V.ref (s.heap.objs.size + 1),H',I3,rfl,q3⟩⟩
  | next=>exact False.elim hq'
  | brk=>exact False.elim hq'
  | cont=>exact False.elim hq'
theorem Z9 (M:Mk X.K C f) (F:FnOk X.prog X.w X.K X.mg X.base CX k f fd ps sp) (hr:Room (k + 1) X.A) (hg:Gl X x) (hm:X.mg x = some (.ref C)) (hb:Binds X.K fd ps ds) (hd:Vals dvs ds) (hx:vA CX X E)
  (ha:PA X (e :: es) t) (hdb:(x == ("__debug__" : Str)) = false:=by decide) (he:starEach (e :: es) X.env = (false,eval e X.env) :: starEach es X.env:=by rfl) (hpl:(backTo pos (starEach es X.env)).any (·.1) = false:=by rfl) :
  PE X (.Call (.Name x p) (e :: es) [] pos) (XD C sp dvs E t):=by
 intro pins s σ H Q I h
 refine wpAny_Call_Name_kw (wk I hg hm ?_ hdb)
 refine PySem.W.callWith_K (h₀:=X.base) I.ok.mod.kin M.kp (thn (ha pos pins s σ H _ I h) fun us s1 ⟨vs,H1,I1,r,q⟩=>⟨I1.kIn,?_⟩) he hpl
 exact XB M F hr hb hd hx I1 r q
end
def PK (X:Cx) (kws:List Keyword) (t:TA):Prop :=
 ∀ (pos:Pos) (pins:List (Addr × Obj)) (s:Shared) (σ:St) (H:Hp) (Q:List V -> Hp -> Prop),Inv X pins σ H s -> t σ H Q -> wpAny (model X.prog X.w) X.A (evalAll ((backToKw pos (keywordEach kws X.env)).map (·.2))) (AP X pins σ Q) X.xe s
section
variable {X:Cx} {CX:CXT} {k:Nat} {f C:Addr} {fd:FuncData} {ps ks:List Str} {sp:Sp} {E:XK} {x m:Str} {p pos apos kpos:Pos} {e o:Expr} {es:List Expr} {kws:List Keyword} {te ta:TE} {t tk:TA} {nm:Option Str}
theorem Uy:PK X [] wU:=fun _ _ _ _ H Q I h=>wpAny_evalAll_nil ⟨[],H,I,.nil,h⟩
theorem Vo (ha:PE X e te) (hr:PK X kws t):PK X (⟨nm,e,kpos⟩ :: kws) (zW te t):=by
 intro pos pins s σ H Q I h
 show wpAny _ _ (evalAll ((do let v <- eval e X.env; standAt pos; pure v) :: (backToKw pos (keywordEach kws X.env)).map (·.2))) _ _ s
 refine wpAny_evalAll_cons (wpAny_bind (thn (ha pins s σ H _ I h) fun u s1 ⟨x,H1,I1,r1,q1⟩=>wpAny_bind (wpAny_standAt (wpAny_pure ?_))))
 exact thn (hr pos pins s1 σ H1 _ I1 q1) fun us s2 ⟨xs,H2,I2,r2,q2⟩=>⟨x :: xs,H2,I2,.cons r1 r2,q2⟩
variable {g:List Value -> List Value -> List Value} {gV:List V -> List V -> List V}
end
structure zo (N P:List Str) (sc:Scope):Prop where
 kind:sc.kind = .function
 co:sc.isCoroutine = false
 gen:sc.isGenerator = false
 nd:N.Nodup
 pre:N.take P.length = P
 par:∀ x ∈ P,sc.names.lookup x = some .local \/ sc.names.lookup x = some .cell
 nofree:∀ y ∈ sc.names,y.2 ≠ .free
theorem jf {kindOf:Str -> Option NameKind} {x:Str}:∀ {binds:List (Str × Value)} {m:Str -> Option Value},(∀ v,(x,v) ∉ binds) -> bindL kindOf binds m x = m x
  | [],_,_=>rfl
  | (n,v) :: r,m,h=>by
    unfold bindL
    rw [jf fun w hw=>h w (List.mem_cons_of_mem _ hw)]
    split
    · have:x ≠ n:=by rintro rfl; exact h v List.mem_cons_self
      simp [this]
    · rfl
theorem qS {kindOf:Str -> Option NameKind} {x:Str}:∀ {binds:List (Str × Value)} {m:Str -> Option Value},(∀ v,(x,v) ∉ binds) -> bindC kindOf binds m x = m x
  | [],_,_=>rfl
  | (n,v) :: r,m,h=>by
    unfold bindC
    rw [qS fun w hw=>h w (List.mem_cons_of_mem _ hw)]
    split
    · rfl
    · have:x ≠ n:=by rintro rfl; exact h v List.mem_cons_self
      simp [this]
theorem js {kindOf:Str -> Option NameKind} {x:Str} {v:Value}:∀ {P:List Str} {vs:List Value} {i:Nat} {m:Str -> Option Value},P.Nodup -> P[i]? = some x -> vs[i]? = some v -> kindOf x = some .local ->
  bindL kindOf (P.zip vs) m x = some v
 | [],_,_,_,_,h,_,_=>by simp at h
 | _ :: _,[],_,_,_,_,h,_=>by simp at h
 | p :: P,w :: vs,0,m,nd,h1,h2,hk=>by
  simp at h1 h2; subst h1; subst h2
  show bindL kindOf ((p,w) :: P.zip vs) m p = _
  unfold bindL
  rw [jf fun v hv=>(List.nodup_cons.mp nd).1 (List.of_mem_zip hv).1,if_pos hk]
  simp
 | p :: P,w :: vs,i + 1,m,nd,h1,h2,hk=>by
  show bindL kindOf ((p,w) :: P.zip vs) m x = _
  unfold bindL
  exact js (i:=i) (List.nodup_cons.mp nd).2 (by simpa using h1) (by simpa using h2) hk
theorem qT {kindOf:Str -> Option NameKind} {x:Str} {v:Value}:∀ {P:List Str} {vs:List Value} {i:Nat} {m:Str -> Option Value},P.Nodup -> P[i]? = some x -> vs[i]? = some v -> kindOf x ≠ some .local ->
  bindC kindOf (P.zip vs) m x = some v
 | [],_,_,_,_,h,_,_=>by simp at h
 | _ :: _,[],_,_,_,_,h,_=>by simp at h
 | p :: P,w :: vs,0,m,nd,h1,h2,hk=>by
  simp at h1 h2; subst h1; subst h2
  show bindC kindOf ((p,w) :: P.zip vs) m p = _
  unfold bindC
  rw [qS fun v hv=>(List.nodup_cons.mp nd).1 (List.of_mem_zip hv).1,if_neg hk]
  simp
 | p :: P,w :: vs,i + 1,m,nd,h1,h2,hk=>by
  show bindC kindOf ((p,w) :: P.zip vs) m x = _
  unfold bindC
  exact qT (i:=i) (List.nodup_cons.mp nd).2 (by simpa using h1) (by simpa using h2) hk
def start (N:List Str) (vs:List V):St:=vs.map some ++ List.replicate (N.length - vs.length) none
def ul (CX:CXT) (P:Program) (w:World) (K:PySem.W.Frag) (mg:Str -> Option Value) (base:Heap) (N:List Str) (qual:Str) (scope:Scope) (f:Addr) (cd:Value) (A:Around) (outer:List Env) (s:Shared) (H:Hp) (E:XK):Cx where
 prog:=P
 w:=w
 K:=K
 mg:=mg
 base:=base
 A:=A.deeper (envOfC qual scope s.heap.objs.size f cd)
 N:=N
 s₀:=s
 H₀:=H
 env:=envOfC qual scope s.heap.objs.size f cd
 outer:=outer
 stack:=envOfC qual scope s.heap.objs.size f cd :: outer
 ex:=[]
 calm:=true
 fn:=fun _=>true
 pn:=[]
 xe:=fun e s'=>wpAny (model P w) (A.deeper (envOfC qual scope s.heap.objs.size f cd)) (leaving (envOfC qual scope s.heap.objs.size f cd) e) (fun _ s''=>CX outer H s E e s'') (fun e' s''=>CX outer H s E e' s'') s'
theorem kh {sc:Scope} {n:Nat} {x:Str} (h:sc.names.lookup x = some .cell):∃ c,(cellsFrom n sc.names []).lookup x = some c:=by
 have q:=PySem.W.cellsFrom_some sc.names n [] (.inl h)
 exact Option.isSome_iff_exists.mp q
theorem YG {CX:CXT} {P:Program} {w:World} {K:PySem.W.Frag} {mg:Str -> Option Value} {base:Heap} {N ps:List Str} {qual:Str} {scope:Scope} {f:Addr} {cd:Value} {A:Around} {outer:List Env} {s s1:Shared} {H:Hp} {E:XK} {us:List Value} {vs:List V}
  (S:zo N ps scope) (hd:A.handled = none) (e0:Env0 P w K mg base A outer s H) (hl:vs.length = ps.length) (r:Vals vs us)
  (x:InCallC s s.heap.objs.size (bindL (envOfC qual scope s.heap.objs.size f cd).kindOf (ps.zip us) fun _=>none) (cellsFrom (s.heap.objs.size + 1) scope.names []) (bindC (envOfC qual scope s.heap.objs.size f cd).kindOf (ps.zip us) fun _=>none) s1) :
  Inv (ul CX P w K mg base N qual scope f cd A outer s H E) [] (start N vs) H s1:=by
 have hpl:ps.length <= N.length:=by have:=congrArg List.length S.pre; rw [List.length_take] at this; omega
 obtain ⟨h1,tk,rfl,hk⟩:=x.done
 have noA:∀ b:Addr,b ∉ (ul CX P w K mg base N qual scope f cd A outer s H E).ex:=fun b z=>absurd (show b ∈ ([]:List Addr) from z) (by simp)
 refine ⟨⟨e0.mod,S.kind,rfl,rfl,Nat.le_refl _,fun y z c h1 h2=>?_,fun y hy=>?_,fun y c _ h=>?_,fun _=>hd,Around.frames_deeper e0.frames,.inr ⟨rfl,rfl⟩,fun b z=>absurd z (noA b),e0.bs,e0.bsz,fun b _ _=>noA b,fun b z=>absurd z (noA b),e0.funs,e0.frf⟩,
  rfl,e0.bare,Un.kept hk,⟨_,x.toInCall.ns,fun i y v h1 h2 h3=>?_⟩,fun y c h=>⟨_,x.cell y c h⟩,e0.hok.fresh (Nat.le_refl _),fun y c h=>?_,fun p hp=>absurd (show p ∈ ([]:List (Addr × Obj)) from hp) (by simp),e0.hok.kept hk,?_⟩
 ·exact name_of_addr x.apart (PySem.mem_of_lookup h1) (PySem.mem_of_lookup h2)
 ·have hy:scope.names.lookup y = some .cell \/ scope.names.lookup y = some .free:=hy
  rcases hy with hy | hy
  ·exact kh hy
  ·exact absurd rfl (S.nofree _ (PySem.mem_of_lookup hy))
 ·exact Nat.le_of_lt (x.above y c (PySem.mem_of_lookup h))
 ·have hi:i < vs.length:=by
   unfold start at h2
   by_cases hi:i < vs.length
   ·exact hi
   ·rw [List.getElem?_append_right (by simpa using hi)] at h2
    rw [List.getElem?_replicate] at h2
    split at h2 <;> cases h2
  have ha:vs[i]? = some v:=by
   unfold start at h2
   rw [List.getElem?_append_left (by simpa using hi),List.getElem?_map] at h2
   cases e:vs[i]? with
   | none=>rw [e] at h2; cases h2
   | some a=>rw [e] at h2; cases h2; rfl
  obtain ⟨u,hu,rv⟩:=r.get ha
  have hp:ps[i]? = some y:=by
   rw [<- S.pre,List.getElem?_take_of_lt (by omega)]; exact h1
  have ndP:ps.Nodup:=by rw [<- S.pre]; exact S.nd.sublist (List.take_sublist _ _)
  refine ⟨u,rv,?_⟩
  rcases S.par y (List.mem_of_getElem? hp) with k | k
  ·exact .inl ⟨k,js ndP hp hu k⟩
  ·obtain ⟨c,e⟩:=kh (n:=s.heap.objs.size + 1) k
   refine .inr ⟨.inl k,c,e,?_⟩
   have q:=x.cell y c e
   rw [qT ndP hp hu (by show scope.names.lookup y ≠ _; rw [k]; decide)] at q
   exact q
 ·exact e0.hok.fresh (Nat.le_of_lt (x.above y c (PySem.mem_of_lookup h)))
 ·unfold start
  show _ = N.length
  rw [List.length_append,List.length_map,List.length_replicate]
  omega
theorem WX {CX:CXT} {P:Program} {w:World} {K:PySem.W.Frag} {mg:Str -> Option Value} {base:Heap} {k:Nat} {f:Addr} {name qual:Str} {params:Arguments} {body:List Stmt} {scope:Scope} {dV kV doc pm cdv ct oc:Value} {an od:Option Addr}
  {osl:Array (Option Value)} {N ps:List Str} {sp:Sp} (lk:K.lookup f = some ⟨oc,od,.func (PySem.W.fnOf name qual params body scope dV kV doc pm an cdv ct),osl⟩) (hcd:PySem.W.codeIn K cdv qual = true) (S:zo N ps scope)
  (len:∀ vs H Q E,sp vs H Q E -> vs.length = ps.length)
  (hbody:∀ (A:Around) (outer:List Env) (s:Shared) (H:Hp) (vs:List V) (Q:VK) (E:XK),Room k (A.deeper (envOfC qual scope s.heap.objs.size f cdv)) -> sp vs H Q E ->
   ∃ t,PSs (ul CX P w K mg base N qual scope f cdv A outer s H E) body t /\ t { nx:=fun _ H'=>Q .non H',rt:=Q } (start N vs) H) :
  FnOk P w K mg base CX (k + 1) f (PySem.W.fnOf name qual params body scope dV kV doc pm an cdv ct) ps sp:=by
 refine ⟨len,fun A outer s H args us vs Q E hr e0 hb r hsp=>?_⟩
 have hl:=len _ _ _ _ hsp
 have KX:K.In s.heap:=e0.mod.kin.keeps fun b o e=>(e0.bs b o e).1
 have lim:s.heap.NoLimit:=e0.mod.nolimit.keeps fun b o e=>(e0.bs b o e).1
 have hkind:∀ y ∈ ps.zip us,scope.names.lookup y.1 = some .local \/ (scope.names.lookup y.1 = some .cell /\ ((cellsFrom (s.heap.objs.size + 1) scope.names []).lookup y.1).isSome = true):=fun ⟨n,v⟩ hy=>by
  rcases S.par n (List.of_mem_zip hy).1 with q | q
  ·exact .inl q
  ·exact .inr ⟨q,PySem.W.cellsFrom_some _ _ _ (.inl q)⟩
 refine codeAny_call_function hr.depth (KX _ _ lk) rfl S.co S.gen rfl (PySem.W.codeRec_of KX hcd) (hb _ _ _ _ ?_)
 refine wpAny_newFunctionEnv_cells S.kind hkind fun env he s1 x=>?_
 subst he
 refine ⟨lim.keeps x.toInCall.keep,codeAny_func ?_⟩
 obtain ⟨t,ht,hq⟩:=hbody A outer s H vs Q E (hr.deeper _) hsp
 have I:Inv (ul CX P w K mg base N qual scope f cdv A outer s H E) [] (start N vs) H s1:=YG S hr.hd e0 hl r x
 refine wpAny_mono (ht [] s1 (start N vs) H _ I hq) (fun fl s' hs=>?_) fun e s' hs=>hs
 have fin:∀ {σ':St} {H':Hp} {v:V} {u:Value},Inv (ul CX P w K mg base N qual scope f cdv A outer s H E) [] σ' H' s' -> RelV v u -> Q v H' -> CE outer P w H s Q u s' :=
  fun {σ' H' v u} J rv q=>⟨v,H',J.os,J.bare,J.base,J.hok,rv,q⟩
 cases fl with
 | ret u =>
  obtain ⟨v,σ',H',J,rv,q⟩:=hs
  exact fin J rv q
 | next =>
  obtain ⟨σ',H',J,q⟩:=hs
  exact fin (v:=V.non) (u:=Value.none) J rfl q
 | brk =>
  obtain ⟨_,_,_,q⟩:=hs
  exact False.elim q
 | cont =>
  obtain ⟨_,_,_,q⟩:=hs
  exact False.elim q
end L2
namespace L2
open PySem PySem.Spec PyProof.Rows
section
variable {X:Cx} {x:Str} {p pos:Pos} {e:Expr} {es:List Expr} {t:TA} {id T:String} {r:List V -> Hp -> VK -> Prop}
def tCB (r:List V -> Hp -> VK -> Prop) (t:TA):TE:=fun σ H Q=>t σ H fun vs H1=>r vs H1 Q
theorem zn (hc:wJ X (.builtin id) r) (hg:Gl X x) (hm:X.mg x = none) (hv:bootBuiltins x = some (.builtin id)) (ha:PA X (e :: es) t) (hn:x ≠ "__name__":=by decide) (hdb:(x == ("__debug__" : Str)) = false:=by decide)
  (he:starEach (e :: es) X.env = (false,eval e X.env) :: starEach es X.env:=by rfl) (hpl:(backTo pos (starEach es X.env)).any (·.1) = false:=by rfl):PE X (.Call (.Name x p) (e :: es) [] pos) (tCB r t):=by
 intro pins s σ H Q I h
 refine wpAny_Call_Name_kw (um I hg hm hv ?_ hn hdb)
 exact PyProof.Rows.callWith_builtin1 (thn (ha pos pins s σ H _ I h) fun us s1 ⟨vs,H1,I1,r1,q1⟩=>hc pins s1 σ H1 vs us Q I1 r1 q1) he hpl
theorem xm (hc:wJ X (.type T) r) (hg:Gl X x) (hm:X.mg x = none) (hv:bootBuiltins x = some (.type T)) (ha:PA X (e :: es) t) (hn:x ≠ "__name__":=by decide) (hdb:(x == ("__debug__" : Str)) = false:=by decide)
  (he:starEach (e :: es) X.env = (false,eval e X.env) :: starEach es X.env:=by rfl) (hpl:(backTo pos (starEach es X.env)).any (·.1) = false:=by rfl):PE X (.Call (.Name x p) (e :: es) [] pos) (tCB r t):=by
 intro pins s σ H Q I h
 refine wpAny_Call_Name_kw (um I hg hm hv ?_ hn hdb)
 exact PyProof.Rows.callWith_type1 (thn (ha pos pins s σ H _ I h) fun us s1 ⟨vs,H1,I1,r1,q1⟩=>hc pins s1 σ H1 vs us Q I1 r1 q1) he hpl
end
end L2
namespace HT
open PySem PyProof.Rows
section
open PySem.SeqAt
open PySem.AutoSeq1 (wpAny_loadPart')
open PySem.MeetsSeq PySem.MeetsSeq2 PySem.MeetsSeq3
end
section
variable {prog:Program} {w:World} {A:Around} {E:Value -> Shared -> Prop} {s:Shared}
def sIx (n d:Nat):Option Int -> Nat
 | none=>d
 | some v=>if v < 0 then (v + (n:Int)).toNat else min v.toNat n
theorem sIx_none (n d:Nat):sIx n d none = d:=rfl
theorem sIx_nat (n d k:Nat):sIx n d (some (k:Int)) = min k n:=by
 show (if (k:Int) < 0 then ((k:Int) + (n:Int)).toNat else min (k:Int).toNat n) = min k n
 rw [if_neg (by omega),Int.toNat_natCast]
theorem sIx_le (n d:Nat) (hd:d <= n) (o:Option Int):sIx n d o <= n:=by
 cases o with
 | none=>exact hd
 | some v =>
  show (if v < 0 then (v + (n:Int)).toNat else min v.toNat n) <= n
  by_cases hv:v < 0
  ·rw [if_pos hv]; omega
  ·rw [if_neg hv]; exact Nat.min_le_right _ _
end
end HT
namespace L2
open PySem PySem.Spec PyProof.Rows
abbrev TO:=St -> Hp -> (Option Int -> Hp -> Prop) -> Prop
def PO (X:Cx) (e:Option Expr) (t:TO):Prop :=
 ∀ (pins:List (Addr × Obj)) (s:Shared) (σ:St) (H:Hp) (Q:Option Int -> Hp -> Prop),Inv X pins σ H s -> t σ H Q ->
  wpAny (model X.prog X.w) X.A (evalPart e X.env) (fun u s'=>∃ o H',Inv X pins σ H' s' /\ IsPart u o /\ Q o H') X.xe s
def ZB:TO:=fun _ H Q=>Q none H
def Ua (t:TE):TO:=fun σ H Q=>t σ H fun x H1=>∃ i,x = .int i /\ Q (some i) H1
section
variable {X:Cx} {e:Expr} {te:TE} {lo hi:Option Expr} {tl th:TO} {pos p2:Pos}
theorem xb:PO X none ZB:=by
 intro pins s σ H Q I h
 rw [evalPart_none]
 exact wpAny_pure ⟨none,H,I,.none,h⟩
theorem ym (h:PE X e te):PO X (some e) (Ua te):=by
 intro pins s σ H Q I hw
 rw [evalPart_some]
 refine thn (h pins s σ H _ I hw) fun u s1 ⟨x,H1,I1,r1,q1⟩=>?_
 obtain ⟨i,rfl,q⟩:=q1
 obtain ⟨t,rfl⟩:=r1
 exact ⟨some i,H1,I1,.int i t,q⟩
def SlR (X:Cx) (r:V -> Option Int -> Option Int -> Hp -> VK -> Prop):Prop :=
 ∀ (pins:List (Addr × Obj)) (s:Shared) (σ:St) (H:Hp) (x:V) (v vl vu:Value) (lo hi:Option Int) (sl:Addr) (Q:VK),Inv X pins σ H s -> RelV x v -> s.heap.IsSliceOf sl vl vu .none -> IsPart vl lo -> IsPart vu hi -> r x lo hi H Q ->
  ∃ T id,typeLookup (.type T) "__getitem__" = pure (some (.builtin id)) /\ s.TypeIs v T /\ wpAny (model X.prog X.w) X.A (getItem v (.ref sl)) (EP X pins σ Q) X.xe s
theorem SlR.or {r r':V -> Option Int -> Option Int -> Hp -> VK -> Prop} (h:SlR X r) (h':SlR X r'):SlR X (fun x lo hi H Q=>r x lo hi H Q \/ r' x lo hi H Q):=by
 intro pins s σ H x v vl vu lo hi sl Q I rx hs pl pu q
 rcases q with q | q
 ·exact h pins s σ H x v vl vu lo hi sl Q I rx hs pl pu q
 ·exact h' pins s σ H x v vl vu lo hi sl Q I rx hs pl pu q
def tSl (r:V -> Option Int -> Option Int -> Hp -> VK -> Prop) (te:TE) (tl th:TO):TE:=fun σ H Q=>te σ H fun x H1=>tl σ H1 fun l H2=>th σ H2 fun u H3=>r x l u H3 Q
theorem yj {r:V -> Option Int -> Option Int -> Hp -> VK -> Prop} (hr:SlR X r) (he:PE X e te) (hl:PO X lo tl) (hu:PO X hi th):PE X (.Subscript e (.Slice lo hi none p2) pos) (tSl r te tl th):=by
 intro pins s σ H Q I h
 refine Subscript_ (thn (he pins s σ H _ I h) fun v s1 ⟨x,H1,I1,r1,q1⟩=>?_)
 refine wpAny_Slice (thn (hl pins s1 σ H1 _ I1 q1) fun vl s2 ⟨l,H2,I2,pl,q2⟩=>thn (hu pins s2 σ H2 _ I2 q2) fun vu s3 ⟨u,H3,I3,pu,q3⟩=>?_)
 rw [evalPart_none]
 refine wpAny_pure ?_
 have I4:Inv X pins σ H3 { s3 with heap:=s3.heap.push { cls:=.type "slice",data:=.fields #[vl,vu,.none] } }:=I3.kept (t':=s3.toks) fun b ob q=>Heap.get?_push_of_some _ q
 obtain ⟨T,id,hT,ht,hg⟩:=hr pins { s3 with heap:=s3.heap.push { cls:=.type "slice",data:=.fields #[vl,vu,.none] } } σ H3 x v vl vu l u s3.heap.objs.size Q I4 r1 (Heap.IsSliceOf.new ..) pl pu q3
 show wpAny (model X.prog X.w) X.A (subscriptTail e (.Slice lo hi none p2) v (.ref s3.heap.objs.size)) (EP X pins σ Q) X.xe { s3 with heap:=s3.heap.push { cls:=.type "slice",data:=.fields #[vl,vu,.none] } }
 exact tail_any (ops:=[.ref s3.heap.objs.size,v]) ht hT hg (by with_unfolding_all rfl)
def Xp (xs:List V) (lo hi:Option Int):List V:=(xs.drop (HT.sIx xs.length 0 lo)).take (HT.sIx xs.length xs.length hi - HT.sIx xs.length 0 lo)
theorem jK (xs:List V) (lo hi:Option Int):(Xp xs lo hi).length <= xs.length:=by
 unfold Xp
 rw [List.length_take,List.length_drop]
 omega
end
end L2
namespace L2
open PySem PySem.Spec PyProof.Rows
def ixN (n:Nat) (i:Int):Option Nat:=if 0 <= i then (if i < n then some i.toNat else none) else if -(n:Int) <= i then some (i + n).toNat else none
def atI {α:Type} (xs:List α) (i:Int):Option α:=(ixN xs.length i).bind fun j=>xs[j]?
theorem Y2 {n:Nat} {i:Int} {j:Nat} (h:ixN n i = some j):seqIndex? i n = some j /\ j < n /\ -(n:Int) <= i /\ i < n:=by
 unfold ixN at h
 by_cases h0:0 <= i
 ·rw [if_pos h0] at h
  by_cases h1:i < n
  ·rw [if_pos h1] at h
   have e:i.toNat = j:=Option.some.inj h
   exact ⟨by rw [seqIndex_of h0 h1,e],by omega,by omega,h1⟩
  ·rw [if_neg h1] at h; cases h
 ·rw [if_neg h0] at h
  by_cases h1:-(n:Int) <= i
  ·rw [if_pos h1] at h
   have e:(i + n).toNat = j:=Option.some.inj h
   exact ⟨by rw [seqIndex_neg (by omega) h1,e],by omega,h1,by omega⟩
  ·rw [if_neg h1] at h; cases h
theorem qm {α:Type} {xs:List α} {i:Int} {v:α} (h:atI xs i = some v):∃ j,seqIndex? i xs.length = some j /\ xs[j]? = some v /\ j < xs.length /\ -(xs.length:Int) <= i /\ i < xs.length:=by
 unfold atI at h
 cases e:ixN xs.length i with
 | none=>rw [e] at h; cases h
 | some j =>
  rw [e] at h
  obtain ⟨h1,h2,h3,h4⟩:=Y2 e
  exact ⟨j,h1,h,h2,h3,h4⟩
theorem xI {α:Type} {xs:List α} {j:Nat} {v:α} (h:xs[j]? = some v):atI xs (j:Int) = some v:=by
 have hj:j < xs.length:=(List.getElem?_eq_some_iff.mp h).1
 have e:ixN xs.length (j:Int) = some j:=by
  unfold ixN
  rw [if_pos (by omega),if_pos (by omega)]; simp
 unfold atI; rw [e]; exact h
def Vs (b:Expr):Prop:=∀ o i,subscripted b false o i = operate [o,i] (getItem o i)
def IxR (X:Cx) (r:R2):Prop :=
 ∀ (value slice:Expr) (pins:List (Addr × Obj)) (s:Shared) (σ:St) (H:Hp) (x y:V) (v u:Value) (Q:VK),Inv X pins σ H s -> RelV x v -> RelV y u -> r x y H Q ->
  subscripted slice false v u = operate [v,u] (getItem v u) -> wpAny (model X.prog X.w) X.A (subscriptTail value slice v u) (EP X pins σ Q) X.xe s
def MtR (X:Cx) (id:String) (r:V -> List V -> Hp -> VK -> Prop):Prop :=
 ∀ (pins:List (Addr × Obj)) (s:Shared) (σ:St) (H:Hp) (x:V) (xs:List V) (v:Value) (us:List Value) (Q:VK),Inv X pins σ H s -> RelV x v -> Vals xs us -> r x xs H Q ->
  wpAny (model X.prog X.w) X.A (call (.builtin id) (v :: us)) (EP X pins σ Q) X.xe s
section
variable {X:Cx} {a b:Expr} {ta tb:TE} {pos:Pos}
theorem IxR.or {r r':R2} (h:IxR X r) (h':IxR X r'):IxR X (fun x y H Q=>r x y H Q \/ r' x y H Q):=by
 intro value slice pins s σ H x y v u Q I rx ry q hs
 rcases q with q | q
 ·exact h value slice pins s σ H x y v u Q I rx ry q hs
 ·exact h' value slice pins s σ H x y v u Q I rx ry q hs
theorem z9 {r:R2} (hr:IxR X r) (ha:PE X a ta) (hb:PE X b tb) (hs:Vs b):PE X (.Subscript a b pos) (tOp r ta tb):=by
 intro pins s σ H Q I h
 exact Subscript_ (QE ha hb I h fun v u s2 x y H2 I2 rx ry q=>hr a b pins s2 σ H2 x y v u Q I2 rx ry q (hs _ _))
def QI (K:PySem.W.Frag):R2:=fun x y H Q=>∃ p xs i v,x = .ref p /\ y = .int i /\ SqL K H p xs /\ atI xs i = some v /\ Q v H
def V2 (K:PySem.W.Frag):R2:=fun x y H Q=>∃ p xs i v,x = .ref p /\ y = .int i /\ SqT K H p xs /\ atI xs i = some v /\ Q v H
def QT:R2:=fun x y H Q=>∃ z i c,x = .str z /\ y = .int i /\ z.length <= sizeLine /\ atI z.cps.toList i = some c /\ Q (.str ⟨#[c]⟩) H
theorem ix_list:IxR X (QI X.K):=by
 intro value slice pins s σ H x y v u Q I rx ry h hs
 obtain ⟨p,xs,i,z,rfl,rfl,hq,he,q⟩:=h
 cases rx
 obtain ⟨t,rfl⟩:=ry
 obtain ⟨its,r,pl,hz⟩:=I.list hq
 obtain ⟨j,h1,h2,h3,h4,h5⟩:=qm he
 obtain ⟨w,ew,rw'⟩:=r.get h2
 have hl:=r.length
 have hn:=uJ
 have fin:EP X pins σ Q w s:=⟨z,H,I,rw',q⟩
 by_cases h0:0 <= i
 ·have hj:i.toNat = j:=by
   rw [seqIndex_of h0 h5] at h1
   exact Option.some.inj h1
  exact item_listR pl.isList h0 (by omega) (by rw [hj]; simpa using ew) fin hs
 ·have hj:(i + (its.toArray.size:Int)).toNat = j:=by
   rw [seqIndex_neg (by omega) h4] at h1
   rw [List.size_toArray,<- hl]
   exact Option.some.inj h1
  exact subscriptTail_builtinR (x:=w) pl.isList.typeIs slot_list_getitem.lookup
   (wpAny_getItem_list_neg (Q:=fun r s'=>r = w /\ EP X pins σ Q r s') pl.isList (by omega) (by rw [List.size_toArray] <;> omega) (by omega) (by rw [hj]; simpa using ew) ⟨rfl,fin⟩) hs
theorem ix_tup:IxR X (V2 X.K):=by
 intro value slice pins s σ H x y v u Q I rx ry h hs
 obtain ⟨p,xs,i,z,rfl,rfl,hq,he,q⟩:=h
 cases rx
 obtain ⟨t,rfl⟩:=ry
 obtain ⟨its,r,pl,hz⟩:=I.tuple hq
 obtain ⟨j,h1,h2,h3,h4,h5⟩:=qm he
 obtain ⟨w,ew,rw'⟩:=r.get h2
 have hl:=r.length
 have hn:=uJ
 have fin:EP X pins σ Q w s:=⟨z,H,I,rw',q⟩
 exact subscriptTail_builtinR (x:=w) pl.typeIs slot_tuple_getitem.lookup
  (getItem_tuple (j:=j) (Q:=fun r s'=>r = w /\ EP X pins σ Q r s') pl (by omega) (by omega) (by rw [List.size_toArray,<- hl]; exact h1) (by simpa using ew) ⟨rfl,fin⟩) hs
theorem VT:IxR X QT:=by
 intro value slice pins s σ H x y v u Q I rx ry h hs
 obtain ⟨z,i,c,rfl,rfl,hz,he,q⟩:=h
 obtain ⟨t,rfl⟩:=rx
 obtain ⟨t',rfl⟩:=ry
 obtain ⟨j,h1,h2,h3,h4,h5⟩:=qm he
 have hl:z.cps.toList.length = z.length:=by simp [Str.length]
 rw [hl] at h1 h4 h5
 have hn:=uJ
 exact tail_any (typeIs_str s z t) slot_str_getitem.lookup (getItem_str (c:=c) (by
  have e1:decide (i < -(2 ^ 63:Int)) = false:=decide_eq_false (by omega)
  have e2:decide (i ≥ 2 ^ 63) = false:=decide_eq_false (by omega)
  rw [e1,e2,Bool.or_false]) (by rw [h1]; simpa using h2) ⟨.str ⟨#[c]⟩,H,I.tok _,⟨_,rfl⟩,q⟩) hs
def rIx (K:PySem.W.Frag):R2:=fun x y H Q=>QI K x y H Q \/ V2 K x y H Q \/ QT x y H Q
theorem WA:IxR X (rIx X.K):=ix_list.or (ix_tup.or VT)
theorem Zv (its:List Value) (n j:Nat) (u:Value):Obj.mapSeq (·.setIfInBounds j u) { cls:=.type "list",data:=.seq its.toArray n } = { cls:=.type "list",data:=.seq (its.set j u).toArray n }:=by
 simp [Obj.mapSeq]
theorem Inv.lst {pins:List (Addr × Obj)} {σ:St} {H:Hp} {s:Shared} {p:Addr} {xs:List V} (I:Inv X pins σ H s) (h:H p = some (.lst xs)) :
  ∃ (its:List Value) (n:Nat),Vals xs its /\ s.heap.get? p = some { cls:=.type "list",data:=.seq its.toArray n } /\ xs.length <= sizeLine:=by
 obtain ⟨z,its,n,r,e⟩:=I.hok p _ h
 exact ⟨its,n,r,e,z⟩
theorem Inv.lstUpd {pins:List (Addr × Obj)} {σ:St} {H:Hp} {s:Shared} {p:Addr} {xs ys:List V} {its its':List Value} {n n':Nat} {f:Obj -> Obj} (I:Inv X pins σ H s) (h:H p = some (.lst xs))
  (ho:s.heap.get? p = some { cls:=.type "list",data:=.seq its.toArray n }) (hf:f { cls:=.type "list",data:=.seq its.toArray n } = { cls:=.type "list",data:=.seq its'.toArray n' }) (r:Vals ys its') (hz:ys.length <= sizeLine) (t:Nat) :
  Inv X pins σ (upd H p (.lst ys)) { s with heap:=s.heap.update p f,toks:=t }:=by
 have e:(s.heap.update p f).get? p = some { cls:=.type "list",data:=.seq its'.toArray n' }:=by
  rw [Heap.get?_update_self f ho (by rw [hf] <;> rfl),hf]
 refine I.write (x:=p) (e:=p) (by rw [h]; trivial) (.inl rfl) (fun b u hb q=>(Heap.get?_update_other _ _ (Ne.symm hb)).trans q) ⟨_,e⟩ ?_
 exact ⟨hz,its',n',r,e⟩
def Qx:V -> V -> V -> Hp -> (Hp -> Prop) -> Prop:=fun o i v H Q=>∃ p xs k j,o = .ref p /\ i = .int k /\ H p = some (.lst xs) /\ ixN xs.length k = some j /\ Q (upd H p (.lst (xs.set j v)))
theorem XW:Jv X Qx:=by
 intro pins s σ H o i v ov iv u Q I ro ri rv h
 obtain ⟨p,xs,k,j,rfl,rfl,hp,hj,q⟩:=h
 cases ro
 obtain ⟨t,rfl⟩:=ri
 obtain ⟨its,n,r,ho,hz⟩:=I.lst hp
 obtain ⟨h1,h2,h3,h4⟩:=Y2 hj
 have hl:=r.length
 have hn:=uJ
 have I':Inv X pins σ (upd H p (.lst (xs.set j v))) { s with heap:=s.heap.update p (Obj.mapSeq (·.setIfInBounds j u)) } :=
  I.lstUpd hp ho (Zv its n j u) (r.set rv j) (by rw [List.length_set]; exact hz) s.toks
 by_cases h0:0 <= k
 ·have hk:k.toNat = j:=by
   rw [seqIndex_of h0 h4] at h1
   exact Option.some.inj h1
  exact PySem.W.ki_setAt ho h0 (by omega) (by rw [List.size_toArray,<- hl]; exact h4) (by rw [hk]; exact ⟨_,I',q⟩)
 ·have hk:(k + (its.toArray.size:Int)).toNat = j:=by
   rw [seqIndex_neg (by omega) h3] at h1
   rw [List.size_toArray,<- hl]
   exact Option.some.inj h1
  exact PySem.W.ki_setBack ho (by omega) (by rw [List.size_toArray,<- hl]; exact h3) (by omega) (by rw [hk]; exact ⟨_,I',q⟩)
theorem ju (lo hi:Option Int) (n:Nat):(sliceBounds lo hi none n).1 = ((HT.sIx n 0 lo:Nat):Int) /\ (sliceBounds lo hi none n).2.1 = ((HT.sIx n n hi:Nat):Int) /\ (sliceBounds lo hi none n).2.2 = 1:=by
 refine ⟨?_,?_,rfl⟩
 ·cases lo with
  | none=>simp [sliceBounds,HT.sIx]
  | some i =>
   simp only [sliceBounds,HT.sIx,Option.getD_none,show (1:Int) > 0 by decide,if_true]
   by_cases h:i < 0
   ·simp only [h,if_true] <;> omega
   ·simp only [h,if_false] <;> omega
 ·cases hi with
  | none=>simp [sliceBounds,HT.sIx]
  | some i =>
   simp only [sliceBounds,HT.sIx,Option.getD_none,show (1:Int) > 0 by decide,if_true]
   by_cases h:i < 0
   ·simp only [h,if_true] <;> omega
   ·simp only [h,if_false] <;> omega
theorem uV (its:List Value) (lo hi:Option Int):slicePick its.toArray lo hi none = ((its.drop (HT.sIx its.length 0 lo)).take (HT.sIx its.length its.length hi - HT.sIx its.length 0 lo)).toArray:=by
 obtain ⟨h1,h2,h3⟩:=ju lo hi its.toArray.size
 unfold slicePick
 rw [h1,h2,h3]
 simp only [sliceRange_one,pick_run,List.size_toArray] <;> rfl
def QQ (K:PySem.W.Frag):V -> Option Int -> Option Int -> Hp -> VK -> Prop:=fun x lo hi H Q=>∃ a xs,x = .ref a /\ SqL K H a xs /\ ∀ p,H p = none -> Q (.ref p) (upd H p (.lst (Xp xs lo hi)))
theorem sl_list:SlR X (QQ X.K):=by
 intro pins s σ H x v vl vu lo hi sl Q I rx hs pl pu h
 obtain ⟨a,xs,rfl,hx,q⟩:=h
 cases rx
 obtain ⟨its,r,ht,hz⟩:=I.list hx
 have hlen:=r.length
 refine ⟨"list",_,slot_list_getitem.lookup,ht.isList.typeIs,?_⟩
 refine wpAny_getItem_list_slice ht.isList hs pl pu .none (by simp) ?_ (by rw [List.size_toArray] <;> omega)
 rw [uV,<- hlen]
 refine ⟨.ref s.heap.objs.size,_,I.laid (t':=s.toks) (o:=.lst (Xp xs lo hi)) (fun b ob q=>Heap.get?_push_of_some _ q) (Nat.le_refl _) ?_,rfl,q _ (I.hok.fresh (Nat.le_refl _))⟩
 exact ⟨Nat.le_trans (jK xs lo hi) hz,_,0,(r.drop (HT.sIx xs.length 0 lo)).take (HT.sIx xs.length xs.length hi - HT.sIx xs.length 0 lo),Heap.get?_push_size _ rfl⟩
def UE:V -> Bool
 | .non=>true
 | .bl _=>true
 | .int _=>true
 | .str _=>true
 | _=>false
def eqV:V -> V -> Bool
 | .non,.non=>true
 | .bl a,.bl b=>a == b
 | .bl a,.int b=>(if a then 1 else 0) == b
 | .int a,.bl b=>a == (if b then 1 else 0)
 | .int a,.int b=>a == b
 | .str a,.str b=>a == b
 | _,_=>false
theorem j3 {A:Around} {s:Shared} {y x:V} {u v:Value} (ry:RelV y u) (rx:RelV x v) (fy:UE y = true) (fx:UE x = true):SeqAt.EqAt A s u v (eqV y x):=by
 cases y with
 | non =>
  cases ry
  cases x with
  | non=>cases rx; exact SeqAt.EqAt.same _
  | bl b=>cases rx; exact SeqAt.EqAt.none_bool b
  | int b=>obtain ⟨t,rfl⟩:=rx; exact SeqAt.EqAt.none_int b t
  | str b=>obtain ⟨t,rfl⟩:=rx; exact SeqAt.EqAt.none_str b t
  | _=>exact absurd (show false = true from fx) Bool.false_ne_true
 | bl a =>
  cases ry
  cases x with
  | non=>cases rx; exact SeqAt.EqAt.bool_none a
  | bl b=>cases rx; exact SeqAt.EqAt.bool_bool a b
  | int b=>obtain ⟨t,rfl⟩:=rx; exact SeqAt.EqAt.bool_int a b t
  | str b=>obtain ⟨t,rfl⟩:=rx; exact SeqAt.EqAt.bool_str a b t
  | _=>exact absurd (show false = true from fx) Bool.false_ne_true
 | int a =>
  obtain ⟨t',rfl⟩:=ry
  cases x with
  | non=>cases rx; exact SeqAt.EqAt.int_none a t'
  | bl b=>cases rx; exact SeqAt.EqAt.int_bool a t' b
  | int b=>obtain ⟨t,rfl⟩:=rx; exact SeqAt.EqAt.int_int a t' b t
  | str b=>obtain ⟨t,rfl⟩:=rx; exact SeqAt.EqAt.int_str a t' b t
  | _=>exact absurd (show false = true from fx) Bool.false_ne_true
 | str a =>
  obtain ⟨t',rfl⟩:=ry
  cases x with
  | non=>cases rx; exact SeqAt.EqAt.str_none a t'
  | bl b=>cases rx; exact SeqAt.EqAt.str_bool a t' b
  | int b=>obtain ⟨t,rfl⟩:=rx; exact SeqAt.EqAt.str_int a t' b t
  | str b=>obtain ⟨t,rfl⟩:=rx; exact SeqAt.EqAt.str_str a t' b t
  | _=>exact absurd (show false = true from fx) Bool.false_ne_true
 | _=>exact absurd (show false = true from fy) Bool.false_ne_true
theorem yH:wJ X (.type "list") (fun xs H Q=>∃ p ys,xs = [.ref p] /\ (SqL X.K H p ys \/ SqT X.K H p ys) /\ ∀ l,H l = none -> Q (.ref l) (upd H l (.lst ys))):=by
 intro pins s σ H xs us Q I r h
 obtain ⟨p,ys,rfl,hq,q⟩:=h
 obtain ⟨u,rfl,rx⟩:=vm r
 cases rx
 have fin:∀ (its:List Value),Vals ys its -> ys.length <= sizeLine -> ∀ (h':Heap) (c':Nat),(∀ b o',s.heap.get? b = some o' -> h'.get? b = some o') ->
   h'.get? s.heap.objs.size = some { cls:=.type "list",dict:=none,data:=.seq its.toArray c',slots:=#[] } -> EP X pins σ Q (.ref s.heap.objs.size) { s with heap:=h' }:=fun its r' hz h' c' kp e =>
  ⟨.ref s.heap.objs.size,_,I.laid (t':=s.toks) kp (Nat.le_refl _) (show ObjOk X.prog X.w _ h' _ (.lst ys) from ⟨hz,its,c',r',e⟩),rfl,q _ (I.hok.fresh (Nat.le_refl _))⟩
 rcases hq with hq | hq
 ·obtain ⟨its,r',pl,hz⟩:=I.list hq
  have hlen:=r'.length
  obtain ⟨o,ho,hc,n,hd⟩:=pl.isList
  exact call_list_seq p (.inl rfl) ho hc hd (fun h' c' kp e=>fin its r' hz h' c' kp e) (by simp only [List.size_toArray] <;> omega)
 ·obtain ⟨its,r',pl,hz⟩:=I.tuple hq
  have hlen:=r'.length
  obtain ⟨o,ho,hc,n,hd⟩:=pl
  exact call_list_seq p (.inr rfl) ho hc hd (fun h' c' kp e=>fin its r' hz h' c' kp e) (by simp only [List.size_toArray] <;> omega)
theorem qg:wJ X (.type "tuple") (fun xs H Q=>∃ p ys,xs = [.ref p] /\ ((SqL X.K H p ys /\ ∀ l,H l = none -> Q (.ref l) (upd H l (.tup ys))) \/ (SqT X.K H p ys /\ Q (.ref p) H))):=by
 intro pins s σ H xs us Q I r h
 obtain ⟨p,ys,rfl,h⟩:=h
 obtain ⟨u,rfl,rx⟩:=vm r
 cases rx
 rcases h with ⟨hq,q⟩ | ⟨hq,q⟩
 ·obtain ⟨its,r',pl,hz⟩:=I.list hq
  have hlen:=r'.length
  refine call_tuple_list pl.isList (fun h' kp=>?_) (by simp only [List.size_toArray] <;> omega)
  have I1:Inv X pins σ H { s with heap:=h' }:=I.kept (t':=s.toks) kp
  have I2:Inv X pins σ (upd H h'.objs.size (.tup ys)) { s with heap:=h'.push { cls:=.type "tuple",data:=.seq its.toArray } } :=
   I1.laid (t':=s.toks) (fun b o e=>Heap.get?_push_of_some _ e) (Nat.le_refl _) (show ObjOk X.prog X.w _ _ _ (.tup ys) from ⟨hz,its,r',IsTup.new _ _⟩)
  exact ⟨.ref h'.objs.size,_,I2,rfl,q _ (I1.hok.fresh (Nat.le_refl _))⟩
 ·obtain ⟨its,r',pl,hz⟩:=I.tuple hq
  exact call_tuple_same pl ⟨.ref p,H,I,rfl,q⟩
def tyV (K:PySem.W.Frag) (T:String) (x:V) (H:Hp):Prop:=match x with
 | .str _=>T = "str"
 | .int _=>T = "int"
 | .ref p=>(T = "list" /\ ∃ xs,SqL K H p xs) \/ (T = "tuple" /\ ∃ o,K.lookup p = some o /\ o.cls = .type "tuple" /\ o.dict = none) \/
   (T = "dict" /\ ((∃ kvs,H p = some (.dK kvs)) \/ ∃ kvs,H p = some (.dT kvs))) \/ (T = "set" /\ ∃ S n,H p = some (.set S n))
 | _=>False
theorem WL {pins:List (Addr × Obj)} {σ:St} {H:Hp} {s:Shared} {T:String} {x:V} {v:Value} (I:Inv X pins σ H s) (r:RelV x v) (ty:tyV X.K T x H) :
  s.TypeIs v T /\ ∀ a,v = .ref a -> ∃ ob,s.heap.get? a = some ob /\ ob.dict = none:=by
 cases x with
 | str z =>
  obtain ⟨t,rfl⟩:=r
  cases (show T = "str" from ty)
  exact ⟨typeIs_str s z t,fun _ e=>nomatch e⟩
 | int i =>
  obtain ⟨t,rfl⟩:=r
  cases (show T = "int" from ty)
  exact ⟨typeIs_int s i t,fun _ e=>nomatch e⟩
 | ref p =>
  cases r
  rcases ty with ⟨rfl,xs,hq⟩ | ⟨rfl,o,hk,hc,hd⟩ | ⟨rfl,hk⟩ | ⟨rfl,S,n,hk⟩
  ·obtain ⟨its,_,pl,_⟩:=I.list hq
   refine ⟨pl.isList.typeIs,fun a e=>?_⟩
   cases e
   obtain ⟨o,n,e,c,hd,_⟩:=pl
   exact ⟨o,e,hd⟩
  ·refine ⟨⟨o,I.kIn p o hk,hc⟩,fun a e=>?_⟩
   cases e
   exact ⟨o,I.kIn _ o hk,hd⟩
  ·have z:∃ o,s.heap.get? p = some o /\ o.ExactDict:=by
    rcases hk with ⟨kvs,hk⟩ | ⟨kvs,hk⟩
    ·obtain ⟨_,_,_,_,o,_,_,e,ex,_⟩:=I.hok p _ hk
     exact ⟨o,e,ex⟩
    ·obtain ⟨_,_,_,_,o,_,_,e,ex,_⟩:=I.hok p _ hk
     exact ⟨o,e,ex⟩
   obtain ⟨o,e,ex⟩:=z
   refine ⟨⟨o,e,ex.1⟩,fun a e2=>?_⟩
   cases e2
   exact ⟨o,e,ex.2.1⟩
  ·obtain ⟨o,_,_,_,e,ex,_⟩:=I.hok p _ hk
   refine ⟨⟨o,e,ex.1⟩,fun a e2=>?_⟩
   cases e2
   exact ⟨o,e,ex.2.1⟩
 | _=>exact False.elim ty
def Jp (K:PySem.W.Frag) (T:String) (r:V -> List V -> Hp -> VK -> Prop) (to:TE):TE:=fun σ H Q=>to σ H fun x H1=>tyV K T x H1 /\ r x [] H1 Q
def tBM (K:PySem.W.Frag) (T:String) (r:V -> List V -> Hp -> VK -> Prop) (to:TE) (t:TA):TE:=fun σ H Q=>to σ H fun x H1=>tyV K T x H1 /\ t σ H1 fun xs H2=>r x xs H2 Q
variable {o e:Expr} {es:List Expr} {to:TE} {t:TA} {name:Str} {apos cpos:Pos} {T id:String} {r:V -> List V -> Hp -> VK -> Prop}
theorem VX (pa:PlainAttrs T) (slot:Slot T name id) (hty:typeOf (.builtin id) = pure (.type "method_descriptor")) (hm:MtR X id r) (ho:PE X o to)
  (hbase:attributeBase o name X.env (eval o X.env) = eval o X.env:=by rfl) (hline:(apos.endLine == cpos.line) = true:=by rfl):PE X (.Call (.Attribute o name apos) [] [] cpos) (Jp X.K T r to):=by
 intro pins s σ H Q I h
 refine wpAny_Call_method0_late hbase hline (thn (ho pins s σ H _ I h) fun v s1 ⟨x,H1,I1,r1,ty,q1⟩=>?_)
 obtain ⟨h1,h2⟩:=WL I1 r1 ty
 exact ⟨T,id,pa,slot,hty,h1,h2,Calls.callWith_builtin rfl (PySem.evalArgs_none (hm pins s1 σ H1 x [] v [] Q I1 r1 .nil q1))⟩
theorem xC (pa:PlainAttrs T) (slot:Slot T name id) (hty:typeOf (.builtin id) = pure (.type "method_descriptor")) (hm:MtR X id r) (ho:PE X o to) (ha:PA X (e :: es) t)
  (hbase:attributeBase o name X.env (eval o X.env) = eval o X.env:=by rfl)
  (hfew:((backTo cpos (starEach (e :: es) X.env)).all (fun x=>!x.1) && (backToKw cpos (keywordEach [] X.env)).all (fun x=>x.1.isSome)
   && decide ((e :: es).length + ([]:List Keyword).length + (if ([]:List Keyword).isEmpty then 0 else 1) < 30)) = true:=by rfl)
  (hline:(apos.endLine == cpos.line) = true:=by rfl) (hs:starEach (e :: es) X.env = (false,eval e X.env) :: starEach es X.env:=by rfl) (hplain:(backTo cpos (starEach es X.env)).any (·.1) = false:=by rfl) :
  PE X (.Call (.Attribute o name apos) (e :: es) [] cpos) (tBM X.K T r to t):=by
 intro pins s σ H Q I h
 refine wpAny_Call_method_late hbase hfew hline rfl (thn (ho pins s σ H _ I h) fun v s1 ⟨x,H1,I1,r1,ty,q1⟩=>?_)
 obtain ⟨h1,h2⟩:=WL I1 r1 ty
 refine ⟨T,id,pa,slot,hty,h1,h2,?_⟩
 have hA:=ha cpos pins s1 σ H1 _ I1 q1
 rw [hs] at hA ⊢
 refine Calls.callWith_builtin (by show (false || (backTo cpos (starEach es X.env)).any (·.1)) = false; rw [hplain] <;> rfl) (Calls.evalArgs_plain ?_)
 exact thn hA fun us s2 ⟨vs,H2,I2,r2,q2⟩=>hm pins s2 σ H2 x vs v us Q I2 r1 r2 q2
/- xs.append(e),list.index on a module's tuple .. are MtR facts of 06m -/
end
end L2
namespace L2
open PySem PySem.Spec PyProof.Rows
def MtM (X:Cx) (id:String) (r:V -> List V -> Hp -> VK -> Prop):Prop :=
 ∀ (pins:List (Addr × Obj)) (s:Shared) (σ:St) (H:Hp) (x:V) (xs:List V) (v:Value) (us:List Value) (Q:VK),Inv X pins σ H s -> RelV x v -> Vals xs us -> r x xs H Q ->
  wpAny (model X.prog X.w) X.A (call (.builtin id) (v :: us)) (EP X pins σ Q) X.xe s
theorem Vals.one:∀ {x:V} {us:List Value},Vals [x] us -> ∃ u,us = [u] /\ RelV x u
 | _,_,.cons r .nil=>⟨_,rfl,r⟩
theorem Vals.two:∀ {x y:V} {us:List Value},Vals [x,y] us -> ∃ u v,us = [u,v] /\ RelV x u /\ RelV y v
 | _,_,_,.cons r (.cons q .nil)=>⟨_,_,rfl,r,q⟩
theorem Vals.zero:∀ {us:List Value},Vals [] us -> us = []
 | _,.nil=>rfl
theorem Vals.dropLast {xs:List V} {us:List Value} (h:Vals xs us):Vals xs.dropLast us.dropLast:=by
 induction h with
 | nil=>exact .nil
 | cons r t ih =>
  cases t with
  | nil=>exact .nil
  | cons q t'=>exact .cons r ih
theorem Vals.eraseIdx:∀ {xs:List V} {us:List Value} (i:Nat),Vals xs us -> Vals (xs.eraseIdx i) (us.eraseIdx i)
 | _,_,_,.nil=>.nil
 | _,_,0,.cons _ t=>t
 | _,_,i + 1,.cons r t=>.cons r (Vals.eraseIdx i t)
theorem Vals.reverse {xs:List V} {us:List Value} (h:Vals xs us):Vals xs.reverse us.reverse:=by
 induction h with
 | nil=>exact .nil
 | cons r t ih=>rw [List.reverse_cons,List.reverse_cons]; exact Vals.append ih (.cons r .nil)
theorem Vals.rep {xs:List V} {us:List Value} (h:Vals xs us):∀ k:Nat,Vals (List.replicate k xs).flatten (List.replicate k us).flatten
 | 0=>.nil
 | k + 1=>by
  rw [List.replicate_succ,List.replicate_succ,List.flatten_cons,List.flatten_cons]
  exact Vals.append h (Vals.rep h k)
theorem Zy {α:Type} (l:List α):l.eraseIdx (l.length - 1) = l.dropLast:=by
 induction l with
 | nil=>rfl
 | cons a r ih =>
  cases r with
  | nil=>rfl
  | cons b r =>
   have e:(a :: b :: r).length - 1 = ((b :: r).length - 1) + 1:=by
    have h1:(a :: b :: r).length = r.length + 2:=rfl
    have h2:(b :: r).length = r.length + 1:=rfl
    omega
   rw [e,List.eraseIdx_cons_succ,ih]
   all_goals rfl
theorem jt (its:List Value):∀ (k:Nat) (acc:List Value),
  List.foldl (fun x1 x2=>x1 ++ x2) acc.toArray (List.replicate k its.toArray) = (acc ++ (List.replicate k its).flatten).toArray
 | 0,acc=>by simp
 | k + 1,acc=>by
  have e:acc.toArray ++ its.toArray = (acc ++ its).toArray:=by simp
  have e2:(acc ++ its) ++ (List.replicate k its).flatten = acc ++ (List.replicate (k + 1) its).flatten:=by
   rw [List.replicate_succ,List.flatten_cons,List.append_assoc]
  rw [<- e2,<- jt its k (acc ++ its),<- e,List.replicate_succ,List.foldl_cons]
section
variable {X:Cx} {pins:List (Addr × Obj)} {σ:St} {H:Hp} {s:Shared} {l b:Addr} {xs ys zs:List V}
theorem Inv.lset {its its':List Value} {n:Nat} {f:Array Value -> Array Value} {t':Nat} (I:Inv X pins σ H s) (hH:H l = some (.lst xs))
  (e:s.heap.get? l = some { cls:=.type "list",data:=.seq its.toArray n }) (hf:f its.toArray = its'.toArray) (hv:Vals ys its') (hz:ys.length <= sizeLine) :
  Inv X pins σ (upd H l (.lst ys)) { s with heap:=s.heap.update l (Obj.mapSeq f),toks:=t' }:=by
 have q:=PySem.IsL.update e f
 rw [hf] at q
 refine I.write (x:=l) (e:=l) (by rw [hH]; exact trivial) (.inl rfl) (fun b' u hb hu=>(Heap.get?_update_other s.heap (Obj.mapSeq f) (Ne.symm hb)).trans hu) ⟨_,q⟩ ?_
 exact ⟨hz,its',_,hv,q⟩
theorem Inv.lnew {its:List Value} {t':Nat} (I:Inv X pins σ H s) (hv:Vals ys its) (hz:ys.length <= sizeLine) :
  Inv X pins σ (upd H s.heap.objs.size (.lst ys)) { s with heap:=s.heap.push { cls:=.type "list",data:=.seq its.toArray },toks:=t' } :=
 I.laid (fun _ _ q=>Heap.get?_push_of_some _ q) (Nat.le_refl _) ⟨hz,its,0,hv,Heap.get?_push_size _ rfl⟩
theorem Inv.fresh (I:Inv X pins σ H s):H s.heap.objs.size = none:=I.hok.fresh (Nat.le_refl _)
theorem Inv.lstM (I:Inv X pins σ H s) (hH:H l = some (.lst xs)):xs.length <= sizeLine /\ ∃ (its:List Value) (n:Nat),Vals xs its /\ xs.length = its.length /\ s.heap.get? l = some { cls:=.type "list",data:=.seq its.toArray n }:=by
 obtain ⟨z,its,n,r,e⟩:=I.hok l _ hH
 exact ⟨z,its,n,r,r.length,e⟩
theorem kz {n:Nat} (h:n <= sizeLine):Builtin.List.listTooLong n = false:=by
 unfold Builtin.List.listTooLong
 exact decide_eq_false (by omega)
end
section
variable {X:Cx}
def YE:V -> List V -> Hp -> VK -> Prop:=fun x vs H Q=>∃ l xs y,x = .ref l /\ vs = [y] /\ H l = some (.lst xs) /\ xs.length < sizeLine /\ Q .non (upd H l (.lst (xs ++ [y])))
theorem yz:MtM X "list.append" YE:=by
 intro pins s σ H x vs v us Q I rx rv h
 obtain ⟨l,xs,y,rfl,rfl,hH,hz,q⟩:=h
 cases rx
 obtain ⟨u,rfl,ru⟩:=rv.one
 obtain ⟨z,its,n,r,hl,e⟩:=I.lstM hH
 refine call_meets F.slot_list_append ⟨_,e,rfl⟩ F.entry_list_append (F.args_list_append_2 _ _) (PySem.list_append l its.toArray n u (by rw [List.size_toArray]; omega)) ⟨e,?_⟩
 refine ⟨.non,_,I.lset (its':=its ++ [u]) hH e (by simp) (r.append (.cons ru .nil)) ?_,rfl,q⟩
 rw [List.length_append,List.length_singleton]
 omega
def WU:V -> List V -> Hp -> VK -> Prop:=fun x vs H Q=>∃ l b xs zs,x = .ref l /\ vs = [.ref b] /\ H l = some (.lst xs) /\ H b = some (.lst zs) /\ xs.length + zs.length <= sizeLine /\ Q .non (upd H l (.lst (xs ++ zs)))
theorem UC:MtM X "list.extend" WU:=by
 intro pins s σ H x vs v us Q I rx rv h
 obtain ⟨l,b,xs,zs,rfl,rfl,hH,hB,hz,q⟩:=h
 cases rx
 obtain ⟨u,rfl,ru⟩:=rv.one
 cases ru
 obtain ⟨z,its,n,r,hl,e⟩:=I.lstM hH
 obtain ⟨z2,its2,n2,r2,hl2,e2⟩:=I.lstM hB
 have hsz:its.toArray.size + its2.toArray.size <= sizeLine:=by rw [List.size_toArray,List.size_toArray]; omega
 have hlong:¬ (!its.toArray.isEmpty && Builtin.List.listTooLong (its.toArray.size + its2.toArray.size)) = true:=by
  rw [kz hsz,Bool.and_false]
  exact Bool.false_ne_true
 refine call_meets F.slot_list_extend ⟨_,e,rfl⟩ F.entry_list_extend (F.args_list_extend_2 _ _)
  (AutoSeq1.list_extend_list_list_0 l its.toArray n b its2.toArray n2 hlong (by rw [List.size_toArray]; omega) (by omega)) ⟨e,e2,?_⟩
 refine ⟨.non,_,I.lset (its':=its ++ its2) hH e (by simp) (r.append r2) ?_,rfl,q⟩
 rw [List.length_append]
 omega
def J8:V -> List V -> Hp -> VK -> Prop:=fun x vs H Q=>∃ l xs y,x = .ref l /\ vs = [] /\ H l = some (.lst xs) /\ xs[xs.length - 1]? = some y /\ Q y (upd H l (.lst xs.dropLast))
theorem JA:MtM X "list.pop" J8:=by
 intro pins s σ H x vs v us Q I rx rv h
 obtain ⟨l,xs,y,rfl,rfl,hH,hy,q⟩:=h
 cases rx
 have hus:=rv.zero
 subst hus
 obtain ⟨z,its,n,r,hl,e⟩:=I.lstM hH
 obtain ⟨u,hu,ru⟩:=r.get hy
 have hy':its.toArray[its.toArray.size - 1]? = some u:=by
  show its.toArray[its.length - 1]? = some u
  rw [<- Array.getElem?_toList,<- hl]
  exact hu
 refine call_meets F.slot_list_pop ⟨_,e,rfl⟩ F.entry_list_pop (F.args_list_pop_1 _) (MeetsSeq.list_pop_last l its.toArray n u hy' (by rw [List.size_toArray]; omega)) ⟨e,?_⟩
 refine ⟨y,_,I.lset (its':=its.dropLast) hH e ?_ r.dropLast ?_,ru,q⟩
 ·show its.toArray.eraseIdxIfInBounds (its.toArray.size - 1) = its.dropLast.toArray
  rw [List.size_toArray,List.eraseIdxIfInBounds_toArray,Zy]
 ·rw [List.length_dropLast]
  omega
def XY:V -> List V -> Hp -> VK -> Prop:=fun x vs H Q=>∃ l xs,x = .ref l /\ vs = [] /\ H l = some (.lst xs) /\ Q .non (upd H l (.lst xs.reverse))
theorem Zw:MtM X "list.reverse" XY:=by
 intro pins s σ H x vs v us Q I rx rv h
 obtain ⟨l,xs,rfl,rfl,hH,q⟩:=h
 cases rx
 have hus:=rv.zero
 subst hus
 obtain ⟨z,its,n,r,hl,e⟩:=I.lstM hH
 refine call_meets F.slot_list_reverse ⟨_,e,rfl⟩ F.entry_list_reverse (F.args_list_reverse_1 _) (AutoSeq1.list_reverse_list_0 l its.toArray n (by rw [List.size_toArray]; omega)) ⟨e,?_⟩
 refine ⟨.non,_,I.lset (its':=its.reverse) hH e (by simp) r.reverse ?_,rfl,q⟩
 rw [List.length_reverse]
 omega
def QP:R2:=fun x y H Q=>∃ l b xs zs,x = .ref l /\ y = .ref b /\ H l = some (.lst xs) /\ H b = some (.lst zs) /\ xs.length + zs.length <= sizeLine /\ ∀ p,H p = none -> Q (.ref p) (upd H p (.lst (xs ++ zs)))
theorem Ui:OpR X (binaryOp .Add) QP:=by
 intro pins s σ H x y v u Q I rx ry h
 obtain ⟨l,b,xs,zs,rfl,rfl,hH,hB,hz,q⟩:=h
 cases rx
 cases ry
 obtain ⟨z,its,n,r,hl,e⟩:=I.lstM hH
 obtain ⟨z2,its2,n2,r2,hl2,e2⟩:=I.lstM hB
 refine PySem.P.add_list e e2 ?_ (by rw [List.size_toArray,List.size_toArray]; omega)
 have ea:its.toArray ++ its2.toArray = (its ++ its2).toArray:=by simp
 rw [ea]
 exact ⟨.ref _,_,I.lnew (t':=s.toks) (r.append r2) (by rw [List.length_append]; omega),rfl,q _ I.fresh⟩
def JG:R2:=fun x y H Q=>∃ l k xs,x = .ref l /\ y = .int k /\ H l = some (.lst xs) /\ -(2 ^ 63) <= k /\ k < 2 ^ 63 /\ xs.length * k.toNat <= sizeLine /\
 ∀ p,H p = none -> Q (.ref p) (upd H p (.lst (List.replicate k.toNat xs).flatten))
theorem len_rep {α:Type} (xs:List α) (k:Nat):(List.replicate k xs).flatten.length = k * xs.length:=by
 induction k with
 | zero=>simp
 | succ k ih=>rw [List.replicate_succ,List.flatten_cons,List.length_append,ih,Nat.succ_mul,Nat.add_comm]
theorem Um:OpR X (binaryOp .Mult) JG:=by
 intro pins s σ H x y v u Q I rx ry h
 obtain ⟨l,k,xs,rfl,rfl,hH,h1,h2,hz,q⟩:=h
 cases rx
 obtain ⟨t,rfl⟩:=ry
 obtain ⟨z,its,n,r,hl,e⟩:=I.lstM hH
 have hlen:its.toArray.size * k.toNat <= sizeLine:=by rw [List.size_toArray,<- hl]; exact hz
 have hcap:¬ its.toArray.size * k.toNat > (2 ^ 63 - 1) / 8:=by
  have:(sizeLine:Nat) <= (2 ^ 63 - 1) / 8:=by decide
  omega
 have hfit:¬ (!Builtin.List.listFitsIndex k) = true:=by
  rw [fitsIndex_both h1 h2]
  exact Bool.false_ne_true
 have hlong:¬ Builtin.List.listTooLong (its.toArray.size * k.toNat) = true:=by
  rw [kz hlen]
  exact Bool.false_ne_true
 have hnew:List.foldl (fun x1 x2=>x1 ++ x2) #[] (List.replicate (if its.toArray.isEmpty = true then 0 else k.toNat) its.toArray) = (List.replicate k.toNat its).flatten.toArray:=by
  have f0:∀ m:Nat,List.foldl (fun x1 x2=>x1 ++ x2) #[] (List.replicate m its.toArray) = (List.replicate m its).flatten.toArray:=fun m=>by
   have:=jt its m []
   rw [List.nil_append] at this
   exact this
  rw [f0]
  cases its with
  | nil=>simp
  | cons a r'=>rw [if_neg (by simp)]
 refine wpAny_binaryOp_repeat_ref (T:="list") (U:="int") (by decide) ⟨_,e,rfl⟩ (fun s'=>typeIs_int s' k t) noFill_list_mul F.fills_int_mul F.slot_int_rmul repeat_list F.slot_int_index.lookup
  (call_meets F.slot_int_rmul (typeIs_int s k t) F.entry_int_rmul (F.args_int_rmul_2 _ _) (int___rmul___int_list k t l its.toArray n)
   ⟨e,rfl,⟨_,e,rfl⟩,call_meets F.slot_list_mul ⟨_,e,rfl⟩ F.entry_list_mul (F.args_list_mul_2 _ _) (AutoListH.list___mul___list_int_3 l its.toArray n k t hfit hcap hlong) ⟨e,?_⟩⟩)
 rw [hnew]
 exact ⟨.ref _,_,I.lnew (t':=s.toks) (r.rep k.toNat) (by rw [len_rep,Nat.mul_comm]; exact hz),rfl,q _ I.fresh⟩
end
section
variable {prog:Program} {w:World} {A:Around} {E:Value -> Shared -> Prop} {s:Shared}
end
section
variable {X:Cx}
end
end L2
namespace Att
open PySem PySem.W PySem.Calls PyProof.Rows
theorem vX {P:Params} {h:Heap}:∀ (ns:List Int) (vs:List Value),WellAll P h vs (ns.map WData.int) -> IntsAre vs ns:=by
 intro ns
 induction ns with
 | nil =>
  intro vs w
  rw [List.map_nil] at w
  cases w
  exact .nil
 | cons n ns ih =>
  intro vs w
  rw [List.map_cons] at w
  cases w with
  | cons a b =>
   cases a
   exact .cons _ _ (ih _ b)
theorem YY {l:OpenLaw} {n:Nat} (hn:l.most = some n) {P:Params} {h:Heap} {args:List WData} {vals:List Value}
  (hpre:l.row.toRowW.claim.pre args = true) (hwl:WellAll P h vals args) :
  ∃ a vs ns,vals = [Value.ref a] /\ args = [WData.list (ns.map WData.int)] /\ h.get? a = some { cls:=.type "list",data:=.seq vs.toArray } /\ IntsAre vs ns /\ ns.length <= n:=by
 have hsh:WShape.hasAll [] args [.list .int] = true:=(pre_splitW hpre).1
 have hc:l.pre.holds [] { args:=args } = true:=(pre_splitW hpre).2
 obtain ⟨d,r,rfl,h1,h2⟩:=hasAllW_cons hsh
 obtain rfl:=hasAllW_nil h2
 obtain ⟨xs,rfl,h3⟩:=hasW_list h1
 obtain ⟨ns,rfl⟩:=items_int h3
 have hlen:ns.length <= n:=by
  unfold OpenLaw.pre at hc
  have h4:(WTm.not (.lt (.lit (.int (n:Int))) (.len (.arg 0)))).holds [] { args:=[.list (ns.map .int)] } = true:=by
   have h4:=(holds_andW hc).1
   rw [hn] at h4
   exact h4
  have h5:=condW_of h4 (w_not (w_lt w_lit (w_len_list (w_arg rfl))))
  rw [List.length_map] at h5
  refine Nat.le_of_not_lt fun q=>?_
  have q':(n:Int) < ((ns.length:Nat):Int):=by omega
  first
   | (rw [decide_eq_true q'] at h5; exact absurd h5 (by decide))
   | (simp at h5; omega)
 cases hwl with
 | cons w1 w2 =>
  cases w2
  cases w1 with
  | list ho hall=>exact ⟨_,_,ns,rfl,rfl,ho,vX ns _ hall,hlen⟩
theorem Ye (l:OpenLaw) (args:List WData):l.row.toRowW.claim.post args (.bool true) args = true :=
 postW_of (r:=l.row.toRowW) (X:=(true == true))
  (show WShape.has [] (.bool true) .bool = true by first | rfl | decide | simp [WShape.has,WShape.arms,WShape.armsAll])
  (show (WTm.eq .res (.lit (.bool true))).value [] { args:=args,res:=some (.bool true),after:=args } = some (.bool (true == true)) from w_eq_bool (w_res rfl) w_lit) rfl
theorem attach_call {l:OpenLaw} {n:Nat} {q:Program} {loose:List Str} {XP:(Str -> Option Value) -> Heap -> Prop} {YP:World -> Heap -> Prop} {d:DefRec}
  (hn:l.most = some n) (hdf:d.params.defaults = [])
  (call:∀ (w:World) (s₀ s₁:Shared) (mg mb:Str -> Option Value) (fa:Addr) (o:Obj) (pm cd doc:Value) (a:Addr) (vs:List Value) (ns:List Int),
   Ground q loose [] XP w s₀ mg mb s₁.heap -> YP w s₁.heap ->
   s₁.heap.get? fa = some o -> o.data = .func (docDef d.name d.params d.body d.scope pm cd doc) -> s₁.heap.CodeRec cd d.name -> mg d.name = some (.ref fa) ->
   s₁.heap.get? a = some { cls:=.type "list",data:=.seq vs.toArray } -> IntsAre vs ns -> ns.length <= n -> s₁.gens = #[] ->
   codeAny (model l.prog w) callerA (.call (.ref fa) ⟨[.ref a],[]⟩) (fun r s'=>r = .ok (.ret (.bool true)) /\ OldK s₁.heap s'.heap /\ s'.os = s₁.os /\ AllBare s'.gens) s₁) :
  WalkO q loose XP YP l.row.toRowW d [] (fun f vs=>PySem.call f vs):=by
 intro w s₀ s₁ mg mb G Y fa o pm cd doc dV kV ho hd hcd hD hmg hg args vals as hpre hlay hrd hwl hlo
 obtain rfl:dV = .none:=Dflts.none hD hdf
 obtain rfl:kV = .none:=Dflts.noKw hD
 obtain ⟨a,vs,ns,rfl,rfl,hobj,hints,hlen⟩:=YY hn hpre hwl
 refine enter_call (codeAny_mono (call w s₀ s₁ mg mb fa o pm cd doc a vs ns G Y ho (fd_plain hd) hcd hmg hobj hints hlen hg) fun r s' hq=>?_)
 obtain ⟨rfl,h2,h3,h4⟩:=hq
 exact ⟨.inl ⟨.bool true,.bool true,[],rfl,fun _=>rfl,.bool true,Ye l _,fun _=>⟨List.Pairwise.nil,fun _ hm=>(nomatch hm)⟩⟩,h2,h3,h4⟩
section
variable {prog:Program} {w:World} {A:Around} {E:Value -> Shared -> Prop} {s:Shared} {K:Frag}
def Ja (h:Heap) (L d:Addr):List (Addr × Obj):=(List.range h.objs.size).filterMap fun a=>if a = L \/ a = d then none else (h.get? a).map fun o=>(a,o)
end
end Att
namespace L2
open PySem PySem.Spec PyProof.Rows
theorem jl:∀ {vs:List Value} {ns:List Int},IntsAre vs ns -> Vals (ns.map V.int) vs
 | _,_,.nil=>.nil
 | _,_,.cons n t h=>.cons ⟨t,rfl⟩ (jl h)
def QN (H:Hp):Prop:=∀ b,H b = none \/ ∃ o xs,H b = some (.frz o (.lst xs))
theorem XG {P:Program} {w:World} {K:PySem.W.Frag} {mg mb:Str -> Option Value} {CX:CXT} {k:Nat} {fa a:Addr} {fd:FuncData} {x:Str} {sp:Sp} {s₁:Shared} {vs:List Value} {ns:List Int}
  (KX:K.In s₁.heap) (hns:s₁.heap.Ns mainGlobals mg) (hb:s₁.heap.Ns builtinsNs mb) (hbb:∀ x:Str,x ≠ "__name__" -> mb x = bootBuiltins x) (hlim:s₁.heap.NoLimit) (hg:s₁.gens = #[])
  (ha:s₁.heap.get? a = some { cls:=.type "list",data:=.seq vs.toArray }) (hi:IntsAre vs ns) (hl:ns.length <= sizeLine) (hr:Room k callerA)
  (F:∀ base:Heap,K.In base -> base.Ns mainGlobals mg -> FnOk P w K mg base CX k fa fd [x] sp) (hbind:∀ (s:Shared) (u:Value),BindsTo s fd ⟨[u],[]⟩ [(x,u)])
  (hsp:∀ H:Hp,QN H -> SqL K H a (ns.map V.int) -> sp [.ref a] H (fun v _=>v = .bl true) fun _ _ _=>False)
  (hCX:∀ H e s',CX [] H s₁ (fun _ _ _=>False) e s' -> False) :
  codeAny (model P w) callerA (.call (.ref fa) ⟨[.ref a],[]⟩) (fun r s'=>r = .ok (.ret (.bool true)) /\ OldK s₁.heap s'.heap /\ s'.os = s₁.os /\ AllBare s'.gens) s₁:=by
 have rv:=jl hi
 have lenV:=hi.length
 have core:∀ H:Hp,QN H -> SqL K H a (ns.map V.int) -> HOk P w H s₁.heap -> (∀ b,H b ≠ none -> b = a) -> (H a ≠ none -> K.lookup a = none) ->
   codeAny (model P w) callerA (.call (.ref fa) ⟨[.ref a],[]⟩) (fun r s'=>r = .ok (.ret (.bool true)) /\ OldK s₁.heap s'.heap /\ s'.os = s₁.os /\ AllBare s'.gens) s₁:=by
  intro H hO hS hok hA hK
  have base_of:∀ {b:Addr} {o:Obj},s₁.heap.get? b = some o -> H b = none -> (Wv s₁.heap H).get? b = some o:=fun e n=>XF e n
  have noA:∀ {b:Addr} {o:Obj} {es:Array DictEntry} {ep:Nat},s₁.heap.get? b = some o -> o.data = .dict es ep -> H b = none:=fun {b o es ep} e d=>by
   cases q:H b with
   | none=>rfl
   | some u =>
    have e':b = a:=hA b (by rw [q]; simp)
    subst e'
    rw [ha] at e; cases e
    have d':Data.seq vs.toArray _ = Data.dict es ep:=d
    cases d'
  have nsK:∀ {b:Addr} {m:Str -> Option Value},s₁.heap.Ns b m -> (Wv s₁.heap H).Ns b m:=fun {b m} ⟨o,es,ep,e,d,r⟩=>⟨o,es,ep,base_of e (noA e d),d,r⟩
  have hKb:K.In (Wv s₁.heap H):=fun b o e=>base_of (KX b o e) (by
   cases q:H b with
   | none=>rfl
   | some u =>
    have e':b = a:=hA b (by rw [q]; simp)
    subst e'
    rw [hK (by rw [q]; simp)] at e; cases e)
  have hM:Mod K mg (Wv s₁.heap H):=⟨hKb,nsK hns,⟨mb,nsK hb,hbb⟩,let ⟨mc,h1,h2⟩:=hlim; ⟨mc,nsK h1,h2⟩⟩
  have e0:Env0 P w K mg (Wv s₁.heap H) callerA [] s₁ H:=⟨rfl,hM,fun b o e=>Vu e,Nat.le_of_eq (Yz _ _),trivial,fun b hb=>absurd (show b ∈ ([]:List Addr) from hb) (by simp),hok,.of_eq hg⟩
  refine codeAny_mono ((F _ hKb (nsK hns)).run callerA [] s₁ H ⟨[.ref a],[]⟩ [.ref a] [.ref a] _ _ hr e0 (hbind s₁ (.ref a)) (.cons rfl .nil) (hsp H hO hS)) fun r s' h=>?_
  cases r with
  | error e=>exact (hCX H e s' h).elim
  | ok fl =>
   cases fl with
   | next=>exact False.elim h
   | brk=>exact False.elim h
   | cont=>exact False.elim h
   | ret u =>
    obtain ⟨v,H',os,bare,un,hok',r',q⟩:=h
    have q':v = .bl true:=q
    subst q'
    obtain rfl:u = Value.bool true:=r'
    refine ⟨rfl,OldK.of_keep fun b o e=>?_,os,bare⟩
    cases q:H b with
    | none=>exact un.keep b o e q (by intro z; exact absurd (show b ∈ ([]:List Addr) from z) (by simp)) (by simp)
    | some u =>
     rcases hO b with z | ⟨ob,xs,z⟩
     ·rw [q] at z; cases z
     ·have z2:=un.frzs b ob _ z
      obtain ⟨e1,_⟩:=hok b _ z
      obtain ⟨e2,_⟩:=hok' b _ z2
      rw [e] at e1; cases e1
      exact e2
 cases hk:K.lookup a with
 | some o =>
  have e:=KX a o hk
  rw [ha] at e
  cases e
  refine core (fun _=>none) (fun _=>.inl rfl) (.inr ⟨_,vs.toArray,_,hk,rfl,rfl,rfl,by rw [List.size_toArray,lenV]; exact hl,by simpa using rv⟩) (fun b u z=>by have z':(none:Option HO) = some u:=z; cases z') (fun b z=>absurd rfl z) fun z=>absurd rfl z
 | none =>
  refine core (fun b=>if b = a then some (.frz { cls:=.type "list",data:=.seq vs.toArray } (.lst (ns.map V.int))) else none) (fun b=>?_) (.inl (.inr ⟨{ cls:=.type "list",data:=.seq vs.toArray },if_pos rfl⟩)) (fun b u z=>?_) (fun b z=>?_) fun _=>hk
  ·by_cases hb:b = a
   ·exact .inr ⟨_,_,if_pos hb⟩
   ·exact .inl (if_neg hb)
  ·by_cases hb:b = a
   ·have z':=(if_pos hb).symm.trans z
    cases z'
    subst hb
    exact ⟨ha,by rw [List.length_map]; exact hl,vs,_,rv,ha⟩
   ·have z':=(if_neg hb).symm.trans z
    cases z'
  ·by_cases hb:b = a
   ·exact hb
   ·exact absurd (if_neg hb) z
end L2
namespace L2
open PySem PySem.Spec PyProof.Rows
theorem walk_of {l:PySem.W.OpenLaw} {n k:Nat} {q:Program} {loose:List Str} {XP:(Str -> Option Value) -> Heap -> Prop} {YP:World -> Heap -> Prop} {d:DefRec} {K:Params -> PySem.W.Frag} {CX:World -> CXT} {sp:World -> Sp} {x:Str}
  (hn:l.most = some n) (hn2:n <= sizeLine) (hdf:d.params.defaults = []) (hr:Room k callerA)
  (hY:∀ (w:World) (h:Heap),YP w h -> (K w.params).In h)
  (F:∀ (w:World) (mg:Str -> Option Value) (fa:Addr) (h:Heap),(K w.params).In h -> h.Ns mainGlobals mg -> mg d.name = some (.ref fa) ->
   ∃ fd:FuncData,(∀ (s:Shared) (u:Value),BindsTo s fd ⟨[u],[]⟩ [(x,u)]) /\
    ∀ base:Heap,(K w.params).In base -> base.Ns mainGlobals mg -> FnOk l.prog w (K w.params) mg base (CX w) k fa fd [x] (sp w))
  (hsp:∀ (w:World) (H:Hp) (a:Addr) (ns:List Int),ns.length <= n -> QN H -> SqL (K w.params) H a (ns.map V.int) -> sp w [.ref a] H (fun v _=>v = .bl true) fun _ _ _=>False)
  (hCX:∀ (w:World) (H:Hp) (s:Shared) (e:Value) (s':Shared),CX w [] H s (fun _ _ _=>False) e s' -> False) :
  PySem.W.WalkO q loose XP YP l.row.toRowW d [] (fun f vs=>PySem.call f vs):=by
 refine Att.attach_call hn hdf fun w s₀ s₁ mg mb fa o pm cd doc a vs ns G Y ho hd hcd hmg hobj hints hlen hg=>?_
 have KX:=hY w _ Y
 obtain ⟨fd,hb,hF⟩:=F w mg fa _ KX G.T.g hmg
 exact XG KX G.T.g G.T.b G.T.builtins G.T.nolimit hg hobj hints (Nat.le_trans hlen hn2) hr hF hb (fun H hO hS=>hsp w H a ns hlen hO hS) fun H e s'=>hCX w H s₁ e s'
end L2
namespace L2
open PySem PySem.Spec PyProof.Rows
def z8 (s:Stmt) (j:Nat):Stmt:=match s with
 | .ClassDef _ _ _ body _ _ _ _ _ _ _=>body.getD j (.Pass ⟨0,0,0,0⟩)
 | _=>.Pass ⟨0,0,0,0⟩
def zm (s:Stmt):Arguments:=match s with
 | .FunctionDef _ a _ _ _ _ _ _ _ _=>a
 | _=>{ posonlyargs:=[],args:=[],vararg:=none,kwonlyargs:=[],kw_defaults:=[],kwarg:=none,defaults:=[] }
def zj (s:Stmt):List Stmt:=match s with
 | .FunctionDef _ _ b _ _ _ _ _ _ _=>b
 | _=>[]
def zb (s:Stmt):Scope:=match s with
 | .FunctionDef _ _ _ _ _ _ sc _ _ _=>sc
 | _=>{ kind:=.function,names:=[],isGenerator:=false,isCoroutine:=false }
abbrev CX0:CXT:=fun _ _ _ _ _ _=>False
abbrev E0:XK:=fun _ _ _=>False
theorem jS {X:Cx}:vA CX0 X E0:=fun _ _ _ _ _ _ _ h=>h.elim
structure Fun (K:PySem.W.Frag) (x qual:Str) (st:Stmt) (f:Addr) (fd:FuncData):Prop where
 ex:∃ (oc:Value) (od:Option Addr) (kV doc pm:Value) (an:Option Addr) (cdv ct:Value) (osl:Array (Option Value)),
  fd = PySem.W.fnOf x qual (zm st) (zj st) (zb st) .none kV doc pm an cdv ct /\ K.lookup f = some ⟨oc,od,.func fd,osl⟩ /\ PySem.W.codeIn K cdv qual = true
 kp:PySem.W.keepIn K (.ref f) = true
section
variable {P:Program} {w:World} {K:PySem.W.Frag} {mg:Str -> Option Value} {base:Heap}
theorem Fun.ok {x qual:Str} {st:Stmt} {f:Addr} {fd:FuncData} {N ps:List Str} {k:Nat} {sp:Sp} (F:Fun K x qual st f fd) (S:zo N ps (zb st)) (len:∀ vs H Q E,sp vs H Q E -> vs.length = ps.length)
  (hbody:∀ (cdv:Value) (A:Around) (outer:List Env) (s:Shared) (H:Hp) (vs:List V) (Q:VK) (E:XK),Room k (A.deeper (envOfC qual (zb st) s.heap.objs.size f cdv)) -> sp vs H Q E ->
   ∃ t,PSs (ul CX0 P w K mg base N qual (zb st) f cdv A outer s H E).nox (zj st) t /\ t { nx:=fun _ H'=>Q .non H',rt:=Q } (start N vs) H):FnOk P w K mg base CX0 (k + 1) f fd ps sp:=by
 obtain ⟨oc,od,kV,doc,pm,an,cdv,ct,osl,rfl,lk,hcd⟩:=F.ex
 refine WX lk hcd S len fun A outer s H vs Q E hr hsp=>?_
 obtain ⟨t,h,q⟩:=hbody cdv A outer s H vs Q E hr hsp
 exact ⟨t,h.nox,q⟩
theorem Fun.binds {x qual:Str} {st:Stmt} {f:Addr} {fd:FuncData} {ps:List Str} (F:Fun K x qual st f fd)
  (h:∀ (kV doc pm:Value) (an:Option Addr) (cdv ct:Value) (us:List Value),us.length = ps.length -> bindArgs (PySem.W.fnOf x qual (zm st) (zj st) (zb st) .none kV doc pm an cdv ct) ⟨us,[]⟩ = pure (ps.zip us)):Binds K fd ps []:=by
 obtain ⟨oc,od,kV,doc,pm,an,cdv,ct,osl,rfl,lk,hcd⟩:=F.ex
 exact .all (h kV doc pm an cdv ct)
theorem zA {x qual:Str} {st:Stmt} {f:Addr} {oc:Value} {od an:Option Addr} {osl:Array (Option Value)} {kV doc pm cdv ct:Value} (l:K.lookup f = some ⟨oc,od,.func (PySem.W.fnOf x qual (zm st) (zj st) (zb st) .none kV doc pm an cdv ct),osl⟩)
  (c:PySem.W.codeIn K cdv qual = true) (k:PySem.W.keepIn K (.ref f) = true):Fun K x qual st f (PySem.W.fnOf x qual (zm st) (zj st) (zb st) .none kV doc pm an cdv ct):=⟨⟨oc,od,kV,doc,pm,an,cdv,ct,osl,rfl,l,c⟩,k⟩
end
section
variable {X:Cx}
theorem pv (i:Nat) {x:Str} {pos:Pos} (hN:X.N[i]? = some x:=by rfl) (hv:Vis X.env.scope x:=by first | exact Or.inl rfl | exact Or.inr (Or.inl rfl) | exact Or.inr (Or.inr rfl)) (hd:(x == ("__debug__" : Str)) = false:=by decide)
  (hcd:(x == ("__classdict__" : Str)) = false:=by decide):PE X (.Name x pos) (xh i):=VR hN hv hd hcd
end
theorem JE {A B:Prop} (h:B):if false = true then A else B:=by
 rw [if_neg Bool.false_ne_true]
 exact h
theorem JY {A B:Prop} (h:A):if true = true then A else B:=by
 rw [if_pos rfl]
 exact h
theorem yL {c A B:Prop} [Decidable c] (h1:c -> A) (h2:¬ c -> B):if c then A else B:=by
 by_cases h:c
 ·rw [if_pos h]
  exact h1 h
 ·rw [if_neg h]
  exact h2 h
def Same (H H':Hp):Prop:=∀ b o,H b = some o -> H' b = some o
theorem Same.refl (H:Hp):Same H H:=fun _ _ h=>h
theorem Same.trans {H H1 H2:Hp} (a:Same H H1) (b:Same H1 H2):Same H H2:=fun c o h=>b c o (a c o h)
theorem Same.free {H H':Hp} (e:Same H H') {l:Addr} (h:H' l = Option.none):H l = Option.none:=by
 cases q:H l with
 | none=>rfl
 | some o =>
  rw [e l o q] at h
  cases h
theorem Same.seq {K:PySem.W.Frag} {H H':Hp} {a:Addr} {xs:List V} (e:Same H H') (h:SqL K H a xs):SqL K H' a xs:=by
 rcases h with (h | ⟨o,h⟩) | h
 ·exact .inl (.inl (e _ _ h))
 ·exact .inl (.inr ⟨o,e _ _ h⟩)
 ·exact .inr h
end L2
namespace L3
open PySem PySem.Spec PyProof.Rows L2
abbrev St:=L2.St
abbrev cs (x:Str):List Nat:=x.cps.toList
abbrev tx (l:List Nat):Str:=⟨l.toArray⟩
theorem VZ (x:Str):tx (cs x) = x:=by cases x; rfl
theorem Xv (l:List Nat):cs (tx l) = l:=rfl
theorem kA (x:Str):x.length = (cs x).length:=by simp [Str.length,cs]
theorem yS (l:List Nat):(tx l).length = l.length:=by simp [Str.length,tx]
theorem jp {x y:Str} (h:cs x = cs y):x = y:=by rw [<- VZ x,<- VZ y,h]
theorem WD {l m:List Nat} (h:tx l = tx m):l = m:=by rw [<- Xv l,<- Xv m,h]
theorem QG {l m:List Nat}:tx l = tx m ↔ l = m:=⟨WD,fun h=>by rw [h]⟩
theorem jq (l m:List Nat):tx l ++ tx m = tx (l ++ m):=by
 apply jp
 show (tx l ++ tx m).cps.toList = l ++ m
 rw [Str.cps_append]
 simp
def cut {α:Type} (l:List α) (lo hi:Option Int):List α:=(l.drop (HT.sIx l.length 0 lo)).take (HT.sIx l.length l.length hi - HT.sIx l.length 0 lo)
theorem wg {α:Type} (l:List α) (lo hi:Option Int):(cut l lo hi).length <= l.length:=by
 unfold cut
 rw [List.length_take,List.length_drop]
 omega
theorem ZN (a b:Nat):sliceRange (a:Int) (b:Int) 1 = (List.range (b - a)).map (fun k=>a + k):=by
 unfold sliceRange
 have e:(if (1:Int) > 0 then (if (a:Int) < b then ((b:Int) - a + 1 - 1) / 1 else 0) else (if (a:Int) > b then ((a:Int) - b - 1 - 1) / (-1) else 0)).toNat = b - a:=by
  rw [if_pos (by decide)]
  by_cases h:(a:Int) < b
  ·rw [if_pos h,Int.ediv_one]; omega
  ·rw [if_neg h]; omega
 show (List.range ((if (1:Int) > 0 then (if (a:Int) < b then ((b:Int) - a + 1 - 1) / 1 else 0) else (if (a:Int) > b then ((a:Int) - b - 1 - 1) / (-1) else 0)).toNat)).map _ = _
 rw [e]
 refine List.map_congr_left fun k _=>?_
 omega
theorem Vd (lo hi:Option Int) (n:Nat):Builtin.Str.strSliceIndices lo hi 1 n = (List.range (HT.sIx n n hi - HT.sIx n 0 lo)).map (fun k=>HT.sIx n 0 lo + k):=by
 rw [<- ZN]
 have clip:∀ (v:Int) (d:Nat),max 0 (min (if v < 0 then v + (n:Int) else v) (n:Int)) = ((HT.sIx n d (some v):Nat):Int):=fun v d=>by
  show _ = (((if v < 0 then (v + (n:Int)).toNat else min v.toNat n):Nat):Int)
  by_cases hv:v < 0
  ·simp only [if_pos hv]; omega
  ·simp only [if_neg hv]; omega
 have h1:((1:Int) > 0) = True:=by simp
 unfold Builtin.Str.strSliceIndices
 cases lo with
 | none =>
  cases hi with
  | none=>simp only [h1,if_true]; rfl
  | some j=>simp only [h1,if_true,clip j n]; rfl
 | some i =>
  cases hi with
  | none=>simp only [h1,if_true,clip i 0]; rfl
  | some j=>simp only [h1,if_true,clip i 0,clip j n]
theorem Y5 (x:Str) (lo hi:Option Int):Txt.slice x lo hi = tx (cut (cs x) lo hi):=by
 have hn:x.length = x.cps.toList.length:=kA x
 have hj:HT.sIx x.length x.length hi <= x.length:=HT.sIx_le _ _ (Nat.le_refl _) hi
 have hi0:HT.sIx x.length 0 lo <= x.length:=HT.sIx_le _ _ (Nat.zero_le _) lo
 unfold Txt.slice
 rw [Vd]
 split
 ·rename_i h
  have h':HT.sIx x.length x.length hi - HT.sIx x.length 0 lo = x.length:=by simpa using h
  apply jp
  show x.cps.toList = cut x.cps.toList lo hi
  unfold cut
  rw [<- hn]
  by_cases z:x.length = 0
  ·have:x.cps.toList = []:=List.eq_nil_of_length_eq_zero (by omega)
   rw [this]; simp
  ·have e0:HT.sIx x.length 0 lo = 0:=by omega
   rw [e0] at h' ⊢
   rw [h',List.drop_zero,hn,List.take_length]
 ·apply jp
  have h:=StrLaws.picks x.cps.toList (HT.sIx x.length x.length hi - HT.sIx x.length 0 lo) (HT.sIx x.length 0 lo) (by omega)
  show (List.filterMap (fun k=>x.cps[k]?) _).toArray.toList = cut x.cps.toList lo hi
  unfold cut
  rw [<- hn]
  simpa using h
section
variable {X:Cx}
theorem Ya {v:Value} {o:Option Int} (p:IsPart v o):∃ l:Option (Int × Tok),v = partValue l /\ l.map (·.1) = o:=by
 cases p with
 | none=>exact ⟨none,rfl,rfl⟩
 | int i t=>exact ⟨some (i,t),rfl,rfl⟩
def Qo:V -> Option Int -> Option Int -> Hp -> VK -> Prop:=fun x lo hi H Q=>∃ z,x = .str z /\ z.length <= sizeLine /\ Q (.str (tx (cut (cs z) lo hi))) H
theorem kn:SlR X Qo:=by
 intro pins s σ H x v vl vu lo hi sl Q I rx hs pl pu h
 obtain ⟨z,rfl,hz,q⟩:=h
 obtain ⟨t,rfl⟩:=rx
 obtain ⟨l,rfl,el⟩:=Ya pl
 obtain ⟨u,rfl,eu⟩:=Ya pu
 refine ⟨"str",_,slot_str_getitem.lookup,typeIs_str s z t,?_⟩
 refine wpAny_getItem_str_slice (l:=l) (u:=u) (st:=none) hs rfl ?_
 have e:Txt.slice z lo hi = tx (cut (cs z) lo hi):=Y5 z lo hi
 have hl:(tx (cut (cs z) lo hi)).length <= sizeLine:=by rw [yS]; have:=wg (cs z) lo hi; rw [<- kA] at this; omega
 unfold sliceMade slicePicked
 rw [el,eu]
 unfold Txt.slice at e
 by_cases hc:((1:Int) == 1 && (Builtin.Str.strSliceIndices lo hi 1 z.length).length == z.length) = true
 ·rw [if_pos hc] at e
  have hc':(((none:Option (Int × Tok)).map (·.1)).getD 1 == 1 && (Builtin.Str.strSliceIndices lo hi (((none:Option (Int × Tok)).map (·.1)).getD 1) z.length).length == z.length) = true:=hc
  rw [if_pos hc']
  exact ⟨.str (tx (cut (cs z) lo hi)),H,I,⟨t,by rw [<- e]⟩,q⟩
 ·rw [if_neg hc] at e
  have hc':¬ (((none:Option (Int × Tok)).map (·.1)).getD 1 == 1 && (Builtin.Str.strSliceIndices lo hi (((none:Option (Int × Tok)).map (·.1)).getD 1) z.length).length == z.length) = true:=hc
  rw [if_neg hc']
  show (Str.mk ((Builtin.Str.strSliceIndices lo hi 1 z.length).filterMap (z.cps[·]?)).toArray).length <= sizeLine /\ _
  rw [e]
  refine ⟨hl,?_⟩
  exact ⟨.str (tx (cut (cs z) lo hi)),H,I.tok _,⟨_,by
   show Value.str (Str.mk ((Builtin.Str.strSliceIndices lo hi 1 z.length).filterMap (z.cps[·]?)).toArray) _ = _
   rw [e]⟩,q⟩
theorem j6 (l:List Nat):∀ (k:Nat) (acc:Array Nat),((List.replicate k l.toArray).foldl (· ++ ·) acc).toList = acc.toList ++ (List.replicate k l).flatten
 | 0,acc=>by simp
 | k + 1,acc=>by
  rw [List.replicate_succ,List.foldl_cons,j6 l k,List.replicate_succ,List.flatten_cons]
  simp
theorem kT:OpR X (binaryOp .Mult) (fun x y H Q=>∃ z n,x = .str z /\ y = .int n /\ 0 <= n /\ n <= 1000 /\ z.length <= 1000 /\ Q (.str (tx (List.replicate n.toNat (cs z)).flatten)) H):=by
 intro pins s σ H x y v u Q I rx ry h
 obtain ⟨z,n,rfl,rfl,h0,h1,hz,q⟩:=h
 obtain ⟨t,rfl⟩:=rx
 obtain ⟨t',rfl⟩:=ry
 have hs:sizeLine = 16777216:=sizeLine_eq
 have hmul:z.length * n.toNat <= 1000 * 1000:=Nat.mul_le_mul hz (by omega)
 have fl:((List.replicate n.toNat (cs z)).flatten).length = n.toNat * z.length:=by rw [L2.len_rep,<- kA]
 refine PySem.P.mul_str ?_ (fun _ _=>?_) (fun _ _=>?_) ?_
 ·rw [decide_eq_false (by omega),decide_eq_false (by omega)]; rfl
 ·have:(1000:Int) <= (2 ^ 63 - 1) / n:=by
   apply Int.le_ediv_of_mul_le (by omega)
   omega
  omega
 ·unfold Builtin.Str.tooLong
  exact decide_eq_false (by omega)
 ·by_cases c1:n < 1
  ·rw [if_pos c1]
   have e:n.toNat = 0:=by omega
   rw [e] at q
   exact ⟨by decide,.str (tx []),H,I.tok _,⟨_,rfl⟩,q⟩
  ·rw [if_neg c1]
   by_cases c2:(n == 1 || z.length == 0) = true
   ·rw [if_pos c2]
    have e:tx (List.replicate n.toNat (cs z)).flatten = z:=by
     rw [Bool.or_eq_true] at c2
     rcases c2 with c | c
     ·have:n.toNat = 1:=by have:=eq_of_beq c; omega
      rw [this]
      simp only [List.replicate_one,List.flatten_singleton]
     ·have c0:z.length = 0:=eq_of_beq c
      have:cs z = []:=List.eq_nil_of_length_eq_zero (by rw [<- kA]; exact c0)
      apply jp
      rw [this]
      show (List.replicate n.toNat ([]:List Nat)).flatten = []
      simp only [List.flatten_replicate_nil]
    rw [e] at q
    exact ⟨.str z,H,I,⟨_,rfl⟩,q⟩
   ·rw [if_neg c2]
    have e:(⟨(List.replicate n.toNat z.cps).foldl (· ++ ·) #[]⟩:Str) = tx (List.replicate n.toNat (cs z)).flatten:=by
     apply jp
     have:=j6 (cs z) n.toNat #[]
     have e2:(cs z).toArray = z.cps:=by cases z; rfl
     rw [e2] at this
     show (List.foldl (· ++ ·) #[] (List.replicate n.toNat z.cps)).toList = (List.replicate n.toNat (cs z)).flatten
     rw [this]
     rfl
    rw [e]
    refine ⟨by rw [yS,fl,Nat.mul_comm]; omega,.str _,H,I.tok _,⟨_,rfl⟩,q⟩
theorem Yt:OpR X (compareOp .LtE) (fun x y H Q=>∃ i j,x = .str i /\ y = .str j /\ Q (.bl (!(decide (cs j < cs i)))) H):=by
 intro pins s σ H x y v u Q I rx ry h
 obtain ⟨i,j,rfl,rfl,q⟩:=h
 obtain ⟨t,rfl⟩:=rx
 obtain ⟨t',rfl⟩:=ry
 exact PySem.P.le_str ⟨.bl _,H,I,rfl,q⟩
theorem op_lt_str':OpR X (compareOp .Lt) (fun x y H Q=>∃ i j,x = .str i /\ y = .str j /\ Q (.bl (decide (cs i < cs j))) H):=Yg
theorem Xs:MtR X "str.count" (fun x xs H Q=>∃ z y,x = .str z /\ xs = [.str y] /\ Q (.int (Txt.count z y)) H):=by
 intro pins s σ H x xs v us Q I rx rv h
 obtain ⟨z,y,rfl,rfl,q⟩:=h
 obtain ⟨t,rfl⟩:=rx
 obtain ⟨u,rfl,t',rfl⟩:=vm rv
 exact PySem.SC.count ⟨.int _,H,I.tok _,⟨_,rfl⟩,q⟩
theorem W5:MtR X "str.find" (fun x xs H Q=>∃ z y,x = .str z /\ xs = [.str y] /\ Q (.int (Txt.find z y)) H):=by
 intro pins s σ H x xs v us Q I rx rv h
 obtain ⟨z,y,rfl,rfl,q⟩:=h
 obtain ⟨t,rfl⟩:=rx
 obtain ⟨u,rfl,t',rfl⟩:=vm rv
 exact PySem.SC.find ⟨.int _,H,I.tok _,⟨_,rfl⟩,q⟩
end
end L3
namespace L3
open PySem PySem.Spec PyProof.Rows L2
section
variable {X:Cx} {pins:List (Addr × Obj)} {σ:St} {H:Hp} {s:Shared} {fp:List Addr} {h':Heap} {t':Nat}
theorem Inv.turns (I:Inv X pins σ H s) (k:∀ b o,b ∉ fp -> s.heap.get? b = some o -> h'.get? b = some o) (hf:∀ b ∈ fp,wZ X pins H b):Inv X pins σ H { s with heap:=h',toks:=t' }:=by
 have nit:∀ b u,H b = some u -> b ∉ fp:=fun b u e z=>by rw [(hf b z).1] at e; cases e
 refine I.step (g':=s.gens) (d':=s.drawn) (ch:=fp) (fun b hb=>?_) (fun b o _ _ hc e _=>k b o hc e) (fun b o _ _ hc e _=>⟨o.slots,k b o hc e⟩) (fun _ _ _ _ n=>n)
  (fun b o hc e=>⟨o,k b o hc e⟩) (fun _ _ e=>e) (fun _ _ _ e=>e) (fun b ps e=>⟨#[],by rw [e]; simp⟩) (fun m hm=>?_) (fun b u e=>?_) I.bare
 ·obtain ⟨_,a1,_,a3,a4,a5⟩:=hf b hb
  exact ⟨a3,a1,a4,a5⟩
 ·obtain ⟨o,es,ep,ho,r⟩:=hm
  exact ⟨o,es,ep,k _ o (fun z=>(hf _ z).2.1 rfl) ho,r⟩
 ·refine (I.hok b u e).stay (fun c v hc q=>k c v ?_ q) (fun _ q=>q) fun _ _ q=>q
  rcases hc with z | z
  ·rw [z]; exact nit b u e
  ·exact nit c _ z
theorem Inv.track {a:Addr} {o:HO} (I:Inv X pins σ H s) (fa:wZ X pins H a) (new:ObjOk X.prog X.w (upd H a o) s.heap a o):Inv X pins σ (upd H a o) s:=by
 obtain ⟨a0,a1,a2,a3,a4,a5⟩:=fa
 have e:s = { s with heap:=s.heap,gens:=s.gens,drawn:=s.drawn,toks:=s.toks }:=rfl
 rw [e]
 refine I.step (g':=s.gens) (d':=s.drawn) (ch:=[a]) (fun b hb=>?_) (fun b o _ _ _ e _=>e) (fun b o _ _ _ e _=>⟨o.slots,e⟩) (fun b o hc _ n=>?_)
  (fun b o _ e=>⟨o,e⟩) (fun b xs e=>?_) (fun b u xs e=>?_) (fun b ps e=>?_) (fun m hm=>hm) (fun b u e=>?_) I.bare
 ·have eb:b = a:=by simpa using hb
  subst eb
  exact ⟨a3,a1,a4,a5⟩
 ·rw [zi (by simpa using hc)]; exact n
 ·rw [zi (zv e a0)]; exact e
 ·rw [zi (zv e a0)]; exact e
 ·exact ⟨#[],by rw [zi (zv e a0),e]; simp⟩
 ·by_cases hb:b = a
  ·subst hb; rw [zd] at e; cases e; exact new
  ·rw [zi hb] at e
   exact (I.hok b u e).stay (fun c v _ q=>q) (fun c q=>by rw [zi (zv q a0)]; exact q) fun c xs q=>by rw [zi (zv q a0)]; exact q
end
def Its (x:Str):It:=⟨fun i _=>i < (cs x).length,fun i H v H'=>H' = H /\ ∃ c,(cs x)[i]? = some c /\ v = .str (tx [c]),fun i _=>i = (cs x).length⟩
theorem XJ {P:Program} {w:World} {K:PySem.W.Frag} {tg:Expr} {ty:String} (hty:["enumerate", "zip", "dict_itemiterator", "dict_reverseitemiterator", "odict_iterator", "itertools.zip_longest", "itertools.pairwise"].contains ty = false) (it:Addr) (x:Str) (t:Tok)
  (W:∀ A:Around,A.handled = none -> Walks P w A it [it] [it] x.cps.size (SignAt x) fun i h=>h.IsStrIter it ty x t i)
  (S:∀ (A:Around) (i:Nat) (s:Shared) (Q:Value -> Shared -> Prop) (E:Value -> Shared -> Prop),s.heap.IsStrIter it ty x t i -> Q (.ref it) s -> wpAny (model P w) A (pyIter (.ref it)) Q E s) :
  W7 P w K tg (Its x) [it] it (fun i h=>h.IsStrIter it ty x t i) where
 mem:=by simp
 obj:=fun i h st b hb=>by
  have e:b = it:=by simpa using hb
  subst e
  obtain ⟨o,e,c,d⟩:=st
  exact ⟨o,e,fun v z=>by rw [d] at z; cases z⟩
 keep:=fun i h h' st k=>let ⟨o,e,r⟩:=st; ⟨o,k it (by simp) o e,r⟩
 item:=by
  intro X hP hw hK hc i pins s σ H E I hf st hg
  subst hP hw hK
  obtain ⟨f0,f1,f2,f3,f4,f5⟩:=hf it (by simp)
  have hg':i < x.cps.size:=by have:i < x.cps.toList.length:=hg; simpa using this
  refine (W X.A (I.ok.hd hc)).item i s _ _ hg' st fun v h' tk hv st' kk=>?_
  obtain ⟨c,u,hcc,rfl⟩:=hv
  have I1:Inv X pins σ H { s with heap:=h',toks:=tk }:=I.turned (fun b o hb e=>kk b o (by simpa using hb) e) f0 f1 f3 f4 f5
  obtain ⟨o,e,cl,d⟩:=id st'
  refine ⟨_,rfl,Vh (s:={ s with heap:=h',toks:=tk }) e cl d hty ⟨.str (tx [c]),H,I1,⟨u,rfl⟩,⟨rfl,c,?_,rfl⟩,st',fun b hb=>(hf b hb).1⟩⟩
  show x.cps.toList[i]? = some c
  simpa using hcc
 done:=by
  intro X hP hw hK hc i pins s σ H E I hf st hg
  subst hP hw hK
  obtain ⟨f0,f1,f2,f3,f4,f5⟩:=hf it (by simp)
  have hi:i = x.cps.size:=by have:i = x.cps.toList.length:=hg; simpa using this
  rw [hi] at st
  exact (W X.A (I.ok.hd hc)).done s _ _ st fun h' tk kk=>⟨rfl,I.turned (fun b o hb e=>kk b o (by simpa using hb) e) f0 f1 f3 f4 f5⟩
 self:=fun A i s Q E st h=>S A i s Q E st h
section
variable {X:Cx} {tg:Expr}
def Qy (tl:TE):TI:=fun σ H R=>tl σ H fun v H1=>∃ x,v = .str x /\ R (Its x) H1
theorem vx {l:Expr} {tl:TE} (hl:PE X l tl):PI X tg l (Qy tl):=by
 intro pins s σ H R I h
 refine thn (hl pins s σ H _ I h) fun v s1 ⟨y,H1,I1,r1,q1⟩=>?_
 obtain ⟨x,e,q⟩:=q1
 subst e
 obtain ⟨t,rfl⟩:=r1
 have fin:∀ (ty:String) (hty:["enumerate", "zip", "dict_itemiterator", "dict_reverseitemiterator", "odict_iterator", "itertools.zip_longest", "itertools.pairwise"].contains ty = false)
   (W:∀ A:Around,A.handled = none -> Walks X.prog X.w A s1.heap.objs.size [s1.heap.objs.size] [s1.heap.objs.size] x.cps.size (SignAt x) fun i h=>h.IsStrIter s1.heap.objs.size ty x t i)
   (S:∀ (A:Around) (i:Nat) (s:Shared) (Q:Value -> Shared -> Prop) (E:Value -> Shared -> Prop),s.heap.IsStrIter s1.heap.objs.size ty x t i -> Q (.ref s1.heap.objs.size) s -> wpAny (model X.prog X.w) A (pyIter (.ref s1.heap.objs.size)) Q E s),
   PIE X pins σ tg R (.ref s1.heap.objs.size) { s1 with heap:=s1.heap.push { cls:=.type ty,data:=.fields #[.str x t,.int 0 0] } }:=fun ty hty W S=>by
  refine ⟨s1.heap.objs.size,[s1.heap.objs.size],_,_,H1,rfl,I1.kept (t':=s1.toks) fun b o e=>Heap.get?_push_of_some _ e,XJ hty _ x t W S,⟨_,Heap.get?_push_size _ rfl,rfl,rfl⟩,fun b hb=>?_,q⟩
  have e:b = s1.heap.objs.size:=by simpa using hb
  subst e
  exact I1.fpOk (Nat.le_refl _) (I1.hok.fresh (Nat.le_refl _))
 cases ha:x.cps.all (· < 128)
 ·exact wpAny_pyIter_wide ha (fin "str_iterator" (by decide) (fun A hA=>Walks.strWide hA _ x t) fun A i s Q E st h=>wpAny_pyIter_striter_wide st h)
 ·exact wpAny_pyIter_ascii ha (fin "str_ascii_iterator" (by decide) (fun A hA=>Walks.strAscii hA _ x t) fun A i s Q E st h=>wpAny_pyIter_striter_ascii st h)
end
theorem W4 {x:Str} {g:TG} {tb:TS} {D:xg} {σ:St} {H:Hp} (Pv:Nat -> St -> Hp -> Prop) (h0:Pv 0 σ H)
  (hs:∀ i c σ H,(cs x)[i]? = some c -> Pv i σ H -> g (.str (tx [c])) σ H fun σ2 H2=>tb { D with nx:=Pv (i + 1),ct:=Pv (i + 1),bk:=D.nx } σ2 H2) (hd:∀ σ H,Pv (cs x).length σ H -> D.nx σ H) :
  ∃ W:Nat -> Nat -> St -> Hp -> Prop,(∃ m,W 0 m σ H) /\ ∀ i m σ H,W i m σ H ->
   ((Its x).stop i H /\ D.nx σ H) \/ ((Its x).go i H /\ ∃ N:St -> Hp -> Prop,(∀ σ' H',N σ' H' -> ∃ m',m' < m /\ W (i + 1) m' σ' H') /\ ∀ v H',(Its x).yld i H v H' -> g v σ H' fun σ2 H2=>tb { D with nx:=N,ct:=N,bk:=D.nx } σ2 H2):=by
 refine ⟨fun i m σ H=>m = (cs x).length - i /\ i <= (cs x).length /\ Pv i σ H,⟨(cs x).length,by simp,Nat.zero_le _,h0⟩,?_⟩
 rintro i m σ H ⟨rfl,hi,p⟩
 by_cases hlt:i < (cs x).length
 ·refine .inr ⟨hlt,Pv (i + 1),fun σ' H' p'=>⟨(cs x).length - (i + 1),by omega,rfl,hlt,p'⟩,fun v H' y=>?_⟩
  obtain ⟨e,c,hc,ev⟩:=y
  subst e ev
  exact hs i c σ _ hc p
 ·have e:i = (cs x).length:=by omega
  subst e
  exact .inl ⟨rfl,hd σ H p⟩
def Ite (x:Str):It:=⟨fun i _=>i < (cs x).length,fun i H v H'=>∃ p c,H p = none /\ (cs x)[i]? = some c /\ v = .ref p /\ H' = upd H p (.tup [.int (i:Nat),.str (tx [c])]),fun i _=>i = (cs x).length⟩
section
variable {X:Cx}
def QU (ta:TA):TI:=fun σ H R=>ta σ H fun vs H1=>∃ x,vs = [.str x] /\ R (Ite x) H1
end
end L3
namespace L3
open PySem PySem.Spec PyProof.Rows L2
theorem vp {env:Env}:∀ (names:List (Str × NameKind)) (acc:List (Str × Addr)),
    (∀ y,(y,NameKind.free) ∈ names -> ∃ c,env.cells.lookup y = some c) -> (∀ y c,acc.lookup y = some c -> env.cells.lookup y = some c) ->
    ∃ cl,(forIn names acc fun (x:Str × NameKind) (cs:List (Str × Addr))=>if (x.2 == NameKind.free) = true then (do let a <- cellOf env x.1; pure (ForInStep.yield ((x.1,a) :: cs))) else pure (ForInStep.yield cs):Sem (List (Str × Addr))) = pure cl /\
      (∀ y c,cl.lookup y = some c -> env.cells.lookup y = some c) /\ (∀ y,(y,NameKind.free) ∈ names \/ (acc.lookup y).isSome = true -> ∃ c,cl.lookup y = some c)
  | [],acc,_,ha=>⟨acc,rfl,ha,fun y h=>by
      rcases h with h | h
      · cases h
      · exact Option.isSome_iff_exists.mp h⟩
  | (n,k) :: r,acc,hn,ha=>by
    by_cases hk:k = NameKind.free
    · subst hk
      obtain ⟨c,hc⟩:=hn n (by simp)
      have ha':∀ y d,((n,c) :: acc).lookup y = some d -> env.cells.lookup y = some d:=fun y d e=>by
        rw [List.lookup_cons] at e
        by_cases hy:(y == n) = true
        · rw [hy] at e
          have:y = n:=eq_of_beq hy
          subst this
          cases e
          exact hc
        · have hy':(y == n) = false:=by simpa using hy
          rw [hy'] at e
          exact ha y d e
      obtain ⟨cl,e,h1,h2⟩:=vp r ((n,c) :: acc) (fun y hy=>hn y (List.mem_cons_of_mem _ hy)) ha'
      refine ⟨cl,?_,h1,fun y hy=>h2 y ?_⟩
      · rw [List.forIn_cons]
        have ec:cellOf env n = pure c:=by unfold cellOf; rw [hc]
        simp only [beq_self_eq_true,if_true,ec,pure_bind]
        exact e
      · rcases hy with hy | hy
        · rcases List.mem_cons.mp hy with q | q
          · cases q
            exact .inr (by simp)
          · exact .inl q
        · refine .inr ?_
          rw [List.lookup_cons]
          by_cases hyn:(y == n) = true
          · rw [hyn]; rfl
          · have hy':(y == n) = false:=by simpa using hyn
            rw [hy']; exact hy
    · obtain ⟨cl,e,h1,h2⟩:=vp r acc (fun y hy=>hn y (List.mem_cons_of_mem _ hy)) ha
      refine ⟨cl,?_,h1,fun y hy=>h2 y ?_⟩
      · rw [List.forIn_cons]
        have ek:(k == NameKind.free) = false:=by simpa using hk
        simp only [ek,Bool.false_eq_true,if_false,pure_bind]
        exact e
      · rcases hy with hy | hy
        · rcases List.mem_cons.mp hy with q | q
          · cases q; exact absurd rfl hk
          · exact .inl q
        · exact .inr hy
theorem wN {scope:Scope} {env:Env} (hn:∀ y,(y,NameKind.free) ∈ scope.names -> ∃ c,env.cells.lookup y = some c) :
  ∃ cl,closureFor scope env = pure cl /\ (∀ y c,cl.lookup y = some c -> env.cells.lookup y = some c) /\ (∀ y,(y,NameKind.free) ∈ scope.names -> ∃ c,cl.lookup y = some c):=by
 obtain ⟨cl,e,h1,h2⟩:=vp scope.names [] hn (fun y c h=>by cases h)
 refine ⟨cl,?_,h1,fun y hy=>h2 y (.inl hy)⟩
 unfold closureFor
 simp only [bind_pure]
 exact e
abbrev YL (ifs:List Expr) (env:Env):Sem Bool :=
 forIn ifs true fun c r=>if r = true then (do let ok <- isTrue c env (eval c env); pure (ForInStep.yield ok)) else pure (ForInStep.yield r)
theorem Z5 {prog:Program} {w:World} {A:Around} {R:Result -> Shared -> Prop} {s:Shared} {elt tg iter:Expr} {ifs:List Expr} {scope:Scope} {pos:Pos} {it acc:Value} {env:Env}
  (I:Nat -> Shared -> Prop) {EE:Value -> Shared -> Prop} (hEE:EE = notedBy (model prog w) A env fun e s'=>R (.error e) s')
  (turn:∀ n s,I n s -> wpAny (model prog w) A (pyNext it) (fun r s1=>match r with
   | none=>R (.ok .next) s1
   | some v=>wpAny (model prog w) A (letOwnedTupleGo tg it v) (fun _ s2=>wpAny (model prog w) A (assign tg env v) (fun _ s3 =>
     wpAny (model prog w) A (YL ifs env) (fun ok s4=>if ok = true then
      wpAny (model prog w) A (eval elt env) (fun x s5=>wpAny (model prog w) A (call (.builtin "list.append") [acc,x]) (fun _ s6=>∃ m,m < n /\ I m s6) EE s5) EE s4
      else ∃ m,m < n /\ I m s4) EE s3) EE s2) EE s1) EE s) (n:Nat) (h:I n s) :
  codeAny (model prog w) A (.compLoop (.ListComp elt [⟨tg,iter,ifs,0⟩] scope pos) 0 it acc env) R s:=by
 subst hEE
 refine codeAny_loop rfl I (fun n s hI=>?_) n h
 show wpAny _ A ((compTurn (.ListComp elt [⟨tg,iter,ifs,0⟩] scope pos) 0 it acc env).onRaise (fun x=>do noteFrame x env; theTreesLotGoes x)) _ _ s
 refine wpAny_noted ?_
 rw [compTurn_list]
 refine wpAny_bind (wpAny_standAt (wpAny_bind (thn (turn n s hI) fun r s1 h1=>?_)))
 cases r with
 | none=>exact wpAny_pure h1
 | some v =>
  refine wpAny_bind (thn h1 fun _ s2 h2=>wpAny_bind (thn h2 fun _ s3 h3=>wpAny_bind (thn h3 fun ok s4 h4=>?_)))
  cases ok with
  | false=>exact wpAny_pure ⟨rfl,h4⟩
  | true=>exact wpAny_bind (wpAny_bind (thn h4 fun x s5 h5=>wpAny_bind (thn h5 fun _ s6 h6=>wpAny_pure (wpAny_pure ⟨rfl,h6⟩))))
def xt (X:Cx) (scope:Scope) (cl:List (Str × Addr)) (C:Addr) (N:List Str) (pins:List (Addr × Obj)) (s3:Shared) (H3:Hp) (fp:List Addr) (E:Value -> Shared -> Prop):Cx :=
 { X with N:=N,s₀:=s3,H₀:=H3,env:=compEnvC scope cl C X.env,outer:=X.stack,ex:=fp,fn:=fun _=>false,pn:=X.pn ++ pins,xe:=E }
def vU (σ:St) (own:Nat) (ix:List Nat):St:=List.replicate own none ++ ix.map fun i=>(σ[i]?).join
structure qJ (X:Cx) (scope:Scope) (own caps:List Str) (ix:List Nat):Prop where
 kind:scope.kind = .function
 nocell:∀ y ∈ scope.names,y.2 ≠ .cell
 names:∀ y ∈ scope.names,y.2 = .local -> scope.names.lookup y.1 = some .local
 free:∀ y,(y,NameKind.free) ∈ scope.names -> X.env.kindOf y = some .cell
 hown:∀ y ∈ own,scope.names.lookup y = some .local
 hcaps:∀ y ∈ caps,scope.names.lookup y = some .free
 hix:ix.map (fun i=>X.N[i]?) = caps.map some
theorem xu {α β:Type} [BEq α] [LawfulBEq α] {l:List (α × β)} {a:α} {b:β} (h:l.lookup a = some b):(a,b) ∈ l:=by
 induction l with
 | nil=>cases h
 | cons p r ih =>
  obtain ⟨c,d⟩:=p
  rw [List.lookup_cons] at h
  by_cases e:(a == c) = true
  ·rw [e] at h
   cases h
   rw [eq_of_beq e]
   exact List.mem_cons_self
  ·have e':(a == c) = false:=by simpa using e
   rw [e'] at h
   exact List.mem_cons_of_mem _ (ih h)
theorem xY {scope:Scope} {env:Env} (hf:env.scope.kind = .function):∀ {names:List (Str × NameKind)} {x:Str} {k:NameKind},names.lookup x = some k ->
    (names.map fun (n,k)=>if (k == NameKind.free && env.scope.kind == .function && env.kindOf n == some .cell) then (n,NameKind.cell) else (n,k)).lookup x = some (if (k == NameKind.free && env.scope.kind == .function && env.kindOf x == some .cell) = true then .cell else k)
  | [],_,_,h=>by simp at h
  | (n,k') :: r,x,k,h=>by
    have ih:=@xY scope env hf r x k
    show List.lookup x ((if (k' == NameKind.free && env.scope.kind == .function && env.kindOf n == some .cell) = true then (n,NameKind.cell) else (n,k')) :: _) = _
    by_cases hx:(x == n) = true
    · have hxn:x = n:=eq_of_beq hx
      subst hxn
      rw [List.lookup_cons,hx] at h
      cases h
      by_cases c:(k' == NameKind.free && env.scope.kind == .function && env.kindOf x == some .cell) = true
      · rw [if_pos c,if_pos c,List.lookup_cons,hx]
      · rw [if_neg c,if_neg c,List.lookup_cons,hx]
    · have hx':(x == n) = false:=by simpa using hx
      rw [List.lookup_cons,hx'] at h
      by_cases c:(k' == NameKind.free && env.scope.kind == .function && env.kindOf n == some .cell) = true
      · rw [if_pos c,List.lookup_cons,hx']; exact ih h
      · rw [if_neg c,List.lookup_cons,hx']; exact ih h
theorem vB {scope:Scope} {env:Env}:∀ {names:List (Str × NameKind)} {x:Str},names.lookup x = none ->
    (names.map fun (n,k)=>if (k == NameKind.free && env.scope.kind == .function && env.kindOf n == some .cell) then (n,NameKind.cell) else (n,k)).lookup x = none
  | [],_,_=>rfl
  | (n,k') :: r,x,h=>by
    have ih:=@vB scope env r x
    show List.lookup x ((if (k' == NameKind.free && env.scope.kind == .function && env.kindOf n == some .cell) = true then (n,NameKind.cell) else (n,k')) :: _) = _
    by_cases hx:(x == n) = true
    · rw [List.lookup_cons,hx] at h; cases h
    · have hx':(x == n) = false:=by simpa using hx
      rw [List.lookup_cons,hx'] at h
      by_cases c:(k' == NameKind.free && env.scope.kind == .function && env.kindOf n == some .cell) = true
      · rw [if_pos c,List.lookup_cons,hx']; exact ih h
      · rw [if_neg c,List.lookup_cons,hx']; exact ih h
section
variable {X:Cx} {scope:Scope} {own caps:List Str} {ix:List Nat} {cl:List (Str × Addr)} {pins:List (Addr × Obj)} {σ:St} {H:Hp} {s:Shared} {fp:List Addr} {E:Value -> Shared -> Prop}
theorem Zk (S:qJ X scope own caps ix) (hcl1:∀ y c,cl.lookup y = some c -> X.env.cells.lookup y = some c) (hcl2:∀ y,(y,NameKind.free) ∈ scope.names -> ∃ c,cl.lookup y = some c)
  (I:Inv X pins σ H s) (hfp:∀ b ∈ fp,wZ X pins H b) (hlt:∀ b ∈ fp,b < s.heap.objs.size) {h4:Heap} {t4:Nat} (hn:h4.Ns s.heap.objs.size fun _=>none) (hk:∀ b o,s.heap.get? b = some o -> h4.get? b = some o) :
  Inv (xt X scope cl s.heap.objs.size (own ++ caps) pins s H fp E) [] (vU σ own.length ix) H { s with heap:=h4,toks:=t4 }:=by
 have kf:X.env.scope.kind = .function:=I.ok.kind
 have nofp:∀ b ∈ fp,b ≠ s.heap.objs.size:=fun b hb=>Nat.ne_of_lt (hlt b hb)
 have cellLt:∀ x c,X.env.cells.lookup x = some c -> c < s.heap.objs.size:=fun x c e=>by
  obtain ⟨v,o,ho,_⟩:=I.cell x c e
  exact Heap.lt_size ho
 have kinds:∀ y k,scope.names.lookup y = some k -> (relabel scope X.env).names.lookup y = some (if (k == NameKind.free && X.env.scope.kind == .function && X.env.kindOf y == some .cell) = true then .cell else k):=fun y k e=>xY (scope:=scope) kf e
 have back:∀ y k,(relabel scope X.env).names.lookup y = some k -> ∃ k',scope.names.lookup y = some k' /\ k = (if (k' == NameKind.free && X.env.scope.kind == .function && X.env.kindOf y == some .cell) = true then .cell else k'):=fun y k e=>by
  cases q:scope.names.lookup y with
  | none =>
   have:=vB (scope:=scope) (env:=X.env) q
   have e':(scope.names.map fun (n,k)=>if (k == NameKind.free && X.env.scope.kind == .function && X.env.kindOf n == some .cell) then (n,NameKind.cell) else (n,k)).lookup y = some k:=e
   rw [this] at e'; cases e'
  | some k' =>
   refine ⟨k',rfl,?_⟩
   have:=kinds y k' q
   rw [e] at this
   exact Option.some.inj this
 have isCell:∀ y,scope.names.lookup y = some .free -> (relabel scope X.env).names.lookup y = some .cell:=fun y e=>by
  have:=kinds y _ e
  rw [this,if_pos]
  rw [S.free y (xu e),kf]
  rfl
 refine ⟨⟨I.ok.mod,?_,I.ok.glob,I.ok.blt,Nat.le_refl _,?_,?_,?_,I.ok.hd,I.ok.frames,.inl rfl,?_,I.bs,Nat.le_trans I.ok.bsz I.sz,?_,?_,I.stack,I.stkFree⟩,rfl,I.bare,Un.kept hk,⟨_,hn,?_⟩,?_,?_,?_,?_,I.hok.kept hk,?_⟩
 ·show (relabel scope X.env).kind = .function
  exact S.kind
 ·intro x y c h1 h2
  exact I.ok.inj x y c (hcl1 x c h1) (hcl1 y c h2)
 ·intro y hy
  have hy':(relabel scope X.env).names.lookup y = some .cell \/ (relabel scope X.env).names.lookup y = some .free:=hy
  have:scope.names.lookup y = some .free:=by
   rcases hy' with q | q
   ·obtain ⟨k',e,ek⟩:=back y _ q
    by_cases c:(k' == NameKind.free && X.env.scope.kind == .function && X.env.kindOf y == some .cell) = true
    ·rw [Bool.and_eq_true,Bool.and_eq_true] at c
     rw [e,eq_of_beq c.1.1]
    ·rw [if_neg c] at ek
     exact absurd ek.symm (S.nocell _ (xu e))
   ·obtain ⟨k',e,ek⟩:=back y _ q
    by_cases c:(k' == NameKind.free && X.env.scope.kind == .function && X.env.kindOf y == some .cell) = true
    ·rw [if_pos c] at ek; cases ek
    ·rw [if_neg c] at ek
     rw [e,<- ek]
  exact hcl2 y (xu this)
 ·intro x c h _
  exact absurd h (by simp [xt])
 ·intro b hb
  refine ⟨nofp b hb,fun x c e=>?_⟩
  exact (hfp b hb).2.2.2.2.1 x c (hcl1 x c e)
 ·intro b o e hb
  obtain ⟨_,_,_,q,_⟩:=hfp b hb
  rcases q with q | q
  ·exact I.ok.noex b o e q
  ·exact absurd (Nat.lt_of_lt_of_le (Heap.lt_size e) (Nat.le_trans I.ok.bsz q)) (Nat.lt_irrefl _)
 ·intro b hb z
  rcases List.mem_cons.mp (I.stkSub b z) with e | e
  ·exact (hfp b hb).2.1 e
  ·exact (hfp b hb).2.2.1 e
 ·intro i y v h1 h2 h3
  have hi:own.length <= i:=by
   refine Nat.le_of_not_lt fun hlt'=>?_
   unfold vU at h2
   rw [List.getElem?_append_left (by rw [List.length_replicate]; exact hlt'),List.getElem?_replicate,if_pos hlt'] at h2
   cases h2
  have h1':caps[i - own.length]? = some y:=by
   have:(own ++ caps)[i]? = some y:=h1
   rw [List.getElem?_append_right hi] at this
   exact this
  have h2':(ix.map fun i=>(σ[i]?).join)[i - own.length]? = some (some v):=by
   unfold vU at h2
   rw [List.getElem?_append_right (by rw [List.length_replicate]; exact hi),List.length_replicate] at h2
   exact h2
  rw [List.getElem?_map] at h2'
  have hx:=congrArg (fun l=>l[i - own.length]?) S.hix
  simp only [List.getElem?_map,h1',Option.map_some] at hx
  cases q:ix[i - own.length]? with
  | none=>rw [q] at h2'; cases h2'
  | some j =>
   rw [q] at h2' hx
   have hj:X.N[j]? = some y:=Option.some.inj hx
   have hv:(σ[j]?).join = some v:=Option.some.inj h2'
   have hσ:σ[j]? = some (some v):=by
    cases r:σ[j]? with
    | none=>rw [r] at hv; cases hv
    | some z=>rw [r] at hv; cases z with
     | none=>cases hv
     | some z=>cases hv; rfl
   have hfree:scope.names.lookup y = some .free:=S.hcaps y (List.mem_of_getElem? h1')
   have hkc:=S.free y (xu hfree)
   obtain ⟨m,hm,hl⟩:=I.loc
   obtain ⟨u,ru,l⟩:=hl j y v hj hσ (.inr (.inl hkc))
   refine ⟨u,ru,.inr ⟨.inl (isCell y hfree),?_⟩⟩
   rcases l with ⟨k,_⟩ | ⟨_,c,e,z⟩
   ·have:X.env.kindOf y = some .local:=k
    rw [hkc] at this; cases this
   ·obtain ⟨c',e'⟩:=hcl2 y (xu hfree)
    have:=hcl1 y c' e'
    rw [e] at this
    cases this
    obtain ⟨o,ho,hd⟩:=z
    exact ⟨c,e',o,hk c o ho,hd⟩
 ·intro x c e
  obtain ⟨v,o,ho,hd⟩:=I.cell x c (hcl1 x c e)
  exact ⟨v,o,hk c o ho,hd⟩
 ·exact I.hok.fresh (Nat.le_refl _)
 ·intro x c e
  exact I.freeC x c (hcl1 x c e)
 ·intro p hp
  have hp':p ∈ X.pn ++ pins:=by
   have:p ∈ (X.pn ++ pins) ++ []:=hp
   rwa [List.append_nil] at this
  obtain ⟨e,n,ne,nf,d⟩:=I.pin p hp'
  refine ⟨hk _ _ e,n,?_,fun z=>?_,d⟩
  ·exact Nat.ne_of_lt (Heap.lt_size e)
  ·rcases List.mem_cons.mp (I.stkSub p.1 z) with q | q
   ·exact ne q
   ·exact nf q
 ·show (vU σ own.length ix).length = (own ++ caps).length
  have:=congrArg List.length S.hix
  rw [List.length_map,List.length_map] at this
  unfold vU
  rw [List.length_append,List.length_replicate,List.length_map,List.length_append,this]
end
end L3
namespace L3
open PySem PySem.Spec PyProof.Rows L2
def xD (σ σ':St):Prop:=σ.length = σ'.length /\ ∀ (i:Nat) v,σ[i]? = some (some v) -> σ'[i]? = some (some v)
def PTs (X:Cx) (ifs:List Expr) (t:TT):Prop :=
 ∀ (pins:List (Addr × Obj)) (s:Shared) (σ:St) (H:Hp) (Q:Bool -> Hp -> Prop),Inv X pins σ H s -> t σ H Q -> wpAny (model X.prog X.w) X.A (YL ifs X.env) (TP X pins σ Q) X.xe s
def vD:TT:=fun _ H Q=>Q true H
theorem xy {X:Cx}:PTs X [] vD:=fun _ _ _ H _ I h=>wpAny_pure ⟨H,I,h⟩
def jE (wi:TI) (g:TG) (tt:TT) (te:TE) (own:Nat) (ix:List Nat):TE:=fun σ H Q=>wi σ H fun J H1=>∀ D,H1 D = none -> ∃ W:Nat -> Nat -> List V -> Hp -> Prop,(∃ m,W 0 m [] (upd H1 D (.lst []))) /\
 ∀ i m acc H',W i m acc H' -> (J.stop i H' /\ Q (.ref D) H') \/ (J.go i H' /\ ∀ x H2,J.yld i H' x H2 -> g x (vU σ own ix) H2 fun σ3 H3=>xD (vU σ own ix) σ3 /\ tt σ3 H3 fun b H4=>if b = true then
  te σ3 H4 fun v H5=>H5 D = some (.lst acc) /\ acc.length < sizeLine /\ ∃ m',m' < m /\ W (i + 1) m' (acc ++ [v]) (upd H5 D (.lst (acc ++ [v])))
  else ∃ m',m' < m /\ W (i + 1) m' acc H4)
theorem HOk.but {P:Program} {w:World} {H:Hp} {h1 h2:Heap} {a:Addr} (ok:HOk P w H h1) (sb:Heap.SameBut a h1 h2) (ha:H a = none):HOk P w H h2:=fun b ob e=>by
 refine (ok b ob e).stay (fun c u hc q=>(sb.2 c ?_).trans q) (fun _ q=>q) fun _ _ q=>q
 rintro rfl
 rcases hc with rfl | hc
 ·rw [ha] at e; cases e
 ·rw [ha] at hc; cases hc
section
variable {X:Cx} {scope:Scope} {own caps:List Str} {ix:List Nat} {elt tg iter:Expr} {ifs:List Expr} {pos:Pos} {wi:TI} {g:TG} {tt:TT} {te:TE}
theorem uR (hc:X.calm = true) (S:qJ X scope own caps ix)
  (hg:∀ cl C pins s3 H3 fp,PG (xt X scope cl C (own ++ caps) pins s3 H3 fp fun _ _=>False) tg g)
  (ht:∀ cl C pins s3 H3 fp,PTs (xt X scope cl C (own ++ caps) pins s3 H3 fp fun _ _=>False) ifs tt)
  (he:∀ cl C pins s3 H3 fp,PE (xt X scope cl C (own ++ caps) pins s3 H3 fp fun _ _=>False) elt te)
  {cl:List (Str × Addr)} (hc1:∀ y c,cl.lookup y = some c -> X.env.cells.lookup y = some c) (hc2:∀ y,(y,NameKind.free) ∈ scope.names -> ∃ c,cl.lookup y = some c)
  {pins:List (Addr × Obj)} {σ:St} {H2:Hp} {s2:Shared} {Q:VK} {it:Addr} {fp:List Addr} {tn:Nat -> Heap -> Prop} {J:It} (I2:Inv X pins σ H2 s2) (T:W7 X.prog X.w X.K tg J fp it tn) (st2:tn 0 s2.heap) (f2:∀ b ∈ fp,wZ X pins H2 b)
  (q:∀ D,H2 D = none -> ∃ W:Nat -> Nat -> List V -> Hp -> Prop,(∃ m,W 0 m [] (upd H2 D (.lst []))) /\
   ∀ i m acc H',W i m acc H' -> (J.stop i H' /\ Q (.ref D) H') \/ (J.go i H' /\ ∀ x H2,J.yld i H' x H2 -> g x (vU σ own.length ix) H2 fun σ3 H3=>xD (vU σ own.length ix) σ3 /\ tt σ3 H3 fun b H4=>if b = true then
    te σ3 H4 fun v H5=>H5 D = some (.lst acc) /\ acc.length < sizeLine /\ ∃ m',m' < m /\ W (i + 1) m' (acc ++ [v]) (upd H5 D (.lst (acc ++ [v])))
    else ∃ m',m' < m /\ W (i + 1) m' acc H4))
  {RR:Value -> Addr -> Result -> Shared -> Prop} {E:Value -> Shared -> Prop}
  (hRR:∀ D C m s' H',H2 D = none -> s'.heap.Ns C m -> wZ X pins H' C -> Inv X pins σ H' s' -> Q (.ref D) H' -> RR (.ref D) C (.ok .next) s') :
  wpAny (model X.prog X.w) X.A (newList []) (fun acc s3=>wpAny (model X.prog X.w) X.A (newFunctionEnv scope X.env.globals cl [] X.env.qual none .none (some X.env)) (fun cenv s4 =>
   codeAny (model X.prog X.w) X.A (.compStart (.ListComp elt [⟨tg,iter,ifs,0⟩] scope pos) 0 (.ref it) acc { cenv with scope:=relabel scope X.env }) (RR acc cenv.locals) s4) E s3) E s2:=by
 have hD:H2 s2.heap.objs.size = none:=I2.hok.fresh (Nat.le_refl _)
 obtain ⟨W,⟨m0,w0⟩,turn⟩:=q _ hD
 refine wpAny_newObj_type (wpAny_newFunctionEnv S.nocell (by intro y hy; simp at hy) (fun h1 hns1 hsb1=>?_) S.kind)
 dsimp only at hns1 hsb1 ⊢
 have I3:Inv X pins σ (upd H2 s2.heap.objs.size (.lst [])) { s2 with heap:=s2.heap.push { cls:=.type "list",dict:=none,data:=.seq ([]:List Value).toArray } } :=
  I2.lnew (its:=[]) (t':=s2.toks) .nil (Nat.zero_le _)
 generalize hs3:({ s2 with heap:=s2.heap.push { cls:=.type "list",dict:=none,data:=.seq ([]:List Value).toArray } }:Shared) = s3 at I3
 have e3:s2.heap.push { cls:=.type "list",dict:=none,data:=.seq ([]:List Value).toArray } = s3.heap:=by rw [<- hs3]
 rw [e3] at hns1 hsb1 ⊢
 have k1:∀ b o,s3.heap.get? b = some o -> h1.get? b = some o:=fun b o e=>(hsb1.2 b (Nat.ne_of_lt (Heap.lt_size e))).trans (Heap.get?_push_of_some _ e)
 have k23:∀ b o,s2.heap.get? b = some o -> s3.heap.get? b = some o:=fun b o e=>by rw [<- e3]; exact Heap.get?_push_of_some _ e
 have hz:s3.heap.objs.size = s2.heap.objs.size + 1:=by rw [<- e3,Heap.size_push]
 have fpObj:∀ b ∈ fp,∃ o,s2.heap.get? b = some o:=fun b hb=>let ⟨o,e,_⟩:=T.obj 0 _ st2 b hb; ⟨o,e⟩
 have fplt:∀ b ∈ fp,b < s2.heap.objs.size:=fun b hb=>let ⟨o,e⟩:=fpObj b hb; Heap.lt_size e
 have f3:∀ b ∈ fp,wZ X pins (upd H2 s2.heap.objs.size (.lst [])) b:=fun b hb=>⟨by rw [zi (Nat.ne_of_lt (fplt b hb))]; exact (f2 b hb).1,(f2 b hb).2⟩
 have I4:Inv (xt X scope cl s3.heap.objs.size (own ++ caps) pins s3 (upd H2 s2.heap.objs.size (.lst [])) fp fun _ _=>False) [] (vU σ own.length ix) (upd H2 s2.heap.objs.size (.lst [])) { s3 with heap:=h1,toks:=s3.toks + ([]:List (Str × Value)).length } :=
  Zk S hc1 hc2 I3 f3 (fun b hb=>by rw [hz]; exact Nat.lt_succ_of_lt (fplt b hb)) hns1 k1
 have st4:tn 0 h1:=T.keep 0 _ _ st2 fun b hb o e=>k1 b o (k23 b o e)
 generalize hs4:({ s3 with heap:=h1,toks:=s3.toks + ([]:List (Str × Value)).length }:Shared) = s4 at I4
 have es4:({ s2 with heap:=h1,toks:=s2.toks + ([]:List (Str × Value)).length }:Shared) = s4:=by rw [<- hs4,<- hs3]
 have e4:h1 = s4.heap:=by rw [<- hs4]
 have loop:codeAny (model X.prog X.w) X.A (.compLoop (.ListComp elt [⟨tg,iter,ifs,0⟩] scope pos) 0 (.ref it) (.ref s2.heap.objs.size) (compEnvC scope cl s3.heap.objs.size X.env)) (RR (.ref s2.heap.objs.size) s3.heap.objs.size) s4:=by
  let X':=xt X scope cl s3.heap.objs.size (own ++ caps) pins s3 (upd H2 s2.heap.objs.size (.lst [])) fp fun _ _=>False
  have fp':∀ {H':Hp},(∀ b ∈ fp,H' b = none) -> ∀ b ∈ fp,wZ X' [] H' b:=fun {H'} hn b hb=>by
   obtain ⟨_,a1,a2,a3,a4,a5⟩:=f3 b hb
   refine ⟨hn b hb,Nat.ne_of_lt (show b < s3.heap.objs.size from by rw [hz]; exact Nat.lt_succ_of_lt (fplt b hb)),fun z=>?_,.inl hb,fun x c e=>a4 x c (hc1 x c e),fun p hp=>?_⟩
   ·rcases List.mem_cons.mp (I3.stkSub b z) with e | e
    ·exact a1 e
    ·exact a2 e
   ·have:p ∈ (X.pn ++ pins) ++ []:=hp
    rw [List.append_nil] at this
    exact a5 p this
  refine Z5 (fun n s'=>∃ i acc H',Inv X' [] (vU σ own.length ix) H' s' /\ tn i s'.heap /\ (∀ b ∈ fp,H' b = none) /\ W i n acc H') rfl ?_ m0 ⟨0,[],_,I4,by rw [<- e4]; exact st4,fun b hb=>(f3 b hb).1,w0⟩
  rintro n s5 ⟨i,acc,H5,I5,st5,fr5,w5⟩
  refine wpAny_noRaise ?_
  rcases turn i n acc H5 w5 with ⟨stop,qn⟩ | ⟨go,step⟩
  ·refine thn (T.done X' rfl rfl rfl hc i [] s5 _ H5 _ I5 (fp' fr5) st5 stop) fun r s6 ⟨hr,I6⟩=>?_
   subst hr
   obtain ⟨m,hm,_⟩:=I6.loc
   refine hRR _ _ m s6 H5 hD hm (I3.fpOk (Nat.le_refl _) I6.free) (I3.call' (s':=s6) I6.os I6.base I6.hok I6.bare fun b hb=>?_) qn
   obtain ⟨_,a1,a2,a3,a4,a5⟩:=f3 b hb
   exact ⟨a3,a1,a4,a5⟩
  ·refine thn (T.item X' rfl rfl rfl hc i [] s5 _ H5 (fun _ _=>False) I5 (fp' fr5) st5 go) fun r s6 ⟨u,hr,h6⟩=>?_
   subst hr
   refine wpAny_noRaise (thn h6 fun _ s7 ⟨x,H7,I7,r7,y7,st7,fr7⟩=>?_)
   have I7':=I7.pinned (fp' fr7) (T.obj _ _ st7)
   refine wpAny_noRaise (thn (hg _ _ _ _ _ _ _ s7 _ H7 x u _ I7' r7 (step x H7 y7)) fun _ s8 ⟨σ8,H8,I8,ks,q8⟩=>?_)
   refine wpAny_noRaise (thn (ht _ _ _ _ _ _ _ s8 σ8 H8 _ I8 q8) fun b s9 ⟨H9,I9,q9⟩=>?_)
   have back:∀ {s':Shared} {H':Hp} {acc':List V} {m':Nat},Inv X' ([] ++ qV fp s7.heap) σ8 H' s' -> m' < n -> W (i + 1) m' acc' H' -> ∃ m,m < n /\ ∃ i acc H',Inv X' [] (vU σ own.length ix) H' s' /\ tn i s'.heap /\ (∀ b ∈ fp,H' b = none) /\ W i m acc H':=fun {s' H' acc' m'} J' hm w'=>by
    refine ⟨m',hm,i + 1,acc',H',(J'.unpinned).weak ks.1 ks.2,T.keep _ _ _ st7 fun b hb o e=>(J'.pin (b,o) (List.mem_append_right _ (List.mem_append_right _ (xO hb e)))).1,fun b hb=>?_,w'⟩
    obtain ⟨o,e,d⟩:=T.obj _ _ st7 b hb
    exact (J'.pin (b,o) (List.mem_append_right _ (List.mem_append_right _ (xO hb e)))).2.1
   cases b with
   | false =>
    rw [if_neg Bool.false_ne_true] at q9 ⊢
    obtain ⟨m',hm,w'⟩:=q9
    exact back I9 hm w'
   | true =>
    rw [if_pos rfl] at q9 ⊢
    refine wpAny_noRaise (thn (he _ _ _ _ _ _ _ s9 σ8 H9 _ I9 q9) fun v s10 ⟨y,H10,I10,r10,hD10,hsz,m',hm,w'⟩=>?_)
    refine wpAny_noRaise ?_
    have:=yz (X:=X') _ s10 σ8 H10 (.ref s2.heap.objs.size) [y] (.ref s2.heap.objs.size) [v] (fun _ H'=>H' = upd H10 s2.heap.objs.size (.lst (acc ++ [y]))) I10 rfl (.cons r10 .nil) ⟨_,acc,y,rfl,rfl,hD10,hsz,rfl⟩
    refine thn this fun _ s11 ⟨_,H11,I11,_,eH⟩=>?_
    subst eH
    exact back I11 hm w'
 have goal:codeAny (model X.prog X.w) X.A (.compStart (.ListComp elt [⟨tg,iter,ifs,0⟩] scope pos) 0 (.ref it) (.ref s2.heap.objs.size) (compEnvC scope cl s3.heap.objs.size X.env)) (RR (.ref s2.heap.objs.size) s3.heap.objs.size) s4 :=
  codeAny_compStart_list loop (T.self _ 0 s4 _ _ (by rw [<- e4]; exact st4) loop)
 rw [<- es4] at goal
 exact goal
theorem xE (hc:X.calm = true) (S:qJ X scope own caps ix) (hi:PI X tg iter wi)
  (hg:∀ cl C pins s3 H3 fp,PG (xt X scope cl C (own ++ caps) pins s3 H3 fp fun _ _=>False) tg g)
  (ht:∀ cl C pins s3 H3 fp,PTs (xt X scope cl C (own ++ caps) pins s3 H3 fp fun _ _=>False) ifs tt)
  (he:∀ cl C pins s3 H3 fp,PE (xt X scope cl C (own ++ caps) pins s3 H3 fp fun _ _=>False) elt te)
  (hs:∀ x,foldedSetIterable iter X.env x = pure x:=by intro _; rfl) :
  PE X (.ListComp elt [⟨tg,iter,ifs,0⟩] scope pos) (jE wi g tt te own.length ix):=by
 intro pins s σ H Q I h
 obtain ⟨cl,hclos,hc1,hc2⟩:=wN (scope:=scope) (env:=X.env) fun y hy=>I.ok.has y (.inl (S.free y hy))
 rw [eval_ListComp]
 refine wpAny_comprehension_free (use:=none) rfl hs hclos S.kind S.names (thn (hi pins s σ H _ I h) fun v s1 h1=>thn h1 fun itv s2 h2=>?_)
 obtain ⟨it,fp,tn,J,H2,e,I2,T,st2,f2,q⟩:=h2
 subst e
 refine uR (RR:=fun acc C=>compPost (model X.prog X.w) X.A X.xe none (EP X pins σ Q) acc C) hc S hg ht he hc1 hc2 I2 T st2 f2 q ?_
 intro D C m s' H' _ hn fc I' qn
 obtain ⟨a0,a1,a2,a3,a4,a5⟩:=fc
 exact ⟨m,hn,fun h' sb=>⟨.ref D,H',I'.turned (t':=s'.toks) (fun b o hb e=>(sb.2 b hb).trans e) a0 a1 a3 a4 a5,rfl,qn⟩⟩
def j5 (i:Nat) (t:TE):TS:=fun D σ H=>t σ H fun x H1=>D.nx (σ.set i (some x)) H1
theorem jG {i:Nat} {y:Str} {py spos:Pos} (hN:X.N.Nodup) (hy:X.N[i]? = some y) (hly:Loc X.env.scope y) (hf:X.fn y = true \/ X.env.scope.names.lookup y = some .local) (hc:X.calm = true) (S:qJ X scope own caps ix) (hi:PI X tg iter wi)
  (hg:∀ cl C pins s3 H3 fp,PG (xt X scope cl C (own ++ caps) pins s3 H3 fp fun _ _=>False) tg g)
  (ht:∀ cl C pins s3 H3 fp,PTs (xt X scope cl C (own ++ caps) pins s3 H3 fp fun _ _=>False) ifs tt)
  (he:∀ cl C pins s3 H3 fp,PE (xt X scope cl C (own ++ caps) pins s3 H3 fp fun _ _=>False) elt te)
  (hsw:swapsWith (.ListComp elt [⟨tg,iter,ifs,0⟩] scope pos) (some (.Name y py)) spos.line X.env = pure true:=by rfl)
  (hs:∀ x,foldedSetIterable iter X.env x = pure x:=by intro _; rfl) :
  PS X (.Assign [.Name y py] (.ListComp elt [⟨tg,iter,ifs,0⟩] scope pos) spos) (j5 i (jE wi g tt te own.length ix)):=by
 intro pins s σ H D I h
 obtain ⟨cl,hclos,hc1,hc2⟩:=wN (scope:=scope) (env:=X.env) fun y hy=>I.ok.has y (.inl (S.free y hy))
 rw [exec_Assign_Name_used _ _ _ _ hsw]
 refine wpAny_bind (wpAny_standAt (wpAny_bind ?_))
 show wpAny _ X.A (do let _ <- comprehension (.ListComp elt [⟨tg,iter,ifs,0⟩] scope pos) scope X.env _ (newList []) false (eval iter X.env) (some (assign (.Name y py) X.env))) _ _ s
 refine wpAny_bind (thn (wpAny_comprehension_free (use:=some (assign (.Name y py) X.env)) (Q:=fun _ s'=>SP X pins D .next s') rfl hs hclos S.kind S.names (thn (hi pins s σ H _ I h) fun v s1 h1=>thn h1 fun itv s2 h2=>?_)) fun _ s' hq=>wpAny_pure (wpAny_pure hq))
 obtain ⟨it,fp,tn,J,H2,e,I2,T,st2,f2,q⟩:=h2
 subst e
 refine uR (Q:=fun x H1=>D.nx (σ.set i (some x)) H1) (RR:=fun acc C=>compPost (model X.prog X.w) X.A X.xe (some (assign (.Name y py) X.env)) (fun _ s'=>SP X pins D .next s') acc C) hc S hg ht he hc1 hc2 I2 T st2 f2 q ?_
 intro D' C m s' H1 hD' hn fc I1 nx
 obtain ⟨a0,a1,a2,a3,a4,a5⟩:=fc
 show wpAny _ X.A (assign (.Name y py) X.env (.ref D')) _ _ s'
 refine wpAny_assign_Name (ji I1 hN hy hly (v:=.ref D') rfl (fun s'' I2' ⟨a,sb,ha⟩=>?_) hf)
 have hCa:C ≠ a:=by
  rcases ha with e | e
  ·rw [e]; exact a1
  ·exact fun z=>a4 _ _ e z.symm
 refine ⟨m,hn.sameBut sb hCa,fun h' sb'=>⟨_,H1,I2'.turned (t':=s''.toks) (fun b o hb e=>(sb'.2 b hb).trans e) a0 a1 a3 a4 a5,nx⟩⟩
end
end L3
namespace L3
open PySem PySem.Spec PyProof.Rows L2
section
variable {X:Cx} {a b:Expr} {ta tb:TE} {pos:Pos}
def Wf:R2:=fun x y H Q=>(∃ i j,x = .int i /\ y = .int j /\ Q (.int (i + j)) H) \/ (∃ i j,x = .str i /\ y = .str j /\ i.length + j.length <= sizeLine /\ Q (.str (i ++ j)) H) \/ QP x y H Q
theorem zM:OpR X (binaryOp .Add) Wf:=op_add.or (op_add_str.or Ui)
def WN:R2:=fun x y H Q=>(∃ i j,x = .int i /\ y = .int j /\ CMul i j /\ Q (.int (i * j)) H) \/ ∃ z n,x = .str z /\ y = .int n /\ 0 <= n /\ n <= 1000 /\ z.length <= 1000 /\ Q (.str (tx (List.replicate n.toNat (cs z)).flatten)) H
theorem vo:OpR X (binaryOp .Mult) WN:=op_mul.or kT
def Ju:R2:=fun x y H Q=>(∃ i j,x = .int i /\ y = .int j /\ Q (.bl (decide (i < j))) H) \/ ∃ i j,x = .str i /\ y = .str j /\ Q (.bl (decide (cs i < cs j))) H
theorem vS:OpR X (compareOp .Lt) Ju:=op_lt.or op_lt_str'
def Jz:R2:=fun x y H Q=>(∃ i j,x = .int i /\ y = .int j /\ Q (.bl (decide (i <= j))) H) \/ ∃ i j,x = .str i /\ y = .str j /\ Q (.bl (!(decide (cs j < cs i)))) H
theorem xp:OpR X (compareOp .LtE) Jz:=op_le.or Yt
theorem Y6:OpR X (compareOp .Gt) (fun x y H Q=>∃ i j,x = .str i /\ y = .str j /\ Q (.bl (decide (cs j < cs i))) H):=by
 intro pins s σ H x y v u Q I rx ry h
 obtain ⟨i,j,rfl,rfl,q⟩:=h
 obtain ⟨t,rfl⟩:=rx
 obtain ⟨t',rfl⟩:=ry
 exact PySem.P.gt_str ⟨.bl _,H,I,rfl,q⟩
def Je:R2:=fun x y H Q=>(∃ i j,x = .int i /\ y = .int j /\ Q (.bl (decide (j < i))) H) \/ ∃ i j,x = .str i /\ y = .str j /\ Q (.bl (decide (cs j < cs i))) H
theorem qX:OpR X (compareOp .Gt) Je:=op_gt.or Y6
def Jn (K:PySem.W.Frag):V -> Option Int -> Option Int -> Hp -> VK -> Prop:=fun x lo hi H Q=>QQ K x lo hi H Q \/ Qo x lo hi H Q
theorem xZ:SlR X (Jn X.K):=sl_list.or kn
def cV:V -> Option Value
 | .ty n=>some (.type n)
 | .ref a=>some (.ref a)
 | _=>none
theorem Wl:wJ X (.builtin "isinstance") (fun xs H Q=>∃ x c u t b,xs = [x,c] /\ cV c = some u /\ j7 X.K H x t /\ PySem.W.kitOne X.K t u = some b /\ Q (.bl b) H):=by
 intro pins s σ H xs us Q I r h
 obtain ⟨x,c,u,t,b,rfl,hc,ty,e,q⟩:=h
 obtain ⟨v,w',rfl,rx,rc⟩:=Zg r
 have:w' = u:=by
  cases c with
  | ty n=>cases hc; exact rc
  | ref a=>cases hc; exact rc
  | _=>cases hc
 subst this
 exact Xj I rx ty e fun tk=>⟨.bl b,H,I.tok tk,rfl,q⟩
end
end L3
namespace L3
open PySem PySem.Spec PyProof.Rows L2
def Iel (K:PySem.W.Frag) (a:Addr):It:=⟨fun i H=>∃ xs x,SqL K H a xs /\ xs[i]? = some x,fun i H v H'=>∃ p x,H p = none /\ (∀ xs,SqL K H a xs -> xs[i]? = some x) /\ v = .ref p /\ H' = upd H p (.tup [.int (i:Nat),x]),fun i H=>∃ xs,SqL K H a xs /\ i = xs.length⟩
theorem Zs {P:Program} {w:World} {K:PySem.W.Frag} {elts:List Expr} {x1:Nat} {tpos:Pos} (e it a:Addr) (hei:e ≠ it) :
  W7 P w K (.Tuple elts x1 tpos) (Iel K a) [e,it] e (fun i h=>(∃ old,IsEnum h e it i old) /\ h.IsListIter it a i) where
 mem:=by simp
 obj:=fun i h st b hb=>by
  obtain ⟨⟨old,he⟩,o,e2,c,d⟩:=st
  rcases List.mem_cons.mp hb with q | q
  ·subst q
   exact ⟨_,he,fun v z=>by have z':Data.fields _ = Data.cell v:=z; cases z'⟩
  ·have q':b = it:=by simpa using q
   subst q'
   exact ⟨o,e2,fun v z=>by rw [d] at z; cases z⟩
 keep:=fun i h h' st k=>by
  obtain ⟨⟨old,he⟩,st⟩:=st
  exact ⟨⟨old,k e (by simp) _ he⟩,st.at fun o q=>k it (by simp) o q⟩
 item:=by
  intro X hP hw hK hc i pins s σ H E I hf st hg
  subst hP hw hK
  obtain ⟨⟨old,he⟩,st⟩:=st
  obtain ⟨xs,x,hq,hx⟩:=hg
  obtain ⟨its,rv,p,hz⟩:=I.list hq
  obtain ⟨u,hu,ru⟩:=rv.get hx
  have hA:X.A.in1.handled = none:=I.ok.hd hc
  have pl:=p.isList
  have hai:a ≠ it:=fun z=>by
   subst z
   obtain ⟨o1,q1,c1,_⟩:=st
   obtain ⟨o2,q2,c2,_⟩:=pl
   rw [q1] at q2; cases q2
   rw [c1] at c2
   exact absurd (Value.type.inj c2) (by decide)
  have hea:e ≠ a:=fun z=>by
   subst z
   obtain ⟨o2,q2,c2,_⟩:=pl
   rw [he] at q2; cases q2
   exact absurd (Value.type.inj c2) (by decide)
  refine wpAny_pyNext_enum_itemD (Draws.list (A:=X.A.in1) hA it a hai its.toArray) he ⟨st,pl⟩ (by rw [List.size_toArray]; exact (List.getElem?_eq_some_iff.mp hu).1) hei (by simp [hei,hea]) fun v h' tk hv ho st' hT hsz kk=>?_
  have ev:v = u:=by
   have hv':its.toArray[i]? = some v:=hv
   rw [List.getElem?_toArray,hu] at hv'
   exact (Option.some.inj hv').symm
  subst ev
  refine ⟨_,rfl,wpAny_letOwnedTupleGo_enum ho fun h2 he2 sb=>?_⟩
  have elt:e < s.heap.objs.size:=Heap.lt_size he
  have ilt:it < s.heap.objs.size:=by obtain ⟨o,q,_⟩:=st; exact Heap.lt_size q
  have I1:Inv X pins σ H { s with heap:=h2,toks:=tk + 1 }:=Inv.turns (fp:=[e,it]) I (fun b o hb q=>by
   have hb':b ≠ e /\ b ≠ it:=by simpa using hb
   exact (sb.2 b hb'.1).trans (kk b o hb'.1 hb'.2 q)) hf
  have hp:H s.heap.objs.size = none:=I.hok.fresh (Nat.le_refl _)
  have hT2:h2.get? s.heap.objs.size = some { cls:=.type "tuple",data:=.seq #[.int (i:Nat) tk,v] }:=(sb.2 _ (Nat.ne_of_gt elt)).trans hT
  have I2:Inv X pins σ (upd H s.heap.objs.size (.tup [.int (i:Nat),x])) { s with heap:=h2,toks:=tk + 1 } :=
   Inv.track I1 (I.fpOk (Nat.le_refl _) hp) ⟨by show 2 <= sizeLine; decide,[.int (i:Nat) tk,v],.cons ⟨_,rfl⟩ (.cons ru .nil),⟨_,hT2,rfl,_,rfl⟩⟩
  refine ⟨.ref s.heap.objs.size,_,I2,rfl,⟨s.heap.objs.size,x,hp,fun ys hy=>by rw [I.list_inj hy hq]; exact hx,rfl,rfl⟩,⟨⟨_,by simpa using he2⟩,?_⟩,fun b hb=>?_⟩
  ·exact st'.1.at fun o q=>(sb.2 it (Ne.symm hei)).trans q
  ·rw [zi]
   ·exact (hf b hb).1
   ·rcases List.mem_cons.mp hb with q | q
    ·rw [q]; exact Nat.ne_of_lt elt
    ·have q':b = it:=by simpa using q
     rw [q']; exact Nat.ne_of_lt ilt
 done:=by
  intro X hP hw hK hc i pins s σ H E I hf st hg
  subst hP hw hK
  obtain ⟨⟨old,he⟩,st⟩:=st
  obtain ⟨xs,hq,hi⟩:=hg
  obtain ⟨its,rv,p,hz⟩:=I.list hq
  have pl:=p.isList
  have hai:a ≠ it:=fun z=>by
   subst z
   obtain ⟨o1,q1,c1,_⟩:=st
   obtain ⟨o2,q2,c2,_⟩:=pl
   rw [q1] at q2; cases q2
   rw [c1] at c2
   exact absurd (Value.type.inj c2) (by decide)
  have hA:X.A.in1.handled = none:=I.ok.hd hc
  have hi':i = its.toArray.size:=by rw [List.size_toArray,<- rv.length]; exact hi
  subst hi'
  refine wpAny_pyNext_enum_endD (Draws.list (A:=X.A.in1) hA it a hai its.toArray) he ⟨st,pl⟩ fun h' hx=>⟨rfl,?_⟩
  exact Inv.turns (fp:=[e,it]) (t':=s.toks) I (fun b o hb q=>hx b o (fun z=>hb (by simp [z])) q) hf
 self:=fun A i s Q E st h=>by
  obtain ⟨⟨old,he⟩,_⟩:=st
  exact wpAny_pyIter_enum he h
section
variable {X:Cx}
def WE (K:PySem.W.Frag) (ta:TA):TI:=fun σ H R=>ta σ H fun vs H1=>∃ a,vs = [.ref a] /\ (∃ xs,SqL K H1 a xs) /\ R (Iel K a) H1
theorem qv {a:Expr} {ta:TA} {p pos tpos:Pos} {elts:List Expr} {x1:Nat} (hg:Gl X "enumerate") (hm:X.mg "enumerate" = none) (ha:PA X [a] ta) (hs:starEach [a] X.env = [(false,eval a X.env)]:=by rfl) :
  PI X (.Tuple elts x1 tpos) (.Call (.Name "enumerate" p) [a] [] pos) (WE X.K ta):=by
 intro pins s σ H R I h
 refine Call_ (um I hg hm PyProof.Rows.boot_enumerate (PyProof.Rows.callWith_type1 (thn (ha pos pins s σ H _ I h) fun us s1 ⟨vs,H1,I1,r1,q1⟩=>?_) hs rfl))
 obtain ⟨l,e,⟨xs,hq⟩,q⟩:=q1
 subst e
 obtain ⟨u,rfl,ru⟩:=vm r1
 cases ru
 obtain ⟨its,rv,pl,hz⟩:=I1.list hq
 refine call_enumerate_list pl.isList fun h' he hit hsz kk=>?_
 have I2:Inv X pins σ H1 { s1 with heap:=h' }:=I1.kept (t':=s1.toks) kk
 refine wpAny_pyIter_enum (s:={ s1 with heap:=h' }) (i:=0) he ?_
 refine ⟨s1.heap.objs.size + 1,[s1.heap.objs.size + 1,s1.heap.objs.size],_,_,H1,rfl,I2,Zs _ _ l (Nat.succ_ne_self _),⟨⟨_,he⟩,hit⟩,fun b hb=>?_,q⟩
 have hb':s1.heap.objs.size <= b:=by
  rcases List.mem_cons.mp hb with e | e
  ·rw [e]; exact Nat.le_succ _
  ·have:b = s1.heap.objs.size:=by simpa using e
   rw [this]; exact Nat.le_refl _
 exact I1.fpOk hb' (I1.hok.fresh hb')
end
def ForEL (K:PySem.W.Frag) (a:Addr) (g:TG) (tb:TS) (D:xg) (σ:St) (H:Hp):Prop:=∃ W:Nat -> Nat -> St -> Hp -> Prop,(∃ m,W 0 m σ H) /\ ∀ i m σ H,W i m σ H ->
 ((Iel K a).stop i H /\ D.nx σ H) \/ ((Iel K a).go i H /\ ∃ N:St -> Hp -> Prop,(∀ σ' H',N σ' H' -> ∃ m',m' < m /\ W (i + 1) m' σ' H') /\ ∀ x H',(Iel K a).yld i H x H' -> g x σ H' fun σ2 H2=>tb { D with nx:=N,ct:=N,bk:=D.nx } σ2 H2)
theorem Qp {K:PySem.W.Frag} {ta:TA} {g:TG} {tb:TS} {D:xg} {σ:St} {H:Hp}:Wn (WE K ta) g tb D σ H = ta σ H fun vs H1=>∃ a,vs = [.ref a] /\ (∃ xs,SqL K H1 a xs) /\ ForEL K a g tb D σ H1:=rfl
theorem ForEL.by {K:PySem.W.Frag} {a:Addr} {xs:List V} {g:TG} {tb:TS} {D:xg} {σ:St} {H:Hp} (Pv:Nat -> St -> Hp -> Prop) (h0:Pv 0 σ H) (hl:∀ i σ H,i <= xs.length -> Pv i σ H -> SqL K H a xs)
  (hs:∀ i x σ H p,xs[i]? = some x -> Pv i σ H -> H p = none -> g (.ref p) σ (upd H p (.tup [.int (i:Nat),x])) fun σ2 H2=>tb { D with nx:=Pv (i + 1),ct:=Pv (i + 1),bk:=D.nx } σ2 H2) (hd:∀ σ H,Pv xs.length σ H -> D.nx σ H):ForEL K a g tb D σ H:=by
 refine ⟨fun i m σ H=>m = xs.length - i /\ i <= xs.length /\ Pv i σ H,⟨xs.length,by simp,Nat.zero_le _,h0⟩,?_⟩
 rintro i m σ H ⟨rfl,hi,p⟩
 have q:=hl i σ H hi p
 by_cases hlt:i < xs.length
 ·refine .inr ⟨⟨xs,xs[i],q,by simp [hlt]⟩,Pv (i + 1),fun σ' H' p'=>⟨xs.length - (i + 1),by omega,rfl,hlt,p'⟩,fun v H' y=>?_⟩
  obtain ⟨p',x,hp,hx,ev,eH⟩:=y
  subst ev eH
  exact hs i x σ H p' (hx xs q) p hp
 ·have e:i = xs.length:=by omega
  subst e
  exact .inl ⟨⟨xs,q,rfl⟩,hd σ H p⟩
def JX (K:PySem.W.Frag) (a:Addr) (g:TG) (tb:TS) (D:xg) (σ:St) (H:Hp):Prop:=∃ W:Nat -> Nat -> St -> Hp -> Prop,(∃ m,W 0 m σ H) /\ ∀ i m σ H,W i m σ H ->
 ((Itt K a).stop i H /\ D.nx σ H) \/ ((Itt K a).go i H /\ ∃ N:St -> Hp -> Prop,(∀ σ' H',N σ' H' -> ∃ m',m' < m /\ W (i + 1) m' σ' H') /\ ∀ x H',(Itt K a).yld i H x H' -> g x σ H' fun σ2 H2=>tb { D with nx:=N,ct:=N,bk:=D.nx } σ2 H2)
theorem JC {K:PySem.W.Frag} {tl:TE} {g:TG} {tb:TS} {D:xg} {σ:St} {H:Hp}:Wn (J6 K tl) g tb D σ H = tl σ H fun x H1=>∃ a,x = .ref a /\ (∃ xs,SqT K H1 a xs) /\ JX K a g tb D σ H1:=rfl
def tTr (K:PySem.W.Frag) (ta:TE):TT:=fun σ H Q=>ta σ H fun x H'=>∃ k,VO K x H' k /\ Q k H'
theorem QL {K:PySem.W.Frag} {ta:TE} {σ:L2.St} {H:Hp} {Q:Bool -> Hp -> Prop}:tTr K ta σ H Q = ta σ H fun x H'=>∃ k,VO K x H' k /\ Q k H':=rfl
def tBl (ta:TE):TT:=fun σ H Q=>ta σ H fun x H'=>∃ k,x = .bl k /\ Q k H'
theorem Qh {ta:TE} {σ:L2.St} {H:Hp} {Q:Bool -> Hp -> Prop}:tBl ta σ H Q = ta σ H fun x H'=>∃ k,x = .bl k /\ Q k H':=rfl
section
variable {X:Cx} {a:Expr} {ta:TE}
theorem vE (ha:PE X a ta) (he:∀ whole,isTrue a X.env whole = (do let v <- whole; standAt a.pos; holding [v] (truthy v))):PT X a (tBl ta):=by
 intro pins s σ H Q I h
 refine isTrue_plain (thn (ha pins s σ H _ I h) fun v s1 ⟨x,H1,I1,r1,k,e,q1⟩=>?_) (he _)
 subst e
 exact Ww pins s1 σ H1 (.bl k) v Q I1 r1 ⟨k,rfl,q1⟩
end
end L3
namespace L3
open PySem PySem.Spec PyProof.Rows L2
def Irv (K:PySem.W.Frag) (a:Addr) (n:Nat):It:=⟨fun i H=>∃ xs,SqL K H a xs /\ xs.length = n /\ i < n,fun i H v H'=>H' = H /\ ∀ xs,SqL K H a xs -> xs.length = n -> xs[n - 1 - i]? = some v,fun i H=>i = n⟩
section
variable {X:Cx} {tg:Expr}
def JL (K:PySem.W.Frag) (ta:TA):TI:=fun σ H R=>ta σ H fun vs H1=>∃ a xs,vs = [.ref a] /\ SqL K H1 a xs /\ R (Irv K a xs.length) H1
end
section
variable {prog:Program} {w:World} {A:Around} {E:Value -> Shared -> Prop} {s:Shared}
end
section
variable {X:Cx}
def Qd (K:PySem.W.Frag) (ta:TA):TE:=fun σ H Q=>ta σ H fun vs H1=>∃ a xs,vs = [.ref a] /\ SqL K H1 a xs /\ ∀ l,H1 l = none -> Q (.ref l) (upd H1 l (.lst xs.reverse))
theorem WO {K:PySem.W.Frag} {ta:TA} {σ:L2.St} {H:Hp} {Q:VK}:Qd K ta σ H Q = ta σ H fun vs H1=>∃ a xs,vs = [.ref a] /\ SqL K H1 a xs /\ ∀ l,H1 l = none -> Q (.ref l) (upd H1 l (.lst xs.reverse)):=rfl
end
def Izp (K:PySem.W.Frag) (a b:Addr):It:=⟨fun i H=>∃ xs ys x y,SqL K H a xs /\ SqL K H b ys /\ xs[i]? = some x /\ ys[i]? = some y,fun i H v H'=>∃ p x y,H p = none /\ (∀ xs,SqL K H a xs -> xs[i]? = some x) /\ (∀ ys,SqL K H b ys -> ys[i]? = some y) /\ v = .ref p /\ H' = upd H p (.tup [x,y]),fun i H=>∃ xs ys,SqL K H a xs /\ SqL K H b ys /\ (xs.length = i \/ ys.length = i) /\ i <= xs.length /\ i <= ys.length⟩
theorem xN {h:Heap} {a b:Addr} {o1 o2:Obj} {t u:String} (h1:h.get? a = some o1) (c1:o1.cls = .type t) (h2:h.get? b = some o2) (c2:o2.cls = .type u) (hne:t ≠ u):a ≠ b:=fun z=>by
 rw [z,h2] at h1
 cases h1
 rw [c2] at c1
 exact hne (Value.type.inj c1).symm
structure WB (z TI TO i1 i2:Addr):Prop where
 TIz:TI ≠ z
 TOz:TO ≠ z
 i1z:i1 ≠ z
 i2z:i2 ≠ z
 TITO:TI ≠ TO
 TIi1:TI ≠ i1
 TIi2:TI ≠ i2
 TOi1:TO ≠ i1
 TOi2:TO ≠ i2
 i12:i1 ≠ i2
def ZipAt (z TI TO i1 i2 l1 l2:Addr) (i:Nat) (h:Heap):Prop:=IsZip h z TI TO .none /\ IsPair h TI (.ref i1) (.ref i2) /\ (∃ a b,IsPair h TO a b) /\ h.IsListIter i1 l1 i /\ h.IsListIter i2 l2 i
theorem ZipAt.apart {z TI TO i1 i2 l1 l2:Addr} {i:Nat} {h:Heap} {xs ys:Array Value} (D:WB z TI TO i1 i2) (st:ZipAt z TI TO i1 i2 l1 l2 i h) (h1:h.IsList l1 xs) (h2:h.IsList l2 ys):ZipApart z TI TO i1 i2 l1 l2:=by
 obtain ⟨hz,hTI,⟨a,b,hTO⟩,⟨o1,e1,c1,_⟩,⟨o2,e2,c2,_⟩⟩:=st
 obtain ⟨p1,q1,k1,_⟩:=h1
 obtain ⟨p2,q2,k2,_⟩:=h2
 exact ⟨D.TIz,D.TOz,D.i1z,D.i2z,D.TITO,D.TIi1,D.TIi2,D.TOi1,D.TOi2,D.i12,xN q1 k1 hz rfl (by decide),xN q1 k1 hTO rfl (by decide),xN q1 k1 e1 c1 (by decide),xN q1 k1 e2 c2 (by decide),xN q2 k2 hz rfl (by decide),xN q2 k2 hTO rfl (by decide),xN q2 k2 e1 c1 (by decide),xN q2 k2 e2 c2 (by decide)⟩
section
variable {X:Cx}
def JB (K:PySem.W.Frag) (ta:TA):TI:=fun σ H R=>ta σ H fun vs H1=>∃ a b,vs = [.ref a,.ref b] /\ (∃ xs,SqL K H1 a xs) /\ (∃ ys,SqL K H1 b ys) /\ R (Izp K a b) H1
end
def JV (K:PySem.W.Frag) (a b:Addr) (g:TG) (tb:TS) (D:xg) (σ:L2.St) (H:Hp):Prop:=∃ W:Nat -> Nat -> L2.St -> Hp -> Prop,(∃ m,W 0 m σ H) /\ ∀ i m σ H,W i m σ H ->
 ((Izp K a b).stop i H /\ D.nx σ H) \/ ((Izp K a b).go i H /\ ∃ N:L2.St -> Hp -> Prop,(∀ σ' H',N σ' H' -> ∃ m',m' < m /\ W (i + 1) m' σ' H') /\ ∀ x H',(Izp K a b).yld i H x H' -> g x σ H' fun σ2 H2=>tb { D with nx:=N,ct:=N,bk:=D.nx } σ2 H2)
theorem JQ {K:PySem.W.Frag} {ta:TA} {g:TG} {tb:TS} {D:xg} {σ:L2.St} {H:Hp}:Wn (JB K ta) g tb D σ H = ta σ H fun vs H1=>∃ a b,vs = [.ref a,.ref b] /\ (∃ xs,SqL K H1 a xs) /\ (∃ ys,SqL K H1 b ys) /\ JV K a b g tb D σ H1:=rfl
end L3
namespace L3
open PySem PySem.Spec PyProof.Rows L2
abbrev xob (C:Addr) (dx:Option Addr) (t:Addr) (tb:Value):Obj:={ cls:=.ref C,dict:=dx,data:=.fields #[.ref t,tb,.none,.none,.bool false,.none] }
abbrev xog (C:Addr) (dx:Option Addr) (t:Addr) (tb c:Value) (k:Bool):Obj:={ cls:=.ref C,dict:=dx,data:=.fields #[.ref t,tb,c,.none,.bool k,.none] }
def VN (h:Heap) (x:Addr) (tb:Value):Prop:=tb = .none \/ ∃ T oT ts,tb = .ref T /\ T ≠ x /\ h.get? T = some oT /\ oT.data = .fields ts /\ 3 < ts.size
section
variable {M:Model} {A:Around} {E:Value -> Shared -> Prop} {s:Shared} {base:Heap} {env env0:Env} {outer:List Env} {L x t C:Addr} {dx:Option Addr} {cx:Value} {kx:Bool}
theorem qP (h:env.frame = env0.frame):PySem.frameOf env = PySem.frameOf env0:=by unfold PySem.frameOf; rw [h]
theorem Z4 {tb head:Value} {hadNext:Bool} {Q:Unit -> Shared -> Prop} (hfr:A.frames = some (env0 :: outer)) (hl:s.heap.FunFrames base (env0 :: outer)) (hf:env0.frame = some L) (he:env.frame = some L)
  (hx:s.heap.get? x = some (xog C dx t tb cx kx))
  (h:∀ h' oT ts,h'.get? x = some (xog C dx t (.ref s.heap.objs.size) cx kx) -> s.heap.objs.size ≠ x -> h'.get? s.heap.objs.size = some oT -> oT.data = .fields ts -> 3 < ts.size ->
   (∀ b o,b ≠ x -> b ∉ frs (env0 :: outer) -> s.heap.get? b = some o -> h'.get? b = some o) -> (∀ b o,b ≠ x -> s.heap.get? b = some o -> ∃ sl,h'.get? b = some { o with slots:=sl }) -> Q () { s with heap:=h' }) :
  wpAny M A (do let a <- PySem.frameOf env; let pl <- entryPlaceOf L hadNext; let b <- EntryCells.newEntry head a .none (rawInt L) .none pl; setField (.ref x) 1 b) Q E s:=by
 have hxf:x ∉ frs (env0 :: outer):=fun hm=>by
  obtain ⟨_,o,ho,hnf⟩:=hl.mem hm
  rw [hx] at ho
  cases ho
  exact hnf _ rfl
 rw [qP (he.trans hf.symm)]
 refine wpAny_bind (wpAny_frameOf_fun hfr hl hf fun h1 hs1=>wpAny_bind (wpAny_entryPlaceOf fun pl hpl=>?_))
 unfold EntryCells.newEntry newFields
 refine wpAny_bind (wpAny_newObj_type ?_ (hpl.sizeOk5 _ _ _ _ _))
 have hz:h1.objs.size = s.heap.objs.size:=hs1.1
 have hx1:h1.get? x = some (xog C dx t tb cx kx):=(hs1.2.1 x hxf).trans hx
 generalize ho:({ cls:=.type "traceback",dict:=none,data:=.fields ([head,.ref L,.none,rawInt L,.none] ++ (if pl.isEmpty then List.replicate 6 Value.none else pl)).toArray }:Obj) = ob
 have hx2:(h1.push ob).get? x = some (xog C dx t tb cx kx):=Heap.get?_push_of_some _ hx1
 refine wpAny_setField hx2 rfl (by show 1 < 6; decide) ?_
 have hne:h1.objs.size ≠ x:=Nat.ne_of_gt (Heap.lt_size hx1)
 have hx3:((h1.push ob).update x (Obj.mapFields (·.setIfInBounds 1 (Value.ref h1.objs.size)))).get? x = some (xog C dx t (.ref h1.objs.size) cx kx) :=
  Heap.get?_update_self (Obj.mapFields (·.setIfInBounds 1 (Value.ref h1.objs.size))) hx2 rfl
 have hT:((h1.push ob).update x (Obj.mapFields (·.setIfInBounds 1 (Value.ref h1.objs.size)))).get? h1.objs.size = some ob :=
  (Heap.get?_update_other _ _ (Ne.symm hne)).trans (Heap.get?_push_size h1 (by rw [<- ho]; rfl))
 rw [hz] at hx3 hT hne
 have kp:∀ b o,b ≠ x -> h1.get? b = some o -> ((h1.push ob).update x (Obj.mapFields (·.setIfInBounds 1 (Value.ref h1.objs.size)))).get? b = some o:=fun b o hb e =>
  (Heap.get?_update_other _ _ (Ne.symm hb)).trans (Heap.get?_push_of_some _ e)
 rw [hz] at kp ⊢
 refine h _ ob _ hx3 hne hT (by rw [<- ho]) (by simp only [List.size_toArray,List.length_append,List.length_cons,List.length_nil] <;> omega) (fun b o hb hbf e=>kp b o hb ((hs1.2.1 b hbf).trans e)) fun b o hb e=>?_
 obtain ⟨sl,q⟩:=hs1.2.2 b o e
 exact ⟨sl,kp b _ hb q⟩
theorem kE {tb:Value} {Q:Unit -> Shared -> Prop} (hfr:A.frames = some (env0 :: outer)) (hl:s.heap.FunFrames base (env0 :: outer)) (hf:env0.frame = some L) (he:env.frame = some L)
  (hx:s.heap.get? x = some (xog C dx t tb cx kx)) (htb:VN s.heap x tb)
  (h:∀ h' T oT ts,h'.get? x = some (xog C dx t (.ref T) cx kx) -> T ≠ x -> (tb = .ref T \/ s.heap.objs.size <= T) -> h'.get? T = some oT -> oT.data = .fields ts -> 3 < ts.size ->
   (∀ b o,b ≠ x -> tb ≠ .ref b -> b ∉ frs (env0 :: outer) -> s.heap.get? b = some o -> h'.get? b = some o) -> (∀ b o,b ≠ x -> tb ≠ .ref b -> s.heap.get? b = some o -> ∃ sl,h'.get? b = some { o with slots:=sl }) -> Q () { s with heap:=h' }) :
  wpAny M A (noteFrame (.ref x) env) (fun _ s1=>wpAny M A (setFlight (.ref x) none) Q E s1) E s:=by
 have land:∀ (h1:Heap) (T:Addr) (oT:Obj) (ts:Array Value),h1.get? x = some (xog C dx t (.ref T) cx kx) -> T ≠ x -> (tb = .ref T \/ s.heap.objs.size <= T) -> h1.get? T = some oT -> oT.data = .fields ts -> 3 < ts.size ->
   (∀ b o,b ≠ x -> tb ≠ .ref b -> b ∉ frs (env0 :: outer) -> s.heap.get? b = some o -> h1.get? b = some o) -> (∀ b o,b ≠ x -> tb ≠ .ref b -> s.heap.get? b = some o -> ∃ sl,h1.get? b = some { o with slots:=sl }) ->
   wpAny M A (setFlight (.ref x) none) Q E { s with heap:=h1 }:=fun h1 T oT ts e1 nT oldT e2 d2 z2 k1 k2=>by
  unfold setFlight
  refine wpAny_bind (wpAny_field (s:={ s with heap:=h1 }) e1 rfl (x:=.ref T) rfl ?_)
  rw [if_pos (show (Value.ref T != Value.none) = true from by simp)]
  refine wpAny_setField (s:={ s with heap:=h1 }) e2 d2 z2 ?_
  have d3:=Obj.data_mapFields d2 (·.setIfInBounds 3 ((none:Option Addr).elim Value.none fun f=>rawInt f))
  have nb:∀ b,b ≠ x -> tb ≠ .ref b -> (∃ o,s.heap.get? b = some o) -> b ≠ T:=fun b hb hbt ⟨o,eo⟩ z=>by
   subst z
   rcases oldT with q | q
   ·exact hbt q
   ·exact absurd (Heap.lt_size eo) (Nat.not_lt.mpr q)
  refine h _ T _ _ ((Heap.get?_update_other _ _ nT).trans e1) nT oldT (Heap.get?_update_self _ e2 (Obj.isFreed_of_fields d3)) d3 (by simpa using z2) (fun b o hb hbt hbf e=>?_) fun b o hb hbt e=>?_
  ·exact (Heap.get?_update_other _ _ (Ne.symm (nb b hb hbt ⟨o,e⟩))).trans (k1 b o hb hbt hbf e)
  ·obtain ⟨sl,q⟩:=k2 b o hb hbt e
   exact ⟨sl,(Heap.get?_update_other _ _ (Ne.symm (nb b hb hbt ⟨o,e⟩))).trans q⟩
 unfold noteFrame
 simp only [he]
 refine wpAny_bind (wpAny_field hx rfl (x:=tb) rfl ?_)
 rcases htb with rfl | ⟨T,oT,ts,rfl,nT,e2,d2,z2⟩
 ·rw [if_neg (by decide)]
  refine Z4 hfr hl hf he hx fun h' oT ts e1 ne e2 d2 z2 k1 k2=>land h' _ oT ts e1 ne (.inr (Nat.le_refl _)) e2 d2 z2 (fun b o hb _ hbf e=>k1 b o hb hbf e) fun b o hb _ e=>k2 b o hb e
 ·rw [if_pos (show (Value.ref T != Value.none) = true from by simp)]
  obtain ⟨y,hy⟩:∃ y,ts[3]? = some y:=⟨ts[3],by simp [z2]⟩
  refine wpAny_bind (wpAny_field e2 d2 (x:=y) hy ?_)
  by_cases c:(y == rawInt L) = true
  ·rw [if_pos c]
   exact wpAny_pure (land s.heap T oT ts hx nT (.inl rfl) e2 d2 z2 (fun b o _ _ _ e=>e) fun b o _ _ e=>⟨o.slots,e⟩)
  ·rw [if_neg c]
   refine wpAny_bind (wpAny_setField e2 d2 z2 ?_)
   have oth:∀ b,b ≠ T -> (s.heap.update T (Obj.mapFields (·.setIfInBounds 3 Value.none))).get? b = s.heap.get? b:=fun b hb=>Heap.get?_update_other _ _ (Ne.symm hb)
   have hl1:(s.heap.update T (Obj.mapFields (·.setIfInBounds 3 Value.none))).FunFrames base (env0 :: outer):=hl.of_keeps fun b o hb hnf=>⟨o,(oth b fun q=>by rw [q,e2] at hb; cases hb; exact hnf ts d2).trans hb,rfl⟩
   have hsz:(s.heap.update T (Obj.mapFields (·.setIfInBounds 3 Value.none))).objs.size = s.heap.objs.size:=Heap.size_update ..
   refine Z4 (s:={ s with heap:=s.heap.update T (Obj.mapFields (·.setIfInBounds 3 Value.none)) }) hfr hl1 hf he ((oth x (Ne.symm nT)).trans hx) fun h' oT' ts' e1 ne e2' d2' z2' k1 k2=>?_
   refine land h' _ oT' ts' e1 ne (.inr (by rw [hsz]; exact Nat.le_refl _)) e2' d2' z2' (fun b o hb hbt hbf e=>k1 b o hb hbf ((oth b fun q=>hbt (by rw [q])).trans e)) fun b o hb hbt e=>k2 b o hb ((oth b fun q=>hbt (by rw [q])).trans e)
theorem Vx {tb:Value} {Q:Unit -> Shared -> Prop} (hfr:A.frames = some (env0 :: outer)) (hl:s.heap.FunFrames base (env0 :: outer)) (hf:env0.frame = some L) (he:env.frame = some L)
  (hx:s.heap.get? x = some (xog C dx t tb cx kx)) (htb:VN s.heap x tb)
  (h:∀ h' T oT ts,h'.get? x = some (xog C dx t (.ref T) cx kx) -> T ≠ x -> (tb = .ref T \/ s.heap.objs.size <= T) -> h'.get? T = some oT -> oT.data = .fields ts -> 3 < ts.size ->
   (∀ b o,b ≠ x -> tb ≠ .ref b -> b ∉ frs (env0 :: outer) -> s.heap.get? b = some o -> h'.get? b = some o) -> (∀ b o,b ≠ x -> tb ≠ .ref b -> s.heap.get? b = some o -> ∃ sl,h'.get? b = some { o with slots:=sl }) -> Q () { s with heap:=h' }) :
  wpAny M A (leaving env (.ref x)) Q E s:=wpAny_bind (kE hfr hl hf he hx htb h)
end
def CXx (P:Program) (w:World):CXT:=fun outer H s E e s'=>∃ (x C t:Addr) (dx:Option Addr) (tb:Value) (H':Hp),e = .ref x /\ s'.os = s.os /\ AllBare s'.gens /\ Un (frs outer) [] H H' s.heap s'.heap /\ HOk P w H' s'.heap /\
 s'.heap.get? x = some (xob C dx t tb) /\ VN s'.heap x tb /\ H' x = none /\ s.heap.objs.size <= x /\ (∀ T,tb = .ref T -> H' T = none /\ s.heap.objs.size <= T) /\ E (.ref C) dx H'
def QM (X:Cx) (E:XK) (e:Value) (s:Shared):Prop:=∃ (pins:List (Addr × Obj)) (σ:St) (H:Hp) (x C t:Addr) (dx:Option Addr) (tb:Value),e = .ref x /\ Inv X pins σ H s /\
 s.heap.get? x = some (xob C dx t tb) /\ VN s.heap x tb /\ wZ X pins H x /\ (∀ T,tb = .ref T -> wZ X pins H T) /\ E (.ref C) dx H
def XE (X:Cx) (E:XK):Prop:=∀ e s,QM X E e s -> X.xe e s
theorem qy {X:Cx} {E:XK} (hx:XE X E):vA (CXx X.prog X.w) X E:=by
 intro pins σ H s e s' I h
 obtain ⟨x,C,t,dx,tb,H',rfl,os,bare,un,hok,ob,tr,hn,hsz,hT,q⟩:=h
 have I':Inv X pins σ H' s':=I.call' os un hok bare fun b z=>absurd z (by simp)
 exact hx _ _ ⟨pins,σ,H',x,C,t,dx,tb,rfl,I',ob,tr,I.fpOk hsz hn,fun T e=>I.fpOk (hT T e).2 (hT T e).1,q⟩
theorem UL {P:Program} {w:World} {K:PySem.W.Frag} {mg:Str -> Option Value} {base:Heap} {N:List Str} {qual:Str} {scope:Scope} {f:Addr} {cd:Value} {A:Around} {outer:List Env} {s:Shared} {H:Hp} {E:XK} :
  XE (ul (CXx P w) P w K mg base N qual scope f cd A outer s H E) E:=by
 intro e s1 h
 obtain ⟨pins,σ,H1,x,C,t,dx,tb,rfl,I,ob,tr,fx,fT,q⟩:=h
 show wpAny _ _ (leaving _ (.ref x)) _ _ s1
 have ff:=I.stack
 refine Vx (A:=(ul (CXx P w) P w K mg base N qual scope f cd A outer s H E).A) (env0:=envOfC qual scope s.heap.objs.size f cd) (outer:=outer) I.ok.frames ff rfl rfl ob tr fun h' T oT ts e1 nT oldT e2 d2 z2 k1 k2=>?_
 have szs:s.heap.objs.size <= s1.heap.objs.size:=I.sz
 have hxs:s.heap.objs.size <= x:=by
  rcases fx.2.2.2.1 with z | z
  ·exact absurd z (by simp [ul])
  ·exact z
 have hTs:s.heap.objs.size <= T /\ H1 T = none:=by
  rcases oldT with z | z
  ·obtain ⟨a0,_,_,a3,_⟩:=fT T z
   rcases a3 with y | y
   ·exact absurd y (by simp [ul])
   ·exact ⟨y,a0⟩
  ·exact ⟨Nat.le_trans szs z,I.hok.fresh z⟩
 have tbs:∀ b,tb = .ref b -> s.heap.objs.size <= b /\ H1 b = none:=fun b hb=>by
  obtain ⟨a0,_,_,a3,_⟩:=fT b hb
  rcases a3 with y | y
  ·exact absurd y (by simp [ul])
  ·exact ⟨y,a0⟩
 have old:∀ b o,s.heap.get? b = some o -> b ≠ x /\ tb ≠ .ref b:=fun b o e=>by
  have hb:=Heap.lt_size e
  refine ⟨Nat.ne_of_lt (Nat.lt_of_lt_of_le hb hxs),fun z=>?_⟩
  exact absurd (Nat.lt_of_lt_of_le hb (tbs b z).1) (Nat.lt_irrefl _)
 have un:Un (frs outer) [] H H1 s.heap h':=by
  have B:=I.base
  refine ⟨fun b o e n hb _=>?_,fun b o e n hb _=>?_,fun b o e n _=>B.free b o e n (by simp [ul]),fun b o e _=>?_,B.tups,B.frzs,B.tbls⟩
  ·have e1:=B.keep b o e n hb (by simp [ul])
   refine k1 b o (old b o e).1 (old b o e).2 (fun z=>?_) e1
   have z':=I.stkSub b z
   rcases List.mem_cons.mp z' with q | q
   ·exact absurd q (Nat.ne_of_lt (Nat.lt_of_lt_of_le (Heap.lt_size e) I.ok.above))
   ·exact hb q
  ·obtain ⟨sl,e1⟩:=B.slot b o e n hb (by simp [ul])
   obtain ⟨sl',e2⟩:=k2 b _ (old b o e).1 (old b o e).2 e1
   exact ⟨sl',e2⟩
  ·obtain ⟨o',e1⟩:=B.there b o e (by simp [ul])
   obtain ⟨sl',e2⟩:=k2 b _ (old b o e).1 (old b o e).2 e1
   exact ⟨_,e2⟩
 have hok:HOk P w H1 h':=fun b u e=>by
  refine (I.hok b u e).stay (fun c v hc q=>k1 c v ?_ ?_ ?_ q) (fun _ q=>q) fun _ _ q=>q
  ·rintro rfl
   rcases hc with rfl | hc
   ·rw [fx.1] at e; cases e
   ·rw [fx.1] at hc; cases hc
  ·intro z
   have:=(tbs c z).2
   rcases hc with rfl | hc
   ·rw [this] at e; cases e
   ·rw [this] at hc; cases hc
  ·intro z
   have:=I.stkFree c z
   rcases hc with rfl | hc
   ·rw [this] at e; cases e
   ·rw [this] at hc; cases hc
 exact ⟨x,C,t,dx,.ref T,H1,rfl,I.os,I.bare,un,hok,e1,.inr ⟨T,oT,ts,rfl,nT,e2,d2,z2⟩,fx.1,hxs,fun T' z=>by cases z; exact ⟨hTs.2,hTs.1⟩,q⟩
theorem Fun.okX {P:Program} {w:World} {K:PySem.W.Frag} {mg:Str -> Option Value} {base:Heap} {x qual:Str} {st:Stmt} {f:Addr} {fd:FuncData} {N ps:List Str} {k:Nat} {sp:Sp} (F:Fun K x qual st f fd) (S:zo N ps (zb st)) (len:∀ vs H Q E,sp vs H Q E -> vs.length = ps.length)
  (hbody:∀ (cdv:Value) (A:Around) (outer:List Env) (s:Shared) (H:Hp) (vs:List V) (Q:VK) (E:XK),Room k (A.deeper (envOfC qual (zb st) s.heap.objs.size f cdv)) -> XE (ul (CXx P w) P w K mg base N qual (zb st) f cdv A outer s H E) E -> sp vs H Q E ->
   ∃ t,PSs (ul (CXx P w) P w K mg base N qual (zb st) f cdv A outer s H E) (zj st) t /\ t { nx:=fun _ H'=>Q .non H',rt:=Q } (start N vs) H):FnOk P w K mg base (CXx P w) (k + 1) f fd ps sp:=by
 obtain ⟨oc,od,kV,doc,pm,an,cdv,ct,osl,rfl,lk,hcd⟩:=F.ex
 exact WX lk hcd S len fun A outer s H vs Q E hr hsp=>hbody cdv A outer s H vs Q E hr UL hsp
def UT (X:Cx) (E:XK) (e:Value) (s:Shared):Prop:=∃ (cx:Value) (kx:Bool) (pins:List (Addr × Obj)) (σ:St) (H:Hp) (x C t:Addr) (dx:Option Addr) (tb:Value),e = .ref x /\ Inv X pins σ H s /\
 s.heap.get? x = some (xog C dx t tb cx kx) /\ VN s.heap x tb /\ wZ X pins H x /\ (∀ T,tb = .ref T -> wZ X pins H T) /\ E (.ref C) dx H
def XEg (X:Cx) (E:XK):Prop:=∀ e s,UT X E e s -> X.xe e s
end L3
namespace L3
open PySem PySem.Spec PyProof.Rows L2
structure RoomH (k:Nat) (A:Around):Prop where
 dp:A.depth + 3 * k + 5 < recursionLimit
 un:A.units + 16 * k + 200 < cLine
theorem RoomH.mark {k:Nat} {A:Around} (r:RoomH k A) (e:Option Value):RoomH k (A.mark e):=⟨r.dp,r.un⟩
def cxH (P:Program) (w:World) (K:PySem.W.Frag) (mg:Str -> Option Value) (base:Heap) (N:List Str) (qual:Str) (scope:Scope) (f:Addr) (cd:Value) (A:Around) (outer:List Env) (s:Shared) (H:Hp):Cx :=
 { ul CX0 P w K mg base N qual scope f cd A outer s H E0 with calm:=false,xe:=fun _ _=>False }
section
variable {X:Cx} {k:Nat} {f:Addr} {fd:FuncData} {ps:List Str} {sp:Sp} {x:Str} {p pos:Pos} {e:Expr} {es:List Expr} {t:TA}
end
end L3
namespace L3
open PySem PySem.Spec PyProof.Rows L2
abbrev bmV:List Value:=[.type "ValueError",.type "Exception",.type "BaseException",.type "object"]
def jb (K:PySem.W.Frag) (C:Addr):Bool:=match K.lookup C with
 | some ⟨.type "type",_,.cls cd,sl⟩=>(match cd.mro,sl.toList with
  | .ref C' :: bm,[_,_,_,_,some (.builtin n),_]=>C' == C && (n == "ValueError.__new__" && (!cd.hasDel && (cd.hasDict && PySem.W.tailIn K bmV bm)))
  | _,_=>false)
 | _=>false
theorem wL {K:PySem.W.Frag} {C:Addr} (q:jb K C = true):∃ bm N nm qn bs sn sub ab col dd k0 k1 k2 k3 k5,K.lookup C = some (excClassObj nm qn C N bs bm true sn sub ab col dd k0 k1 k2 k3 k5 "ValueError.__new__") /\ ∀ h:Heap,K.In h -> OwnTail h bmV bm:=by
 unfold jb at q
 split at q
 ·rename_i dd cd sl ho
  split at q
  ·rename_i C' bm k0 k1 k2 k3 n k5 hm hs
   simp only [Bool.and_eq_true,beq_iff_eq,Bool.not_eq_true'] at q
   obtain ⟨rfl,rfl,hdel,hdct,ht⟩:=q
   obtain ⟨nm,bs,mro,ns,qn,hd,sn,sub,ab,col,del⟩:=cd
   dsimp only at hm hdel hdct
   subst hm hdel hdct
   have hsl:sl = #[k0,k1,k2,k3,some (.builtin "ValueError.__new__"),k5]:=by
    obtain ⟨l⟩:=sl
    simp only at hs
    rw [hs]
   subst hsl
   exact ⟨bm,ns,nm,qn,bs,sn,sub,ab,col,dd,k0,k1,k2,k3,k5,ho,fun h X=>PySem.W.tail_of_in X ht⟩
  ·cases q
 ·cases q
structure XC (K:PySem.W.Frag) (C:Addr):Prop where
 ok:jb K C = true
 sa:PySem.W.findIn K (.ref C) "__setattr__" = some (some (.builtin "object.__setattr__"))
 ga:PySem.W.findIn K (.ref C) "__getattribute__" = some (some (.builtin "BaseException.__getattribute__"))
 gt:PySem.W.findIn K (.ref C) "__getattr__" = some none
 kp:PySem.W.keepIn K (.ref C) = true
section
variable {prog:Program} {w:World} {A:Around} {R:Result -> Shared -> Prop} {h:Heap} {g:Array GenState} {d:Drawn} {t:Nat} {os:OsState} {K:PySem.W.Frag} {C:Addr}
theorem kK {init:Value} {rest:List Value} (X:K.In h) (q:jb K C = true) (hi:PySem.W.findIn K (.ref C) "__init__" = some (some init))
  (hb:∀ self,PySem.W.Looks (model prog w) h (bindSpecial init self) (init,[self])) (hrest:rest.length <= sizeLine)
  (hq:codeAny (model prog w) (A.under (.builtin "type.__call__" ⟨.ref C :: rest,[]⟩)) (.call init ⟨.ref (h.objs.size + 1) :: rest,[]⟩) (PySem.W.InitBack (h.objs.size + 1) R) ⟨(h.push { cls:=.type "tuple",data:=.seq rest.toArray }).push (xob C none h.objs.size .none),g,d,t,os⟩) :
  codeAny (model prog w) A (.call (.ref C) ⟨rest,[]⟩) R ⟨h,g,d,t,os⟩:=by
 obtain ⟨bm,N,nm,qn,bs,sn,sub,ab,col,dd,k0,k1,k2,k3,k5,lk,tl⟩:=wL q
 have hC:=X _ _ lk
 have T:=tl h X
 have F:=PySem.F.excBase_ValueError
 have f1:=tc_lookup
 have f2:=tc_bind (.ref C)
 have hT:(⟨h,g,d,t,os⟩:Shared).TypeIs (.ref C) "type":=⟨_,hC,rfl⟩
 refine codeAny_of_tree ?_
 show wpAny _ _ (callAny (.ref C) _) _ _ _
 repeat (any_goals (first | assumption | with_reducible refine wpAny_loadPart_at hC ?_ | wp_step))
 refine ⟨rfl,?_⟩
 refine codeAny_call_builtin_at (Code.quiet_builtin _ (by decide +kernel)) entry_typeCall (wpAny_check_type_call_sub hC ?_)
 repeat (first | with_reducible refine wpAny_loadPart_at hC ?_ | with_reducible refine wpAny_madeBy_exc hC ?_ | wp_step)
 refine codeAny_call_builtin_code (Code.quiet_builtin _ F.quiet) (wpAny_check_new_subT F T hC ?_)
 refine codeAny_exc_new_subT F T hC ?_ hrest
 show wpAny _ _ _ _ _ _
 have k:∀ b o,h.get? b = some o -> ((h.push { cls:=.type "tuple",data:=.seq rest.toArray }).push (xob C none h.objs.size .none)).get? b = some o:=fun b o e=>Heap.get?_push_of_some _ (Heap.get?_push_of_some _ e)
 have hC1:=k _ _ hC
 have hget:((h.push { cls:=.type "tuple",data:=.seq rest.toArray }).push (xob C none h.objs.size .none)).get? (h.objs.size + 1) = some (xob C none h.objs.size .none):=by heap_get
 have hcC:(Value.ref C :: bm).contains (.ref C) = true:=by simp
 unfold isInstance
 repeat (first | with_reducible refine wpAny_loadPart_at hget ?_ | wp_step)
 refine wpAny_isSubtype_exc (C:=C) hC1 ?_
 rw [hcC]
 repeat wp_step
 show wpAny _ _ (typeLookup (.ref C) _) _ _ _
 refine ((PySem.W.looks_findIn X hi).keeps k).at ?_
 refine wpAny_holding (wpAny_bind (((hb _).keeps k).at ?_))
 refine wpAny_bind (wpAny_call (codeAny_mono hq fun r s' z=>?_))
 rcases r with e | (v | _ | _ | _) <;> first | exact z | exact z.elim | skip
 obtain ⟨rfl,z⟩:=z
 exact wpAny_pure (wpAny_pure z)
end
end L3
namespace L3
open PySem PySem.Spec PyProof.Rows L2
def XN (x C:Addr) (dx:Option Addr):HO:=.ext fun h=>∃ t,h.get? x = some (xob C dx t .none)
def XT (x C:Addr) (dx:Option Addr):HO:=.ext fun h=>∃ t tb c k,h.get? x = some (xog C dx t tb c k)
def XP (x C:Addr) (dx:Option Addr):HO:=.ext fun h=>∃ t tb,h.get? x = some (xob C dx t tb)
theorem UF {P:Program} {w:World} {H:Hp} {h:Heap} {x C t:Addr} {dx:Option Addr} (e:h.get? x = some (xob C dx t .none)):ObjOk P w H h x (XN x C dx) :=
 ⟨⟨t,e⟩,⟨_,e⟩,fun h1 h2 ⟨t,q⟩ k=>⟨t,k _ q⟩⟩
theorem QJ {P:Program} {w:World} {H:Hp} {h:Heap} {x C t:Addr} {dx:Option Addr} {tb c:Value} {k:Bool} (e:h.get? x = some (xog C dx t tb c k)):ObjOk P w H h x (XT x C dx) :=
 ⟨⟨t,tb,c,k,e⟩,⟨_,e⟩,fun h1 h2 ⟨t,tb,c,k',q⟩ k=>⟨t,tb,c,k',k _ q⟩⟩
theorem UH {P:Program} {w:World} {H:Hp} {h:Heap} {x C:Addr} {dx:Option Addr} (o:ObjOk P w H h x (XN x C dx)):∃ t,h.get? x = some (xob C dx t .none):=o.1
theorem QZ {P:Program} {w:World} {H:Hp} {h:Heap} {x C:Addr} {dx:Option Addr} (o:ObjOk P w H h x (XT x C dx)):∃ t tb c k,h.get? x = some (xog C dx t tb c k):=o.1
section
variable {nm q:Str} {C N:Addr} {bs bm:List Value} {hdct:Bool} {sn:List Str} {sub:List Value} {ab:Bool} {col:Option Bool} {dd:Option Addr} {k0 k1 k2 k3 k5:Option Value} {newId:String} {h:Heap} {M:Model}
theorem jj (hC:h.get? C = some (excClassObj nm q C N bs bm hdct sn sub ab col dd k0 k1 k2 k3 k5 newId)) (base:Value):PySem.W.Looks M h (isSubtype (.ref C) base) ((Value.ref C :: bm).contains base):=fun A Q E s k z=>by
 obtain ⟨hp,g,d,t,os⟩:=s
 exact wpAny_isSubtype_exc (k _ _ hC) z
theorem Yf (hC:h.get? C = some (excClassObj nm q C N bs bm hdct sn sub ab col dd k0 k1 k2 k3 k5 newId)):PySem.W.Looks M h (mroOf (.ref C)) (.ref C :: bm):=fun A Q E s k z=>by
 obtain ⟨hp,g,d,t,os⟩:=s
 exact wpAny_mroOf_exc (k _ _ hC) z
theorem Y1 (hC:h.get? C = some (excClassObj nm q C N bs bm hdct sn sub ab col dd k0 k1 k2 k3 k5 newId)):PySem.W.Looks M h (classData C) { name:=nm,bases:=bs,mro:=.ref C :: bm,ns:=N,qualname:=q,hasDict:=hdct,slotNames:=sn,subclasses:=sub,abstract:=ab,collection:=col,hasDel:=false }:=fun A Q E s k z=>by
 unfold classData
 exact wpAny_bind (wpAny_load (k _ _ hC) (wpAny_pure z))
theorem jT {bmB bm:List Value} (T:OwnTail h bmB bm) (self:Value) (hp:refuseLoop self "__setattr__" bmB = pure ()):refuseLoop self "__setattr__" bm = pure ():=by
 induction T with
 | base=>exact hp
 | own _ _ _ _ ih=>rw [refuseLoop_ref]; exact ih
end
section
variable {X:Cx} {pins:List (Addr × Obj)} {σ:St} {H:Hp} {s:Shared} {A:Around} {E:Value -> Shared -> Prop} {x C:Addr} {f:Str} {y:V} {u:Value}
theorem Vc {Q:Unit -> Shared -> Prop} (I:Inv X pins σ H s) (e:H x = some (XN x C none)) (xc:XC X.K C) (n:NoAttr X.K C f) (ry:RelV y u)
  (h:∀ s' dx,H dx = none -> Inv X pins σ (upd (upd H dx (.xd [(f,y)])) x (XN x C (some dx))) s' -> Q () s'):wpAny (model X.prog X.w) A (setAttr (.ref x) f u) Q E s:=by
 obtain ⟨t,ob⟩:=UH (I.hok x _ e)
 obtain ⟨bm,N,nm,qn,bs,sn,sub,ab,col,dd,k0,k1,k2,k3,k5,lk,tl⟩:=wL xc.ok
 have hC:=I.kIn _ _ lk
 have T:=tl _ I.kIn
 have SF:=PySem.F.store_ValueError
 have J:PySem.W.InstAt s.heap x (xob C none t .none) C none:=⟨ob,rfl,rfl,trivial⟩
 have hob:(Value.ref C :: bm).contains (.type "object") = true:=by rw [List.contains_cons,T.hasType (show bmV.contains (.type "object") = true by decide +kernel),Bool.or_true]
 have isO:PySem.W.Looks (model X.prog X.w) s.heap (isInstance (.ref x) (.type "object")) true:=J.type.andThen (by have:=jj (M:=model X.prog X.w) hC (.type "object"); rw [hob] at this; exact this)
 refine PySem.W.set_plain I.kIn J xc.sa ?_
 refine codeAny_call_builtin SF.slot.plain SF.entry (@PySem.W.check_slot (model X.prog X.w) _ _ { s with toks:=s.toks + 1 } "object.__setattr__" "object" "__setattr__" (.ref x) [.str f s.toks,u] [] _ SF.kind SF.split isO (SF.args _ _ _) ?_)
 rw [PySem.W.osa_eq,refuse_eq]
 refine wpAny_bind (wpAny_bind (J.type.here (s:={ s with toks:=s.toks + 1 }) (wpAny_bind ((Yf hC).here (s:={ s with toks:=s.toks + 1 }) ?_))))
 rw [refuseLoop_ref,jT T _ (SF.passes _)]
 refine wpAny_pure (wpAny_bind (J.type.here (s:={ s with toks:=s.toks + 1 }) (wpAny_bind ((PySem.W.looks_findIn I.kIn n).here (s:={ s with toks:=s.toks + 1 }) (wpAny_bind (wpAny_pure ?_))))))
 show wpAny _ _ (Builtin.ObjectAttr.storeInOwnDict (.ref x) (.ref C) (.str f s.toks) f u false) _ _ _
 have hx1:(s.heap.push { cls:=.type "dict",data:=.dict #[] }).get? x = some (xob C none t .none):=Heap.get?_push_of_some _ ob
 have hxs:x ≠ s.heap.objs.size:=Nat.ne_of_lt (Heap.lt_size ob)
 refine wpAny_bind (wpAny_pure (wpAny_bind (wpAny_bind (wpAny_loadPart ob (wpAny_bind ((Y1 hC).here (s:={ s with toks:=s.toks + 1 }) ?_))))))
 rw [if_neg (by simp)]
 show wpAny _ _ (if (!true || !typeHasDict (.ref C)) = true then _ else _) _ _ _
 rw [if_neg (by simp [typeHasDict])]
 have hgd:((s.heap.push { cls:=.type "dict",data:=.dict #[] }).update x fun o=>{ cls:=o.cls,dict:=some s.heap.objs.size,data:=o.data,slots:=o.slots }).get? s.heap.objs.size = some { cls:=.type "dict",data:=.dict #[] } :=
  (Heap.get?_update_other _ _ hxs).trans (Heap.get?_push_at rfl rfl)
 have hgx:((s.heap.push { cls:=.type "dict",data:=.dict #[] }).update x fun o=>{ cls:=o.cls,dict:=some s.heap.objs.size,data:=o.data,slots:=o.slots }).get? x = some (xob C (some s.heap.objs.size) t .none) :=
  Heap.get?_update_self _ hx1 rfl
 have hnd:((s.heap.push { cls:=.type "dict",data:=.dict #[] }).update x fun o=>{ cls:=o.cls,dict:=some s.heap.objs.size,data:=o.data,slots:=o.slots }).Ns s.heap.objs.size (fun _=>none) :=
  ⟨_,#[],_,hgd,rfl,fun e he=>absurd he (by simp),fun _=>rfl⟩
 refine wpAny_bind (wpAny_alloc' (wpAny_bind (wpAny_update' hx1 (wpAny_pure ?_))))
 show wpAny _ _ (Builtin.ObjectAttr.storeInDict s.heap.objs.size (.str f s.toks) f u) _ _ _
 unfold Builtin.ObjectAttr.storeInDict Builtin.ObjectAttr.newKeyGuard
 refine wpAny_bind (wpAny_pure (wpAny_bind (wpAny_nsSet1 (Heap.Ns1.of_empty hnd) fun h' hn' hs=>?_)))
 obtain ⟨oD,esD,epD,hoD,hdD,hcD⟩:=hn'.count (Within.cons f u Within.nil)
 refine wpAny_bind (wpAny_lookBehind hoD (by rw [hdD]; exact pastItsLine_dict (Nat.le_trans hcD (by rw [List.length_cons,List.length_nil,sizeLine_eq]; omega))) ?_)
 refine wpAny_pure ?_
 have hx2:h'.get? x = some (xob C (some s.heap.objs.size) t .none):=(hs.2 x hxs).trans hgx
 have hfr:H s.heap.objs.size = none:=I.hok.fresh (Nat.le_refl _)
 have hxe:x ≠ s.heap.objs.size:=hxs
 refine h _ s.heap.objs.size hfr ?_
 have k0:∀ b o,b ≠ x -> s.heap.get? b = some o -> h'.get? b = some o:=fun b o hb q =>
  (hs.2 b (Nat.ne_of_lt (Heap.lt_size q))).trans ((Heap.get?_update_other _ _ (Ne.symm hb)).trans (Heap.get?_push_of_some _ q))
 have I1:Inv X pins σ (upd H x (XN x C (some s.heap.objs.size))) { s with heap:=h',toks:=s.toks + 1 + 1 } :=
  I.write (x:=x) (e:=x) (by rw [e]; exact True.intro) (.inl rfl) k0 ⟨_,hx2⟩ (UF hx2)
 have hd2:ObjOk X.prog X.w (upd (upd H x (XN x C (some s.heap.objs.size))) s.heap.objs.size (.xd [(f,y)])) h' s.heap.objs.size (.xd [(f,y)]):=by
  refine ⟨_,hn',fun g=>?_⟩
  show RelO (List.lookup g [(f,y)]) (if g = f then some u else none)
  by_cases q:g = f
  ·subst q
   rw [if_pos rfl]
   simp [List.lookup,RelO,ry]
  ·rw [if_neg q]
   have q':(g == f) = false:=by simpa using q
   simp [List.lookup,q',RelO]
 have fd:wZ X pins (upd H x (XN x C (some s.heap.objs.size))) s.heap.objs.size:=I.fpOk (Nat.le_refl _) (by rw [zi (Ne.symm hxe)]; exact hfr)
 have I2:=Inv.track I1 fd hd2
 have eH:upd (upd H x (XN x C (some s.heap.objs.size))) s.heap.objs.size (.xd [(f,y)]) = upd (upd H s.heap.objs.size (.xd [(f,y)])) x (XN x C (some s.heap.objs.size)):=by
  funext b
  unfold upd
  by_cases b1:b = s.heap.objs.size
  ·subst b1
   rw [if_pos rfl,if_neg (Ne.symm hxe),if_pos rfl]
  ·by_cases b2:b = x
   ·subst b2
    rw [if_neg b1,if_pos rfl,if_pos rfl]
   ·rw [if_neg b1,if_neg b2,if_neg b2,if_neg b1]
 rw [eH] at I2
 exact I2
end
end L3
namespace L3
open PySem PySem.Spec PyProof.Rows L2
def WZ (K:PySem.W.Frag) (ta tv:TE) (f:Str):TS:=fun D σ H=>tv σ H fun y H1=>ta σ H1 fun o H2=>∃ x C,o = .ref x /\ H2 x = some (XN x C none) /\ XC K C /\ NoAttr K C f /\ ∀ dx,H2 dx = none -> D.nx σ (upd (upd H2 dx (.xd [(f,y)])) x (XN x C (some dx)))
section
variable {X:Cx} {o value:Expr} {f:Str} {pos pos':Pos} {ta tv:TE}
theorem YM (ha:PE X o ta) (hv:PE X value tv) (hs:swapsWith value (some (.Attribute o f pos')) pos.line X.env = pure false):PS X (.Assign [.Attribute o f pos'] value pos) (WZ X.K ta tv f):=by
 intro pins s σ H D I h
 refine plainObj_wpAny_Assign_Attribute (thn (hv pins s σ H _ I h) fun u s1 ⟨y,H1,I1,ry,q⟩=>thn (ha pins s1 σ H1 _ I1 q) fun ov s2 ⟨x',H2,I2,rx,x,C,ex,e,xc,n,q2⟩=>?_) hs
 subst ex
 obtain rfl:ov = Value.ref x:=rx
 exact Vc I2 e xc n ry fun s3 dx hdx I3=>⟨σ,_,I3,q2 dx hdx⟩
end
section
variable {M:Model} {A:Around} {E:Value -> Shared -> Prop} {s:Shared} {env:Env}
theorem Z3 {K:PySem.W.Frag} {x:Sem Value} {Q:Flow -> Shared -> Prop} (hh:A.handled = none)
  (h:wpAny M A x (fun v s1=>∃ e C t dx,v = .ref e /\ K.In s1.heap /\ jb K C = true /\ s1.heap.get? e = some (xob C dx t .none) /\ E (.ref e) s1) E s):wpAny M A (raiseStmt env (some x) none) Q E s:=by
 unfold raiseStmt
 refine wpAny_bind (thn h fun v s1 h1=>?_)
 obtain ⟨e,C,t,dx,rfl,X,hC,he,hE⟩:=h1
 obtain ⟨bm,N,nm,qn,bs,sn,sub,ab,col,dd,k0,k1,k2,k3,k5,lk,tl⟩:=wL hC
 have hCo:=X _ _ lk
 have T:=tl _ X
 have hcB:(Value.ref C :: bm).contains (.type "BaseException") = true:=by rw [List.contains_cons,T.hasType (show bmV.contains (.type "BaseException") = true by decide +kernel),Bool.or_true]
 obtain ⟨hp,g,d,tk,os⟩:=s1
 repeat (first | with_reducible refine wpAny_loadPart_at he ?_ | with_reducible refine wpAny_loadPart_at hCo ?_ | (with_reducible refine wpAny_isSubtype_exc hCo ?_; rw [hcB]) | wp_step)
 exact wpAny_raiseNew_none hh hE
theorem ZL {K:PySem.W.Frag} {e:Expr} {pos:Pos} {Q:Flow -> Shared -> Prop} (hh:A.handled = none)
  (h:wpAny M A (eval e env) (fun v s1=>∃ a C t dx,v = .ref a /\ K.In s1.heap /\ jb K C = true /\ s1.heap.get? a = some (xob C dx t .none) /\ E (.ref a) s1) E s):wpAny M A (exec (.Raise (some e) none pos) env) Q E s:=by
 rw [arm_exec_Raise]
 first
  | exact wpAny_bind (wpAny_standAt (Z3 hh (wpAny_bind (thn h fun v s1 h1=>wpAny_bind (wpAny_standAt (wpAny_pure h1))))))
  | (simp only [evalOpt,Option.map]; exact wpAny_bind (wpAny_standAt (Z3 hh (wpAny_bind (thn h fun v s1 h1=>wpAny_bind (wpAny_standAt (wpAny_pure h1)))))))
end
def del (H:Hp) (x:Addr):Hp:=fun b=>if b = x then none else H b
theorem Z6 {H:Hp} {x b:Addr} (h:b ≠ x):del H x b = H b:=if_neg h
theorem j4 {H:Hp} {x:Addr}:del H x x = none:=if_pos rfl
section
variable {X:Cx} {pins:List (Addr × Obj)} {σ:St} {H:Hp} {s:Shared}
theorem Inv.untrack {x:Addr} {φ:Heap -> Prop} (I:Inv X pins σ H s) (e:H x = some (.ext φ)) (hs:X.s₀.heap.objs.size <= x):Inv X pins σ (del H x) s:=by
 have nx:∀ b u,H b = some u -> (∀ ψ,u ≠ .ext ψ) -> b ≠ x:=fun b u q nu z=>by subst z; rw [e] at q; cases q; exact nu _ rfl
 have hn:∀ b,b ≠ x -> del H x b = H b:=fun b hb=>Z6 hb
 have es:s = { s with heap:=s.heap,gens:=s.gens,drawn:=s.drawn,toks:=s.toks }:=rfl
 rw [es]
 refine I.step (g':=s.gens) (d':=s.drawn) (ch:=[x]) (fun b hb=>?_) (fun b o _ _ _ q _=>q) (fun b o _ _ _ q _=>⟨o.slots,q⟩) (fun b o hc _ n=>?_)
  (fun b o _ q=>⟨o,q⟩) (fun b xs q=>?_) (fun b u xs q=>?_) (fun b ps q=>?_) (fun m hm=>hm) (fun b u q=>?_) I.bare
 ·have eb:b = x:=by simpa using hb
  subst eb
  refine ⟨.inr hs,fun z=>?_,fun y c q z=>?_,fun p hp z=>?_⟩
  ·rw [z,I.free] at e; cases e
  ·have:=I.freeC y c q; rw [z,e] at this; cases this
  ·have:=(I.pin p hp).2.1; rw [z,e] at this; cases this
 ·rw [hn b (by simpa using hc)]; exact n
 ·rw [hn b (nx b _ q fun _ z=>by cases z)]; exact q
 ·rw [hn b (nx b _ q fun _ z=>by cases z)]; exact q
 ·exact ⟨#[],by rw [hn b (nx b _ q fun _ z=>by cases z),q]; simp⟩
 ·by_cases hb:b = x
  ·subst hb
   rw [j4] at q
   cases q
  ·rw [hn b hb] at q
   exact (I.hok b u q).stay (fun c v _ z=>z) (fun c z=>by rw [hn c (nx c _ z fun _ y=>by cases y)]; exact z) fun c xs z=>by rw [hn c (nx c _ z fun _ y=>by cases y)]; exact z
theorem Zx {C:Addr} {us:List Value} {E:Value -> Shared -> Prop} {Q:Value -> Shared -> Prop} (I:Inv X pins σ H s) (xc:jb X.K C = true) (hi:PySem.W.findIn X.K (.ref C) "__init__" = some (some (.builtin "ValueError.__init__"))) (hl:us.length <= sizeLine)
  (h:∀ s' x t,s.heap.objs.size <= x -> Inv X pins σ H s' -> s'.heap.get? x = some (xob C none t .none) -> Q (.ref x) s'):wpAny (model X.prog X.w) X.A (call (.ref C) us) Q E s:=by
 have F:=PySem.F.excBase_ValueError
 obtain ⟨bm,N,nm,qn,bs,sn,sub,ab,col,dd,k0,k1,k2,k3,k5,lk,tl⟩:=wL xc
 have hC:=I.kIn _ _ lk
 have T:=tl _ I.kIn
 obtain ⟨hp,g,d,t,os⟩:=s
 have k:∀ b o,hp.get? b = some o -> ((hp.push { cls:=.type "tuple",data:=.seq us.toArray }).push (xob C none hp.objs.size .none)).get? b = some o:=fun b o e=>Heap.get?_push_of_some _ (Heap.get?_push_of_some _ e)
 refine wpAny_call (kK I.kIn xc hi (fun self=>PySem.W.Looks.of_pure (F.init.bind self)) hl ?_)
 have hget:((hp.push { cls:=.type "tuple",data:=.seq us.toArray }).push (xob C none hp.objs.size .none)).get? (hp.objs.size + 1) = some (xob C none hp.objs.size .none):=by heap_get
 refine codeAny_call_builtin F.init.plain F.initEntry (wpAny_check_init_subT F (T.keeps k) (k _ _ hC) hget rfl ?_)
 wp_walk
 refine ⟨rfl,h _ (hp.objs.size + 1) ((hp.push { cls:=.type "tuple",data:=.seq us.toArray }).push (xob C none hp.objs.size .none)).objs.size (Nat.le_succ _) (I.kept (t':=t) fun b o e=>?_) ?_⟩
 ·exact (Heap.get?_update_other _ _ (Nat.ne_of_gt (Nat.lt_succ_of_lt (Heap.lt_size e)))).trans (Heap.get?_push_of_some _ (k b o e))
 ·exact Heap.get?_update_self (Obj.mapFields fun x=>x.setIfInBounds 0 (Value.ref ((hp.push { cls:=.type "tuple",data:=.seq us.toArray }).push (xob C none hp.objs.size .none)).objs.size)) (Heap.get?_push_of_some _ hget) rfl
def YX (E:XK) (C:Addr) (t:TA):TS:=fun _ σ H=>t σ H fun vs H1=>vs.length <= sizeLine /\ E (.ref C) none H1
theorem yn {E:XK} {C:Addr} {cn:Str} {np cpos pos:Pos} {e:Expr} {es:List Expr} {t:TA} (hx:XE X E) (hc:X.calm = true) (xc:XC X.K C) (hi:PySem.W.findIn X.K (.ref C) "__init__" = some (some (.builtin "ValueError.__init__"))) (hg:Gl X cn) (hm:X.mg cn = some (.ref C)) (ha:PA X (e :: es) t)
  (hdb:(cn == ("__debug__" : Str)) = false:=by decide) (he:starEach (e :: es) X.env = (false,eval e X.env) :: starEach es X.env:=by rfl) (hpl:(backTo cpos (starEach es X.env)).any (·.1) = false:=by rfl) :
  PS X (.Raise (some (.Call (.Name cn np) (e :: es) [] cpos)) none pos) (YX E C t):=by
 intro pins s σ H D I h
 refine ZL (K:=X.K) (I.ok.hd hc) (wpAny_Call_Name_kw (wk I hg hm ?_ hdb))
 refine PySem.W.callWith_K (h₀:=X.base) I.ok.mod.kin xc.kp (thn (ha cpos pins s σ H _ I h) fun us s1 ⟨vs,H1,I1,r,z,q⟩=>⟨I1.kIn,?_⟩) he hpl
 refine Zx (us:=[] ++ us) I1 xc.ok hi (by show us.length <= sizeLine; rw [<- r.length]; exact z) fun s2 x t hz I2 ob=>⟨x,C,t,none,rfl,I2.kIn,xc.ok,ob,?_⟩
 exact hx _ _ ⟨pins,σ,H1,x,C,t,none,.none,rfl,I2,ob,.inl rfl,I1.fpOk hz (I1.hok.fresh hz),fun T z=>(by cases z),q⟩
theorem Y4 {A:Around} {C:Addr} {us:List Value} {k:Nat} (r:Room (k + 1) A):Room k (A.under (.builtin "type.__call__" ⟨.ref C :: us,[]⟩)):=r.make C us []
def YS (E:XK) (C:Addr) (sp:Sp) (t:TA):TS:=fun _ σ H=>t σ H fun vs H1=>vs.length <= sizeLine /\ ∀ x,H1 x = none -> sp (.ref x :: vs) (upd H1 x (XN x C none)) (fun v H2=>v = .non /\ ∃ dx,H2 x = some (XN x C dx) /\ E (.ref C) dx (del H2 x)) E0
theorem qO {E:XK} {C f:Addr} {fd:FuncData} {k:Nat} {ps:List Str} {sp:Sp} {cn:Str} {np cpos pos:Pos} {e:Expr} {es:List Expr} {t:TA} (hx:XE X E) (hc:X.calm = true) (xc:XC X.K C) (hi:PySem.W.findIn X.K (.ref C) "__init__" = some (some (.ref f))) (hfn:PySem.W.isFn X.K (.ref f) = true)
  (F:FnOk X.prog X.w X.K X.mg X.base CX0 k f fd ps sp) (hr:Room (k + 1) X.A) (hb:Binds X.K fd ps []) (hg:Gl X cn) (hm:X.mg cn = some (.ref C)) (ha:PA X (e :: es) t)
  (hdb:(cn == ("__debug__" : Str)) = false:=by decide) (he:starEach (e :: es) X.env = (false,eval e X.env) :: starEach es X.env:=by rfl) (hpl:(backTo cpos (starEach es X.env)).any (·.1) = false:=by rfl) :
  PS X (.Raise (some (.Call (.Name cn np) (e :: es) [] cpos)) none pos) (YS E C sp t):=by
 intro pins s σ H D I h
 refine ZL (K:=X.K) (I.ok.hd hc) (wpAny_Call_Name_kw (wk I hg hm ?_ hdb))
 refine PySem.W.callWith_K (h₀:=X.base) I.ok.mod.kin xc.kp (thn (ha cpos pins s σ H _ I h) fun us s1 ⟨vs,H1,I1,r,z,q⟩=>⟨I1.kIn,?_⟩) he hpl
 have hl:us.length <= sizeLine:=by rw [<- r.length]; exact z
 have ob:((s1.heap.push { cls:=.type "tuple",data:=.seq us.toArray }).push (xob C none s1.heap.objs.size .none)).get? (s1.heap.objs.size + 1) = some (xob C none s1.heap.objs.size .none):=by heap_get
 have hfr:H1 (s1.heap.objs.size + 1) = none:=I1.hok.fresh (Nat.le_succ _)
 have I2:Inv X pins σ (upd H1 (s1.heap.objs.size + 1) (XN (s1.heap.objs.size + 1) C none)) { s1 with heap:=(s1.heap.push { cls:=.type "tuple",data:=.seq us.toArray }).push (xob C none s1.heap.objs.size .none) } :=
  I1.laid (t':=s1.toks) (fun b o e=>Heap.get?_push_of_some _ (Heap.get?_push_of_some _ e)) (Nat.le_succ _) (UF ob)
 have q1:=q _ hfr
 have r2:Vals (V.ref (s1.heap.objs.size + 1) :: vs) (Value.ref (s1.heap.objs.size + 1) :: us):=.cons rfl r
 have hlen:(Value.ref (s1.heap.objs.size + 1) :: us ++ ([]:List Value)).length = ps.length:=by
  rw [List.append_nil,<- r2.length]
  exact F.len _ _ _ _ q1
 have hb2:=hb { s1 with heap:=(s1.heap.push { cls:=.type "tuple",data:=.seq us.toArray }).push (xob C none s1.heap.objs.size .none) } (Value.ref (s1.heap.objs.size + 1) :: us) I2.kIn hlen
 rw [List.append_nil] at hb2
 have run:=F.run _ X.stack _ _ ⟨Value.ref (s1.heap.objs.size + 1) :: us,[]⟩ (Value.ref (s1.heap.objs.size + 1) :: us) _ _ E0 (Y4 (C:=C) (us:=us) hr) (I2.env0.make C us []) hb2 r2 q1
 have sz0:X.s₀.heap.objs.size <= s1.heap.objs.size + 1:=Nat.le_trans I1.sz (Nat.le_succ _)
 show wpAny (model X.prog X.w) X.A (call (.ref C) us) _ X.xe s1
 refine wpAny_call ?_
 refine kK (h:=s1.heap) (g:=s1.gens) (d:=s1.drawn) (t:=s1.toks) (os:=s1.os) (rest:=us) I1.kIn xc.ok hi (fun self=>PySem.W.bind_fn I1.kIn self (beq_iff_eq.mp hfn)) hl (codeAny_mono run fun r s' hq=>?_)
 cases r with
 | error e=>exact False.elim hq
 | ok fl =>
  cases fl with
  | ret u =>
   obtain ⟨v,H',I3,rv,ev,dx,hx3,q3⟩:=I2.after hq
   subst ev
   refine ⟨rv,?_⟩
   obtain ⟨t,ob3⟩:=UH (I3.hok _ _ hx3)
   have I4:=Inv.untrack I3 hx3 sz0
   refine ⟨_,C,t,dx,rfl,I3.kIn,xc.ok,ob3,hx _ _ ⟨pins,σ,_,_,C,t,dx,.none,rfl,I4,ob3,.inl rfl,?_,fun T z=>(by cases z),q3⟩⟩
   exact I1.fpOk (Nat.le_succ _) j4
  | next=>exact False.elim hq
  | brk=>exact False.elim hq
  | cont=>exact False.elim hq
end
end L3
namespace L3
open PySem PySem.Spec PyProof.Rows L2
def WV (X:Cx) (pins:List (Addr × Obj)) (σ:St) (E:XK) (e:Value) (s:Shared):Prop:=∃ (cx:Value) (kx:Bool) (H:Hp) (x C t:Addr) (dx:Option Addr) (tb:Value),e = .ref x /\ Inv X pins σ H s /\
 s.heap.get? x = some (xog C dx t tb cx kx) /\ VN s.heap x tb /\ wZ X pins H x /\ (∀ T,tb = .ref T -> wZ X pins H T) /\ E (.ref C) dx H
abbrev TX:=St -> Hp -> VK -> XK -> Prop
def PEX (X:Cx) (e:Expr) (t:TX):Prop :=
 ∀ (pins:List (Addr × Obj)) (s:Shared) (σ:St) (H:Hp) (Q:VK) (E:XK),Inv X pins σ H s -> t σ H Q E -> wpAny (model X.prog X.w) X.A (eval e X.env) (EP X pins σ Q) (WV X pins σ E) s
section
variable {X:Cx}
variable {k:Nat} {f:Addr} {fd:FuncData} {ps:List Str} {sp:Sp} {dvs:List V} {ds:List Value} {x:Str} {p pos:Pos} {e:Expr} {es:List Expr} {t:TA}
theorem Wi (F:FnOk X.prog X.w X.K X.mg X.base (CXx X.prog X.w) k f fd ps sp) (hr:Room k X.A) (hg:Gl X x) (hm:X.mg x = some (.ref f)) (hk:PySem.W.keepIn X.K (.ref f) = true) (hb:Binds X.K fd ps ds) (hd:Vals dvs ds)
  (ha:PA X.nox (e :: es) t) (hdb:(x == ("__debug__" : Str)) = false:=by decide) (he:starEach (e :: es) X.env = (false,eval e X.env) :: starEach es X.env:=by rfl) (hpl:(backTo pos (starEach es X.env)).any (·.1) = false:=by rfl) :
  PEX X (.Call (.Name x p) (e :: es) [] pos) (fun σ H Q E=>t σ H fun vs H1=>sp (vs ++ dvs) H1 Q E):=by
 intro pins s σ H Q E I h
 refine wpAny_Call_Name_kw (wk I hg hm ?_ hdb)
 refine PySem.W.callWith_K (h₀:=X.base) I.ok.mod.kin hk (wpAny_noRaise (thn (ha pos pins s σ H _ (I.wish _) h) fun us s1 ⟨vs,H1,I1,r,q⟩=>⟨I1.kIn,?_⟩)) he hpl
 have I1':Inv X pins σ H1 s1:=I1.unwish
 have r2:Vals (vs ++ dvs) (us ++ ds):=r.append hd
 have hl:(us ++ ds).length = ps.length:=by rw [<- r2.length]; exact F.len _ _ _ _ q
 refine wpAny_call (codeAny_mono (F.run X.A X.stack s1 H1 ⟨us,[]⟩ (us ++ ds) (vs ++ dvs) Q E hr I1'.env0 (hb s1 us I1'.kIn hl) r2 q) fun r s' hq=>?_)
 cases r with
 | error e =>
  obtain ⟨x,C,t,dx,tb,H',rfl,os,bare,un,hok,ob,tr,hn,hsz,hT,q⟩:=hq
  exact ⟨.none,false,H',x,C,t,dx,tb,rfl,I1'.call' os un hok bare (fun b z=>absurd z (by simp)),ob,tr,I1'.fpOk hsz hn,fun T e=>I1'.fpOk (hT T e).2 (hT T e).1,q⟩
 | ok fl =>
  cases fl with
  | ret u=>exact I1'.after hq
  | next=>exact False.elim hq
  | brk=>exact False.elim hq
  | cont=>exact False.elim hq
end
abbrev Cx.suite (X:Cx) (e:Value):Cx:={ X with A:=X.A.mark (some e),calm:=false,xe:=fun _ _=>False }
theorem Inv.suite {X:Cx} {pins:List (Addr × Obj)} {σ:St} {H:Hp} {s:Shared} (I:Inv X pins σ H s) (e:Value):Inv (Cx.suite X e) pins σ H s :=
 ⟨⟨I.ok.mod,I.ok.kind,I.ok.glob,I.ok.blt,I.ok.above,I.ok.inj,I.ok.has,I.ok.cab,fun z=>absurd z (by simp [Cx.suite]),I.ok.frames,I.ok.stk,I.ok.exf,I.ok.bs,I.ok.bsz,I.ok.noex,I.ok.exfs,I.ok.funs,I.ok.frf⟩,
  I.os,I.bare,I.base,I.loc,I.cell,I.free,I.freeC,I.pin,I.hok,I.len⟩
theorem Inv.unsuite {X:Cx} {pins:List (Addr × Obj)} {σ σ':St} {H H':Hp} {s s':Shared} {e:Value} (J:Inv X pins σ' H' s') (I:Inv (Cx.suite X e) pins σ H s):Inv X pins σ H s :=
 ⟨J.ok,I.os,I.bare,I.base,I.loc,I.cell,I.free,I.freeC,I.pin,I.hok,I.len⟩
structure Hd where
 D:Addr
 i:Nat
 ts:TS
def tHs (K:PySem.W.Frag) (C:Addr) (dx:Option Addr) (x:Addr) (Dd:xg) (σ:St) (H:Hp):List Hd -> Prop
 | []=>False
 | h :: r=>∃ b,PySem.W.subIn K (.ref C) (.ref h.D) = some b /\ if b = true then h.ts { Dd with nx:=fun σ' H'=>Dd.nx (σ'.set h.i none) H',bk:=fun σ' H'=>Dd.bk (σ'.set h.i none) H',ct:=fun σ' H'=>Dd.ct (σ'.set h.i none) H' } (σ.set h.i (some (.ref x))) H else tHs K C dx x Dd σ H r
section
variable {X:Cx} {pins:List (Addr × Obj)} {σ:St} {H:Hp} {s:Shared}
theorem wM {M:Model} {A:Around} {E:Value -> Shared -> Prop} {i:Nat} {n:Str} {pos:Pos} {Q:Unit -> Shared -> Prop} (I:Inv X pins σ H s) (hN:X.N.Nodup) (hi:X.N[i]? = some n) (hk:X.env.scope.names.lookup n = some .local)
  (h:∀ s',Inv X pins (σ.set i none) H s' -> Q () s'):wpAny M A (do bindName X.env n .none; unbindBehindTheSuite X.env n pos) Q E s:=by
 obtain ⟨m,hn,hl⟩:=id I.loc
 have hcls:(X.env.scope.kind == .class || (X.env.scope.kind == .module && X.env.locals != X.env.globals)) = false:=by rw [I.ok.kind]; rfl
 have hiσ:i < σ.length:=by rw [I.len]; exact (List.getElem?_eq_some_iff.mp hi).1
 have cne:=I.cne
 refine wpAny_nameGoes_keeps hk hn hcls fun h' v hn' hs=>?_
 obtain ⟨oL,_,_,hoL,_⟩:=id hn
 refine h _ ⟨I.ok,I.os,I.bare,⟨fun b o e n hb hx=>?_,fun b o e n hb hx=>?_,I.base.free,fun b o e hx=>?_,I.base.tups,I.base.frzs,I.base.tbls⟩,⟨_,hn',fun j y v' e1 e2 e3=>?_⟩,fun y c e=>?_,I.free,I.freeC,fun p hp=>?_,?_,by simpa using I.len⟩
 ·exact (hs.2 b (Nat.ne_of_lt (Nat.lt_of_lt_of_le (Heap.lt_size e) I.ok.above))).trans (I.base.keep b o e n hb hx)
 ·obtain ⟨sl,e1⟩:=I.base.slot b o e n hb hx
  exact ⟨sl,(hs.2 b (Nat.ne_of_lt (Nat.lt_of_lt_of_le (Heap.lt_size e) I.ok.above))).trans e1⟩
 ·obtain ⟨o',e1⟩:=I.base.there b o e hx
  exact ⟨o',(hs.2 b (Nat.ne_of_lt (Nat.lt_of_lt_of_le (Heap.lt_size e) I.ok.above))).trans e1⟩
 ·by_cases hj:j = i
  ·subst hj
   rw [List.getElem?_set_self hiσ] at e2
   cases e2
  ·rw [List.getElem?_set_ne (Ne.symm hj)] at e2
   obtain ⟨u',r',q⟩:=hl j y v' e1 e2 e3
   refine ⟨u',r',?_⟩
   rcases q with ⟨k,e⟩ | ⟨k,c,e,z⟩
   ·refine .inl ⟨k,?_⟩
    have:y ≠ n:=fun e=>hj (qD hN e1 (e ▸ hi))
    simp [this,e]
   ·exact .inr ⟨k,c,e,z.sameBut hs (cne y c e)⟩
 ·obtain ⟨w',z⟩:=I.cell y c e
  exact ⟨w',z.sameBut hs (cne y c e)⟩
 ·obtain ⟨e,n,ne,nf,d⟩:=I.pin p hp
  exact ⟨(hs.2 p.1 ne).trans e,n,ne,nf,d⟩
 ·exact HOk.but I.hok hs I.free
end
theorem US {M:Model} {A:Around} {E:Value -> Shared -> Prop} {K:PySem.W.Frag} {s:Shared} {x C D t:Addr} {dx:Option Addr} {tb cx:Value} {kx:Bool} {b:Bool} {Q:Bool -> Shared -> Prop} (X:K.In s.heap) (hD:jb K D = true) (he:s.heap.get? x = some (xog C dx t tb cx kx))
  (hs:PySem.W.subIn K (.ref C) (.ref D) = some b) (h:Q b s):wpAny M A (excMatches (.ref x) (.ref D)) Q E s:=by
 obtain ⟨bm,N,nm,qn,bs,sn,sub,ab,col,dd,k0,k1,k2,k3,k5,lk,tl⟩:=wL hD
 have hDo:=X _ _ lk
 have T:=tl _ X
 have hcB:(Value.ref D :: bm).contains (.type "BaseException") = true:=by rw [List.contains_cons,T.hasType (show bmV.contains (.type "BaseException") = true by decide +kernel),Bool.or_true]
 have L:=PySem.W.looks_subIn (M:=M) X hs
 have f:=tc_notTuple
 obtain ⟨hp,g,d,tk,os⟩:=s
 unfold excMatches
 repeat (first | with_reducible refine wpAny_loadPart_at he ?_ | with_reducible refine wpAny_loadPart_at hDo ?_ | (with_reducible refine wpAny_isSubtype_exc hDo ?_; rw [hcB]) | (with_reducible refine PySem.W.Looks.at L ?_) | wp_step)
 cases b with
 | false=>exact wpAny_pure (wpAny_pure (wpAny_pure h))
 | true=>exact wpAny_pure (wpAny_pure (wpAny_pure h))
structure JI (X:Cx) (h:ExceptHandler) (d:Hd):Prop where
 ex:∃ (cn n:Str) (np pos:Pos) (b0:Stmt) (suite:List Stmt),h = .ExceptHandler (some (.Name cn np)) (some n) (b0 :: suite) pos /\ Gl X cn /\ X.mg cn = some (.ref d.D) /\ X.N[d.i]? = some n /\ X.env.scope.names.lookup n = some .local /\ (cn == ("__debug__" : Str)) = false /\
  (∀ e,PSs (Cx.suite X e) (b0 :: suite) d.ts)
 xc:jb X.K d.D = true
inductive jQ (X:Cx):List ExceptHandler -> List Hd -> Prop
 | nil {hs}:jQ X hs []
 | cons {h d hs ds}:JI X h d -> jQ X hs ds -> jQ X (h :: hs) (d :: ds)
section
variable {X:Cx}
theorem qN (hN:X.N.Nodup):∀ {hs:List ExceptHandler} {ds:List Hd},jQ X hs ds -> ∀ {pins:List (Addr × Obj)} {s:Shared} {σ:St} {H:Hp} {Dd:xg} {x C T:Addr} {dx:Option Addr},Inv X pins σ H s -> H x = some (XT x C dx) ->
  (∃ t cx kx,s.heap.get? x = some (xog C dx t (.ref T) cx kx)) -> (∃ oT ts,s.heap.get? T = some oT /\ oT.data = .fields ts /\ 3 < ts.size) -> wZ X pins H T -> tHs X.K C dx x Dd σ H ds ->
  wpAny (model X.prog X.w) X.A (handleBy (.ref x) X.env hs) (SP X pins Dd) X.xe s
 | _,_,.nil,_,_,_,_,_,_,_,_,_,_,_,_,_,_,h=>h.elim
 | _,_,.cons h1 h2,pins,s,σ,H,Dd,x,C,T,dx,I,hx,⟨t,cx,kx,ob⟩,⟨oT,ts,eT,dT,zT⟩,fT,h=>by
  obtain ⟨⟨cn,n,np,pos,b0,suite,rfl,hg,hm,hi,hk,hdb,hsu⟩,xc⟩:=h1
  obtain ⟨b,hb,q⟩:=h
  have I':=Inv.suite I (.ref x)
  refine wpAny_handleBy_cons (codeAny_handlers_test (wk (X:=Cx.suite X (.ref x)) I' hg hm (US I.kIn xc ob hb ?_) hdb)) (by intro q; cases q)
  cases b with
  | false =>
   rw [if_neg Bool.false_ne_true] at q
   exact qN hN h2 I hx ⟨t,cx,kx,ob⟩ ⟨oT,ts,eT,dT,zT⟩ fT q
  | true =>
   rw [if_pos rfl] at q
   refine codeAny_handlers_suite_as ?_
   unfold setFlight
   refine wpAny_bind (wpAny_field ob rfl (x:=.ref T) rfl ?_)
   rw [if_pos (show (Value.ref T != Value.none) = true from by simp)]
   refine wpAny_setField eT dT zT ?_
   obtain ⟨f0,f1,f2,f3,f4,f5⟩:=fT
   have I2:Inv X pins σ H { s with heap:=s.heap.update T (Obj.mapFields (·.setIfInBounds 3 ((none:Option Addr).elim Value.none fun f=>rawInt f))) } :=
    I.turned (t':=s.toks) (fun b o hb e=>(Heap.get?_update_other _ _ (Ne.symm hb)).trans e) f0 f1 f3 f4 f5
   refine vJ (X:=Cx.suite X (.ref x)) (v:=.ref x) (Inv.suite I2 (.ref x)) hN hi (.inl hk) rfl (fun s3 I3=>?_) (.inr hk)
   refine wpAny_noRaise (thn (hsu _ pins s3 _ H _ I3 q) fun fl s4 q4=>?_)
   cases fl with
   | next =>
    obtain ⟨σ4,H4,I4,n4⟩:=q4
    exact wM (Inv.unsuite I I4) hN hi hk fun s5 I5=>⟨_,_,I5,n4⟩
   | brk =>
    obtain ⟨σ4,H4,I4,n4⟩:=q4
    exact wM (Inv.unsuite I I4) hN hi hk fun s5 I5=>⟨_,_,I5,n4⟩
   | cont =>
    obtain ⟨σ4,H4,I4,n4⟩:=q4
    exact wM (Inv.unsuite I I4) hN hi hk fun s5 I5=>⟨_,_,I5,n4⟩
   | ret v =>
    obtain ⟨y,σ4,H4,I4,r4,n4⟩:=q4
    exact wM (Inv.unsuite I I4) hN hi hk fun s5 I5=>⟨y,_,_,I5,r4,n4⟩
def tbL:Value -> List Addr
 | .ref b=>[b]
 | _=>[]
def Qv (K:PySem.W.Frag) (i:Nat) (te:TX) (hds:List Hd):TS:=fun D σ H=>te σ H (fun v H1=>D.nx (σ.set i (some v)) H1) fun cls dx H1=>∃ C,cls = .ref C /\ ∀ x,H1 x = none -> tHs K C dx x D σ (upd H1 x (XT x C dx)) hds
theorem V1 {i:Nat} {y:Str} {yp apos pos:Pos} {e:Expr} {te:TX} {h:ExceptHandler} {hs:List ExceptHandler} {hds:List Hd} (hN:X.N.Nodup) (hy:X.N[i]? = some y) (hly:Loc X.env.scope y) (hf:X.fn y = true \/ X.env.scope.names.lookup y = some .local)
  (hst:X.stack = X.env :: X.outer /\ X.env.frame = some X.env.locals) (he:PEX X e te) (hh:jQ X (h :: hs) hds) (hsw:swapsWith e (some (.Name y yp)) apos.line X.env = pure false:=by rfl) :
  PS X (.Try [.Assign [.Name y yp] e apos] (h :: hs) [] [] pos) (Qv X.K i te hds):=by
 intro pins s σ H D I hq
 refine wpAny_Try_except (wpAny_execs_cons (wpAny_Assign_Name (wpAny_mono (he pins s σ H _ _ I hq) (fun v s1 ⟨z,H1,I1,r1,q1⟩=>?_) fun e s1 fl=>?_) hsw))
 ·exact vJ I1 hN hy hly r1 (fun s2 I2=>wpAny_execs_nil (wpAny_execs_nil ⟨_,H1,I2,q1⟩)) hf
 ·obtain ⟨cx,kx,H1,x,C,t,dx,tb,rfl,I1,ob,tr,fx,fT,C',ec,q1⟩:=fl
  cases ec
  have fr:X.A.frames = some (X.env :: X.outer):=by rw [<- hst.1]; exact I1.ok.frames
  have ff:s1.heap.FunFrames X.base (X.env :: X.outer):=by rw [<- hst.1]; exact I1.stack
  refine kE fr ff hst.2 hst.2 ob tr fun h' T oT ts e1 nT oldT e2 d2 z2 k1 k2=>?_
  have fT':wZ X pins H1 T:=by
   rcases oldT with z | z
   ·exact fT T z
   ·exact I1.fpOk z (I1.hok.fresh z)
  have tbs:∀ b,tb = .ref b -> H1 b = none:=fun b hb=>(fT b hb).1
  have nch:∀ b o,s1.heap.get? b = some o -> b ∉ (x :: T :: tbL tb) -> b ≠ x /\ tb ≠ .ref b:=fun b o _ hb=>by
   refine ⟨fun z=>hb (by simp [z]),fun z=>hb ?_⟩
   rw [z]
   simp [tbL]
  have un:Un (frs X.stack) (x :: T :: tbL tb) H1 H1 s1.heap h':=by
   rw [hst.1]
   refine ⟨fun b o e n hb hc=>?_,fun b o e n hb hc=>?_,fun b o e n _=>n,fun b o e hc=>?_,fun b xs e=>e,fun b o u e=>e,fun b ps e=>⟨#[],by rw [e]; simp⟩⟩
   ·obtain ⟨a1,a2⟩:=nch b o e hc
    exact k1 b o a1 a2 hb e
   ·obtain ⟨a1,a2⟩:=nch b o e hc
    exact k2 b o a1 a2 e
   ·obtain ⟨a1,a2⟩:=nch b o e hc
    obtain ⟨sl,q⟩:=k2 b o a1 a2 e
    exact ⟨_,q⟩
  have hok:HOk X.prog X.w H1 h':=fun b u e=>by
   refine (I1.hok b u e).stay (fun c v hc q=>k1 c v ?_ ?_ ?_ q) (fun _ q=>q) fun _ _ q=>q
   ·rintro rfl
    rcases hc with rfl | hc
    ·rw [fx.1] at e; cases e
    ·rw [fx.1] at hc; cases hc
   ·intro z
    have:=tbs c z
    rcases hc with rfl | hc
    ·rw [this] at e; cases e
    ·rw [this] at hc; cases hc
   ·intro z
    rw [<- hst.1] at z
    have:=I1.stkFree c z
    rcases hc with rfl | hc
    ·rw [this] at e; cases e
    ·rw [this] at hc; cases hc
  have I2:Inv X pins σ H1 { s1 with heap:=h' }:=I1.call' (s':={ s1 with heap:=h' }) rfl un hok I1.bare fun b hb=>by
   have fb:wZ X pins H1 b:=by
    rcases List.mem_cons.mp hb with z | z
    ·rw [z]; exact fx
    ·rcases List.mem_cons.mp z with z | z
     ·rw [z]; exact fT'
     ·cases tb with
      | ref b' =>
       have:b = b':=by simpa [tbL] using z
       rw [this]; exact fT b' rfl
      | _=>simp [tbL] at z
   obtain ⟨_,a1,_,a3,a4,a5⟩:=fb
   exact ⟨a3,a1,a4,a5⟩
  have I3:Inv X pins σ (upd H1 x (XT x C dx)) { s1 with heap:=h' }:=Inv.track I2 fx (QJ e1)
  exact qN hN hh I3 zd ⟨t,_,_,e1⟩ ⟨oT,ts,e2,d2,z2⟩ ⟨by rw [zi nT]; exact fT'.1,fT'.2⟩ (q1 x fx.1)
end
end L3
namespace L3
open PySem PySem.Spec PyProof.Rows L2
section
variable {prog:Program} {w:World} {A:Around} {E:Value -> Shared -> Prop} {s:Shared} {K:PySem.W.Frag} {x C:Addr} {ox:Obj} {od:Option Obj} {name:Str} {tk:Tok}
theorem UZ {fill expr:Bool} {Q:Value -> Shared -> Prop} (X:K.In s.heap) (xc:XC K C) (J:PySem.W.InstAt s.heap x ox C od)
  (h:wpAny (model prog w) A.in1 (Builtin.«object.__getattribute__» ⟨[.ref x,.str name tk],[]⟩) (fun fin s'=>match fin with | .done (.ret v)=>wpAny (model prog w) A (handedOut v) Q E s' | _=>False) (fun _ _=>False) s) :
  wpAny (model prog w) A (getAttrBy (.ref x) (.str name tk) fill expr) Q E s:=by
 obtain ⟨bm,N,nm,qn,bs,sn,sub,ab,col,dd,k0,k1,k2,k3,k5,lk,tl⟩:=wL xc.ok
 have hC:=X _ _ lk
 have T:=tl _ X
 have FB:=PySem.F.attrBase_ValueError
 have L0:=J.type (M:=model prog w)
 have L1:=PySem.W.looks_findIn (M:=model prog w) X xc.ga
 have L2:=PySem.W.looks_findIn (M:=model prog w) X xc.gt
 have hcB:(Value.ref C :: bm).contains (.type "BaseException") = true:=by rw [List.contains_cons,T.hasType (show bmV.contains (.type "BaseException") = true by decide +kernel),Bool.or_true]
 have isB:PySem.W.Looks (model prog w) s.heap (isInstance (.ref x) (.type "BaseException")) true:=L0.andThen (by have:=jj (M:=model prog w) hC (.type "BaseException"); rw [hcB] at this; exact this)
 have f3:=FB.ga.bind (.ref x)
 have hx0:(expr && onTheHeap (Value.builtin "BaseException.__getattribute__")) = false:=by cases expr <;> rfl
 have hx2:(Value.builtin "BaseException.__getattribute__" == Value.builtin "object.__getattribute__") = false:=by decide +kernel
 have hx1:(onTheHeap (Value.ref C) && Value.builtin "BaseException.__getattribute__" == Value.builtin "object.__getattribute__") = false:=by rw [hx2]; rfl
 unfold getAttrBy
 refine wpAny_holding (wpAny_bind (L0.here (wpAny_bind (L1.here ?_))))
 show wpAny _ _ (if (onTheHeap (Value.ref C) && Value.builtin "BaseException.__getattribute__" == Value.builtin "object.__getattribute__") = true then _ else _) _ _ _
 rw [hx1,if_neg Bool.false_ne_true]
 unfold getAttrByItsOwn hookBefore
 rw [if_pos (by rfl)]
 refine wpAny_bind (L2.here (wpAny_bind (wpAny_attempt (wpAny_holding ?_))))
 unfold callGetattribute
 rw [hx0,if_neg Bool.false_ne_true]
 unfold boundAndCalled
 rw [f3]
 refine wpAny_bind (wpAny_pure ?_)
 show wpAny (model prog w) A (call (.builtin "BaseException.__getattribute__") [.ref x,.str name tk]) _ _ s
 refine wpAny_call (codeAny_call_builtin FB.ga.plain PySem.F.entry_bexc_ga (@PySem.W.check_slot (model prog w) _ _ s "BaseException.__getattribute__" "BaseException" "__getattribute__" (.ref x) [.str name tk] [] _ (by decide +kernel) (by decide +kernel) isB (PySem.F.args_bexc_ga _ _) ?_))
 refine wpAny_mono h (fun fin s' z=>?_) fun _ _ z=>z.elim
 rcases fin with (_ | _ | _ | v) | _ <;> first | exact z | exact z.elim
theorem WK {Q:Option Value -> Shared -> Prop} (X:K.In s.heap) (xc:XC K C) (J:PySem.W.InstAt s.heap x ox C od) (ha:PySem.W.findIn K (.ref C) "__class__" = some (some (.builtin "object.__class__")))
  (hn:PySem.W.specialIn K (.builtin "object.__class__") "__get__" = some (some (.builtin "getset_descriptor.__get__"))) (htk:PySem.W.takesIn K (.builtin "object.__class__") = some true) (hm:PySem.W.mroIn K C (.type "object") = some true)
  (h:Q (some (.ref C)) { s with toks:=s.toks + 1 }):wpAny (model prog w) A (getAttr? (.ref x) "__class__") Q E s:=by
 have hf:PySem.W.findObj K C od "__class__" = some (.bind (.builtin "getset_descriptor.__get__") (.builtin "object.__class__")):=by
  obtain ⟨bm,N,nm,qn,bs,sn,sub,ab,col,dd,k0,k1,k2,k3,k5,lk,tl⟩:=wL xc.ok
  have hcl:(PySem.W.clsIn K C).isSome = true:=by unfold PySem.W.clsIn; rw [lk]; rfl
  obtain ⟨cd,hc⟩:=Option.isSome_iff_exists.mp hcl
  unfold PySem.W.findObj
  rw [hc,Option.bind_some,ha,Option.bind_some]
  simp [hn,htk]
 unfold getAttr? getAttrBy?
 refine wpAny_bind (wpAny_mkText (wpAny_bind (wpAny_attempt (UZ (s:={ s with toks:=s.toks + 1 }) X xc J ?_))))
 have L0:=J.type (M:=model prog w)
 have L1:=PySem.W.looks_find (M:=model prog w) X J hf
 unfold Builtin.«object.__getattribute__»
 refine wpAny_bind (wpAny_pure (wpAny_bind (wpAny_pure (wpAny_bind (L0.here (s:={ s with toks:=s.toks + 1 }) (wpAny_bind (L1.here (s:={ s with toks:=s.toks + 1 }) ?_)))))))
 show wpAny _ _ (holding [.builtin "object.__class__"] (call (.builtin "getset_descriptor.__get__") [.builtin "object.__class__",.ref x,.ref C]) >>= ret) _ _ _
 refine wpAny_bind (wpAny_holding (wpAny_call (PySem.W.class_get (s:={ s with toks:=s.toks + 1 }) X J hm ?_)))
 refine wpAny_pure ?_
 show wpAny _ _ (handedOut (.ref C)) _ _ _
 rw [PySem.W.handedOut_of rfl]
 exact wpAny_pure (wpAny_pure h)
end
structure XI (K:PySem.W.Frag) (C:Addr):Prop extends XC K C where
 ca:PySem.W.findIn K (.ref C) "__class__" = some (some (.builtin "object.__class__"))
 cg:PySem.W.specialIn K (.builtin "object.__class__") "__get__" = some (some (.builtin "getset_descriptor.__get__"))
 ct:PySem.W.takesIn K (.builtin "object.__class__") = some true
 mo:PySem.W.mroIn K C (.type "object") = some true
theorem UW {h:Heap} {x C t:Addr} {tb c:Value} {k:Bool} (ob:h.get? x = some (xog C none t tb c k)):PySem.W.InstAt h x (xog C none t tb c k) C none:=⟨ob,rfl,rfl,trivial⟩
theorem Qr {K:PySem.W.Frag} {x C:Addr} {dx:Option Addr} (xi:XI K C):PySem.W.KitX K (.ref x) (.ref C) (fun h=>(∃ t tb c k,h.get? x = some (xog C dx t tb c k)) /\ ∀ d,dx = some d -> ∃ o,h.get? d = some o) where
 ty:=fun M h X ⟨⟨t,tb,c,k',ob⟩,_⟩=>(PySem.W.Looks.ld ob).andThen .now
 it:=fun M h X _=>by
  obtain ⟨bm,N,nm,qn,bs,sn,sub,ab,col,dd,k0,k1,k2,k3,k5,lk,tl⟩:=wL xi.ok
  intro A' Q' E' s' k q
  unfold isType loadHead
  exact wpAny_bind (wpAny_loadPart (k _ _ (X _ _ lk)) (wpAny_pure q))
 ne:=fun h tp dd its n sl X htp=>by
  obtain ⟨bm,N,nm,qn,bs,sn,sub,ab,col,dd,k0,k1,k2,k3,k5,lk,tl⟩:=wL xi.ok
  refine Bool.eq_false_iff.mpr fun q=>?_
  have e:C = tp:=Value.ref.inj (beq_iff_eq.mp q)
  subst e
  have z:=congrArg (fun o:Option Obj=>o.map fun o=>match o.data with | .cls _=>true | _=>false) ((X _ _ lk).symm.trans htp)
  exact absurd (show true = false from Option.some.inj z) (by decide)
 ca:=fun {prog w A E Q s} X ⟨⟨t,tb,c,k',ob⟩,hd⟩ k=>by
  cases dx with
  | none=>exact WK X xi.toXC (UW ob) xi.ca xi.cg xi.ct xi.mo k
  | some d =>
   obtain ⟨o,e⟩:=hd d rfl
   exact WK (od:=some o) X xi.toXC ⟨ob,rfl,rfl,e⟩ xi.ca xi.cg xi.ct xi.mo k
section
variable {X:Cx}
def XAt (H:Hp) (x C:Addr) (dx:Option Addr) (fs:List (Str × V)):Prop:=H x = some (XT x C dx) /\ ((dx = none /\ fs = []) \/ ∃ d,dx = some d /\ H d = some (.xd fs))
theorem ZI:wJ X (.builtin "isinstance") (fun xs H Q=>∃ x C dx fs c u b,xs = [.ref x,c] /\ cV c = some u /\ XAt H x C dx fs /\ XI X.K C /\ PySem.W.kitOne X.K (.ref C) u = some b /\ Q (.bl b) H):=by
 intro pins s σ H xs us Q I r h
 obtain ⟨x,C,dx,fs,c,u,b,rfl,hc,⟨hx,hd⟩,xi,e,q⟩:=h
 obtain ⟨v,w',rfl,rx,rc⟩:=Zg r
 cases rx
 have:w' = u:=by
  cases c with
  | ty n=>cases hc; exact rc
  | ref a=>cases hc; exact rc
  | _=>cases hc
 subst this
 refine PySem.W.kia_one (Qr (dx:=dx) xi) I.kIn ⟨QZ (I.hok _ _ hx),fun d z=>?_⟩ e (fun z=>nomatch z) fun tk=>⟨.bl b,H,I.tok tk,rfl,q⟩
 rcases hd with ⟨z',_⟩ | ⟨d',z',hd'⟩
 ·rw [z'] at z; cases z
 ·rw [z'] at z; cases z
  obtain ⟨mA,⟨o,es,ep,ho,_⟩,_⟩:=I.hok _ _ hd'
  exact ⟨o,ho⟩
def QH (K:PySem.W.Frag) (ta:TE) (f:Str):TE:=fun σ H Q=>ta σ H fun y H1=>∃ x C dx fs v,y = .ref x /\ XAt H1 x C dx fs /\ XC K C /\ PySem.W.hasDictIn K C = true /\ NoAttr K C f /\ fs.lookup f = some v /\ Q v H1
end
end L3
namespace L3
open PySem PySem.Spec PyProof.Rows L2
structure Df (P:Program) (w:World) (K:PySem.W.Frag) (mg:Str -> Option Value) (base:Heap) (CX:CXT) (k:Nat) (nm:Str) (ps:List Str) (ds:List Value) (sp:Sp):Prop where
 ex:∃ f fd,FnOk P w K mg base CX k f fd ps sp /\ mg nm = some (.ref f) /\ PySem.W.keepIn K (.ref f) = true /\ Binds K fd ps ds
structure Bt (mg:Str -> Option Value):Prop where
 len:mg "len" = none
 range:mg "range" = none
 isi:mg "isinstance" = none
 str:mg "str" = none
 int:mg "int" = none
 tuple:mg "tuple" = none
 list:mg "list" = none
 bool:mg "bool" = none
 enum:mg "enumerate" = none
 all:mg "all" = none
 verr:mg "ValueError" = none
 max:mg "max" = none
 rev:mg "reversed" = none
 zip:mg "zip" = none
 sum:mg "sum" = none
 sorted:mg "sorted" = none
section
variable {X:Cx} {CX:CXT} {k:Nat} {ps:List Str} {sp:Sp} {ds:List Value} {dvs:List V} {E:XK} {x:Str} {p pos:Pos} {e:Expr} {es:List Expr} {t:TA}
theorem cl0 {j:Nat} (D:Df X.prog X.w X.K X.mg X.base CX0 k x ps ds sp) (hr:Room j X.A) (hd:Vals dvs ds) (hg:Gl X x) (ha:PA X (e :: es) t) (hdb:(x == ("__debug__" : Str)) = false:=by decide) (he:starEach (e :: es) X.env = (false,eval e X.env) :: starEach es X.env:=by rfl)
  (hpl:(backTo pos (starEach es X.env)).any (·.1) = false:=by rfl) (hj:k <= j:=by decide):PE X (.Call (.Name x p) (e :: es) [] pos) (uB sp dvs E0 t):=by
 obtain ⟨f,fd,F,hm,hk,hb⟩:=D.ex
 exact ZR F (hr.mono hj) hg hm hk hb hd jS ha hdb he hpl
theorem clX {j:Nat} (D:Df X.prog X.w X.K X.mg X.base (CXx X.prog X.w) k x ps ds sp) (hr:Room j X.A) (hd:Vals dvs ds) (hg:Gl X x) (ha:PA X.nox (e :: es) t) (hdb:(x == ("__debug__" : Str)) = false:=by decide) (he:starEach (e :: es) X.env = (false,eval e X.env) :: starEach es X.env:=by rfl)
  (hpl:(backTo pos (starEach es X.env)).any (·.1) = false:=by rfl) (hj:k <= j:=by decide):PEX X (.Call (.Name x p) (e :: es) [] pos) (fun σ H Q E=>t σ H fun vs H1=>sp (vs ++ dvs) H1 Q E):=by
 obtain ⟨f,fd,F,hm,hk,hb⟩:=D.ex
 exact Wi F (hr.mono hj) hg hm hk hb hd ha hdb he hpl
theorem clP {j:Nat} (hx:XE X E) (D:Df X.prog X.w X.K X.mg X.base (CXx X.prog X.w) k x ps ds sp) (hr:Room j X.A) (hd:Vals dvs ds) (hg:Gl X x) (ha:PA X (e :: es) t) (hdb:(x == ("__debug__" : Str)) = false:=by decide) (he:starEach (e :: es) X.env = (false,eval e X.env) :: starEach es X.env:=by rfl)
  (hpl:(backTo pos (starEach es X.env)).any (·.1) = false:=by rfl) (hj:k <= j:=by decide):PE X (.Call (.Name x p) (e :: es) [] pos) (uB sp dvs E t):=by
 obtain ⟨f,fd,F,hm,hk,hb⟩:=D.ex
 exact ZR F (hr.mono hj) hg hm hk hb hd (qy hx) ha hdb he hpl
end
theorem W3 {X:Cx} {cn n:Str} {np pos:Pos} {b0:Stmt} {suite:List Stmt} {hs:List ExceptHandler} {ds:List Hd} {D:Addr} {ts:TS} (i:Nat) (hsu:∀ e,PSs (Cx.suite X e) (b0 :: suite) ts) (hg:Gl X cn) (hm:X.mg cn = some (.ref D)) (hi:X.N[i]? = some n) (hk:X.env.scope.names.lookup n = some .local) (xc:jb X.K D = true) (r:jQ X hs ds)
  (hdb:(cn == ("__debug__" : Str)) = false:=by decide):jQ X (.ExceptHandler (some (.Name cn np)) (some n) (b0 :: suite) pos :: hs) (⟨D,i,ts⟩ :: ds) :=
 .cons ⟨⟨cn,n,np,pos,b0,suite,rfl,hg,hm,hi,hk,hdb,hsu⟩,xc⟩ r
def TyX (K:PySem.W.Frag) (H:Hp) (x:V) (t:Value):Prop:=j7 K H x t \/ (∃ a C dx fs,x = .ref a /\ t = .ref C /\ XAt H a C dx fs /\ XI K C) \/ (∃ a xs,x = .ref a /\ t = .type "list" /\ SqL K H a xs) \/ ∃ a xs,x = .ref a /\ t = .type "tuple" /\ SqT K H a xs
def VJ (K:PySem.W.Frag):List V -> Hp -> VK -> Prop:=fun xs H Q=>∃ x c u t b,xs = [x,c] /\ cV c = some u /\ TyX K H x t /\ PySem.W.kitOne K t u = some b /\ Q (.bl b) H
theorem VU {X:Cx}:wJ X (.builtin "isinstance") (VJ X.K):=by
 intro pins s σ H xs us Q I r h
 obtain ⟨x,c,u,t,b,rfl,hc,ty,e,q⟩:=h
 rcases ty with ty | ⟨a,C,dx,fs,rfl,rfl,ha,xi⟩ | ⟨a,ys,rfl,rfl,hq⟩ | ⟨a,ys,rfl,rfl,hq⟩
 ·exact Wl pins s σ H _ us Q I r ⟨x,c,u,t,b,rfl,hc,ty,e,q⟩
 ·exact ZI pins s σ H _ us Q I r ⟨a,C,dx,fs,c,u,b,rfl,hc,ha,xi,e,q⟩
 all_goals
  obtain ⟨v,w',rfl,rx,rc⟩:=Zg r
  have:w' = u:=by
   cases c with
   | ty n=>cases hc; exact rc
   | ref a=>cases hc; exact rc
   | _=>cases hc
  subst this
  cases rx
 ·obtain ⟨its,_,p,_⟩:=I.list hq
  obtain ⟨o,h1,h2,_⟩:=p.isList
  exact PySem.W.kia_one PySem.W.kitx_list I.kIn ⟨o,h1,h2⟩ e (fun z=>nomatch z) fun tk=>⟨.bl b,H,I.tok tk,rfl,q⟩
 ·obtain ⟨its,_,p,_⟩:=I.tuple hq
  obtain ⟨o,h1,h2,_⟩:=p
  exact PySem.W.kia_one PySem.W.kitx_tuple I.kIn ⟨o,h1,h2⟩ e (fun z=>nomatch z) fun tk=>⟨.bl b,H,I.tok tk,rfl,q⟩
theorem ZO {X:Cx} {e:Expr} {te:TE} {c:Str} {C:Addr} {p q pos:Pos} (h1:Gl X "isinstance") (h2:X.mg "isinstance" = none) (he:PE X e te) (hg:Gl X c) (hm:X.mg c = some (.ref C)) (hd:(c == ("__debug__" : Str)) = false:=by decide)
  (hs1:starEach [e,.Name c q] X.env = (false,eval e X.env) :: starEach [.Name c q] X.env:=by rfl) (hs3:starEach [.Name c q] X.env = (false,eval (.Name c q) X.env) :: starEach [] X.env:=by rfl) (hs2:(backTo pos (starEach [.Name c q] X.env)).any (·.1) = false:=by rfl):PE X (.Call (.Name "isinstance" p) [e,.Name c q] [] pos) (tCB (VJ X.K) (zW te (zW (tC (.ref C)) wU))) :=
 zn VU h1 h2 boot_isinstance (za he (za (wY hg hm rfl hd) zc hs3) hs1) (he:=hs1) (hpl:=hs2)
theorem qt {X:Cx} {e:Expr} {te:TE} {c:Str} {n:String} {p q pos:Pos} (h1:Gl X "isinstance") (h2:X.mg "isinstance" = none) (he:PE X e te) (hg:Gl X c) (hm:X.mg c = none) (hv:bootBuiltins c = some (.type n)) (hn:c ≠ "__name__":=by decide) (hd:(c == ("__debug__" : Str)) = false:=by decide)
  (hs1:starEach [e,.Name c q] X.env = (false,eval e X.env) :: starEach [.Name c q] X.env:=by rfl) (hs3:starEach [.Name c q] X.env = (false,eval (.Name c q) X.env) :: starEach [] X.env:=by rfl) (hs2:(backTo pos (starEach [.Name c q] X.env)).any (·.1) = false:=by rfl):PE X (.Call (.Name "isinstance" p) [e,.Name c q] [] pos) (tCB (VJ X.K) (zW te (zW (tC (.ty n)) wU))) :=
 zn VU h1 h2 boot_isinstance (za he (za (WY hg hm hv rfl hn hd) zc hs3) hs1) (he:=hs1) (hpl:=hs2)
theorem UV {a:Addr}:cV (.ref a) = some (.ref a):=rfl
theorem Qg {n:String}:cV (.ty n) = some (.type n):=rfl
theorem JJ {P w K mg base N q sc f cd A o s H}:(cxH P w K mg base N q sc f cd A o s H).K = K:=rfl
def YV:V -> List V -> Hp -> VK -> Prop:=fun x xs H Q=>∃ z y,x = .str z /\ xs = [.str y] /\ Q (.int (Txt.count z y)) H
theorem Y8 {X:Cx}:MtR X "str.count" YV:=Xs
def Ul:V -> List V -> Hp -> VK -> Prop:=fun x xs H Q=>∃ z y,x = .str z /\ xs = [.str y] /\ Q (.int (Txt.find z y)) H
theorem UR {X:Cx}:MtR X "str.find" Ul:=W5
theorem YQ (l:List Nat) (c:Nat):Txt.count (tx l) (tx [c]) = (l.count c:Int):=by
 have h:∀ l:List Nat,cnt c l = (l.count c:Int):=fun l=>by
  induction l with
  | nil=>rfl
  | cons n r ih =>
   rw [cnt_cons,ih,List.count_cons]
   by_cases e:n = c
   ·subst e; simp; omega
   ·have:(n == c) = false:=by simpa using e
    simp [e,this]
 exact (PyProof.Rows.count_is (tx l) c).trans (h l)
theorem lt1 {a b:Nat}:([a]:List Nat) < [b] ↔ a < b:=by rw [List.cons_lt_cons_iff]; exact ⟨fun h=>h.elim id fun ⟨_,q⟩=>absurd q (List.not_lt_nil _),.inl⟩
theorem YC {l:List Nat} {k v:Nat} (h:l[k]? = some v):(v :: (l.take k ++ l.drop (k + 1))).Perm l:=by
 obtain ⟨hk,e⟩:=List.getElem?_eq_some_iff.mp h
 have e2:l.take k ++ (v :: l.drop (k + 1)) = l:=by
  rw [<- e,<- List.drop_eq_getElem_cons hk,List.take_append_drop]
 exact (List.perm_middle.symm.trans (by rw [e2]))
def U5 (K:PySem.W.Frag):List V -> Hp -> VK -> Prop:=fun xs H Q=>∃ x n,xs = [x] /\ Q3 K x H n /\ Q (.int n) H
theorem z7 {X:Cx}:wJ X (.builtin "len") (U5 X.K):=XH
def ForR (lo:Int) (n:Nat) (g:TG) (tb:TS) (D:xg) (σ:St) (H:Hp):Prop:=∃ W:Nat -> Nat -> St -> Hp -> Prop,(∃ m,W 0 m σ H) /\ ∀ i m σ H,W i m σ H ->
 ((Itr lo n).stop i H /\ D.nx σ H) \/ ((Itr lo n).go i H /\ ∃ N:St -> Hp -> Prop,(∀ σ' H',N σ' H' -> ∃ m',m' < m /\ W (i + 1) m' σ' H') /\ ∀ x H',(Itr lo n).yld i H x H' -> g x σ H' fun σ2 H2=>tb { D with nx:=N,ct:=N,bk:=D.nx } σ2 H2)
theorem Qk {ta:TA} {g:TG} {tb:TS} {D:xg} {σ:St} {H:Hp}:Wn (Vn ta) g tb D σ H = ta σ H fun vs H1=>∃ j:Int,vs = [.int j] /\ -(2 ^ 62) <= j /\ j < 2 ^ 62 /\ ForR 0 j.toNat g tb D σ H1:=rfl
theorem Qc {ta:TA} {g:TG} {tb:TS} {D:xg} {σ:St} {H:Hp}:Wn (Qz ta) g tb D σ H = ta σ H fun vs H1=>∃ i j:Int,vs = [.int i,.int j] /\ (-(2 ^ 62) <= i /\ i < 2 ^ 62 /\ -(2 ^ 62) <= j /\ j < 2 ^ 62) /\ ForR i (j - i).toNat g tb D σ H1:=rfl
theorem ForR.by {lo:Int} {n:Nat} {g:TG} {tb:TS} {D:xg} {σ:St} {H:Hp} (Pv:Nat -> St -> Hp -> Prop) (h0:Pv 0 σ H)
  (hs:∀ i σ H,i < n -> Pv i σ H -> g (.int (lo + i)) σ H fun σ2 H2=>tb { D with nx:=Pv (i + 1),ct:=Pv (i + 1),bk:=D.nx } σ2 H2) (hd:∀ σ H,Pv n σ H -> D.nx σ H):ForR lo n g tb D σ H:=ZT Pv h0 hs hd
def ForL (K:PySem.W.Frag) (a:Addr) (g:TG) (tb:TS) (D:xg) (σ:St) (H:Hp):Prop:=∃ W:Nat -> Nat -> St -> Hp -> Prop,(∃ m,W 0 m σ H) /\ ∀ i m σ H,W i m σ H ->
 ((Itl K a).stop i H /\ D.nx σ H) \/ ((Itl K a).go i H /\ ∃ N:St -> Hp -> Prop,(∀ σ' H',N σ' H' -> ∃ m',m' < m /\ W (i + 1) m' σ' H') /\ ∀ x H',(Itl K a).yld i H x H' -> g x σ H' fun σ2 H2=>tb { D with nx:=N,ct:=N,bk:=D.nx } σ2 H2)
theorem JZ {K:PySem.W.Frag} {tl:TE} {g:TG} {tb:TS} {D:xg} {σ:St} {H:Hp}:Wn (Vm K tl) g tb D σ H = tl σ H fun x H1=>∃ a,x = .ref a /\ (∃ xs,SqL K H1 a xs) /\ ForL K a g tb D σ H1:=rfl
def ForS (x:Str) (g:TG) (tb:TS) (D:xg) (σ:St) (H:Hp):Prop:=∃ W:Nat -> Nat -> St -> Hp -> Prop,(∃ m,W 0 m σ H) /\ ∀ i m σ H,W i m σ H ->
 ((Its x).stop i H /\ D.nx σ H) \/ ((Its x).go i H /\ ∃ N:St -> Hp -> Prop,(∀ σ' H',N σ' H' -> ∃ m',m' < m /\ W (i + 1) m' σ' H') /\ ∀ v H',(Its x).yld i H v H' -> g v σ H' fun σ2 H2=>tb { D with nx:=N,ct:=N,bk:=D.nx } σ2 H2)
theorem JN {tl:TE} {g:TG} {tb:TS} {D:xg} {σ:St} {H:Hp}:Wn (Qy tl) g tb D σ H = tl σ H fun v H1=>∃ x,v = .str x /\ ForS x g tb D σ H1:=rfl
theorem ForS.by {l:List Nat} {g:TG} {tb:TS} {D:xg} {σ:St} {H:Hp} (Pv:Nat -> St -> Hp -> Prop) (h0:Pv 0 σ H)
  (hs:∀ i c σ H,l[i]? = some c -> Pv i σ H -> g (.str (tx [c])) σ H fun σ2 H2=>tb { D with nx:=Pv (i + 1),ct:=Pv (i + 1),bk:=D.nx } σ2 H2) (hd:∀ σ H,Pv l.length σ H -> D.nx σ H):ForS (tx l) g tb D σ H:=W4 Pv h0 hs hd
def JF (x:Str) (g:TG) (tb:TS) (D:xg) (σ:St) (H:Hp):Prop:=∃ W:Nat -> Nat -> St -> Hp -> Prop,(∃ m,W 0 m σ H) /\ ∀ i m σ H,W i m σ H ->
 ((Ite x).stop i H /\ D.nx σ H) \/ ((Ite x).go i H /\ ∃ N:St -> Hp -> Prop,(∀ σ' H',N σ' H' -> ∃ m',m' < m /\ W (i + 1) m' σ' H') /\ ∀ v H',(Ite x).yld i H v H' -> g v σ H' fun σ2 H2=>tb { D with nx:=N,ct:=N,bk:=D.nx } σ2 H2)
theorem J0 {ta:TA} {g:TG} {tb:TS} {D:xg} {σ:St} {H:Hp}:Wn (QU ta) g tb D σ H = ta σ H fun vs H1=>∃ x,vs = [.str x] /\ JF x g tb D σ H1:=rfl
theorem qZ {α:Type} (l:List α) {k:Int} (h:0 <= k):cut l none (some k) = l.take k.toNat:=by
 obtain ⟨n,rfl⟩:=Int.eq_ofNat_of_zero_le h
 unfold cut
 rw [HT.sIx_none,HT.sIx_nat,List.drop_zero,Nat.sub_zero]
 by_cases q:n <= l.length
 ·rw [Nat.min_eq_left q]; rfl
 ·rw [Nat.min_eq_right (by omega),List.take_length,List.take_of_length_le (by simp; omega)]
theorem wK {α:Type} (l:List α) {k:Int} (h:0 <= k):cut l (some k) none = l.drop k.toNat:=by
 obtain ⟨n,rfl⟩:=Int.eq_ofNat_of_zero_le h
 unfold cut
 rw [HT.sIx_none,HT.sIx_nat]
 by_cases q:n <= l.length
 ·rw [Nat.min_eq_left q]
  rw [List.take_of_length_le (by rw [List.length_drop] <;> omega)]
  rfl
 ·rw [Nat.min_eq_right (by omega),List.drop_length,List.drop_of_length_le (by simp; omega)]
  simp
theorem jY {α:Type} {xs:List α} {i:Int} (h0:0 <= i) (h1:i < xs.length):∃ v,atI xs i = some v /\ xs[i.toNat]? = some v:=by
 obtain ⟨n,rfl⟩:=Int.eq_ofNat_of_zero_le h0
 have hn:n < xs.length:=by omega
 exact ⟨xs[n],xI (List.getElem?_eq_getElem hn),List.getElem?_eq_getElem hn⟩
def jV:List Nat:=[97,98,99,100,101,102,103,104,105,106,107,108,109,110,111,112,113,114,115,116,117,118,119,120,121,122]
theorem Xg:(("abcdefghijklmnopqrstuvwxyz" : Str)) = tx jV:=by decide +kernel
theorem yG:(sizeLine:Nat) = 16777216:=sizeLine_eq
theorem cxK {CX P w K mg base N q sc f cd A o s H E}:(ul CX P w K mg base N q sc f cd A o s H E).K = K:=rfl
theorem cxP {CX P w K mg base N q sc f cd A o s H E}:(ul CX P w K mg base N q sc f cd A o s H E).prog = P:=rfl
theorem cxW {CX P w K mg base N q sc f cd A o s H E}:(ul CX P w K mg base N q sc f cd A o s H E).w = w:=rfl
theorem QY {a b:Int}:Vg (.int a) (.int b) = true:=rfl
theorem Ql {a b:Str}:Vg (.str a) (.str b) = true:=rfl
theorem QO {a b:Bool}:Vg (.bl a) (.bl b) = true:=rfl
theorem Qt {b:Str}:Vg .non (.str b) = true:=rfl
theorem QR {b:Str}:Vg (.str b) .non = true:=rfl
theorem zf {H:Hp} {p:Addr} {o:HO} (h:H p = none):Same H (upd H p o):=fun b u e=>by
 rw [zi (zv e h)]
 exact e
theorem yg {α:Type} {l:List α} {i:Nat} {c:α} (h:l[i]? = some c):l.take (i + 1) = l.take i ++ [c]:=by
 rw [List.take_add_one,h]; rfl
end L3
namespace L3
open PySem PySem.Spec PyProof.Rows L2
structure FunD (K:PySem.W.Frag) (x qual:Str) (st:Stmt) (dV:Value) (f:Addr) (fd:FuncData):Prop where
 ex:∃ (oc:Value) (od:Option Addr) (kV doc pm:Value) (an:Option Addr) (cdv ct:Value) (osl:Array (Option Value)),
  fd = PySem.W.fnOf x qual (zm st) (zj st) (zb st) dV kV doc pm an cdv ct /\ K.lookup f = some ⟨oc,od,.func fd,osl⟩ /\ PySem.W.codeIn K cdv qual = true
theorem FunD.okX {P:Program} {w:World} {K:PySem.W.Frag} {mg:Str -> Option Value} {base:Heap} {x qual:Str} {st:Stmt} {dV:Value} {f:Addr} {fd:FuncData} {N ps:List Str} {k:Nat} {sp:Sp} (F:FunD K x qual st dV f fd) (S:zo N ps (zb st)) (len:∀ vs H Q E,sp vs H Q E -> vs.length = ps.length)
  (hbody:∀ (cdv:Value) (A:Around) (outer:List Env) (s:Shared) (H:Hp) (vs:List V) (Q:VK) (E:XK),Room k (A.deeper (envOfC qual (zb st) s.heap.objs.size f cdv)) -> XE (ul (CXx P w) P w K mg base N qual (zb st) f cdv A outer s H E) E -> sp vs H Q E ->
   ∃ t,PSs (ul (CXx P w) P w K mg base N qual (zb st) f cdv A outer s H E) (zj st) t /\ t { nx:=fun _ H'=>Q .non H',rt:=Q } (start N vs) H):FnOk P w K mg base (CXx P w) (k + 1) f fd ps sp:=by
 obtain ⟨oc,od,kV,doc,pm,an,cdv,ct,osl,rfl,lk,hcd⟩:=F.ex
 exact WX lk hcd S len fun A outer s H vs Q E hr hsp=>hbody cdv A outer s H vs Q E hr UL hsp
def wS (C:Addr) (f:Str):Sp:=fun vs H Q _=>∃ x v,vs = [.ref x,v] /\ H x = some (XN x C none) /\ ∀ dx,H dx = none -> Q .non (upd (upd H dx (.xd [(f,v)])) x (XN x C (some dx)))
def QW (H:Hp) (d:Addr) (f:Str) (v:V) (H':Hp):Prop:=H d = none /\ Same H H' /\ H' d = some (.xd [(f,v)])
theorem Yp {E:XK} {C:Addr} {f:Str} {v:V} {H:Hp} (h:∀ d H',QW H d f v H' -> E (.ref C) (some d) H'):∀ x,H x = none -> wS C f [.ref x,v] (upd H x (XN x C none)) (fun u H2=>u = .non /\ ∃ dx,H2 x = some (XN x C dx) /\ E (.ref C) dx (del H2 x)) E0:=by
 intro x hx
 refine ⟨x,v,rfl,zd,fun dx hd=>⟨rfl,some dx,zd,h dx _ ⟨?_,?_,?_⟩⟩⟩
 ·by_cases e:dx = x
  ·rw [e]; exact hx
  ·rw [zi e] at hd; exact hd
 ·have hne:dx ≠ x:=fun e=>by rw [e,zd] at hd; cases hd
  rw [zi hne] at hd
  intro b o q
  have b1:b ≠ x:=zv q hx
  have b2:b ≠ dx:=zv q hd
  rw [Z6 b1,zi b1,zi b2,zi b1]
  exact q
 ·have hne:dx ≠ x:=fun e=>by rw [e,zd] at hd; cases hd
  rw [Z6 hne,zi hne,zd]
section
variable {X:Cx}
def JR:R2:=fun x y H Q=>∃ c l,x = .str (tx [c]) /\ y = .str (tx l) /\ Q (.bl (!decide (c ∈ l))) H
def JU:R2:=fun x y H Q=>∃ c l,x = .str (tx [c]) /\ y = .str (tx l) /\ Q (.bl (decide (c ∈ l))) H
def Q5:R2:=fun x y H Q=>y = .non /\ Q (.bl (decide (x = .non))) H
theorem op_isN':OpR X (compareOp .Is) Q5:=Ue
def VS:R2:=fun x y H Q=>y = .non /\ Q (.bl (!decide (x = .non))) H
theorem op_notN':OpR X (compareOp .IsNot) VS:=Ve
def V0:List V -> Hp -> VK -> Prop:=fun xs H Q=>∃ i j,xs = [.int i,.int j] /\ Q (.int (if j > i then j else i)) H
theorem Uz (hc:X.calm = true):wJ X (.builtin "max") V0:=YN hc
def rGe:R2:=fun x y H Q=>∃ i j,x = .int i /\ y = .int j /\ Q (.bl (decide (j <= i))) H
theorem op_ge':OpR X (compareOp .GtE) rGe:=Qs
def JD (K:PySem.W.Frag) (ta:TE):TT:=fun σ H Q=>ta σ H fun x H'=>∃ k,VO K x H' k /\ Q k H'
end
theorem jX:bootBuiltins "max" = some (.builtin "max"):=by decide +kernel
def W0 (ls l:List Nat) (m:Int) (k:Nat):Prop:=∃ c,l[k]? = some c /\ (m <= k \/ c ∉ ls)
def FB (ls l:List Nat) (m:Int) (k:Nat):Prop:=W0 ls l m k /\ ∀ j < k,¬ W0 ls l m j
def NB (ls l:List Nat) (m:Int):Prop:=∀ j,¬ W0 ls l m j
theorem FB.nb {ls l:List Nat} {m:Int} {k:Nat} (h:FB ls l m k) (n:NB ls l m):False:=n k h.1
end L3
namespace L3
open PySem PySem.Spec PyProof.Rows L2
inductive D where
 | non | bl (b:Bool) | int (i:Int) | str (x:Str) | lst (l:List D) | tup (l:List D)
mutual
def Is (K:PySem.W.Frag) (H:Hp):D -> V -> Prop
 | .non,v=>v = .non
 | .bl b,v=>v = .bl b
 | .int i,v=>v = .int i
 | .str x,v=>v = .str x
 | .lst l,v=>∃ a xs,v = .ref a /\ SqL K H a xs /\ Iss K H l xs
 | .tup l,v=>∃ a xs,v = .ref a /\ SqT K H a xs /\ Iss K H l xs
def Iss (K:PySem.W.Frag) (H:Hp):List D -> List V -> Prop
 | [],vs=>vs = []
 | d :: l,vs=>∃ v r,vs = v :: r /\ Is K H d v /\ Iss K H l r
end
mutual
def eqD:D -> D -> Bool
 | .non,.non=>true
 | .bl a,.bl b=>a == b
 | .bl a,.int b=>(if a then 1 else 0) == b
 | .int a,.bl b=>a == (if b then 1 else 0)
 | .int a,.int b=>a == b
 | .str a,.str b=>a == b
 | .lst l,.lst m=>qR l m
 | .tup l,.tup m=>qR l m
 | _,_=>false
def qR:List D -> List D -> Bool
 | [],[]=>true
 | d :: l,e :: m=>eqD d e && qR l m
 | _,_=>false
end
mutual
def dpD:D -> Nat
 | .lst l=>vL l + 1
 | .tup l=>vL l + 1
 | _=>0
def vL:List D -> Nat
 | []=>0
 | d :: l=>max (dpD d) (vL l)
end
theorem Wt:∀ {l:List D} {j:Nat} {d:D},l[j]? = some d -> dpD d <= vL l
 | d :: l,0,_,h=>by
  cases h
  simp only [vL]
  omega
 | d :: l,j + 1,e,h=>by
  have:=Wt (l:=l) (j:=j) (d:=e) h
  simp only [vL]
  omega
mutual
theorem qG:∀ d:D,eqD d d = true
 | .non=>rfl
 | .bl b=>by simp [eqD]
 | .int i=>by simp [eqD]
 | .str x=>by simp [eqD]
 | .lst l=>by simp only [eqD]; exact xL l
 | .tup l=>by simp only [eqD]; exact xL l
theorem xL:∀ l:List D,qR l l = true
 | []=>rfl
 | d :: l=>by simp only [qR,qG d,xL l,Bool.and_self]
end
theorem Iss.len {K:PySem.W.Frag} {H:Hp}:∀ {l:List D} {vs:List V},Iss K H l vs -> vs.length = l.length
 | [],vs,h=>by simp only [Iss] at h; rw [h]; rfl
 | d :: l,vs,h=>by
  simp only [Iss] at h
  obtain ⟨v,r,rfl,_,h2⟩:=h
  simp only [List.length_cons,Iss.len h2]
theorem Iss.at {K:PySem.W.Frag} {H:Hp}:∀ {l:List D} {vs:List V} {j:Nat} {d:D},Iss K H l vs -> l[j]? = some d -> ∃ v,vs[j]? = some v /\ Is K H d v
 | d :: l,vs,0,_,h,q=>by
  cases q
  simp only [Iss] at h
  obtain ⟨v,r,rfl,h1,_⟩:=h
  exact ⟨v,rfl,h1⟩
 | d :: l,vs,j + 1,e,h,q=>by
  simp only [Iss] at h
  obtain ⟨v,r,rfl,_,h2⟩:=h
  exact Iss.at (j:=j) h2 q
theorem Iss.append {K:PySem.W.Frag} {H:Hp}:∀ {l m:List D} {vs us:List V},Iss K H l vs -> Iss K H m us -> Iss K H (l ++ m) (vs ++ us)
 | [],m,vs,us,h,g=>by simp only [Iss] at h; rw [h]; exact g
 | d :: l,m,vs,us,h,g=>by
  simp only [Iss] at h
  obtain ⟨v,r,rfl,h1,h2⟩:=h
  simp only [List.cons_append,Iss]
  exact ⟨v,r ++ us,rfl,h1,Iss.append h2 g⟩
theorem Iss.ints {K:PySem.W.Frag} {H:Hp}:∀ (l:List Int),Iss K H (l.map D.int) (l.map V.int)
 | []=>by simp only [List.map_nil,Iss]
 | i :: l=>by
  simp only [List.map_cons,Iss,Is]
  exact ⟨_,_,rfl,rfl,Iss.ints l⟩
theorem xM {K:PySem.W.Frag} {H H':Hp} {a:Addr} {xs:List V} (e:Same H H') (h:SqT K H a xs):SqT K H' a xs:=by
 rcases h with (h | ⟨o,h⟩) | h
 ·exact .inl (.inl (e _ _ h))
 ·exact .inl (.inr ⟨o,e _ _ h⟩)
 ·exact .inr h
mutual
theorem Is.same {K:PySem.W.Frag} {H H':Hp} (e:Same H H'):∀ (d:D) (v:V),Is K H d v -> Is K H' d v
 | .non,v,h=>by simp only [Is] at h ⊢; exact h
 | .bl b,v,h=>by simp only [Is] at h ⊢; exact h
 | .int b,v,h=>by simp only [Is] at h ⊢; exact h
 | .str b,v,h=>by simp only [Is] at h ⊢; exact h
 | .lst l,v,h=>by
  simp only [Is] at h ⊢
  obtain ⟨a,xs,e1,e2,e3⟩:=h
  exact ⟨a,xs,e1,e.seq e2,Iss.same e l xs e3⟩
 | .tup l,v,h=>by
  simp only [Is] at h ⊢
  obtain ⟨a,xs,e1,e2,e3⟩:=h
  exact ⟨a,xs,e1,xM e e2,Iss.same e l xs e3⟩
theorem Iss.same {K:PySem.W.Frag} {H H':Hp} (e:Same H H'):∀ (l:List D) (vs:List V),Iss K H l vs -> Iss K H' l vs
 | [],vs,h=>by simp only [Iss] at h ⊢; exact h
 | d :: l,vs,h=>by
  simp only [Iss] at h ⊢
  obtain ⟨v,r,e1,e2,e3⟩:=h
  exact ⟨v,r,e1,Is.same e d v e2,Iss.same e l r e3⟩
end
theorem xa:∀ (l m:List D),qR l m = ((List.range (min l.length m.length)).all (fun j=>eqD (l.getD j .non) (m.getD j .non)) && l.length == m.length)
 | [],[]=>rfl
 | [],e :: m=>by simp [qR]
 | d :: l,[]=>by simp [qR]
 | d :: l,e :: m=>by
  simp only [qR,xa l m,List.length_cons]
  have h1:min (l.length + 1) (m.length + 1) = min l.length m.length + 1:=by omega
  rw [h1,List.range_succ_eq_map,List.all_cons,List.all_map]
  have h2:(l.length + 1 == m.length + 1) = (l.length == m.length):=by
   rw [Bool.eq_iff_iff,beq_iff_eq,beq_iff_eq]; omega
  rw [h2]
  simp only [List.getD_cons_zero,Bool.and_assoc]
  rfl
section
variable {X:Cx} {pins:List (Addr × Obj)} {σ:St} {H:Hp} {s:Shared}
theorem ja {a:Addr} {xs ys:List V} (I:Inv X pins σ H s) (h:SqL X.K H a xs) (g:SqT X.K H a ys):False:=by
 obtain ⟨its,r,⟨o,n,e,c,_,d⟩,_⟩:=I.list h
 obtain ⟨its',r',⟨o',e',c',n',d'⟩,_⟩:=I.tuple g
 rw [e] at e'
 cases e'
 rw [c] at c'
 exact absurd (Value.type.inj c') (by decide)
mutual
theorem kd (I:Inv X pins σ H s):∀ (d e:D) (v:V),Is X.K H d v -> Is X.K H e v -> d = e
 | .lst l,.lst m,v,h,g=>by
  simp only [Is] at h g
  obtain ⟨a,xs,rfl,h1,h2⟩:=h
  obtain ⟨b,ys,e,g1,g2⟩:=g
  cases e
  have:=I.list_inj h1 g1
  subst this
  rw [jL I l m xs h2 g2]
 | .tup l,.tup m,v,h,g=>by
  simp only [Is] at h g
  obtain ⟨a,xs,rfl,h1,h2⟩:=h
  obtain ⟨b,ys,e,g1,g2⟩:=g
  cases e
  have:=I.tuple_inj h1 g1
  subst this
  rw [jL I l m xs h2 g2]
 | .lst l,.tup m,v,h,g=>by
  simp only [Is] at h g
  obtain ⟨a,xs,rfl,h1,h2⟩:=h
  obtain ⟨b,ys,e,g1,g2⟩:=g
  cases e
  exact (ja I h1 g1).elim
 | .tup l,.lst m,v,h,g=>by
  simp only [Is] at h g
  obtain ⟨a,xs,rfl,h1,h2⟩:=h
  obtain ⟨b,ys,e,g1,g2⟩:=g
  cases e
  exact (ja I g1 h1).elim
 | .lst l,.non,v,h,g=>by simp only [Is] at h g; obtain ⟨a,xs,rfl,_⟩:=h; cases g
 | .lst l,.bl _,v,h,g=>by simp only [Is] at h g; obtain ⟨a,xs,rfl,_⟩:=h; cases g
 | .lst l,.int _,v,h,g=>by simp only [Is] at h g; obtain ⟨a,xs,rfl,_⟩:=h; cases g
 | .lst l,.str _,v,h,g=>by simp only [Is] at h g; obtain ⟨a,xs,rfl,_⟩:=h; cases g
 | .tup l,.non,v,h,g=>by simp only [Is] at h g; obtain ⟨a,xs,rfl,_⟩:=h; cases g
 | .tup l,.bl _,v,h,g=>by simp only [Is] at h g; obtain ⟨a,xs,rfl,_⟩:=h; cases g
 | .tup l,.int _,v,h,g=>by simp only [Is] at h g; obtain ⟨a,xs,rfl,_⟩:=h; cases g
 | .tup l,.str _,v,h,g=>by simp only [Is] at h g; obtain ⟨a,xs,rfl,_⟩:=h; cases g
 | .non,e,v,h,g=>by
  simp only [Is] at h
  subst h
  cases e <;> simp only [Is] at g
  all_goals first | rfl | (obtain ⟨a,xs,q,_⟩:=g; cases q) | cases g
 | .bl _,e,v,h,g=>by
  simp only [Is] at h
  subst h
  cases e <;> simp only [Is] at g
  all_goals first | (cases g; rfl) | (obtain ⟨a,xs,q,_⟩:=g; cases q) | cases g
 | .int _,e,v,h,g=>by
  simp only [Is] at h
  subst h
  cases e <;> simp only [Is] at g
  all_goals first | (cases g; rfl) | (obtain ⟨a,xs,q,_⟩:=g; cases q) | cases g
 | .str _,e,v,h,g=>by
  simp only [Is] at h
  subst h
  cases e <;> simp only [Is] at g
  all_goals first | (cases g; rfl) | (obtain ⟨a,xs,q,_⟩:=g; cases q) | cases g
theorem jL (I:Inv X pins σ H s):∀ (l m:List D) (vs:List V),Iss X.K H l vs -> Iss X.K H m vs -> l = m
 | [],[],_,_,_=>rfl
 | [],e :: m,vs,h,g=>by
  simp only [Iss] at h g
  subst h
  obtain ⟨_,_,q,_⟩:=g
  cases q
 | d :: l,[],vs,h,g=>by
  simp only [Iss] at h g
  subst g
  obtain ⟨_,_,q,_⟩:=h
  cases q
 | d :: l,e :: m,vs,h,g=>by
  simp only [Iss] at h g
  obtain ⟨v,r,rfl,h1,h2⟩:=h
  obtain ⟨v',r',q,g1,g2⟩:=g
  cases q
  rw [kd I d e v h1 g1,jL I l m r h2 g2]
end
theorem wq:∀ {xs:List V} {us:List Value} {j:Nat} {x:V},Vals xs us -> xs[j]? = some x -> ∃ u,us[j]? = some u /\ RelV x u
 | _,_,0,_,.cons r t,h=>by cases h; exact ⟨_,rfl,r⟩
 | _,_,j + 1,_,.cons r t,h=>wq (j:=j) t h
theorem yZ {l m:List D} {xs ys:List V} {its its':List Value} {A:Around} {n:Nat} (hl:Iss X.K H l xs) (hm:Iss X.K H m ys) (r:Vals xs its) (r':Vals ys its') (hn:vL l < n)
  (ih:∀ (d e:D) (x y:V) (u v:Value),dpD d < n -> Is X.K H d x -> Is X.K H e y -> RelV x u -> RelV y v -> SeqAt.EqAt A s u v (eqD d e)) :
  ∀ j (h1:j < its.toArray.size) (h2:j < its'.toArray.size),SeqAt.EqAt A s its.toArray[j] its'.toArray[j] (eqD (l.getD j .non) (m.getD j .non)):=by
 intro j h1 h2
 rw [List.size_toArray] at h1 h2
 have e1:=hl.len
 have e2:=hm.len
 have e3:=r.length
 have e4:=r'.length
 have g1:l[j]? = some l[j]:=List.getElem?_eq_getElem (by omega)
 have g2:m[j]? = some m[j]:=List.getElem?_eq_getElem (by omega)
 generalize l[j] = d at g1
 generalize m[j] = e at g2
 obtain ⟨x,hx,ix⟩:=hl.at g1
 obtain ⟨y,hy,iy⟩:=hm.at g2
 obtain ⟨u,hu,ru⟩:=wq r hx
 obtain ⟨v,hv,rv⟩:=wq r' hy
 have q1:its.toArray[j] = u:=by
  have:=(List.getElem?_eq_some_iff.mp hu).2
  simpa using this
 have q2:its'.toArray[j] = v:=by
  have:=(List.getElem?_eq_some_iff.mp hv).2
  simpa using this
 rw [q1,q2,List.getD_eq_getElem?_getD,List.getD_eq_getElem?_getD,g1,g2]
 exact ih d e x y u v (Nat.lt_of_le_of_lt (Wt g1) hn) ix iy ru rv
theorem uu (I:Inv X pins σ H s):∀ (n:Nat) (A:Around) (d e:D) (x y:V) (u v:Value),A.units + n < cLine -> dpD d < n -> Is X.K H d x -> Is X.K H e y -> RelV x u -> RelV y v -> SeqAt.EqAt A s u v (eqD d e):=by
 intro n
 induction n with
 | zero=>intro A d e x y u v _ h; exact absurd h (Nat.not_lt_zero _)
 | succ n ih =>
  intro A d e x y u v hu hd hx hy rx ry
  have hu1:A.units < cLine:=by omega
  have huA:A.in1.units + n < cLine:=by show A.units + 1 + n < cLine; omega
  cases d with
  | lst l =>
   simp only [Is] at hx
   obtain ⟨a,xs,rfl,h1,h2⟩:=hx
   cases rx
   obtain ⟨its,r,p,_⟩:=I.list h1
   cases e with
   | non=>simp only [Is] at hy; subst hy; cases ry; exact SeqAt.EqAt.list_none p.isList hu1
   | bl b=>simp only [Is] at hy; subst hy; cases ry; exact SeqAt.EqAt.list_bool b p.isList hu1
   | int b=>simp only [Is] at hy; subst hy; obtain ⟨t,rfl⟩:=ry; exact SeqAt.EqAt.list_int b t p.isList hu1
   | str b=>simp only [Is] at hy; subst hy; obtain ⟨t,rfl⟩:=ry; exact SeqAt.EqAt.list_str b t p.isList hu1
   | tup m =>
    simp only [Is] at hy
    obtain ⟨b,ys,rfl,g1,g2⟩:=hy
    cases ry
    obtain ⟨its',r',p',_⟩:=I.tuple g1
    exact SeqAt.EqAt.list_tuple p.isList p' hu1
   | lst m =>
    have hy':=hy
    simp only [Is] at hy
    obtain ⟨b,ys,rfl,g1,g2⟩:=hy
    cases ry
    obtain ⟨its',r',p',_⟩:=I.list g1
    simp only [dpD] at hd
    by_cases hab:a = b
    ·subst hab
     have:=kd I (.lst l) (.lst m) (.ref a) (by simp only [Is]; exact ⟨a,xs,rfl,h1,h2⟩) hy'
     rw [this,qG]
     exact SeqAt.EqAt.same _
    ·refine .of_refs hab ?_
     simp only [eqD]
     have L1:=h2.len
     have L2:=g2.len
     have L3:=r.length
     have L4:=r'.length
     by_cases hl:l.length = m.length
     ·have:=SeqAt.RcAt.lists (A:=A) p.isList p'.isList (by simp only [List.size_toArray]; omega) hu1 (yZ h2 g2 r r' (n:=n) (by omega) fun d e x y u v q1 q2 q3 q4 q5=>ih A.in1 d e x y u v huA q1 q2 q3 q4 q5)
      rw [xa,hl,Nat.min_self,beq_self_eq_true,Bool.and_true]
      have e1:its.toArray.size = m.length:=by simp only [List.size_toArray]; omega
      rw [e1] at this
      exact this
     ·rw [xa,beq_eq_false_iff_ne.mpr hl,Bool.and_false]
      exact SeqAt.RcAt.lists_lengths p.isList p'.isList (by rw [bne_iff_ne]; simp only [List.size_toArray]; omega) hu1
  | tup l =>
   simp only [Is] at hx
   obtain ⟨a,xs,rfl,h1,h2⟩:=hx
   cases rx
   obtain ⟨its,r,p,_⟩:=I.tuple h1
   cases e with
   | non=>simp only [Is] at hy; subst hy; cases ry; exact SeqAt.EqAt.tuple_none p hu1
   | bl b=>simp only [Is] at hy; subst hy; cases ry; exact SeqAt.EqAt.tuple_bool b p hu1
   | int b=>simp only [Is] at hy; subst hy; obtain ⟨t,rfl⟩:=ry; exact SeqAt.EqAt.tuple_int b t p hu1
   | str b=>simp only [Is] at hy; subst hy; obtain ⟨t,rfl⟩:=ry; exact SeqAt.EqAt.tuple_str b t p hu1
   | lst m =>
    simp only [Is] at hy
    obtain ⟨b,ys,rfl,g1,g2⟩:=hy
    cases ry
    obtain ⟨its',r',p',_⟩:=I.list g1
    exact SeqAt.EqAt.tuple_list p p'.isList hu1
   | tup m =>
    have hy':=hy
    simp only [Is] at hy
    obtain ⟨b,ys,rfl,g1,g2⟩:=hy
    cases ry
    obtain ⟨its',r',p',_⟩:=I.tuple g1
    simp only [dpD] at hd
    by_cases hab:a = b
    ·subst hab
     have:=kd I (.tup l) (.tup m) (.ref a) (by simp only [Is]; exact ⟨a,xs,rfl,h1,h2⟩) hy'
     rw [this,qG]
     exact SeqAt.EqAt.same _
    ·refine .of_refs hab ?_
     simp only [eqD]
     have L1:=h2.len
     have L2:=g2.len
     have L3:=r.length
     have L4:=r'.length
     have:=SeqAt.RcAt.tuples (A:=A) p p' hu1 (yZ h2 g2 r r' (n:=n) (by omega) fun d e x y u v q1 q2 q3 q4 q5=>ih A.in1 d e x y u v huA q1 q2 q3 q4 q5)
     rw [xa]
     simp only [List.size_toArray] at this
     rw [<- L1,<- L2,L3,L4]
     exact this
  | non =>
   simp only [Is] at hx
   subst hx
   cases e with
   | lst m =>
    simp only [Is] at hy
    obtain ⟨b,ys,rfl,g1,g2⟩:=hy
    cases rx; cases ry
    obtain ⟨its',r',p',_⟩:=I.list g1
    exact SeqAt.EqAt.none_list p'.isList hu1
   | tup m =>
    simp only [Is] at hy
    obtain ⟨b,ys,rfl,g1,g2⟩:=hy
    cases rx; cases ry
    obtain ⟨its',r',p',_⟩:=I.tuple g1
    exact SeqAt.EqAt.none_tuple p' hu1
   | _=>simp only [Is] at hy; subst hy; exact j3 rx ry rfl rfl
  | bl c =>
   simp only [Is] at hx
   subst hx
   cases e with
   | lst m =>
    simp only [Is] at hy
    obtain ⟨b,ys,rfl,g1,g2⟩:=hy
    cases rx; cases ry
    obtain ⟨its',r',p',_⟩:=I.list g1
    exact SeqAt.EqAt.bool_list _ p'.isList hu1
   | tup m =>
    simp only [Is] at hy
    obtain ⟨b,ys,rfl,g1,g2⟩:=hy
    cases rx; cases ry
    obtain ⟨its',r',p',_⟩:=I.tuple g1
    exact SeqAt.EqAt.bool_tuple _ p' hu1
   | _=>simp only [Is] at hy; subst hy; exact j3 rx ry rfl rfl
  | int c =>
   simp only [Is] at hx
   subst hx
   cases e with
   | lst m =>
    simp only [Is] at hy
    obtain ⟨b,ys,rfl,g1,g2⟩:=hy
    obtain ⟨t,rfl⟩:=rx; cases ry
    obtain ⟨its',r',p',_⟩:=I.list g1
    exact SeqAt.EqAt.int_list _ _ p'.isList hu1
   | tup m =>
    simp only [Is] at hy
    obtain ⟨b,ys,rfl,g1,g2⟩:=hy
    obtain ⟨t,rfl⟩:=rx; cases ry
    obtain ⟨its',r',p',_⟩:=I.tuple g1
    exact SeqAt.EqAt.int_tuple _ _ p' hu1
   | _=>simp only [Is] at hy; subst hy; exact j3 rx ry rfl rfl
  | str c =>
   simp only [Is] at hx
   subst hx
   cases e with
   | lst m =>
    simp only [Is] at hy
    obtain ⟨b,ys,rfl,g1,g2⟩:=hy
    obtain ⟨t,rfl⟩:=rx; cases ry
    obtain ⟨its',r',p',_⟩:=I.list g1
    exact SeqAt.EqAt.str_list _ _ p'.isList hu1
   | tup m =>
    simp only [Is] at hy
    obtain ⟨b,ys,rfl,g1,g2⟩:=hy
    obtain ⟨t,rfl⟩:=rx; cases ry
    obtain ⟨its',r',p',_⟩:=I.tuple g1
    exact SeqAt.EqAt.str_tuple _ _ p' hu1
   | _=>simp only [Is] at hy; subst hy; exact j3 rx ry rfl rfl
def Ji (K:PySem.W.Frag):R2:=fun x y H Q=>∃ l m,((Is K H (.lst l) x /\ Is K H (.lst m) y) \/ (Is K H (.tup l) x /\ Is K H (.tup m) y)) /\ vL l < 50 /\ Q (.bl (qR l m)) H
def Jm (K:PySem.W.Frag):R2:=fun x y H Q=>∃ l m,((Is K H (.lst l) x /\ Is K H (.lst m) y) \/ (Is K H (.tup l) x /\ Is K H (.tup m) y)) /\ vL l < 50 /\ Q (.bl (!qR l m)) H
theorem Ux (hu:X.A.units + 100 < cLine):OpR X (compareOp .Eq) (Ji X.K):=by
 intro pins s σ H x y v u Q I rx ry h
 obtain ⟨l,m,hh,hd,q⟩:=h
 have hu1:X.A.units < cLine:=by omega
 have huA:X.A.in1.units + 50 < cLine:=by show X.A.units + 1 + 50 < cLine; omega
 rcases hh with ⟨hx,hy⟩ | ⟨hx,hy⟩
 ·simp only [Is] at hx hy
  obtain ⟨a,xs,rfl,h1,h2⟩:=hx
  obtain ⟨b,ys,rfl,g1,g2⟩:=hy
  cases rx; cases ry
  obtain ⟨its,r,p,_⟩:=I.list h1
  obtain ⟨its',r',p',_⟩:=I.list g1
  have L1:=h2.len
  have L2:=g2.len
  have L3:=r.length
  have L4:=r'.length
  by_cases hl:l.length = m.length
  ·have:=SeqAt.RcAt.lists (A:=X.A) p.isList p'.isList (by simp only [List.size_toArray]; omega) hu1 (yZ h2 g2 r r' (n:=50) hd fun d e x y u v q1 q2 q3 q4 q5=>uu I 50 X.A.in1 d e x y u v huA q1 q2 q3 q4 q5)
   have e1:its.toArray.size = m.length:=by simp only [List.size_toArray]; omega
   rw [e1] at this
   rw [xa,hl,Nat.min_self,beq_self_eq_true,Bool.and_true] at q
   exact this X.prog X.w X.xe _ ⟨.bl _,H,I,rfl,q⟩
  ·rw [xa,beq_eq_false_iff_ne.mpr hl,Bool.and_false] at q
   exact SeqAt.RcAt.lists_lengths p.isList p'.isList (by rw [bne_iff_ne]; simp only [List.size_toArray]; omega) hu1 X.prog X.w X.xe _ ⟨.bl _,H,I,rfl,q⟩
 ·simp only [Is] at hx hy
  obtain ⟨a,xs,rfl,h1,h2⟩:=hx
  obtain ⟨b,ys,rfl,g1,g2⟩:=hy
  cases rx; cases ry
  obtain ⟨its,r,p,_⟩:=I.tuple h1
  obtain ⟨its',r',p',_⟩:=I.tuple g1
  have L1:=h2.len
  have L2:=g2.len
  have L3:=r.length
  have L4:=r'.length
  have:=SeqAt.RcAt.tuples (A:=X.A) p p' hu1 (yZ h2 g2 r r' (n:=50) hd fun d e x y u v q1 q2 q3 q4 q5=>uu I 50 X.A.in1 d e x y u v huA q1 q2 q3 q4 q5)
  simp only [List.size_toArray] at this
  rw [xa,<- L1,<- L2,L3,L4] at q
  exact this X.prog X.w X.xe _ ⟨.bl _,H,I,rfl,q⟩
theorem VW (hu:X.A.units + 100 < cLine):OpR X (compareOp .NotEq) (Jm X.K):=by
 intro pins s σ H x y v u Q I rx ry h
 obtain ⟨l,m,hh,hd,q⟩:=h
 have hu1:X.A.units < cLine:=by omega
 have huA:X.A.in1.units + 50 < cLine:=by show X.A.units + 1 + 50 < cLine; omega
 rcases hh with ⟨hx,hy⟩ | ⟨hx,hy⟩
 ·simp only [Is] at hx hy
  obtain ⟨a,xs,rfl,h1,h2⟩:=hx
  obtain ⟨b,ys,rfl,g1,g2⟩:=hy
  cases rx; cases ry
  obtain ⟨its,r,p,_⟩:=I.list h1
  obtain ⟨its',r',p',_⟩:=I.list g1
  have L1:=h2.len
  have L2:=g2.len
  have L3:=r.length
  have L4:=r'.length
  by_cases hl:l.length = m.length
  ·have:=SeqAt.RcNeAt.lists (A:=X.A) p.isList p'.isList (by simp only [List.size_toArray]; omega) hu1 (yZ h2 g2 r r' (n:=50) hd fun d e x y u v q1 q2 q3 q4 q5=>uu I 50 X.A.in1 d e x y u v huA q1 q2 q3 q4 q5)
   have e1:its.toArray.size = m.length:=by simp only [List.size_toArray]; omega
   rw [e1] at this
   rw [xa,hl,Nat.min_self,beq_self_eq_true,Bool.and_true] at q
   exact this X.prog X.w X.xe _ ⟨.bl _,H,I,rfl,q⟩
  ·rw [xa,beq_eq_false_iff_ne.mpr hl,Bool.and_false] at q
   exact SeqAt.RcNeAt.lists_lengths p.isList p'.isList (by rw [bne_iff_ne]; simp only [List.size_toArray]; omega) hu1 X.prog X.w X.xe _ ⟨.bl _,H,I,rfl,q⟩
 ·simp only [Is] at hx hy
  obtain ⟨a,xs,rfl,h1,h2⟩:=hx
  obtain ⟨b,ys,rfl,g1,g2⟩:=hy
  cases rx; cases ry
  obtain ⟨its,r,p,_⟩:=I.tuple h1
  obtain ⟨its',r',p',_⟩:=I.tuple g1
  have L1:=h2.len
  have L2:=g2.len
  have L3:=r.length
  have L4:=r'.length
  have:=SeqAt.RcNeAt.tuples (A:=X.A) p p' hu1 (yZ h2 g2 r r' (n:=50) hd fun d e x y u v q1 q2 q3 q4 q5=>uu I 50 X.A.in1 d e x y u v huA q1 q2 q3 q4 q5)
  simp only [List.size_toArray] at this
  rw [xa,<- L1,<- L2,L3,L4] at q
  exact this X.prog X.w X.xe _ ⟨.bl _,H,I,rfl,q⟩
end
theorem ZV (l m:List Int):qR (l.map D.int) (m.map D.int) = decide (l = m):=by
 induction l generalizing m with
 | nil=>cases m <;> simp [qR]
 | cons a l ih =>
  cases m with
  | nil=>simp [qR]
  | cons b m =>
   simp only [List.map_cons,qR,eqD,ih m]
   by_cases h1:a = b
   ·subst h1
    by_cases h2:l = m
    ·simp [h2]
    ·simp [h2]
   ·simp [h1]
theorem Yo (l:List Int):vL (l.map D.int) = 0:=by
 induction l with
 | nil=>rfl
 | cons a l ih=>simp only [List.map_cons,vL,dpD,ih]; rfl
abbrev CNx (n i:Nat) (Pv:Nat -> List V -> Hp -> Prop) (acc:List V) (H:Hp):Prop:=∃ m',m' < n - i /\ (m' = n - (i + 1) /\ i + 1 <= n /\ Pv (i + 1) acc H)
theorem CNx.mk {n i:Nat} {Pv:Nat -> List V -> Hp -> Prop} {acc:List V} {H:Hp} (hi:i < n) (h:Pv (i + 1) acc H):CNx n i Pv acc H:=⟨n - (i + 1),by omega,rfl,hi,h⟩
def ZD (J:It) (g:TG) (tt:TT) (te:TE) (own:Nat) (ix:List Nat) (σ:St) (H1:Hp) (Q:VK) (D:Addr):Prop:=∃ W:Nat -> Nat -> List V -> Hp -> Prop,(∃ m,W 0 m [] (upd H1 D (.lst []))) /\
 ∀ i m acc H',W i m acc H' -> (J.stop i H' /\ Q (.ref D) H') \/ (J.go i H' /\ ∀ x H2,J.yld i H' x H2 -> g x (vU σ own ix) H2 fun σ3 H3=>xD (vU σ own ix) σ3 /\ tt σ3 H3 fun b H4=>if b = true then
  te σ3 H4 fun v H5=>H5 D = some (.lst acc) /\ acc.length < sizeLine /\ ∃ m',m' < m /\ W (i + 1) m' (acc ++ [v]) (upd H5 D (.lst (acc ++ [v])))
  else ∃ m',m' < m /\ W (i + 1) m' acc H4)
def U9 (lo:Int) (n:Nat) (g:TG) (tt:TT) (te:TE) (own:Nat) (ix:List Nat) (σ:St) (H1:Hp) (Q:VK) (D:Addr):Prop:=ZD (Itr lo n) g tt te own ix σ H1 Q D
def CompL (K:PySem.W.Frag) (a:Addr) (g:TG) (tt:TT) (te:TE) (own:Nat) (ix:List Nat) (σ:St) (H1:Hp) (Q:VK) (D:Addr):Prop:=ZD (Itl K a) g tt te own ix σ H1 Q D
def CompS (x:Str) (g:TG) (tt:TT) (te:TE) (own:Nat) (ix:List Nat) (σ:St) (H1:Hp) (Q:VK) (D:Addr):Prop:=ZD (Its x) g tt te own ix σ H1 Q D
theorem Us {ta:TA} {g:TG} {tt:TT} {te:TE} {own:Nat} {ix:List Nat} {σ:St} {H:Hp} {Q:VK}:jE (Vn ta) g tt te own ix σ H Q = ta σ H fun vs H1=>∃ j:Int,vs = [.int j] /\ -(2 ^ 62) <= j /\ j < 2 ^ 62 /\ ∀ D,H1 D = none -> U9 0 j.toNat g tt te own ix σ H1 Q D:=rfl
theorem U8 {K:PySem.W.Frag} {tl:TE} {g:TG} {tt:TT} {te:TE} {own:Nat} {ix:List Nat} {σ:St} {H:Hp} {Q:VK}:jE (Vm K tl) g tt te own ix σ H Q = tl σ H fun x H1=>∃ a,x = .ref a /\ (∃ xs,SqL K H1 a xs) /\ ∀ D,H1 D = none -> CompL K a g tt te own ix σ H1 Q D:=rfl
theorem U7 {tl:TE} {g:TG} {tt:TT} {te:TE} {own:Nat} {ix:List Nat} {σ:St} {H:Hp} {Q:VK}:jE (Qy tl) g tt te own ix σ H Q = tl σ H fun v H1=>∃ x,v = .str x /\ ∀ D,H1 D = none -> CompS x g tt te own ix σ H1 Q D:=rfl
section
variable {g:TG} {tt:TT} {te:TE} {own:Nat} {ix:List Nat} {σ:St} {H1:Hp} {Q:VK} {D:Addr}
theorem CompL.by {K:PySem.W.Frag} {a:Addr} {xs:List V} (Pv:Nat -> List V -> Hp -> Prop) (h0:Pv 0 [] (upd H1 D (.lst []))) (hl:∀ i acc H',i <= xs.length -> Pv i acc H' -> SqL K H' a xs)
  (hs:∀ i x acc H',xs[i]? = some x -> Pv i acc H' -> g x (vU σ own ix) H' fun σ3 H3=>xD (vU σ own ix) σ3 /\ tt σ3 H3 fun b H4=>if b = true then
   te σ3 H4 fun v H5=>H5 D = some (.lst acc) /\ acc.length < sizeLine /\ CNx xs.length i Pv (acc ++ [v]) (upd H5 D (.lst (acc ++ [v]))) else CNx xs.length i Pv acc H4)
  (hd:∀ acc H',Pv xs.length acc H' -> Q (.ref D) H'):CompL K a g tt te own ix σ H1 Q D:=by
 refine ⟨fun i m acc H=>m = xs.length - i /\ i <= xs.length /\ Pv i acc H,⟨xs.length,by simp,Nat.zero_le _,h0⟩,?_⟩
 rintro i m acc H' ⟨rfl,hi,p⟩
 have q:=hl i acc H' hi p
 by_cases hlt:i < xs.length
 ·refine .inr ⟨⟨xs,xs[i],q,by simp [hlt]⟩,fun x H2 y=>?_⟩
  obtain ⟨e,y⟩:=y
  subst e
  exact hs i x acc _ (y xs q) p
 ·have e:i = xs.length:=by omega
  subst e
  exact .inl ⟨⟨xs,q,Nat.le_refl _⟩,hd acc H' p⟩
theorem CompS.by {l:List Nat} (Pv:Nat -> List V -> Hp -> Prop) (h0:Pv 0 [] (upd H1 D (.lst [])))
  (hs:∀ i c acc H',l[i]? = some c -> Pv i acc H' -> g (.str (tx [c])) (vU σ own ix) H' fun σ3 H3=>xD (vU σ own ix) σ3 /\ tt σ3 H3 fun b H4=>if b = true then
   te σ3 H4 fun v H5=>H5 D = some (.lst acc) /\ acc.length < sizeLine /\ CNx l.length i Pv (acc ++ [v]) (upd H5 D (.lst (acc ++ [v]))) else CNx l.length i Pv acc H4)
  (hd:∀ acc H',Pv l.length acc H' -> Q (.ref D) H'):CompS (tx l) g tt te own ix σ H1 Q D:=by
 refine ⟨fun i m acc H=>m = l.length - i /\ i <= l.length /\ Pv i acc H,⟨l.length,by simp,Nat.zero_le _,h0⟩,?_⟩
 rintro i m acc H' ⟨rfl,hi,p⟩
 by_cases hlt:i < l.length
 ·refine .inr ⟨hlt,fun v H2 y=>?_⟩
  obtain ⟨e,c,hc,ev⟩:=y
  subst e ev
  exact hs i c acc _ hc p
 ·have e:i = l.length:=by omega
  subst e
  exact .inl ⟨rfl,hd acc H' p⟩
end
theorem uc {x:V} {r:St}:xD (none :: r) (some x :: r):=⟨rfl,fun i v h=>by
 cases i with
 | zero=>cases h
 | succ i=>exact h⟩
theorem yy {X:Cx} {scope sc:Scope} {own caps:List Str} {ix:List Nat} (h1:scope.kind = .function) (h2:scope.names.all (fun y=>y.2 != .cell) = true) (h3:scope.names.all (fun y=>y.2 != .local || scope.names.lookup y.1 == some .local) = true)
  (h4:scope.names.all (fun y=>y.2 != .free || sc.names.lookup y.1 == some .cell) = true) (hsc:X.env.scope = sc) (h5:own.all (fun y=>scope.names.lookup y == some .local) = true) (h6:caps.all (fun y=>scope.names.lookup y == some .free) = true) (h7:ix.map (fun i=>X.N[i]?) = caps.map some):qJ X scope own caps ix:=by
 refine ⟨h1,fun y hy=>?_,fun y hy e=>?_,fun y hy=>?_,fun y hy=>?_,fun y hy=>?_,h7⟩
 ·have:=List.all_eq_true.mp h2 y hy
  simpa using this
 ·have:=List.all_eq_true.mp h3 y hy
  rw [e] at this
  simpa using this
 ·have:=List.all_eq_true.mp h4 _ hy
  have:=by simpa using this
  show X.env.scope.names.lookup y = some .cell
  rw [hsc]
  exact this
 ·have:=List.all_eq_true.mp h5 y hy
  simpa using this
 ·have:=List.all_eq_true.mp h6 y hy
  simpa using this
theorem ZX {α:Type} (l:List α) {a b:Int} (h0:0 <= a) (h1:a <= b) (h2:b <= l.length):cut l (some a) (some b) = (l.drop a.toNat).take (b - a).toNat:=by
 obtain ⟨m,rfl⟩:=Int.eq_ofNat_of_zero_le h0
 obtain ⟨n,rfl⟩:=Int.eq_ofNat_of_zero_le (by omega:0 <= b)
 unfold cut
 rw [HT.sIx_nat,HT.sIx_nat,Nat.min_eq_left (by omega),Nat.min_eq_left (by omega)]
 have:((n:Int) - (m:Int)).toNat = n - m:=by omega
 rw [this]
 rfl
theorem qj {k:Nat} {A:Around} (r:Room k A):A.units + 100 < cLine:=by have:=r.un; omega
end L3
namespace L3
open PySem PySem.Spec PyProof.Rows L2
theorem Vj {K:PySem.W.Frag} {x y:V} {H:Hp} {Q:VK} {l m:List D} (h:(Is K H (.lst l) x /\ Is K H (.lst m) y) \/ (Is K H (.tup l) x /\ Is K H (.tup m) y)) (hd:vL l < 50) (q:Q (.bl (qR l m)) H):Ji K x y H Q:=⟨l,m,h,hd,q⟩
theorem VC {K:PySem.W.Frag} {x y:V} {H:Hp} {Q:VK} {l m:List D} (h:(Is K H (.lst l) x /\ Is K H (.lst m) y) \/ (Is K H (.tup l) x /\ Is K H (.tup m) y)) (hd:vL l < 50) (q:Q (.bl (!qR l m)) H):Jm K x y H Q:=⟨l,m,h,hd,q⟩
def Jo (t u:TS):TS:=fun D σ H=>∃ R:St -> Hp -> Prop,t { D with nx:=R } σ H /\ ∀ σ' H',R σ' H' -> u D σ' H'
theorem zh {X:Cx} {st:Stmt} {rest:List Stmt} {t u:TS} (h1:PS X st t) (h2:PSs X rest u):PSs X (st :: rest) (Jo t u):=by
 intro pins s σ H D I h
 obtain ⟨R,h,hr⟩:=h
 refine wpAny_execs_cons (thn (h1 pins s σ H { D with nx:=R } I h) fun f s1 q=>?_)
 cases f with
 | next =>
  obtain ⟨σ',H',I',q⟩:=q
  exact h2 pins s1 σ' H' D I' (hr _ _ q)
 | ret v=>exact q
 | brk=>exact q
 | cont=>exact q
theorem zk {t u:TS} {D:xg} {σ:St} {H:Hp} (R:St -> Hp -> Prop) (h:t { D with nx:=R } σ H) (hr:∀ σ' H',R σ' H' -> u D σ' H'):Jo t u D σ H:=⟨R,h,hr⟩
theorem zC {H H':Hp} {a:Addr} {o:HO} (h:Same H H') (e:H a = none):Same H (upd H' a o):=fun b u q=>by
 rw [zi (zv q e)]
 exact h b u q
theorem ForL.by {K:PySem.W.Frag} {a:Addr} {xs:List V} {g:TG} {tb:TS} {D:xg} {σ:St} {H:Hp} (Pv:Nat -> St -> Hp -> Prop) (h0:Pv 0 σ H) (hl:∀ i σ H,i <= xs.length -> Pv i σ H -> SqL K H a xs)
  (hs:∀ i x σ H,xs[i]? = some x -> Pv i σ H -> g x σ H fun σ2 H2=>tb { D with nx:=Pv (i + 1),ct:=Pv (i + 1),bk:=D.nx } σ2 H2) (hd:∀ σ H,Pv xs.length σ H -> D.nx σ H):ForL K a g tb D σ H:=XS Pv h0 hl hs hd
theorem J5 {A B:Prop} (h:A):if false = false then A else B:=by rw [if_pos rfl]; exact h
theorem VP {A B:Prop} (h:B):if true = false then A else B:=by rw [if_neg (by decide)]; exact h
def Qa (K:PySem.W.Frag) (a:Addr) (n:Nat) (g:TG) (tt:TT) (te:TE) (own:Nat) (ix:List Nat) (σ:L2.St) (H1:Hp) (Q:VK) (D:Addr):Prop:=ZD (Irv K a n) g tt te own ix σ H1 Q D
theorem Qe {K:PySem.W.Frag} {ta:TA} {g:TG} {tt:TT} {te:TE} {own:Nat} {ix:List Nat} {σ:L2.St} {H:Hp} {Q:VK}:jE (JL K ta) g tt te own ix σ H Q = ta σ H fun vs H1=>∃ a xs,vs = [.ref a] /\ SqL K H1 a xs /\ ∀ D,H1 D = none -> Qa K a xs.length g tt te own ix σ H1 Q D:=rfl
end L3
namespace L3
open PySem PySem.Spec PyProof.Rows L2
section
variable {X:Cx}
end
end L3
namespace L3
open PySem PySem.Spec PyProof.Rows L2
section
variable {M:Model} {A:Around} {E:Value -> Shared -> Prop} {s:Shared} {base:Heap} {env env0:Env} {outer:List Env} {L x t C:Addr} {dx:Option Addr}
end
section
variable {X:Cx} {pins:List (Addr × Obj)} {σ:St} {H1:Hp} {s1:Shared}
theorem Inv.noted {h':Heap} {x T:Addr} {tb:Value} (I1:Inv X pins σ H1 s1) (hst:X.stack = X.env :: X.outer) (fx:wZ X pins H1 x) (fT:∀ T,tb = .ref T -> wZ X pins H1 T) (fT':wZ X pins H1 T)
  (k1:∀ b o,b ≠ x -> tb ≠ .ref b -> b ∉ frs (X.env :: X.outer) -> s1.heap.get? b = some o -> h'.get? b = some o) (k2:∀ b o,b ≠ x -> tb ≠ .ref b -> s1.heap.get? b = some o -> ∃ sl,h'.get? b = some { o with slots:=sl }):Inv X pins σ H1 { s1 with heap:=h' }:=by
 have tbs:∀ b,tb = .ref b -> H1 b = none:=fun b hb=>(fT b hb).1
 have nch:∀ b o,s1.heap.get? b = some o -> b ∉ (x :: T :: tbL tb) -> b ≠ x /\ tb ≠ .ref b:=fun b o _ hb=>by
  refine ⟨fun z=>hb (by simp [z]),fun z=>hb ?_⟩
  rw [z]
  simp [tbL]
 have un:Un (frs X.stack) (x :: T :: tbL tb) H1 H1 s1.heap h':=by
  rw [hst]
  refine ⟨fun b o e n hb hc=>?_,fun b o e n hb hc=>?_,fun b o e n _=>n,fun b o e hc=>?_,fun b xs e=>e,fun b o u e=>e,fun b ps e=>⟨#[],by rw [e]; simp⟩⟩
  ·obtain ⟨a1,a2⟩:=nch b o e hc
   exact k1 b o a1 a2 hb e
  ·obtain ⟨a1,a2⟩:=nch b o e hc
   exact k2 b o a1 a2 e
  ·obtain ⟨a1,a2⟩:=nch b o e hc
   obtain ⟨sl,q⟩:=k2 b o a1 a2 e
   exact ⟨_,q⟩
 have hok:HOk X.prog X.w H1 h':=fun b u e=>by
  refine (I1.hok b u e).stay (fun c v hc q=>k1 c v ?_ ?_ ?_ q) (fun _ q=>q) fun _ _ q=>q
  ·rintro rfl
   rcases hc with rfl | hc
   ·rw [fx.1] at e; cases e
   ·rw [fx.1] at hc; cases hc
  ·intro z
   have:=tbs c z
   rcases hc with rfl | hc
   ·rw [this] at e; cases e
   ·rw [this] at hc; cases hc
  ·intro z
   rw [<- hst] at z
   have:=I1.stkFree c z
   rcases hc with rfl | hc
   ·rw [this] at e; cases e
   ·rw [this] at hc; cases hc
 exact I1.call' (s':={ s1 with heap:=h' }) rfl un hok I1.bare fun b hb=>by
  have fb:wZ X pins H1 b:=by
   rcases List.mem_cons.mp hb with z | z
   ·rw [z]; exact fx
   ·rcases List.mem_cons.mp z with z | z
    ·rw [z]; exact fT'
    ·cases tb with
     | ref b' =>
      have:b = b':=by simpa [tbL] using z
      rw [this]; exact fT b' rfl
     | _=>simp [tbL] at z
  obtain ⟨_,a1,_,a3,a4,a5⟩:=fb
  exact ⟨a3,a1,a4,a5⟩
end
section
variable {X:Cx} {scope:Scope} {own caps:List Str} {ix:List Nat} {cl:List (Str × Addr)}
end
section
variable {X:Cx} {scope:Scope} {own caps:List Str} {ix:List Nat} {elt tg iter:Expr} {ifs:List Expr} {pos:Pos} {wi:TI} {g:TG} {tt:TT} {te:TE}
end
end L3
namespace L3
open PySem PySem.Spec PyProof.Rows L2
open AutoSeq1 (wpAny_loadPart')
open MeetsSeq MeetsSeq2 MeetsSeq3 SeqRoads2 SeqAt
def LtAt (A:Around) (s:Shared) (y x:Value) (b:Bool):Prop :=
 ∀ (prog:Program) (w:World) (E:Value -> Shared -> Prop) (Q:Value -> Shared -> Prop),Q (.bool b) s -> wpAny (model prog w) A (richCompare .Lt y x) Q E s
def kY (e t r:Nat -> Bool) (m n:Nat):Prop:=∀ i,i <= m -> i <= n -> r i = if i < m /\ i < n then (if e i = true then r (i + 1) else t i) else decide (m < n)
theorem Yw (l b:Addr) (items items2:Array Value) (n n2:Nat) (dd dd2:Option Addr) (sl sl2:Array (Option Value)) (e t r:Nat -> Bool) (hr:kY e t r items.size items2.size) (k:Nat) :
  ∀ i:Nat,i <= items.size -> i <= items2.size -> items.size - i = k -> Meets (Builtin.«list.__eq__.loop» ⟨[.ref l,.ref b,rawInt i,rawInt 0],[]⟩)
   (fun A R s=>s.heap.get? l = some { cls:=.type "list",dict:=dd,data:=.seq items n,slots:=sl } /\ s.heap.get? b = some { cls:=.type "list",dict:=dd2,data:=.seq items2 n2,slots:=sl2 } /\
    (∀ j (h1:j < items.size) (h2:j < items2.size),EqAt A.in1 s items[j] items2[j] (e j)) /\ (∀ j (h1:j < items.size) (h2:j < items2.size),e j = false -> LtAt A.in1 s items[j] items2[j] (t j)) /\
    R (.ok (.ret (.bool (r i)))) s):=by
 induction k with
 | zero =>
  intro i b1 b2 hk prog w A R s h
  obtain ⟨hp,g,d,tk,os⟩:=s; obtain ⟨hl,hb,he,ht,h⟩:=h
  have hri:=hr i b1 b2
  rw [if_neg (by omega)] at hri
  rw [hri] at h
  wp_walk using wpAny_loadPart' hl,wpAny_loadPart' hb
  have hi1:items[((i:Nat):Int).toNat]? = none:=by simp; omega
  rw [hi1]
  wp_walk using wpAny_loadPart' hl,wpAny_loadPart' hb
  exact h
 | succ k ih =>
  intro i b1 b2 hk prog w A R s h
  obtain ⟨hp,g,d,tk,os⟩:=s; obtain ⟨hl,hb,he,ht,h⟩:=h
  have hlt:i < items.size:=by omega
  have hi1:items[((i:Nat):Int).toNat]? = some items[i]:=by simp [hlt]
  have hc:((i:Int) + 1) = ((i + 1:Nat):Int):=by push_cast; rfl
  have hri:=hr i b1 b2
  by_cases hlt2:i < items2.size
  ·rw [if_pos ⟨hlt,hlt2⟩] at hri
   rw [hri] at h
   have hi2:items2[((i:Nat):Int).toNat]? = some items2[i]:=by simp [hlt2]
   wp_walk using wpAny_loadPart' hl,wpAny_loadPart' hb
   rw [hi1,hi2]
   refine wpAny_bind (he i hlt hlt2 prog w _ _ ?_)
   cases hb':e i with
   | true =>
    rw [hb',if_pos rfl] at h
    wp_walk
    rw [hc]
    exact ⟨plainId_quiet plain_eq_loop _,codeAny_builtin entry_eq_loop (by
     rw [Around.under_plainId plain_eq_loop _]
     exact ih (i + 1) (by omega) (by omega) (by omega) prog w A R _ ⟨hl,hb,he,ht,h⟩)⟩
   | false =>
    rw [hb',if_neg Bool.false_ne_true] at h
    wp_walk using wpAny_loadPart' hl,wpAny_loadPart' hb
    rw [hi1,hi2]
    refine wpAny_bind (ht i hlt hlt2 hb' prog w _ _ ?_)
    wp_walk
    exact h
  ·rw [if_neg (by omega)] at hri
   rw [hri] at h
   have hi2:items2[((i:Nat):Int).toNat]? = none:=by simp; omega
   wp_walk using wpAny_loadPart' hl,wpAny_loadPart' hb
   rw [hi1,hi2]
   wp_walk using wpAny_loadPart' hl,wpAny_loadPart' hb
   exact h
theorem Yl (l b:Addr) (items items2:Array Value) (n n2:Nat) (dd dd2:Option Addr) (sl sl2:Array (Option Value)) (e t r:Nat -> Bool) (hr:kY e t r items.size items2.size) :
  Meets (Builtin.«list.__lt__» ⟨[.ref l,.ref b],[]⟩)
   (fun A R s=>s.heap.get? l = some { cls:=.type "list",dict:=dd,data:=.seq items n,slots:=sl } /\ s.heap.get? b = some { cls:=.type "list",dict:=dd2,data:=.seq items2 n2,slots:=sl2 } /\
    (∀ j (h1:j < items.size) (h2:j < items2.size),EqAt A.in1 s items[j] items2[j] (e j)) /\ (∀ j (h1:j < items.size) (h2:j < items2.size),e j = false -> LtAt A.in1 s items[j] items2[j] (t j)) /\
    R (.ok (.ret (.bool (r 0)))) s):=by
 intro prog w A R s h
 obtain ⟨hp,g,d,tk,os⟩:=s; obtain ⟨hl,hb,he,ht,h⟩:=h
 have f3:=AutoSeq1.sub_list_list
 wp_walk using wpAny_loadPart' hl,wpAny_loadPart' hb
 exact ⟨plainId_quiet plain_eq_loop _,codeAny_builtin entry_eq_loop (by
  rw [Around.under_plainId plain_eq_loop _]
  exact Yw l b items items2 n n2 dd dd2 sl sl2 e t r hr _ 0 (Nat.zero_le _) (Nat.zero_le _) rfl prog w A R _ ⟨hl,hb,he,ht,h⟩)⟩
theorem kW (l b:Addr) (items items2:Array Value) (n n2:Nat) (dd dd2:Option Addr) (sl sl2:Array (Option Value)) (e t r:Nat -> Bool) (hr:kY e t r items.size items2.size) :
  Meets (Builtin.«tuple.__lt__» ⟨[.ref l,.ref b],[]⟩)
   (fun A R s=>s.heap.get? l = some { cls:=.type "tuple",dict:=dd,data:=.seq items n,slots:=sl } /\ s.heap.get? b = some { cls:=.type "tuple",dict:=dd2,data:=.seq items2 n2,slots:=sl2 } /\
    (∀ j (h1:j < items.size) (h2:j < items2.size),EqAt A.in1 s items[j] items2[j] (e j)) /\ (∀ j (h1:j < items.size) (h2:j < items2.size),e j = false -> LtAt A.in1 s items[j] items2[j] (t j)) /\
    R (.ok (.ret (.bool (r 0)))) s) :=
 .of_wp fun prog w A R s h=>by
  obtain ⟨hp,g,d,tk,os⟩:=s; obtain ⟨hl,hb,he,ht,h⟩:=h
  have f2:=AutoSeq1.sub_tuple_tuple
  have hZ:(items.toList.zip items2.toList).length = min items.size items2.size:=by simp
  wp_walk using wpAny_loadPart' hl,wpAny_loadPart' hb,wpAny_forIn_list _ (fun rest b s'=>b.1 = none /\ s' = ⟨hp,g,d,tk,os⟩ /\ ∃ i,i <= min items.size items2.size /\ rest = (items.toList.zip items2.toList).drop i /\
   R (.ok (.ret (.bool (r i)))) ⟨hp,g,d,tk,os⟩) _
  case turn =>
   rintro ⟨y,x⟩ rest b s' ⟨hb',rfl,i,hi,hz,hR⟩
   have hlt:i < (items.toList.zip items2.toList).length:=by
    rcases Nat.lt_or_ge i (items.toList.zip items2.toList).length with h' | h'
    ·exact h'
    ·rw [List.drop_of_length_le h'] at hz; cases hz
   have hm:i < min items.size items2.size:=hZ ▸ hlt
   have h1:i < items.size:=Nat.lt_of_lt_of_le hm (Nat.min_le_left _ _)
   have h2:i < items2.size:=Nat.lt_of_lt_of_le hm (Nat.min_le_right _ _)
   rw [List.drop_eq_getElem_cons hlt] at hz
   injection hz with hyx hrest
   have hy:y = items[i]:=by have:=congrArg Prod.fst hyx; simpa using this
   have hx:x = items2[i]:=by have:=congrArg Prod.snd hyx; simpa using this
   subst hy hx
   have hri:=hr i (by omega) (by omega)
   rw [if_pos ⟨h1,h2⟩] at hri
   rw [hri] at hR
   refine wpAny_bind (he i h1 h2 prog w _ _ ?_)
   cases hy:e i with
   | true =>
    rw [hy,if_pos rfl] at hR
    wp_walk
    exact ⟨rfl,rfl,i + 1,by omega,hrest,hR⟩
   | false =>
    rw [hy,if_neg Bool.false_ne_true] at hR
    simp only [Bool.not_false,if_true]
    refine wpAny_bind (wpAny_rule ?_)
    refine wpAny_bind (ht i h1 h2 hy prog w _ _ ?_)
    wp_walk
    exact ⟨_,rfl,hR⟩
  case fin =>
   rintro ⟨b1,b2⟩ s' ⟨hb',rfl,i,hi,hz,hR⟩
   simp only at hb'
   subst hb'
   have hge:min items.size items2.size <= i:=by
    rcases Nat.lt_or_ge i (items.toList.zip items2.toList).length with h' | h'
    ·rw [List.drop_eq_getElem_cons h'] at hz; cases hz
    ·exact hZ ▸ h'
   have hri:=hr i (by omega) (by omega)
   rw [if_neg (by omega)] at hri
   rw [hri] at hR
   wp_walk
   exact ⟨_,rfl,hR⟩
  case h =>
   exact ⟨rfl,rfl,0,Nat.zero_le _,rfl,h⟩
theorem LtAt.lists {A:Around} {s:Shared} {l b:Addr} {items items2:Array Value} {e t r:Nat -> Bool} (hl:s.heap.IsList l items) (hb:s.heap.IsList b items2) (hr:kY e t r items.size items2.size) (hu:A.units < cLine)
  (he:∀ j (h1:j < items.size) (h2:j < items2.size),EqAt A.in1 s items[j] items2[j] (e j)) (ht:∀ j (h1:j < items.size) (h2:j < items2.size),e j = false -> LtAt A.in1 s items[j] items2[j] (t j)):LtAt A s (.ref l) (.ref b) (r 0):=fun prog w E Q h=>by
 obtain ⟨⟨cls,dd,data,sl⟩,ho,hc,n,hd⟩:=id hl
 obtain ⟨⟨cls2,dd2,data2,sl2⟩,ho2,hc2,n2,hd2⟩:=id hb
 simp only at hc hd hc2 hd2
 subst hc hd hc2 hd2
 exact richCompare_meets_room (op:=.Lt) ⟨_,ho,rfl⟩ ⟨_,ho2,rfl⟩ F.slot_list_lt F.entry_list_lt (F.args_list_lt_2 _ _) (Yl l b items items2 n n2 dd dd2 sl sl2 e t r hr)
  ⟨ho,ho2,he,ht,show Value.bool (r 0) ≠ Value.notImplemented /\ Q (.bool (r 0)) s from ⟨(fun x=>nomatch x),h⟩⟩ hu
theorem LtAt.tuples {A:Around} {s:Shared} {l b:Addr} {items items2:Array Value} {e t r:Nat -> Bool} (hl:s.heap.IsTuple l items) (hb:s.heap.IsTuple b items2) (hr:kY e t r items.size items2.size) (hu:A.units < cLine)
  (he:∀ j (h1:j < items.size) (h2:j < items2.size),EqAt A.in1 s items[j] items2[j] (e j)) (ht:∀ j (h1:j < items.size) (h2:j < items2.size),e j = false -> LtAt A.in1 s items[j] items2[j] (t j)):LtAt A s (.ref l) (.ref b) (r 0):=fun prog w E Q h=>by
 obtain ⟨⟨cls,dd,data,sl⟩,ho,hc,n,hd⟩:=id hl
 obtain ⟨⟨cls2,dd2,data2,sl2⟩,ho2,hc2,n2,hd2⟩:=id hb
 simp only at hc hd hc2 hd2
 subst hc hd hc2 hd2
 exact richCompare_meets_room (op:=.Lt) ⟨_,ho,rfl⟩ ⟨_,ho2,rfl⟩ F.slot_tuple_lt F.entry_tuple_lt (F.args_tuple_lt_2 _ _) (kW l b items items2 n n2 dd dd2 sl sl2 e t r hr)
  ⟨ho,ho2,he,ht,show Value.bool (r 0) ≠ Value.notImplemented /\ Q (.bool (r 0)) s from ⟨(fun x=>nomatch x),h⟩⟩ hu
end L3
namespace L3
open PySem PySem.Spec PyProof.Rows L2
mutual
def okD:D -> D -> Prop
 | .int _,.int _=>True
 | .lst l,.lst m=>ZA l m
 | .tup l,.tup m=>ZA l m
 | _,_=>False
def ZA:List D -> List D -> Prop
 | d :: l,e :: m=>okD d e /\ ZA l m
 | _,_=>True
end
mutual
def ltD:D -> D -> Bool
 | .int a,.int b=>decide (a < b)
 | .lst l,.lst m=>kM l m
 | .tup l,.tup m=>kM l m
 | _,_=>false
def kM:List D -> List D -> Bool
 | d :: l,e :: m=>if eqD d e = true then kM l m else ltD d e
 | [],_ :: _=>true
 | _,[]=>false
end
theorem ZH (l m:List D):kY (fun j=>eqD (l.getD j .non) (m.getD j .non)) (fun j=>ltD (l.getD j .non) (m.getD j .non)) (fun i=>kM (l.drop i) (m.drop i)) l.length m.length:=by
 intro i b1 b2
 simp only
 by_cases h:i < l.length /\ i < m.length
 ·rw [if_pos h,List.drop_eq_getElem_cons h.1,List.drop_eq_getElem_cons h.2,kM]
  rw [List.getD_eq_getElem?_getD,List.getD_eq_getElem?_getD,List.getElem?_eq_getElem h.1,List.getElem?_eq_getElem h.2]
  rfl
 ·rw [if_neg h]
  by_cases h1:i < l.length
  ·have h2:¬ i < m.length:=fun z=>h ⟨h1,z⟩
   rw [List.drop_eq_getElem_cons h1,List.drop_of_length_le (Nat.le_of_not_lt h2),kM]
   ·simp; omega
   all_goals simp
  ·rw [List.drop_of_length_le (Nat.le_of_not_lt h1)]
   by_cases h2:i < m.length
   ·rw [List.drop_eq_getElem_cons h2,kM]
    simp; omega
   ·rw [List.drop_of_length_le (Nat.le_of_not_lt h2),kM]
    ·simp; omega
    all_goals simp
theorem UB:∀ {l m:List D} {j:Nat} {d e:D},ZA l m -> l[j]? = some d -> m[j]? = some e -> okD d e
 | d :: l,e :: m,0,_,_,h,q1,q2=>by
  cases q1; cases q2
  simp only [ZA] at h
  exact h.1
 | d :: l,e :: m,j + 1,_,_,h,q1,q2=>by
  simp only [ZA] at h
  exact UB (j:=j) h.2 q1 q2
section
variable {X:Cx} {pins:List (Addr × Obj)} {σ:St} {H:Hp} {s:Shared}
theorem j8 {l m:List D} {xs ys:List V} {its its':List Value} {A:Around} {n:Nat} (hl:Iss X.K H l xs) (hm:Iss X.K H m ys) (r:Vals xs its) (r':Vals ys its') (hn:vL l < n) (ok:ZA l m)
  (ih:∀ (d e:D) (x y:V) (u v:Value),dpD d < n -> okD d e -> Is X.K H d x -> Is X.K H e y -> RelV x u -> RelV y v -> LtAt A s u v (ltD d e)) :
  ∀ j (h1:j < its.toArray.size) (h2:j < its'.toArray.size),LtAt A s its.toArray[j] its'.toArray[j] (ltD (l.getD j .non) (m.getD j .non)):=by
 intro j h1 h2
 rw [List.size_toArray] at h1 h2
 have e1:=hl.len
 have e2:=hm.len
 have e3:=r.length
 have e4:=r'.length
 have g1:l[j]? = some l[j]:=List.getElem?_eq_getElem (by omega)
 have g2:m[j]? = some m[j]:=List.getElem?_eq_getElem (by omega)
 generalize l[j] = d at g1
 generalize m[j] = e at g2
 obtain ⟨x,hx,ix⟩:=hl.at g1
 obtain ⟨y,hy,iy⟩:=hm.at g2
 obtain ⟨u,hu,ru⟩:=wq r hx
 obtain ⟨v,hv,rv⟩:=wq r' hy
 have q1:its.toArray[j] = u:=by
  have:=(List.getElem?_eq_some_iff.mp hu).2
  simpa using this
 have q2:its'.toArray[j] = v:=by
  have:=(List.getElem?_eq_some_iff.mp hv).2
  simpa using this
 rw [q1,q2,List.getD_eq_getElem?_getD,List.getD_eq_getElem?_getD,g1,g2]
 exact ih d e x y u v (Nat.lt_of_le_of_lt (Wt g1) hn) (UB ok g1 g2) ix iy ru rv
theorem Ug (I:Inv X pins σ H s):∀ (n:Nat) (A:Around) (d e:D) (x y:V) (u v:Value),A.units + n < cLine -> dpD d < n -> okD d e -> Is X.K H d x -> Is X.K H e y -> RelV x u -> RelV y v -> LtAt A s u v (ltD d e):=by
 intro n
 induction n with
 | zero=>intro A d e x y u v _ h; exact absurd h (Nat.not_lt_zero _)
 | succ n ih =>
  intro A d e x y u v hu hd ok hx hy rx ry
  have hu1:A.units < cLine:=by omega
  have huA:A.in1.units + n < cLine:=by show A.units + 1 + n < cLine; omega
  cases d with
  | int a =>
   cases e with
   | int b =>
    simp only [Is] at hx hy
    subst hx hy
    obtain ⟨t,rfl⟩:=rx
    obtain ⟨t',rfl⟩:=ry
    exact fun prog w E Q h=>lt_int h
   | _=>simp only [okD] at ok
  | lst l =>
   cases e with
   | lst m =>
    simp only [Is] at hx hy
    obtain ⟨a,xs,rfl,h1,h2⟩:=hx
    obtain ⟨b,ys,rfl,g1,g2⟩:=hy
    cases rx; cases ry
    obtain ⟨its,r,p,_⟩:=I.list h1
    obtain ⟨its',r',p',_⟩:=I.list g1
    simp only [dpD] at hd
    simp only [okD] at ok
    have L1:=h2.len
    have L2:=g2.len
    have L3:=r.length
    have L4:=r'.length
    have st:=ZH l m
    rw [show l.length = its.toArray.size by simp only [List.size_toArray]; omega,show m.length = its'.toArray.size by simp only [List.size_toArray]; omega] at st
    exact LtAt.lists (A:=A) p.isList p'.isList st hu1 (yZ h2 g2 r r' (n:=n) (by omega) fun d e x y u v q1 q2 q3 q4 q5=>uu I n A.in1 d e x y u v huA q1 q2 q3 q4 q5)
     (fun j h1 h2 _=>j8 (n:=n) (A:=A.in1) ‹_› g2 r r' (by omega) ok (fun d e x y u v q1 q2 q3 q4 q5 q6=>ih A.in1 d e x y u v huA q1 q2 q3 q4 q5 q6) j h1 h2)
   | _=>simp only [okD] at ok
  | tup l =>
   cases e with
   | tup m =>
    simp only [Is] at hx hy
    obtain ⟨a,xs,rfl,h1,h2⟩:=hx
    obtain ⟨b,ys,rfl,g1,g2⟩:=hy
    cases rx; cases ry
    obtain ⟨its,r,p,_⟩:=I.tuple h1
    obtain ⟨its',r',p',_⟩:=I.tuple g1
    simp only [dpD] at hd
    simp only [okD] at ok
    have L1:=h2.len
    have L2:=g2.len
    have L3:=r.length
    have L4:=r'.length
    have st:=ZH l m
    rw [show l.length = its.toArray.size by simp only [List.size_toArray]; omega,show m.length = its'.toArray.size by simp only [List.size_toArray]; omega] at st
    exact LtAt.tuples (A:=A) p p' st hu1 (yZ h2 g2 r r' (n:=n) (by omega) fun d e x y u v q1 q2 q3 q4 q5=>uu I n A.in1 d e x y u v huA q1 q2 q3 q4 q5)
     (fun j h1 h2 _=>j8 (n:=n) (A:=A.in1) ‹_› g2 r r' (by omega) ok (fun d e x y u v q1 q2 q3 q4 q5 q6=>ih A.in1 d e x y u v huA q1 q2 q3 q4 q5 q6) j h1 h2)
   | _=>simp only [okD] at ok
  | non=>cases e <;> simp only [okD] at ok
  | bl _=>cases e <;> simp only [okD] at ok
  | str _=>cases e <;> simp only [okD] at ok
def Jf (K:PySem.W.Frag):R2:=fun x y H Q=>∃ d e,Is K H d x /\ Is K H e y /\ dpD d < 50 /\ okD d e /\ Q (.bl (ltD d e)) H
theorem UI (hu:X.A.units + 100 < cLine):OpR X (compareOp .Lt) (Jf X.K):=by
 intro pins s σ H x y v u Q I rx ry h
 obtain ⟨d,e,hx,hy,hd,ok,q⟩:=h
 exact Ug I 50 X.A d e x y v u (by omega) hd ok hx hy rx ry X.prog X.w X.xe _ ⟨.bl _,H,I,rfl,q⟩
end
theorem WR {K:PySem.W.Frag} {x y:V} {H:Hp} {Q:VK} {d e:D} (h1:Is K H d x) (h2:Is K H e y) (h3:dpD d < 50) (h4:okD d e) (q:Q (.bl (ltD d e)) H):Jf K x y H Q:=⟨d,e,h1,h2,h3,h4,q⟩
def ltI:List Int -> List Int -> Bool
 | a :: l,b :: m=>if a = b then ltI l m else decide (a < b)
 | [],_ :: _=>true
 | _,[]=>false
theorem je:∀ (l m:List Int),ZA (l.map D.int) (m.map D.int)
 | [],_=>by simp only [List.map_nil,ZA]
 | _ :: _,[]=>by simp only [List.map_nil,List.map_cons,ZA]
 | a :: l,b :: m=>by simp only [List.map_cons,ZA,okD,true_and]; exact je l m
theorem qQ:∀ (l m:List Int),kM (l.map D.int) (m.map D.int) = ltI l m
 | [],[]=>by simp only [List.map_nil,kM,ltI]
 | [],_ :: _=>by simp only [List.map_nil,List.map_cons,kM,ltI]
 | _ :: _,[]=>by simp only [List.map_nil,List.map_cons,kM,ltI]
 | a :: l,b :: m=>by
  simp only [List.map_cons,kM,ltI,eqD,ltD,qQ l m,beq_iff_eq]
end L3
namespace L3
open PySem PySem.Spec PyProof.Rows L2
mutual
def vC:D -> Prop
 | .lst _=>False
 | .tup l=>yR l
 | _=>True
def yR:List D -> Prop
 | []=>True
 | d :: l=>vC d /\ yR l
end
theorem Xu {K:PySem.W.Frag} {H:Hp} {a p:Addr} {xs ys zs:List V} (hp:H p = some (.lst ys)) (h:SqT K H a xs):SqT K (upd H p (.lst zs)) a xs:=by
 rcases h with (h | ⟨o,h⟩) | h
 ·refine .inl (.inl ?_)
  rw [zi (fun e=>by rw [e,hp] at h; cases h)]
  exact h
 ·refine .inl (.inr ⟨o,?_⟩)
  rw [zi (fun e=>by rw [e,hp] at h; cases h)]
  exact h
 ·exact .inr h
mutual
theorem Is.updL {K:PySem.W.Frag} {H:Hp} {p:Addr} {ys zs:List V} (hp:H p = some (.lst ys)):∀ (d:D) (v:V),vC d -> Is K H d v -> Is K (upd H p (.lst zs)) d v
 | .non,v,_,h=>by simp only [Is] at h ⊢; exact h
 | .bl b,v,_,h=>by simp only [Is] at h ⊢; exact h
 | .int b,v,_,h=>by simp only [Is] at h ⊢; exact h
 | .str b,v,_,h=>by simp only [Is] at h ⊢; exact h
 | .lst l,v,f,h=>by simp only [vC] at f
 | .tup l,v,f,h=>by
  simp only [Is] at h ⊢
  simp only [vC] at f
  obtain ⟨a,xs,e1,e2,e3⟩:=h
  exact ⟨a,xs,e1,Xu hp e2,Iss.updL hp l xs f e3⟩
theorem Iss.updL {K:PySem.W.Frag} {H:Hp} {p:Addr} {ys zs:List V} (hp:H p = some (.lst ys)):∀ (l:List D) (vs:List V),yR l -> Iss K H l vs -> Iss K (upd H p (.lst zs)) l vs
 | [],vs,_,h=>by simp only [Iss] at h ⊢; exact h
 | d :: l,vs,f,h=>by
  simp only [Iss] at h ⊢
  simp only [yR] at f
  obtain ⟨v,r,e1,e2,e3⟩:=h
  exact ⟨v,r,e1,Is.updL hp d v f.1 e2,Iss.updL hp l r f.2 e3⟩
end
theorem vY:∀ {l:List D},(∀ d ∈ l,vC d) -> yR l
 | [],_=>by simp only [yR]
 | d :: l,h=>by simp only [yR]; exact ⟨h d (by simp),vY fun e he=>h e (by simp [he])⟩
theorem uZ {n:Nat}:∀ {l:List D},(∀ d ∈ l,dpD d <= n) -> vL l <= n
 | [],_=>by simp only [vL]; omega
 | d :: l,h=>by
  have h1:=h d (by simp)
  have h2:=uZ (n:=n) (l:=l) fun e he=>h e (by simp [he])
  simp only [vL]
  omega
def LsA (K:PySem.W.Frag) (H:Hp) (a:Addr) (ds:List D):Prop:=∃ xs,H a = some (.lst xs) /\ Iss K H ds xs
theorem LsA.same {K:PySem.W.Frag} {H H':Hp} {a:Addr} {ds:List D} (h:LsA K H a ds) (e:Same H H'):LsA K H' a ds:=let ⟨xs,h1,h2⟩:=h; ⟨xs,e _ _ h1,Iss.same e _ _ h2⟩
theorem LsA.is {K:PySem.W.Frag} {H:Hp} {a:Addr} {ds:List D} (h:LsA K H a ds):Is K H (.lst ds) (.ref a):=by
 obtain ⟨xs,h1,h2⟩:=h
 simp only [Is]
 exact ⟨a,xs,rfl,SqL.of h1,h2⟩
theorem LsA.nil {K:PySem.W.Frag} {H:Hp} {a:Addr}:LsA K (upd H a (.lst [])) a []:=⟨[],zd,by simp only [Iss]⟩
theorem LsA.snoc {K:PySem.W.Frag} {H:Hp} {a:Addr} {ds:List D} {d:D} {xs:List V} {v:V} (h1:H a = some (.lst xs)) (h2:Iss K H ds xs) (f:yR ds) (fd:vC d) (hv:Is K H d v):LsA K (upd H a (.lst (xs ++ [v]))) a (ds ++ [d]) :=
 ⟨_,zd,Iss.append (Iss.updL h1 _ _ f h2) (by simp only [Iss]; exact ⟨v,[],rfl,Is.updL h1 _ _ fd hv,rfl⟩)⟩
theorem Is.tup {K:PySem.W.Frag} {H:Hp} {p:Addr} {vs:List V} {ds:List D} (hp:H p = none) (h:Iss K H ds vs):Is K (upd H p (.tup vs)) (.tup ds) (.ref p):=by
 simp only [Is]
 exact ⟨p,vs,rfl,SqT.of zd,Iss.same (zf hp) _ _ h⟩
abbrev dS (l:List Nat):D:=.str (tx l)
abbrev zK:=List Nat × List Nat
def dR (r:zK):D:=.tup [dS r.1,dS r.2]
theorem Qf {K:PySem.W.Frag} {H:Hp} {r:zK} {v:V} (h:Is K H (dR r) v):∃ p,v = .ref p /\ SqT K H p [.str (tx r.1),.str (tx r.2)]:=by
 simp only [dR,Is,Iss] at h
 obtain ⟨a,xs,e,hs,v1,r1,rfl,rfl,v2,r2,rfl,rfl,rfl⟩:=h
 exact ⟨a,e,hs⟩
theorem Q0 {K:PySem.W.Frag} {H:Hp} {p:Addr} {l m:List Nat} (h:SqT K H p [.str (tx l),.str (tx m)]):Is K H (dR (l,m)) (.ref p):=by
 simp only [dR,Is,Iss]
 exact ⟨p,_,rfl,h,_,_,rfl,rfl,_,_,rfl,rfl,rfl⟩
theorem YR (r:zK):vC (dR r):=by simp only [dR,vC,yR,and_self]
theorem QK (r:zK):dpD (dR r) <= 1:=by simp only [dR,dpD,vL]; omega
theorem kP (rs:List zK):yR (rs.map dR):=vY fun d h=>by obtain ⟨r,_,rfl⟩:=List.mem_map.mp h; exact YR r
theorem UU (rs:List zK):vL (rs.map dR) <= 1:=uZ fun d h=>by obtain ⟨r,_,rfl⟩:=List.mem_map.mp h; exact QK r
abbrev N3:=Nat × Nat × Nat
def d3 (t:N3):D:=.tup [.int (t.1:Nat),.int (t.2.1:Nat),.int (t.2.2:Nat)]
theorem Iss.get {K:PySem.W.Frag} {H:Hp} {l:List D} {vs:List V} {j:Nat} {v:V} (h:Iss K H l vs) (q:vs[j]? = some v):∃ d,l[j]? = some d /\ Is K H d v:=by
 have hj:=(List.getElem?_eq_some_iff.mp q).1
 have hl:=h.len
 have g1:l[j]? = some l[j]:=List.getElem?_eq_getElem (by omega)
 obtain ⟨x,hx,ix⟩:=h.at g1
 rw [q] at hx
 cases hx
 exact ⟨_,g1,ix⟩
theorem Iss.getR {K:PySem.W.Frag} {H:Hp} {rs:List zK} {vs:List V} {j:Nat} {v:V} (h:Iss K H (rs.map dR) vs) (q:vs[j]? = some v):∃ r p,rs[j]? = some r /\ v = .ref p /\ SqT K H p [.str (tx r.1),.str (tx r.2)]:=by
 obtain ⟨d,e,i⟩:=h.get q
 rw [List.getElem?_map] at e
 obtain ⟨r,hr,rfl⟩:=Option.map_eq_some_iff.mp e
 obtain ⟨p,e1,e2⟩:=Qf i
 exact ⟨r,p,hr,e1,e2⟩
theorem WF {α:Type} (l:List α) {a b:Int} (h0:0 <= a) (h1:a <= b):cut l (some a) (some b) = (l.drop a.toNat).take (b - a).toNat:=by
 by_cases h2:b <= l.length
 ·exact ZX l h0 h1 h2
 ·obtain ⟨m,rfl⟩:=Int.eq_ofNat_of_zero_le h0
  obtain ⟨n,rfl⟩:=Int.eq_ofNat_of_zero_le (by omega:0 <= b)
  unfold cut
  rw [HT.sIx_nat,HT.sIx_nat,Nat.min_eq_right (by omega:l.length <= n)]
  have e:(((n:Nat):Int) - ((m:Nat):Int)).toNat = n - m:=by omega
  have e2:((m:Nat):Int).toNat = m:=rfl
  rw [e,e2,List.take_of_length_le (l:=l.drop m) (by rw [List.length_drop]; omega)]
  by_cases hm:m <= l.length
  ·rw [Nat.min_eq_left hm,List.take_of_length_le (by rw [List.length_drop]; omega)]
  ·rw [Nat.min_eq_right (by omega),List.drop_of_length_le (Nat.le_refl _),List.drop_of_length_le (by omega),List.take_nil]
theorem ZQ (ns:List Int) {a b:Int} (h0:0 <= a) (h1:a <= b):Xp (ns.map V.int) (some a) (some b) = ((ns.drop a.toNat).take (b - a).toNat).map V.int:=by
 have e:Xp (ns.map V.int) (some a) (some b) = cut (ns.map V.int) (some a) (some b):=rfl
 rw [e,WF _ h0 h1,List.map_take,List.map_drop]
end L3
namespace L3
open PySem PySem.Spec PyProof.Rows L2
open Classical in
noncomputable def eqAtV (K:PySem.W.Frag) (H:Hp) (d:D) (u:Value):Bool:=decide (∃ x e,Jk u = some x /\ Is K H e x /\ eqD e d = true)
section
variable {X:Cx} {pins:List (Addr × Obj)} {σ:L2.St} {H:Hp} {s:Shared}
open Classical in
theorem kL (I:Inv X pins σ H s) {d e:D} {x:V} {u:Value} (r:RelV x u) (h:Is X.K H e x):eqAtV X.K H d u = eqD e d:=by
 unfold eqAtV
 cases hb:eqD e d with
 | true=>exact decide_eq_true ⟨x,e,r.abs,h,hb⟩
 | false =>
  refine decide_eq_false ?_
  rintro ⟨y,e',hy,hi,hq⟩
  rw [r.abs] at hy
  cases hy
  rw [kd I e' e x hi h,hb] at hq
  cases hq
theorem qM (I:Inv X pins σ H s) {d:D}:∀ {l:List D} {xs:List V} {us:List Value},Iss X.K H l xs -> Vals xs us -> us.any (eqAtV X.K H d) = l.any fun e=>eqD e d
 | [],xs,us,h,r=>by
  simp only [Iss] at h
  subst h
  cases r
  rfl
 | e :: l,xs,us,h,r=>by
  simp only [Iss] at h
  obtain ⟨v,vs,rfl,h1,h2⟩:=h
  cases r with
  | cons r1 r2=>rw [List.any_cons,List.any_cons,kL I r1 h1,qM I h2 r2]
theorem ke:∀ {xs:List V} {us:List Value} {l:List D} {u:Value},Vals xs us -> Iss X.K H l xs -> u ∈ us -> ∃ x e,RelV x u /\ Is X.K H e x /\ e ∈ l
 | _,_,_,_,.nil,_,h=>nomatch h
 | _,_,[],u,.cons r t,hi,h=>by
  simp only [Iss] at hi
  cases hi
 | _,_,e :: l,u,.cons r t,hi,h=>by
  simp only [Iss] at hi
  obtain ⟨v,vs,q,h1,h2⟩:=hi
  cases q
  rcases List.mem_cons.mp h with rfl | h
  ·exact ⟨_,e,r,h1,List.mem_cons_self ..⟩
  ·obtain ⟨x,e',a,b,c⟩:=ke t h2 h
   exact ⟨x,e',a,b,List.mem_cons_of_mem _ c⟩
theorem V9 {l:List D} {e:D} (h:e ∈ l):dpD e <= vL l:=by
 obtain ⟨j,hj⟩:=List.getElem?_of_mem h
 exact Wt hj
def JS (K:PySem.W.Frag) (neg:Bool):R2:=fun x y H Q=>∃ p l d,y = .ref p /\ Is K H (.lst l) y /\ Is K H d x /\ vL l < 50 /\ Q (.bl (if neg then !(l.any fun e=>eqD e d) else l.any fun e=>eqD e d)) H
theorem V7 (hu:X.A.units + 100 < cLine):OpR X (compareOp .In) (JS X.K false):=by
 intro pins s σ H x y v u Q I rx ry h
 obtain ⟨p,l,d,rfl,hl,hd,hp,q⟩:=h
 cases ry
 simp only [Is] at hl
 obtain ⟨_,xs,e,hq,hi⟩:=hl
 cases e
 obtain ⟨its,r,pl,hz⟩:=I.list hq
 have huA:X.A.in1.units + 50 < cLine:=by show X.A.units + 1 + 50 < cLine; omega
 refine SeqAt.in_listAt (eqAtV X.K H d) pl.isList (fun w hw=>?_) ⟨.bl _,H,I,rfl,?_⟩
 ·obtain ⟨z,e,rz,iz,me⟩:=ke r hi (by simpa using hw)
  rw [kL I rz iz]
  exact uu I 50 X.A.in1 e d z x w v huA (Nat.lt_of_le_of_lt (V9 me) hp) iz hd rz rx
 ·rw [show its.toArray.any (eqAtV X.K H d) = its.any (eqAtV X.K H d) by simp,qM I hi r]
  exact q
end
end L3
namespace L3
open PySem PySem.Spec PyProof.Rows L2
structure DM (P:Program) (w:World) (K:PySem.W.Frag) (mg:Str -> Option Value) (base:Heap) (CX:CXT) (k:Nat) (C:Addr) (m:Str) (ps:List Str) (sp:Sp):Prop where
 ex:∃ f fd,VM K C m f /\ FnOk P w K mg base CX k f fd ps sp /\ Binds K fd ps []
structure DMk (P:Program) (w:World) (K:PySem.W.Frag) (mg:Str -> Option Value) (base:Heap) (CX:CXT) (k:Nat) (C:Addr) (ps:List Str) (sp:Sp):Prop where
 ex:∃ f fd,Mk K C f /\ FnOk P w K mg base CX k f fd ps sp /\ Binds K fd ps []
section
variable {X:Cx} {k j:Nat} {C:Addr} {m:Str} {ps:List Str} {sp:Sp} {o e:Expr} {es:List Expr} {ta:TE} {t:TA} {apos pos p:Pos} {x:Str} {E:XK}
theorem me0 (D:DM X.prog X.w X.K X.mg X.base CX0 k C m ps sp) (c:Cls X.K C) (hr:Room j X.A) (he:PE X o ta) {pl:Sem Bool} (ht:eval (.Call (.Attribute o m apos) [] [] pos) X.env = (do
      let ov <- eval o X.env
      standAt apos.atName
      let (f,first) <- holding [ov] (getMethod ov m pl)
      callWith pos f first (backTo pos (starEach [] X.env)) (backToKw pos (keywordEach [] X.env))):=by rfl) (hj:k <= j:=by decide):PE X (.Call (.Attribute o m apos) [] [] pos) (uE C m sp [] E0 ta wU):=by
  obtain ⟨f,fd,hm,F,hb⟩:=D.ex
  exact X9 he c hm F (hr.mono hj) hb .nil jS ht
theorem me1 (D:DM X.prog X.w X.K X.mg X.base CX0 k C m ps sp) (c:Cls X.K C) (hr:Room j X.A) (he:PE X o ta) (ha:PA X (e :: es) t) {pl:Sem Bool}
    (hst:starEach (e :: es) X.env = (false,eval e X.env) :: starEach es X.env:=by rfl) (hpl:(backTo pos (starEach es X.env)).any (·.1) = false:=by rfl)
    (ht:eval (.Call (.Attribute o m apos) (e :: es) [] pos) X.env = (do
      let ov <- eval o X.env
      standAt apos.atName
      let (f,first) <- holding [ov] (getMethod ov m pl)
      callWith pos f first (backTo pos (starEach (e :: es) X.env)) (backToKw pos (keywordEach [] X.env))):=by rfl) (hj:k <= j:=by decide):PE X (.Call (.Attribute o m apos) (e :: es) [] pos) (uE C m sp [] E0 ta t):=by
  obtain ⟨f,fd,hm,F,hb⟩:=D.ex
  exact YT he c hm F (hr.mono hj) hb .nil jS ha hst hpl ht
theorem J2 (hx:XE X E) (D:DM X.prog X.w X.K X.mg X.base (CXx X.prog X.w) k C m ps sp) (c:Cls X.K C) (hr:Room j X.A) (he:PE X o ta) (ha:PA X (e :: es) t) {pl:Sem Bool}
    (hst:starEach (e :: es) X.env = (false,eval e X.env) :: starEach es X.env:=by rfl) (hpl:(backTo pos (starEach es X.env)).any (·.1) = false:=by rfl)
    (ht:eval (.Call (.Attribute o m apos) (e :: es) [] pos) X.env = (do
      let ov <- eval o X.env
      standAt apos.atName
      let (f,first) <- holding [ov] (getMethod ov m pl)
      callWith pos f first (backTo pos (starEach (e :: es) X.env)) (backToKw pos (keywordEach [] X.env))):=by rfl) (hj:k <= j:=by decide):PE X (.Call (.Attribute o m apos) (e :: es) [] pos) (uE C m sp [] E ta t):=by
  obtain ⟨f,fd,hm,F,hb⟩:=D.ex
  exact YT he c hm F (hr.mono hj) hb .nil (qy hx) ha hst hpl ht
theorem mkC (D:DMk X.prog X.w X.K X.mg X.base CX0 k C ps sp) (hr:Room j X.A) (hg:Gl X x) (hm:X.mg x = some (.ref C)) (ha:PA X (e :: es) t) (hdb:(x == ("__debug__" : Str)) = false:=by decide) (he:starEach (e :: es) X.env = (false,eval e X.env) :: starEach es X.env:=by rfl)
  (hpl:(backTo pos (starEach es X.env)).any (·.1) = false:=by rfl) (hj:k + 1 <= j:=by decide):PE X (.Call (.Name x p) (e :: es) [] pos) (XD C sp [] E0 t):=by
 obtain ⟨f,fd,M,F,hb⟩:=D.ex
 exact Z9 M F (hr.mono hj) hg hm hb .nil jS ha hdb he hpl
end
end L3
namespace L3
open PySem PySem.Spec PyProof.Rows L2
section
variable {X:Cx}
end
section
variable {X:Cx} {k j:Nat} {C:Addr} {m:Str} {ps:List Str} {sp:Sp} {o e:Expr} {es:List Expr} {ta:TE} {t:TA} {apos pos p:Pos}
end
end L3
namespace L3
open PySem PySem.Spec PyProof.Rows L2
def zE (Fam:Addr -> Prop) (m:Str) (sp:Addr -> Sp) (dvs:List V) (E:XK) (ta:TE) (t:TA):TE:=fun σ H Q=>ta σ H fun x H1=>∃ C a dx fs,Fam C /\ x = .ref a /\ H1 a = some (.ins C dx fs) /\ fs.lookup m = none /\
 t σ H1 fun vs H2=>sp C (x :: (vs ++ dvs)) H2 Q E
structure DMF (P:Program) (w:World) (K:PySem.W.Frag) (mg:Str -> Option Value) (base:Heap) (CX:CXT) (k:Nat) (Fam:Addr -> Prop) (m:Str) (ps:List Str) (sp:Addr -> Sp):Prop where
 ex:∀ C,Fam C -> Cls K C /\ DM P w K mg base CX k C m ps (sp C)
section
variable {X:Cx} {k j:Nat} {Fam:Addr -> Prop} {m:Str} {ps:List Str} {sp:Addr -> Sp} {o e:Expr} {es:List Expr} {ta:TE} {t:TA} {apos pos p:Pos} {x:Str} {E:XK}
theorem J9 (D:DMF X.prog X.w X.K X.mg X.base CX0 k Fam m ps sp) (hr:Room j X.A) (he:PE X o ta) {pl:Sem Bool} (ht:eval (.Call (.Attribute o m apos) [] [] pos) X.env = (do
      let ov <- eval o X.env
      standAt apos.atName
      let (f,first) <- holding [ov] (getMethod ov m pl)
      callWith pos f first (backTo pos (starEach [] X.env)) (backToKw pos (keywordEach [] X.env))):=by rfl) (hj:k <= j:=by decide):PE X (.Call (.Attribute o m apos) [] [] pos) (zE Fam m sp [] E0 ta wU):=by
  intro pins s σ H Q I h
  refine PySem.W.methodCall_KW (pl:=pl) (thn (he pins s σ H _ I h) fun u s1 ⟨x,H1,I1,rx,C,a,dx,fs,fam,ex,ea,l,q⟩=>?_) ht
  subst ex
  obtain rfl:u = Value.ref a:=rx
  obtain ⟨c,⟨f,fd,hm,F,hb⟩⟩:=D.ex C fam
  refine xr I1 ea c hm l ?_
  exact PySem.W.callWith_K0 (first:=[.ref a]) I1.kIn hm.kp (uM (us:=[.ref a]) (vs:=[.ref a]) F (hr.mono hj) hb .nil jS I1 (.cons rfl .nil) q)
theorem Qj (D:DMF X.prog X.w X.K X.mg X.base CX0 k Fam m ps sp) (hr:Room j X.A) (he:PE X o ta) (ha:PA X (e :: es) t) {pl:Sem Bool}
    (hst:starEach (e :: es) X.env = (false,eval e X.env) :: starEach es X.env:=by rfl) (hpl:(backTo pos (starEach es X.env)).any (·.1) = false:=by rfl)
    (ht:eval (.Call (.Attribute o m apos) (e :: es) [] pos) X.env = (do
      let ov <- eval o X.env
      standAt apos.atName
      let (f,first) <- holding [ov] (getMethod ov m pl)
      callWith pos f first (backTo pos (starEach (e :: es) X.env)) (backToKw pos (keywordEach [] X.env))):=by rfl) (hj:k <= j:=by decide):PE X (.Call (.Attribute o m apos) (e :: es) [] pos) (zE Fam m sp [] E0 ta t):=by
  intro pins s σ H Q I h
  refine PySem.W.methodCall_KW (pl:=pl) (thn (he pins s σ H _ I h) fun u s1 ⟨x,H1,I1,rx,C,a,dx,fs,fam,ex,ea,l,q⟩=>?_) ht
  subst ex
  obtain rfl:u = Value.ref a:=rx
  obtain ⟨c,⟨f,fd,hm,F,hb⟩⟩:=D.ex C fam
  refine xr I1 ea c hm l ?_
  refine PySem.W.callWith_K (first:=[.ref a]) (h₀:=X.base) I.ok.mod.kin hm.kp (thn (ha pos pins s1 σ H1 _ I1 q) fun us s2 ⟨vs,H2,I2,r,q2⟩=>⟨I2.kIn,?_⟩) hst hpl
  exact uM (us:=.ref a :: us) (vs:=.ref a :: vs) F (hr.mono hj) hb .nil jS I2 (.cons rfl r) q2
end
section
variable {X:Cx}
theorem kC:∀ {ns:List Int} {its:List Value},Vals (ns.map V.int) its -> IntsAre its ns
 | [],_,.nil=>.nil
 | n :: ns,_,.cons r t=>by
  obtain ⟨tk,rfl⟩:=r
  exact .cons n tk (kC t)
def xk (K:PySem.W.Frag):List V -> Hp -> VK -> Prop:=fun xs H Q=>∃ (p:Addr) (ns:List Int),xs = [.ref p] /\ SqL K H p (ns.map V.int) /\ Q (.int ns.sum) H
theorem QS (hc:X.calm = true):wJ X (.builtin "sum") (xk X.K):=by
 intro pins s σ H xs us Q I r h
 obtain ⟨p,ns,rfl,hS,q⟩:=h
 obtain ⟨u,rfl,ru⟩:=vm r
 cases ru
 obtain ⟨its,rv,pl,hz⟩:=I.list hS
 have hh:X.A.handled = none:=I.ok.hd hc
 have ia:=kC rv
 obtain ⟨ps,e⟩:=ia.allInts.items
 have en:ps.toList.map (·.1) = ns:=by
  rw [<- nums_intItems,<- e]
  exact ia.numsOf
 refine sum_intListG hh (by rw [<- e]; exact pl.isList) fun h' tk t' hk=>?_
 rw [preSum_eq,List.take_of_length_le (by simp),en]
 exact ⟨.int ns.sum,H,I.kept hk,⟨_,rfl⟩,q⟩
end
end L3
namespace L3
open PySem PySem.Spec PyProof.Rows L2
theorem Zi (l:List Nat):((Builtin.Str.strSliceIndices none none (-1) (tx l).length).filterMap ((tx l).cps[·]?)) = l.reverse:=by
 rw [yS,picked_rev]
 have e:(tx l).cps = l.toArray:=rfl
 rw [e]
 apply List.ext_getElem?
 intro i
 have h:((List.range l.length).map fun k=>l.length - 1 - k).filterMap (l.toArray[·]?) = (List.range l.length).map fun k=>l.getD (l.length - 1 - k) 0:=by
  rw [filterMap_get,List.map_map]
  ·refine List.map_congr_left fun k _=>?_
   show l.toArray.getD (l.length - 1 - k) 0 = _
   simp [Array.getD,List.getD]
   split <;> simp_all
  ·intro i hi
   obtain ⟨k,hk,rfl⟩:=List.mem_map.mp hi
   have:=List.mem_range.mp hk
   show _ < l.toArray.size
   rw [List.size_toArray]
   omega
 rw [h]
 by_cases hi:i < l.length
 ·rw [List.getElem?_reverse hi,List.getElem?_map,List.getElem?_range hi]
  show some (l.getD (l.length - 1 - i) 0) = _
  rw [List.getD_eq_getElem?_getD,List.getElem?_eq_getElem (by omega)]
  rfl
 ·rw [List.getElem?_eq_none (by simp; omega),List.getElem?_eq_none (by simp; omega)]
def xn (te ts:TE):TE:=fun σ H Q=>te σ H fun x H1=>ts σ H1 fun y H2=>y = .int (-1) /\ ∃ l:List Nat,x = .str (tx l) /\ l.length <= sizeLine /\ Q (.str (tx l.reverse)) H2
section
variable {X:Cx} {e st:Expr} {te ts:TE} {pos p2:Pos}
theorem VB (he:PE X e te) (hs:PE X st ts):PE X (.Subscript e (.Slice none none (some st) p2) pos) (xn te ts):=by
 intro pins s σ H Q I h
 refine Subscript_ (thn (he pins s σ H _ I h) fun v s1 ⟨x,H1,I1,r1,q1⟩=>?_)
 refine wpAny_Slice ?_
 rw [evalPart_none]
 refine wpAny_pure (wpAny_pure ?_)
 rw [evalPart_some]
 refine thn (hs pins s1 σ H1 _ I1 q1) fun u s2 ⟨y,H2,I2,r2,ey,l,ex,hl,q2⟩=>?_
 subst ey ex
 obtain ⟨t,rfl⟩:=r1
 obtain ⟨tk,rfl⟩:=r2
 have I4:Inv X pins σ H2 { s2 with heap:=s2.heap.push { cls:=.type "slice",data:=.fields #[.none,.none,.int (-1) tk] } }:=I2.kept (t':=s2.toks) fun b ob q=>Heap.get?_push_of_some _ q
 show wpAny (model X.prog X.w) X.A (subscriptTail e (.Slice none none (some st) p2) (.str (tx l) t) (.ref s2.heap.objs.size)) (EP X pins σ Q) X.xe { s2 with heap:=s2.heap.push { cls:=.type "slice",data:=.fields #[.none,.none,.int (-1) tk] } }
 refine tail_any (ops:=[.ref s2.heap.objs.size,.str (tx l) t]) (typeIs_str _ (tx l) t) slot_str_getitem.lookup ?_ (by with_unfolding_all rfl)
 refine wpAny_getItem_str_slice (l:=none) (u:=none) (st:=some (-1,tk)) (Heap.IsSliceOf.new ..) rfl ?_
 unfold sliceMade slicePicked
 have hc':¬ (((some ((-1:Int),tk)).map (·.1)).getD 1 == 1 && (Builtin.Str.strSliceIndices ((none:Option (Int × Tok)).map (·.1)) ((none:Option (Int × Tok)).map (·.1)) (((some ((-1:Int),tk)).map (·.1)).getD 1) (tx l).length).length == (tx l).length) = true:=by
  have:(((some ((-1:Int),tk)).map (·.1)).getD 1 == 1) = false:=rfl
  rw [this]
  simp
 rw [if_neg hc']
 have e:Str.mk ((Builtin.Str.strSliceIndices none none (-1) (tx l).length).filterMap ((tx l).cps[·]?)).toArray = tx l.reverse:=by
  rw [Zi]
 show (Str.mk ((Builtin.Str.strSliceIndices none none (-1) (tx l).length).filterMap ((tx l).cps[·]?)).toArray).length <= sizeLine /\ _
 rw [e]
 refine ⟨by rw [yS,List.length_reverse]; exact hl,?_⟩
 exact ⟨.str (tx l.reverse),H2,I4.tok _,⟨_,by
  show Value.str (Str.mk ((Builtin.Str.strSliceIndices none none (-1) (tx l).length).filterMap ((tx l).cps[·]?)).toArray) _ = _
  rw [e]⟩,q2⟩
end
end L3
namespace L3
open PySem PySem.Spec PyProof.Rows L2
structure J1 (K:PySem.W.Frag) (C:Addr) (m:Str) (f:Addr):Prop where
 sg:PySem.W.specialIn K (.ref C) "__getattribute__" = some (some (.builtin "type.__getattribute__"))
 rd:PySem.W.readsIn K C (.type "type") = true
 fc:PySem.W.findCls K (.ref C) (.type "type") m = some (.val (.ref f))
 kp:PySem.W.keepIn K (.ref f) = true
structure DC (P:Program) (w:World) (K:PySem.W.Frag) (mg:Str -> Option Value) (base:Heap) (CX:CXT) (k:Nat) (C:Addr) (m:Str) (ps:List Str) (sp:Sp):Prop where
 ex:∃ f fd,J1 K C m f /\ FnOk P w K mg base CX k f fd ps sp /\ Binds K fd ps []
section
variable {X:Cx} {k j:Nat} {C:Addr} {m x:Str} {ps:List Str} {sp:Sp} {e:Expr} {es:List Expr} {t:TA} {apos pos p:Pos}
theorem W8 (D:DC X.prog X.w X.K X.mg X.base CX0 k C m ps sp) (hr:Room j X.A) (hg:Gl X x) (hm:X.mg x = some (.ref C)) (ha:PA X (e :: es) t) {pl:Sem Bool} (hdb:(x == ("__debug__" : Str)) = false:=by decide)
    (hst:starEach (e :: es) X.env = (false,eval e X.env) :: starEach es X.env:=by rfl) (hpl:(backTo pos (starEach es X.env)).any (·.1) = false:=by rfl)
    (ht:eval (.Call (.Attribute (.Name x p) m apos) (e :: es) [] pos) X.env = (do
      let ov <- eval (.Name x p) X.env
      standAt apos.atName
      let (f,first) <- holding [ov] (getMethod ov m pl)
      callWith pos f first (backTo pos (starEach (e :: es) X.env)) (backToKw pos (keywordEach [] X.env))):=by rfl) (hj:k <= j:=by decide):PE X (.Call (.Attribute (.Name x p) m apos) (e :: es) [] pos) (uB sp [] E0 t):=by
  obtain ⟨f,fd,cm,F,hb⟩:=D.ex
  have hn:PE X (.Name x p) (tC (.ref C)):=wY hg hm rfl hdb
  intro pins s σ H Q I h
  refine PySem.W.methodCall_KW (pl:=pl) (thn (hn pins s σ H (fun y H1=>y = .ref C /\ H1 = H) I ⟨rfl,rfl⟩) fun u s1 ⟨y,H1,I1,ry,ey,eH⟩=>?_) ht
  subst ey eH
  obtain rfl:u = Value.ref C:=ry
  refine PySem.W.method_cls I1.kIn cm.sg (PySem.W.cls_value I1.kIn cm.rd cm.fc rfl ?_)
  refine PySem.W.callWith_K (first:=[]) (h₀:=X.base) I.ok.mod.kin cm.kp (thn (ha pos pins _ σ H1 _ (I1.tok _) h) fun us s2 ⟨vs,H2,I2,r,q2⟩=>⟨I2.kIn,?_⟩) hst hpl
  exact uM (us:=us) (vs:=vs) F (hr.mono hj) hb .nil jS I2 r q2
def zB:V -> List V -> Hp -> VK -> Prop:=fun x xs H Q=>∃ (z y:Str) (i:Nat),x = .str z /\ xs = [.str y] /\ PySem.Txt.find z y = (i:Int) /\ Q (.int (i:Nat)) H
theorem Z1:MtR X "str.index" zB:=by
 intro pins s σ H x xs v us Q I rx rv h
 obtain ⟨z,y,i,rfl,rfl,hf,q⟩:=h
 obtain ⟨t,rfl⟩:=rx
 obtain ⟨u,rfl,t',rfl⟩:=vm rv
 unfold PySem.Txt.find at hf
 cases ho:Builtin.Str.occurrences z y 0 z.length 1 with
 | nil=>rw [ho] at hf; dsimp only at hf; omega
 | cons a r =>
  rw [ho] at hf
  have:a = i:=by dsimp only at hf; omega
  subst this
  exact PySem.SC.index ho ⟨.int _,H,I.tok _,⟨_,rfl⟩,q⟩
end
end L3
namespace L3
open PySem PySem.Spec PyProof.Rows L2
section
variable {prog:Program} {w:World} {A:Around} {E:Value -> Shared -> Prop} {s:Shared}
theorem xP {h h':Heap} {a:Addr} {ty:String} {x:Str} {t:Tok} {i:Nat} (y:h.IsStrIter a ty x t i) (e:∀ o,h.get? a = some o -> h'.get? a = some o):h'.IsStrIter a ty x t i:=let ⟨o,ho,r⟩:=y; ⟨o,e o ho,r⟩
theorem wD {h h':Heap} {a t:Addr} {i:Nat} (y:h.IsTupleIter a t i) (e:∀ o,h.get? a = some o -> h'.get? a = some o):h'.IsTupleIter a t i:=let ⟨o,ho,r⟩:=y; ⟨o,e o ho,r⟩
theorem WG {h h':Heap} {a:Addr} {xs:Array Value} (y:h.IsTuple a xs) (e:∀ o,h.get? a = some o -> h'.get? a = some o):h'.IsTuple a xs:=let ⟨o,ho,r⟩:=y; ⟨o,e o ho,r⟩
theorem sit (x:Str):strIterType x = "str_ascii_iterator" \/ strIterType x = "str_iterator":=by
 unfold strIterType
 split
 ·exact .inl rfl
 ·exact .inr rfl
theorem uh {it:Addr} {x:Str} {t:Tok} {i c:Nat} {Q:Value -> Shared -> Prop} (hit:s.heap.IsStrIter it (strIterType x) x t i) (hx:x.cps[i]? = some c)
  (hQ:∀ h',h'.IsStrIter it (strIterType x) x t (i + 1) -> Heap.SameBut it s.heap h' -> Q (.str ⟨#[c]⟩ s.toks) { s with heap:=h',toks:=s.toks + 1 }) :
  wpAny (model prog w) A (Builtin.SmallTypes.nextOf (.ref it)) Q E s:=by
 rcases sit x with e | e
 ·rw [e] at hit hQ
  exact wpAny_nextOf_ascii_item hit hx hQ
 ·rw [e] at hit hQ
  exact wpAny_nextOf_wide_item hit hx hQ
theorem uD {it:Addr} {x:Str} {t:Tok} {i:Nat} {Q:Value -> Shared -> Prop} (hh:A.handled = none) (hit:s.heap.IsStrIter it (strIterType x) x t i) (hx:x.cps[i]? = none)
  (hE:∀ h' e,Heap.ExtBut it s.heap h' -> (∃ o,h'.get? e = some o /\ o.cls = .type "StopIteration") -> E (.ref e) { s with heap:=h' }) :
  wpAny (model prog w) A (Builtin.SmallTypes.nextOf (.ref it)) Q E s:=by
 rcases sit x with e | e
 ·rw [e] at hit
  exact wpAny_nextOf_ascii_end hh hit hx hE
 ·rw [e] at hit
  exact wpAny_nextOf_wide_end hh hit hx hE
theorem ud {it t:Addr} {i:Nat} {items:Array Value} {x:Value} {Q:Value -> Shared -> Prop} (hit:s.heap.IsTupleIter it t i) (ht:s.heap.IsTuple t items) (hx:items[i]? = some x)
  (hQ:∀ h',h'.IsTupleIter it t (i + 1) -> Heap.SameBut it s.heap h' -> Q x { s with heap:=h' }) :
  wpAny (model prog w) A (Builtin.SmallTypes.nextOf (.ref it)) Q E s:=by
 obtain ⟨o,ho,hc,hd⟩:=id hit
 obtain ⟨ol,hol,_,nl,hdl⟩:=ht
 unfold Builtin.SmallTypes.nextOf
 refine wpAny_bind (wpAny_callSpecial?_slot (name:=Str.ofString "__next__") hit.typeIs F.slot_tuple_iterator_next
  (wpAny_call_entry F.slot_tuple_iterator_next hit.typeIs F.entry_tuple_iterator_next ?_ (F.args_tuple_iterator_next_1 _)))
 show wpAny _ _ (field (.ref it) 0 >>= _) _ _ s
 refine wpAny_bind (wpAny_field ho hd (x:=.ref t) rfl ?_)
 show wpAny _ _ (if (Value.ref t == Value.none) = true then _ else _) _ _ s
 rw [if_neg (show ¬ ((Value.ref t == Value.none) = true) from Bool.false_ne_true)]
 show wpAny _ _ (field (.ref it) 1 >>= _) _ _ s
 refine wpAny_bind (wpAny_field ho hd (x:=.int i 0) rfl ?_)
 show wpAny _ _ (seqItems? (.ref t) >>= _) _ _ s
 refine wpAny_bind (wpAny_seqItems hol hdl ?_)
 simp only [Int.toNat_natCast,hx]
 refine wpAny_bind (wpAny_setField ho hd (by simp) (wpAny_pure ⟨x,rfl,wpAny_pure (hQ _ ?_ (Heap.SameBut.update ..))⟩))
 exact ⟨_,Heap.get?_update_self _ ho (Obj.isFreed_of_fields (Obj.data_mapFields hd _)),(Obj.cls_mapFields ..).trans hc,by
  rw [Obj.data_mapFields hd]; simp [rawInt]⟩
structure Ut (z TI TO i1 i2 l2:Addr):Prop extends WB z TI TO i1 i2 where
 l2z:l2 ≠ z
 l2TO:l2 ≠ TO
 l2i1:l2 ≠ i1
 l2i2:l2 ≠ i2
theorem Wa {z TI TO i1 i2 l2:Addr} {k c:Nat} {X:Str} {tx:Tok} {ys:Array Value} {y a b:Value} {Q:Value -> Shared -> Prop} (D:Ut z TI TO i1 i2 l2)
  (hz:IsZip s.heap z TI TO .none) (hTI:IsPair s.heap TI (.ref i1) (.ref i2)) (hTO:IsPair s.heap TO a b)
  (h1:s.heap.IsStrIter i1 (strIterType X) X tx k) (h2:s.heap.IsTupleIter i2 l2 k) (hl2:s.heap.IsTuple l2 ys) (hx:X.cps[k]? = some c) (hy:ys[k]? = some y)
  (hQ:∀ h' t',IsZip h' z TI TO (rawInt s.heap.objs.size) -> IsPair h' TO (.str ⟨#[c]⟩ t') y -> h'.IsStrIter i1 (strIterType X) X tx (k + 1) -> h'.IsTupleIter i2 l2 (k + 1) -> IsPair h' s.heap.objs.size (.str ⟨#[c]⟩ t') y -> h'.objs.size = s.heap.objs.size + 1 ->
   (∀ c o,c ≠ z -> c ≠ TO -> c ≠ i1 -> c ≠ i2 -> s.heap.get? c = some o -> h'.get? c = some o) -> Q (.ref s.heap.objs.size) { s with heap:=h',toks:=s.toks + 1 }) :
  wpAny (model prog w) A (Builtin.«zip.__next__» ⟨[.ref z],[]⟩) (fun fin s'=>∃ v,fin = .done (.ret v) /\ Q v s') E s:=by
 show wpAny _ _ (field (.ref z) 2 >>= _) _ _ _
 refine wpAny_bind (wpAny_field hz rfl (x:=.bool false) rfl ?_)
 show wpAny _ _ (field (.ref z) 3 >>= _) _ _ _
 refine wpAny_bind (wpAny_field hz rfl (x:=.ref TI) rfl ?_)
 refine wpAny_bind (wpAny_seqItems hTI rfl ?_)
 show wpAny _ _ (Builtin.SmallTypes.ownedTupleIsFree (.ref z) >>= _) _ _ _
 refine wpAny_bind ?_
 unfold Builtin.SmallTypes.ownedTupleIsFree
 refine wpAny_bind (wpAny_field hz rfl (x:=.none) rfl (wpAny_pure ?_))
 simp only [if_true]
 refine wpAny_bind (wpAny_rule ?_)
 refine wpAny_bind (wpAny_field hz rfl (x:=.ref TO) rfl ?_)
 refine wpAny_bind (wpAny_setField_rec hz (by simp) fun h₁ hz₁ hs₁=>?_)
 replace hz₁:IsZip h₁ z TI TO .ellipsis:=hz₁
 refine wpAny_bind ?_
 simp only [List.zipIdx_cons,List.zipIdx_nil,List.forIn_cons,List.forIn_nil]
 refine wpAny_bind (wpAny_bind (wpAny_onRaise ?_))
 show wpAny _ _ (Builtin.SmallTypes.nextOf (.ref i1) >>= _) _ _ _
 refine wpAny_bind (uh (s:={ s with heap:=h₁ }) (xP h1 fun o e=>hs₁.extBut _ _ D.i1z e) hx fun h₂ h1₂ hs₂=>wpAny_pure ?_)
 have hTO₂:IsPair h₂ TO a b:=hs₂.extBut _ _ D.TOi1 (hs₁.extBut _ _ D.TOz hTO)
 refine wpAny_bind (wpAny_seqItems hTO₂ rfl ?_)
 refine wpAny_bind (wpAny_updateSeq_pair hTO₂ fun h₃ hTO₃ hs₃=>?_)
 replace hTO₃:IsPair h₃ TO (.str ⟨#[c]⟩ s.toks) b:=hTO₃
 refine wpAny_bind (wpAny_letGo (wpAny_pure ?_))
 refine wpAny_bind (wpAny_bind (wpAny_onRaise ?_))
 show wpAny _ _ (Builtin.SmallTypes.nextOf (.ref i2) >>= _) _ _ _
 have up3:∀ d o,d ≠ z -> d ≠ i1 -> d ≠ TO -> s.heap.get? d = some o -> h₃.get? d = some o:=fun d o d1 d2 d3 e=>hs₃.extBut _ _ d3 (hs₂.extBut _ _ d2 (hs₁.extBut _ _ d1 e))
 refine wpAny_bind (ud (wD h2 fun o e=>up3 _ o D.i2z D.i12.symm D.TOi2.symm e) (WG hl2 fun o e=>up3 _ o D.l2z D.l2i1 D.l2TO e) hy fun h₄ h2₄ hs₄=>wpAny_pure ?_)
 have hTO₄:IsPair h₄ TO (.str ⟨#[c]⟩ s.toks) b:=hs₄.extBut _ _ D.TOi2 hTO₃
 refine wpAny_bind (wpAny_seqItems hTO₄ rfl ?_)
 refine wpAny_bind (wpAny_updateSeq_pair hTO₄ fun h₅ hTO₅ hs₅=>?_)
 replace hTO₅:IsPair h₅ TO (.str ⟨#[c]⟩ s.toks) y:=hTO₅
 refine wpAny_bind (wpAny_letGo (wpAny_pure (wpAny_pure ?_)))
 refine wpAny_bind (wpAny_seqItems hTO₅ rfl ?_)
 refine wpAny_bind (wpAny_newTuple ?_)
 have hsz:h₅.objs.size = s.heap.objs.size:=by rw [hs₅.1,hs₄.1,hs₃.1,hs₂.1,hs₁.1]
 have hz₅:IsZip h₅ z TI TO .ellipsis:=hs₅.extBut _ _ D.TOz.symm (hs₄.extBut _ _ D.i2z.symm (hs₃.extBut _ _ D.TOz.symm (hs₂.extBut _ _ D.i1z.symm hz₁)))
 have hk₅:∀ c o,c ≠ z -> c ≠ TO -> c ≠ i1 -> c ≠ i2 -> s.heap.get? c = some o -> h₅.get? c = some o:=fun c o c1 c2 c3 c4 e =>
  hs₅.extBut _ _ c2 (hs₄.extBut _ _ c4 (up3 _ _ c1 c3 c2 e))
 have h1₅:h₅.IsStrIter i1 (strIterType X) X tx (k + 1):=xP h1₂ fun o e=>hs₅.extBut _ _ D.TOi1.symm (hs₄.extBut _ _ D.i12 (hs₃.extBut _ _ D.TOi1.symm e))
 have h2₅:h₅.IsTupleIter i2 l2 (k + 1):=wD h2₄ fun o e=>hs₅.extBut _ _ D.TOi2.symm e
 have hzlt:z < h₅.objs.size:=Heap.lt_size hz₅
 show wpAny _ _ (Builtin.SmallTypes.ownedTupleHandOut (.ref z) (.ref h₅.objs.size) >>= _) _ _ _
 refine wpAny_bind ?_
 unfold Builtin.SmallTypes.ownedTupleHandOut
 have hz₆:IsZip (h₅.push { cls:=.type "tuple",data:=.seq #[.str ⟨#[c]⟩ s.toks,y] }) z TI TO .ellipsis:=Heap.get?_push_of_some _ hz₅
 refine wpAny_bind (wpAny_setField_rec hz₆ (by simp) fun h₇ hz₇ hs₇=>?_)
 replace hz₇:IsZip h₇ z TI TO (rawInt h₅.objs.size):=hz₇
 refine wpAny_setField_rec hz₇ (by simp) fun h₈ hz₈ hs₈=>?_
 replace hz₈:IsZip h₈ z TI TO (rawInt h₅.objs.size):=hz₈
 have up:∀ c o,c ≠ z -> h₅.get? c = some o -> h₈.get? c = some o:=fun c o c1 e=>hs₈.extBut _ _ c1 (hs₇.extBut _ _ c1 (Heap.get?_push_of_some _ e))
 have hT₈:IsPair h₈ h₅.objs.size (.str ⟨#[c]⟩ s.toks) y:=hs₈.extBut _ _ (Nat.ne_of_gt hzlt) (hs₇.extBut _ _ (Nat.ne_of_gt hzlt) (Heap.get?_push_size _ rfl))
 have hz8:h₈.objs.size = h₅.objs.size + 1:=by rw [hs₈.1,hs₇.1,Heap.size_push]
 rw [hsz] at hz₈ hT₈ hz8
 refine wpAny_pure ⟨_,rfl,?_⟩
 show Q (.ref h₅.objs.size) _
 rw [hsz]
 exact hQ h₈ s.toks hz₈ (up _ _ D.TOz hTO₅) (xP h1₅ fun o e=>up _ o D.i1z e) (wD h2₅ fun o e=>up _ o D.i2z e) hT₈ hz8 fun c o c1 c2 c3 c4 e=>up c o c1 (hk₅ c o c1 c2 c3 c4 e)
theorem Vw {z TI TO i1 i2 l2:Addr} {k:Nat} {X:Str} {tx:Tok} {a b:Value} {Q:Fin -> Shared -> Prop} (hh:A.handled = none) (D:Ut z TI TO i1 i2 l2)
  (hz:IsZip s.heap z TI TO .none) (hTI:IsPair s.heap TI (.ref i1) (.ref i2)) (hTO:IsPair s.heap TO a b)
  (h1:s.heap.IsStrIter i1 (strIterType X) X tx k) (hx:X.cps[k]? = none)
  (hE:∀ h' e,(∀ c o,c ≠ z -> c ≠ TO -> c ≠ i1 -> c ≠ i2 -> s.heap.get? c = some o -> h'.get? c = some o) -> (∃ o,h'.get? e = some o /\ o.cls = .type "StopIteration") -> E (.ref e) { s with heap:=h' }) :
  wpAny (model prog w) A (Builtin.«zip.__next__» ⟨[.ref z],[]⟩) Q E s:=by
 show wpAny _ _ (field (.ref z) 2 >>= _) _ _ _
 refine wpAny_bind (wpAny_field hz rfl (x:=.bool false) rfl ?_)
 show wpAny _ _ (field (.ref z) 3 >>= _) _ _ _
 refine wpAny_bind (wpAny_field hz rfl (x:=.ref TI) rfl ?_)
 refine wpAny_bind (wpAny_seqItems hTI rfl ?_)
 show wpAny _ _ (Builtin.SmallTypes.ownedTupleIsFree (.ref z) >>= _) _ _ _
 refine wpAny_bind ?_
 unfold Builtin.SmallTypes.ownedTupleIsFree
 refine wpAny_bind (wpAny_field hz rfl (x:=.none) rfl (wpAny_pure ?_))
 simp only [if_true]
 refine wpAny_bind (wpAny_rule ?_)
 refine wpAny_bind (wpAny_field hz rfl (x:=.ref TO) rfl ?_)
 refine wpAny_bind (wpAny_setField_rec hz (by simp) fun h₁ hz₁ hs₁=>?_)
 replace hz₁:IsZip h₁ z TI TO .ellipsis:=hz₁
 refine wpAny_bind ?_
 simp only [List.zipIdx_cons,List.zipIdx_nil,List.forIn_cons,List.forIn_nil]
 refine wpAny_bind (wpAny_bind (wpAny_onRaise ?_))
 show wpAny _ _ (Builtin.SmallTypes.nextOf (.ref i1) >>= _) _ _ _
 refine wpAny_bind (uD (s:={ s with heap:=h₁ }) hh (xP h1 fun o e=>hs₁.extBut _ _ D.i1z e) hx fun h₂ e hs₂ he=>?_)
 obtain ⟨oe,hoe,hce⟩:=he
 have hz₂:IsZip h₂ z TI TO .ellipsis:=hs₂ _ _ D.i1z.symm hz₁
 have hez:e ≠ z:=fun x=>by subst x; rw [hz₂] at hoe; cases hoe; simp at hce
 refine wpAny_setField_rec hz₂ (by simp) fun h₃ _ hs₃=>hE h₃ e (fun c o c1 _ c3 _ x=>hs₃.extBut _ _ c1 (hs₂ _ _ c3 (hs₁.extBut _ _ c1 x))) ⟨oe,hs₃.extBut _ _ hez hoe,hce⟩
end
end L3
namespace L3
open PySem PySem.Spec PyProof.Rows L2
section
variable {prog:Program} {w:World} {A:Around} {E:Value -> Shared -> Prop} {s:Shared}
theorem ub {z TI TO i1 i2 l2:Addr} {k c:Nat} {X:Str} {tx:Tok} {ys:Array Value} {y a b:Value} {Q:Option Value -> Shared -> Prop} (D:Ut z TI TO i1 i2 l2)
  (hz:IsZip s.heap z TI TO .none) (hTI:IsPair s.heap TI (.ref i1) (.ref i2)) (hTO:IsPair s.heap TO a b)
  (h1:s.heap.IsStrIter i1 (strIterType X) X tx k) (h2:s.heap.IsTupleIter i2 l2 k) (hl2:s.heap.IsTuple l2 ys) (hx:X.cps[k]? = some c) (hy:ys[k]? = some y)
  (hQ:∀ h' t',IsZip h' z TI TO (rawInt s.heap.objs.size) -> IsPair h' TO (.str ⟨#[c]⟩ t') y -> h'.IsStrIter i1 (strIterType X) X tx (k + 1) -> h'.IsTupleIter i2 l2 (k + 1) -> IsPair h' s.heap.objs.size (.str ⟨#[c]⟩ t') y -> h'.objs.size = s.heap.objs.size + 1 ->
   (∀ c o,c ≠ z -> c ≠ TO -> c ≠ i1 -> c ≠ i2 -> s.heap.get? c = some o -> h'.get? c = some o) -> Q (some (.ref s.heap.objs.size)) { s with heap:=h',toks:=s.toks + 1 }) :
  wpAny (model prog w) A (pyNext (.ref z)) Q E s:=by
 have hT:s.TypeIs (.ref z) "zip":=⟨_,hz,rfl⟩
 unfold pyNext
 exact wpAny_bind (wpAny_attempt (wpAny_callSpecial?_slot (name:=Str.ofString "__next__") hT F.slot_zip_next
  (wpAny_call_entry F.slot_zip_next hT F.entry_zip_next
   (Wa D hz hTI hTO h1 h2 hl2 hx hy fun h' t' a1 a2 a3 a4 a5 a6 a7=>wpAny_pure (hQ h' t' a1 a2 a3 a4 a5 a6 a7)) (F.args_zip_next_1 _))))
theorem uC {z TI TO i1 i2 l2:Addr} {k:Nat} {X:Str} {tx:Tok} {a b:Value} {Q:Option Value -> Shared -> Prop} (hh:A.handled = none) (D:Ut z TI TO i1 i2 l2)
  (hz:IsZip s.heap z TI TO .none) (hTI:IsPair s.heap TI (.ref i1) (.ref i2)) (hTO:IsPair s.heap TO a b)
  (h1:s.heap.IsStrIter i1 (strIterType X) X tx k) (hx:X.cps[k]? = none)
  (hQ:∀ h',(∀ c o,c ≠ z -> c ≠ TO -> c ≠ i1 -> c ≠ i2 -> s.heap.get? c = some o -> h'.get? c = some o) -> Q none { s with heap:=h' }):wpAny (model prog w) A (pyNext (.ref z)) Q E s:=by
 have hT:s.TypeIs (.ref z) "zip":=⟨_,hz,rfl⟩
 unfold pyNext
 refine wpAny_bind (wpAny_attempt (wpAny_callSpecial?_slot (name:=Str.ofString "__next__") hT F.slot_zip_next
  (wpAny_call_entry F.slot_zip_next hT F.entry_zip_next (Vw hh D hz hTI hTO h1 hx fun h' e hk he=>?_) (F.args_zip_next_1 _))))
 obtain ⟨o,ho,hc⟩:=he
 refine wpAny_bind (wpAny_isInstance (T:="StopIteration") (b:=true) ⟨o,ho,hc⟩ isSubtype_stop ?_)
 exact wpAny_pure (hQ _ hk)
end
abbrev U2 (h:Heap) (x:Str) (t:Tok):Heap:=h.push { cls:=.type (strIterType x),data:=.fields #[.str x t,.int 0 0] }
abbrev U0 (h:Heap) (x:Str) (t:Tok) (l2:Addr):Heap:=(U2 h x t).push { cls:=.type "tuple_iterator",data:=.fields #[.ref l2,.int 0 0] }
abbrev U1 (h:Heap) (x:Str) (t:Tok) (l2:Addr):Heap:=(U0 h x t l2).push { cls:=.type "tuple",data:=.seq #[.ref h.objs.size,.ref (U2 h x t).objs.size] }
abbrev U4 (h:Heap) (x:Str) (t:Tok) (l2:Addr):Heap:=(U1 h x t l2).push { cls:=.type "tuple",data:=.seq #[.none,.none] }
abbrev VH (h:Heap) (x:Str) (t:Tok) (l2:Addr):Heap:=(U4 h x t l2).push { cls:=.type "zip",data:=.fields #[.none,.bool false,.bool false,.ref (U0 h x t l2).objs.size,.ref (U1 h x t l2).objs.size] }
theorem u8 (x:Str) (t:Tok) (l2:Addr) (ys:Array Value) :
  Meets (Builtin.«zip.__new__» ⟨[.type "zip",.str x t,.ref l2],[]⟩) (fun _ R s=>s.heap.IsTuple l2 ys /\
   R (.ok (.ret (.ref (U4 s.heap x t l2).objs.size))) { s with heap:=VH s.heap x t l2 }) :=
 .of_wp fun prog w A R s h=>by
  obtain ⟨hp,g,d,tk,os⟩:=s; obtain ⟨hl2,h⟩:=h
  have hsub:=sub_zip
  have hL2:Heap.IsTuple (Shared.heap ⟨hp.push { cls:=.type (strIterType x),data:=.fields #[.str x t,.int 0 0] },g,d,tk,os⟩) l2 ys:=WG hl2 fun o e=>Heap.get?_push_of_some _ e
  wp_walk using wpAny_pyIter_strU (s:=⟨hp,g,d,tk,os⟩) (x:=x) (t:=t),wpAny_pyIter_tuple hL2
  exact ⟨_,rfl,h⟩
section
variable {prog:Program} {w:World} {A:Around} {E:Value -> Shared -> Prop} {s:Shared}
theorem Xx {x:Str} {t:Tok} {l2:Addr} {ys:Array Value} {Q:Value -> Shared -> Prop} (hl2:s.heap.IsTuple l2 ys)
  (h:∀ h',IsZip h' (s.heap.objs.size + 4) (s.heap.objs.size + 2) (s.heap.objs.size + 3) .none -> IsPair h' (s.heap.objs.size + 2) (.ref s.heap.objs.size) (.ref (s.heap.objs.size + 1)) ->
   IsPair h' (s.heap.objs.size + 3) .none .none -> h'.IsStrIter s.heap.objs.size (strIterType x) x t 0 -> h'.IsTupleIter (s.heap.objs.size + 1) l2 0 -> h'.objs.size = s.heap.objs.size + 5 ->
   (∀ c o,s.heap.get? c = some o -> h'.get? c = some o) -> Q (.ref (s.heap.objs.size + 4)) { s with heap:=h' }) :
  wpAny (model prog w) A (call (.type "zip") [.str x t,.ref l2]) Q E s:=by
 refine callType_new F.called_zip (by decide) (F.typeCall_zip_2 _ _) (F.newCall_zip_2 _ _) (fun obj=>F.args_object_init_3 obj _ _) F.entry_zip_new
  (u8 x t l2 ys) ⟨hl2,?_⟩
 have z1:(U2 s.heap x t).objs.size = s.heap.objs.size + 1:=Heap.size_push ..
 have z2:(U0 s.heap x t l2).objs.size = s.heap.objs.size + 2:=by rw [Heap.size_push,z1]
 have z3:(U1 s.heap x t l2).objs.size = s.heap.objs.size + 3:=by rw [Heap.size_push,z2]
 have z4:(U4 s.heap x t l2).objs.size = s.heap.objs.size + 4:=by rw [Heap.size_push,z3]
 have z5:(VH s.heap x t l2).objs.size = s.heap.objs.size + 5:=by rw [Heap.size_push,z4]
 have g5:(VH s.heap x t l2).get? (U4 s.heap x t l2).objs.size = some _:=Heap.get?_push_size _ rfl
 have g4:(VH s.heap x t l2).get? (U1 s.heap x t l2).objs.size = some _:=Heap.get?_push_of_some _ (Heap.get?_push_size _ rfl)
 have g3:(VH s.heap x t l2).get? (U0 s.heap x t l2).objs.size = some _:=Heap.get?_push_of_some _ (Heap.get?_push_of_some _ (Heap.get?_push_size _ rfl))
 have g2:(VH s.heap x t l2).get? (U2 s.heap x t).objs.size = some _:=Heap.get?_push_of_some _ (Heap.get?_push_of_some _ (Heap.get?_push_of_some _ (Heap.get?_push_size _ rfl)))
 have g1:(VH s.heap x t l2).get? s.heap.objs.size = some _:=Heap.get?_push_of_some _ (Heap.get?_push_of_some _ (Heap.get?_push_of_some _ (Heap.get?_push_of_some _ (Heap.get?_push_size _ rfl))))
 show _ /\ _
 rw [z2,z3,z4] at g5
 rw [z1,z2] at g3
 rw [z3] at g4
 rw [z1] at g2
 rw [z4]
 exact ⟨⟨_,g5,rfl⟩,h _ g5 g3 g4 ⟨_,g1,rfl,rfl⟩ ⟨_,g2,rfl,rfl⟩ z5 fun c o x =>
  Heap.get?_push_of_some _ (Heap.get?_push_of_some _ (Heap.get?_push_of_some _ (Heap.get?_push_of_some _ (Heap.get?_push_of_some _ x))))⟩
end
end L3
namespace L3
open PySem PySem.Spec PyProof.Rows L2
def Izs (K:PySem.W.Frag) (l:List Nat) (b:Addr):It:=⟨fun i H=>∃ ys y,SqT K H b ys /\ i < l.length /\ ys[i]? = some y,fun i H v H'=>∃ p c y,H p = none /\ l[i]? = some c /\ (∀ ys,SqT K H b ys -> ys[i]? = some y) /\ v = .ref p /\ H' = upd H p (.tup [.str (tx [c]),y]),fun i H=>i = l.length⟩
def ZSt (z TI TO i1 i2:Addr) (X:Str) (t:Tok) (l2:Addr) (i:Nat) (h:Heap):Prop:=IsZip h z TI TO .none /\ IsPair h TI (.ref i1) (.ref i2) /\ (∃ a b,IsPair h TO a b) /\ h.IsStrIter i1 (strIterType X) X t i /\ h.IsTupleIter i2 l2 i
theorem XX {P:Program} {w:World} {K:PySem.W.Frag} {elts:List Expr} {x1:Nat} {tpos:Pos} (z TI TO i1 i2 l2:Addr) (l:List Nat) (t:Tok) (D:Ut z TI TO i1 i2 l2) :
  W7 P w K (.Tuple elts x1 tpos) (Izs K l l2) [z,TI,TO,i1,i2] z (fun i h=>ZSt z TI TO i1 i2 (tx l) t l2 i h) where
 mem:=by simp
 obj:=fun i h st b hb=>by
  obtain ⟨hz,hTI,⟨a,c,hTO⟩,⟨o1,e1,c1,d1⟩,⟨o2,e2,c2,d2⟩⟩:=st
  simp only [List.mem_cons,List.mem_nil_iff,or_false] at hb
  rcases hb with rfl | rfl | rfl | rfl | rfl
  ·exact ⟨_,hz,fun v q=>by have q':Data.fields _ = Data.cell v:=q; cases q'⟩
  ·exact ⟨_,hTI,fun v q=>by have q':Data.seq _ _ = Data.cell v:=q; cases q'⟩
  ·exact ⟨_,hTO,fun v q=>by have q':Data.seq _ _ = Data.cell v:=q; cases q'⟩
  ·exact ⟨o1,e1,fun v q=>by rw [d1] at q; cases q⟩
  ·exact ⟨o2,e2,fun v q=>by rw [d2] at q; cases q⟩
 keep:=fun i h h' st k=>by
  obtain ⟨hz,hTI,⟨a,c,hTO⟩,h1,h2⟩:=st
  exact ⟨k z (by simp) _ hz,k TI (by simp) _ hTI,⟨a,c,k TO (by simp) _ hTO⟩,xP h1 fun o e=>k i1 (by simp) o e,wD h2 fun o e=>k i2 (by simp) o e⟩
 item:=by
  intro X hP hw hK hc i pins s σ H E I hf st hg
  subst hP hw hK
  obtain ⟨ys,y,hqy,hi,hy⟩:=hg
  obtain ⟨its2,rv2,p2,_⟩:=I.tuple hqy
  obtain ⟨u2,hu2,ru2⟩:=rv2.get hy
  obtain ⟨hz,hTI,⟨a,b,hTO⟩,h1,h2⟩:=st
  have hl2:s.heap.IsTuple l2 its2.toArray:=p2
  have hx:(tx l).cps[i]? = some l[i]:=by
   show l.toArray[i]? = _
   simp [hi]
  refine ub D hz hTI hTO h1 h2 hl2 hx (y:=u2) (by simpa using hu2) fun h' t' a1 a2 a3 a4 a5 a6 hk=>?_
  refine ⟨_,rfl,wpAny_letOwnedTupleGo_zip (s:={ s with heap:=h',toks:=s.toks + 1 }) a1 fun h2' hz2 sb=>?_⟩
  have zlt:z < s.heap.objs.size:=Heap.lt_size hz
  have TIlt:TI < s.heap.objs.size:=Heap.lt_size hTI
  have TOlt:TO < s.heap.objs.size:=Heap.lt_size hTO
  have i1lt:i1 < s.heap.objs.size:=by obtain ⟨o,e,_⟩:=h1; exact Heap.lt_size e
  have i2lt:i2 < s.heap.objs.size:=by obtain ⟨o,e,_⟩:=h2; exact Heap.lt_size e
  have I1:Inv X pins σ H { s with heap:=h2',toks:=s.toks + 1 }:=Inv.turns (fp:=[z,TI,TO,i1,i2]) I (fun b o hb q=>by
   have hb':b ≠ z /\ b ≠ TI /\ b ≠ TO /\ b ≠ i1 /\ b ≠ i2:=by simpa using hb
   exact (sb.2 b hb'.1).trans (hk b o hb'.1 hb'.2.2.1 hb'.2.2.2.1 hb'.2.2.2.2 q)) hf
  have hp:H s.heap.objs.size = none:=I.hok.fresh (Nat.le_refl _)
  have hT2:h2'.get? s.heap.objs.size = some { cls:=.type "tuple",data:=.seq #[.str ⟨#[l[i]]⟩ t',u2] }:=(sb.2 _ (Nat.ne_of_gt zlt)).trans a5
  have ru1:RelV (.str (tx [l[i]])) (.str ⟨#[l[i]]⟩ t'):=⟨t',rfl⟩
  have I2:Inv X pins σ (upd H s.heap.objs.size (.tup [.str (tx [l[i]]),y])) { s with heap:=h2',toks:=s.toks + 1 } :=
   Inv.track I1 (I.fpOk (Nat.le_refl _) hp) ⟨by show 2 <= sizeLine; decide,[.str ⟨#[l[i]]⟩ t',u2],.cons ru1 (.cons ru2 .nil),⟨_,hT2,rfl,_,rfl⟩⟩
  refine ⟨.ref s.heap.objs.size,_,I2,rfl,⟨s.heap.objs.size,l[i],y,hp,by simp [hi],fun zs hz'=>by rw [I.tuple_inj hz' hqy]; exact hy,rfl,rfl⟩,⟨hz2,(sb.2 _ D.TIz).trans (hk _ _ D.TIz D.TITO D.TIi1 D.TIi2 hTI),⟨_,_,(sb.2 _ D.TOz).trans a2⟩,xP a3 fun o e=>(sb.2 _ D.i1z).trans e,wD a4 fun o e=>(sb.2 _ D.i2z).trans e⟩,fun b hb=>?_⟩
  rw [zi]
  ·exact (hf b hb).1
  ·simp only [List.mem_cons,List.mem_nil_iff,or_false] at hb
   rcases hb with rfl | rfl | rfl | rfl | rfl <;> exact Nat.ne_of_lt (by assumption)
 done:=by
  intro X hP hw hK hc i pins s σ H E I hf st hg
  subst hP hw hK
  have hi:i = l.length:=hg
  obtain ⟨hz,hTI,⟨a,b,hTO⟩,h1,h2⟩:=st
  refine uC (I.ok.hd hc) D hz hTI hTO h1 ?_ fun h' hk=>⟨rfl,?_⟩
  ·show l.toArray[i]? = none
   simp [hi]
  ·exact Inv.turns (fp:=[z,TI,TO,i1,i2]) (t':=s.toks) I (fun b o hb q=>by
    have hb':b ≠ z /\ b ≠ TI /\ b ≠ TO /\ b ≠ i1 /\ b ≠ i2:=by simpa using hb
    exact hk b o hb'.1 hb'.2.2.1 hb'.2.2.2.1 hb'.2.2.2.2 q) hf
 self:=fun A i s Q E st h=>wpAny_pyIter_zip st.1 h
section
variable {X:Cx}
def iZs (K:PySem.W.Frag) (ta:TA):TI:=fun σ H R=>ta σ H fun vs H1=>∃ l b,vs = [.str (tx l),.ref b] /\ (∃ ys,SqT K H1 b ys) /\ R (Izs K l b) H1
theorem UA {a b:Expr} {ta:TA} {p pos tpos:Pos} {elts:List Expr} {x1:Nat} (hg:Gl X "zip") (hm:X.mg "zip" = none) (ha:PA X [a,b] ta) (hs:starEach [a,b] X.env = (false,eval a X.env) :: starEach [b] X.env:=by rfl)
  (hpl:(backTo pos (starEach [b] X.env)).any (·.1) = false:=by rfl):PI X (.Tuple elts x1 tpos) (.Call (.Name "zip" p) [a,b] [] pos) (iZs X.K ta):=by
 intro pins s σ H R I h
 refine Call_ (um I hg hm PyProof.Rows.boot_zip (PyProof.Rows.callWith_type1 (thn (ha pos pins s σ H _ I h) fun us s1 ⟨vs,H1,I1,r1,q1⟩=>?_) hs hpl))
 obtain ⟨l,l2,e,⟨ys,hqy⟩,q⟩:=q1
 subst e
 obtain ⟨u1,u2,rfl,ru1,ru2⟩:=Zg r1
 obtain ⟨t,rfl⟩:=ru1
 cases ru2
 obtain ⟨its2,rv2,p2,_⟩:=I1.tuple hqy
 have hl2:s1.heap.IsTuple l2 its2.toArray:=p2
 have l2lt:l2 < s1.heap.objs.size:=by obtain ⟨o,e,_⟩:=hl2; exact Heap.lt_size e
 have ne:∀ a b:Nat,a ≠ b -> s1.heap.objs.size + a ≠ s1.heap.objs.size + b:=fun a b h e=>h (Nat.add_left_cancel e)
 have nl:∀ a:Nat,l2 ≠ s1.heap.objs.size + a:=fun a=>Nat.ne_of_lt (Nat.lt_of_lt_of_le l2lt (Nat.le_add_right _ _))
 refine Xx hl2 fun h' hz hTI hTO h1 h2 hsz kk=>?_
 have I2:Inv X pins σ H1 { s1 with heap:=h' }:=I1.kept (t':=s1.toks) kk
 refine wpAny_pyIter_zip (s:={ s1 with heap:=h' }) hz ?_
 refine ⟨s1.heap.objs.size + 4,[s1.heap.objs.size + 4,s1.heap.objs.size + 2,s1.heap.objs.size + 3,s1.heap.objs.size,s1.heap.objs.size + 1],_,_,H1,rfl,I2,XX (s1.heap.objs.size + 4) (s1.heap.objs.size + 2) (s1.heap.objs.size + 3) s1.heap.objs.size (s1.heap.objs.size + 1) l2 l t ⟨⟨ne 2 4 (by decide),ne 3 4 (by decide),ne 0 4 (by decide),ne 1 4 (by decide),ne 2 3 (by decide),ne 2 0 (by decide),ne 2 1 (by decide),ne 3 0 (by decide),ne 3 1 (by decide),ne 0 1 (by decide)⟩,nl 4,nl 3,nl 0,nl 1⟩,⟨hz,hTI,⟨_,_,hTO⟩,h1,h2⟩,fun b hb=>?_,q⟩
 have hb':s1.heap.objs.size <= b:=by
  simp only [List.mem_cons,List.mem_nil_iff,or_false] at hb
  rcases hb with e | e | e | e | e
  ·rw [e]; exact Nat.le_add_right _ _
  ·rw [e]; exact Nat.le_add_right _ _
  ·rw [e]; exact Nat.le_add_right _ _
  ·rw [e]; exact Nat.le_refl _
  ·rw [e]; exact Nat.le_add_right _ _
 exact I1.fpOk hb' (I1.hok.fresh hb')
end
def CompZ (K:PySem.W.Frag) (l:List Nat) (b:Addr) (g:TG) (tt:TT) (te:TE) (own:Nat) (ix:List Nat) (σ:L2.St) (H1:Hp) (Q:VK) (D:Addr):Prop:=ZD (Izs K l b) g tt te own ix σ H1 Q D
theorem zX {K:PySem.W.Frag} {ta:TA} {g:TG} {tt:TT} {te:TE} {own:Nat} {ix:List Nat} {σ:L2.St} {H:Hp} {Q:VK}:jE (iZs K ta) g tt te own ix σ H Q = ta σ H fun vs H1=>∃ l b,vs = [.str (tx l),.ref b] /\ (∃ ys,SqT K H1 b ys) /\ ∀ D,H1 D = none -> CompZ K l b g tt te own ix σ H1 Q D:=rfl
section
variable {g:TG} {tt:TT} {te:TE} {own:Nat} {ix:List Nat} {σ:L2.St} {H1:Hp} {Q:VK} {D:Addr}
theorem CompZ.by {K:PySem.W.Frag} {l:List Nat} {b:Addr} {ys:List V} (Pv:Nat -> List V -> Hp -> Prop) (hlen:l.length = ys.length) (h0:Pv 0 [] (upd H1 D (.lst []))) (hl:∀ i acc H',i <= l.length -> Pv i acc H' -> SqT K H' b ys)
  (hs:∀ i c y acc H' p,l[i]? = some c -> ys[i]? = some y -> Pv i acc H' -> H' p = none -> g (.ref p) (vU σ own ix) (upd H' p (.tup [.str (tx [c]),y])) fun σ3 H3=>xD (vU σ own ix) σ3 /\ tt σ3 H3 fun b H4=>if b = true then
   te σ3 H4 fun v H5=>H5 D = some (.lst acc) /\ acc.length < sizeLine /\ CNx l.length i Pv (acc ++ [v]) (upd H5 D (.lst (acc ++ [v]))) else CNx l.length i Pv acc H4)
  (hd:∀ acc H',Pv l.length acc H' -> Q (.ref D) H'):CompZ K l b g tt te own ix σ H1 Q D:=by
 refine ⟨fun i m acc H=>m = l.length - i /\ i <= l.length /\ Pv i acc H,⟨l.length,by simp,Nat.zero_le _,h0⟩,?_⟩
 rintro i m acc H' ⟨rfl,hi,p⟩
 have q:=hl i acc H' hi p
 by_cases hlt:i < l.length
 ·refine .inr ⟨⟨ys,ys[i],q,hlt,by simp [<- hlen,hlt]⟩,fun x H2 y=>?_⟩
  obtain ⟨p',c,y,hp,hc,hy,ev,eH⟩:=y
  subst ev eH
  exact hs i c y acc H' p' hc (hy ys q) p hp
 ·have e:i = l.length:=by omega
  subst e
  exact .inl ⟨rfl,hd acc H' p⟩
end
end L3
namespace L3
open PySem PySem.Spec PyProof.Rows L2
section
variable {X:Cx} {k1 k2 k3 j:Nat} {C1 C2 C3:Addr} {m:Str} {ps:List Str} {s1 s2 s3:Sp} {o e:Expr} {es:List Expr} {ta:TE} {t:TA} {apos pos p:Pos} {E:XK}
def xf (t1 t2:TE):TE:=fun σ H Q=>t1 σ H Q \/ t2 σ H Q
theorem WI {t1 t2:TE} (h1:PE X e t1) (h2:PE X e t2):PE X e (xf t1 t2):=by
 intro pins s σ H Q I h
 rcases h with h | h
 ·exact h1 pins s σ H Q I h
 ·exact h2 pins s σ H Q I h
theorem Uk (D1:DM X.prog X.w X.K X.mg X.base CX0 k1 C1 m ps s1) (D2:DM X.prog X.w X.K X.mg X.base CX0 k2 C2 m ps s2) (D3:DM X.prog X.w X.K X.mg X.base CX0 k3 C3 m ps s3) (c1:Cls X.K C1) (c2:Cls X.K C2) (c3:Cls X.K C3) (hr:Room j X.A) (he:PE X o ta) (ha:PA X (e :: es) t) {pl:Sem Bool}
    (hst:starEach (e :: es) X.env = (false,eval e X.env) :: starEach es X.env:=by rfl) (hpl:(backTo pos (starEach es X.env)).any (·.1) = false:=by rfl)
    (ht:eval (.Call (.Attribute o m apos) (e :: es) [] pos) X.env = (do
      let ov <- eval o X.env
      standAt apos.atName
      let (f,first) <- holding [ov] (getMethod ov m pl)
      callWith pos f first (backTo pos (starEach (e :: es) X.env)) (backToKw pos (keywordEach [] X.env))):=by rfl) (h1:k1 <= j:=by decide) (h2:k2 <= j:=by decide) (h3:k3 <= j:=by decide) :
    PE X (.Call (.Attribute o m apos) (e :: es) [] pos) (xf (uE C1 m s1 [] E0 ta t) (xf (uE C2 m s2 [] E0 ta t) (uE C3 m s3 [] E0 ta t))) :=
  WI (me1 (pl:=pl) D1 c1 hr he ha hst hpl ht h1) (WI (me1 (pl:=pl) D2 c2 hr he ha hst hpl ht h2) (me1 (pl:=pl) D3 c3 hr he ha hst hpl ht h3))
end
end L3
namespace L3
open PySem PySem.Spec PyProof.Rows L2
section
variable {X:Cx}
def QV:V -> List V -> Hp -> VK -> Prop:=fun x vs H Q=>∃ l xs y,x = .ref l /\ vs = [.int 0,y] /\ H l = some (.lst xs) /\ xs.length < sizeLine /\ Q .non (upd H l (.lst (y :: xs)))
theorem VD:MtM X "list.insert" QV:=by
 intro pins s σ H x vs v us Q I rx rv h
 obtain ⟨l,xs,y,rfl,rfl,hH,hz,q⟩:=h
 cases rx
 cases rv with
 | cons r1 r2 =>
  obtain ⟨t0,rfl⟩:=r1
  obtain ⟨u,rfl,ru⟩:=vm r2
  obtain ⟨z,its,n,r,hl,e⟩:=I.lstM hH
  refine call_meets F.slot_list_insert ⟨_,e,rfl⟩ F.entry_list_insert (F.args_list_insert_3 _ _ _) (PySem.AutoSeq1.list_insert_list_int_val_1 l its.toArray n 0 t0 u (by decide) (by rw [List.size_toArray]; omega)) ⟨e,?_⟩
  refine ⟨.non,_,I.lset (its':=u :: its) hH e ?_ (.cons ru r) ?_,rfl,q⟩
  ·simp
  ·rw [List.length_cons]
   omega
end
end L3
namespace L3
open PySem PySem.Spec PyProof.Rows L2
section
variable {X:Cx}
def QD (w:List Nat):Value -> Bool
 | .str y _=>y.cps.toList == (tx w).cps.toList
 | _=>false
end
end L3
namespace L3
open PySem PySem.Spec PyProof.Rows L2 PySem.W PySem.Calls
section
variable {X:Cx}
end
end L3
namespace L3
open PySem PySem.Spec PyProof.Rows L2
section
variable {X:Cx} {k j:Nat} {C:Addr} {x f':Str} {ps:List Str} {sp:Sp} {e:Expr} {es:List Expr} {t:TA} {te:TX} {pos p:Pos}
end
section
variable {X:Cx} {k j:Nat} {C:Addr} {m x:Str} {ps:List Str} {sp:Sp} {e:Expr} {es:List Expr} {t:TA} {apos pos p:Pos} {E:XK}
end
end L3
namespace L3
open PySem PySem.Spec PyProof.Rows L2
section
variable {prog:Program} {w:World} {A:Around} {E:Value -> Shared -> Prop} {s:Shared} {env:Env}
end
end L3
namespace L3
open PySem PySem.Spec PyProof.Rows L2
theorem XEg.xe {X:Cx} {E:XK} (h:XEg X E):XE X E:=fun e s ⟨pins,σ,H,x,C,t,dx,tb,q⟩=>h e s ⟨.none,false,pins,σ,H,x,C,t,dx,tb,q⟩
section
variable {X:Cx} {k:Nat} {ps:List Str} {sp:Sp} {ds:List Value} {dvs:List V} {E:XK} {x:Str} {p pos:Pos} {e:Expr} {es:List Expr} {t:TA}
end
section
variable {X:Cx} {o e:Expr} {to:TE} {te:TX} {name:Str} {apos cpos:Pos} {T id:String} {r:V -> List V -> Hp -> VK -> Prop}
end
section
variable {X:Cx}
end
section
variable {X:Cx} {k j:Nat} {C:Addr} {ps:List Str} {sp:Sp} {e:Expr} {es:List Expr} {t:TA} {pos p:Pos} {x:Str}
end
end L3
namespace L3
open PySem PySem.Spec PyProof.Rows L2
theorem jB (x y:Str) (i j:Int) (t u v v':Tok):Gives (Builtin.«str.find» ⟨[.str x t,.str y u,.int i v,.int j v'],[]⟩) (.int (match Builtin.Str.occurrences x y (fromIndex x.length i) (min (fromIndex x.length j) x.length) 1 with | k :: _=>(k:Int) | []=>-1)):=by
 show Gives (match Builtin.Str.occurrences x y (fromIndex x.length i) (min (fromIndex x.length j) x.length) 1 with | k :: _=>retInt k | []=>(do rule "str.find.not-found"; retInt (-1))) _
 cases Builtin.Str.occurrences x y (fromIndex x.length i) (min (fromIndex x.length j) x.length) 1 with
 | nil=>exact .rule (.of_eq rfl)
 | cons k _=>exact .of_eq rfl
theorem jU (x y:Str) (lo hi:Nat) :
  (Builtin.Str.occurrences x y lo hi 1 = [] /\ ∀ i,lo <= i -> ¬ StrLaws.At x y hi i) \/
  ∃ i r,Builtin.Str.occurrences x y lo hi 1 = i :: r /\ lo <= i /\ StrLaws.At x y hi i /\ ∀ k,lo <= k -> k < i -> ¬ StrLaws.At x y hi k:=by
 rw [StrLaws.occ_eq]
 rcases StrLaws.occ_first x y hi 1 (Nat.le_refl 1) (List.range' lo (hi + 1 - lo)) lo (fun i hm=>(List.mem_range'_1.mp hm).1) with ⟨e,no⟩ | ⟨pre,a,post,e,e0,at_a,no⟩
 ·exact .inl ⟨by rw [e],fun i h1 h2=>no i (by have:=h2.1; rw [List.mem_range'_1]; omega) h2⟩
 ·have sp:=StrLaws.range'_split_from e
  generalize (forIn (List.range' lo (hi + 1 - lo)) ((#[]:Array Nat),lo) (StrLaws.occBody x y hi 1)).run.fst = z at e0 ⊢
  obtain ⟨zs⟩:=z
  cases zs with
  | nil=>simp at e0
  | cons b r =>
   have:b = a:=by simpa using e0
   subst this
   exact .inr ⟨b,r,rfl,sp.1,at_a,fun k h1 h2=>no k (sp.2 k h1 h2)⟩
theorem Qu (l p:List Nat) (hi i:Nat):StrLaws.At (tx l) (tx p) hi i ↔ i + p.length <= hi /\ (l.drop i).take p.length = p:=by
 unfold StrLaws.At Builtin.Str.subAt
 rw [yS,beq_iff_eq]
 have e1:((tx l).cps.extract i (i + p.length)).toList = (l.drop i).take p.length:=by
  show (l.toArray.extract i (i + p.length)).toList = _
  simp [List.extract_eq_drop_take]
 have e2:((tx l).cps.extract i (i + p.length) = (tx p).cps) ↔ (l.drop i).take p.length = p:=by
  constructor
  ·intro h
   rw [<- e1,h]
  ·intro h
   apply Array.toList_inj.mp
   rw [e1,h]
 rw [e2]
def Wx:V -> List V -> Hp -> VK -> Prop:=fun x xs H Q=>∃ (l p:List Nat) (lo hi:Int),x = .str (tx l) /\ xs = [.str (tx p),.int lo,.int hi] /\ 0 <= lo /\ 0 <= hi /\ ∀ r:Int,((r = -1 /\ ∀ q:Nat,lo <= q -> (q:Int) + p.length <= hi -> q + p.length <= l.length -> (l.drop q).take p.length ≠ p) \/ ∃ k:Nat,r = k /\ lo <= k /\ (k:Int) + p.length <= hi /\ k + p.length <= l.length /\ (l.drop k).take p.length = p /\ ∀ q:Nat,lo <= q -> q < k -> (l.drop q).take p.length ≠ p) -> Q (.int r) H
theorem W1 {X:Cx}:MtR X "str.find" Wx:=by
 intro pins s σ H x xs v us Q I rx rv h
 obtain ⟨l,p,lo,hi,rfl,rfl,h0,h1,q⟩:=h
 obtain ⟨t,rfl⟩:=rx
 cases rv with
 | cons r1 r2 =>
  cases r2 with
  | cons r2 r3 =>
   obtain ⟨w3,rfl,t3,rfl⟩:=vm r3
   obtain ⟨t1,rfl⟩:=r1
   obtain ⟨t2,rfl⟩:=r2
   have f0:fromIndex (tx l).length lo = lo.toNat:=by unfold fromIndex; rw [if_neg (by omega)]; omega
   have f1:fromIndex (tx l).length hi = hi.toNat:=by unfold fromIndex; rw [if_neg (by omega)]; omega
   refine call_gives F.slot_str_find (typeIs_str _ _ _) F.entry_str_find (F.args_str_find_4 _ _ _ _) (jB _ _ lo hi t t1 t2 t3) ?_
   refine ⟨.int _,H,I.tok _,⟨_,rfl⟩,q _ ?_⟩
   rw [f0,f1]
   have hm:∀ k:Nat,k + p.length <= min hi.toNat (tx l).length ↔ (k:Int) + p.length <= hi /\ k + p.length <= l.length:=fun k=>by rw [yS]; omega
   rcases jU (tx l) (tx p) lo.toNat (min hi.toNat (tx l).length) with ⟨e,no⟩ | ⟨i,r,e,hl,ha,no⟩
   ·rw [e]
    exact .inl ⟨rfl,fun k k1 k2 k3 k4=>no k (by omega) ((Qu l p _ k).mpr ⟨(hm k).mpr ⟨k2,k3⟩,k4⟩)⟩
   ·rw [e]
    obtain ⟨a1,a2⟩:=(Qu l p _ i).mp ha
    obtain ⟨b1,b2⟩:=(hm i).mp a1
    exact .inr ⟨i,rfl,by omega,b1,b2,a2,fun k k1 k2 k4=>no k (by omega) k2 ((Qu l p _ k).mpr ⟨(hm k).mpr ⟨by omega,by omega⟩,k4⟩)⟩
end L3
namespace L3
open PySem PySem.Spec PyProof.Rows L2
section
variable {prog:Program} {w:World} {A:Around} {R:Result -> Shared -> Prop} {I l S:Addr}
theorem YO (hh:A.handled = none) (hlI:l ≠ I) (hSI:S ≠ I) (hSl:S ≠ l) (xs:Array Value) (val:Nat -> Int) (hv:∀ i v,xs[i]? = some v -> ∃ t,v = Value.int (val i) t) (d:Value) :
  ∀ (k j:Nat) (z:Int) (t:Tok) (s:Shared) (c:Nat),xs.size - j = k -> j <= xs.size -> (∀ i,i < j -> val i <= z) -> s.heap.IsListIter I l j -> s.heap.IsList l xs -> s.heap.get? S = some (seqObj "list" #[.int z t,.int z t] c) ->
   (∀ z' t' h' tk,(∀ i,i < xs.size -> val i <= z') -> (∀ b o,b ≠ I -> b ≠ S -> s.heap.get? b = some o -> h'.get? b = some o) -> R (.ok (.ret (.int z' t'))) { s with heap:=h',toks:=tk }) ->
   codeAny (model prog w) A (.builtin "max.loop" ⟨[.ref I,.none,.ref S],[(Str.ofString "default",d)]⟩) R s:=by
 have nm:(toString "max" ++ toString ".loop" : String) = "max.loop":=by decide
 have W:=Walks.list (prog:=prog) (w:=w) (A:=A.in1) hh I l hlI xs
 intro k
 induction k with
 | zero =>
  intro j z t s c hk hj hz hit hl hS hR
  have e:j = xs.size:=by omega
  refine codeAny_builtin (b:=Builtin.«max.loop») PySem.F.entry_max_loop ?_
  rw [Around.under_plainId (id:="max.loop") PySem.F.plain_max_loop _]
  show wpAny _ A.in1 (seqItems? (Value.ref S) >>= _) _ _ s
  refine wpAny_bind (wpAny_seqItems (items:=#[.int z t,.int z t]) hS rfl ?_)
  show wpAny _ A.in1 (tryCatch (pyNext (Value.ref I)) _ >>= _) _ _ s
  refine wpAny_bind (wpAny_tryCatch (W.done s _ _ ⟨e ▸ hit,hl⟩ fun h' tk kp=>?_))
  have hS':=kp S _ (by simpa using hSI) hS
  show wpAny _ A.in1 (updateSeq S (fun _=>(#[]:Array Value)) >>= _) _ _ _
  refine wpAny_bind (wpAny_updateSeq hS' rfl (wpAny_bind (wpAny_letGo (wpAny_pure ?_))))
  exact hR z t _ tk (fun i hi=>hz i (by omega)) fun b o hb hb' q=>(Heap.get?_update_other _ _ (Ne.symm hb')).trans (kp b o (by simpa using hb) q)
 | succ k ih =>
  intro j z t s c hk hj hz hit hl hS hR
  refine codeAny_builtin (b:=Builtin.«max.loop») PySem.F.entry_max_loop ?_
  rw [Around.under_plainId (id:="max.loop") PySem.F.plain_max_loop _]
  show wpAny _ A.in1 (seqItems? (Value.ref S) >>= _) _ _ s
  refine wpAny_bind (wpAny_seqItems (items:=#[.int z t,.int z t]) hS rfl ?_)
  show wpAny _ A.in1 (tryCatch (pyNext (Value.ref I)) _ >>= _) _ _ s
  refine wpAny_bind (wpAny_tryCatch (W.item j s _ _ (by omega) ⟨hit,hl⟩ fun v h' tk hP st kp=>?_))
  obtain ⟨t2,rfl⟩:=hv j v hP
  have hS':=kp S _ (by simpa using hSI) hS
  show wpAny _ A.in1 (tryCatch (holding [Value.int (val j) t2,Value.int (val j) t2] (richCompare .Gt (.int (val j) t2) (.int z t) >>= _)) _ >>= _) _ _ _
  refine wpAny_bind (wpAny_tryCatch (wpAny_holding (wpAny_bind (CmpOf.ints_gt (prog:=prog) (w:=w) (A:=A.in1) (P:=fun i v=>∃ t,v = Value.int (if i = 0 then val j else z) t) (fun i=>if i = 0 then val j else z) (fun i v h=>h) 0 1 _ _ _ _ _ ⟨t2,rfl⟩ ⟨t,rfl⟩ ?_))))
  refine wpAny_bind (wpAny_holding (wpAny_truthy_bool (wpAny_bind (wpAny_letGo (wpAny_pure ?_)))))
  by_cases g:val j > z
  ·simp only [if_true,Nat.one_ne_zero,if_false,g,decide_true]
   refine wpAny_bind (wpAny_updateSeq hS' rfl (wpAny_bind (wpAny_letGo ?_)))
   rw [nm]
   refine wpAny_pure ⟨plainId_quiet PySem.F.plain_max_loop _,ih (j + 1) (val j) t2 _ _ (by omega) (by omega) (fun i hi=>?_) (W.frame _ _ _ st fun b hb o q=>?_).1 (W.frame _ _ _ st fun b hb o q=>?_).2 (get?_update_seq hS' _) fun z' t' h'' tk'' a1 a2=>hR z' t' h'' tk'' a1 fun b o hb hb' q=>a2 b o hb hb' ((Heap.get?_update_other _ _ (Ne.symm hb')).trans (kp b o (by simpa using hb) q))⟩
   ·by_cases e:i = j
    ·rw [e]
     exact Int.le_refl _
    ·have:=hz i (by omega)
     omega
   all_goals
    refine (Heap.get?_update_other _ _ (fun e:S = b=>?_)).trans q
    subst e
    rcases List.mem_cons.mp hb with e | e
    ·exact hSI e
    ·exact hSl (List.mem_singleton.mp e)
  ·simp only [if_true,Nat.one_ne_zero,if_false,g,decide_false,Bool.false_eq_true]
   refine wpAny_bind (wpAny_letGo ?_)
   rw [nm]
   refine wpAny_pure ⟨plainId_quiet PySem.F.plain_max_loop _,ih (j + 1) z t _ _ (by omega) (by omega) (fun i hi=>?_) st.1 st.2 hS' fun z' t' h'' tk'' a1 a2=>hR z' t' h'' tk'' a1 fun b o hb hb' q=>a2 b o hb hb' (kp b o (by simpa using hb) q)⟩
   by_cases e:i = j
   ·rw [e]
    omega
   ·exact hz i (by omega)
theorem YF (a v:Value):argsOk "max" ⟨[a],[(Str.ofString "default",v)]⟩:=by unfold argsOk; kernel_rfl
theorem Xl {E:Value -> Shared -> Prop} {s:Shared} {Q:Value -> Shared -> Prop} (hh:A.handled = none) (xs:Array Value) (val:Nat -> Int) (hv:∀ i v,xs[i]? = some v -> ∃ t,v = Value.int (val i) t) (hl:s.heap.IsList l xs) (d:Value)
  (h:∀ v h' tk,(xs.size = 0 -> v = d) -> (0 < xs.size -> ∃ z t,v = Value.int z t /\ ∀ i,i < xs.size -> val i <= z) -> (∀ b o,s.heap.get? b = some o -> h'.get? b = some o) -> Q v { s with heap:=h',toks:=tk }) :
  wpAny (model prog w) A (call (.builtin "max") [.ref l] [(Str.ofString "default",d)]) Q E s:=by
 have nm:(toString "max" ++ toString ".loop" : String) = "max.loop":=by decide
 have hlt:l < s.heap.objs.size:=by obtain ⟨_,e,_⟩:=hl; exact Heap.lt_size e
 refine kmb_tree PySem.F.kind_max PySem.F.plain_max PySem.F.entry_max (YF _ _) ?_
 show wpAny _ A.in1 (Builtin.Builtins.bindParams "max" ["key", "default"] 0 ⟨[],[(Str.ofString "default",d)]⟩ >>= _) _ _ s
 refine wpAny_bind (wpAny_of_eq (show Builtin.Builtins.bindParams "max" ["key", "default"] 0 ⟨[],[(Str.ofString "default",d)]⟩ = pure [none,some d] from rfl) (wpAny_bind (wpAny_pure ?_)))
 refine wpAny_bind (wpAny_pyIter_list hl (wpAny_bind (wpAny_newList ?_ (Nat.zero_le _))))
 rw [nm]
 refine wpAny_pure ⟨plainId_quiet PySem.F.plain_max_loop _,?_⟩
 have gI:(s.heap.push { cls:=.type "list_iterator",data:=.fields #[.ref l,.int 0 0] }).IsListIter s.heap.objs.size l 0:=⟨_,Heap.get?_push_size _ rfl,rfl,rfl⟩
 have gl:=hl.push { cls:=.type "list_iterator",data:=.fields #[.ref l,.int 0 0] }
 have kp0:∀ b o,s.heap.get? b = some o -> (s.heap.push { cls:=.type "list_iterator",data:=.fields #[.ref l,.int 0 0] }).get? b = some o:=fun b o q=>Heap.get?_push_of_some _ q
 have hsz:(s.heap.push { cls:=.type "list_iterator",data:=.fields #[.ref l,.int 0 0] }).objs.size = s.heap.objs.size + 1:=Heap.size_push _ _
 have hold:∀ b o,s.heap.get? b = some o -> b < s.heap.objs.size:=fun b o q=>Heap.lt_size q
 have hlI:l ≠ s.heap.objs.size:=Nat.ne_of_lt hlt
 generalize s.heap.push { cls:=.type "list_iterator",data:=.fields #[.ref l,.int 0 0] } = h1 at *
 generalize hIe:s.heap.objs.size = I at *
 have W:=Walks.list (prog:=prog) (w:=w) (A:=A.in1) hh I l hlI xs
 have gS:(h1.push { cls:=.type "list",data:=.seq ([]:List Value).toArray }).get? h1.objs.size = some (seqObj "list" #[] 0):=Heap.get?_push_size _ rfl
 have st0:=W.frame 0 _ (h1.push { cls:=.type "list",data:=.seq ([]:List Value).toArray }) ⟨gI,gl⟩ fun b _ o q=>Heap.get?_push_of_some _ q
 have kp1:∀ b o,s.heap.get? b = some o -> (h1.push { cls:=.type "list",data:=.seq ([]:List Value).toArray }).get? b = some o:=fun b o q=>Heap.get?_push_of_some _ (kp0 b o q)
 have hSI:h1.objs.size ≠ I:=by rw [hsz]; exact Nat.succ_ne_self I
 have hSl:h1.objs.size ≠ l:=by rw [hsz]; exact Nat.ne_of_gt (Nat.lt_succ_of_lt hlt)
 have hSb:∀ b o,s.heap.get? b = some o -> b ≠ I /\ b ≠ h1.objs.size:=fun b o q=>⟨Nat.ne_of_lt (hold b o q),by rw [hsz]; exact Nat.ne_of_lt (Nat.lt_succ_of_lt (hold b o q))⟩
 generalize h1.push { cls:=.type "list",data:=.seq ([]:List Value).toArray } = h2 at *
 generalize h1.objs.size = S at *
 refine codeAny_builtin (b:=Builtin.«max.loop») PySem.F.entry_max_loop ?_
 rw [Around.under_plainId (id:="max.loop") PySem.F.plain_max_loop _]
 show wpAny _ A.in1 (seqItems? (Value.ref S) >>= _) _ _ _
 refine wpAny_bind (wpAny_seqItems (items:=#[]) gS rfl ?_)
 show wpAny _ A.in1 (tryCatch (pyNext (Value.ref I)) _ >>= _) _ _ _
 by_cases hz:xs.size = 0
 ·refine wpAny_bind (wpAny_tryCatch (W.done _ _ _ (by rw [hz]; exact st0) fun h' tk kp=>?_))
  show wpAny _ A.in1 (rule _ >>= fun _=>_) _ _ _
  refine wpAny_bind (wpAny_rule (wpAny_pure ?_))
  exact h d h' tk (fun _=>rfl) (fun q=>absurd q (by omega)) fun b o q=>kp b o (by simpa using (hSb b o q).1) (kp1 b o q)
 ·refine wpAny_bind (wpAny_tryCatch (W.item 0 _ _ _ (by omega) st0 fun v h' tk hP st kp=>?_))
  obtain ⟨t,rfl⟩:=hv 0 v hP
  have hS':=kp S _ (by simpa using hSI) gS
  show wpAny _ A.in1 (updateSeq S (fun _=>#[Value.int (val 0) t,Value.int (val 0) t]) >>= _) _ _ _
  refine wpAny_bind (wpAny_updateSeq hS' rfl ?_)
  rw [nm]
  have st':=W.frame _ _ (h'.update S (Obj.mapSeq fun _=>#[Value.int (val 0) t,Value.int (val 0) t])) st fun b hb o q=>by
   refine (Heap.get?_update_other _ _ (fun e:S = b=>?_)).trans q
   subst e
   rcases List.mem_cons.mp hb with e | e
   ·exact hSI e
   ·exact hSl (List.mem_singleton.mp e)
  refine wpAny_pure ⟨plainId_quiet PySem.F.plain_max_loop _,YO hh hlI hSI hSl xs val hv d _ 1 (val 0) t _ _ rfl (by omega) (fun i hi=>?_) st'.1 st'.2 (get?_update_seq hS' _) fun z' t' h'' tk'' a1 a2=>?_⟩
  ·have:i = 0:=by omega
   rw [this]
   exact Int.le_refl _
  ·exact h _ h'' tk'' (fun q=>absurd q hz) (fun _=>⟨z',t',rfl,a1⟩) fun b o q=>a2 b o (hSb b o q).1 (hSb b o q).2 ((Heap.get?_update_other _ _ (Ne.symm (hSb b o q).2)).trans (kp b o (by simpa using (hSb b o q).1) (kp1 b o q)))
end
section
variable {X:Cx} {id:String} {x:Str} {e:Expr} {es:List Expr} {kws:List Keyword} {ks:List Str} {p pos:Pos} {t tk:TA}
def WC (X:Cx) (id:String) (ks:List Str) (r:List V -> List V -> Hp -> VK -> Prop):Prop :=
 ∀ (pins:List (Addr × Obj)) (s:Shared) (σ:L2.St) (H:Hp) (vs zs:List V) (us ws:List Value) (Q:VK),Inv X pins σ H s -> Vals vs us -> Vals zs ws -> r vs zs H Q -> wpAny (model X.prog X.w) X.A (call (.builtin id) us (ks.zip ws)) (EP X pins σ Q) X.xe s
def Js (r:List V -> List V -> Hp -> VK -> Prop) (t tk:TA):TE:=fun σ H Q=>t σ H fun vs H1=>tk σ H1 fun zs H2=>r vs zs H2 Q
theorem Yb {r:List V -> List V -> Hp -> VK -> Prop} (hc:WC X id ks r) (hg:Gl X x) (hm:X.mg x = none) (hv:bootBuiltins x = some (.builtin id)) (ha:PA X (e :: es) t) (hk:PK X kws tk) (hks:(backToKw pos (keywordEach kws X.env)).filterMap (·.1) = ks:=by rfl) (hn:x ≠ "__name__":=by decide) (hdb:(x == ("__debug__" : Str)) = false:=by decide)
  (he:backTo pos (starEach (e :: es) X.env) = (false,eval e X.env) :: backTo pos (starEach es X.env):=by rfl) (hpl:(backTo pos (starEach (e :: es) X.env)).any (·.1) = false:=by rfl)
  (hall:(backToKw pos (keywordEach kws X.env)).all (·.1.isSome) = true:=by rfl) (hkw:(backToKw pos (keywordEach kws X.env)).any (·.1.isNone) = false:=by rfl):PE X (.Call (.Name x p) (e :: es) kws pos) (Js r t tk):=by
 intro pins s σ H Q I h
 refine wpAny_Call_Name_kw (um I hg hm hv ?_ hn hdb)
 refine callWith_kw (thn (ha pos pins s σ H _ I h) fun us s1 ⟨vs,H1,I1,r1,q1⟩=>thn (hk pos pins s1 σ H1 _ I1 q1) fun ws s2 ⟨zs,H2,I2,r2,q2⟩=>?_) he hpl hall hkw
 rw [hks]
 exact hc pins s2 σ H2 vs zs us ws Q I2 r1 r2 q2
def QX (K:PySem.W.Frag):List V -> List V -> Hp -> VK -> Prop:=fun vs zs H Q=>∃ (a:Addr) (ns:List Int) (d:Int),vs = [.ref a] /\ zs = [.int d] /\ SqL K H a (ns.map V.int) /\ ∀ z:Int,(ns = [] -> z = d) -> (∀ n ∈ ns,n <= z) -> Q (.int z) H
theorem Ur (hc:X.calm = true):WC X "max" [Str.ofString "default"] (QX X.K):=by
 intro pins s σ H vs zs us ws Q I r1 r2 h
 obtain ⟨a,ns,d,rfl,rfl,hS,q⟩:=h
 obtain ⟨u,rfl,ru⟩:=vm r1
 cases ru
 obtain ⟨w',rfl,td,rfl⟩:=vm r2
 obtain ⟨its,rv,pl,hz⟩:=I.list hS
 have hlen:=rv.length
 rw [List.length_map] at hlen
 have hat:∀ (i:Nat) (v:Value),its.toArray[i]? = some v -> ∃ t,v = Value.int (ns.getD i 0) t:=fun i v hi=>by
  have hi':its[i]? = some v:=by simpa using hi
  have hil:=(List.getElem?_eq_some_iff.mp hi').1
  obtain ⟨u,hu,t,rfl⟩:=wq rv (j:=i) (x:=.int (ns.getD i 0)) (by rw [List.getElem?_map,List.getD_eq_getElem?_getD,List.getElem?_eq_getElem (by omega)]; rfl)
  rw [hi'] at hu
  cases hu
  exact ⟨t,rfl⟩
 refine Xl (I.ok.hd hc) its.toArray (fun i=>ns.getD i 0) hat pl.isList (.int d td) fun v h' tk h0 h1 kp=>?_
 by_cases hn:ns = []
 ·have:=h0 (by rw [List.size_toArray,<- hlen,hn]; rfl)
  subst this
  exact ⟨.int d,H,I.kept kp,⟨_,rfl⟩,q d (fun _=>rfl) (fun n hm=>by rw [hn] at hm; cases hm)⟩
 ·obtain ⟨z,t,rfl,hzz⟩:=h1 (by rw [List.size_toArray,<- hlen]; exact List.length_pos_iff.mpr hn)
  refine ⟨.int z,H,I.kept kp,⟨_,rfl⟩,q z (fun e=>absurd e hn) fun n hm=>?_⟩
  obtain ⟨i,hi,rfl⟩:=List.getElem_of_mem hm
  have:=hzz i (by rw [List.size_toArray,<- hlen]; exact hi)
  rw [List.getD_eq_getElem?_getD,List.getElem?_eq_getElem hi] at this
  exact this
end
end L3
namespace L3
open PySem PySem.Spec PyProof.Rows L2
structure DMD (P:Program) (w:World) (K:PySem.W.Frag) (mg:Str -> Option Value) (base:Heap) (CX:CXT) (k:Nat) (C:Addr) (m:Str) (ps:List Str) (ds:List Value) (sp:Sp):Prop where
 ex:∃ f fd,VM K C m f /\ FnOk P w K mg base CX k f fd ps sp /\ Binds K fd ps ds
end L3
namespace L3
open PySem PySem.Spec PyProof.Rows L2
section
variable {X:Cx}
end
end L3
namespace L3
open PySem PySem.Spec PyProof.Rows L2
section
variable {X:Cx}
end
end L3
namespace L3
open PySem PySem.Spec PyProof.Rows L2
section
variable {X:Cx}
end
end L3
namespace L3
open PySem PySem.Spec PyProof.Rows L2
section
variable {g:TG} {tt:TT} {te:TE} {own:Nat} {ix:List Nat} {σ:L2.St} {H1:Hp} {Q:VK} {D:Addr}
end
end L3
namespace L3
open PySem PySem.Spec PyProof.Rows L2
section
variable {X:Cx}
end
end L3
namespace L3
open PySem PySem.W PyProof.Rows
def Qi (lt:Nat -> Nat -> Bool) {α:Type}:KasT α -> α
 | .ret a=>a
 | .ask i j k=>Qi lt (k (lt i j))
def Kok (lt:Nat -> Nat -> Bool) (n:Nat) {α:Type}:KasT α -> (α -> Prop) -> Prop
 | .ret a,Q=>Q a
 | .ask i j k,Q=>i < n /\ j < n /\ Kok lt n (k (lt i j)) Q
section
variable {lt:Nat -> Nat -> Bool} {n:Nat} {α β:Type}
theorem Kok.bind {f:α -> KasT β} {Q:β -> Prop}:∀ (t:KasT α),Kok lt n t (fun a=>Kok lt n (f a) Q) -> Kok lt n (t.bind f) Q
 | .ret _,h=>h
 | .ask _ _ k,h=>⟨h.1,h.2.1,Kok.bind (k _) h.2.2⟩
theorem Kok.run {Q:α -> Prop}:∀ (t:KasT α),Kok lt n t Q -> Q (Qi lt t)
 | .ret _,h=>h
 | .ask _ _ k,h=>Kok.run (k _) h.2.2
end
section
variable {lt:Nat -> Nat -> Bool} {n:Nat}
abbrev Lq (lt:Nat -> Nat -> Bool) (a b:Nat):Prop:=lt b a = false
abbrev pg (p:Array Nat) (i:Nat):Nat:=p.getD i 0
def Dn (lt:Nat -> Nat -> Bool) (p:Array Nat) (m:Nat):Prop:=∀ i j,i < j -> j < m -> Lq lt (pg p j) (pg p i)
def Rg (n:Nat) (p:Array Nat):Prop:=p.toList.Perm (List.range n)
theorem Rg.size {p:Array Nat} (h:Rg n p):p.size = n:=by have:=h.length_eq; simpa using this
end
def srt {α:Type} (lt:α -> α -> Bool) (d:α) (xs:List α):List α :=
 if xs.length < 2 then xs else (Qi (fun i j=>lt (xs.getD i d) (xs.getD j d)) (kas_sort xs.length)).toList.map fun i=>xs.getD i d
end L3
namespace L3
open PySem PySem.Spec PyProof.Rows L2
section
variable {X:Cx} {pins:List (Addr × Obj)} {σ:L2.St} {H:Hp} {s:Shared}
end
end L3
namespace L3
open PySem PySem.Spec PyProof.Rows L2
section
variable {X:Cx} {pins:List (Addr × Obj)} {σ:L2.St} {H:Hp} {s:Shared}
end
end L3
namespace L3
open PySem PySem.Spec PyProof.Rows L2
section
variable {X:Cx} {pins:List (Addr × Obj)} {σ:L2.St} {H:Hp} {s:Shared}
end
end L3
namespace L3
open PySem PySem.Spec PyProof.Rows L2
section
variable {X:Cx} {pins:List (Addr × Obj)} {σ:L2.St} {H:Hp} {s:Shared} {p y name qual:Str} {scope:Scope} {params:Arguments} {body:Expr} {f c' c:Addr} {pm ctv cv:Value} {k iy:Nat} {vy x:V} {u:Value} {Q:VK} {t:TE}
end
end L3
namespace L3
open PySem PySem.Spec PyProof.Rows L2
def cdE (c':Addr) (q:Str):HO:=.ext fun h=>h.CodeRec (.ref c') q
def fnE (f:Addr) (o:Obj):HO:=.ext fun h=>h.get? f = some o
theorem UN {P:Program} {w:World} {H:Hp} {h:Heap} {c':Addr} {q:Str} (x:h.CodeRec (.ref c') q):ObjOk P w H h c' (cdE c' q):=by
 refine ⟨x,?_,fun h1 h2 a k=>?_⟩
 ·obtain ⟨c,o,vs,t,e,g,_⟩:=x
  cases e
  exact ⟨o,g⟩
 ·obtain ⟨c,o,vs,t,e,g,r⟩:=a
  cases e
  exact ⟨_,o,vs,t,rfl,k o g,r⟩
theorem VV {P:Program} {w:World} {H:Hp} {h:Heap} {f:Addr} {o:Obj} (x:h.get? f = some o):ObjOk P w H h f (fnE f o) :=
 ⟨x,⟨o,x⟩,fun h1 h2 a k=>k o a⟩
section
variable {X:Cx} {pins:List (Addr × Obj)} {σ:L2.St} {H:Hp} {s:Shared}
theorem Inv.grow {P c' f:Addr} {ps more:Array Value} {o:Obj} {q:Str} {h':Heap} {tk:Nat} (I:Inv X pins σ H s) (hP:H P = some (.tbl ps)) (hk:∀ b u,b ≠ P -> s.heap.get? b = some u -> h'.get? b = some u) (hP':h'.get? P = some { cls:=.none,data:=.fields (ps ++ more) })
  (hc:s.heap.objs.size <= c') (hf:s.heap.objs.size <= f) (hcf:c' ≠ f) (hcr:h'.CodeRec (.ref c') q) (hfo:h'.get? f = some o) :
  Inv X pins σ (upd (upd (upd H P (.tbl (ps ++ more))) c' (cdE c' q)) f (fnE f o)) { s with heap:=h',toks:=tk }:=by
 have Pl:P < s.heap.objs.size:=I.hok.lt hP
 have hPc:P ≠ c':=Nat.ne_of_lt (Nat.lt_of_lt_of_le Pl hc)
 have hPf:P ≠ f:=Nat.ne_of_lt (Nat.lt_of_lt_of_le Pl hf)
 have old:∀ b,b < s.heap.objs.size -> b ≠ P -> (upd (upd (upd H P (.tbl (ps ++ more))) c' (cdE c' q)) f (fnE f o)) b = H b:=fun b hb hbP=>by
  rw [zi (Nat.ne_of_lt (Nat.lt_of_lt_of_le hb hf)),zi (Nat.ne_of_lt (Nat.lt_of_lt_of_le hb hc)),zi hbP]
 have atP:(upd (upd (upd H P (.tbl (ps ++ more))) c' (cdE c' q)) f (fnE f o)) P = some (.tbl (ps ++ more)):=by
  rw [zi hPf,zi hPc,zd]
 have neP:∀ b,H b = none -> b ≠ P:=fun b e z=>by rw [z,hP] at e; cases e
 refine I.un ⟨fun b u e n _ _=>hk b u (neP b n) e,fun b u e n _ _=>⟨u.slots,hk b u (neP b n) e⟩,fun b u e n _=>?_,fun b u e _=>?_,fun b xs e=>?_,fun b ob u e=>?_,fun b qs e=>?_⟩ fun b u e=>?_
 ·rw [old b (Heap.lt_size e) (neP b n)]
  exact n
 ·by_cases hb:b = P
  ·subst hb; exact ⟨_,hP'⟩
  ·exact ⟨u,hk b u hb e⟩
 ·rw [old b (I.hok.lt e) (fun z=>by rw [z,hP] at e; cases e)]
  exact e
 ·rw [old b (I.hok.lt e) (fun z=>by rw [z,hP] at e; cases e)]
  exact e
 ·by_cases hb:b = P
  ·subst hb
   rw [hP] at e
   cases e
   exact ⟨more,atP⟩
  ·rw [old b (I.hok.lt e) hb]
   exact ⟨#[],by rw [e]; simp⟩
 ·by_cases hbf:b = f
  ·subst hbf
   rw [zd] at e
   cases e
   exact VV hfo
  ·rw [zi hbf] at e
   by_cases hbc:b = c'
   ·subst hbc
    rw [zd] at e
    cases e
    exact UN hcr
   ·rw [zi hbc] at e
    by_cases hbP:b = P
    ·subst hbP
     rw [zd] at e
     cases e
     exact hP'
    ·rw [zi hbP] at e
     refine (I.hok b u e).stay (fun d v hd g=>hk d v ?_ g) (fun d g=>?_) fun d xs g=>?_
     ·rcases hd with z | z
      ·rw [z]; exact hbP
      ·intro z'; rw [z',hP] at z; cases z
     ·rw [old d (I.hok.lt g) (fun z=>by rw [z,hP] at g; cases g)]
      exact g
     ·rw [old d (I.hok.lt g) (fun z=>by rw [z,hP] at g; cases g)]
      exact g
end
end L3
namespace L3
open PySem PySem.Spec PyProof.Rows L2
section
variable {X:Cx} {pins:List (Addr × Obj)} {σ:L2.St} {H:Hp} {s:Shared} {cc P c:Addr} {y:Str} {params:Arguments} {body:Expr} {scope:Scope} {pos:Pos} {Q:VK}
end
end L3
namespace L3
open PySem PySem.Spec PyProof.Rows L2
section
variable {X:Cx} {cc P c:Addr} {x p y:Str} {params:Arguments} {body e:Expr} {scope:Scope} {lpos kpos pos pp:Pos} {k iy:Nat} {te tb:TE}
end
end L3
namespace L3
open PySem PySem.Spec PyProof.Rows L2
section
variable {K:PySem.W.Frag}
end
end L3
namespace L3
open PySem PySem.Spec PyProof.Rows L2
section
variable {P:Program} {w:World} {K:PySem.W.Frag} {mg mb:Str -> Option Value} {CX:CXT} {k:Nat} {fa a T cc:Addr} {fd:FuncData} {x:Str} {sp:Sp} {s₁:Shared} {vs:List Value} {ns:List Int} {ps:Array Value}
end
end L3
namespace PySem
namespace F
end F
section
variable {prog:Program} {w:World} {A:Around} {E:Value -> Shared -> Prop} {s:Shared}
def Heap.IsRevS (h:Heap) (a:Addr) (x:Str) (t:Tok) (i:Int):Prop:=∃ o,h.get? a = some o /\ o.cls = .type "reversed" /\ o.data = .fields #[.str x t,rawInt i]
theorem Heap.IsRevS.typeIs {a:Addr} {x:Str} {t:Tok} {i:Int} (z:s.heap.IsRevS a x t i):s.TypeIs (.ref a) "reversed":=let ⟨o,ho,hc,_⟩:=z; ⟨o,ho,hc⟩
theorem Heap.IsRevS.at {h h':Heap} {a:Addr} {x:Str} {t:Tok} {i:Int} (z:h.IsRevS a x t i) (e:∀ o,h.get? a = some o -> h'.get? a = some o):h'.IsRevS a x t i:=let ⟨o,ho,r⟩:=z; ⟨o,e _ ho,r⟩
end
section
variable {prog:Program} {w:World} {A:Around} {E:Value -> Shared -> Prop} {s:Shared}
end
end PySem
namespace L3
open PySem PySem.Spec PyProof.Rows L2
section
variable {X:Cx} {o a:Expr} {to:TE} {ta:TA} {apos cpos p pos2:Pos}
end
end L3
namespace L2
open PySem PySem.Spec PyProof.Rows
section
variable {X:Cx} {tg:Expr}
end
end L2
namespace L3
open PySem L2
section
variable {g:TG} {tt:TT} {te:TE} {own:Nat} {ix:List Nat} {σ:L2.St} {H1:Hp} {Q:VK} {D:Addr}
end
end L3
namespace L3
open PySem PySem.Spec PyProof.Rows L2
open AutoSeq1 (wpAny_loadPart')
open MeetsSeq MeetsSeq2 MeetsSeq3 SeqRoads2 SeqAt
section
variable {X:Cx} {pins:List (Addr × Obj)} {σ:St} {H:Hp} {s:Shared}
end
end L3
namespace L3
open PySem PySem.Spec PyProof.Rows L2
section
variable {prog:Program} {w:World} {A:Around} {R:Result -> Shared -> Prop} {I:Addr} {fp wr:List Addr} {G:Array GenState -> Array GenState -> Prop} {n:Nat} {P:Nat -> Value -> Prop} {St:Nat -> Shared -> Prop}
end
section
variable {prog:Program} {w:World} {A:Around} {E:Value -> Shared -> Prop} {s:Shared}
end
end L3
namespace L3
open PySem PySem.Spec PyProof.Rows L2
section
variable {X:Cx}
end
end L3
namespace L3
open PySem PySem.Spec PyProof.Rows L2
section
variable {g:TG} {tt:TT} {te:TE} {own:Nat} {ix:List Nat} {σ:L2.St} {H1:Hp} {Q:VK} {D:Addr}
end
end L3
namespace L3
open PySem PySem.Spec PyProof.Rows L2
section
variable {X:Cx} {pos:Pos}
end
end L3
namespace L3
open PySem PySem.Spec PyProof.Rows L2
section
variable {X:Cx} {pos:Pos}
end
end L3
namespace L3
open PySem PySem.Spec PyProof.Rows L2
section
variable {X:Cx} {scope:Scope} {own caps:List Str} {ix:List Nat} {elt tg iter:Expr} {ifs:List Expr} {pos:Pos} {wi:TI} {g:TG} {tt:TT} {te:TE}
end
end L3
namespace L3
open PySem PySem.Spec PyProof.Rows L2
section
variable {X:Cx} {scope:Scope} {own caps:List Str} {ix:List Nat} {cl:List (Str × Addr)} {pins:List (Addr × Obj)} {σ:St} {H:Hp} {s:Shared} {fp:List Addr} {E:Value -> Shared -> Prop}
end
section
variable {X:Cx} {scope:Scope} {own caps:List Str} {ix:List Nat} {elt tg iter:Expr} {ifs:List Expr} {pos:Pos} {wi:TI} {g:TG} {tt:TT} {te:TE}
end
end L3
namespace L3
open PySem PySem.Spec PyProof.Rows L2
section
variable {X:Cx}
def W6 (K:PySem.W.Frag):V -> List V -> Hp -> VK -> Prop:=fun x xs H Q=>∃ (p:Addr) (ws:List (List Nat)) (w:List Nat),x = .ref p /\ xs = [.str (tx w)] /\ SqL K H p (ws.map fun w=>V.str (tx w)) /\ w ∈ ws /\ Q (.int (ws.idxOf w:Nat)) H
theorem kO:MtR X "list.index" (W6 X.K):=by
 intro pins s σ H x xs v us Q I rx rv h
 obtain ⟨p,ws,w,rfl,rfl,hS,hw,q⟩:=h
 cases rx
 obtain ⟨u,rfl,tz,rfl⟩:=vm rv
 obtain ⟨its,r,pl,hl⟩:=I.list hS
 have s16:(sizeLine:Nat) = 16777216:=sizeLine_eq
 have hlen:=r.length
 rw [List.length_map] at hlen hl
 have hlt:=List.idxOf_lt_length_of_mem hw
 have hat:∀ (j:Nat) (hj:j < its.toArray.size),∃ u t,ws[j]? = some u /\ its.toArray[j] = .str (tx u) t:=fun j hj=>by
  rw [List.size_toArray] at hj
  have hj':j < ws.length:=by omega
  obtain ⟨u,hu,t,rfl⟩:=wq r (j:=j) (x:=.str (tx ws[j])) (by rw [List.getElem?_map,List.getElem?_eq_getElem hj']; rfl)
  exact ⟨_,t,List.getElem?_eq_getElem hj',by simpa using (List.getElem?_eq_some_iff.mp hu).2⟩
 have inj:∀ u:List Nat,((tx u).cps.toList == (tx w).cps.toList) = true -> u = w:=fun u h=>by
  have:=beq_iff_eq.mp h
  exact (show u = w from this)
 obtain ⟨o,n0,e,hc,hd,hda⟩:=id pl
 obtain ⟨oc,od,oda,os⟩:=o
 simp only at hc hd hda
 subst hc hd hda
 refine call_meets F.slot_list_index ⟨_,e,rfl⟩ F.entry_list_index (F.args_list_index_2 _ _) (PySem.SeqAt.list_indexAt p its.toArray n0 _ os (.str (tx w) tz) (QD w) (ws.idxOf w) (by rw [List.size_toArray]; omega) (by omega) ?_ ?_) ⟨e,?_,?_⟩
 ·obtain ⟨u,t,h1,h2⟩:=hat (ws.idxOf w) (by rw [List.size_toArray]; omega)
  rw [h2]
  rw [List.getElem?_eq_getElem hlt,List.getElem_idxOf] at h1
  cases h1
  simp [QD]
 ·intro m hm hlt'
  obtain ⟨u,t,h1,h2⟩:=hat m hm
  rw [h2]
  have:=List.not_of_lt_findIdx (p:=(· == w)) hlt'
  obtain ⟨h3,h4⟩:=List.getElem?_eq_some_iff.mp h1
  simp only [h4] at this
  cases hb:QD w (.str (tx u) t) with
  | false=>rfl
  | true =>
   have e2:=inj u hb
   subst e2
   simp at this
 ·intro y hy
  obtain ⟨j,hj,rfl⟩:=Array.mem_iff_getElem.mp hy
  obtain ⟨u,t,h1,h2⟩:=hat j hj
  rw [h2]
  exact (PySem.SeqRoads2.EqGives.str _ _ _ _).at _ _
 ·exact ⟨.int _,H,I.tok _,⟨_,rfl⟩,q⟩
end
end L3
namespace LL
open PySem L2 L3
def top (i:Nat):Stmt:=PySem.Challenge.pw_letterlaw_k72_world_of_forms.main.body.getD i (.Pass ⟨0,0,0,0⟩)
abbrev yw:Stmt:=z8 (top 5) 0
abbrev zS:Stmt:=z8 (top 6) 0
abbrev zQ:Stmt:=top 12
abbrev yv:Stmt:=top 13
abbrev yF:Stmt:=top 14
abbrev Zz:Stmt:=top 15
abbrev yC:Stmt:=top 18
abbrev yo:Stmt:=z8 (top 19) 0
abbrev yh:Stmt:=z8 (top 19) 1
abbrev zI:Stmt:=z8 (top 19) 2
abbrev yD:Stmt:=z8 (top 19) 3
abbrev zL:Stmt:=top 21
abbrev zD:Stmt:=top 22
abbrev xB:Stmt:=top 23
abbrev yB:Stmt:=top 24
abbrev yq:Stmt:=z8 (top 27) 0
abbrev yc:Stmt:=z8 (top 27) 1
abbrev yt:Stmt:=z8 (top 27) 2
abbrev yf:Stmt:=z8 (top 27) 3
abbrev yd:Stmt:=z8 (top 27) 4
abbrev zV:Stmt:=z8 (top 28) 0
abbrev zU:Stmt:=z8 (top 29) 0
abbrev zH:Stmt:=z8 (top 29) 1
abbrev yb:Stmt:=top 32
abbrev yr:Stmt:=top 33
abbrev xV:Stmt:=top 34
abbrev yk:Stmt:=z8 (top 35) 0
abbrev zN:Stmt:=z8 (top 35) 3
abbrev zJ:Stmt:=z8 (top 35) 4
abbrev zP:Stmt:=z8 (top 35) 5
abbrev zR:Stmt:=z8 (top 35) 6
abbrev xj:Stmt:=top 37
abbrev xw:Stmt:=top 38
abbrev uO:Stmt:=top 39
abbrev uI:Stmt:=top 40
abbrev xx:Stmt:=top 41
abbrev vn:Stmt:=top 42
abbrev ww:Stmt:=top 43
abbrev wX:Stmt:=top 44
abbrev vh:Stmt:=top 45
abbrev uH:Stmt:=top 46
abbrev xq:Stmt:=top 47
abbrev wj:Stmt:=top 48
abbrev yE:Stmt:=top 49
abbrev yN:Stmt:=top 50
abbrev va:Stmt:=top 51
abbrev qx:Stmt:=top 52
section
variable {P:Program} {w:World} {K:PySem.W.Frag} {mg:Str -> Option Value} {base:Heap}
seal L2.PE L2.PS L2.PA L2.PT L2.PSs L2.PI L2.PG L2.PW L2.PGs
local macro_rules | `(tactic| rfl')=>`(tactic| simp only [Jr,YE,JD,vU,Option.join_some,Option.join_none,rU,j5,Us,U8,U7,UX,Jc,Jj,Vr,tOp,tUn,xh,tC,uB,zW,wU,tCB,U3,y8,UJ,Jt,Q9,tOr,WT,J7,X6,ZE,tIf,rI,rI0,Wf,WN,Ju,Jz,Je,rEq,rNe,rIx,QI,V2,QT,Jn,QQ,Qo,QP,tSl,ZB,Ua,JR,JU,Q5,VS,V0,rGe,QH,decide_false,decide_true,Prod.mk.injEq,U5,Q3,VJ,YV,Ul,YQ,tyV,tBM,Jp,if_true,if_false,Bool.false_eq_true,decide_eq_true_eq,decide_eq_false_iff_not,Bool.not_eq_true',Bool.not_true,Bool.not_false,lt1,Jb,Q6,UM,jI,UD,UQ,Qn,QF,YX,YS,Qv,tHs,VO,QY,Ql,QO,Qt,QR,Value.ref.injEq,L2.start,Qk,Qc,JZ,JN,J0,Qp,JC,QL,Qh,JM,JQ,WO,Qe,Uu,Jd,uE,XD,jc,jq,Xv,yS,JJ,UV,Qg,cxK,cxP,cxW,List.map_cons,List.map_nil,List.length_cons,List.length_nil,List.replicate_succ,List.replicate_zero,Nat.reduceAdd,Nat.reduceSub,and_assoc,QG,exists_eq,exists_eq',exists_eq_left',exists_eq_left,exists_eq_right,exists_eq_right',exists_and_left,exists_and_right,V.int.injEq,V.ref.injEq,V.str.injEq,V.bl.injEq,V.ty.injEq,reduceCtorEq,false_and,and_false,true_and,and_true,or_false,false_or,exists_false,exists_const,List.getElem?_cons_zero,List.getElem?_cons_succ,Option.some.injEq,List.set_cons_zero,List.set_cons_succ,List.cons.injEq,List.append_nil,List.nil_append,List.cons_append])
theorem xe0 {X:Cx}:XE X E0:=fun e s h=>by
 obtain ⟨_,_,_,_,_,_,_,_,_,_,_,_,_,_,h⟩:=h
 exact h.elim
def Xn (l:List Nat):Prop:=∀ c ∈ l,97 <= c /\ c <= 122
instance (l:List Nat):Decidable (Xn l):=by unfold Xn; infer_instance
def wH (l:List Nat):Bool:=decide (1 <= l.length /\ l.length <= 6 /\ Xn l /\ l.Nodup)
def vO:Sp:=fun vs H Q _=>∃ c:Nat,vs = [.str (tx [c])] /\ Q (.bl (decide (97 <= c /\ c <= 122))) H
theorem XA:zo ["sign"] ["sign"] (zb zQ):=⟨rfl,rfl,rfl,by decide +kernel,rfl,by decide +kernel,by decide +kernel⟩
theorem X5 {f:Addr} {fd:FuncData} (F:Fun K "is_small_letter" "is_small_letter" zQ f fd):FnOk P w K mg base CX0 1 f fd ["sign"] vO:=by
 refine F.ok XA (fun vs H Q E h=>?_) (fun cdv A outer s H vs Q E hr h=>?_)
 ·obtain ⟨a,rfl,_⟩:=h
  rfl
 ·obtain ⟨c,rfl,q⟩:=h
  refine ⟨_,(ze (zr (Wo xp xp yK (pv 0) yK))),?_⟩
  have ea:cs (("a" : Str)) = [97]:=rfl
  have ez:cs (("z" : Str)) = [122]:=rfl
  rfl'
  simp only [ea,ez,Xv,lt1]
  refine yL (fun h=>?_) fun h=>?_
  ·have e:decide (97 <= c /\ c <= 122) = !decide (122 < c):=by
    by_cases h2:122 < c
    ·rw [decide_eq_true h2,decide_eq_false (by omega)]; rfl
    ·rw [decide_eq_false h2,decide_eq_true (by omega)]; rfl
   rw [e] at q
   exact q
  ·rw [decide_eq_false (by omega)] at q
   exact q
structure Jh (K:PySem.W.Frag) (mg:Str -> Option Value) (C:Addr):Prop where
 xi:XI K C
 ini:PySem.W.findIn K (.ref C) "__init__" = some (some (.builtin "ValueError.__init__"))
 g:mg "NoLetters" = some (.ref C)
 most:∃ t,mg "MOST_LETTERS" = some (.int 6 t)
def yM (C:Addr):Sp:=fun vs H Q E=>∃ l:List Nat,vs = [.str (tx l)] /\ l.length <= 1000 /\ (wH l = true -> Q (.str (tx l)) H) /\ (wH l = false -> E (.ref C) none H)
theorem sc_letters_of:zo ["text", "sign"] ["text"] (zb yv):=⟨rfl,rfl,rfl,by decide +kernel,rfl,by decide +kernel,by decide +kernel⟩
theorem qi {f C:Addr} {fd:FuncData} (B:Bt mg) (T:Jh K mg C) (F:Fun K "letters_of" "letters_of" yv f fd) (Ds:Df P w K mg base CX0 1 "is_small_letter" ["sign"] [] vO):FnOk P w K mg base (CXx P w) 2 f fd ["text"] (yM C):=by
 refine Fun.okX F sc_letters_of (fun vs H Q E h=>?_) (fun cdv A outer s H vs Q E hr hx h=>?_)
 ·obtain ⟨a,rfl,_⟩:=h
  rfl
 ·obtain ⟨l,rfl,hl,q1,q2⟩:=h
  obtain ⟨t6,g6⟩:=T.most
  refine ⟨_,(zt (ya (yU (wQ xp xp zg (zn z7 rfl B.len PySem.boot_len (za (pv 0) zc)) (wY (v:=.int 6) rfl g6 ⟨t6,rfl⟩)))
    (ze (yn hx rfl T.xi.toXC T.ini rfl T.g (za yK zc)))
    zx)
   (zt (yl PassesOwn.leaving rfl (vx (pv 0)) (zu (i:=1) sc_letters_of.nd rfl (Or.inl rfl))
    (zt (ya (yU (kH (cl0 Ds hr .nil rfl (za (pv 1) zc)) (fun _=>rfl)))
     (ze (yn hx rfl T.xi.toXC T.ini rfl T.g (za yK zc)))
     zx)
    (ze (ya (zy qX (xC PySem.F.plainAttrs_str PySem.F.slot_str_count PySem.F.type_str_count Y8 (pv 0) (za (pv 1) zc)) zg (zG _))
     (ze (yn hx rfl T.xi.toXC T.ini rfl T.g (za yK zc)))
     zx))))
   (ze (zr (pv 0))))),?_⟩
  have s16:=yG
  rfl'
  have bad:(¬ (1 <= l.length /\ l.length <= 6 /\ Xn l /\ l.Nodup)) -> ∀ H':Hp,H' = H -> E (.ref C) none H':=fun h H' e=>by
   rw [e]
   exact q2 (decide_eq_false h)
  refine ⟨by omega,yL (fun c=>yL (fun c2=>⟨by omega,bad (fun h=>by have:=h.2.1; omega) H rfl⟩) (fun c2=>?_)) (fun c=>⟨by omega,bad (fun h=>by have:=h.1; omega) H rfl⟩)⟩
  refine ForS.by (fun i σ H'=>H' = H /\ ∃ v,σ = [some (.str (tx l)),v] /\ Xn (l.take i) /\ ∀ c ∈ l.take i,l.count c <= 1) ⟨rfl,none,rfl,fun c h=>absurd h (by simp),fun c h=>absurd h (by simp)⟩ ?_ ?_
  ·rintro i c σ H' hg ⟨eH,v,rfl,hs,hn⟩
   have hc:=List.mem_of_getElem? hg
   rfl'
   simp only [vO]
   rfl'
   refine yL (fun h=>⟨by omega,bad (fun z=>by have:=z.2.2.1 c hc; omega) _ eH⟩) (fun h=>yL (fun h2=>⟨by omega,bad (fun z=>?_) _ eH⟩) (fun h2=>⟨eH,?_,?_⟩))
   ·have:=List.nodup_iff_count.mp z.2.2.2 c
    omega
   ·rw [yg hg]
    intro x hx
    rcases List.mem_append.mp hx with q | q
    ·exact hs x q
    ·have:x = c:=by simpa using q
     subst this
     omega
   ·rw [yg hg]
    intro x hx
    rcases List.mem_append.mp hx with q | q
    ·exact hn x q
    ·have:x = c:=by simpa using q
     subst this
     omega
  ·rintro σ H' ⟨eH,v,rfl,hs,hn⟩
   rw [List.take_length] at hs hn
   rfl'
   rw [eH]
   refine q1 (decide_eq_true ⟨by omega,by omega,hs,List.nodup_iff_count.mpr fun c=>?_⟩)
   by_cases hc:c ∈ l
   ·exact hn c hc
   ·rw [List.count_eq_zero.mpr hc]; omega
def zz (l:List Nat) (k:Int) (p:List Nat):Bool:=decide (0 <= k /\ k + p.length <= l.length /\ (l.drop k.toNat).take p.length = p)
def yY:Sp:=fun vs H Q _=>∃ (l p:List Nat) (k:Int),vs = [.str (tx l),.int k,.str (tx p)] /\ l.length <= 1000 /\ p.length <= 1000 /\ Q (.bl (zz l k p)) H
theorem uY {l p:List Nat} {k:Int} {H:Hp} {Q:VK} {E:XK} (h1:l.length <= 1000) (h2:p.length <= 1000) (h:Q (.bl (zz l k p)) H):yY [.str (tx l),.int k,.str (tx p)] H Q E:=⟨l,p,k,rfl,h1,h2,h⟩
theorem qU:zo ["word", "place", "part"] ["word", "place", "part"] (zb yF):=⟨rfl,rfl,rfl,by decide +kernel,rfl,by decide +kernel,by decide +kernel⟩
theorem jo {f:Addr} {fd:FuncData} (B:Bt mg) (F:Fun K "stands_at" "stands_at" yF f fd):FnOk P w K mg base CX0 1 f fd ["word", "place", "part"] yY:=by
 refine F.ok qU (fun vs H Q E h=>?_) (fun cdv A outer s H vs Q E hr h=>?_)
 ·obtain ⟨l,p,k,rfl,_⟩:=h
  rfl
 ·obtain ⟨l,p,k,rfl,hl,hp,q⟩:=h
  refine ⟨_,(zt (ya (yU (wQ xp xp zg (pv 1) (zw jr (zn z7 rfl B.len PySem.boot_len (za (pv 0) zc)) (zn z7 rfl B.len PySem.boot_len (za (pv 2) zc)))))
    (ze (zr wx))
    zx)
   (ze (zr (ve qA (yj kn (pv 0) (ym (pv 1)) (ym (zw op_add (pv 1) (zn z7 rfl B.len PySem.boot_len (za (pv 2) zc))))) (pv 2) (zG _))))),?_⟩
  have s16:=yG
  rfl'
  have no:¬ (0 <= k /\ k + p.length <= l.length /\ (l.drop k.toNat).take p.length = p) -> Q (.bl false) H:=fun h=>by
   have e:zz l k p = false:=decide_eq_false h
   rw [e] at q
   exact q
  refine yL (fun h0=>⟨by omega,by omega,yL (fun h1=>no fun h=>absurd h.2.1 (by omega)) fun h1=>⟨by omega,by omega,?_⟩⟩) fun h0=>no fun h=>h0 h.1
  rw [ZX _ h0 (by omega) (by omega)]
  have e:(k + (p.length:Int) - k).toNat = p.length:=by omega
  rw [e]
  have e2:zz l k p = decide ((l.drop k.toNat).take p.length = p):=by
   unfold zz
   exact decide_eq_decide.mpr ⟨fun h=>h.2.2,fun h=>⟨h0,by omega,h⟩⟩
  rw [<- e2]
  exact q
def VQ (l:List Nat) (k:Int) (o n:List Nat):List Nat:=l.take k.toNat ++ n ++ l.drop (k.toNat + o.length)
theorem XO {l o:List Nat} {k:Int} (h:zz l k o = true):l.take k.toNat ++ o ++ l.drop (k.toNat + o.length) = l /\ (l.take k.toNat).length = k.toNat /\ 0 <= k /\ k + o.length <= l.length:=by
 unfold zz at h
 rw [decide_eq_true_eq] at h
 obtain ⟨h0,h1,h2⟩:=h
 refine ⟨?_,by rw [List.length_take]; omega,h0,h1⟩
 have e:l.drop k.toNat = o ++ l.drop (k.toNat + o.length):=by
  have:=List.take_append_drop o.length (l.drop k.toNat)
  rw [h2,List.drop_drop] at this
  exact this.symm
 rw [List.append_assoc,<- e,List.take_append_drop]
structure TNU (K:PySem.W.Frag) (mg:Str -> Option Value) (C:Addr):Prop where
 xi:XI K C
 g:mg "NoUse" = some (.ref C)
 na:NoAttr K C "at"
theorem qo:zo ["self", "at"] ["self", "at"] (zb yw):=⟨rfl,rfl,rfl,by decide +kernel,rfl,by decide +kernel,by decide +kernel⟩
theorem qc {f C:Addr} {fd:FuncData} (T:TNU K mg C) (F:Fun K "__init__" "NoUse.__init__" yw f fd):FnOk P w K mg base CX0 1 f fd ["self", "at"] (wS C "at"):=by
 refine F.ok qo (fun vs H Q E h=>?_) (fun cdv A outer s H vs Q E hr h=>?_)
 ·obtain ⟨x,v,rfl,_⟩:=h
  rfl
 ·obtain ⟨x,v,rfl,hx,q⟩:=h
  refine ⟨_,(ze (YM (pv 0) (pv 1) rfl)),?_⟩
  simp only [WZ]
  rfl'
  exact ⟨C,hx,T.xi.toXC,T.na,q⟩
structure DNU (P:Program) (w:World) (K:PySem.W.Frag) (mg:Str -> Option Value) (base:Heap) (C:Addr):Prop extends TNU K mg C where
 ini:∃ f fd,PySem.W.findIn K (.ref C) "__init__" = some (some (.ref f)) /\ PySem.W.isFn K (.ref f) = true /\ FnOk P w K mg base CX0 1 f fd ["self", "at"] (wS C "at") /\ Binds K fd ["self", "at"] []
def Xm (C:Addr):Sp:=fun vs H Q E=>∃ (l o n:List Nat) (k:Int),vs = [.str (tx l),.int k,.str (tx o),.str (tx n)] /\ l.length <= 1000 /\ o.length <= 1000 /\ n.length <= 1000 /\ (zz l k o = true -> Q (.str (tx (VQ l k o n))) H) /\ (zz l k o = false -> ∀ d H',QW H d "at" (.int 0) H' -> E (.ref C) (some d) H')
theorem Uw:zo ["word", "place", "old", "new"] ["word", "place", "old", "new"] (zb Zz):=⟨rfl,rfl,rfl,by decide +kernel,rfl,by decide +kernel,by decide +kernel⟩
theorem UY {f C:Addr} {fd:FuncData} (B:Bt mg) (T:DNU P w K mg base C) (F:Fun K "put" "put" Zz f fd) (D_stands_at:Df P w K mg base CX0 1 "stands_at" ["word", "place", "part"] [] yY):FnOk P w K mg base (CXx P w) 3 f fd ["word", "place", "old", "new"] (Xm C):=by
 obtain ⟨fi,fdi,hi,hfn,Fi,Bi⟩:=T.ini
 refine Fun.okX F Uw (fun vs H Q E h=>?_) (fun cdv A outer s H vs Q E hr hx h=>?_)
 ·obtain ⟨l,o,n,k,rfl,_⟩:=h
  rfl
 ·obtain ⟨l,o,n,k,rfl,hl,ho,hn,q1,q2⟩:=h
  refine ⟨_,(zt (ya (yU (kH (cl0 D_stands_at hr .nil rfl (za (pv 0) (za (pv 1) (za (pv 2) zc)))) (fun _=>rfl)))
    (ze (qO hx rfl T.xi.toXC hi hfn Fi hr Bi rfl T.g (za zg zc)))
    zx)
   (ze (zr (zw op_add_str (zw op_add_str (yj kn (pv 0) xb (ym (pv 1))) (pv 3)) (yj kn (pv 0) (ym (zw op_add (pv 1) (zn z7 rfl B.len PySem.boot_len (za (pv 2) zc)))) xb))))),?_⟩
  have s16:=yG
  rfl'
  refine uY hl ho ?_
  rfl'
  refine yL (fun hb=>⟨by omega,Yp (q2 hb)⟩) fun hb=>?_
  have hb':zz l k o = true:=by simpa using hb
  obtain ⟨_,_,h0,h1⟩:=XO hb'
  have c1:=wg l none (some k)
  have c2:=wg l (some (k + ↑o.length)) none
  refine ⟨by omega,by omega,by omega,by omega,?_,?_⟩
  ·simp only [List.length_append]
   omega
  ·have e:cut l none (some k) ++ n ++ cut l (some (k + ↑o.length)) none = VQ l k o n:=by
    rw [qZ _ h0,wK _ (by omega)]
    have:(k + (o.length:Int)).toNat = k.toNat + o.length:=by omega
    rw [this]
    rfl
   rw [e]
   exact q1 hb'
structure TOrd (K:PySem.W.Frag) (mg:Str -> Option Value) (CO CR CW:Addr):Prop where
 cO:Cls K CO
 cR:Cls K CR
 cW:Cls K CW
 gO:mg "Order" = some (.ref CO)
 gR:mg "FromRight" = some (.ref CR)
 gW:mg "ByWeights" = some (.ref CW)
 lO:NoAttr K CO "letters"
 lR:NoAttr K CR "letters"
 lW:NoAttr K CW "letters"
 wW:NoAttr K CW "weights"
def OrdAt (CO CR CW:Addr) (H:Hp) (o:Addr) (k:Nat) (l:List Nat) (ns:List Int):Prop:=∃ dx,(k = 0 /\ H o = some (.ins CO dx [("letters",.str (tx l))])) \/ (k = 1 /\ H o = some (.ins CR dx [("letters",.str (tx l))])) \/
 (k = 2 /\ ns.length = l.length /\ ∃ w,H o = some (.ins CW dx [("letters",.str (tx l)),("weights",.ref w)]) /\ H w = some (.tup (ns.map V.int)))
theorem OrdAt.same {CO CR CW:Addr} {H H':Hp} {o:Addr} {k:Nat} {l:List Nat} {ns:List Int} (h:OrdAt CO CR CW H o k l ns) (e:Same H H'):OrdAt CO CR CW H' o k l ns:=by
 obtain ⟨dx,⟨h1,h2⟩ | ⟨h1,h2⟩ | ⟨h1,h2,w,h3,h4⟩⟩:=h
 ·exact ⟨dx,.inl ⟨h1,e _ _ h2⟩⟩
 ·exact ⟨dx,.inr (.inl ⟨h1,e _ _ h2⟩)⟩
 ·exact ⟨dx,.inr (.inr ⟨h1,h2,w,e _ _ h3,e _ _ h4⟩)⟩
def XQ (l:List Nat) (ns:List Int) (w:List Nat):Int:=((l.zip ns).map fun p=>(w.count p.1:Int) * p.2).sum
def zp (k:Nat) (l:List Nat) (ns:List Int) (w:List Nat):Int:=if k = 2 then XQ l ns w else (w.length:Int)
def y0 (k:Nat) (w:List Nat):List Nat:=if k = 1 then w.reverse else w
def vH (K:PySem.W.Frag):Sp:=fun vs H Q _=>∃ (x C dx:Addr) (l:List Nat),vs = [.ref x,.str (tx l)] /\ wH l = true /\ Cls K C /\ NoAttr K C "letters" /\ H x = some (.ins C dx []) /\ Q .non (upd H x (.ins C dx [("letters",.str (tx l))]))
theorem qI:zo ["self", "letters"] ["self", "letters"] (zb yq):=⟨rfl,rfl,rfl,by decide +kernel,rfl,by decide +kernel,by decide +kernel⟩
theorem xz {f:Addr} {fd:FuncData} (B:Bt mg)  (F:Fun K "__init__" "Order.__init__" yq f fd) (D_letters_of:Df P w K mg base (CXx P w) 2 "letters_of" ["text"] [] (yM C)):FnOk P w K mg base CX0 3 f fd ["self", "letters"] (vH K):=by
 refine F.ok qI (fun vs H Q E h=>?_) (fun cdv A outer s H vs Q E hr h=>?_)
 ·obtain ⟨x,C,dx,l,rfl,_⟩:=h
  rfl
 ·obtain ⟨x,C,dx,l,rfl,hg,hC,hN,hx,q⟩:=h
  refine ⟨_,(ze (uT (pv 0) (clP xe0 D_letters_of hr .nil rfl (za (pv 1) zc)) rfl)),?_⟩
  have s16:=yG
  rfl'
  exact ⟨l,rfl,by have:=of_decide_eq_true hg; omega,fun _=>⟨_,_,_,hx,hC,hN,by decide,q⟩,fun e=>by rw [hg] at e; cases e⟩
def uW:Sp:=fun vs H Q _=>∃ (o:Addr) (w:List Nat),vs = [.ref o,.str (tx w)] /\ w.length <= 1000 /\ Q (.int (w.length:Nat)) H
theorem vQ:zo ["self", "word"] ["self", "word"] (zb yc):=⟨rfl,rfl,rfl,by decide +kernel,rfl,by decide +kernel,by decide +kernel⟩
theorem xK {f:Addr} {fd:FuncData} (B:Bt mg)  (F:Fun K "weight" "Order.weight" yc f fd)  : FnOk P w K mg base CX0 1 f fd ["self", "word"] uW:=by
 refine F.ok vQ (fun vs H Q E h=>?_) (fun cdv A outer s H vs Q E hr h=>?_)
 ·obtain ⟨o,w,rfl,_⟩:=h
  rfl
 ·obtain ⟨o,w,rfl,hw,q⟩:=h
  refine ⟨_,(ze (zr (zn z7 rfl B.len PySem.boot_len (za (pv 1) zc)))),?_⟩
  have s16:=yG
  rfl'
  exact ⟨by omega,q⟩
def j9:Sp:=fun vs H Q _=>∃ (o:Addr) (w:List Nat),vs = [.ref o,.str (tx w)] /\ Q (.str (tx w)) H
theorem qe:zo ["self", "word"] ["self", "word"] (zb yt):=⟨rfl,rfl,rfl,by decide +kernel,rfl,by decide +kernel,by decide +kernel⟩
theorem wz {f:Addr} {fd:FuncData} (B:Bt mg)  (F:Fun K "seen" "Order.seen" yt f fd)  : FnOk P w K mg base CX0 1 f fd ["self", "word"] j9:=by
 refine F.ok qe (fun vs H Q E h=>?_) (fun cdv A outer s H vs Q E hr h=>?_)
 ·obtain ⟨o,w,rfl,_⟩:=h
  rfl
 ·obtain ⟨o,w,rfl,q⟩:=h
  refine ⟨_,(ze (zr (pv 1))),?_⟩
  have s16:=yG
  rfl'
  exact q
def jN:Sp:=fun vs H Q _=>∃ (o:Addr) (w:List Nat),vs = [.ref o,.str (tx w)] /\ w.length <= 1000 /\ Q (.str (tx w.reverse)) H
theorem vk:zo ["self", "word"] ["self", "word"] (zb zV):=⟨rfl,rfl,rfl,by decide +kernel,rfl,by decide +kernel,by decide +kernel⟩
theorem vb {f:Addr} {fd:FuncData} (B:Bt mg)  (F:Fun K "seen" "FromRight.seen" zV f fd)  : FnOk P w K mg base CX0 1 f fd ["self", "word"] jN:=by
 refine F.ok vk (fun vs H Q E h=>?_) (fun cdv A outer s H vs Q E hr h=>?_)
 ·obtain ⟨o,w,rfl,_⟩:=h
  rfl
 ·obtain ⟨o,w,rfl,hw,q⟩:=h
  refine ⟨_,(ze (zr (VB (pv 1) (Qw Uo zg)))),?_⟩
  have s16:=yG
  repeat (first | rfl' | simp only [xf,zE,zX,xn,xk,zB])
  exact ⟨by omega,q⟩
structure Jw (K:PySem.W.Frag) (mg:Str -> Option Value) (C:Addr):Prop where
 xi:XI K C
 ini:PySem.W.findIn K (.ref C) "__init__" = some (some (.builtin "ValueError.__init__"))
 g:mg "NoOrder" = some (.ref C)
 most:∃ t,mg "MOST_WEIGHT" = some (.int 1000000 t)
abbrev DOI (P:Program) (w:World) (K:PySem.W.Frag) (mg:Str -> Option Value) (base:Heap) (CO:Addr):Prop:=DC P w K mg base CX0 3 CO "__init__" ["self", "letters"] (vH K)
def qd (K:PySem.W.Frag) (CW:Addr):Sp:=fun vs H Q _=>∃ (x dx a:Addr) (l:List Nat) (ns:List Int),vs = [.ref x,.str (tx l),.ref a] /\ wH l = true /\ SqL K H a (ns.map V.int) /\ ns.length = l.length /\ (∀ n ∈ ns,1 <= n /\ n <= 1000000) /\ H x = some (.ins CW dx []) /\
 ∀ w H',H w = none -> w ≠ x -> (∀ b o,b ≠ x -> H b = some o -> H' b = some o) -> H' w = some (.tup (ns.map V.int)) -> H' x = some (.ins CW dx [("letters",.str (tx l)),("weights",.ref w)]) -> Q .non H'
theorem sc_byweights_init:zo ["self", "letters", "weights", "weight"] ["self", "letters", "weights"] (zb zU):=⟨rfl,rfl,rfl,by decide +kernel,rfl,by decide +kernel,by decide +kernel⟩
theorem vd {f CO CR CW CN:Addr} {fd:FuncData} (B:Bt mg) (T:TOrd K mg CO CR CW) (TN:Jw K mg CN) (DI:DOI P w K mg base CO) (F:Fun K "__init__" "ByWeights.__init__" zU f fd)  : FnOk P w K mg base (CXx P w) 4 f fd ["self", "letters", "weights"] (qd K CW):=by
 obtain ⟨t6,g6⟩:=TN.most
 refine Fun.okX F sc_byweights_init (fun vs H Q E h=>?_) (fun cdv A outer s H vs Q E hr hx h=>?_)
 ·obtain ⟨x,dx,a,l,ns,rfl,_⟩:=h
  rfl
 ·obtain ⟨x,dx,a,l,ns,rfl,hg,hS,hl,hb,hX,q⟩:=h
  refine ⟨_,(zh (yQ (W8 DI hr rfl T.gO (za (pv 0) (za (pv 1) zc))))
   (zh (ya (zy jW (zn z7 rfl B.len PySem.boot_len (za (pv 2) zc)) (zn z7 rfl B.len PySem.boot_len (za (pv 1) zc)) (zG _))
    (ze (yn hx rfl TN.xi.toXC TN.ini rfl TN.g (za yK zc)))
    zx)
   (zh (yl PassesOwn.leaving rfl (yx (pv 2)) (zu (i:=3) sc_byweights_init.nd rfl (Or.inl rfl))
    (ze (ya (yU (wQ xp xp zg (pv 3) (wY (v:=.int 1000000) rfl g6 ⟨t6,rfl⟩)))
     (ze (yn hx rfl TN.xi.toXC TN.ini rfl TN.g (za yK zc)))
     zx)))
   (ze (uT (pv 0) (xm qg rfl B.tuple PySem.Pv.boot_tuple (za (pv 2) zc)) rfl))))),?_⟩
  have s16:=yG
  have hbx:∀ b o,b ≠ x -> H b = some o -> upd H x (.ins CW dx [("letters",.str (tx l))]) b = some o:=fun b o hb e=>by rw [zi hb]; exact e
  have hS1:SqL K (upd H x (.ins CW dx [("letters",.str (tx l))])) a (ns.map V.int):=by
   rcases hS with (h | ⟨o,h⟩) | h
   ·exact .inl (.inl (hbx _ _ (fun e=>by rw [e,hX] at h; cases h) h))
   ·exact .inl (.inr ⟨o,hbx _ _ (fun e=>by rw [e,hX] at h; cases h) h⟩)
   ·exact .inr h
  refine zk (fun σ H'=>H' = upd H x (.ins CW dx [("letters",.str (tx l))]) /\ σ = [some (.ref x),some (.str (tx l)),some (.ref a),none]) ?_ ?_
  ·repeat (first | rfl' | simp only [xf,zE,zX,xn,xk,zB])
   exact ⟨x,CW,dx,l,rfl,hg,T.cW,T.lW,hX,rfl⟩
  rintro σ H1 ⟨rfl,rfl⟩
  refine zk (fun σ H'=>H' = upd H x (.ins CW dx [("letters",.str (tx l))]) /\ σ = [some (.ref x),some (.str (tx l)),some (.ref a),none]) ?_ ?_
  ·have hl6:l.length <= 6:=by have:=of_decide_eq_true hg; omega
   repeat (first | rfl' | simp only [xf,zE,zX,xn,xk,zB])
   refine ⟨ns.length,.inl ⟨_,hS1,by rw [List.length_map]⟩,by omega,yL (fun h=>absurd (by omega) h) fun _=>trivial⟩
  rintro σ H1 ⟨rfl,rfl⟩
  refine zk (fun σ H'=>H' = upd H x (.ins CW dx [("letters",.str (tx l))]) /\ ∃ v3,σ = [some (.ref x),some (.str (tx l)),some (.ref a),v3]) ?_ ?_
  ·repeat (first | rfl' | simp only [xf,zE,zX,xn,xk,zB])
   refine ⟨⟨_,hS1⟩,ForL.by (xs:=ns.map V.int) (fun i σ H'=>H' = upd H x (.ins CW dx [("letters",.str (tx l))]) /\ ∃ v3,σ = [some (.ref x),some (.str (tx l)),some (.ref a),v3]) ⟨rfl,none,rfl⟩ (fun i σ H' _ h=>by rw [h.1]; exact hS1) ?_ fun σ H' h=>h⟩
   rintro i y σ H' hy ⟨rfl,v3,rfl⟩
   rw [List.getElem?_map] at hy
   obtain ⟨n,hn,rfl⟩:=Option.map_eq_some_iff.mp hy
   obtain ⟨n1,n2⟩:=hb n (List.mem_of_getElem? hn)
   repeat (first | rfl' | simp only [xf,zE,zX,xn,xk,zB])
   exact yL (fun _=>yL (fun h=>absurd n2 h) fun _=>trivial) fun h=>absurd n1 h
  rintro σ H1 ⟨rfl,v3,rfl⟩
  repeat (first | rfl' | simp only [xf,zE,zX,xn,xk,zB])
  refine ⟨_,.inl ⟨hS1,fun w hw=>?_⟩⟩
  have hwx:w ≠ x:=fun e=>by rw [e,zd] at hw; cases hw
  have hwH:H w = none:=by rw [zi hwx] at hw; exact hw
  have hX2:=zf (o:=.tup (ns.map V.int)) hw _ _ (zd (H:=H) (a:=x) (o:=.ins CW dx [("letters",.str (tx l))]))
  refine ⟨_,_,_,hX2,T.cW,T.wW,by show 1 < 1000; decide,q w _ hwH hwx (fun b o hb' e=>?_) ?_ zd⟩
  ·rw [zi hb']
   exact zf hw _ _ (hbx b o hb' e)
  ·rw [zi hwx]
   exact zd
theorem Ub {x y:V} {r:L2.St}:xD (none :: none :: r) (some x :: some y :: r):=⟨rfl,fun i v h=>by
 cases i with
 | zero=>cases h
 | succ i =>
  cases i with
  | zero=>cases h
  | succ i=>exact h⟩
def jC (CW:Addr):Sp:=fun vs H Q _=>∃ (o dx t:Addr) (w l:List Nat) (ns:List Int),vs = [.ref o,.str (tx w)] /\ w.length <= 1000 /\ l.length <= 6 /\ ns.length = l.length /\ (∀ n ∈ ns,1 <= n /\ n <= 1000000) /\ H o = some (.ins CW dx [("letters",.str (tx l)),("weights",.ref t)]) /\ H t = some (.tup (ns.map V.int)) /\ ∀ H',Same H H' -> Q (.int (XQ l ns w)) H'
theorem wf:zo ["self", "word"] ["self", "word"] (zb zH):=⟨rfl,rfl,rfl,by decide +kernel,rfl,by decide +kernel,by decide +kernel⟩
theorem wo {f CO CR CW:Addr} {fd:FuncData} (B:Bt mg) (T:TOrd K mg CO CR CW) (F:Fun K "weight" "ByWeights.weight" zH f fd)  : FnOk P w K mg base CX0 1 f fd ["self", "word"] (jC CW):=by
 refine F.ok wf (fun vs H Q E h=>?_) (fun cdv A outer s H vs Q E hr h=>?_)
 ·obtain ⟨o,dx,t,w,l,ns,rfl,_⟩:=h
  rfl
 ·obtain ⟨o,dx,t,w,l,ns,rfl,hw,hl,hn,hb,ho,ht,q⟩:=h
  refine ⟨_,(ze (zr (zn (QS rfl) rfl B.sum PyProof.Rows.boot_sum (za (xE (g:=UM K 2 (jI (y8 0) (jI (y8 1) UD))) (own:=["letter", "weight"]) (caps:=["word"]) (ix:=[1]) (tt:=vD) (te:=(tOp WN (tBM K "str" YV (xh 2) (zW (xh 0) wU)) (xh 1))) rfl (yy (sc:=zb zH) rfl (by decide +kernel) (by decide +kernel) (by decide +kernel) rfl (by decide +kernel) (by decide +kernel) rfl) (UA rfl B.zip (za (yI (pv 0) rfl) (za (yI (pv 0) rfl) zc))) (fun _ _ _ _ _ _=>ue (n:=2) rfl (ye (zu (i:=0) (show List.Nodup [_,_,_] by decide) rfl (Or.inl rfl)) (ye (zu (i:=1) (show List.Nodup [_,_,_] by decide) rfl (Or.inl rfl)) wp))) (fun _ _ _ _ _ _=>xy) (fun _ _ _ _ _ _=>(zw vo (xC PySem.F.plainAttrs_str PySem.F.slot_str_count PySem.F.type_str_count Y8 (pv 2) (za (pv 0) zc)) (pv 1)))) zc)))),?_⟩
  have s16:=yG
  repeat (first | rfl' | simp only [xf,zE,zX,xn,xk,zB])
  refine ⟨_,_,_,ho,T.cW,T.lW,_,rfl,_,_,_,ho,T.cW,T.wW,_,rfl,l,rfl,t,rfl,⟨_,SqT.of ht⟩,fun D hD=>CompZ.by (ys:=ns.map V.int) (fun i acc H'=>Same H H' /\ H' D = some (.lst acc) /\ acc = ((((l.zip ns).map fun p=>(w.count p.1:Int) * p.2).take i).map V.int)) (by rw [List.length_map]; omega) ⟨zf hD,zd,rfl⟩ (fun i acc H' _ h=>SqT.of (h.1 _ _ ht)) ?_ ?_⟩
  ·rintro i c y acc H' p hc hy ⟨hs,hH,rfl⟩ hp
   have hi:=(List.getElem?_eq_some_iff.mp hc).1
   rw [List.getElem?_map] at hy
   obtain ⟨n,hn',rfl⟩:=Option.map_eq_some_iff.mp hy
   have hz:((l.zip ns).map fun p=>(w.count p.1:Int) * p.2)[i]? = some ((w.count c:Int) * n):=by
    rw [List.getElem?_map,(List.getElem?_zip_eq_some (z:=(c,n))).mpr ⟨hc,hn'⟩]
    rfl
   obtain ⟨n1,n2⟩:=hb n (List.mem_of_getElem? hn')
   have hcl:w.count c <= w.length:=List.count_le_length
   have hcn:(w.count c:Int) * n = (w.count c:Int) * n:=rfl
   simp only [vD]
   repeat (first | rfl' | simp only [xf,zE,zX,xn,xk,zB])
   refine ⟨_,SqT.of zd,rfl,_,_,rfl,_,_,rfl,rfl,Ub,_,rfl,_,rfl,?_,zf hp _ _ hH,by rw [List.length_map,List.length_take]; omega,?_⟩
   ·exact .inr ⟨by omega,by omega⟩
   ·rw [YQ]
    refine CNx.mk hi ⟨zC (hs.trans (zf hp)) hD,zd,?_⟩
    rw [yg hz,List.map_append]
    rfl
  ·rintro acc H' ⟨hs,hH,rfl⟩
   have e:l.length = ((l.zip ns).map fun p=>(w.count p.1:Int) * p.2).length:=by rw [List.length_map,List.length_zip]; omega
   refine ⟨D,rfl,_,SqL.of hH,?_⟩
   rw [e,List.take_length]
   exact q _ hs
theorem Qb (l:List Nat) (c e:Nat):StrLaws.At (tx l) (tx [c]) (tx l).length e ↔ l[e]? = some c:=by
 unfold StrLaws.At Builtin.Str.subAt
 rw [yS,yS]
 have h1:[c].length = 1:=rfl
 rw [h1,beq_iff_eq]
 have e1:((tx l).cps.extract e (e + 1)).toList = (l.drop e).take 1:=by
  show (l.toArray.extract e (e + 1)).toList = _
  simp [List.extract_eq_drop_take]
 have e2:((tx l).cps.extract e (e + 1) = (tx [c]).cps) ↔ (l.drop e).take 1 = [c]:=by
  constructor
  ·intro h
   rw [<- e1,h]
  ·intro h
   apply Array.toList_inj.mp
   rw [e1,h]
 constructor
 ·rintro ⟨h2,h3⟩
  have:=e2.mp h3
  rw [List.drop_eq_getElem_cons (by omega),List.take_succ_cons,List.take_zero] at this
  rw [List.getElem?_eq_getElem (by omega)]
  injection this with h _
  rw [h]
 ·intro h
  obtain ⟨he,hx⟩:=List.getElem?_eq_some_iff.mp h
  refine ⟨by omega,e2.mpr ?_⟩
  rw [List.drop_eq_getElem_cons he,List.take_succ_cons,List.take_zero,hx]
theorem Xf {l:List Nat} {c:Nat} (h:c ∈ l):Txt.find (tx l) (tx [c]) = ((l.idxOf c:Nat):Int):=by
 have hlt:=List.idxOf_lt_length_of_mem h
 have hg:l[l.idxOf c]? = some c:=by rw [List.getElem?_eq_getElem hlt,List.getElem_idxOf]
 rcases PyProof.Rows.find_whole (tx l) (tx [c]) with ⟨h1,h2⟩ | ⟨e,h1,h2,h3⟩
 ·exact absurd ((Qb l c _).mpr hg) (h2 _)
 ·have he:=(Qb l c e).mp h2
  have:e = l.idxOf c:=by
   rcases Nat.lt_trichotomy e (l.idxOf c) with q | q | q
   ·have:=List.not_of_lt_findIdx (p:=(· == c)) q
    obtain ⟨h4,h5⟩:=List.getElem?_eq_some_iff.mp he
    simp [h5] at this
   ·exact q
   ·exact absurd ((Qb l c _).mpr hg) (h3 _ q)
  rw [h1,this]
abbrev MkO (P:Program) (w:World) (K:PySem.W.Frag) (mg:Str -> Option Value) (base:Heap) (C:Addr):Prop:=DMk P w K mg base CX0 3 C ["self", "letters"] (vH K)
abbrev MkW (P:Program) (w:World) (K:PySem.W.Frag) (mg:Str -> Option Value) (base:Heap) (C:Addr):Prop:=DMk P w K mg base (CXx P w) 4 C ["self", "letters", "weights"] (qd K C)
abbrev MW (P:Program) (w:World) (K:PySem.W.Frag) (mg:Str -> Option Value) (base:Heap) (C:Addr) (m:Str) (sp:Sp):Prop:=DM P w K mg base CX0 1 C m ["self", "word"] sp
structure TWS (P:Program) (w:World) (K:PySem.W.Frag) (mg:Str -> Option Value) (base:Heap) (CO CR CW:Addr):Prop extends TOrd K mg CO CR CW where
 mO:MkO P w K mg base CO
 mR:MkO P w K mg base CR
 mW:MkW P w K mg base CW
 wO:MW P w K mg base CO "weight" uW
 wR:MW P w K mg base CR "weight" uW
 wW':MW P w K mg base CW "weight" (jC CW)
 sO:MW P w K mg base CO "seen" j9
 sR:MW P w K mg base CR "seen" jN
 sW:MW P w K mg base CW "seen" j9
structure OG (l:List Nat) (ns:List Int) (k:Nat):Prop where
 g:wH l = true
 k3:k < 3
 nl:ns.length = l.length
 nb:∀ n ∈ ns,1 <= n /\ n <= 1000000
def yV (l:List Nat) (w:List Nat):List Int:=w.map fun c=>((l.idxOf c:Nat):Int)
def Zl (k:Nat) (l:List Nat) (w:List Nat):List Int:=yV l (y0 k w)
def QB (CO CR CW:Addr):Addr -> Prop:=fun C=>C = CO \/ C = CR \/ C = CW
theorem OrdAt.fam {CO CR CW:Addr} {H:Hp} {o:Addr} {k:Nat} {l:List Nat} {ns:List Int} (h:OrdAt CO CR CW H o k l ns):∃ C dx fs,QB CO CR CW C /\ H o = some (.ins C dx fs) /\ (∀ m:Str,m ≠ "letters" -> m ≠ "weights" -> fs.lookup m = none) /\ fs.lookup ("letters" : Str) = some (V.str (tx l)):=by
 have e1:∀ m:Str,m ≠ "letters" -> (m == ("letters" : Str)) = false:=fun m hm=>by simpa using hm
 have e2:∀ m:Str,m ≠ "weights" -> (m == ("weights" : Str)) = false:=fun m hm=>by simpa using hm
 obtain ⟨dx,⟨h1,h2⟩ | ⟨h1,h2⟩ | ⟨h1,h2,w,h3,h4⟩⟩:=h
 ·exact ⟨_,_,_,.inl rfl,h2,fun m hm _=>by simp [List.lookup,e1 m hm],rfl⟩
 ·exact ⟨_,_,_,.inr (.inl rfl),h2,fun m hm _=>by simp [List.lookup,e1 m hm],rfl⟩
 ·exact ⟨_,_,_,.inr (.inr rfl),h3,fun m hm hm2=>by simp [List.lookup,e1 m hm,e2 m hm2],rfl⟩
def jP (CO CR CW:Addr):Sp:=fun vs H Q _=>∃ (o:Addr) (k:Nat) (l:List Nat) (ns:List Int) (w:List Nat),vs = [.ref o,.str (tx w)] /\ OrdAt CO CR CW H o k l ns /\ OG l ns k /\ w.length <= 1000 /\ (∀ c ∈ w,c ∈ l) /\ ∀ (p q:Addr) (H':Hp),Same H H' -> H' p = some (.tup [.int (zp k l ns w),.ref q]) -> H' q = some (.lst ((Zl k l w).map V.int)) -> Q (.ref p) H'
theorem Wb {H:Hp} {CO CR CW o D:Addr} {k:Nat} {l:List Nat} {ns:List Int} {v:List Nat} {a1:Option V} {Q:VK} (T:TOrd K mg CO CR CW) (ho:OrdAt CO CR CW H o k l ns) (hl:v.length <= 1000) (hm:∀ c ∈ v,c ∈ l) (hD:H D = none) (q:∀ H',Same H H' -> H' D = some (.lst ((yV l v).map V.int)) -> Q (.ref D) H') :
  CompS (tx v) (y8 0) vD (tBM K "str" zB (Uu K (xh 1) "letters") (zW (xh 0) wU)) 1 [0] [some (.ref o),a1] H Q D:=by
 have s16:=yG
 refine CompS.by (fun i acc H'=>Same H H' /\ H' D = some (.lst acc) /\ acc = (yV l (v.take i)).map V.int) ⟨zf hD,zd,rfl⟩ ?_ ?_
 ·rintro i c acc H' hc ⟨hs,hH,rfl⟩
  have hci:=(List.getElem?_eq_some_iff.mp hc).1
  have hcl:=hm c (List.mem_of_getElem? hc)
  obtain ⟨C,dx,fs,hf,ho',_,hlk⟩:=(ho.same hs).fam
  have hC:Cls K C /\ NoAttr K C "letters":=by
   rcases hf with rfl | rfl | rfl
   ·exact ⟨T.cO,T.lO⟩
   ·exact ⟨T.cR,T.lR⟩
   ·exact ⟨T.cW,T.lW⟩
  simp only [vD]
  repeat (first | rfl' | simp only [xf,zE,zX,xn,xk,zB])
  refine ⟨uc,_,_,_,ho',hC.1,hC.2,_,hlk,trivial,_,rfl,_,Xf hcl,hH,by rw [List.length_map]; unfold yV; rw [List.length_map,List.length_take]; omega,CNx.mk hci ⟨zC hs hD,zd,?_⟩⟩
  unfold yV
  rw [yg hc,List.map_append,List.map_append]
  rfl
 ·rintro acc H' ⟨hs,hH,rfl⟩
  rw [List.take_length] at hH
  exact q H' hs hH
theorem qr:zo ["self", "word"] ["self", "word"] (zb yf):=⟨rfl,rfl,rfl,by decide +kernel,rfl,by decide +kernel,by decide +kernel⟩
theorem xA {f CO CR CW:Addr} {fd:FuncData} (B:Bt mg) (T:TWS P w K mg base CO CR CW) (F:Fun K "rank" "Order.rank" yf f fd)  : FnOk P w K mg base CX0 2 f fd ["self", "word"] (jP CO CR CW):=by
 refine F.ok qr (fun vs H Q E h=>?_) (fun cdv A outer s H vs Q E hr h=>?_)
 ·obtain ⟨o,k,l,ns,w,rfl,_⟩:=h
  rfl
 ·obtain ⟨o,k,l,ns,w,rfl,ho,hG,hw,hm,q⟩:=h
  refine ⟨_,(ze (zr (vw (za (Uk T.wO T.wR T.wW' T.cO T.cR T.cW hr (pv 0) (za (pv 1) zc)) (za (xE (own:=["letter"]) (caps:=["self"]) (ix:=[0]) (tt:=vD) (te:=(tBM K "str" zB (Uu K (xh 1) "letters") (zW (xh 0) wU))) rfl (yy (sc:=zb yf) rfl (by decide +kernel) (by decide +kernel) (by decide +kernel) rfl (by decide +kernel) (by decide +kernel) rfl) (vx (Uk T.sO T.sR T.sW T.cO T.cR T.cW hr (pv 0) (za (pv 1) zc))) (fun _ _ _ _ _ _=>zu (i:=0) (show List.Nodup [_,_] by decide) rfl (Or.inl rfl)) (fun _ _ _ _ _ _=>xy) (fun _ _ _ _ _ _=>(xC PySem.F.plainAttrs_str PySem.F.slot_str_index PySem.F.type_str_index Z1 (yI (pv 1) rfl) (za (pv 0) zc)))) zc))))),?_⟩
  have s16:=yG
  have hsl:(y0 k w).length <= 1000:=by
   unfold y0
   split
   ·rw [List.length_reverse]
    exact hw
   ·exact hw
  have hsm:∀ c ∈ y0 k w,c ∈ l:=fun c hc=>by
   unfold y0 at hc
   split at hc
   ·exact hm c (List.mem_reverse.mp hc)
   ·exact hm c hc
  have l6:l.length <= 6:=(of_decide_eq_true hG.g).2.1
  have fin:∀ H1,Same H H1 -> ∀ D,H1 D = none -> CompS (tx (y0 k w)) (y8 0) vD (tBM K "str" zB (Uu K (xh 1) "letters") (zW (xh 0) wU)) 1 [0] [some (.ref o),some (.str (tx w))] H1 (fun x5 H1=>2 <= sizeLine /\ ∀ p,H1 p = none -> Q (.ref p) (upd H1 p (.tup [.int (zp k l ns w),x5]))) D:=fun H1 s1 D hD=>Wb T.toTOrd (ho.same s1) hsl hsm hD fun H' s' hH=>⟨by omega,fun p hp=>q p D _ (s1.trans (s'.trans (zf hp))) zd (zf hp _ _ hH)⟩
  repeat (first | rfl' | simp only [xf,zE,zX,xn,xk,zB])
  obtain ⟨dx',⟨h1,h2⟩ | ⟨h1,h2⟩ | ⟨h1,h2,t',h3,h4⟩⟩:=id ho
  ·have e1:zp k l ns w = (w.length:Int):=by unfold zp; rw [if_neg (by omega)]
   have e2:y0 k w = w:=by unfold y0; rw [if_neg (by omega)]
   rw [e1,e2] at fin
   exact .inl ⟨_,_,h2,rfl,o,w,rfl,hw,.inl ⟨_,_,h2,rfl,o,w,rfl,_,rfl,fin H (Same.refl _)⟩⟩
  ·have e1:zp k l ns w = (w.length:Int):=by unfold zp; rw [if_neg (by omega)]
   have e2:y0 k w = w.reverse:=by unfold y0; rw [if_pos h1]
   rw [e1,e2] at fin
   exact .inr (.inl ⟨_,_,h2,rfl,o,w,rfl,hw,.inr (.inl ⟨_,_,h2,rfl,o,w,rfl,hw,_,rfl,fin H (Same.refl _)⟩)⟩)
  ·have e1:zp k l ns w = XQ l ns w:=by unfold zp; rw [if_pos h1]
   have e2:y0 k w = w:=by unfold y0; rw [if_neg (by omega)]
   rw [e1,e2] at fin
   exact .inr (.inr ⟨_,_,h3,rfl,o,dx',t',w,l,ns,rfl,hw,l6,hG.nl,hG.nb,h3,h4,fun H' s'=>.inr (.inr ⟨_,_,s' _ _ h3,rfl,o,w,rfl,_,rfl,fin H' s'⟩)⟩)
def zY (k:Nat) (l:List Nat) (ns:List Int) (u v:List Nat):Bool:=if zp k l ns u = zp k l ns v then ltI (Zl k l u) (Zl k l v) else decide (zp k l ns u < zp k l ns v)
abbrev DR (P:Program) (w:World) (K:PySem.W.Frag) (mg:Str -> Option Value) (base:Heap) (CO CR CW:Addr):Prop:=DMF P w K mg base CX0 2 (QB CO CR CW) "rank" ["self", "word"] (fun _=>jP CO CR CW)
theorem Yh {H:Hp} {p q:Addr} {z:Int} {ns:List Int} (hp:H p = some (.tup [.int z,.ref q])) (hq:H q = some (.lst (ns.map V.int))):Is K H (.tup [.int z,.lst (ns.map L3.D.int)]) (.ref p):=by
 simp only [Is,Iss]
 exact ⟨p,_,rfl,SqT.of hp,_,_,rfl,rfl,_,_,rfl,⟨q,_,rfl,SqL.of hq,Iss.ints ns⟩,rfl⟩
theorem xT:∀ x:List Int,ltI x x = false
 | []=>rfl
 | a :: x=>by
  rw [ltI,if_pos rfl]
  exact xT x
theorem VE (a b:Int) (x y:List Int):ltD (.tup [.int a,.lst (x.map L3.D.int)]) (.tup [.int b,.lst (y.map L3.D.int)]) = if a = b then ltI x y else decide (a < b):=by
 simp only [ltD,kM,eqD,ZV,qQ]
 by_cases h:a = b
 ·subst h
  by_cases h2:x = y
  ·subst h2
   simp [xT]
  ·simp [h2]
 ·simp [h]
def Z8 (CO CR CW:Addr):Sp:=fun vs H Q _=>∃ (o:Addr) (k:Nat) (l:List Nat) (ns:List Int) (u v:List Nat),vs = [.ref o,.str (tx u),.str (tx v)] /\ OrdAt CO CR CW H o k l ns /\ OG l ns k /\ u.length <= 1000 /\ v.length <= 1000 /\ (∀ c ∈ u,c ∈ l) /\ (∀ c ∈ v,c ∈ l) /\ ∀ H':Hp,Same H H' -> Q (.bl (zY k l ns u v)) H'
theorem uf:zo ["self", "one", "other"] ["self", "one", "other"] (zb yd):=⟨rfl,rfl,rfl,by decide +kernel,rfl,by decide +kernel,by decide +kernel⟩
theorem yT {f CO CR CW:Addr} {fd:FuncData} (B:Bt mg) (DRk:DR P w K mg base CO CR CW) (F:Fun K "before" "Order.before" yd f fd)  : FnOk P w K mg base CX0 3 f fd ["self", "one", "other"] (Z8 CO CR CW):=by
 refine F.ok uf (fun vs H Q E h=>?_) (fun cdv A outer s H vs Q E hr h=>?_)
 ·obtain ⟨o,k,l,ns,u,v,rfl,_⟩:=h
  rfl
 ·obtain ⟨o,k,l,ns,u,v,rfl,ho,hG,hu,hv,hmu,hmv,q⟩:=h
  refine ⟨_,(ze (zr (ve (UI (qj hr)) (Qj DRk hr (pv 0) (za (pv 1) zc)) (Qj DRk hr (pv 0) (za (pv 2) zc)) (zG _)))),?_⟩
  have s16:=yG
  repeat (first | rfl' | simp only [xf,zE,zX,xn,xk,zB])
  obtain ⟨C,dx,fs,hf,ho1,hn,_⟩:=ho.fam
  have h1:fs.lookup ("rank" : Str) = none:=hn _ (by decide) (by decide)
  refine ⟨C,hf,dx,fs,ho1,h1,o,k,l,ns,u,rfl,ho,hG,hu,hmu,fun p x H1 s1 hp hx=>⟨C,hf,dx,fs,s1 _ _ ho1,h1,o,k,l,ns,v,rfl,ho.same s1,hG,hv,hmv,fun p' x' H2 s2 hp' hx'=>?_⟩⟩
  refine WR (Yh (s2 _ _ hp) (s2 _ _ hx)) (Yh hp' hx') (by simp only [dpD,vL,Yo]; decide) (by simp only [okD,ZA]; exact ⟨trivial,je _ _,trivial⟩) ?_
  rw [VE]
  exact q H2 (s1.trans s2)
abbrev DB (P:Program) (w:World) (K:PySem.W.Frag) (mg:Str -> Option Value) (base:Heap) (CO CR CW:Addr):Prop:=DMF P w K mg base CX0 3 (QB CO CR CW) "before" ["self", "one", "other"] (fun _=>Z8 CO CR CW)
structure TNT (K:PySem.W.Frag) (mg:Str -> Option Value) (C:Addr):Prop where
 xi:XI K C
 g:mg "NotTurned" = some (.ref C)
 na:NoAttr K C "number"
theorem wV:zo ["self", "number"] ["self", "number"] (zb zS):=⟨rfl,rfl,rfl,by decide +kernel,rfl,by decide +kernel,by decide +kernel⟩
theorem vc {f C:Addr} {fd:FuncData} (T:TNT K mg C) (F:Fun K "__init__" "NotTurned.__init__" zS f fd):FnOk P w K mg base CX0 1 f fd ["self", "number"] (wS C "number"):=by
 refine F.ok wV (fun vs H Q E h=>?_) (fun cdv A outer s H vs Q E hr h=>?_)
 ·obtain ⟨x,v,rfl,_⟩:=h
  rfl
 ·obtain ⟨x,v,rfl,hx,q⟩:=h
  refine ⟨_,(ze (YM (pv 0) (pv 1) rfl)),?_⟩
  simp only [WZ]
  rfl'
  exact ⟨C,hx,T.xi.toXC,T.na,q⟩
structure DNT (P:Program) (w:World) (K:PySem.W.Frag) (mg:Str -> Option Value) (base:Heap) (C:Addr):Prop extends TNT K mg C where
 ini:∃ f fd,PySem.W.findIn K (.ref C) "__init__" = some (some (.ref f)) /\ PySem.W.isFn K (.ref f) = true /\ FnOk P w K mg base CX0 1 f fd ["self", "number"] (wS C "number") /\ Binds K fd ["self", "number"] []
structure Xo (K:PySem.W.Frag) (mg:Str -> Option Value) (CH:Addr):Prop where
 cl:Cls K CH
 g:mg "System" = some (.ref CH)
 no:NoAttr K CH "order"
 nr:NoAttr K CH "rules"
def xW (k:Nat) (l:List Nat) (ns:List Int):List zK -> Nat -> Option Nat
 | [],_=>none
 | r :: rs,i=>if zY k l ns r.2 r.1 = true then xW k l ns rs (i + 1) else some i
theorem kQ {k:Nat} {l:List Nat} {ns:List Int}:∀ {ps:List zK} {j i:Nat} {r:zK},(∀ (m:Nat) (p:zK),m < i -> ps[m]? = some p -> zY k l ns p.2 p.1 = true) -> ps[i]? = some r -> zY k l ns r.2 r.1 = false -> xW k l ns ps j = some (j + i)
 | [],_,_,_,_,h,_=>by simp at h
 | p :: ps,j,0,r,_,h,hl=>by
  cases h
  rw [xW,hl,if_neg Bool.false_ne_true]
  rfl
 | p :: ps,j,i + 1,r,hb,h,hl=>by
  rw [xW,if_pos (hb 0 p (Nat.succ_pos _) rfl),kQ (i:=i) (fun m q hm e=>hb (m + 1) q (by omega) e) h hl]
  congr 1
  omega
theorem vf {k:Nat} {l:List Nat} {ns:List Int}:∀ {ps:List zK} {j:Nat},(∀ (m:Nat) (p:zK),ps[m]? = some p -> zY k l ns p.2 p.1 = true) -> xW k l ns ps j = none
 | [],_,_=>rfl
 | p :: ps,j,hb=>by
  rw [xW,if_pos (hb 0 p rfl)]
  exact vf fun m q e=>hb (m + 1) q e
def InL (l:List Nat) (ps:List zK):Prop:=∀ p ∈ ps,p.1.length <= 1000 /\ p.2.length <= 1000 /\ (∀ c ∈ p.1,c ∈ l) /\ ∀ c ∈ p.2,c ∈ l
def qB (K:PySem.W.Frag) (CO CR CW CT CH:Addr):Sp:=fun vs H Q E=>∃ (x dx o a:Addr) (k:Nat) (l:List Nat) (ns:List Int) (ps:List zK) (xs:List V),vs = [.ref x,.ref o,.ref a] /\ H x = some (.ins CH dx []) /\ OrdAt CO CR CW H o k l ns /\ OG l ns k /\ H a = some (.lst xs) /\ Iss K H (ps.map dR) xs /\ InL l ps /\
 (∀ i,xW k l ns ps 0 = some i -> ∀ H1,Same H H1 -> ∀ d H',QW H1 d "number" (.int (i:Nat)) H' -> E (.ref CT) (some d) H') /\
 (xW k l ns ps 0 = none -> ∀ (q:Addr) (H':Hp),(∀ b o',b ≠ x -> H b = some o' -> H' b = some o') -> H' x = some (.ins CH dx [("order",.ref o),("rules",.ref q)]) -> H' q = some (.lst xs) -> H q = none -> Q .non H')
theorem sc_system_init:zo ["self", "order", "rules", "number", "rule"] ["self", "order", "rules"] (zb yk):=⟨rfl,rfl,rfl,by decide +kernel,rfl,by decide +kernel,by decide +kernel⟩
theorem ux {f CO CR CW CT CH:Addr} {fd:FuncData} (B:Bt mg) (T:DNT P w K mg base CT) (TS:Xo K mg CH) (DBk:DB P w K mg base CO CR CW) (F:Fun K "__init__" "System.__init__" yk f fd)  : FnOk P w K mg base (CXx P w) 5 f fd ["self", "order", "rules"] (qB K CO CR CW CT CH):=by
 obtain ⟨fi,fdi,hi,hfn,Fi,Bi⟩:=T.ini
 refine Fun.okX F sc_system_init (fun vs H Q E h=>?_) (fun cdv A outer s H vs Q E hr hx h=>?_)
 ·obtain ⟨x,dx,o,a,k,l,ns,ps,xs,rfl,_⟩:=h
  rfl
 ·obtain ⟨x,dx,o,a,k,l,ns,ps,xs,rfl,hx0,ho,hG,hA,hI,hP,q1,q2⟩:=h
  refine ⟨_,(zh (yl PassesOwn.leaving rfl (qv rfl B.enum (za (pv 2) zc)) (ue (n:=2) rfl (ye (zu (i:=3) sc_system_init.nd rfl (Or.inl rfl)) (ye (zu (i:=4) sc_system_init.nd rfl (Or.inl rfl)) wp)))
    (ze (ya (yU (vE (Qj DBk hr (pv 1) (za (z9 ix_tup (pv 4) zg (fun _ _=>rfl)) (za (z9 ix_tup (pv 4) zg (fun _ _=>rfl)) zc))) (fun _=>rfl)))
     (ze (qO hx rfl T.xi.toXC hi hfn Fi (hr.mono (by decide)) Bi rfl T.g (za (pv 3) zc)))
     zx)))
   (zh (uT (pv 0) (pv 1) rfl)
   (ze (uT (pv 0) (xm yH rfl B.list PySem.Pv.boot_list (za (pv 2) zc)) rfl)))),?_⟩
  have s16:=yG
  refine zk (fun σ H'=>Same H H' /\ xW k l ns ps 0 = none /\ ∃ v3 v4,σ = [some (.ref x),some (.ref o),some (.ref a),v3,v4]) ?_ ?_
  ·repeat (first | rfl' | simp only [xf,zE,zX,xn,xk,zB])
   refine ⟨⟨_,SqL.of hA⟩,ForEL.by (xs:=xs) (fun i σ H'=>Same H H' /\ (∀ (j:Nat) (p:zK),j < i -> ps[j]? = some p -> zY k l ns p.2 p.1 = true) /\ ∃ v3 v4,σ = [some (.ref x),some (.ref o),some (.ref a),v3,v4]) ⟨Same.refl _,fun j p h=>absurd h (Nat.not_lt_zero j),_,_,rfl⟩ ?_ ?_ ?_⟩
   ·rintro i σ H' _ ⟨hs,_⟩
    exact SqL.of (hs _ _ hA)
   ·rintro i y σ H' p hy ⟨hs,hb,v3,v4,rfl⟩ hpn
    obtain ⟨r,pr,hri,rfl,hqr⟩:=hI.getR hy
    have hm:=hP r (List.mem_of_getElem? hri)
    have s2:=hs.trans (zf (o:=.tup [.int (i:Nat),.ref pr]) hpn)
    have ho2:=ho.same s2
    have hq2:=xM s2 hqr
    obtain ⟨C,dy,fs,hf,hoC,hn,_⟩:=ho2.fam
    have hn1:fs.lookup ("before" : Str) = none:=hn _ (by decide) (by decide)
    repeat (first | rfl' | simp only [xf,zE,zX,xn,xk,zB])
    refine ⟨_,SqT.of zd,rfl,_,_,rfl,_,_,rfl,rfl,C,hf,dy,fs,hoC,hn1,_,rfl,_,hq2,_,rfl,_,rfl,_,hq2,_,rfl,o,k,l,ns,r.2,r.1,rfl,ho2,hG,hm.2.1,hm.1,hm.2.2.2,hm.2.2.1,fun H3 s3=>?_⟩
    have s16:=yG
    refine ⟨_,rfl,yL (fun e=>⟨by omega,Yp (q1 i (by have:=kQ (j:=0) hb hri e; simpa using this) H3 (s2.trans s3))⟩) fun e=>⟨s2.trans s3,fun j p' hj hp'=>?_⟩⟩
    by_cases hj':j < i
    ·exact hb j p' hj' hp'
    ·have:j = i:=by omega
     rw [this,hri] at hp'
     cases hp'
     simpa using e
   ·rintro σ H' ⟨hs,hb,v3,v4,rfl⟩
    have hxl:=hI.len
    rw [List.length_map] at hxl
    exact ⟨hs,vf fun m p e=>hb m p (by have:=(List.getElem?_eq_some_iff.mp e).1; omega) e,v3,v4,rfl⟩
  rintro σ H1 ⟨s1,hf,v3,v4,rfl⟩
  refine zk (fun σ H'=>H' = upd H1 x (.ins CH dx [("order",.ref o)]) /\ σ = [some (.ref x),some (.ref o),some (.ref a),v3,v4]) ?_ ?_
  ·repeat (first | rfl' | simp only [xf,zE,zX,xn,xk,zB])
   exact ⟨_,_,_,s1 _ _ hx0,TS.cl,TS.no,by decide,rfl⟩
  rintro σ H2 ⟨rfl,rfl⟩
  repeat (first | rfl' | simp only [xf,zE,zX,xn,xk,zB])
  have hax:a ≠ x:=fun e=>by rw [e,hx0] at hA; cases hA
  refine ⟨xs,.inl (SqL.of (by rw [zi hax]; exact s1 _ _ hA)),fun q hq=>?_⟩
  have hqx:q ≠ x:=fun e=>by rw [e,zd] at hq; cases hq
  rw [zi hqx] at hq
  have hqH:H q = none:=by
   cases e:H q with
   | none=>rfl
   | some o'=>rw [s1 _ _ e] at hq; cases hq
  refine ⟨CH,dx,_,by rw [zi hqx.symm,zd],TS.cl,TS.nr,by show 1 < 1000; decide,q2 hf q _ (fun b o' hb e=>?_) zd (by rw [zi hqx,zd]) hqH⟩
  rw [zi hb,zi (fun z=>by rw [z,hqH] at e; cases e),zi hb]
  exact s1 _ _ e
def SysAt (K:PySem.W.Frag) (CH:Addr) (H:Hp) (y o q:Addr) (ps:List zK):Prop:=∃ dx xs,H y = some (.ins CH dx [("order",.ref o),("rules",.ref q)]) /\ H q = some (.lst xs) /\ Iss K H (ps.map dR) xs
theorem SysAt.same {K:PySem.W.Frag} {CH:Addr} {H H':Hp} {y o q:Addr} {ps:List zK} (h:SysAt K CH H y o q ps) (s:Same H H'):SysAt K CH H' y o q ps:=by
 obtain ⟨dx,xs,h1,h2,h3⟩:=h
 exact ⟨dx,xs,s _ _ h1,s _ _ h2,Iss.same s _ _ h3⟩
def stJ (l:List Nat) (ps:List zK) (q j:Nat):Bool:=((ps[j]?).map fun p=>zz l (q:Int) p.1).getD false
theorem vz {l:List Nat} {ps:List zK} {q j:Nat} {p:zK} (h:ps[j]? = some p):stJ l ps q j = zz l (q:Int) p.1:=by
 unfold stJ
 rw [h]
 rfl
theorem xX {l:List Nat} {ps:List zK} {q j:Nat} (h:stJ l ps q j = true):j < ps.length /\ ∃ p,ps[j]? = some p /\ zz l (q:Int) p.1 = true:=by
 unfold stJ at h
 cases e:ps[j]? with
 | none=>rw [e] at h; cases h
 | some p =>
  rw [e] at h
  exact ⟨(List.getElem?_eq_some_iff.mp e).1,p,rfl,h⟩
def uk (l:List Nat) (ps:List zK) (q i:Nat):List (Nat × Nat):=((List.range i).filter (stJ l ps q)).map fun j=>(j,q)
def yJ (l:List Nat) (ps:List zK) (k:Nat):List (Nat × Nat):=(List.range k).flatMap fun q=>uk l ps q ps.length
theorem Zt (l:List Nat) (ps:List zK) (q i:Nat):uk l ps q (i + 1) = uk l ps q i ++ (if stJ l ps q i = true then [(i,q)] else []):=by
 unfold uk
 rw [List.range_succ,List.filter_append,List.map_append]
 congr 1
 by_cases h:stJ l ps q i = true
 ·rw [if_pos h,List.filter_cons_of_pos h]
  rfl
 ·rw [if_neg h,List.filter_cons_of_neg h]
  rfl
theorem uL (l:List Nat) (ps:List zK) (k:Nat):yJ l ps (k + 1) = yJ l ps k ++ uk l ps k ps.length:=by
 unfold yJ
 rw [List.range_succ,List.flatMap_append]
 simp
theorem Yv (l:List Nat) (ps:List zK) (q i:Nat):(uk l ps q i).length <= i:=by
 unfold uk
 rw [List.length_map]
 have:=List.length_filter_le (stJ l ps q) (List.range i)
 rw [List.length_range] at this
 exact this
theorem Yj (l:List Nat) (ps:List zK):∀ k,(yJ l ps k).length <= k * ps.length
 | 0=>by simp [yJ]
 | k + 1=>by
  rw [uL,List.length_append,Nat.succ_mul]
  have:=Yj l ps k
  have:=Yv l ps k ps.length
  omega
theorem usesN_mem {l:List Nat} {ps:List zK} {q i:Nat} {u:Nat × Nat}:u ∈ uk l ps q i ↔ u.2 = q /\ u.1 < i /\ stJ l ps q u.1 = true:=by
 unfold uk
 rw [List.mem_map]
 constructor
 ·rintro ⟨j,hj,rfl⟩
  rw [List.mem_filter,List.mem_range] at hj
  exact ⟨rfl,hj.1,hj.2⟩
 ·rintro ⟨h1,h2,h3⟩
  exact ⟨u.1,List.mem_filter.mpr ⟨List.mem_range.mpr h2,h3⟩,by rw [<- h1]⟩
theorem usesK_mem {l:List Nat} {ps:List zK} {k:Nat} {u:Nat × Nat}:u ∈ yJ l ps k ↔ u.2 < k /\ stJ l ps u.2 u.1 = true:=by
 unfold yJ
 rw [List.mem_flatMap]
 constructor
 ·rintro ⟨q,hq,hu⟩
  obtain ⟨h1,h2,h3⟩:=usesN_mem.mp hu
  rw [List.mem_range] at hq
  rw [h1]
  exact ⟨hq,h3⟩
 ·rintro ⟨h1,h2⟩
  exact ⟨u.2,List.mem_range.mpr h1,usesN_mem.mpr ⟨rfl,(xX h2).1,h2⟩⟩
def uLt (a b:Nat × Nat):Prop:=a.2 < b.2 \/ (a.2 = b.2 /\ a.1 < b.1)
theorem vq (l:List Nat) (ps:List zK) (q:Nat):∀ i,(uk l ps q i).Pairwise uLt
 | 0=>by simp [uk]
 | i + 1=>by
  rw [Zt]
  refine List.pairwise_append.mpr ⟨vq l ps q i,?_,fun a ha b hb=>?_⟩
  ·split
   ·exact List.pairwise_singleton _ _
   ·exact List.Pairwise.nil
  ·obtain ⟨h1,h2,_⟩:=usesN_mem.mp ha
   split at hb
   ·rw [List.mem_singleton.mp hb]
    exact .inr ⟨h1,h2⟩
   ·cases hb
theorem xF (l:List Nat) (ps:List zK):∀ k,(yJ l ps k).Pairwise uLt
 | 0=>by simp [yJ]
 | k + 1=>by
  rw [uL]
  refine List.pairwise_append.mpr ⟨xF l ps k,vq l ps k _,fun a ha b hb=>?_⟩
  have h1:=(usesK_mem.mp ha).1
  have h2:=(usesN_mem.mp hb).1
  exact .inl (by omega)
def FirstN (l:List Nat) (ps:List zK) (lo hi n:Nat) (r:Option (Nat × Nat)):Prop :=
 (r = none /\ ∀ j q,j < n -> lo <= q -> q < hi -> stJ l ps q j = false) \/
 ∃ n0 q0,r = some (n0,q0) /\ n0 < n /\ lo <= q0 /\ q0 < hi /\ stJ l ps q0 n0 = true /\ ∀ j q,j < n -> lo <= q -> stJ l ps q j = true -> q0 < q \/ (q0 = q /\ n0 <= j)
theorem FirstN.uniq {l:List Nat} {ps:List zK} {lo hi n:Nat} {r r':Option (Nat × Nat)} (h:FirstN l ps lo hi n r) (h':FirstN l ps lo hi n r'):r = r':=by
 rcases h with ⟨rfl,h⟩ | ⟨n0,q0,rfl,a1,a2,a3,a4,a5⟩
 ·rcases h' with ⟨rfl,_⟩ | ⟨n0,q0,rfl,a1,a2,a3,a4,a5⟩
  ·rfl
  ·rw [h n0 q0 a1 a2 a3] at a4
   cases a4
 ·rcases h' with ⟨rfl,h⟩ | ⟨n1,q1,rfl,b1,b2,b3,b4,b5⟩
  ·rw [h n0 q0 a1 a2 a3] at a4
   cases a4
  ·have x1:=a5 n1 q1 b1 b2 b4
   have x2:=b5 n0 q0 a1 a2 a4
   have e1:q0 = q1:=by omega
   have e2:n0 = n1:=by omega
   rw [e1,e2]
theorem uQ {l:List Nat} {ps:List zK} {r:Option (Nat × Nat)} (h:FirstN l ps 0 l.length ps.length r):r = (yJ l ps l.length).head?:=by
 have hs:=xF l ps l.length
 refine h.uniq ?_
 cases e:yJ l ps l.length with
 | nil =>
  refine .inl ⟨rfl,fun j q _ _ hq=>?_⟩
  cases hb:stJ l ps q j with
  | false=>rfl
  | true =>
   have:(j,q) ∈ yJ l ps l.length:=usesK_mem.mpr ⟨hq,hb⟩
   rw [e] at this
   cases this
 | cons u us =>
  rw [e] at hs
  have hu:u ∈ yJ l ps l.length:=by rw [e]; exact List.mem_cons_self
  obtain ⟨h1,h2⟩:=usesK_mem.mp hu
  refine .inr ⟨u.1,u.2,rfl,(xX h2).1,Nat.zero_le _,h1,h2,fun j q hj _ hb=>?_⟩
  by_cases hq:q < l.length
  ·have:(j,q) ∈ yJ l ps l.length:=usesK_mem.mpr ⟨hq,hb⟩
   rw [e] at this
   rcases List.mem_cons.mp this with e2 | e2
   ·rw [<- e2]
    exact .inr ⟨rfl,Nat.le_refl _⟩
   ·rcases (List.pairwise_cons.mp hs).1 _ e2 with h | ⟨h,h'⟩
    ·exact .inl h
    ·exact .inr ⟨h,Nat.le_of_lt h'⟩
  ·exact .inl (by omega)
theorem uj {l p:List Nat} {q:Nat} (hp:p ≠ []) (h:zz l (q:Int) p = true):q < l.length:=by
 obtain ⟨h0,h1,_⟩:=of_decide_eq_true h
 have:0 < p.length:=List.length_pos_iff.mpr hp
 omega
theorem FirstN.keep {l:List Nat} {ps:List zK} {lo hi n:Nat} {r:Option (Nat × Nat)} {p:zK} (h:FirstN l ps lo hi n r) (hp:ps[n]? = some p) (hn:∀ q:Nat,lo <= q -> q < (r.map Prod.snd).getD hi -> zz l (q:Int) p.1 = false):FirstN l ps lo hi (n + 1) r:=by
 rcases h with ⟨rfl,h⟩ | ⟨n0,q0,rfl,a1,a2,a3,a4,a5⟩
 ·refine .inl ⟨rfl,fun j q hj h1 h2=>?_⟩
  by_cases e:j < n
  ·exact h j q e h1 h2
  ·have:j = n:=by omega
   subst this
   rw [vz hp]
   exact hn q h1 h2
 ·refine .inr ⟨n0,q0,rfl,by omega,a2,a3,a4,fun j q hj h1 h2=>?_⟩
  by_cases e:j < n
  ·exact a5 j q e h1 h2
  ·have:j = n:=by omega
   subst this
   rw [vz hp] at h2
   by_cases hq:q < q0
   ·rw [hn q h1 hq] at h2
    cases h2
   ·omega
theorem FirstN.take {l:List Nat} {ps:List zK} {lo hi n k:Nat} {r:Option (Nat × Nat)} {p:zK} (h:FirstN l ps lo hi n r) (hp:ps[n]? = some p) (h1:lo <= k) (h2:k < (r.map Prod.snd).getD hi) (h3:zz l (k:Int) p.1 = true) (hn:∀ q:Nat,lo <= q -> q < k -> zz l (q:Int) p.1 = false):FirstN l ps lo hi (n + 1) (some (n,k)):=by
 have hk:k < hi /\ ∀ j q,j < n -> lo <= q -> stJ l ps q j = true -> k < q:=by
  rcases h with ⟨rfl,h⟩ | ⟨n0,q0,rfl,a1,a2,a3,a4,a5⟩
  ·refine ⟨h2,fun j q hj hl hb=>?_⟩
   by_cases hq:q < hi
   ·rw [h j q hj hl hq] at hb
    cases hb
   ·have h2':k < hi:=h2
    omega
  ·have h2':k < q0:=h2
   refine ⟨by omega,fun j q hj hl hb=>?_⟩
   have:=a5 j q hj hl hb
   omega
 refine .inr ⟨n,k,rfl,by omega,h1,hk.1,by rw [vz hp]; exact h3,fun j q hj hl hb=>?_⟩
 by_cases e:j < n
 ·exact .inl (hk.2 j q e hl hb)
 ·have:j = n:=by omega
  subst this
  rw [vz hp] at hb
  by_cases hq:q < k
  ·rw [hn q hl hq] at hb
   cases hb
  ·omega
theorem FirstN.window {l:List Nat} {ps:List zK} {lo mid hi n:Nat} {r:Option (Nat × Nat)} (h0:FirstN l ps lo mid n none) (hm:lo <= mid) (h:FirstN l ps mid hi n r):FirstN l ps lo hi n r:=by
 have h0':∀ j q,j < n -> lo <= q -> q < mid -> stJ l ps q j = false:=by
  rcases h0 with ⟨_,h⟩ | ⟨_,_,h,_⟩
  ·exact h
  ·cases h
 rcases h with ⟨rfl,h⟩ | ⟨n0,q0,rfl,a1,a2,a3,a4,a5⟩
 ·refine .inl ⟨rfl,fun j q hj h1 h2=>?_⟩
  by_cases e:q < mid
  ·exact h0' j q hj h1 e
  ·exact h j q hj (by omega) h2
 ·refine .inr ⟨n0,q0,rfl,a1,by omega,a3,a4,fun j q hj h1 h2=>?_⟩
  by_cases e:q < mid
  ·rw [h0' j q hj h1 e] at h2
   cases h2
  ·exact a5 j q hj (by omega) h2
def NeL (ps:List zK):Prop:=∀ p ∈ ps,p.1 ≠ []
theorem FirstN.toEnd {l:List Nat} {ps:List zK} {lo hi n:Nat} {r:Option (Nat × Nat)} (hN:NeL ps) (h:FirstN l ps lo hi n r) (hl:r = none -> l.length <= hi):FirstN l ps lo l.length n r:=by
 have hlt:∀ j q,stJ l ps q j = true -> q < l.length:=fun j q hb=>by
  obtain ⟨_,p,hp,hs⟩:=xX hb
  exact uj (hN p (List.mem_of_getElem? hp)) hs
 rcases h with ⟨rfl,h⟩ | ⟨n0,q0,rfl,a1,a2,a3,a4,a5⟩
 ·exact .inl ⟨rfl,fun j q hj h1 h2=>h j q hj h1 (by have:=hl rfl; omega)⟩
 ·exact .inr ⟨n0,q0,rfl,a1,a2,hlt _ _ a4,a4,a5⟩
def zF (l:List Nat) (ps:List zK):Option (Nat × Nat):=(yJ l ps l.length).head?
theorem vK {l:List Nat} {ps:List zK} {r:Option (Nat × Nat)} (h:FirstN l ps 0 l.length ps.length r):r = zF l ps:=uQ h
theorem XU (l:List Nat) (ps:List zK) (hN:NeL ps):FirstN l ps 0 l.length ps.length (zF l ps):=by
 have hs:=xF l ps l.length
 unfold zF
 cases e:yJ l ps l.length with
 | nil =>
  refine .inl ⟨rfl,fun j q _ _ hq=>?_⟩
  cases hb:stJ l ps q j with
  | false=>rfl
  | true =>
   have:(j,q) ∈ yJ l ps l.length:=usesK_mem.mpr ⟨hq,hb⟩
   rw [e] at this
   cases this
 | cons u us =>
  rw [e] at hs
  have hu:u ∈ yJ l ps l.length:=by rw [e]; exact List.mem_cons_self
  obtain ⟨h1,h2⟩:=usesK_mem.mp hu
  refine .inr ⟨u.1,u.2,rfl,(xX h2).1,Nat.zero_le _,h1,h2,fun j q hj _ hb=>?_⟩
  have hq:q < l.length:=by
   obtain ⟨_,p,hp,hs⟩:=xX hb
   exact uj (hN p (List.mem_of_getElem? hp)) hs
  have:(j,q) ∈ yJ l ps l.length:=usesK_mem.mpr ⟨hq,hb⟩
  rw [e] at this
  rcases List.mem_cons.mp this with e2 | e2
  ·rw [<- e2]
   exact .inr ⟨rfl,Nat.le_refl _⟩
  ·rcases (List.pairwise_cons.mp hs).1 _ e2 with h | ⟨h,h'⟩
   ·exact .inl h
   ·exact .inr ⟨h,Nat.le_of_lt h'⟩
def j1 (ps:List zK) (n:Nat):zK:=ps.getD n ([],[])
theorem vR {ps:List zK} {n:Nat} {p:zK} (h:ps[n]? = some p):j1 ps n = p:=by
 unfold j1
 rw [List.getD_eq_getElem?_getD,h]
 rfl
def Zn (l:List Nat) (ps:List zK) (u:Nat × Nat):List Nat:=VQ l (u.2:Int) (j1 ps u.1).1 (j1 ps u.1).2
def Xq (ps:List zK) (l:List Nat):List Nat:=((zF l ps).map (Zn l ps)).getD l
def wAt (ps:List zK) (l:List Nat):Nat -> List Nat
 | 0=>l
 | j + 1=>Xq ps (wAt ps l j)
def sAt (ps:List zK) (l:List Nat) (j:Nat):List (Nat × Nat):=(List.range j).map fun i=>(zF (wAt ps l i) ps).getD (0,0)
theorem X4 (ps:List zK) (l:List Nat) (j:Nat):sAt ps l (j + 1) = sAt ps l j ++ [(zF (wAt ps l j) ps).getD (0,0)]:=by
 unfold sAt
 rw [List.range_succ,List.map_append]
 rfl
theorem WP (ps:List zK) (l:List Nat) (j:Nat):(sAt ps l j).length = j:=by
 unfold sAt
 rw [List.length_map,List.length_range]
theorem xQ {ps:List zK} {l:List Nat} {j:Nat} {u:Nat × Nat} (h:zF (wAt ps l j) ps = some u):wAt ps l (j + 1) = Zn (wAt ps l j) ps u:=by
 show Xq ps (wAt ps l j) = _
 unfold Xq
 rw [h]
 rfl
def Uf (ps:List zK) (l:List Nat) (j:Nat):Prop:=∀ i,i < j -> zF (wAt ps l i) ps ≠ none
theorem kS {l:List Nat} {ps:List zK} {n q M lo:Nat} (h:FirstN l ps 0 l.length ps.length (some (n,q))) (hN:NeL ps) (hM:∀ p ∈ ps,p.1.length <= M) (hlo:lo = 0 \/ lo + M <= q + 1):FirstN (Zn l ps (n,q)) ps 0 lo ps.length none:=by
 refine .inl ⟨rfl,fun j x hj _ hx=>?_⟩
 rcases h with ⟨h,_⟩ | ⟨n0,q0,e,a1,a2,a3,a4,a5⟩
 ·cases h
 ·injection e with e
  injection e with e1 e2
  subst e1 e2
  cases hb:stJ (Zn l ps (n,q)) ps x j with
  | false=>rfl
  | true =>
   obtain ⟨_,p,hp,hs⟩:=xX hb
   have hpm:=hM p (List.mem_of_getElem? hp)
   have hpn:=List.length_pos_iff.mpr (hN p (List.mem_of_getElem? hp))
   have hxq:x + p.1.length <= q:=by omega
   obtain ⟨s0,s1,s2⟩:=of_decide_eq_true hs
   rw [Int.toNat_natCast] at s2
   obtain ⟨_,p2,hp2,hs2⟩:=xX a4
   obtain ⟨t0,t1,t2⟩:=of_decide_eq_true hs2
   have e4:(Zn l ps (n,q)).take q = l.take q:=by
    unfold Zn VQ
    rw [Int.toNat_natCast,List.append_assoc,List.take_append_of_le_length (by rw [List.length_take]; omega),List.take_take,Nat.min_self]
   have e5:∀ z:List Nat,((z.take q).drop x).take p.1.length = (z.drop x).take p.1.length:=fun z=>by
    rw [List.drop_take,List.take_take]
    congr 1
    omega
   have s3:(l.drop x).take p.1.length = p.1:=by rw [<- e5,<- e4,e5,s2]
   have:stJ l ps x j = true:=by
    rw [vz hp]
    exact decide_eq_true ⟨by omega,by omega,by rw [Int.toNat_natCast]; exact s3⟩
   have:=a5 j x hj (Nat.zero_le _) this
   omega
def UseAt (H:Hp) (r:Option (Nat × Nat)) (v:V):Prop:=(r = none /\ v = .non) \/ ∃ (n q:Nat) (p:Addr),r = some (n,q) /\ v = .ref p /\ H p = some (.tup [.int (n:Nat),.int (q:Nat)])
theorem UseAt.same {H H':Hp} {r:Option (Nat × Nat)} {v:V} (h:UseAt H r v) (s:Same H H'):UseAt H' r v:=by
 rcases h with h | ⟨n,q,p,h1,h2,h3⟩
 ·exact .inl h
 ·exact .inr ⟨n,q,p,h1,h2,s _ _ h3⟩
theorem ZY {l p:List Nat} {lo hi:Int} {H:Hp} {Q:VK} (h0:0 <= lo) (h1:0 <= hi) (h:∀ r:Int,((r = -1 /\ ∀ q:Nat,lo <= q -> (q:Int) + p.length <= hi -> zz l q p = false) \/ ∃ k:Nat,r = k /\ lo <= k /\ (k:Int) + p.length <= hi /\ zz l k p = true /\ ∀ q:Nat,lo <= q -> q < k -> zz l q p = false) -> Q (.int r) H):Wx (.str (tx l)) [.str (tx p),.int lo,.int hi] H Q:=by
 refine ⟨l,p,lo,hi,rfl,rfl,h0,h1,fun r hr=>h r ?_⟩
 have no:∀ q:Nat,((l.drop q).take p.length ≠ p \/ ¬ q + p.length <= l.length) -> zz l q p = false:=fun q hq=>decide_eq_false fun ⟨_,b,c⟩=>by
  rcases hq with hq | hq
  ·exact hq c
  ·omega
 rcases hr with ⟨rfl,hn⟩ | ⟨k,rfl,k1,k2,k3,k4,hn⟩
 ·refine .inl ⟨rfl,fun q q1 q2=>no q ?_⟩
  by_cases e:q + p.length <= l.length
  ·exact .inl (hn q q1 q2 e)
  ·exact .inr e
 ·exact .inr ⟨k,rfl,k1,k2,decide_eq_true ⟨by omega,by omega,k4⟩,fun q q1 q2=>no q (.inl (hn q q1 q2))⟩
def xR (K:PySem.W.Frag):Sp:=fun vs H Q _=>∃ (a:Addr) (l:List Nat) (ps:List zK) (st en:Nat),vs = [.ref a,.str (tx l),.int (st:Nat),.int (en:Nat)] /\ LsA K H a (ps.map dR) /\ NeL ps /\ (∀ p ∈ ps,p.1.length <= 1000) /\ ∀ (r:Option (Nat × Nat)) (v:V) (H':Hp),Same H H' -> UseAt H' r v -> FirstN l ps st en ps.length r -> Q v H'
theorem jv {a:Addr} {l:List Nat} {ps:List zK} {st en:Nat} {s e:Int} {H:Hp} {Q:VK} {E:XK} (hs:s = (st:Nat)) (he:e = (en:Nat)) (hA:LsA K H a (ps.map dR)) (hN:NeL ps) (hP:∀ p ∈ ps,p.1.length <= 1000) (q:∀ (r:Option (Nat × Nat)) (v:V) (H':Hp),Same H H' -> UseAt H' r v -> FirstN l ps st en ps.length r -> Q v H'):xR K [.ref a,.str (tx l),.int s,.int e] H Q E:=by
 subst hs he
 exact ⟨a,l,ps,st,en,rfl,hA,hN,hP,q⟩
theorem sc_first_within:zo ["rules", "word", "start", "end", "found", "number", "rule", "place"] ["rules", "word", "start", "end"] (zb yb):=⟨rfl,rfl,rfl,by decide +kernel,rfl,by decide +kernel,by decide +kernel⟩
theorem v0 {f:Addr} {fd:FuncData} (B:Bt mg)  (F:Fun K "first_within" "first_within" yb f fd)  : FnOk P w K mg base CX0 1 f fd ["rules", "word", "start", "end"] (xR K):=by
 refine F.ok sc_first_within (fun vs H Q E h=>?_) (fun cdv A outer s H vs Q E hr h=>?_)
 ·obtain ⟨a,l,ps,st,en,rfl,_⟩:=h
  rfl
 ·obtain ⟨a,l,ps,st,en,rfl,hA,hN,hP,q⟩:=h
  refine ⟨_,(zh (zq (i:=4) sc_first_within.nd rfl (Or.inl rfl) wC)
   (zh (yl PassesOwn.never rfl (qv rfl B.enum (za (pv 0) zc)) (ue (n:=2) rfl (ye (zu (i:=5) sc_first_within.nd rfl (Or.inl rfl)) (ye (zu (i:=6) sc_first_within.nd rfl (Or.inl rfl)) wp)))
    (zt (zq (i:=7) sc_first_within.nd rfl (Or.inl rfl) (xC PySem.F.plainAttrs_str PySem.F.slot_str_find PySem.F.type_str_find W1 (pv 1) (za (z9 ix_tup (pv 6) zg (fun _ _=>rfl)) (za (pv 2) (za (zw op_add (zw jr (pv 3) zg) (zn z7 rfl B.len PySem.boot_len (za (z9 ix_tup (pv 6) zg (fun _ _=>rfl)) zc))) zc)))))
    (ze (ya (zy op_ge' (pv 7) zg (zG _))
     (zt (zq (i:=4) sc_first_within.nd rfl (Or.inl rfl) (vw (za (pv 5) (za (pv 7) zc))))
     (ze (zq (i:=3) sc_first_within.nd rfl (Or.inl rfl) (pv 7))))
     zx))))
   (ze (zr (pv 4))))),?_⟩
  have s16:=yG
  obtain ⟨xs,hX,hI⟩:=id hA
  have hxl:=hI.len
  rw [List.length_map] at hxl
  have s16:=yG
  refine zk (fun σ H'=>H' = H /\ σ = [some (.ref a),some (.str (tx l)),some (.int (st:Nat)),some (.int (en:Nat)),some (.non),none,none,none]) ?_ ?_
  ·rfl'
  rintro σ H1 ⟨rfl,rfl⟩
  refine zk (fun σ H'=>Same H1 H' /\ ∃ (r:Option (Nat × Nat)) (v:V) (v3 v5 v6 v7:Option V),UseAt H' r v /\ FirstN l ps st en ps.length r /\ σ = [some (.ref a),some (.str (tx l)),some (.int (st:Nat)),v3,some (v),v5,v6,v7]) ?_ ?_
  ·rfl'
   refine ⟨⟨_,SqL.of hX⟩,ForEL.by (xs:=xs) (fun i σ H'=>Same H1 H' /\ ∃ (r:Option (Nat × Nat)) (v:V) (v5 v6 v7:Option V),UseAt H' r v /\ FirstN l ps st en i r /\ σ = [some (.ref a),some (.str (tx l)),some (.int (st:Nat)),some (.int (((r.map Prod.snd).getD en:Nat):Int)),some (v),v5,v6,v7]) ⟨Same.refl _,none,.non,none,none,none,.inl ⟨rfl,rfl⟩,.inl ⟨rfl,fun j q h=>absurd h (Nat.not_lt_zero j)⟩,rfl⟩ (fun i σ H' _ h=>SqL.of (h.1 _ _ hX)) ?_ ?_⟩
   ·rintro i y σ H' p hy ⟨hs,r,v,v5,v6,v7,hu,hF,rfl⟩ hpn
    obtain ⟨rl,pr,hri,rfl,hqr⟩:=hI.getR hy
    have hm:=List.mem_of_getElem? hri
    have hne:=List.length_pos_iff.mpr (hN rl hm)
    have hrl:=hP rl hm
    have s2:=hs.trans (zf (o:=.tup [.int (i:Nat),.ref pr]) hpn)
    have hq2:=xM s2 hqr
    have hu2:=hu.same (zf (o:=.tup [.int (i:Nat),.ref pr]) hpn)
    rfl'
    refine ⟨_,SqT.of zd,rfl,_,_,rfl,_,_,rfl,rfl,_,rfl,_,hq2,_,rfl,_,rfl,_,hq2,_,rfl,_,⟨by rw [yS]; omega,rfl⟩,ZY (by omega) (by rw [yS]; omega) fun z hz=>⟨z,rfl,?_⟩⟩
    rw [yS] at hz
    rcases hz with ⟨rfl,hn⟩ | ⟨k,rfl,k1,k2,k3,hn⟩
    ·rw [if_neg (by decide)]
     exact ⟨s2,r,v,hu2,hF.keep hri fun q q1 q2=>hn q (by omega) (by omega),rfl,rfl⟩
    ·rw [if_pos (by omega)]
     refine ⟨by omega,fun p2 hp2=>⟨s2.trans (zf hp2),some (i,k),.ref p2,.inr ⟨i,k,p2,rfl,rfl,zd⟩,hF.take hri (by omega) (by omega) k3 fun q q1 q2=>hn q (by omega) q2,rfl,rfl⟩⟩
   ·rintro σ H' ⟨hs,r,v,v5,v6,v7,hu,hF,rfl⟩
    rw [hxl] at hF
    exact ⟨hs,r,v,hu,hF,_,_,_,_,rfl⟩
  rintro σ H2 ⟨s2,r,v,v3,v5,v6,v7,hu,hF,rfl⟩
  rfl'
  exact q r v H2 s2 hu hF
structure Jg (mg:Str -> Option Value):Prop where
 g:∃ t,mg "WINDOW" = some (.int 128 t)
def wA (K:PySem.W.Frag):Sp:=fun vs H Q _=>∃ (a:Addr) (l:List Nat) (ps:List zK) (st:Nat),vs = [.ref a,.str (tx l),.int (st:Nat)] /\ LsA K H a (ps.map dR) /\ NeL ps /\ (∀ p ∈ ps,p.1.length <= 1000) /\ l.length <= 100000 /\ ∀ (r:Option (Nat × Nat)) (v:V) (H':Hp),Same H H' -> UseAt H' r v -> FirstN l ps st l.length ps.length r -> Q v H'
theorem uq {a:Addr} {l:List Nat} {ps:List zK} {st:Nat} {s:Int} {H:Hp} {Q:VK} {E:XK} (hs:s = (st:Nat)) (hA:LsA K H a (ps.map dR)) (hN:NeL ps) (hP:∀ p ∈ ps,p.1.length <= 1000) (hl:l.length <= 100000) (q:∀ (r:Option (Nat × Nat)) (v:V) (H':Hp),Same H H' -> UseAt H' r v -> FirstN l ps st l.length ps.length r -> Q v H'):wA K [.ref a,.str (tx l),.int s] H Q E:=by
 subst hs
 exact ⟨a,l,ps,st,rfl,hA,hN,hP,hl,q⟩
theorem sc_first_from:zo ["rules", "word", "start", "size", "found"] ["rules", "word", "start"] (zb yr):=⟨rfl,rfl,rfl,by decide +kernel,rfl,by decide +kernel,by decide +kernel⟩
theorem qz {f:Addr} {fd:FuncData} (B:Bt mg) (T:Jg mg) (F:Fun K "first_from" "first_from" yr f fd) (D_first_within:Df P w K mg base CX0 1 "first_within" ["rules", "word", "start", "end"] [] (xR K)):FnOk P w K mg base CX0 2 f fd ["rules", "word", "start"] (wA K):=by
 obtain ⟨t8,g8⟩:=T.g
 refine F.ok sc_first_from (fun vs H Q E h=>?_) (fun cdv A outer s H vs Q E hr h=>?_)
 ·obtain ⟨a,l,ps,st,rfl,_⟩:=h
  rfl
 ·obtain ⟨a,l,ps,st,rfl,hA,hN,hP,hl,q⟩:=h
  refine ⟨_,(zh (zq (i:=3) sc_first_from.nd rfl (Or.inl rfl) (wY (v:=.int 128) rfl g8 ⟨t8,rfl⟩))
   (zh (wB PassesOwn.never (zy vS (pv 2) (zn z7 rfl B.len PySem.boot_len (za (pv 1) zc)) (zG _))
    (zt (zq (i:=4) sc_first_from.nd rfl (Or.inl rfl) (cl0 D_first_within hr .nil rfl (za (pv 0) (za (pv 1) (za (pv 2) (za (zw op_add (pv 2) (pv 3)) zc))))))
    (zt (ya (zy op_notN' (pv 4) wC (zG _))
     (ze (zr (pv 4)))
     zx)
    (zt (zq (i:=2) sc_first_from.nd rfl (Or.inl rfl) (zw op_add (pv 2) (pv 3)))
    (ze (zq (i:=3) sc_first_from.nd rfl (Or.inl rfl) (zw op_mul (pv 3) zg)))))))
   (ze (zr wC)))),?_⟩
  have s16:=yG
  have s16:=yG
  refine zk (fun σ H'=>H' = H /\ σ = [some (.ref a),some (.str (tx l)),some (.int (st:Nat)),some (.int 128),none]) ?_ ?_
  ·rfl'
  rintro σ H1 ⟨rfl,rfl⟩
  refine zk (fun σ H'=>Same H1 H' /\ FirstN l ps st l.length ps.length none) ?_ ?_
  ·unfold uK
   refine ⟨fun m σ H'=>∃ (s z:Nat) (v4:Option V),m = l.length - s /\ st <= s /\ 1 <= z /\ Same H1 H' /\ FirstN l ps st s ps.length none /\ σ = [some (.ref a),some (.str (tx l)),some (.int (s:Nat)),some (.int (z:Nat)),v4],⟨_,st,128,none,rfl,Nat.le_refl _,by decide,Same.refl _,.inl ⟨rfl,fun j q _ h1 h2=>by omega⟩,rfl⟩,?_⟩
   rintro m σ H' ⟨s,z,v4,rfl,hs,hz,sm,hF,rfl⟩
   rfl'
   refine ⟨by omega,yL (fun hlt=>?_) fun hge=>⟨sm,hF.toEnd hN fun _=>by omega⟩⟩
   refine ⟨fun σ' H''=>∃ v4:Option V,Same H1 H'' /\ FirstN l ps st (s + z) ps.length none /\ σ' = [some (.ref a),some (.str (tx l)),some (.int ((s + z:Nat):Int)),some (.int ((z * 2:Nat):Int)),v4],fun σ' H'' ⟨v4,a1,a2,a3⟩=>⟨l.length - (s + z),by omega,s + z,rfl,by omega,z * 2,by omega,a1,a2,v4,a3⟩,?_⟩
   refine jv (en:=s + z) rfl (by omega) (hA.same sm) hN hP fun r v H2 s2 hu hF2=>?_
   rcases hu with ⟨rfl,rfl⟩ | ⟨n,qq,p,rfl,rfl,hp⟩
   ·rw [if_neg (fun h=>h rfl)]
    exact ⟨.inr ⟨by decide,by decide⟩,some .non,sm.trans s2,hF.window hs hF2,by push_cast; rfl⟩
   ·rw [if_pos (by intro h; cases h)]
    exact q _ _ H2 (sm.trans s2) (.inr ⟨n,qq,p,rfl,rfl,hp⟩) ((hF.window hs hF2).toEnd hN (fun e=>by cases e))
  rintro σ H2 ⟨s2,hF⟩
  rfl'
  exact q none .non H2 s2 (.inl ⟨rfl,rfl⟩) hF
theorem LsA.pushT {H:Hp} {D p:Addr} {ds es:List L3.D} {xs vs:List V} (h1:H D = some (.lst xs)) (h2:Iss K H ds xs) (hp:H p = none) (hv:Iss K H es vs) (f:yR ds) (fe:yR es):LsA K (upd (upd H p (.tup vs)) D (.lst (xs ++ [.ref p]))) D (ds ++ [.tup es]):=by
 have e:(upd H p (.tup vs)) D = some (.lst xs):=zf hp _ _ h1
 exact LsA.snoc e (Iss.same (zf hp) _ _ h2) f (by simp only [vC]; exact fe) (Is.tup hp hv)
def u7 (K:PySem.W.Frag) (CH:Addr):Sp:=fun vs H Q _=>∃ (y o q:Addr) (ps:List zK) (l:List Nat),vs = [.ref y,.str (tx l)] /\ SysAt K CH H y o q ps /\ l.length <= 1000 /\ NeL ps /\ (∀ p ∈ ps,p.1.length <= 1000) /\ ∀ (r:Option (Nat × Nat)) (v:V) (H':Hp),Same H H' -> UseAt H' r v -> FirstN l ps 0 l.length ps.length r -> Q v H'
theorem Wg {CH y o q:Addr} {ps:List zK} {l:List Nat} {H:Hp} {Q:VK} {E:XK} (hy:SysAt K CH H y o q ps) (hl:l.length <= 1000) (hN:NeL ps) (hP:∀ p ∈ ps,p.1.length <= 1000) (h:∀ (r:Option (Nat × Nat)) (v:V) (H':Hp),Same H H' -> UseAt H' r v -> FirstN l ps 0 l.length ps.length r -> Q v H'):u7 K CH [.ref y,.str (tx l)] H Q E:=⟨y,o,q,ps,l,rfl,hy,hl,hN,hP,h⟩
theorem wa:zo ["self", "word"] ["self", "word"] (zb zN):=⟨rfl,rfl,rfl,by decide +kernel,rfl,by decide +kernel,by decide +kernel⟩
theorem wb {f CH:Addr} {fd:FuncData} (B:Bt mg) (TS:Xo K mg CH) (F:Fun K "first_use" "System.first_use" zN f fd) (D_first_from:Df P w K mg base CX0 2 "first_from" ["rules", "word", "start"] [] (wA K)):FnOk P w K mg base CX0 3 f fd ["self", "word"] (u7 K CH):=by
 refine F.ok wa (fun vs H Q E h=>?_) (fun cdv A outer s H vs Q E hr h=>?_)
 ·obtain ⟨y,o,q,ps,l,rfl,_⟩:=h
  rfl
 ·obtain ⟨y,o,q,ps,l,rfl,hy,hl,hN,hP,k⟩:=h
  refine ⟨_,(ze (zr (cl0 D_first_from hr .nil rfl (za (yI (pv 0) rfl) (za (pv 1) (za zg zc)))))),?_⟩
  have s16:=yG
  rfl'
  obtain ⟨dx,xs,h1,h2,h3⟩:=id hy
  exact ⟨_,_,_,h1,TS.cl,TS.nr,_,rfl,uq (st:=0) rfl ⟨xs,h2,h3⟩ hN hP (by omega) k⟩
def jA (K:PySem.W.Frag) (CH:Addr):Sp:=fun vs H Q _=>∃ (y o q:Addr) (ps:List zK) (l:List Nat),vs = [.ref y,.str (tx l)] /\ SysAt K CH H y o q ps /\ l.length <= 1000 /\ NeL ps /\ (∀ p ∈ ps,p.1.length <= 1000) /\ ∀ (H':Hp),Same H H' -> Q (.bl (yJ l ps l.length).isEmpty) H'
theorem xH:zo ["self", "word"] ["self", "word"] (zb zJ):=⟨rfl,rfl,rfl,by decide +kernel,rfl,by decide +kernel,by decide +kernel⟩
theorem xJ {f CH:Addr} {fd:FuncData} (B:Bt mg) (TS:Xo K mg CH) (F:Fun K "is_shortest" "System.is_shortest" zJ f fd) (M_system_first_use:DM P w K mg base CX0 3 CH "first_use" ["self", "word"] (u7 K CH)):FnOk P w K mg base CX0 4 f fd ["self", "word"] (jA K CH):=by
 refine F.ok xH (fun vs H Q E h=>?_) (fun cdv A outer s H vs Q E hr h=>?_)
 ·obtain ⟨y,o,q,ps,l,rfl,_⟩:=h
  rfl
 ·obtain ⟨y,o,q,ps,l,rfl,hy,hl,hN,hP,k⟩:=h
  refine ⟨_,(ze (zr (ve op_isN' (me1 M_system_first_use TS.cl hr (pv 0) (za (pv 1) zc)) wC (zG _)))),?_⟩
  have s16:=yG
  rfl'
  obtain ⟨dx,xs,h1,h2,h3⟩:=id hy
  refine ⟨_,_,h1,rfl,Wg hy hl hN hP fun r v H' s' hu hF=>?_⟩
  have e:=uQ hF
  have e2:decide (v = V.non) = (yJ l ps l.length).isEmpty:=by
   rcases hu with ⟨rfl,rfl⟩ | ⟨n,qq,p,rfl,rfl,_⟩
   ·rw [List.head?_eq_none_iff.mp e.symm]
    rfl
   ·cases h:yJ l ps l.length with
    | nil=>rw [h] at e; cases e
    | cons a b=>rfl
  rw [e2]
  exact k H' s'
structure Jx (K:PySem.W.Frag) (mg:Str -> Option Value) (C:Addr):Prop where
 xi:XI K C
 ini:PySem.W.findIn K (.ref C) "__init__" = some (some (.builtin "ValueError.__init__"))
 g:mg "TooFar" = some (.ref C)
def dG (u:Nat × Nat):L3.D:=.tup [.int (u.1:Nat),.int (u.2:Nat),.bl true]
theorem Vq (u:Nat × Nat):vC (dG u):=by simp only [dG,vC,yR,and_self]
theorem X7 (us:List (Nat × Nat)):yR (us.map dG):=vY fun d h=>by obtain ⟨r,_,rfl⟩:=List.mem_map.mp h; exact Vq r
theorem Qq {H:Hp} {n q:Nat}:Iss K H [.int (n:Nat),.int (q:Nat),.bl true] [.int (n:Nat),.int (q:Nat),.bl true]:=by
 simp only [Iss,Is]
 exact ⟨_,_,rfl,rfl,_,_,rfl,rfl,_,_,rfl,rfl,rfl⟩
structure Rd (ps:List zK) (l:List Nat) (J:Nat):Prop where
 live:Uf ps l J
 len:∀ j,j <= J -> (wAt ps l j).length <= 1000
 most:J <= 10000
def wc (K:PySem.W.Frag) (CF:Addr):Sp:=fun vs H Q E=>∃ (a:Addr) (l:List Nat) (ps:List zK) (m:Int) (J:Nat),vs = [.ref a,.str (tx l),.int m] /\ LsA K H a (ps.map dR) /\ NeL ps /\ ps.length <= 100 /\ (∀ p ∈ ps,p.1.length <= 1000 /\ p.2.length <= 1000) /\ Rd ps l J /\
 ((zF (wAt ps l J) ps = none /\ (J:Int) <= m /\ ∀ (p S:Addr) (H':Hp),Same H H' -> H' p = some (.tup [.ref S,.str (tx (wAt ps l J))]) -> LsA K H' S ((sAt ps l J).map dG) -> H S = none -> Q (.ref p) H') \/
  (zF (wAt ps l J) ps ≠ none /\ (J:Int) = m /\ ∀ H',Same H H' -> E (.ref CF) none H'))
theorem ZZ {a:Addr} {ps:List zK} {σ:L2.St} {H:Hp} {Q:VK} {D:Addr} (hA:LsA K H a (ps.map dR)) (hP:∀ p ∈ ps,p.1.length <= 1000) (hpl:ps.length <= 100) (hD:H D = none) (q:∀ H',Same H H' -> H' D = some (.lst ((ps.map fun p=>(p.1.length:Int)).map V.int)) -> Q (.ref D) H') :
  CompL K a (y8 0) vD (tCB (U5 K) (zW (tOp (V2 K) (xh 0) (tC (.int 0))) wU)) 1 [] σ H Q D:=by
 have s16:=yG
 obtain ⟨xs,hX,hI⟩:=hA
 have hxl:=hI.len
 rw [List.length_map] at hxl
 refine CompL.by (xs:=xs) (fun i acc H'=>Same H H' /\ H' D = some (.lst acc) /\ acc = ((ps.take i).map fun p=>(p.1.length:Int)).map V.int) ⟨zf hD,zd,rfl⟩ (fun i acc H' _ h=>SqL.of (h.1 _ _ hX)) ?_ ?_
 ·rintro i x acc H' hx ⟨hs,hH,rfl⟩
  have hil:=(List.getElem?_eq_some_iff.mp hx).1
  obtain ⟨r,pr,hri,rfl,hqr⟩:=hI.getR hx
  have hm:=hP r (List.mem_of_getElem? hri)
  simp only [vD]
  rfl'
  refine ⟨uc,_,xM hs hqr,_,rfl,_,⟨by rw [yS]; omega,rfl⟩,hH,by rw [List.length_map,List.length_map,List.length_take]; omega,CNx.mk hil ⟨zC hs hD,zd,?_⟩⟩
  rw [yg hri,List.map_append,List.map_append,yS]
  rfl
 ·rintro acc H' ⟨hs,hH,rfl⟩
  rw [hxl,List.take_length] at hH
  exact q H' hs hH
theorem J4 {H:Hp} {rs:List zK} {xs:List V} {i:Nat} {r:zK} (hI:Iss K H (rs.map dR) xs) (hi:rs[i]? = some r):∃ p,atI xs (i:Int) = some (.ref p) /\ SqT K H p [.str (tx r.1),.str (tx r.2)]:=by
 have hl:=hI.len
 rw [List.length_map] at hl
 have hil:=(List.getElem?_eq_some_iff.mp hi).1
 obtain ⟨v,a1,b1⟩:=jY (xs:=xs) (i:=(i:Int)) (by omega) (by omega)
 obtain ⟨r',p,h1,rfl,h3⟩:=hI.getR (j:=i) b1
 rw [hi] at h1
 cases h1
 exact ⟨p,a1,h3⟩
theorem sc_gone:zo ["rules", "word", "most", "longest", "steps", "use", "number", "place"] ["rules", "word", "most"] (zb xV):=⟨rfl,rfl,rfl,by decide +kernel,rfl,by decide +kernel,by decide +kernel⟩
theorem Vk {f CU CF:Addr} {fd:FuncData} {dV:Value} (B:Bt mg) (T:Jx K mg CF) (TU:DNU P w K mg base CU) (F:FunD K "gone" "gone" xV dV f fd) (D_first_from:Df P w K mg base CX0 2 "first_from" ["rules", "word", "start"] [] (wA K)) (D_put:Df P w K mg base (CXx P w) 3 "put" ["word", "place", "old", "new"] [] (Xm CU)):FnOk P w K mg base (CXx P w) 4 f fd ["rules", "word", "most"] (wc K CF):=by
 refine FunD.okX F sc_gone (fun vs H Q E h=>?_) (fun cdv A outer s H vs Q E hr hx h=>?_)
 ·obtain ⟨a,l,ps,m,J,rfl,_⟩:=h
  rfl
 ·obtain ⟨a,l,ps,m,J,rfl,hA,hN,hpl,hP,hR,hq⟩:=h
  refine ⟨_,(zh (zq (i:=3) sc_gone.nd rfl (Or.inl rfl) (Yb (Ur rfl) rfl B.max jX (za (xE (own:=["rule"]) (caps:=[]) (ix:=[]) (tt:=vD) (te:=(tCB (U5 K) (zW (tOp (V2 K) (xh 0) (tC (.int 0))) wU))) rfl (yy (sc:=zb xV) rfl (by decide +kernel) (by decide +kernel) (by decide +kernel) rfl (by decide +kernel) (by decide +kernel) rfl) (yx (pv 0)) (fun _ _ _ _ _ _=>zu (i:=0) (show List.Nodup [_] by decide) rfl (Or.inl rfl)) (fun _ _ _ _ _ _=>xy) (fun _ _ _ _ _ _=>(zn z7 rfl B.len PySem.boot_len (za (z9 ix_tup (pv 0) zg (fun _ _=>rfl)) zc)))) zc) (Vo zg Uy)))
   (zh (zq (i:=4) sc_gone.nd rfl (Or.inl rfl) (yX zc))
   (zh (zq (i:=5) sc_gone.nd rfl (Or.inl rfl) (cl0 D_first_from hr .nil rfl (za (pv 0) (za (pv 1) (za zg zc)))))
   (zh (wB PassesOwn.leaving (zy op_notN' (pv 5) wC (zG _))
    (zh (ya (zy op_ge' (zn z7 rfl B.len PySem.boot_len (za (pv 4) zc)) (pv 2) (zG _))
     (ze (yn hx rfl T.xi.toXC T.ini rfl T.g (za yK zc)))
     zx)
    (zh (zq (i:=6) sc_gone.nd rfl (Or.inl rfl) (z9 ix_tup (pv 5) zg (fun _ _=>rfl)))
    (zh (zq (i:=7) sc_gone.nd rfl (Or.inl rfl) (z9 ix_tup (pv 5) zg (fun _ _=>rfl)))
    (zh (zq (i:=1) sc_gone.nd rfl (Or.inl rfl) (clP hx D_put hr .nil rfl (za (pv 1) (za (pv 7) (za (z9 ix_tup (z9 ix_list (pv 0) (pv 6) (fun _ _=>rfl)) zg (fun _ _=>rfl)) (za (z9 ix_tup (z9 ix_list (pv 0) (pv 6) (fun _ _=>rfl)) zg (fun _ _=>rfl)) zc))))))
    (zh (yQ (xC PySem.F.plainAttrs_list PySem.F.slot_list_append PySem.F.type_list_append yz (pv 4) (za (vw (za (pv 6) (za (pv 7) (za wx zc)))) zc)))
    (ze (zq (i:=5) sc_gone.nd rfl (Or.inl rfl) (cl0 D_first_from hr .nil rfl (za (pv 0) (za (pv 1) (za (zn (Uz rfl) rfl B.max jX (za zg (za (zw op_add (zw jr (pv 7) (pv 3)) zg) zc))) zc))))))))))))
   (ze (zr (vw (za (pv 4) (za (pv 1) zc))))))))),?_⟩
  have s16:=yG
  have s16:=yG
  refine zk (fun σ H'=>Same H H' /\ ∃ M:Int,(∀ p ∈ ps,(p.1.length:Int) <= M) /\ σ = [some (.ref a),some (.str (tx l)),some (.int m),some (.int M),none,none,none,none]) ?_ ?_
  ·rfl'
   simp only [Js]
   rfl'
   obtain ⟨xs,hX,hI⟩:=id hA
   exact ⟨⟨_,SqL.of hX⟩,fun D hD=>ZZ hA (fun p hp=>(hP p hp).1) hpl hD fun H' s' hH=>⟨D,_,0,rfl,rfl,SqL.of hH,fun z _ hz=>⟨s',z,fun p hp=>hz _ (List.mem_map.mpr ⟨p,hp,rfl⟩),rfl⟩⟩⟩
  rintro σ H1 ⟨s1,M,hM,rfl⟩
  refine zk (fun σ H'=>Same H H' /\ ∃ S:Addr,H S = none /\ H' S = some (.lst []) /\ σ = [some (.ref a),some (.str (tx l)),some (.int m),some (.int M),some (.ref S),none,none,none]) ?_ ?_
  ·rfl'
   exact ⟨by omega,fun p hp=>⟨s1.trans (zf hp),p,s1.free hp,zd,rfl⟩⟩
  rintro σ H2 ⟨s2,S,hSn,hS,rfl⟩
  refine zk (fun σ H'=>Same H H' /\ H' S = some (.lst []) /\ ∃ uv:V,UseAt H' (zF l ps) uv /\ σ = [some (.ref a),some (.str (tx l)),some (.int m),some (.int M),some (.ref S),some (uv),none,none]) ?_ ?_
  ·rfl'
   exact uq (st:=0) rfl (hA.same s2) hN (fun p hp=>(hP p hp).1) (by have:=hR.len 0 (Nat.zero_le _); exact Nat.le_trans this (by decide)) fun r v H' s' hu hF=>⟨s2.trans s',s' _ _ hS,(by rw [vK hF] at hu; exact hu)⟩
  rintro σ H3 ⟨s3,hS3,uv,hu,rfl⟩
  refine zk (fun σ H'=>Same H H' /\ zF (wAt ps l J) ps = none /\ LsA K H' S ((sAt ps l J).map dG) /\ ∃ v5 v6 v7,σ = [some (.ref a),some (.str (tx (wAt ps l J))),some (.int m),some (.int M),some (.ref S),v5,v6,v7]) ?_ ?_
  ·unfold uK
   refine ⟨fun k σ H'=>∃ (j:Nat) (uv:V) (v6 v7:Option V),k = J - j /\ j <= J /\ Same H H' /\ LsA K H' S ((sAt ps l j).map dG) /\ UseAt H' (zF (wAt ps l j) ps) uv /\ σ = [some (.ref a),some (.str (tx (wAt ps l j))),some (.int m),some (.int M),some (.ref S),some (uv),v6,v7],⟨_,0,uv,none,none,rfl,Nat.zero_le _,s3,⟨[],hS3,by simp only [sAt,List.range_zero,List.map_nil,Iss]⟩,hu,rfl⟩,?_⟩
   rintro k σ H' ⟨j,uv,v6,v7,rfl,hj,hs,hL,hu,rfl⟩
   have hlj:=hR.len j hj
   have hRm:=hR.most
   obtain ⟨xs,hX,hI⟩:=id hA
   rfl'
   refine yL (fun hne=>?_) fun hne=>?_
   ·rcases hu with ⟨_,h⟩ | ⟨n,q0,p,hf,rfl,hp⟩
    ·exact absurd h hne
    have hF:=XU (wAt ps l j) ps hN
    rw [hf] at hF
    have hjJ:j < J \/ (j = J /\ (J:Int) = m /\ ∀ H',Same H H' -> E (.ref CF) none H'):=by
     by_cases e:j = J
     ·subst e
      rcases hq with ⟨h,_⟩ | ⟨_,h1,h2⟩
      ·rw [hf] at h
       cases h
      ·exact .inr ⟨rfl,h1,h2⟩
     ·exact .inl (by omega)
    have hJm:(J:Int) <= m:=by
     rcases hq with ⟨_,h,_⟩ | ⟨_,h,_⟩ <;> omega
    obtain ⟨rl,hrl,hst⟩:∃ rl,ps[n]? = some rl /\ zz (wAt ps l j) (q0:Int) rl.1 = true:=by
     rcases hF with ⟨h,_⟩ | ⟨n0,q1,e,_,_,_,a4,_⟩
     ·cases h
     ·cases e
      exact (xX a4).2
    have hlp:=hP rl (List.mem_of_getElem? hrl)
    have hw:=xQ hf
    obtain ⟨pr,hai,hqr⟩:=J4 hI hrl
    refine ⟨fun σ' H''=>∃ (uv:V) (v6 v7:Option V),j < J /\ Same H H'' /\ LsA K H'' S ((sAt ps l (j + 1)).map dG) /\ UseAt H'' (zF (wAt ps l (j + 1)) ps) uv /\ σ' = [some (.ref a),some (.str (tx (wAt ps l (j + 1)))),some (.int m),some (.int M),some (.ref S),some (uv),v6,v7],fun σ' H'' ⟨uv,v6,v7,a0,a1,a2,a3,a4⟩=>⟨J - (j + 1),by omega,j + 1,rfl,by omega,a1,a2,uv,a3,v6,v7,a4⟩,?_⟩
    obtain ⟨ys,hY,hJ2⟩:=id hL
    have hyl:=hJ2.len
    rw [List.length_map,WP] at hyl
    refine zk (fun σ' H''=>H'' = H' /\ j < J /\ σ' = [some (.ref a),some (.str (tx (wAt ps l j))),some (.int m),some (.int M),some (.ref S),some (.ref p),v6,v7]) ?_ ?_
    ·rfl'
     refine ⟨_,.inl ⟨_,SqL.of hY,rfl⟩,yL (fun hge=>?_) fun hge=>?_⟩
     ·rcases hjJ with h | ⟨_,_,h⟩
      ·omega
      ·exact ⟨by omega,h _ hs⟩
     ·rcases hjJ with h | ⟨e,h,_⟩
      ·exact h
      ·omega
    rintro σ' G1 ⟨rfl,hlt,rfl⟩
    refine zk (fun σ' H''=>H'' = G1 /\ σ' = [some (.ref a),some (.str (tx (wAt ps l j))),some (.int m),some (.int M),some (.ref S),some (.ref p),some (.int (n:Nat)),v7]) ?_ ?_
    ·rfl'
     exact ⟨_,SqT.of hp,rfl⟩
    rintro σ' G2 ⟨rfl,rfl⟩
    refine zk (fun σ' H''=>H'' = G2 /\ σ' = [some (.ref a),some (.str (tx (wAt ps l j))),some (.int m),some (.int M),some (.ref S),some (.ref p),some (.int (n:Nat)),some (.int (q0:Nat))]) ?_ ?_
    ·rfl'
     exact ⟨_,SqT.of hp,rfl⟩
    rintro σ' G3 ⟨rfl,rfl⟩
    refine zk (fun σ' H''=>H'' = G3 /\ σ' = [some (.ref a),some (.str (tx (wAt ps l (j + 1)))),some (.int m),some (.int M),some (.ref S),some (.ref p),some (.int (n:Nat)),some (.int (q0:Nat))]) ?_ ?_
    ·rfl'
     have hq2:=xM hs hqr
     exact ⟨_,SqL.of (hs _ _ hX),_,hai,_,rfl,_,hq2,_,rfl,_,SqL.of (hs _ _ hX),_,hai,_,rfl,_,hq2,_,rfl,wAt ps l j,rl.1,rl.2,(q0:Nat),rfl,hlj,hlp.1,hlp.2,fun _=>⟨rfl,by rw [hw]; unfold Zn; rw [vR hrl]⟩,fun h=>by rw [hst] at h; cases h⟩
    rintro σ' G4 ⟨rfl,rfl⟩
    refine zk (fun σ' H''=>Same H H'' /\ LsA K H'' S ((sAt ps l (j + 1)).map dG) /\ σ' = [some (.ref a),some (.str (tx (wAt ps l (j + 1)))),some (.int m),some (.int M),some (.ref S),some (.ref p),some (.int (n:Nat)),some (.int (q0:Nat))]) ?_ ?_
    ·rfl'
     refine ⟨.inl ⟨_,SqL.of hY⟩,by omega,fun t ht=>⟨_,zf ht _ _ hY,by omega,zC (hs.trans (zf ht)) hSn,?_⟩⟩
     rw [X4,hf,List.map_append]
     exact LsA.pushT hY hJ2 ht Qq (X7 _) (by simp only [yR,vC,and_self])
    rintro σ' G5 ⟨s5,hL5,rfl⟩
    have hl1:=hR.len (j + 1) hlt
    have hM0:=hM rl (List.mem_of_getElem? hrl)
    rfl'
    refine uq (st:=(if (q0:Int) - M + 1 > 0 then (q0:Int) - M + 1 else 0).toNat) (by split <;> omega) (hA.same s5) hN (fun p hp=>(hP p hp).1) (Nat.le_trans hl1 (by decide)) fun r v H' s' hu hF2=>⟨hlt,s5.trans s',hL5.same s',?_⟩
    have hb:=kS (M:=M.toNat) (lo:=(if (q0:Int) - M + 1 > 0 then (q0:Int) - M + 1 else 0).toNat) hF hN (fun p hp=>by have:=hM p hp; omega) (by split <;> omega)
    rw [<- hw] at hb
    rw [vK (hb.window (Nat.zero_le _) hF2)] at hu
    exact hu
   ·have hv:uv = .non:=Decidable.not_not.mp hne
    have hf:zF (wAt ps l j) ps = none:=by
     rcases hu with ⟨h,_⟩ | ⟨_,_,_,_,h,_⟩
     ·exact h
     ·rw [hv] at h
      cases h
    have e:j = J:=by
     rcases Nat.lt_or_ge j J with h | h
     ·exact absurd hf (hR.live j h)
     ·omega
    subst e
    exact ⟨hs,hf,hL,rfl⟩
  rintro σ H4 ⟨s4,hF,hL,v5,v6,v7,rfl⟩
  rfl'
  rcases hq with ⟨_,_,hq⟩ | ⟨h,_⟩
  ·exact ⟨by omega,fun p hp=>hq p S _ (s4.trans (zf hp)) zd (hL.same (zf hp)) hSn⟩
  ·exact absurd hF h
def jy (K:PySem.W.Frag) (CH CF:Addr):Sp:=fun vs H Q E=>∃ (y o q:Addr) (l:List Nat) (ps:List zK) (m:Int) (J:Nat),vs = [.ref y,.str (tx l),.int m] /\ SysAt K CH H y o q ps /\ NeL ps /\ ps.length <= 100 /\ (∀ p ∈ ps,p.1.length <= 1000 /\ p.2.length <= 1000) /\ Rd ps l J /\
 ((zF (wAt ps l J) ps = none /\ (J:Int) <= m /\ ∀ (S:Addr) (H':Hp),Same H H' -> LsA K H' S ((sAt ps l J).map dG) -> H S = none -> Q (.ref S) H') \/
  (zF (wAt ps l J) ps ≠ none /\ (J:Int) = m /\ ∀ H',Same H H' -> E (.ref CF) none H'))
theorem uA:zo ["self", "word", "most"] ["self", "word", "most"] (zb zP):=⟨rfl,rfl,rfl,by decide +kernel,rfl,by decide +kernel,by decide +kernel⟩
theorem uz {f CF CH:Addr} {fd:FuncData} {dV:Value} {dt_gone:Tok} (B:Bt mg) (TS:Xo K mg CH) (F:FunD K "road" "System.road" zP dV f fd) (D_gone:Df P w K mg base (CXx P w) 4 "gone" ["rules", "word", "most"] [] (wc K CF)) (DD_gone:Df P w K mg base (CXx P w) 4 "gone" ["rules", "word", "most"] [.int 4000 dt_gone] (wc K CF)):FnOk P w K mg base (CXx P w) 5 f fd ["self", "word", "most"] (jy K CH CF):=by
 refine FunD.okX F uA (fun vs H Q E h=>?_) (fun cdv A outer s H vs Q E hr hx h=>?_)
 ·obtain ⟨y,o,q,l,ps,m,J,rfl,_⟩:=h
  rfl
 ·obtain ⟨y,o,q,l,ps,m,J,rfl,hy,hN,hpl,hP,hR,hq⟩:=h
  refine ⟨_,(ze (zr (z9 ix_tup (clP hx D_gone hr .nil rfl (za (yI (pv 0) rfl) (za (pv 1) (za (pv 2) zc)))) zg (fun _ _=>rfl)))),?_⟩
  have s16:=yG
  rfl'
  obtain ⟨dx,xs,h1,h2,h3⟩:=id hy
  refine ⟨_,_,_,h1,TS.cl,TS.nr,_,rfl,_,l,ps,m,J,rfl,⟨xs,h2,h3⟩,hN,hpl,hP,hR,?_⟩
  rcases hq with ⟨a1,a2,a3⟩ | h
  ·exact .inl ⟨a1,a2,fun p S H' s' hp hL hS=>⟨_,rfl,_,SqT.of hp,_,rfl,a3 S H' s' hL hS⟩⟩
  ·exact .inr h
def vM (K:PySem.W.Frag) (CH:Addr):Sp:=fun vs H Q E=>∃ (y o q:Addr) (l:List Nat) (ps:List zK) (J:Nat),vs = [.ref y,.str (tx l)] /\ SysAt K CH H y o q ps /\ NeL ps /\ ps.length <= 100 /\ (∀ p ∈ ps,p.1.length <= 1000 /\ p.2.length <= 1000) /\ Rd ps l J /\ zF (wAt ps l J) ps = none /\ J <= 4000 /\ ∀ (H':Hp),Same H H' -> Q (.str (tx (wAt ps l J))) H'
theorem wE:zo ["self", "word"] ["self", "word"] (zb zR):=⟨rfl,rfl,rfl,by decide +kernel,rfl,by decide +kernel,by decide +kernel⟩
theorem wP {f CF CH:Addr} {fd:FuncData} {dt_gone:Tok} (B:Bt mg) (TS:Xo K mg CH) (F:Fun K "shortest" "System.shortest" zR f fd) (D_gone:Df P w K mg base (CXx P w) 4 "gone" ["rules", "word", "most"] [] (wc K CF)) (DD_gone:Df P w K mg base (CXx P w) 4 "gone" ["rules", "word", "most"] [.int 4000 dt_gone] (wc K CF)):FnOk P w K mg base (CXx P w) 5 f fd ["self", "word"] (vM K CH):=by
 refine Fun.okX F wE (fun vs H Q E h=>?_) (fun cdv A outer s H vs Q E hr hx h=>?_)
 ·obtain ⟨y,o,q,l,ps,J,rfl,_⟩:=h
  rfl
 ·obtain ⟨y,o,q,l,ps,J,rfl,hy,hN,hpl,hP,hR,hf,hJ,hq⟩:=h
  refine ⟨_,(ze (zr (z9 ix_tup (clP (dvs:=[.int 4000]) hx DD_gone hr (.cons ⟨_,rfl⟩ .nil) rfl (za (yI (pv 0) rfl) (za (pv 1) zc))) zg (fun _ _=>rfl)))),?_⟩
  have s16:=yG
  rfl'
  obtain ⟨dx,xs,h1,h2,h3⟩:=id hy
  exact ⟨_,_,_,h1,TS.cl,TS.nr,_,rfl,_,l,ps,4000,J,rfl,⟨xs,h2,h3⟩,hN,hpl,hP,hR,.inl ⟨hf,by omega,fun p S H' s' hp hL hS=>⟨_,rfl,_,SqT.of hp,_,rfl,hq H' s'⟩⟩⟩
structure Vp (K:PySem.W.Frag) (mg:Str -> Option Value) (CT:Addr):Prop where
 xi:XI K CT
 ini:PySem.W.findIn K (.ref CT) "__init__" = some (some (.builtin "ValueError.__init__"))
 g:mg "TooMany" = some (.ref CT)
theorem vF {α:Type} {u v:List α} {c d:α} (h:u ++ [c] = v ++ [d]):u = v /\ c = d:=by
 have:=List.append_inj' h rfl
 exact ⟨this.1,by simpa using this.2⟩
theorem ka {α β:Type} {l:List α} {f g:α -> List β} (h:∀ x ∈ l,f x = g x):l.flatMap f = l.flatMap g:=by
 induction l with
 | nil=>rfl
 | cons a r ih=>rw [List.flatMap_cons,List.flatMap_cons,h a (by simp),ih fun x hx=>h x (by simp [hx])]
theorem Xb {u:List Nat} {c:Nat}:(u ++ [c]).tail.length = u.length:=by simp
structure Gr (l:List Nat) (M L:List (List Nat)) (P:List Nat -> Nat -> Prop):Prop where
 nd:M.Nodup
 nil:[] ∈ M
 cl:∀ u c,u ++ [c] ∈ M -> P u c /\ (u ++ [c]).tail ∈ M
 dn:∀ u c,P u c -> u ∈ M /\ c ∈ l /\ ((u ++ [c]).tail ∈ M -> u ++ [c] ∈ M \/ u ++ [c] ∈ L)
 lf:∀ w ∈ L,w ∉ M /\ ∃ u c,w = u ++ [c] /\ P u c /\ w.tail ∈ M
def VY (P:List Nat -> Nat -> Prop) (m:List Nat) (c:Nat):List Nat -> Nat -> Prop:=fun u d=>P u d \/ (u = m /\ d = c)
theorem Gr.skip {l:List Nat} {M L:List (List Nat)} {P:List Nat -> Nat -> Prop} {m:List Nat} {c:Nat} (h:Gr l M L P) (hm:m ∈ M) (hc:c ∈ l) (ht:(m ++ [c]).tail ∉ M):Gr l M L (VY P m c):=by
 refine ⟨h.nd,h.nil,fun u d hu=>⟨.inl (h.cl u d hu).1,(h.cl u d hu).2⟩,fun u d hp=>?_,fun w hw=>?_⟩
 ·rcases hp with hp | ⟨rfl,rfl⟩
  ·exact h.dn u d hp
  ·exact ⟨hm,hc,fun t=>absurd t ht⟩
 ·obtain ⟨a,u,d,e,p,t⟩:=h.lf w hw
  exact ⟨a,u,d,e,.inl p,t⟩
theorem Gr.add {l:List Nat} {M L:List (List Nat)} {P:List Nat -> Nat -> Prop} {m:List Nat} {c:Nat} (h:Gr l M L P) (hm:m ∈ M) (hc:c ∈ l) (hp:¬ P m c) (hle:∀ u d,P u d -> u.length <= m.length) (ht:(m ++ [c]).tail ∈ M):Gr l (M ++ [m ++ [c]]) L (VY P m c):=by
 have hn:m ++ [c] ∉ M:=fun e=>hp (h.cl m c e).1
 refine ⟨?_,List.mem_append_left _ h.nil,fun u d hu=>?_,fun u d hq=>?_,fun w hw=>?_⟩
 ·rw [List.nodup_append]
  refine ⟨h.nd,by simp,fun a ha b hb e=>?_⟩
  rw [List.mem_singleton.mp hb] at e
  exact hn (e ▸ ha)
 ·rcases List.mem_append.mp hu with hu | hu
  ·exact ⟨.inl (h.cl u d hu).1,List.mem_append_left _ (h.cl u d hu).2⟩
  ·obtain ⟨rfl,rfl⟩:=vF (List.mem_singleton.mp hu)
   exact ⟨.inr ⟨rfl,rfl⟩,List.mem_append_left _ ht⟩
 ·rcases hq with hq | ⟨rfl,rfl⟩
  ·obtain ⟨a,b,k⟩:=h.dn u d hq
   refine ⟨List.mem_append_left _ a,b,fun t=>?_⟩
   rcases List.mem_append.mp t with t | t
   ·exact (k t).imp (List.mem_append_left _) id
   ·have e:=congrArg List.length (List.mem_singleton.mp t)
    rw [Xb,List.length_append] at e
    have:=hle u d hq
    simp at e
    omega
  ·exact ⟨List.mem_append_left _ hm,hc,fun _=>.inl (by simp)⟩
 ·obtain ⟨a,u,d,e,p,t⟩:=h.lf w hw
  refine ⟨fun hw'=>?_,u,d,e,.inl p,List.mem_append_left _ t⟩
  rcases List.mem_append.mp hw' with h' | h'
  ·exact a h'
  ·rw [e] at h'
   obtain ⟨rfl,rfl⟩:=vF (List.mem_singleton.mp h')
   exact hp p
theorem Gr.left {l:List Nat} {M L:List (List Nat)} {P:List Nat -> Nat -> Prop} {m:List Nat} {c:Nat} (h:Gr l M L P) (hm:m ∈ M) (hc:c ∈ l) (hp:¬ P m c) (ht:(m ++ [c]).tail ∈ M):Gr l M (L ++ [m ++ [c]]) (VY P m c):=by
 have hn:m ++ [c] ∉ M:=fun e=>hp (h.cl m c e).1
 refine ⟨h.nd,h.nil,fun u d hu=>⟨.inl (h.cl u d hu).1,(h.cl u d hu).2⟩,fun u d hq=>?_,fun w hw=>?_⟩
 ·rcases hq with hq | ⟨rfl,rfl⟩
  ·obtain ⟨a,b,k⟩:=h.dn u d hq
   exact ⟨a,b,fun t=>(k t).imp id (List.mem_append_left _)⟩
  ·exact ⟨hm,hc,fun _=>.inr (by simp)⟩
 ·rcases List.mem_append.mp hw with hw | hw
  ·obtain ⟨a,u,d,e,p,t⟩:=h.lf w hw
   exact ⟨a,u,d,e,.inl p,t⟩
  ·rw [List.mem_singleton.mp hw]
   exact ⟨hn,m,c,rfl,.inr ⟨rfl,rfl⟩,ht⟩
def ch (M:List (List Nat)) (l m:List Nat):List (List Nat):=(l.filter fun c=>decide (m ++ [c] ∈ M)).map fun c=>m ++ [c]
theorem Uj {M M':List (List Nat)} {l m:List Nat} (h:∀ c ∈ l,(m ++ [c] ∈ M ↔ m ++ [c] ∈ M')):ch M l m = ch M' l m:=by
 unfold ch
 congr 1
 refine List.filter_congr fun c hc=>?_
 simp only [h c hc]
theorem YB {M:List (List Nat)} {l l' m:List Nat}:ch M (l ++ l') m = ch M l m ++ ch M l' m:=by simp [ch]
theorem Y3 {M:List (List Nat)} {m:List Nat} {c:Nat}:ch M [c] m = if m ++ [c] ∈ M then [m ++ [c]] else []:=by
 unfold ch
 by_cases h:m ++ [c] ∈ M <;> simp [h]
theorem xl {α:Type} {l:List α} {i:Nat} {c:α} (h:l[i]? = some c):l.take (i + 1) = l.take i ++ [c]:=by
 rw [List.take_add_one,h]
 rfl
structure Gw (l:List Nat) (M L:List (List Nat)) (i:Nat) (m:List Nat) (j:Nat):Prop where
 at_:M[i]? = some m
 gr:Gr l M L fun u c=>(u ∈ M.take i /\ c ∈ l) \/ (u = m /\ c ∈ l.take j)
 sq:M = [] :: ((M.take i).flatMap (ch M l) ++ ch M (l.take j) m)
 srt:∀ (a b:Nat) (u v:List Nat),a <= b -> M[a]? = some u -> M[b]? = some v -> u.length <= v.length
 mx:∀ w ∈ M,w.length <= m.length + 1
 ln:∀ (a:Nat) (w:List Nat),M[a]? = some w -> w.length <= a
 ll:L.length <= i * l.length + j
theorem vI {α:Type} {M:List α} {i:Nat} {m:α} (nd:M.Nodup) (h:M[i]? = some m):m ∉ M.take i:=fun e=>by
 obtain ⟨k,hk⟩:=List.mem_iff_getElem?.mp e
 have hki:=(List.getElem?_eq_some_iff.mp hk).1
 rw [List.length_take] at hki
 rw [List.getElem?_take] at hk
 split at hk
 ·have:=(List.getElem?_inj (i:=k) (j:=i) (by omega) nd).mp (by rw [hk,h])
  omega
 ·cases hk
theorem Gr.congr {l:List Nat} {M L:List (List Nat)} {P Q:List Nat -> Nat -> Prop} (h:Gr l M L P) (e:∀ u c,P u c ↔ Q u c):Gr l M L Q:=by
 have:P = Q:=by
  funext u c
  exact propext (e u c)
 exact this ▸ h
section
variable {l:List Nat} {M L:List (List Nat)} {i j c:Nat} {m:List Nat}
theorem Gw.np (h:Gw l M L i m j) (lnd:l.Nodup) (hc:l[j]? = some c):¬ ((m ∈ M.take i /\ c ∈ l) \/ (m = m /\ c ∈ l.take j)):=fun e=>by
 rcases e with e | e
 ·exact vI h.gr.nd h.at_ e.1
 ·exact vI lnd hc e.2
theorem Gw.pl (h:Gw l M L i m j):∀ u d,((u ∈ M.take i /\ d ∈ l) \/ (u = m /\ d ∈ l.take j)) -> u.length <= m.length:=fun u d e=>by
 rcases e with ⟨e,_⟩ | ⟨rfl,_⟩
 ·obtain ⟨k,hk⟩:=List.mem_iff_getElem?.mp e
  have hki:=(List.getElem?_eq_some_iff.mp hk).1
  rw [List.length_take] at hki
  rw [List.getElem?_take] at hk
  split at hk
  ·exact h.srt k i u m (by omega) hk h.at_
  ·cases hk
 ·exact Nat.le_refl _
theorem Gw.pe (hc:l[j]? = some c):∀ u d,VY (fun u c=>(u ∈ M.take i /\ c ∈ l) \/ (u = m /\ c ∈ l.take j)) m c u d ↔ ((u ∈ M.take i /\ d ∈ l) \/ (u = m /\ d ∈ l.take (j + 1))):=fun u d=>by
 unfold VY
 rw [xl hc,List.mem_append,List.mem_singleton]
 constructor
 ·rintro ((h | ⟨h,k⟩) | ⟨h,k⟩)
  ·exact .inl h
  ·exact .inr ⟨h,.inl k⟩
  ·exact .inr ⟨h,.inr k⟩
 ·rintro (h | ⟨h,k | k⟩)
  ·exact .inl (.inl h)
  ·exact .inl (.inr ⟨h,k⟩)
  ·exact .inr ⟨h,k⟩
theorem Gw.skip (h:Gw l M L i m j) (lnd:l.Nodup) (hc:l[j]? = some c) (ht:(m ++ [c]).tail ∉ M):Gw l M L i m (j + 1):=by
 have hn:m ++ [c] ∉ M:=fun e=>ht (h.gr.cl m c e).2
 refine ⟨h.at_,(h.gr.skip (List.mem_of_getElem? h.at_) (List.mem_of_getElem? hc) ht).congr (Gw.pe hc),?_,h.srt,h.mx,h.ln,by have:=h.ll; omega⟩
 rw [xl hc,YB,Y3,if_neg hn,List.append_nil]
 exact h.sq
theorem Gw.left (h:Gw l M L i m j) (lnd:l.Nodup) (hc:l[j]? = some c) (ht:(m ++ [c]).tail ∈ M):Gw l M (L ++ [m ++ [c]]) i m (j + 1):=by
 have hn:m ++ [c] ∉ M:=fun e=>h.np lnd hc (h.gr.cl m c e).1
 refine ⟨h.at_,(h.gr.left (List.mem_of_getElem? h.at_) (List.mem_of_getElem? hc) (h.np lnd hc) ht).congr (Gw.pe hc),?_,h.srt,h.mx,h.ln,by have:=h.ll; simp; omega⟩
 rw [xl hc,YB,Y3,if_neg hn,List.append_nil]
 exact h.sq
theorem Gw.add (h:Gw l M L i m j) (lnd:l.Nodup) (hc:l[j]? = some c) (ht:(m ++ [c]).tail ∈ M):Gw l (M ++ [m ++ [c]]) L i m (j + 1):=by
 have hi:=(List.getElem?_eq_some_iff.mp h.at_).1
 have hn:m ++ [c] ∉ M:=fun e=>h.np lnd hc (h.gr.cl m c e).1
 have et:(M ++ [m ++ [c]]).take i = M.take i:=List.take_append_of_le_length (by omega)
 have hat:(M ++ [m ++ [c]])[i]? = some m:=by rw [List.getElem?_append_left hi]; exact h.at_
 have g:=(h.gr.add (List.mem_of_getElem? h.at_) (List.mem_of_getElem? hc) (h.np lnd hc) h.pl ht).congr (Gw.pe hc)
 refine ⟨hat,by rw [et]; exact g,?_,fun a b u v hab ha hb=>?_,fun w hw=>?_,fun a w ha=>?_,by have:=h.ll; omega⟩
 ·rw [et]
  have e1:(M.take i).flatMap (ch (M ++ [m ++ [c]]) l) = (M.take i).flatMap (ch M l):=by
   refine ka fun u hu=>Uj fun d hd=>?_
   rw [List.mem_append,List.mem_singleton]
   constructor
   ·rintro (k | k)
    ·exact k
    ·obtain ⟨rfl,rfl⟩:=vF k
     exact absurd hu (vI h.gr.nd h.at_)
   ·exact .inl
  have e2:ch (M ++ [m ++ [c]]) (l.take (j + 1)) m = ch M (l.take j) m ++ [m ++ [c]]:=by
   rw [xl hc,YB,Y3,if_pos (by simp)]
   congr 1
   refine Uj fun d hd=>?_
   rw [List.mem_append,List.mem_singleton]
   constructor
   ·rintro (k | k)
    ·exact k
    ·obtain ⟨_,rfl⟩:=vF k
     exact absurd hd (vI lnd hc)
   ·exact .inl
  rw [e1,e2]
  conv=>lhs; rw [h.sq]
  simp
 ·by_cases hb':b < M.length
  ·rw [List.getElem?_append_left hb'] at hb
   rw [List.getElem?_append_left (by omega)] at ha
   exact h.srt a b u v hab ha hb
  ·have hv:v = m ++ [c]:=by
    rw [List.getElem?_append_right (by omega)] at hb
    have:=List.mem_of_getElem? hb
    exact List.mem_singleton.mp this
   rw [hv,List.length_append]
   have:=List.mem_of_getElem? ha
   rcases List.mem_append.mp this with k | k
   ·exact h.mx u k
   ·rw [List.mem_singleton.mp k,List.length_append]
    exact Nat.le_refl _
 ·rcases List.mem_append.mp hw with k | k
  ·exact h.mx w k
  ·rw [List.mem_singleton.mp k,List.length_append]
   exact Nat.le_refl _
 ·by_cases ha':a < M.length
  ·rw [List.getElem?_append_left ha'] at ha
   exact h.ln a w ha
  ·rw [List.getElem?_append_right (by omega)] at ha
   rw [List.mem_singleton.mp (List.mem_of_getElem? ha),List.length_append]
   have:=h.ln i m h.at_
   simp
   omega
structure Gb (l:List Nat) (M L:List (List Nat)) (i:Nat):Prop where
 le:i <= M.length
 gr:Gr l M L fun u c=>u ∈ M.take i /\ c ∈ l
 sq:M = [] :: (M.take i).flatMap (ch M l)
 srt:∀ (a b:Nat) (u v:List Nat),a <= b -> M[a]? = some u -> M[b]? = some v -> u.length <= v.length
 mx:∀ (m:List Nat),M[i]? = some m -> ∀ w ∈ M,w.length <= m.length + 1
 ln:∀ (a:Nat) (w:List Nat),M[a]? = some w -> w.length <= a
 ll:L.length <= i * l.length
theorem gb0:Gb l [[]] [] 0:=by
 refine ⟨by simp,⟨by simp,by simp,fun u c h=>?_,fun u c h=>by simp at h,fun w h=>by simp at h⟩,by simp,fun a b u v hab ha hb=>?_,fun m _ w hw=>?_,fun a w ha=>?_,by simp⟩
 ·have:=List.mem_singleton.mp h
  simp at this
 ·rw [List.mem_singleton.mp (List.mem_of_getElem? ha),List.mem_singleton.mp (List.mem_of_getElem? hb)]
  exact Nat.le_refl _
 ·rw [List.mem_singleton.mp hw]
  exact Nat.zero_le _
 ·rw [List.mem_singleton.mp (List.mem_of_getElem? ha)]
  exact Nat.zero_le _
theorem Gb.go (h:Gb l M L i) (hm:M[i]? = some m):Gw l M L i m 0:=by
 refine ⟨hm,h.gr.congr fun u c=>?_,?_,h.srt,h.mx m hm,h.ln,h.ll⟩
 ·simp
 ·have:ch M (l.take 0) m = []:=by simp [ch]
  rw [this,List.append_nil]
  exact h.sq
theorem Gw.back (h:Gw l M L i m l.length):Gb l M L (i + 1):=by
 have hi:=(List.getElem?_eq_some_iff.mp h.at_).1
 refine ⟨hi,h.gr.congr fun u c=>?_,?_,h.srt,fun m' hm' w hw=>?_,h.ln,by rw [Nat.succ_mul]; exact h.ll⟩
 ·rw [List.take_length,xl h.at_,List.mem_append,List.mem_singleton]
  constructor
  ·rintro (⟨a,b⟩ | ⟨a,b⟩)
   ·exact ⟨.inl a,b⟩
   ·exact ⟨.inr a,b⟩
  ·rintro ⟨a | a,b⟩
   ·exact .inl ⟨a,b⟩
   ·exact .inr ⟨a,b⟩
 ·rw [xl h.at_,List.flatMap_append,List.flatMap_singleton]
  have:=h.sq
  rw [List.take_length] at this
  exact this
 ·have:=h.srt i (i + 1) m m' (by omega) h.at_ hm'
  have:=h.mx w hw
  omega
end
structure Fam (l:List Nat) (M L:List (List Nat)):Prop where
 nil:[] ∈ M
 cl:∀ u c,u ++ [c] ∈ M -> u ∈ M /\ c ∈ l /\ (u ++ [c]).tail ∈ M
 al:∀ u c,u ∈ M -> c ∈ l -> (u ++ [c]).tail ∈ M -> u ++ [c] ∈ M \/ u ++ [c] ∈ L
 lf:∀ w ∈ L,w ∉ M /\ ∃ u c,w = u ++ [c] /\ u ∈ M /\ c ∈ l
 sq:M = [] :: M.flatMap (ch M l)
 ln:∀ w ∈ M,w.length < M.length
 nd:M.Nodup
theorem Gb.fam {l:List Nat} {M L:List (List Nat)} {i:Nat} (h:Gb l M L i) (e:M.length <= i):Fam l M L:=by
 have et:M.take i = M:=List.take_of_length_le e
 have g:=h.gr
 rw [et] at g
 refine ⟨g.nil,fun u c hu=>⟨(g.cl u c hu).1.1,(g.cl u c hu).1.2,(g.cl u c hu).2⟩,fun u c hu hc ht=>(g.dn u c ⟨hu,hc⟩).2.2 ht,fun w hw=>?_,?_,fun w hw=>?_,g.nd⟩
 ·obtain ⟨a,u,c,e,p,_⟩:=g.lf w hw
  exact ⟨a,u,c,e,p.1,p.2⟩
 ·have:=h.sq
  rw [et] at this
  exact this
 ·obtain ⟨a,ha⟩:=List.mem_iff_getElem?.mp hw
  have:=(List.getElem?_eq_some_iff.mp ha).1
  have:=h.ln a w ha
  omega
section
variable {l:List Nat} {M L:List (List Nat)}
theorem Fam.tl (h:Fam l M L) {w:List Nat} (hw:w ∈ M):w.tail ∈ M:=by
 rcases List.eq_nil_or_concat w with rfl | ⟨u,c,e⟩
 ·exact h.nil
 ·rw [List.concat_eq_append] at e
  subst e
  exact (h.cl u c hw).2.2
theorem Fam.dr (h:Fam l M L) {w:List Nat} (hw:w ∈ M):∀ n,w.drop n ∈ M
 | 0=>hw
 | n + 1=>by
  have:=h.tl (Fam.dr h hw n)
  rwa [List.tail_drop] at this
theorem Fam.pre (h:Fam l M L):∀ (n:Nat) {a b:List Nat},b.length = n -> a ++ b ∈ M -> a ∈ M
 | 0,a,b,hb,hw=>by
  rw [List.length_eq_zero_iff.mp hb,List.append_nil] at hw
  exact hw
 | n + 1,a,b,hb,hw=>by
  rcases List.eq_nil_or_concat b with rfl | ⟨b',c,e⟩
  ·simp at hb
  ·rw [List.concat_eq_append] at e
   subst e
   rw [<- List.append_assoc] at hw
   exact Fam.pre h n (by simpa using hb) (h.cl _ c hw).1
theorem Fam.inf (h:Fam l M L) {a x b:List Nat} (hw:a ++ x ++ b ∈ M):x ∈ M:=by
 have:=h.pre _ rfl hw
 have:=h.dr this a.length
 rwa [List.drop_left] at this
theorem Fam.inl (h:Fam l M L):∀ (n:Nat) {w:List Nat},w.length = n -> w ∈ M -> ∀ c ∈ w,c ∈ l
 | 0,w,hl,_,c,hc=>by rw [List.length_eq_zero_iff.mp hl] at hc; simp at hc
 | n + 1,w,hl,hw,c,hc=>by
  rcases List.eq_nil_or_concat w with rfl | ⟨u,d,e⟩
  ·simp at hl
  ·rw [List.concat_eq_append] at e
   subst e
   obtain ⟨h1,h2,_⟩:=h.cl u d hw
   rcases List.mem_append.mp hc with k | k
   ·exact Fam.inl h n (by simpa using hl) h1 c k
   ·rw [List.mem_singleton.mp k]
    exact h2
theorem Fam.key (h:Fam l M L):∀ (n:Nat) {m:List Nat} {c:Nat},m.length = n -> m ∈ M -> c ∈ l -> (∀ x ∈ L,∀ a b,m ++ [c] ≠ a ++ x ++ b) -> m ++ [c] ∈ M
 | n,m,c,hl,hm,hc,hx=>by
  have fin:(m ++ [c]).tail ∈ M -> m ++ [c] ∈ M:=fun ht=>by
   rcases h.al m c hm hc ht with k | k
   ·exact k
   ·exact absurd (by simp) (hx _ k [] [])
  cases m with
  | nil=>exact fin h.nil
  | cons d m' =>
   cases n with
   | zero=>simp at hl
   | succ n =>
    refine fin ?_
    have hm':m' ∈ M:=h.tl hm
    show m' ++ [c] ∈ M
    refine Fam.key h n (by simpa using hl) hm' hc fun x hL a b e=>hx x hL (d :: a) b ?_
    show d :: (m' ++ [c]) = d :: (a ++ x ++ b)
    rw [e]
theorem Fam.iff (h:Fam l M L) {m:List Nat} {c:Nat} (hm:m ∈ M) (hc:c ∈ l):(∀ x ∈ L,∀ a b,m ++ [c] ≠ a ++ x ++ b) ↔ m ++ [c] ∈ M:=by
 refine ⟨h.key _ rfl hm hc,fun hw x hL a b e=>?_⟩
 rw [e] at hw
 exact (h.lf x hL).1 (h.inf hw)
theorem Fam.ne (h:Fam l M L) {x:List Nat} (hL:x ∈ L):x ≠ []:=fun e=>by
 obtain ⟨_,u,c,k,_⟩:=h.lf x hL
 rw [e] at k
 simp at k
theorem Fam.some (h:Fam l M L) {a:Nat} (ha:a ∈ l):L ≠ []:=fun e=>by
 subst e
 have all:∀ k,List.replicate k a ∈ M:=fun k=>by
  induction k with
  | zero=>exact h.nil
  | succ k ih =>
   have e1:List.replicate (k + 1) a = List.replicate k a ++ [a]:=List.replicate_succ'
   have e2:(List.replicate k a ++ [a]).tail = List.replicate k a:=by rw [<- e1]; simp [List.replicate_succ]
   rw [e1]
   rcases h.al _ a ih ha (by rw [e2]; exact ih) with k | k
   ·exact k
   ·simp at k
 have:=h.ln _ (all M.length)
 simp at this
end
def yP (S:List Nat -> Bool) (l:List Nat) (ws:List (List Nat)):List (List Nat):=ws.flatMap fun w=>(l.filter fun c=>S (w ++ [c])).map fun c=>w ++ [c]
def swF (S:List Nat -> Bool) (l:List Nat) (n:Nat):Nat -> List (List Nat) -> List (List Nat) -> Option (List (List Nat))
 | 0,_,_=>none
 | f + 1,ws,lv=>if lv = [] then some ws else if n < (ws ++ lv).length then none else swF S l n f (ws ++ lv) (yP S l lv)
theorem Xy {M R:List (List Nat)} {l:List Nat} (h:R = R.flatMap (ch M l)):R = []:=by
 have no:∀ (n:Nat) (w:List Nat),w.length = n -> w ∈ R -> False:=fun n=>by
  induction n with
  | zero =>
   intro w hl hw
   rw [h] at hw
   obtain ⟨u,_,hu⟩:=List.mem_flatMap.mp hw
   obtain ⟨c,_,e⟩:=List.mem_map.mp hu
   rw [<- e] at hl
   simp at hl
  | succ n ih =>
   intro w hl hw
   rw [h] at hw
   obtain ⟨u,hu',hu⟩:=List.mem_flatMap.mp hw
   obtain ⟨c,_,e⟩:=List.mem_map.mp hu
   rw [<- e] at hl
   exact ih u (by simpa using hl) hu'
 cases R with
 | nil=>rfl
 | cons w r=>exact (no _ w rfl (by simp)).elim
theorem Z7 {S:List Nat -> Bool} {l:List Nat} {M lv:List (List Nat)} (h:∀ m ∈ lv,∀ c ∈ l,S (m ++ [c]) = decide (m ++ [c] ∈ M)):yP S l lv = lv.flatMap (ch M l):=by
 refine ka fun m hm=>?_
 unfold ch
 congr 1
 exact List.filter_congr fun c hc=>h m hm c hc
theorem ZW {l:List Nat} {M L:List (List Nat)} {S:List Nat -> Bool} (hF:Fam l M L) (hS:∀ m ∈ M,∀ c ∈ l,S (m ++ [c]) = decide (m ++ [c] ∈ M)) (n:Nat) :
  ∀ (f:Nat) (ws lv R:List (List Nat)),M = ws ++ lv ++ R -> ws ++ lv = [] :: ws.flatMap (ch M l) -> n + 2 <= f + ws.length -> ws.length <= n -> swF S l n f ws lv = if n < M.length then none else some M
 | 0,ws,lv,R,_,_,hf,hn=>by omega
 | f + 1,ws,lv,R,h1,h2,hf,hn=>by
  unfold swF
  by_cases he:lv = []
  ·subst he
   rw [if_pos rfl]
   rw [List.append_nil] at h1 h2
   have e:=hF.sq
   rw [h1,List.flatMap_append,<- List.cons_append] at e
   rw [show [] :: List.flatMap (ch (ws ++ R) l) ws = ws by rw [<- h1]; exact h2.symm] at e
   have hR:R = []:=Xy (M:=ws ++ R) (l:=l) (List.append_cancel_left e)
   rw [hR,List.append_nil] at h1
   rw [h1,if_neg (by omega)]
  ·rw [if_neg he]
   have hlen:1 <= lv.length:=by
    cases lv with
    | nil=>exact absurd rfl he
    | cons a b=>simp
   by_cases hl:n < (ws ++ lv).length
   ·rw [if_pos hl,if_pos]
    rw [h1,List.length_append]
    omega
   ·rw [if_neg hl]
    have hsub:∀ m ∈ lv,m ∈ M:=fun m hm=>by rw [h1]; simp [hm]
    rw [Z7 (M:=M) fun m hm c hc=>hS m (hsub m hm) c hc]
    refine ZW hF hS n f (ws ++ lv) (lv.flatMap (ch M l)) (R.flatMap (ch M l)) ?_ ?_ (by rw [List.length_append]; omega) (by omega)
    ·have e:=hF.sq
     conv at e=>rhs; rw [h1]
     rw [List.flatMap_append,List.flatMap_append,<- List.cons_append,<- List.cons_append] at e
     rw [show [] :: List.flatMap (ch (ws ++ lv ++ R) l) ws = ws ++ lv by rw [<- h1]; exact h2.symm] at e
     rw [<- h1] at e
     exact e
    ·rw [List.flatMap_append,<- List.cons_append,<- h2]
theorem WQ {l:List Nat} {M L:List (List Nat)} {S:List Nat -> Bool} (hF:Fam l M L) (hS:∀ m ∈ M,∀ c ∈ l,S (m ++ [c]) = decide (m ++ [c] ∈ M)) (n:Nat):swF S l n (n + 2) [] [[]] = if n < M.length then none else some M:=by
 refine ZW hF hS n (n + 2) [] [[]] (M.flatMap (ch M l)) ?_ ?_ (by simp) (by simp)
 ·exact hF.sq
 ·simp
def Sh (ps:List zK) (w:List Nat):Bool:=(yJ w ps w.length).isEmpty
theorem Zj {a o b:List Nat}:zz (a ++ o ++ b) (a.length:Int) o = true:=by
 unfold zz
 refine decide_eq_true ⟨by omega,by rw [List.length_append,List.length_append]; omega,?_⟩
 rw [Int.toNat_natCast,List.append_assoc,List.drop_left,List.take_left]
theorem ZJ {w o:List Nat} {q:Nat} (h:zz w (q:Int) o = true):∃ a b,w = a ++ o ++ b:=by
 unfold zz at h
 obtain ⟨_,_,e⟩:=of_decide_eq_true h
 rw [Int.toNat_natCast] at e
 refine ⟨w.take q,(w.drop q).drop o.length,?_⟩
 calc w = w.take q ++ w.drop q:=(List.take_append_drop q w).symm
  _ = w.take q ++ ((w.drop q).take o.length ++ (w.drop q).drop o.length):=by rw [List.take_append_drop o.length (w.drop q)]
  _ = w.take q ++ o ++ (w.drop q).drop o.length:=by rw [e,List.append_assoc]
theorem ZM {ps:List zK} {w:List Nat} (hN:NeL ps):Sh ps w = true ↔ ∀ p ∈ ps,∀ a b,w ≠ a ++ p.1 ++ b:=by
 unfold Sh
 rw [List.isEmpty_iff]
 constructor
 ·intro h p hp a b e
  obtain ⟨j,hj⟩:=List.mem_iff_getElem?.mp hp
  have hst:zz w (a.length:Int) p.1 = true:=by rw [e]; exact Zj
  have:(j,a.length) ∈ yJ w ps w.length:=usesK_mem.mpr ⟨uj (hN p hp) hst,by rw [vz hj]; exact hst⟩
  rw [h] at this
  cases this
 ·intro h
  refine List.eq_nil_iff_forall_not_mem.mpr fun u hu=>?_
  obtain ⟨_,h2⟩:=usesK_mem.mp hu
  obtain ⟨_,p,hp,hs⟩:=xX h2
  obtain ⟨a,b,e⟩:=ZJ hs
  exact h p (List.mem_of_getElem? hp) a b e
abbrev tW (ws:List (List Nat)):List V:=ws.map fun w=>V.str (tx w)
def qH (S:List Nat -> Bool) (l w:List Nat):List (List Nat):=(l.filter fun c=>S (w ++ [c])).map fun c=>w ++ [c]
theorem jx {S:List Nat -> Bool} {l:List Nat} {ws:List (List Nat)} {i:Nat} {w:List Nat} (h:ws[i]? = some w):yP S l (ws.take (i + 1)) = yP S l (ws.take i) ++ qH S l w:=by
 unfold yP
 rw [yg h,List.flatMap_append,List.flatMap_singleton]
 rfl
theorem uP {S:List Nat -> Bool} {l w:List Nat} {j c:Nat} (h:l[j]? = some c):qH S (l.take (j + 1)) w = qH S (l.take j) w ++ if S (w ++ [c]) = true then [w ++ [c]] else []:=by
 unfold qH
 rw [yg h,List.filter_append,List.map_append]
 congr 1
 by_cases e:S (w ++ [c]) = true
 ·simp [e]
 ·simp [e]
theorem jg (S:List Nat -> Bool) (l w:List Nat):(qH S l w).length <= l.length:=by
 unfold qH
 rw [List.length_map]
 exact List.length_filter_le _ _
theorem vg (S:List Nat -> Bool) (l:List Nat):∀ ws:List (List Nat),(yP S l ws).length <= ws.length * l.length
 | []=>by simp [yP]
 | w :: ws=>by
  have:=vg S l ws
  have:=jg S l w
  have e:yP S l (w :: ws) = qH S l w ++ yP S l ws:=rfl
  rw [e,List.length_append,List.length_cons,Nat.succ_mul]
  omega
theorem Y0 {S:List Nat -> Bool} {l:List Nat} {ws:List (List Nat)} {n:Nat} (h:∀ w ∈ ws,w.length <= n):∀ w ∈ yP S l ws,w.length <= n + 1:=fun w hw=>by
 obtain ⟨u,hu,hw⟩:=List.mem_flatMap.mp hw
 obtain ⟨c,_,rfl⟩:=List.mem_map.mp hw
 have:=h u hu
 simp
 exact this
def Y7 (K:PySem.W.Frag) (CO CR CW CH:Addr):Sp:=fun vs H Q _=>∃ (y o q W:Addr) (ps:List zK) (k:Nat) (l:List Nat) (ns:List Int) (ws:List (List Nat)),vs = [.ref y,.ref W] /\ SysAt K CH H y o q ps /\ OrdAt CO CR CW H o k l ns /\ l.length <= 6 /\ NeL ps /\ (∀ p ∈ ps,p.1.length <= 1000) /\ H W = some (.lst (tW ws)) /\ ws.length <= 1000 /\ (∀ w ∈ ws,w.length <= 100) /\ ∀ (D:Addr) (H':Hp),Same H H' -> H' D = some (.lst (tW (yP (Sh ps) l ws))) -> Q (.ref D) H'
theorem sc_one_letter_longer:zo ["system", "words", "longer", "word", "letter"] ["system", "words"] (zb zL):=⟨rfl,rfl,rfl,by decide +kernel,rfl,by decide +kernel,by decide +kernel⟩
theorem xU {f CO CR CW CH:Addr} {fd:FuncData} (B:Bt mg) (TO:TOrd K mg CO CR CW) (TS:Xo K mg CH) (F:Fun K "one_letter_longer" "one_letter_longer" zL f fd) (M_system_is_shortest:DM P w K mg base CX0 4 CH "is_shortest" ["self", "word"] (jA K CH)):FnOk P w K mg base CX0 5 f fd ["system", "words"] (Y7 K CO CR CW CH):=by
 refine F.ok sc_one_letter_longer (fun vs H Q E h=>?_) (fun cdv A outer s H vs Q E hr h=>?_)
 ·obtain ⟨y,o,q,W,ps,k,l,ns,ws,rfl,_⟩:=h
  rfl
 ·obtain ⟨y,o,q,W,ps,k,l,ns,ws,rfl,hy,ho,l6,hN,hP,hW,hwl,hw1,k'⟩:=h
  refine ⟨_,(zh (zq (i:=2) sc_one_letter_longer.nd rfl (Or.inl rfl) (yX zc))
   (zh (yl PassesOwn.never rfl (yx (pv 1)) (zu (i:=3) sc_one_letter_longer.nd rfl (Or.inl rfl))
    (ze (yl PassesOwn.never rfl (vx (yI (yI (pv 0) rfl) rfl)) (zu (i:=4) sc_one_letter_longer.nd rfl (Or.inl rfl))
     (ze (ya (vE (me1 M_system_is_shortest TS.cl hr (pv 0) (za (zw zM (pv 3) (pv 4)) zc)) (fun _=>rfl))
      (ze (yQ (xC PySem.F.plainAttrs_list PySem.F.slot_list_append PySem.F.type_list_append yz (pv 2) (za (zw zM (pv 3) (pv 4)) zc))))
      zx)))))
   (ze (zr (pv 2))))),?_⟩
  have s16:=yG
  refine zk (fun σ H'=>∃ D:Addr,H D = none /\ Same H H' /\ H' D = some (.lst []) /\ σ = [some (.ref y),some (.ref W),some (.ref D),none,none]) ?_ ?_
  ·rfl'
   exact ⟨by omega,fun D hD=>⟨D,hD,zf hD,zd,rfl⟩⟩
  rintro σ H1 ⟨D,hD,s1,hD1,rfl⟩
  refine zk (fun σ H'=>Same H H' /\ H' D = some (.lst (tW (yP (Sh ps) l ws))) /\ ∃ v3 v4,σ = [some (.ref y),some (.ref W),some (.ref D),v3,v4]) ?_ ?_
  ·rfl'
   refine ⟨⟨_,SqL.of (s1 _ _ hW)⟩,ForL.by (xs:=tW ws) (fun i σ H'=>Same H H' /\ H' D = some (.lst (tW (yP (Sh ps) l (ws.take i)))) /\ ∃ v3 v4,σ = [some (.ref y),some (.ref W),some (.ref D),v3,v4]) ⟨s1,hD1,_,_,rfl⟩ (fun i σ H' _ h=>SqL.of (h.1 _ _ hW)) ?_ ?_⟩
   ·rintro i x σ H' hx ⟨hs,hH,v3,v4,rfl⟩
    have hi:=(List.getElem?_eq_some_iff.mp hx).1
    rw [List.length_map] at hi
    rw [List.getElem?_map] at hx
    obtain ⟨w,hw,rfl⟩:=Option.map_eq_some_iff.mp hx
    have hwl1:=hw1 w (List.mem_of_getElem? hw)
    have hlen:=vg (Sh ps) l (ws.take i)
    have hlen2:(ws.take i).length * l.length <= 1000 * 6:=Nat.mul_le_mul (by rw [List.length_take]; omega) l6
    obtain ⟨dx,xs,h1,h2,h3⟩:=hy.same hs
    obtain ⟨C,dy,fs,hf,ho1,_,hlk⟩:=(ho.same hs).fam
    have hC:Cls K C /\ NoAttr K C "letters":=by
     rcases hf with rfl | rfl | rfl
     ·exact ⟨TO.cO,TO.lO⟩
     ·exact ⟨TO.cR,TO.lR⟩
     ·exact ⟨TO.cW,TO.lW⟩
    rfl'
    refine ⟨_,_,_,h1,TS.cl,TS.no,_,rfl,_,rfl,_,_,_,ho1,hC.1,hC.2,_,hlk,_,rfl,ForS.by (fun j σ H''=>Same H H'' /\ H'' D = some (.lst (tW (yP (Sh ps) l (ws.take i) ++ qH (Sh ps) (l.take j) w))) /\ ∃ v4,σ = [some (.ref y),some (.ref W),some (.ref D),some (.str (tx w)),v4]) ⟨hs,by rw [show qH (Sh ps) (l.take 0) w = [] from rfl,List.append_nil]; exact hH,_,rfl⟩ ?_ ?_⟩
    ·rintro j c σ H'' hc ⟨hs2,hH2,v4,rfl⟩
     obtain ⟨dx,xs,h1,h2,h3⟩:=hy.same hs2
     have hpl:=jg (Sh ps) (l.take j) w
     rw [List.length_take] at hpl
     rfl'
     refine ⟨_,_,h1,rfl,by omega,y,o,q,ps,w ++ [c],rfl,hy.same hs2,by simp only [List.length_append,List.length_cons,List.length_nil]; omega,hN,hP,fun H3 s3=>⟨_,rfl,yL (fun hb=>⟨.inl ⟨_,SqL.of (s3 _ _ hH2)⟩,by omega,_,s3 _ _ hH2,by rw [List.length_map,List.length_append]; omega,zC (hs2.trans s3) hD,?_⟩) fun hb=>⟨hs2.trans s3,?_⟩⟩⟩
     ·have hb':Sh ps (w ++ [c]) = true:=hb
      rw [zd,uP hc,if_pos hb',<- List.append_assoc]
      simp [tW]
     ·have hb':¬ Sh ps (w ++ [c]) = true:=hb
      rw [uP hc,if_neg hb',List.append_nil]
      exact s3 _ _ hH2
    ·rintro σ H'' ⟨hs2,hH2,v4,rfl⟩
     rw [List.take_length,<- jx hw] at hH2
     exact ⟨hs2,hH2,_,_,rfl⟩
   ·rintro σ H' ⟨hs,hH,v3,v4,rfl⟩
    rw [List.length_map,List.take_length] at hH
    exact ⟨hs,hH,_,_,rfl⟩
  rintro σ H2 ⟨s2,hD2,v3,v4,rfl⟩
  rfl'
  exact k' D H2 s2 hD2
def YD (K:PySem.W.Frag) (CO CR CW CM CH:Addr):Sp:=fun vs H Q E=>∃ (y o q:Addr) (ps:List zK) (k:Nat) (l:List Nat) (ns:List Int) (n:Nat),vs = [.ref y,.int (n:Nat)] /\ SysAt K CH H y o q ps /\ OrdAt CO CR CW H o k l ns /\ l.length <= 6 /\ NeL ps /\ (∀ p ∈ ps,p.1.length <= 1000) /\ n <= 50 /\ (swF (Sh ps) l n (n + 2) [] [[]] = none -> ∀ H',Same H H' -> E (.ref CM) none H') /\ ∀ ws,swF (Sh ps) l n (n + 2) [] [[]] = some ws -> ∀ (D:Addr) (H':Hp),Same H H' -> H D = none -> H' D = some (.lst (tW ws)) -> Q (.ref D) H'
theorem jz {H H':Hp} {a:Addr} (s:Same H H') (h:H' a = none):H a = none:=s.free h
def SwI (ps:List zK) (l:List Nat) (n:Nat) (R:Option (List (List Nat))) (H:Hp) (y:Addr) (f:Nat) (σ:L2.St) (H':Hp):Prop:=∃ (D E':Addr) (ws lv:List (List Nat)),Same H H' /\ H D = none /\ H' D = some (.lst (tW ws)) /\ H' E' = some (.lst (tW lv)) /\ swF (Sh ps) l n f ws lv = R /\ n + 2 <= f + ws.length /\ ws.length <= n /\ lv.length <= 301 /\ (∀ w ∈ lv,w.length <= ws.length) /\ σ = [some (.ref y),some (.int (n:Nat)),some (.ref D),some (.ref E')]
def SwE (n:Nat) (R:Option (List (List Nat))) (H:Hp) (y:Addr) (σ:L2.St) (H':Hp):Prop:=∃ (D:Addr) (ws:List (List Nat)) (v3:Option V),Same H H' /\ H D = none /\ H' D = some (.lst (tW ws)) /\ R = some ws /\ σ = [some (.ref y),some (.int (n:Nat)),some (.ref D),v3]
theorem sc_shortest_words:zo ["system", "most", "words", "level"] ["system", "most"] (zb zD):=⟨rfl,rfl,rfl,by decide +kernel,rfl,by decide +kernel,by decide +kernel⟩
theorem vj {f CO CR CW CM CH:Addr} {fd:FuncData} {dV:Value} (B:Bt mg) (TM:Vp K mg CM) (F:FunD K "shortest_words" "shortest_words" zD dV f fd) (D_one_letter_longer:Df P w K mg base CX0 5 "one_letter_longer" ["system", "words"] [] (Y7 K CO CR CW CH)):FnOk P w K mg base (CXx P w) 6 f fd ["system", "most"] (YD K CO CR CW CM CH):=by
 refine FunD.okX F sc_shortest_words (fun vs H Q E h=>?_) (fun cdv A outer s H vs Q E hr hx h=>?_)
 ·obtain ⟨y,o,q,ps,k,l,ns,n,rfl,_⟩:=h
  rfl
 ·obtain ⟨y,o,q,ps,k,l,ns,n,rfl,hy,ho,l6,hN,hP,hn,q1,q2⟩:=h
  refine ⟨_,(zh (zq (i:=2) sc_shortest_words.nd rfl (Or.inl rfl) (yX zc))
   (zh (zq (i:=3) sc_shortest_words.nd rfl (Or.inl rfl) (yX (za yK zc)))
   (zh (wB PassesOwn.leaving (zy qX (zn z7 rfl B.len PySem.boot_len (za (pv 3) zc)) zg (zG _))
    (zt (zq (i:=2) sc_shortest_words.nd rfl (Or.inl rfl) (zw zM (pv 2) (pv 3)))
    (zt (ya (zy qX (zn z7 rfl B.len PySem.boot_len (za (pv 2) zc)) (pv 1) (zG _))
     (ze (yn hx rfl TM.xi.toXC TM.ini rfl TM.g (za yK zc)))
     zx)
    (ze (zq (i:=3) sc_shortest_words.nd rfl (Or.inl rfl) (cl0 D_one_letter_longer hr .nil rfl (za (pv 0) (za (pv 3) zc))))))))
   (ze (zr (pv 2)))))),?_⟩
  have s16:=yG
  generalize hR:swF (Sh ps) l n (n + 2) [] [[]] = R at q1 q2
  refine zk (fun σ H'=>∃ D:Addr,H D = none /\ Same H H' /\ H' D = some (.lst (tW [])) /\ σ = [some (.ref y),some (.int (n:Nat)),some (.ref D),none]) ?_ ?_
  ·rfl'
   exact ⟨by omega,fun D hD=>⟨D,hD,zf hD,zd,rfl⟩⟩
  rintro σ H1 ⟨D,hD,s1,hD1,rfl⟩
  refine zk (SwI ps l n R H y (n + 2)) ?_ ?_
  ·rfl'
   exact ⟨by omega,fun E' hE=>⟨D,E',[],[[]],s1.trans (zf hE),hD,zf hE _ _ hD1,zd,hR,by simp,by simp,by simp,fun w hw=>by rw [List.mem_singleton.mp hw]; exact Nat.le_refl _,rfl⟩⟩
  rintro σ H2 hI2
  refine zk (SwE n R H y) ?_ ?_
  ·unfold uK
   refine ⟨SwI ps l n R H y,⟨n + 2,hI2⟩,?_⟩
   rintro f σ H' ⟨D,E',ws,lv,hs,hD,hDw,hEl,hF,hf,hwn,hl3,hlw,rfl⟩
   obtain ⟨f,rfl⟩:∃ f',f = f' + 1:=⟨f - 1,by omega⟩
   unfold swF at hF
   rfl'
   refine ⟨_,.inl ⟨_,SqL.of hEl,rfl⟩,yL (fun h0=>?_) fun h0=>?_⟩
   ·rw [List.length_map] at h0
    have hne:lv ≠ []:=fun e=>by rw [e] at h0; simp at h0
    rw [if_neg hne] at hF
    refine ⟨SwI ps l n R H y f,fun σ' H' h=>⟨f,by omega,h⟩,_,hDw,_,hEl,by rw [List.length_map,List.length_map]; omega,fun p hp=>⟨_,.inl ⟨_,SqL.of zd,rfl⟩,?_⟩⟩
    have ew:tW ws ++ tW lv = tW (ws ++ lv):=by simp [tW]
    have sp:=zf (o:=.lst (tW (ws ++ lv))) hp
    rw [ew,List.length_map]
    refine yL (fun h1=>⟨by omega,q1 ?_ _ (hs.trans sp)⟩) fun h1=>?_
    ·rw [if_pos (by omega)] at hF
     exact hF.symm
    ·rw [if_neg (by omega)] at hF
     have hl6:=vg (Sh ps) l lv
     have hl50:lv.length <= n:=by rw [List.length_append] at h1; omega
     have hl7:lv.length * l.length <= 50 * 6:=Nat.mul_le_mul (by omega) l6
     refine ⟨y,o,q,E',ps,k,l,ns,lv,rfl,(hy.same hs).same sp,(ho.same hs).same sp,l6,hN,hP,sp _ _ hEl,by omega,fun w hw=>by have:=hlw w hw; omega,fun E2 H3 s3 hE2=>⟨p,E2,ws ++ lv,yP (Sh ps) l lv,(hs.trans sp).trans s3,jz hs hp,s3 _ _ zd,hE2,hF,by rw [List.length_append]; omega,by omega,by omega,fun w hw=>?_,rfl⟩⟩
     have:=Y0 hlw w hw
     rw [List.length_append]
     omega
   ·rw [List.length_map] at h0
    have hne:lv = []:=List.length_eq_zero_iff.mp (by omega)
    rw [if_pos hne] at hF
    exact ⟨D,ws,_,hs,hD,hDw,hF.symm,rfl⟩
  rintro σ H3 ⟨D,ws,v3,s3,hD3,hW3,hRw,rfl⟩
  rfl'
  exact q2 ws hRw D H3 s3 hD3 hW3
def qW (K:PySem.W.Frag):List V -> Hp -> VK -> Prop:=fun xs H Q=>∃ p ys,xs = [.ref p] /\ (SqL K H p ys \/ SqT K H p ys) /\ ∀ l,H l = none -> Q (.ref l) (upd H l (.lst ys))
structure TabAt (H:Hp) (t:Addr) (rs:List Addr) (tab:List (List Int)):Prop where
 top:H t = some (.lst (rs.map V.ref))
 len:rs.length = tab.length
 row:∀ (i:Nat) (r:Addr) (x:List Int),rs[i]? = some r -> tab[i]? = some x -> H r = some (.lst (x.map V.int))
theorem TabAt.same {H H':Hp} {t:Addr} {rs:List Addr} {tab:List (List Int)} (h:TabAt H t rs tab) (e:Same H H'):TabAt H' t rs tab:=⟨e _ _ h.top,h.len,fun i r x h1 h2=>e _ _ (h.row i r x h1 h2)⟩
abbrev Uq (x:List Int):L3.D:=.lst (x.map L3.D.int)
theorem Yc {H:Hp}:∀ {rs:List Addr} {tab:List (List Int)},rs.length = tab.length -> (∀ (i:Nat) (r:Addr) (x:List Int),rs[i]? = some r -> tab[i]? = some x -> H r = some (.lst (x.map V.int))) -> Iss K H (tab.map Uq) (rs.map V.ref)
 | [],[],_,_=>by simp only [List.map_nil,Iss]
 | r :: rs,x :: tab,hl,h=>by
  simp only [List.map_cons,Iss]
  refine ⟨_,_,rfl,?_,Yc (by simpa using hl) fun i r' x' h1 h2=>h (i + 1) r' x' h1 h2⟩
  simp only [Uq,Is]
  exact ⟨r,_,rfl,SqL.of (h 0 r x rfl rfl),Iss.ints x⟩
theorem TabAt.is {H:Hp} {t:Addr} {rs:List Addr} {tab:List (List Int)} (h:TabAt H t rs tab):Is K H (.lst (tab.map Uq)) (.ref t):=by
 simp only [Is]
 exact ⟨t,_,rfl,SqL.of h.top,Yc h.len h.row⟩
theorem WS (tab:List (List Int)):vL (tab.map Uq) <= 1:=uZ fun d h=>by
 obtain ⟨r,_,rfl⟩:=List.mem_map.mp h
 simp only [Uq,dpD,Yo]
 omega
structure uo (l:List Nat) (tab:List (List Int)):Prop where
 lo:1 <= tab.length
 hi:tab.length <= 8
 wd:∀ x ∈ tab,x.length = l.length
 rm:∀ x ∈ tab,∀ n ∈ x,0 <= n /\ n < (tab.length:Int)
theorem TabAt.get {H:Hp} {t:Addr} {rs:List Addr} {tab:List (List Int)} (h:TabAt H t rs tab) {i:Int} (h0:0 <= i) (h1:i < (tab.length:Int)):∃ r x,atI (rs.map V.ref) i = some (.ref r) /\ tab[i.toNat]? = some x /\ H r = some (.lst (x.map V.int)):=by
 have hl:=h.len
 obtain ⟨v,e1,e2⟩:=jY (xs:=rs.map V.ref) h0 (by rw [List.length_map]; omega)
 rw [List.getElem?_map] at e2
 obtain ⟨r,hr,rfl⟩:=Option.map_eq_some_iff.mp e2
 have hx:tab[i.toNat]? = some (tab[i.toNat]'(by omega)):=List.getElem?_eq_getElem (by omega)
 exact ⟨r,_,e1,hx,h.row _ _ _ hr hx⟩
theorem uS {H:Hp} {t:Addr} {rs:List Addr} {tab:List (List Int)} {σ:L2.St} {Q:VK} {D:Addr} {g:TG} (hg:g = y8 0) (h:TabAt H t rs tab) (hb:tab.length <= 1000) (hD:H D = none) (q:∀ (rs':List Addr) (H':Hp),Same H H' -> TabAt H' D rs' tab -> (∀ r ∈ D :: rs',H r = none) -> D ∉ rs' -> Q (.ref D) H') :
  CompL K t g vD (tCB (qW K) (zW (xh 0) wU)) 1 [] σ H Q D:=by
 have s16:=yG
 have hl:=h.len
 subst hg
 refine CompL.by (xs:=rs.map V.ref) (fun i acc H'=>∃ rs':List Addr,acc = rs'.map V.ref /\ rs'.length = i /\ Same H H' /\ H' D = some (.lst acc) /\ (∀ r ∈ rs',H r = none /\ r ≠ D) /\ ∀ (j:Nat) (r:Addr) (x:List Int),rs'[j]? = some r -> tab[j]? = some x -> H' r = some (.lst (x.map V.int))) ⟨[],rfl,rfl,zf hD,zd,fun r h=>(nomatch h),fun j r x h=>by simp at h⟩ (fun i acc H' _ h'=>by obtain ⟨_,_,_,hs,_⟩:=h'; exact SqL.of (hs _ _ h.top)) ?_ ?_
 ·rintro i v acc H' hv ⟨rs',rfl,hi,hs,hH,hf,hr⟩
  rw [List.getElem?_map] at hv
  obtain ⟨r,hr0,rfl⟩:=Option.map_eq_some_iff.mp hv
  have hil:=(List.getElem?_eq_some_iff.mp hr0).1
  have hx:tab[i]? = some (tab[i]'(by omega)):=List.getElem?_eq_getElem (by omega)
  generalize tab[i]'(by omega) = x at hx
  have hrow:=hs _ _ (h.row i r x hr0 hx)
  simp only [vD]
  rfl'
  simp only [qW]
  rfl'
  refine ⟨uc,_,.inl (SqL.of hrow),fun p hp=>⟨zf hp _ _ hH,by rw [List.length_map]; omega,CNx.mk (by rw [List.length_map]; omega) ⟨rs' ++ [p],by rw [List.map_append]; rfl,by rw [List.length_append,hi]; rfl,zC (hs.trans (zf hp)) hD,zd,?_,?_⟩⟩⟩
  ·intro r' hr'
   rcases List.mem_append.mp hr' with h' | h'
   ·exact hf r' h'
   ·rw [List.mem_singleton.mp h']
    refine ⟨?_,fun e=>by rw [e] at hp; rw [hp] at hH; cases hH⟩
    cases e:H p with
    | none=>rfl
    | some o=>have:=hs _ _ e; rw [hp] at this; cases this
  ·intro j r' x' h1 h2
   by_cases hj:j < i
   ·rw [List.getElem?_append_left (by omega)] at h1
    have hm:=hf r' (List.mem_of_getElem? h1)
    rw [zi hm.2]
    exact zf hp _ _ (hr j r' x' h1 h2)
   ·rw [List.getElem?_append_right (by omega)] at h1
    have hj0:j = i:=by
     have:=(List.getElem?_eq_some_iff.mp h1).1
     simp at this
     omega
    subst hj0
    rw [hi,Nat.sub_self] at h1
    cases h1
    rw [hx] at h2
    cases h2
    rw [zi (fun e=>by rw [e] at hp; rw [hp] at hH; cases hH)]
    exact zd
 ·rintro acc H' ⟨rs',rfl,hi,hs,hH,hf,hr⟩
  rw [List.length_map] at hi
  exact q rs' H' hs ⟨hH,by omega,hr⟩ (fun r hr'=>by
   rcases List.mem_cons.mp hr' with rfl | h'
   ·exact hD
   ·exact (hf r h').1) fun h'=>(hf D h').2 rfl
theorem ZS {H:Hp} {t:Addr} {rs:List Addr} {tab:List (List Int)} {σ:L2.St} {Q:VK} {D:Addr} {g:TG} (hg:g = y8 0) (h:TabAt H t rs tab) (hb:tab.length <= 1000) (hD:H D = none) (q:∀ (rs':List Addr) (H':Hp),Same H H' -> TabAt H' D rs' tab -> (∀ r ∈ D :: rs',H r = none) -> Q (.ref D) H') :
  CompL K t g vD (tCB (qW K) (zW (xh 0) wU)) 1 [] σ H Q D :=
 uS hg h hb hD fun rs' H' s' t' f' _=>q rs' H' s' t' f'
structure UK (K:PySem.W.Frag) (mg:Str -> Option Value) (C:Addr):Prop where
 xi:XI K C
 ini:PySem.W.findIn K (.ref C) "__init__" = some (some (.builtin "ValueError.__init__"))
 g:mg "NoWorld" = some (.ref C)
 most:∃ t,mg "MOST_ROOMS" = some (.int 8 t)
def wu:Sp:=fun vs H Q _=>∃ (l:List Nat) (a:Addr) (rs:List Addr) (tab:List (List Int)),vs = [.str (tx l),.ref a] /\ l.length <= 6 /\ TabAt H a rs tab /\ uo l tab /\ ∀ (t:Addr) (rs':List Addr) (H':Hp),Same H H' -> TabAt H' t rs' tab -> (∀ r ∈ t :: rs',H r = none) -> Q (.ref t) H'
theorem sc_table_of:zo ["letters", "table", "row", "room"] ["letters", "table"] (zb yC):=⟨rfl,rfl,rfl,by decide +kernel,rfl,by decide +kernel,by decide +kernel⟩
theorem jR {f CQ:Addr} {fd:FuncData} (B:Bt mg) (TNw:UK K mg CQ) (F:Fun K "table_of" "table_of" yC f fd)  : FnOk P w K mg base (CXx P w) 1 f fd ["letters", "table"] wu:=by
 obtain ⟨t6,g6⟩:=TNw.most
 refine Fun.okX F sc_table_of (fun vs H Q E h=>?_) (fun cdv A outer s H vs Q E hr hx h=>?_)
 ·obtain ⟨l,a,rs,tab,rfl,_⟩:=h
  rfl
 ·obtain ⟨l,a,rs,tab,rfl,hl6,hT,hG,q⟩:=h
  refine ⟨_,(zh (ya (yU (wQ xp xp zg (zn z7 rfl B.len PySem.boot_len (za (pv 1) zc)) (wY (v:=.int 8) rfl g6 ⟨t6,rfl⟩)))
    (ze (yn hx rfl TNw.xi.toXC TNw.ini rfl TNw.g (za yK zc)))
    zx)
   (zh (yl PassesOwn.leaving rfl (yx (pv 1)) (zu (i:=2) sc_table_of.nd rfl (Or.inl rfl))
    (zt (ya (zy jW (zn z7 rfl B.len PySem.boot_len (za (pv 2) zc)) (zn z7 rfl B.len PySem.boot_len (za (pv 0) zc)) (zG _))
     (ze (yn hx rfl TNw.xi.toXC TNw.ini rfl TNw.g (za yK zc)))
     zx)
    (ze (yl PassesOwn.leaving rfl (yx (pv 2)) (zu (i:=3) sc_table_of.nd rfl (Or.inl rfl))
     (ze (ya (yU (wQ xp vS zg (pv 3) (zn z7 rfl B.len PySem.boot_len (za (pv 1) zc))))
      (ze (yn hx rfl TNw.xi.toXC TNw.ini rfl TNw.g (za yK zc)))
      zx))))))
   (ze (zr (xE (own:=["row"]) (caps:=[]) (ix:=[]) (tt:=vD) (te:=(tCB (qW K) (zW (xh 0) wU))) rfl (yy (sc:=zb yC) rfl (by decide +kernel) (by decide +kernel) (by decide +kernel) rfl (by decide +kernel) (by decide +kernel) rfl) (yx (pv 1)) (fun _ _ _ _ _ _=>zu (i:=0) (show List.Nodup [_] by decide) rfl (Or.inl rfl)) (fun _ _ _ _ _ _=>xy) (fun _ _ _ _ _ _=>(xm yH rfl B.list PySem.Pv.boot_list (za (pv 0) zc)))))))),?_⟩
  have s16:=yG
  have hlen:=hT.len
  have hlo:=hG.lo
  have hhi:=hG.hi
  refine zk (fun σ H'=>H' = H /\ σ = [some (.str (tx l)),some (.ref a),none,none]) ?_ ?_
  ·repeat (first | rfl' | simp only [xf,zE,zX,xn,xk,zB])
   exact ⟨_,.inl ⟨_,SqL.of hT.top,rfl⟩,yL (fun _=>yL (fun h=>absurd (by rw [List.length_map]; omega) h) fun _=>trivial) fun h=>absurd (by rw [List.length_map]; omega) h⟩
  rintro σ H1 ⟨rfl,rfl⟩
  refine zk (fun σ H'=>H' = H1 /\ ∃ v2 v3,σ = [some (.str (tx l)),some (.ref a),v2,v3]) ?_ ?_
  ·repeat (first | rfl' | simp only [xf,zE,zX,xn,xk,zB])
   refine ⟨⟨_,SqL.of hT.top⟩,ForL.by (xs:=rs.map V.ref) (fun i σ H'=>H' = H1 /\ ∃ v2 v3,σ = [some (.str (tx l)),some (.ref a),v2,v3]) ⟨rfl,none,none,rfl⟩ (fun i σ H' _ h=>by rw [h.1]; exact SqL.of hT.top) ?_ fun σ H' h=>h⟩
   rintro i y σ H' hy ⟨rfl,v2,v3,rfl⟩
   rw [List.getElem?_map] at hy
   obtain ⟨r,hr,rfl⟩:=Option.map_eq_some_iff.mp hy
   have hil:=(List.getElem?_eq_some_iff.mp hr).1
   have hx:tab[i]? = some (tab[i]'(by omega)):=List.getElem?_eq_getElem (by omega)
   generalize tab[i]'(by omega) = x at hx
   have hrow:=hT.row i r x hr hx
   have hmx:=List.mem_of_getElem? hx
   have hw:=hG.wd x hmx
   repeat (first | rfl' | simp only [xf,zE,zX,xn,xk,zB])
   refine ⟨_,.inl ⟨_,SqL.of hrow,rfl⟩,by omega,yL (fun h=>absurd (by rw [List.length_map]; omega) h) fun _=>⟨⟨_,SqL.of hrow⟩,ForL.by (xs:=x.map V.int) (fun i σ H''=>H'' = H' /\ ∃ v2 v3,σ = [some (.str (tx l)),some (.ref a),v2,v3]) ⟨rfl,_,_,rfl⟩ (fun i σ H'' _ h=>by rw [h.1]; exact SqL.of hrow) ?_ fun σ H' h=>h⟩⟩
   rintro j y σ H'' hy ⟨rfl,v2,v3,rfl⟩
   rw [List.getElem?_map] at hy
   obtain ⟨n,hn,rfl⟩:=Option.map_eq_some_iff.mp hy
   obtain ⟨n1,n2⟩:=hG.rm x hmx n (List.mem_of_getElem? hn)
   repeat (first | rfl' | simp only [xf,zE,zX,xn,xk,zB])
   exact yL (fun _=>⟨_,.inl ⟨_,SqL.of hT.top,rfl⟩,yL (fun h=>absurd (by rw [List.length_map]; omega) h) fun _=>trivial⟩) fun h=>absurd n1 h
  rintro σ H2 ⟨rfl,v2,v3,rfl⟩
  repeat (first | rfl' | simp only [xf,zE,zX,xn,xk,zB])
  exact ⟨⟨_,SqL.of hT.top⟩,fun D hD=>ZS rfl hT (by omega) hD fun rs' H' s' t' f'=>q D rs' H' s' t' f'⟩
structure Vz (K:PySem.W.Frag) (mg:Str -> Option Value) (CV:Addr):Prop where
 cl:Cls K CV
 g:mg "World" = some (.ref CV)
 nl:NoAttr K CV "letters"
 nt:NoAttr K CV "table"
def WorAt (CV:Addr) (H:Hp) (o:Addr) (l:List Nat) (t:Addr) (rs:List Addr) (tab:List (List Int)):Prop:=∃ dx,H o = some (.ins CV dx [("letters",.str (tx l)),("table",.ref t)]) /\ TabAt H t rs tab
theorem WorAt.same {CV:Addr} {H H':Hp} {o t:Addr} {l:List Nat} {rs:List Addr} {tab:List (List Int)} (h:WorAt CV H o l t rs tab) (e:Same H H'):WorAt CV H' o l t rs tab:=by
 obtain ⟨dx,h1,h2⟩:=h
 exact ⟨dx,e _ _ h1,h2.same e⟩
theorem TabAt.updI {H:Hp} {p C dx t:Addr} {fs gs:List (Str × V)} {rs:List Addr} {tab:List (List Int)} (hp:H p = some (.ins C dx fs)) (h:TabAt H t rs tab):TabAt (upd H p (.ins C dx gs)) t rs tab:=by
 refine ⟨?_,h.len,fun i r x h1 h2=>?_⟩
 ·rw [zi (fun e=>by have:=h.top; rw [e,hp] at this; cases this)]
  exact h.top
 ·have h3:=h.row i r x h1 h2
  rw [zi (fun e=>by rw [e,hp] at h3; cases h3)]
  exact h3
def wT (CV:Addr):Sp:=fun vs H Q _=>∃ (x dx a:Addr) (l:List Nat) (rs:List Addr) (tab:List (List Int)),vs = [.ref x,.str (tx l),.ref a] /\ wH l = true /\ TabAt H a rs tab /\ uo l tab /\ H x = some (.ins CV dx []) /\
 ∀ (t:Addr) (rs':List Addr) (H':Hp),(∀ b o,b ≠ x -> H b = some o -> H' b = some o) -> (∀ r ∈ t :: rs',H r = none) -> WorAt CV H' x l t rs' tab -> Q .non H'
theorem qb:zo ["self", "letters", "table"] ["self", "letters", "table"] (zb yo):=⟨rfl,rfl,rfl,by decide +kernel,rfl,by decide +kernel,by decide +kernel⟩
theorem uX {f C CV:Addr} {fd:FuncData} (B:Bt mg) (CLw:Vz K mg CV) (F:Fun K "__init__" "World.__init__" yo f fd) (D_letters_of:Df P w K mg base (CXx P w) 2 "letters_of" ["text"] [] (yM C)) (D_table_of:Df P w K mg base (CXx P w) 1 "table_of" ["letters", "table"] [] wu):FnOk P w K mg base (CXx P w) 4 f fd ["self", "letters", "table"] (wT CV):=by
 refine Fun.okX F qb (fun vs H Q E h=>?_) (fun cdv A outer s H vs Q E hr hx h=>?_)
 ·obtain ⟨x,dx,a,l,rs,tab,rfl,_⟩:=h
  rfl
 ·obtain ⟨x,dx,a,l,rs,tab,rfl,hg,hT,hG,hX,q⟩:=h
  refine ⟨_,(zh (uT (pv 0) (clP hx D_letters_of hr .nil rfl (za (pv 1) zc)) rfl)
   (ze (uT (pv 0) (clP hx D_table_of hr .nil rfl (za (pv 1) (za (pv 2) zc))) rfl))),?_⟩
  have s16:=yG
  have hg':=of_decide_eq_true hg
  refine zk (fun σ H'=>H' = upd H x (.ins CV dx [("letters",.str (tx l))]) /\ σ = [some (.ref x),some (.str (tx l)),some (.ref a)]) ?_ ?_
  ·repeat (first | rfl' | simp only [xf,zE,zX,xn,xk,zB])
   exact ⟨l,rfl,by omega,fun _=>⟨_,_,_,hX,CLw.cl,CLw.nl,by decide,rfl⟩,fun e=>by rw [hg] at e; cases e⟩
  rintro σ H1 ⟨rfl,rfl⟩
  repeat (first | rfl' | simp only [xf,zE,zX,xn,xk,zB])
  refine ⟨l,a,rs,tab,rfl,by omega,hT.updI hX,hG,fun t rs' H' s' t' f'=>?_⟩
  have hX2:=s' _ _ (zd (H:=H) (a:=x) (o:=.ins CV dx [("letters",.str (tx l))]))
  have fr:∀ r ∈ t :: rs',H r = none /\ r ≠ x:=fun r hr'=>by
   have h1:=f' r hr'
   have h2:r ≠ x:=fun e=>by rw [e,zd] at h1; cases h1
   rw [zi h2] at h1
   exact ⟨h1,h2⟩
  exact ⟨_,_,_,hX2,CLw.cl,CLw.nt,by show 1 < 1000; decide,q t rs' _ (fun b o hb e=>by rw [zi hb]; exact s' _ _ (by rw [zi hb]; exact e)) (fun r hr'=>(fr r hr').1) ⟨dx,zd,t'.updI hX2⟩⟩
theorem Yq {CV a:Addr} {l:List Nat} {rs:List Addr} {tab:List (List Int)} {H:Hp} {R:Addr -> Hp -> Prop} {E:XK} (hg:wH l = true) (hT:TabAt H a rs tab) (hG:uo l tab) (q:∀ (x t:Addr) (rs':List Addr) (H':Hp),Same H H' -> H x = none -> (∀ r ∈ t :: rs',H r = none) -> WorAt CV H' x l t rs' tab -> R x H') :
  ∀ x dx,H x = none -> H dx = none -> dx ≠ x -> wT CV [.ref x,.str (tx l),.ref a] (upd (upd H dx (.own x)) x (.ins CV dx [])) (fun v H2=>v = .non /\ R x H2) E:=by
 intro x dx hx hdx hne
 have sd:=zf (o:=.own x) hdx
 have hx1:(upd H dx (.own x)) x = none:=by rw [zi hne.symm]; exact hx
 have sx:=sd.trans (zf (o:=.ins CV dx []) hx1)
 refine ⟨x,dx,a,l,rs,tab,rfl,hg,hT.same sx,hG,zd,fun t rs' H' k f hc=>⟨rfl,q x t rs' H' (fun b o e=>k b o (zv e hx) (sx b o e)) hx (fun r hr=>?_) hc⟩⟩
 cases e:H r with
 | none=>rfl
 | some o=>have:=sx _ _ e; rw [f r hr] at this; cases this
def vN (CV:Addr):Sp:=fun vs H Q _=>∃ (o t:Addr) (l:List Nat) (rs:List Addr) (tab:List (List Int)),vs = [.ref o] /\ WorAt CV H o l t rs tab /\ Q (.int (tab.length:Nat)) H
theorem uF:zo ["self"] ["self"] (zb yh):=⟨rfl,rfl,rfl,by decide +kernel,rfl,by decide +kernel,by decide +kernel⟩
theorem uy {f CV:Addr} {fd:FuncData} (B:Bt mg) (CLw:Vz K mg CV) (F:Fun K "rooms" "World.rooms" yh f fd)  : FnOk P w K mg base CX0 1 f fd ["self"] (vN CV):=by
 refine F.ok uF (fun vs H Q E h=>?_) (fun cdv A outer s H vs Q E hr h=>?_)
 ·obtain ⟨o,t,l,rs,tab,rfl,_⟩:=h
  rfl
 ·obtain ⟨o,t,l,rs,tab,rfl,hW,q⟩:=h
  refine ⟨_,(ze (zr (zn z7 rfl B.len PySem.boot_len (za (yI (pv 0) rfl) zc)))),?_⟩
  have s16:=yG
  rfl'
  obtain ⟨dx,ho,hT⟩:=hW
  exact ⟨_,_,_,ho,CLw.cl,CLw.nt,_,rfl,_,.inl ⟨_,SqL.of hT.top,rfl⟩,by rw [List.length_map,hT.len]; exact q⟩
theorem YK {CV o t:Addr} {l:List Nat} {rs:List Addr} {tab:List (List Int)} {H:Hp} {Q:VK} {E:XK} (h:WorAt CV H o l t rs tab) (q:Q (.int (tab.length:Nat)) H):vN CV [.ref o] H Q E:=⟨o,t,l,rs,tab,rfl,h,q⟩
def qu (CV:Addr):Sp:=fun vs H Q _=>∃ (o t:Addr) (l:List Nat) (rs:List Addr) (tab:List (List Int)),vs = [.ref o] /\ WorAt CV H o l t rs tab /\ tab.length <= 1000 /\ ∀ (D:Addr) (rs':List Addr) (H':Hp),Same H H' -> TabAt H' D rs' tab -> (∀ r ∈ D :: rs',H r = none) -> D ∉ rs' -> Q (.ref D) H'
theorem Wr {CV o t:Addr} {l:List Nat} {rs:List Addr} {tab:List (List Int)} {H:Hp} {Q:VK} {E:XK} (h:WorAt CV H o l t rs tab) (hb:tab.length <= 1000) (q:∀ (D:Addr) (rs':List Addr) (H':Hp),Same H H' -> TabAt H' D rs' tab -> (∀ r ∈ D :: rs',H r = none) -> D ∉ rs' -> Q (.ref D) H'):qu CV [.ref o] H Q E:=⟨o,t,l,rs,tab,rfl,h,hb,q⟩
theorem we:zo ["self"] ["self"] (zb zI):=⟨rfl,rfl,rfl,by decide +kernel,rfl,by decide +kernel,by decide +kernel⟩
theorem wm {f CV:Addr} {fd:FuncData} (B:Bt mg) (CLw:Vz K mg CV) (F:Fun K "table_told" "World.table_told" zI f fd)  : FnOk P w K mg base CX0 1 f fd ["self"] (qu CV):=by
 refine F.ok we (fun vs H Q E h=>?_) (fun cdv A outer s H vs Q E hr h=>?_)
 ·obtain ⟨o,t,l,rs,tab,rfl,_⟩:=h
  rfl
 ·obtain ⟨o,t,l,rs,tab,rfl,hW,hb,q⟩:=h
  refine ⟨_,(ze (zr (xE (own:=["row"]) (caps:=[]) (ix:=[]) (tt:=vD) (te:=(tCB (qW K) (zW (xh 0) wU))) rfl (yy (sc:=zb zI) rfl (by decide +kernel) (by decide +kernel) (by decide +kernel) rfl (by decide +kernel) (by decide +kernel) rfl) (yx (yI (pv 0) rfl)) (fun _ _ _ _ _ _=>zu (i:=0) (show List.Nodup [_] by decide) rfl (Or.inl rfl)) (fun _ _ _ _ _ _=>xy) (fun _ _ _ _ _ _=>(xm yH rfl B.list PySem.Pv.boot_list (za (pv 0) zc)))))),?_⟩
  have s16:=yG
  rfl'
  obtain ⟨dx,ho,hT⟩:=hW
  exact ⟨_,_,_,ho,CLw.cl,CLw.nt,_,rfl,_,rfl,⟨_,SqL.of hT.top⟩,fun D hD=>uS rfl hT hb hD fun rs' H' s' t' f' n'=>q D rs' H' s' t' f' n'⟩
def qf (l:List Nat) (tab:List (List Int)) (r:Int) (c:Nat):Int:=(tab.getD r.toNat []).getD (l.idxOf c) 0
def kv (l:List Nat) (tab:List (List Int)) (r:Int) (w:List Nat):Int:=w.foldl (qf l tab) r
theorem Wu {l:List Nat} {tab:List (List Int)} (hG:uo l tab) {r:Int} (h0:0 <= r) (h1:r < (tab.length:Int)) {c:Nat} (hc:c ∈ l):0 <= qf l tab r c /\ qf l tab r c < (tab.length:Int):=by
 have hx:tab[r.toNat]? = some (tab[r.toNat]'(by omega)):=List.getElem?_eq_getElem (by omega)
 generalize tab[r.toNat]'(by omega) = x at hx
 have hm:=List.mem_of_getElem? hx
 have hi:=List.idxOf_lt_length_of_mem hc
 rw [<- hG.wd x hm] at hi
 have hn:x[l.idxOf c]? = some x[l.idxOf c]:=List.getElem?_eq_getElem hi
 unfold qf
 rw [List.getD_eq_getElem?_getD (l:=tab),hx,Option.getD_some,List.getD_eq_getElem?_getD,hn,Option.getD_some]
 exact hG.rm x hm _ (List.mem_of_getElem? hn)
theorem YA {l:List Nat} {tab:List (List Int)} (hG:uo l tab):∀ {w:List Nat} {r:Int},0 <= r -> r < (tab.length:Int) -> (∀ c ∈ w,c ∈ l) -> 0 <= kv l tab r w /\ kv l tab r w < (tab.length:Int)
 | [],r,h0,h1,_=>⟨h0,h1⟩
 | c :: w,r,h0,h1,hw=>by
  obtain ⟨a,b⟩:=Wu hG h0 h1 (hw c (by simp))
  exact YA hG (w:=w) a b fun x hx=>hw x (by simp [hx])
theorem YI {l:List Nat} {tab:List (List Int)} {r:Int} {w:List Nat} {i c:Nat} (h:w[i]? = some c):kv l tab r (w.take (i + 1)) = qf l tab (kv l tab r (w.take i)) c:=by
 unfold kv
 rw [yg h,List.foldl_append]
 rfl
theorem Uv {l:List Nat} {tab:List (List Int)} (hG:uo l tab) {r:Int} {x:List Int} (hx:tab[r.toNat]? = some x) {c:Nat} (hc:c ∈ l):atI (x.map V.int) ((l.idxOf c:Nat):Int) = some (.int (qf l tab r c)):=by
 have hm:=List.mem_of_getElem? hx
 have hi:=List.idxOf_lt_length_of_mem hc
 rw [<- hG.wd x hm] at hi
 have hn:x[l.idxOf c]? = some x[l.idxOf c]:=List.getElem?_eq_getElem hi
 refine xI ?_
 unfold qf
 rw [List.getElem?_map,hn,List.getD_eq_getElem?_getD (l:=tab),hx,Option.getD_some,List.getD_eq_getElem?_getD,hn]
 rfl
def qC (CV:Addr):Sp:=fun vs H Q _=>∃ (o t:Addr) (l:List Nat) (rs:List Addr) (tab:List (List Int)) (r:Int) (w:List Nat),vs = [.ref o,.int r,.str (tx w)] /\ WorAt CV H o l t rs tab /\ uo l tab /\ 0 <= r /\ r < (tab.length:Int) /\ (∀ c ∈ w,c ∈ l) /\ Q (.int (kv l tab r w)) H
theorem sc_world_led:zo ["self", "room", "word", "letter"] ["self", "room", "word"] (zb yD):=⟨rfl,rfl,rfl,by decide +kernel,rfl,by decide +kernel,by decide +kernel⟩
theorem jd {f CV:Addr} {fd:FuncData} (B:Bt mg) (CLw:Vz K mg CV) (F:Fun K "led" "World.led" yD f fd)  : FnOk P w K mg base CX0 1 f fd ["self", "room", "word"] (qC CV):=by
 refine F.ok sc_world_led (fun vs H Q E h=>?_) (fun cdv A outer s H vs Q E hr h=>?_)
 ·obtain ⟨o,t,l,rs,tab,r,w,rfl,_⟩:=h
  rfl
 ·obtain ⟨o,t,l,rs,tab,r,w,rfl,hW,hG,h0,h1,hw,q⟩:=h
  refine ⟨_,(zt (yl PassesOwn.never rfl (vx (pv 2)) (zu (i:=3) sc_world_led.nd rfl (Or.inl rfl))
    (ze (zq (i:=1) sc_world_led.nd rfl (Or.inl rfl) (z9 ix_list (z9 ix_list (yI (pv 0) rfl) (pv 1) (fun _ _=>rfl)) (xC PySem.F.plainAttrs_str PySem.F.slot_str_index PySem.F.type_str_index Z1 (yI (pv 0) rfl) (za (pv 3) zc)) (fun _ _=>rfl)))))
   (ze (zr (pv 1)))),?_⟩
  have s16:=yG
  rfl'
  obtain ⟨dx,ho,hT⟩:=hW
  refine ForS.by (fun i σ H'=>H' = H /\ ∃ v3,σ = [some (.ref o),some (.int (kv l tab r (w.take i))),some (.str (tx w)),v3]) ⟨rfl,none,rfl⟩ ?_ ?_
  ·rintro i c σ H' hc ⟨rfl,v3,rfl⟩
   have hcl:=hw c (List.mem_of_getElem? hc)
   obtain ⟨a,b⟩:=YA hG (w:=w.take i) h0 h1 fun x hx=>hw x (List.mem_of_mem_take hx)
   obtain ⟨r',x,e1,e2,e3⟩:=hT.get a b
   repeat (first | rfl' | simp only [xf,zE,zX,xn,xk,zB])
   exact ⟨_,_,_,ho,CLw.cl,CLw.nt,_,rfl,_,rfl,_,SqL.of hT.top,_,e1,_,_,_,ho,CLw.cl,CLw.nl,_,rfl,trivial,_,rfl,_,Xf hcl,_,rfl,_,SqL.of e3,by rw [YI hc]; exact Uv hG e2 hcl⟩
  ·rintro σ H' ⟨rfl,v3,rfl⟩
   rfl'
   rw [List.take_length]
   exact q
theorem We {CV o t:Addr} {l:List Nat} {rs:List Addr} {tab:List (List Int)} {r:Int} {w:List Nat} {H:Hp} {Q:VK} {E:XK} (h:WorAt CV H o l t rs tab) (hG:uo l tab) (h0:0 <= r) (h1:r < (tab.length:Int)) (hw:∀ c ∈ w,c ∈ l) (q:Q (.int (kv l tab r w)) H):qC CV [.ref o,.int r,.str (tx w)] H Q E:=⟨o,t,l,rs,tab,r,w,rfl,h,hG,h0,h1,hw,q⟩
def xg (ps:List zK) (v:List Nat):Prop:=∃ J,J <= 4000 /\ Rd ps v J /\ zF (wAt ps v J) ps = none
def Zr (ps:List zK) (v:List Nat):List Nat:=wAt ps v 4000
theorem ko {ps:List zK} {v:List Nat} {J:Nat} (h:zF (wAt ps v J) ps = none):∀ d,wAt ps v (J + d) = wAt ps v J
 | 0=>rfl
 | d + 1=>by
  show Xq ps (wAt ps v (J + d)) = _
  rw [ko h d]
  unfold Xq
  rw [h]
  rfl
theorem u0 {ps:List zK} {v:List Nat} {J:Nat} (hJ:J <= 4000) (h:zF (wAt ps v J) ps = none):Zr ps v = wAt ps v J:=by
 have:=ko h (4000 - J)
 rw [show J + (4000 - J) = 4000 by omega] at this
 exact this
def vt (ps:List zK) (l:List Nat) (ws:List (List Nat)) (w:List Nat):List Int:=l.map fun c=>((ws.idxOf (Zr ps (w ++ [c])):Nat):Int)
def wy (K:PySem.W.Frag) (CO CR CW CH:Addr):Sp:=fun vs H Q _=>∃ (y o q Wd:Addr) (ps:List zK) (k:Nat) (l:List Nat) (ns:List Int) (ws:List (List Nat)) (w:List Nat),vs = [.ref y,.ref Wd,.str (tx w)] /\ SysAt K CH H y o q ps /\ OrdAt CO CR CW H o k l ns /\ l.length <= 6 /\ NeL ps /\ ps.length <= 100 /\ (∀ p ∈ ps,p.1.length <= 1000 /\ p.2.length <= 1000) /\ H Wd = some (.lst (tW ws)) /\ w.length <= 100 /\ (∀ c ∈ l,xg ps (w ++ [c]) /\ Zr ps (w ++ [c]) ∈ ws) /\ ∀ (D:Addr) (H':Hp),Same H H' -> H D = none -> H' D = some (.lst ((vt ps l ws w).map V.int)) -> Q (.ref D) H'
theorem Yn:zo ["system", "words", "word"] ["system", "words", "word"] (zb xB):=⟨rfl,rfl,rfl,by decide +kernel,rfl,by decide +kernel,by decide +kernel⟩
theorem YU {f CO CR CW CH:Addr} {fd:FuncData} (B:Bt mg) (TO:TOrd K mg CO CR CW) (TS:Xo K mg CH) (F:Fun K "row_of" "row_of" xB f fd) (M_system_shortest:DM P w K mg base (CXx P w) 5 CH "shortest" ["self", "word"] (vM K CH)):FnOk P w K mg base CX0 6 f fd ["system", "words", "word"] (wy K CO CR CW CH):=by
 refine F.ok Yn (fun vs H Q E h=>?_) (fun cdv A outer s H vs Q E hr h=>?_)
 ·obtain ⟨y,o,q,Wd,ps,k,l,ns,ws,w,rfl,_⟩:=h
  rfl
 ·obtain ⟨y,o,q,Wd,ps,k,l,ns,ws,w,rfl,hy,ho,l6,hN,hpl,hP,hW,hwl,hE,kq⟩:=h
  refine ⟨_,(ze (zr (xE (own:=["letter"]) (caps:=["words", "system", "word"]) (ix:=[1,0,2]) (tt:=vD) (te:=(tBM K "list" (W6 K) (xh 1) (zW (uE CH "shortest" (vM K CH) [] E0 (xh 2) (zW (tOp Wf (xh 3) (xh 0)) wU)) wU))) rfl (yy (sc:=zb xB) rfl (by decide +kernel) (by decide +kernel) (by decide +kernel) rfl (by decide +kernel) (by decide +kernel) rfl) (vx (yI (yI (pv 0) rfl) rfl)) (fun _ _ _ _ _ _=>zu (i:=0) (show List.Nodup [_,_,_,_] by decide) rfl (Or.inl rfl)) (fun _ _ _ _ _ _=>xy) (fun _ _ _ _ _ _=>(xC PySem.F.plainAttrs_list PySem.F.slot_list_index PySem.F.type_list_index kO (pv 1) (za (J2 xe0 M_system_shortest TS.cl hr (pv 2) (za (zw zM (pv 3) (pv 0)) zc)) zc)))))),?_⟩
  have s16:=yG
  obtain ⟨dx,xs,h1,h2,h3⟩:=id hy
  obtain ⟨C,dy,fs,hf,ho1,_,hlk⟩:=ho.fam
  have hC:Cls K C /\ NoAttr K C "letters":=by
   rcases hf with rfl | rfl | rfl
   ·exact ⟨TO.cO,TO.lO⟩
   ·exact ⟨TO.cR,TO.lR⟩
   ·exact ⟨TO.cW,TO.lW⟩
  rfl'
  refine ⟨_,_,_,h1,TS.cl,TS.no,_,rfl,_,rfl,_,_,_,ho1,hC.1,hC.2,_,hlk,_,rfl,fun D hD=>CompS.by (fun i acc H'=>Same H H' /\ H' D = some (.lst acc) /\ acc = (vt ps (l.take i) ws w).map V.int) ⟨zf hD,zd,rfl⟩ ?_ ?_⟩
  ·rintro i c acc H' hc ⟨hs,hH,rfl⟩
   have hil:=(List.getElem?_eq_some_iff.mp hc).1
   obtain ⟨⟨J,hJ,hR,hJe⟩,hfm⟩:=hE c (List.mem_of_getElem? hc)
   obtain ⟨dx,xs,g1,g2,g3⟩:=hy.same hs
   simp only [vD]
   rfl'
   have ef:=u0 hJ hJe
   refine ⟨uc,.inl ⟨_,SqL.of (hs _ _ hW)⟩,_,_,g1,rfl,by omega,y,o,q,w ++ [c],ps,J,rfl,hy.same hs,hN,hpl,hP,hR,hJe,hJ,fun H5 s5=>⟨Wd,ws,wAt ps (w ++ [c]) J,rfl,rfl,SqL.of (s5 _ _ (hs _ _ hW)),by rw [<- ef]; exact hfm,s5 _ _ hH,by rw [List.length_map,vt,List.length_map,List.length_take]; omega,CNx.mk hil ⟨zC (hs.trans s5) hD,zd,?_⟩⟩⟩
   unfold vt
   rw [yg hc,List.map_append,List.map_append,<- ef]
   rfl
  ·rintro acc H' ⟨hs,hH,rfl⟩
   rw [List.take_length] at hH
   exact kq D H' hs hD hH
theorem QA {X:Cx} {E:XK} {k j:Nat} {C:Addr} {ps:List Str} {sp:Sp} {e:Expr} {es:List Expr} {t:TA} {pos p:Pos} {x:Str} (hx:XE X E) (D:DMk X.prog X.w X.K X.mg X.base (CXx X.prog X.w) k C ps sp) (hr:Room j X.A) (hg:Gl X x) (hm:X.mg x = some (.ref C)) (ha:PA X (e :: es) t) (hdb:(x == ("__debug__" : Str)) = false:=by decide) (he:starEach (e :: es) X.env = (false,eval e X.env) :: starEach es X.env:=by rfl)
  (hpl:(backTo pos (starEach es X.env)).any (·.1) = false:=by rfl) (hj:k + 1 <= j:=by decide):PE X (.Call (.Name x p) (e :: es) [] pos) (XD C sp [] E t):=by
 obtain ⟨f,fd,M,F,hb⟩:=D.ex
 exact Z9 M F (hr.mono hj) hg hm hb .nil (qy hx) ha hdb he hpl
theorem Yd {CO CR CW CH:Addr} {H:Hp} {y o q Wd D:Addr} {ps:List zK} {k:Nat} {l:List Nat} {ns:List Int} {ws:List (List Nat)} {σ:L2.St} {Q:VK} {g:TG} (hg:g = y8 0) (hσ:vU σ 1 [0,1] = [none,some (.ref y),some (.ref Wd)]) (hy:SysAt K CH H y o q ps) (ho:OrdAt CO CR CW H o k l ns) (l6:l.length <= 6) (hN:NeL ps) (hpl:ps.length <= 100) (hP:∀ p ∈ ps,p.1.length <= 1000 /\ p.2.length <= 1000) (hW:H Wd = some (.lst (tW ws))) (hwl:ws.length <= 100) (hwn:∀ w ∈ ws,w.length <= 100) (hE:∀ w ∈ ws,∀ c ∈ l,xg ps (w ++ [c]) /\ Zr ps (w ++ [c]) ∈ ws) (hD:H D = none)
  (q':∀ (rs:List Addr) (H':Hp),Same H H' -> TabAt H' D rs (ws.map (vt ps l ws)) -> Q (.ref D) H') :
  CompL K Wd g vD (uB (wy K CO CR CW CH) [] E0 (zW (xh 1) (zW (xh 2) (zW (xh 0) wU)))) 1 [0,1] σ H Q D:=by
 have s16:=yG
 subst hg
 refine CompL.by (xs:=tW ws) (fun i acc H'=>∃ rs:List Addr,acc = rs.map V.ref /\ rs.length = i /\ Same H H' /\ H' D = some (.lst acc) /\ (∀ r ∈ rs,r ≠ D) /\ ∀ (j:Nat) (r:Addr) (w:List Nat),rs[j]? = some r -> ws[j]? = some w -> H' r = some (.lst ((vt ps l ws w).map V.int))) ⟨[],rfl,rfl,zf hD,zd,fun r h=>(nomatch h),fun j r w h=>by simp at h⟩ (fun i acc H' _ h=>by obtain ⟨_,_,_,hs,_⟩:=h; exact SqL.of (hs _ _ hW)) ?_ ?_
 ·rintro i v acc H' hv ⟨rs,rfl,hi,hs,hH,hf,hr⟩
  rw [List.getElem?_map] at hv
  obtain ⟨w,hw0,rfl⟩:=Option.map_eq_some_iff.mp hv
  have hil:=(List.getElem?_eq_some_iff.mp hw0).1
  have hwm:=List.mem_of_getElem? hw0
  rw [hσ]
  simp only [vD]
  rfl'
  refine ⟨uc,y,o,q,Wd,ps,k,l,ns,ws,w,rfl,hy.same hs,ho.same hs,l6,hN,hpl,hP,hs _ _ hW,hwn w hwm,hE w hwm,fun p H5 s5 hp hp5=>⟨s5 _ _ hH,by rw [List.length_map]; omega,CNx.mk (by rw [List.length_map]; exact hil) ⟨rs ++ [p],by rw [List.map_append]; rfl,by rw [List.length_append,hi]; rfl,zC (hs.trans s5) hD,zd,?_,?_⟩⟩⟩
  ·intro r' hr'
   rcases List.mem_append.mp hr' with h' | h'
   ·exact hf r' h'
   ·rw [List.mem_singleton.mp h']
    exact fun e=>by rw [e,hH] at hp; cases hp
  ·intro j r' x' h1 h2
   by_cases hj:j < i
   ·rw [List.getElem?_append_left (by omega)] at h1
    rw [zi (hf r' (List.mem_of_getElem? h1))]
    exact s5 _ _ (hr j r' x' h1 h2)
   ·rw [List.getElem?_append_right (by omega)] at h1
    have hj0:j = i:=by
     have:=(List.getElem?_eq_some_iff.mp h1).1
     simp at this
     omega
    subst hj0
    rw [hi,Nat.sub_self] at h1
    cases h1
    rw [hw0] at h2
    cases h2
    rw [zi (fun e=>by rw [e,hH] at hp; cases hp)]
    exact hp5
 ·rintro acc H' ⟨rs,rfl,hi,hs,hH,hf,hr⟩
  rw [List.length_map] at hi
  refine q' rs H' hs ⟨hH,by rw [List.length_map]; exact hi,fun j r x h1 h2=>?_⟩
  rw [List.getElem?_map] at h2
  obtain ⟨w,hw,rfl⟩:=Option.map_eq_some_iff.mp h2
  exact hr j r w h1 hw
def Xh (K:PySem.W.Frag) (CO CR CW CM CH CV:Addr):Sp:=fun vs H Q E=>∃ (y o q:Addr) (ps:List zK) (k:Nat) (l:List Nat) (ns:List Int),vs = [.ref y] /\ SysAt K CH H y o q ps /\ OrdAt CO CR CW H o k l ns /\ wH l = true /\ NeL ps /\ ps.length <= 100 /\ (∀ p ∈ ps,p.1.length <= 1000 /\ p.2.length <= 1000) /\ (swF (Sh ps) l 8 10 [] [[]] = none -> ∀ H',Same H H' -> E (.ref CM) none H') /\ ∀ ws,swF (Sh ps) l 8 10 [] [[]] = some ws -> 1 <= ws.length /\ ws.length <= 8 /\ (∀ w ∈ ws,w.length <= 100) /\ (∀ w ∈ ws,∀ c ∈ l,xg ps (w ++ [c]) /\ Zr ps (w ++ [c]) ∈ ws) /\ ∀ (x t:Addr) (rs:List Addr) (H':Hp),Same H H' -> WorAt CV H' x l t rs (ws.map (vt ps l ws)) -> Q (.ref x) H'
theorem sc_world_of:zo ["system", "words"] ["system"] (zb yB):=⟨rfl,rfl,rfl,by decide +kernel,rfl,by decide +kernel,by decide +kernel⟩
theorem jH {f CO CR CW CM CH CV:Addr} {fd:FuncData} {dt_shortest_words:Tok} (B:Bt mg) (TO:TOrd K mg CO CR CW) (TS:Xo K mg CH) (CLw:Vz K mg CV) (F:Fun K "world_of" "world_of" yB f fd) (D_shortest_words:Df P w K mg base (CXx P w) 6 "shortest_words" ["system", "most"] [] (YD K CO CR CW CM CH)) (DD_shortest_words:Df P w K mg base (CXx P w) 6 "shortest_words" ["system", "most"] [.int 8 dt_shortest_words] (YD K CO CR CW CM CH)) (D_row_of:Df P w K mg base CX0 6 "row_of" ["system", "words", "word"] [] (wy K CO CR CW CH)) (M_world_init:DMk P w K mg base (CXx P w) 4 CV ["self", "letters", "table"] (wT CV)):FnOk P w K mg base (CXx P w) 7 f fd ["system"] (Xh K CO CR CW CM CH CV):=by
 refine Fun.okX F sc_world_of (fun vs H Q E h=>?_) (fun cdv A outer s H vs Q E hr hx h=>?_)
 ·obtain ⟨y,o,q,ps,k,l,ns,rfl,_⟩:=h
  rfl
 ·obtain ⟨y,o,q,ps,k,l,ns,rfl,hy,ho,hg,hN,hpl,hP,q1,q2⟩:=h
  refine ⟨_,(zh (zq (i:=1) sc_world_of.nd rfl (Or.inr rfl) (clP (dvs:=[.int 8]) hx DD_shortest_words hr (.cons ⟨_,rfl⟩ .nil) rfl (za (pv 0) zc)))
   (ze (zr (QA hx M_world_init hr rfl CLw.g (za (yI (yI (pv 0) rfl) rfl) (za (xE (own:=["word"]) (caps:=["system", "words"]) (ix:=[0,1]) (tt:=vD) (te:=(uB (wy K CO CR CW CH) [] E0 (zW (xh 1) (zW (xh 2) (zW (xh 0) wU))))) rfl (yy (sc:=zb yB) rfl (by decide +kernel) (by decide +kernel) (by decide +kernel) rfl (by decide +kernel) (by decide +kernel) rfl) (yx (pv 1)) (fun _ _ _ _ _ _=>zu (i:=0) (show List.Nodup [_,_,_] by decide) rfl (Or.inl rfl)) (fun _ _ _ _ _ _=>xy) (fun _ _ _ _ _ _=>(cl0 D_row_of hr .nil rfl (za (pv 1) (za (pv 2) (za (pv 0) zc)))))) zc)))))),?_⟩
  have s16:=yG
  obtain ⟨l1,l6,lsm,lnd⟩:=of_decide_eq_true hg
  refine zk (fun σ H'=>∃ (Wd:Addr) (ws:List (List Nat)),swF (Sh ps) l 8 10 [] [[]] = some ws /\ Same H H' /\ H' Wd = some (.lst (tW ws)) /\ σ = [some (.ref y),some (.ref Wd)]) ?_ ?_
  ·rfl'
   refine ⟨y,o,q,ps,k,l,ns,8,rfl,hy,ho,l6,hN,fun p hp=>(hP p hp).1,by decide,q1,fun ws hws D H' s' hD hW=>?_⟩
   exact ⟨D,ws,hws,s',hW,rfl⟩
  rintro σ H1 ⟨Wd,ws,hws,s1,hW,rfl⟩
  obtain ⟨w1,w8,wn,hE,q3⟩:=q2 ws hws
  obtain ⟨dx,xs,h1,h2,h3⟩:=hy.same s1
  obtain ⟨C,dy,fs,hf,ho1,_,hlk⟩:=(ho.same s1).fam
  have hC:Cls K C /\ NoAttr K C "letters":=by
   rcases hf with rfl | rfl | rfl
   ·exact ⟨TO.cO,TO.lO⟩
   ·exact ⟨TO.cR,TO.lR⟩
   ·exact ⟨TO.cW,TO.lW⟩
  have hGT:uo l (ws.map (vt ps l ws)):=by
   refine ⟨by rw [List.length_map]; omega,by rw [List.length_map]; omega,fun x hx=>?_,fun x hx n hn=>?_⟩
   ·obtain ⟨w,_,rfl⟩:=List.mem_map.mp hx
    exact List.length_map ..
   ·obtain ⟨w,hw,rfl⟩:=List.mem_map.mp hx
    obtain ⟨c,hc,rfl⟩:=List.mem_map.mp hn
    have:=List.idxOf_lt_length_of_mem (hE w hw c hc).2
    rw [List.length_map]
    omega
  rfl'
  refine ⟨_,_,_,h1,TS.cl,TS.no,_,rfl,_,rfl,_,_,_,ho1,hC.1,hC.2,_,hlk,⟨_,SqL.of hW⟩,fun D hD=>Yd rfl rfl (hy.same s1) (ho.same s1) l6 hN hpl hP hW (by omega) wn hE hD fun rs H' s' hT=>Yq hg hT hGT fun x t' rs'' H'' s'' _ _ hW'=>q3 x t' rs'' H'' (s1.trans (s'.trans s'')) hW'⟩
def zZ (ns:List Int) (k:Int):Int:=ns.getD k.toNat 0
def xo (K:PySem.W.Frag):Sp:=fun vs H Q _=>∃ a ns k,vs = [.ref a,.int k] /\ SqL K H a (ns.map V.int) /\ 0 <= k /\ Q (.int (zZ ns k)) H
theorem Zh:zo ["_law_script", "_law_k"] ["_law_script", "_law_k"] (zb xj):=⟨rfl,rfl,rfl,by decide +kernel,rfl,by decide +kernel,by decide +kernel⟩
theorem Za {f:Addr} {fd:FuncData} (B:Bt mg) (F:Fun K "_law_cell_at" "_law_cell_at" xj f fd):FnOk P w K mg base CX0 1 f fd ["_law_script", "_law_k"] (xo K):=by
 refine F.ok Zh (fun vs H Q E h=>?_) (fun cdv A outer s H vs Q E hr h=>?_)
 ·obtain ⟨a,ns,k,rfl,_⟩:=h
  rfl
 ·obtain ⟨a,ns,k,rfl,hS,hk,q⟩:=h
  refine ⟨_,(zt (ya (zy vS (pv 1) (zn z7 rfl B.len PySem.boot_len (za (pv 0) zc)) (zG _))
    (ze (zr (z9 WA (pv 0) (pv 1) (fun _ _=>rfl))))
    zx)
   (ze (zr zg))),?_⟩
  rfl'
  refine ⟨_,.inl ⟨_,hS,rfl⟩,yL (fun c=>?_) (fun c=>?_)⟩
  ·obtain ⟨v,h1,h2⟩:=jY hk c
   refine .inl ⟨_,hS,_,h1,?_⟩
   rw [List.getElem?_map] at h2
   unfold zZ at q
   rw [List.getD_eq_getElem?_getD] at q
   cases e:ns[k.toNat]? with
   | none=>rw [e] at h2; cases h2
   | some z=>rw [e] at h2 q; cases h2; exact q
  ·rw [List.length_map] at c
   unfold zZ at q
   rw [List.getD_eq_getElem?_getD,List.getElem?_eq_none (by omega)] at q
   exact q
theorem yW {a:Addr} {ns:List Int} {k:Int} {H:Hp} {Q:VK} {E:XK} (hS:SqL K H a (ns.map V.int)) (hk:0 <= k) (h:Q (.int (zZ ns k)) H):xo K [.ref a,.int k] H Q E:=⟨a,ns,k,rfl,hS,hk,h⟩
structure LS where
 left:List Nat
 num:Int
 found:List Nat
def LS.step (s:LS):LS:=⟨s.left.take (s.num % (s.left.length:Int)).toNat ++ s.left.drop ((s.num % (s.left.length:Int)).toNat + 1),s.num / 26,s.found ++ [s.left.getD (s.num % (s.left.length:Int)).toNat 0]⟩
def stL (c:Int):Nat -> LS
 | 0=>⟨jV,c * 48271 % 308915776,[]⟩
 | i + 1=>(stL c i).step
def W9 (c:Int) (m:Nat):List Nat:=(stL c m).found
theorem Xk (c:Int):∀ i:Nat,i <= 20 -> (stL c i).found.length = i /\ ((stL c i).found ++ (stL c i).left).Perm jV /\ (stL c i).left.length + i = 26
 | 0,_=>⟨rfl,.refl _,rfl⟩
 | i + 1,h=>by
  obtain ⟨h1,h2,h3⟩:=Xk c i (by omega)
  show ((stL c i).step.found.length = i + 1 /\ ((stL c i).step.found ++ (stL c i).step.left).Perm jV /\ (stL c i).step.left.length + (i + 1) = 26)
  generalize stL c i = s at *
  have b0:=Int.emod_nonneg s.num (b:=(s.left.length:Int)) (by omega)
  have b1:=Int.emod_lt_of_pos s.num (b:=(s.left.length:Int)) (by omega)
  unfold LS.step
  generalize hz:(s.num % (s.left.length:Int)).toNat = z at *
  have zl:z < s.left.length:=by omega
  have e:s.left[z]? = some (s.left.getD z 0):=by rw [List.getD_eq_getElem?_getD,List.getElem?_eq_getElem zl]; rfl
  refine ⟨by simp [h1],?_,by simp only [List.length_append,List.length_take,List.length_drop]; omega⟩
  show (s.found ++ [s.left.getD z 0] ++ (s.left.take z ++ s.left.drop (z + 1))).Perm jV
  rw [List.append_assoc]
  exact ((YC e).append_left s.found).trans h2
theorem Yr (c:Int) {m:Nat} (h:m <= 6) (h1:1 <= m):wH (W9 c m) = true /\ (W9 c m).length = m:=by
 obtain ⟨a,b,_⟩:=Xk c m (by omega)
 have hnd:((stL c m).found ++ (stL c m).left).Nodup:=b.nodup_iff.mpr (by decide)
 have ha:(W9 c m).length = m:=a
 refine ⟨decide_eq_true ⟨by omega,by omega,fun x hx=>?_,(List.nodup_append.mp hnd).1⟩,ha⟩
 have hx':x ∈ jV:=b.mem_iff.mp (List.mem_append_left _ hx)
 exact (by decide:∀ c ∈ jV,97 <= c /\ c <= 122) x hx'
def xS:Sp:=fun vs H Q _=>∃ (c:Int) (m:Nat),vs = [.int c,.int (m:Nat)] /\ m <= 6 /\ Q (.str (tx (W9 c m))) H
theorem jD {c:Int} {m:Nat} {H:Hp} {Q:VK} {E:XK} (h:m <= 6) (q:Q (.str (tx (W9 c m))) H):xS [.int c,.int (m:Nat)] H Q E:=⟨c,m,rfl,h,q⟩
theorem sc_letters:zo ["_law_cell", "_law_many", "_law_left", "_law_number", "_law_found", "_law_k", "_law_at"] ["_law_cell", "_law_many"] (zb xw):=⟨rfl,rfl,rfl,by decide +kernel,rfl,by decide +kernel,by decide +kernel⟩
theorem Zp {f:Addr} {fd:FuncData} (B:Bt mg)  (F:Fun K "_law_letters" "_law_letters" xw f fd)  : FnOk P w K mg base CX0 1 f fd ["_law_cell", "_law_many"] xS:=by
 refine F.ok sc_letters (fun vs H Q E h=>?_) (fun cdv A outer s H vs Q E hr h=>?_)
 ·obtain ⟨c,m,rfl,_⟩:=h
  rfl
 ·obtain ⟨c,m,rfl,h1,q⟩:=h
  refine ⟨_,(zt (zq (i:=2) sc_letters.nd rfl (Or.inl rfl) yK)
   (zt (zq (i:=3) sc_letters.nd rfl (Or.inl rfl) (zw yA (zw vo (pv 0) zg) zg))
   (zt (zq (i:=4) sc_letters.nd rfl (Or.inl rfl) yK)
   (zt (yl PassesOwn.never rfl (xG rfl B.range (za (pv 1) zc)) (zu (i:=5) sc_letters.nd rfl (Or.inl rfl))
    (zt (zq (i:=6) sc_letters.nd rfl (Or.inl rfl) (zw yA (pv 3) (zn z7 rfl B.len PySem.boot_len (za (pv 2) zc))))
    (zt (zq (i:=3) sc_letters.nd rfl (Or.inl rfl) (zw wv (pv 3) zg))
    (zt (zq (i:=4) sc_letters.nd rfl (Or.inl rfl) (zw zM (pv 4) (z9 WA (pv 2) (pv 6) (fun _ _=>rfl))))
    (ze (zq (i:=2) sc_letters.nd rfl (Or.inl rfl) (zw zM (yj xZ (pv 2) xb (ym (pv 6))) (yj xZ (pv 2) (ym (zw zM (pv 6) zg)) xb))))))))
   (ze (zr (pv 4))))))),?_⟩
  have s16:=yG
  rfl'
  refine ⟨.inr ⟨by decide,by decide⟩,by decide,by omega,by omega,ForR.by (fun i σ H'=>H' = H /\ ∃ (v5 v6:Option V),σ = [some (.int c),some (.int (m:Nat)),some (.str (tx (stL c i).left)),some (.int (stL c i).num),some (.str (tx (stL c i).found)),v5,v6]) ⟨rfl,none,none,by rw [Xg]; rfl⟩ ?_ ?_⟩
  ·rintro i σ H' hi ⟨rfl,v5,v6,rfl⟩
   obtain ⟨hf,hp,hl⟩:=Xk c i (by omega)
   rw [show stL c (i + 1) = (stL c i).step from rfl]
   generalize stL c i = s at *
   have hm0:=Int.emod_nonneg s.num (b:=(s.left.length:Int)) (by omega)
   have hm1:=Int.emod_lt_of_pos s.num (b:=(s.left.length:Int)) (by omega)
   obtain ⟨v,e1,e2⟩:=jY hm0 hm1
   have hc1:=wg s.left none (some (s.num % (s.left.length:Int)))
   have hc2:=wg s.left (some (s.num % (s.left.length:Int) + 1)) none
   rfl'
   refine ⟨by omega,by omega,⟨by decide,by decide⟩,by omega,v,e1,by omega,by omega,by omega,by omega,?_,rfl,?_⟩
   ·rw [qZ _ hm0,wK _ (by omega)]
    have e3:(s.num % (s.left.length:Int) + 1).toNat = (s.num % (s.left.length:Int)).toNat + 1:=by omega
    rw [e3]
    rfl
   ·show s.found ++ [v] = s.found ++ [s.left.getD _ 0]
    rw [List.getD_eq_getElem?_getD,e2]
    rfl
  ·rintro σ H' ⟨rfl,v5,v6,rfl⟩
   rfl'
   rw [Int.toNat_natCast]
   exact q
def vP (k:Int) (ls:List Nat) (ns:List Int) (w:List Nat):Int:=(w.map fun c=>if k = 2 then ns.getD (ls.idxOf c) 0 else 1).sum
def vv (k:Int) (w:List Nat):List Nat:=if k = 1 then w.reverse else w
theorem kD {k:Int} {ls:List Nat} {ns:List Int} {w:List Nat} (h:k ≠ 2):vP k ls ns w = (w.length:Int):=by
 unfold vP
 induction w with
 | nil=>rfl
 | cons c w ih =>
  rw [List.map_cons,List.sum_cons,ih,if_neg h,List.length_cons]
  omega
theorem ur {ls:List Nat} {ns:List Int} (f g:Nat -> Int):((ls.zip ns).map fun p=>(f p.1 + g p.1) * p.2).sum = ((ls.zip ns).map fun p=>f p.1 * p.2).sum + ((ls.zip ns).map fun p=>g p.1 * p.2).sum:=by
 induction ls.zip ns with
 | nil=>rfl
 | cons p r ih =>
  rw [List.map_cons,List.map_cons,List.map_cons,List.sum_cons,List.sum_cons,List.sum_cons,ih,Int.add_mul]
  omega
theorem Yu:∀ {ls:List Nat} {ns:List Int} {c:Nat},ls.Nodup -> ns.length = ls.length -> c ∈ ls -> ((ls.zip ns).map fun p=>(if p.1 = c then (1:Int) else 0) * p.2).sum = ns.getD (ls.idxOf c) 0
 | [],ns,c,_,_,hc=>(nomatch hc)
 | d :: ls,[],c,_,hl,_=>by cases hl
 | d :: ls,n :: ns,c,hn,hl,hc=>by
  rw [List.zip_cons_cons,List.map_cons,List.sum_cons]
  have hnd:=List.nodup_cons.mp hn
  by_cases h:d = c
  ·subst h
   have h0:∀ (l:List Nat) (m:List Int),d ∉ l -> ((l.zip m).map fun p=>(if p.1 = d then (1:Int) else 0) * p.2).sum = 0:=by
    intro l
    induction l with
    | nil=>intro m _; rfl
    | cons x l ih =>
     intro m hx
     cases m with
     | nil=>rfl
     | cons y m =>
      rw [List.zip_cons_cons,List.map_cons,List.sum_cons,ih m (fun q=>hx (List.mem_cons_of_mem _ q)),if_neg (show ¬ x = d from fun e=>hx (by rw [e]; exact List.mem_cons_self))]
      omega
   rw [h0 ls ns hnd.1,if_pos rfl,List.idxOf_cons_self]
   simp
  ·have hc':c ∈ ls:=by
    rcases List.mem_cons.mp hc with e | e
    ·exact absurd e.symm h
    ·exact e
   rw [Yu hnd.2 (by simpa using hl) hc',if_neg h,List.idxOf_cons,show (d == c) = false by simpa using h]
   simp
theorem ql {ls:List Nat} {ns:List Int} (hn:ls.Nodup) (hl:ns.length = ls.length):∀ {w:List Nat},(∀ x ∈ w,x ∈ ls) -> vP 2 ls ns w = XQ ls ns w
 | [],_=>by
  have h0:∀ r:List (Nat × Int),(r.map fun p=>((([]:List Nat).count p.1:Nat):Int) * p.2).sum = 0:=by
   intro r
   induction r with
   | nil=>rfl
   | cons p r ih=>rw [List.map_cons,List.sum_cons,ih]; simp
  exact (h0 _).symm
 | c :: w,h=>by
  have ih:=ql hn hl (w:=w) fun x hx=>h x (List.mem_cons_of_mem _ hx)
  have e1:vP 2 ls ns (c :: w) = ns.getD (ls.idxOf c) 0 + vP 2 ls ns w:=by
   unfold vP
   rw [List.map_cons,List.sum_cons,if_pos rfl]
  rw [e1,ih,<- Yu hn hl (h c List.mem_cons_self)]
  unfold XQ
  rw [<- ur (fun x=>if x = c then 1 else 0) (fun x=>(w.count x:Int))]
  refine congrArg List.sum (List.map_congr_left fun p _=>?_)
  rw [List.count_cons]
  by_cases e:c = p.1
  ·rw [if_pos e.symm,if_pos (by simpa using e)]
   simp [Int.add_comm]
  ·rw [if_neg (fun z=>e z.symm),if_neg (by simpa using e)]
   simp
def wF:Sp:=fun vs H Q _=>∃ (k:Int) (ls:List Nat) (a:Addr) (ns:List Int) (w:List Nat),vs = [.int k,.str (tx ls),.ref a,.str (tx w)] /\ H a = some (.lst (ns.map V.int)) /\ ls.length <= ns.length /\ ls.length <= 26 /\ w.length <= 1000 /\ (∀ x ∈ w,x ∈ ls) /\ ∀ (p q:Addr) (H':Hp),Same H H' -> H q = none -> H' p = some (.tup [.int (vP k ls ns w),.ref q]) -> H' q = some (.lst ((yV ls (vv k w)).map V.int)) -> Q (.ref p) H'
theorem sc_rank:zo ["_law_kind", "_law_letters_here", "_law_weights_here", "_law_word", "_law_total", "_law_spots", "_law_sign", "_law_at"] ["_law_kind", "_law_letters_here", "_law_weights_here", "_law_word"] (zb uO):=⟨rfl,rfl,rfl,by decide +kernel,rfl,by decide +kernel,by decide +kernel⟩
theorem VF {f:Addr} {fd:FuncData} (B:Bt mg)  (F:Fun K "_law_rank" "_law_rank" uO f fd)  : FnOk P w K mg base CX0 1 f fd ["_law_kind", "_law_letters_here", "_law_weights_here", "_law_word"] wF:=by
 refine F.ok sc_rank (fun vs H Q E h=>?_) (fun cdv A outer s H vs Q E hr h=>?_)
 ·obtain ⟨k,ls,a,ns,w,rfl,_⟩:=h
  rfl
 ·obtain ⟨k,ls,a,ns,w,rfl,ha,hl,h26,hw,hm,q⟩:=h
  refine ⟨_,(zt (zq (i:=4) sc_rank.nd rfl (Or.inl rfl) zg)
   (zt (zq (i:=5) sc_rank.nd rfl (Or.inl rfl) (yX zc))
   (zt (yl PassesOwn.never rfl (vx (pv 3)) (zu (i:=6) sc_rank.nd rfl (Or.inl rfl))
    (zt (zq (i:=7) sc_rank.nd rfl (Or.inl rfl) (xC PySem.F.plainAttrs_str PySem.F.slot_str_find PySem.F.type_str_find UR (pv 1) (za (pv 6) zc)))
    (zt (zq (i:=4) sc_rank.nd rfl (Or.inl rfl) (zw zM (pv 4) (Wp (zy qA (pv 0) zg (zG _)) (z9 ix_list (pv 2) (pv 7) (fun _ _=>rfl)) zg)))
    (ze (ya (zy qA (pv 0) zg (zG _))
     (ze (yQ (xC PySem.F.plainAttrs_list PySem.F.slot_list_insert PySem.F.type_list_insert VD (pv 5) (za zg (za (pv 7) zc)))))
     (ze (yQ (xC PySem.F.plainAttrs_list PySem.F.slot_list_append PySem.F.type_list_append yz (pv 5) (za (pv 7) zc)))))))))
   (ze (zr (vw (za (pv 4) (za (pv 5) zc)))))))),?_⟩
  have s16:=yG
  rfl'
  have eI:∀ (u v:List Nat),yV ls (u ++ v) = yV ls u ++ yV ls v:=fun u v=>List.map_append
  have il:∀ u:List Nat,(yV ls u).length = u.length:=fun u=>List.length_map ..
  have dl:∀ u:List Nat,(vv k u).length = u.length:=fun u=>by
   unfold vv
   split
   ·exact List.length_reverse
   ·rfl
  refine ⟨by omega,fun D hD=>ForS.by (fun i σ H'=>Same H H' /\ ∃ v6 v7,σ = [some (.int k),some (.str (tx ls)),some (.ref a),some (.str (tx w)),some (.int (vP k ls ns (w.take i))),some (.ref D),v6,v7] /\ H' D = some (.lst ((yV ls (vv k (w.take i))).map V.int))) ⟨zf hD,none,none,by simp [vP],by rw [zd]; simp [vv,yV]⟩ ?_ ?_⟩
  ·rintro i c σ H' hc ⟨hs,v6,v7,rfl,hH⟩
   have hmc:=hm c (List.mem_of_getElem? hc)
   have hlt:=List.idxOf_lt_length_of_mem hmc
   have hil:=(List.getElem?_eq_some_iff.mp hc).1
   have eW:vP k ls ns (w.take (i + 1)) = vP k ls ns (w.take i) + (if k = 2 then ns.getD (ls.idxOf c) 0 else 1):=by
    unfold vP
    rw [yg hc,List.map_append,List.sum_append]
    simp
   have eS:vv k (w.take (i + 1)) = if k = 1 then [c] ++ vv k (w.take i) else vv k (w.take i) ++ [c]:=by
    unfold vv
    rw [yg hc]
    by_cases h:k = 1
    ·rw [if_pos h,if_pos h,if_pos h,List.reverse_append]
     rfl
    ·rw [if_neg h,if_neg h,if_neg h]
   have hz:((yV ls (vv k (w.take i))).map V.int).length < sizeLine:=by
    rw [List.length_map,il,dl,List.length_take]
    omega
   rw [eW,eS]
   have ea:atI (ns.map V.int) ((ls.idxOf c:Nat):Int) = some (.int (ns.getD (ls.idxOf c) 0)):=by
    refine xI ?_
    rw [List.getElem?_map,List.getD_eq_getElem?_getD,List.getElem?_eq_getElem (by omega)]
    rfl
   have e1:∀ h:k = 1,(V.int ((ls.idxOf c:Nat):Int) :: (yV ls (vv k (w.take i))).map V.int) = (yV ls (if k = 1 then [c] ++ vv k (w.take i) else vv k (w.take i) ++ [c])).map V.int:=fun h=>by
    rw [if_pos h]
    rfl
   have e2:∀ h:¬ k = 1,((yV ls (vv k (w.take i))).map V.int ++ [V.int ((ls.idxOf c:Nat):Int)]) = (yV ls (if k = 1 then [c] ++ vv k (w.take i) else vv k (w.take i) ++ [c])).map V.int:=fun h=>by
    rw [if_neg h,eI,List.map_append]
    rfl
   generalize (if k = 1 then [c] ++ vv k (w.take i) else vv k (w.take i) ++ [c]) = S at e1 e2 ⊢
   rfl'
   rw [Xf hmc]
   refine yL (fun h2=>⟨_,SqL.of (hs _ _ ha),_,ea,_,rfl,yL (fun h1=>⟨.inl ⟨_,SqL.of hH⟩,_,_,_,rfl,rfl,hH,hz,zC hs hD,by rw [if_pos h2],by rw [zd,e1 h1]⟩) fun h1=>⟨.inl ⟨_,SqL.of hH⟩,_,hH,hz,zC hs hD,by rw [if_pos h2],by rw [zd,e2 h1]⟩⟩) fun h2=>yL (fun h1=>⟨.inl ⟨_,SqL.of hH⟩,_,_,_,rfl,rfl,hH,hz,zC hs hD,by rw [if_neg h2],by rw [zd,e1 h1]⟩) fun h1=>⟨.inl ⟨_,SqL.of hH⟩,_,hH,hz,zC hs hD,by rw [if_neg h2],by rw [zd,e2 h1]⟩
  ·rintro σ H' ⟨hs,v6,v7,rfl,hH⟩
   rw [List.take_length] at hH ⊢
   rfl'
   exact ⟨by omega,fun p hp=>q p D _ (hs.trans (zf hp)) hD zd (zf hp _ _ hH)⟩
abbrev JW (mg:Str -> Option Value):Prop:=mg "min" = none
def QC:List V -> Hp -> VK -> Prop:=fun xs H Q=>∃ i j,xs = [.int i,.int j] /\ Q (.int (if j < i then j else i)) H
theorem UG {X:Cx} (hc:X.calm = true):wJ X (.builtin "min") QC:=Yk hc
def ltP:List Int -> List Int -> Bool
 | a :: l,b :: m=>if a = b then ltP l m else decide (a < b)
 | _,_=>false
def qp:Sp:=fun vs H Q _=>∃ (p q p' q':Addr) (a b:Int) (x y:List Int),vs = [.ref p,.ref p'] /\ H p = some (.tup [.int a,.ref q]) /\ H q = some (.lst (x.map V.int)) /\ H p' = some (.tup [.int b,.ref q']) /\ H q' = some (.lst (y.map V.int)) /\ x.length <= 1000 /\ y.length <= 1000 /\ Q (.bl (if a = b then ltP x y else decide (a < b))) H
theorem Vb {x y:List Int} {m:Nat} (h:m = x.length \/ m = y.length) (h2:ltP x y = ltP (x.drop m) (y.drop m)):ltP x y = false:=by
 rw [h2]
 rcases h with rfl | rfl
 ·rw [List.drop_length]
  cases y.drop x.length <;> rfl
 ·rw [List.drop_length]
  cases x.drop y.length <;> rfl
theorem qk {x:List Int} {i:Nat} (h:i < x.length):atI (x.map V.int) ((i:Nat):Int) = some (.int x[i]):=by
 refine xI ?_
 rw [List.getElem?_map,List.getElem?_eq_getElem h]
 rfl
theorem sc_less:zo ["_law_one", "_law_other", "_law_k"] ["_law_one", "_law_other"] (zb uI):=⟨rfl,rfl,rfl,by decide +kernel,rfl,by decide +kernel,by decide +kernel⟩
theorem Vv {f:Addr} {fd:FuncData} (B:Bt mg) (hmin:JW mg) (F:Fun K "_law_less" "_law_less" uI f fd)  : FnOk P w K mg base CX0 1 f fd ["_law_one", "_law_other"] qp:=by
 refine F.ok sc_less (fun vs H Q E h=>?_) (fun cdv A outer s H vs Q E hr h=>?_)
 ·obtain ⟨p,q,p',q',a,b,x,y,rfl,_⟩:=h
  rfl
 ·obtain ⟨p,q,p',q',a,b,x,y,rfl,hp,hq,hp',hq',hx,hy,k⟩:=h
  refine ⟨_,(zt (ya (zy jW (z9 ix_tup (pv 0) zg (fun _ _=>rfl)) (z9 ix_tup (pv 1) zg (fun _ _=>rfl)) (zG _))
    (ze (zr (ve vS (z9 ix_tup (pv 0) zg (fun _ _=>rfl)) (z9 ix_tup (pv 1) zg (fun _ _=>rfl)) (zG _))))
    zx)
   (zt (yl PassesOwn.never rfl (xG rfl B.range (za (zn (UG rfl) rfl hmin PyProof.Rows.boot_min (za (zn z7 rfl B.len PySem.boot_len (za (z9 ix_tup (pv 0) zg (fun _ _=>rfl)) zc)) (za (zn z7 rfl B.len PySem.boot_len (za (z9 ix_tup (pv 1) zg (fun _ _=>rfl)) zc)) zc))) zc)) (zu (i:=2) sc_less.nd rfl (Or.inl rfl))
    (ze (ya (zy jW (z9 ix_list (z9 ix_tup (pv 0) zg (fun _ _=>rfl)) (pv 2) (fun _ _=>rfl)) (z9 ix_list (z9 ix_tup (pv 1) zg (fun _ _=>rfl)) (pv 2) (fun _ _=>rfl)) (zG _))
     (ze (zr (ve vS (z9 ix_list (z9 ix_tup (pv 0) zg (fun _ _=>rfl)) (pv 2) (fun _ _=>rfl)) (z9 ix_list (z9 ix_tup (pv 1) zg (fun _ _=>rfl)) (pv 2) (fun _ _=>rfl)) (zG _))))
     zx)))
   (ze (zr wx)))),?_⟩
  have s16:=yG
  rfl'
  refine ⟨_,SqT.of hp,_,rfl,_,SqT.of hp',_,rfl,rfl,yL (fun h=>?_) fun h=>?_⟩
  ·have h':¬ a = b:=fun e=>h (by rw [e])
   rw [if_neg h'] at k
   exact ⟨_,SqT.of hp,_,rfl,_,SqT.of hp',_,rfl,.inl ⟨_,rfl,_,rfl,k⟩⟩
  have h':a = b:=by
   have:=Classical.not_not.mp h
   injection this
  rw [if_pos h'] at k
  obtain ⟨m,hm,hmo,hmx,hmy⟩:∃ m:Nat,(if (((y.map V.int).length:Nat):Int) < (((x.map V.int).length:Nat):Int) then (((y.map V.int).length:Nat):Int) else (((x.map V.int).length:Nat):Int)) = (m:Int) /\ (m = x.length \/ m = y.length) /\ m <= x.length /\ m <= y.length:=by
   rw [List.length_map,List.length_map]
   by_cases e:(y.length:Int) < (x.length:Int)
   ·exact ⟨y.length,by rw [if_pos e],.inr rfl,by omega,by omega⟩
   ·exact ⟨x.length,by rw [if_neg e],.inl rfl,by omega,by omega⟩
  refine ⟨_,SqT.of hp,_,rfl,_,.inl ⟨_,SqL.of hq,rfl⟩,_,SqT.of hp',_,rfl,_,.inl ⟨_,SqL.of hq',rfl⟩,_,_,rfl,?_⟩
  rw [hm]
  refine ⟨_,rfl,by omega,by omega,ForR.by (fun i σ H'=>H' = H /\ ltP x y = ltP (x.drop i) (y.drop i) /\ ∃ v2,σ = [some (.ref p),some (.ref p'),v2]) ⟨rfl,rfl,none,rfl⟩ ?_ ?_⟩
  ·rintro i σ H' hi ⟨rfl,e,v2,rfl⟩
   have ix:i < x.length:=by omega
   have iy:i < y.length:=by omega
   rw [List.drop_eq_getElem_cons ix,List.drop_eq_getElem_cons iy,ltP] at e
   have z0:(0:Int) + (i:Int) = i:=by omega
   rfl'
   rw [z0]
   refine ⟨_,SqT.of hp,_,rfl,_,rfl,_,SqL.of hq,_,qk ix,_,SqT.of hp',_,rfl,_,rfl,_,SqL.of hq',_,qk iy,rfl,yL (fun h=>?_) fun h=>?_⟩
   ·have h2:¬ x[i] = y[i]:=fun e=>h (by rw [e])
    rw [if_neg h2] at e
    rw [e] at k
    exact ⟨_,SqT.of hp,_,rfl,_,rfl,_,SqL.of hq,_,qk ix,_,SqT.of hp',_,rfl,_,rfl,_,SqL.of hq',_,qk iy,.inl ⟨_,rfl,_,rfl,k⟩⟩
   ·have h2:x[i] = y[i]:=by
     have:=Classical.not_not.mp h
     injection this
    rw [if_pos h2] at e
    exact e
  ·rintro σ H' ⟨rfl,e,v2,rfl⟩
   rfl'
   rw [Vb hmo (by simpa using e)] at k
   exact k
def wt (k:Nat) (ns:List Int) (i:Int):Int:=if k = 2 then ns.getD i.toNat 0 else 1
theorem xv {g:Int -> Int}:∀ {x:List Int},(∀ i ∈ x,0 < g i) -> 0 <= (x.map g).sum
 | [],_=>by simp
 | a :: x,h=>by
  have h1:=h a List.mem_cons_self
  have h2:=xv (x:=x) fun i hi=>h i (List.mem_cons_of_mem _ hi)
  rw [List.map_cons,List.sum_cons]
  omega
theorem qY:∀ {x y z:List Int},ltI x y = true -> ltI y z = true -> ltI x z = true
 | [],[],_,h,_=>by cases h
 | [],_ :: _,[],_,h=>by cases h
 | [],_ :: _,_ :: _,_,_=>rfl
 | _ :: _,[],_,h,_=>by cases h
 | _ :: _,_ :: _,[],_,h=>by cases h
 | a :: x,b :: y,c :: z,h1,h2=>by
  rw [ltI] at h1 h2 ⊢
  by_cases e:a = b
  ·subst e
   rw [if_pos rfl] at h1
   by_cases f:a = c
   ·rw [if_pos f] at h2 ⊢
    exact qY h1 h2
   ·rw [if_neg f] at h2 ⊢
    exact h2
  ·rw [if_neg e] at h1
   have h1':=of_decide_eq_true h1
   by_cases f:b = c
   ·subst f
    rw [if_neg e]
    exact h1
   ·rw [if_neg f] at h2
    have h2':=of_decide_eq_true h2
    rw [if_neg (by omega)]
    exact decide_eq_true (by omega)
theorem jJ:∀ (c x y:List Int),ltI (c ++ x) (c ++ y) = ltI x y
 | [],_,_=>rfl
 | a :: c,x,y=>by
  rw [List.cons_append,List.cons_append,ltI,if_pos rfl]
  exact jJ c x y
theorem kB {g:Int -> Int} {c:List Int}:∀ {x y:List Int},(∀ i ∈ x,0 < g i) -> (∀ i ∈ y,0 < g i) -> (x.map g).sum = (y.map g).sum -> ltI (x ++ c) (y ++ c) = ltI x y
 | [],[],_,_,_=>xT c
 | [],b :: y,_,hy,h=>by
  have h1:=hy b List.mem_cons_self
  have h2:=xv (x:=y) fun i hi=>hy i (List.mem_cons_of_mem _ hi)
  rw [List.map_cons,List.sum_cons,List.map_nil,List.sum_nil] at h
  omega
 | a :: x,[],hx,_,h=>by
  have h1:=hx a List.mem_cons_self
  have h2:=xv (x:=x) fun i hi=>hx i (List.mem_cons_of_mem _ hi)
  rw [List.map_cons,List.sum_cons,List.map_nil,List.sum_nil] at h
  omega
 | a :: x,b :: y,hx,hy,h=>by
  rw [List.cons_append,List.cons_append,ltI,ltI]
  by_cases e:a = b
  ·rw [if_pos e,if_pos e]
   rw [List.map_cons,List.sum_cons,List.map_cons,List.sum_cons,e] at h
   exact kB (fun i hi=>hx i (List.mem_cons_of_mem _ hi)) (fun i hi=>hy i (List.mem_cons_of_mem _ hi)) (by omega)
  ·rw [if_neg e,if_neg e]
section
variable {k:Nat} {l:List Nat} {ns:List Int} {t u v:List Nat}
theorem X2 (a b:List Nat):XQ l ns (a ++ b) = XQ l ns a + XQ l ns b:=by
 unfold XQ
 rw [<- ur (fun x=>(a.count x:Int)) (fun x=>(b.count x:Int))]
 refine congrArg List.sum (List.map_congr_left fun p _=>?_)
 rw [List.count_append]
 simp
theorem yO (a b:List Nat):zp k l ns (a ++ b) = zp k l ns a + zp k l ns b:=by
 unfold zp
 by_cases h:k = 2
 ·rw [if_pos h,if_pos h,if_pos h,X2]
 ·rw [if_neg h,if_neg h,if_neg h,List.length_append]
  omega
theorem yu (G:OG l ns k):∀ {w:List Nat},(∀ c ∈ w,c ∈ l) -> zp k l ns w = ((yV l w).map (wt k ns)).sum:=by
 intro w hm
 have hn:l.Nodup:=(of_decide_eq_true G.g).2.2.2
 have e:((yV l w).map (wt k ns)).sum = vP (k:Int) l ns w:=by
  unfold yV vP
  rw [List.map_map]
  refine congrArg List.sum (List.map_congr_left fun c _=>?_)
  show wt k ns _ = _
  unfold wt
  by_cases h:k = 2
  ·rw [if_pos h,if_pos (by omega),Int.toNat_natCast]
  ·rw [if_neg h,if_neg (by omega)]
 rw [e]
 unfold zp
 by_cases h:k = 2
 ·rw [if_pos h,h]
  exact (ql hn G.nl hm).symm
 ·rw [if_neg h,kD (by omega)]
theorem jn (G:OG l ns k) (hm:∀ c ∈ u,c ∈ l):∀ i ∈ yV l u,0 < wt k ns i:=by
 intro i hi
 obtain ⟨c,hc,rfl⟩:=List.mem_map.mp hi
 have hlt:=List.idxOf_lt_length_of_mem (hm c hc)
 have hl:=G.nl
 unfold wt
 split
 ·rw [Int.toNat_natCast,List.getD_eq_getElem?_getD,List.getElem?_eq_getElem (by omega)]
  have:=(G.nb _ (List.getElem_mem (l:=ns) (n:=l.idxOf c) (by omega))).1
  show 0 < ns[l.idxOf c]
  omega
 ·decide
theorem wI (G:OG l ns k) (hm:∀ c ∈ u,c ∈ l):0 <= zp k l ns u:=by
 rw [yu G hm]
 exact xv (jn G hm)
theorem uU (G:OG l ns k) (hm:∀ c ∈ u,c ∈ l) (h:u ≠ []):0 < zp k l ns u:=by
 cases u with
 | nil=>exact absurd rfl h
 | cons a u =>
  have h1:=jn G hm (l.idxOf a:Nat) (List.mem_map.mpr ⟨a,List.mem_cons_self,rfl⟩)
  have h2:0 <= ((yV l u).map (wt k ns)).sum:=xv (jn (u:=u) G fun c hc=>hm c (List.mem_cons_of_mem _ hc))
  rw [yu G hm]
  show 0 < ((((l.idxOf a:Nat):Int) :: yV l u).map (wt k ns)).sum
  rw [List.map_cons,List.sum_cons]
  omega
theorem qK:zY k l ns u u = false:=by
 unfold zY
 rw [if_pos rfl,xT]
theorem vT (h1:zY k l ns t u = true) (h2:zY k l ns u v = true):zY k l ns t v = true:=by
 unfold zY at h1 h2 ⊢
 generalize zp k l ns t = a at *
 generalize zp k l ns u = b at *
 generalize zp k l ns v = c at *
 by_cases e:a = b
 ·subst e
  rw [if_pos rfl] at h1
  by_cases f:a = c
  ·rw [if_pos f] at h2 ⊢
   exact qY h1 h2
  ·rw [if_neg f] at h2 ⊢
   exact h2
 ·rw [if_neg e] at h1
  have h1':=of_decide_eq_true h1
  by_cases f:b = c
  ·subst f
   rw [if_neg e]
   exact h1
  ·rw [if_neg f] at h2
   have h2':=of_decide_eq_true h2
   rw [if_neg (by omega)]
   exact decide_eq_true (by omega)
theorem j0 (a b:List Nat):yV l (a ++ b) = yV l a ++ yV l b:=List.map_append
theorem qL (G:OG l ns k) (hu:∀ c ∈ u,c ∈ l) (hv:∀ c ∈ v,c ∈ l) (e:zp k l ns u = zp k l ns v) (c:List Int):ltI (yV l u ++ c) (yV l v ++ c) = ltI (yV l u) (yV l v):=by
 rw [yu G hu,yu G hv] at e
 exact kB (jn G hu) (jn G hv) e
theorem uG (G:OG l ns k) (hu:∀ c ∈ u,c ∈ l):zp k l ns u.reverse = zp k l ns u:=by
 rw [yu G hu,yu G fun c hc=>hu c (List.mem_reverse.mp hc)]
 unfold yV
 rw [List.map_reverse,List.map_reverse,List.sum_reverse]
theorem jm (G:OG l ns k) (ht:∀ c ∈ t,c ∈ l) (hu:∀ c ∈ u,c ∈ l) (hv:∀ c ∈ v,c ∈ l):zY k l ns (t ++ u) (t ++ v) = zY k l ns u v /\ zY k l ns (u ++ t) (v ++ t) = zY k l ns u v:=by
 have hur:∀ c ∈ u.reverse,c ∈ l:=fun c hc=>hu c (List.mem_reverse.mp hc)
 have hvr:∀ c ∈ v.reverse,c ∈ l:=fun c hc=>hv c (List.mem_reverse.mp hc)
 unfold zY
 rw [yO,yO,yO,yO]
 by_cases e:zp k l ns u = zp k l ns v
 ·rw [if_pos (by omega),if_pos e,if_pos (by omega)]
  unfold Zl y0
  by_cases f:k = 1
  ·simp only [if_pos f,List.reverse_append,j0]
   exact ⟨qL G hur hvr (by rw [uG G hu,uG G hv,e]) _,jJ _ _ _⟩
  ·simp only [if_neg f,j0]
   exact ⟨jJ _ _ _,qL G hu hv e _⟩
 ·rw [if_neg (by omega),if_neg e,if_neg (by omega)]
  exact ⟨by congr 1; exact propext (by omega),by congr 1; exact propext (by omega)⟩
theorem X8 (G:OG l ns k) (ht:∀ c ∈ t,c ∈ l) (hu:∀ c ∈ u,c ∈ l) (hv:∀ c ∈ v,c ∈ l) (h:t ++ u ++ v ≠ u):zY k l ns u (t ++ u ++ v) = true /\ zY k l ns (t ++ u ++ v) u = false:=by
 have h0:0 < zp k l ns t + zp k l ns v:=by
  have h1:=wI G ht
  have h2:=wI G hv
  by_cases e:t = []
  ·by_cases f:v = []
   ·subst e f
    simp at h
   ·have:=uU G hv f
    omega
  ·have:=uU G ht e
   omega
 unfold zY
 rw [yO,yO,if_neg (by omega),if_neg (by omega)]
 exact ⟨decide_eq_true (by omega),decide_eq_false (by omega)⟩
end
def qF (K:PySem.W.Frag) (CO CR CW:Addr):Sp:=fun vs H Q _=>∃ (z:Int) (l:List Nat) (D:Addr) (ws:List Int),vs = [.int z,.str (tx l),.ref D] /\ 0 <= z /\ z < 3 /\ wH l = true /\ H D = some (.lst (ws.map V.int)) /\ ws.length = l.length /\ (∀ n ∈ ws,1 <= n /\ n <= 1000000) /\ ∀ (o:Addr) (H':Hp),Same H H' -> OrdAt CO CR CW H' o z.toNat l ws -> Q (.ref o) H'
theorem Wj:zo ["_law_kind", "_law_letters_here", "_law_weights_here"] ["_law_kind", "_law_letters_here", "_law_weights_here"] (zb wX):=⟨rfl,rfl,rfl,by decide +kernel,rfl,by decide +kernel,by decide +kernel⟩
theorem Xz {f CO CR CW:Addr} {fd:FuncData} (B:Bt mg) (T:TWS P w K mg base CO CR CW) (F:Fun K "_law_order" "_law_order" wX f fd)  : FnOk P w K mg base CX0 6 f fd ["_law_kind", "_law_letters_here", "_law_weights_here"] (qF K CO CR CW):=by
 refine F.ok Wj (fun vs H Q E h=>?_) (fun cdv A outer s H vs Q E hr h=>?_)
 ·obtain ⟨z,l,D,ws,rfl,_⟩:=h
  rfl
 ·obtain ⟨z,l,D,ws,rfl,z0,z3,hg,hD,hwl,hwb,q⟩:=h
  refine ⟨_,(zt (ya (zy qA (pv 0) zg (zG _))
    (ze (zr (mkC T.mR hr rfl T.gR (za (pv 1) zc))))
    zx)
   (zt (ya (zy qA (pv 0) zg (zG _))
    (ze (zr (QA xe0 T.mW hr rfl T.gW (za (pv 1) (za (xm yH rfl B.list PySem.Pv.boot_list (za (pv 2) zc)) zc)))))
    zx)
   (ze (zr (mkC T.mO hr rfl T.gO (za (pv 1) zc)))))),?_⟩
  have s16:=yG
  repeat (first | rfl' | simp only [xf,zE,zX,xn,xk,zB])
  refine yL (fun h1=>?_) fun h1=>yL (fun h2=>?_) fun h2=>?_
  ·intro x dx hx hdx hne
   have sd:=zf (o:=.own x) hdx
   refine ⟨x,CR,dx,l,rfl,hg,T.cR,T.lR,zd,rfl,q x _ (fun b o' e=>?_) ⟨dx,.inr (.inl ⟨by rw [h1]; rfl,zd⟩)⟩⟩
   rw [zi (zv e hx),zi (zv e hx)]
   exact sd _ _ e
  ·refine ⟨_,.inl (SqL.of hD),fun E1 hE=>?_⟩
   have se:=zf (o:=.lst (ws.map V.int)) hE
   intro x dx hx hdx hne
   have sd:=zf (o:=.own x) hdx
   have k1:∀ b o',(upd H E1 (.lst (ws.map V.int))) b = some o' -> (upd (upd (upd H E1 (.lst (ws.map V.int))) dx (.own x)) x (.ins CW dx [])) b = some o':=fun b o' e=>by
    rw [zi (zv e hx)]
    exact sd _ _ e
   exact ⟨x,dx,E1,l,ws,rfl,hg,SqL.of (k1 _ _ zd),hwl,hwb,zd,fun w H' hw hwx kp ht hx'=>⟨rfl,q x _ (fun b o' e=>kp b o' (zv (se _ _ e) hx) (k1 b o' (se _ _ e))) ⟨dx,.inr (.inr ⟨by omega,hwl,w,hx',ht⟩)⟩⟩⟩
  ·intro x dx hx hdx hne
   have sd:=zf (o:=.own x) hdx
   refine ⟨x,CO,dx,l,rfl,hg,T.cO,T.lO,zd,rfl,q x _ (fun b o' e=>?_) ⟨dx,.inl ⟨by omega,zd⟩⟩⟩
   rw [zi (zv e hx),zi (zv e hx)]
   exact sd _ _ e
def Xi (K:PySem.W.Frag):Sp:=fun vs H Q _=>∃ (l:List Nat) (a:Addr) (ns:List Int) (c:Int) (n:Nat),vs = [.str (tx l),.ref a,.int c,.int (n:Nat)] /\ wH l = true /\ SqL K H a (ns.map V.int) /\ 1 <= n /\ n <= 30 /\ ∀ (p Ma La:Addr) (M L:List (List Nat)) (H':Hp),Same H H' -> H' p = some (.tup [.ref Ma,.ref La]) -> H' Ma = some (.lst (tW M)) -> H' La = some (.lst (tW L)) -> H Ma = none -> H La = none -> Ma ≠ La -> Fam l M L -> M.length <= n -> L.length <= M.length * l.length -> Q (.ref p) H'
theorem Wk (m:List (List Nat)) (x:List Nat):((m.map dS).any fun e=>eqD e (dS x)) = decide (x ∈ m):=by
 induction m with
 | nil=>rfl
 | cons y m ih =>
  rw [List.map_cons,List.any_cons,ih]
  have:eqD (dS y) (dS x) = decide (y = x):=by
   simp only [dS,eqD]
   by_cases h:y = x
   ·simp [h]
   ·have:¬ tx y = tx x:=fun e=>h (WD e)
    simp [h,this]
  rw [this]
  by_cases h:y = x
  ·simp [h]
  ·have h':¬ x = y:=fun e=>h e.symm
   simp [h,h']
theorem kG {H:Hp}:∀ ws:List (List Nat),Iss K H (ws.map dS) (tW ws)
 | []=>by simp only [tW,List.map_nil,Iss]
 | w :: ws=>by
  have:=kG (H:=H) ws
  simp only [tW,List.map_cons,Iss]
  exact ⟨_,_,rfl,by simp only [Is],this⟩
theorem W2 {H:Hp} {p:Addr} {ws:List (List Nat)} (h:H p = some (.lst (tW ws))):Is K H (.lst (ws.map dS)) (.ref p):=by
 simp only [Is]
 exact ⟨p,_,rfl,SqL.of h,kG ws⟩
theorem WM (ws:List (List Nat)):vL (ws.map dS) <= 0:=uZ fun d h=>by
 obtain ⟨w,_,rfl⟩:=List.mem_map.mp h
 simp [dpD]
theorem wG {H H':Hp} {a:Addr} {xs:List V} (s:Same H H') (h:SqL K H a xs):SqL K H' a xs:=by
 rcases h with (h | ⟨o',h⟩) | h
 ·exact .inl (.inl (s _ _ h))
 ·exact .inl (.inr ⟨o',s _ _ h⟩)
 ·exact .inr h
theorem Yx (ws:List (List Nat)) (w:List Nat):tW ws ++ [V.str (tx w)] = tW (ws ++ [w]):=by simp [tW]
def MbI (l:List Nat) (a:Addr) (c:Int) (n:Nat) (H:Hp) (Ma La:Addr) (k:Nat) (σ:L2.St) (H':Hp):Prop:=∃ (M L:List (List Nat)) (i:Nat) (x:Int) (v8 v9 v10:Option V),k = n + 1 - i /\ Gb l M L i /\ M.length <= n /\ Same H H' /\ H' Ma = some (.lst (tW M)) /\ H' La = some (.lst (tW L)) /\ σ = [some (.str (tx l)),some (.ref a),some (.int c),some (.int (n:Nat)),some (.ref Ma),some (.ref La),some (.int (i:Nat)),some (.int x),v8,v9,v10]
def MwI (l:List Nat) (a:Addr) (c:Int) (n:Nat) (H:Hp) (Ma La:Addr) (i:Nat) (m:List Nat) (j:Nat) (σ:L2.St) (H':Hp):Prop:=∃ (M L:List (List Nat)) (x:Int) (v8 v9 v10:Option V),Gw l M L i m j /\ M.length <= n /\ Same H H' /\ H' Ma = some (.lst (tW M)) /\ H' La = some (.lst (tW L)) /\ σ = [some (.str (tx l)),some (.ref a),some (.int c),some (.int (n:Nat)),some (.ref Ma),some (.ref La),some (.int (i:Nat)),some (.int x),v8,v9,v10]
def MeI (l:List Nat) (a:Addr) (c:Int) (n:Nat) (H:Hp) (Ma La:Addr) (σ:L2.St) (H':Hp):Prop:=∃ (M L:List (List Nat)) (v6 v7 v8 v9 v10:Option V),Fam l M L /\ L.length <= M.length * l.length /\ M.length <= n /\ Same H H' /\ H' Ma = some (.lst (tW M)) /\ H' La = some (.lst (tW L)) /\ σ = [some (.str (tx l)),some (.ref a),some (.int c),some (.int (n:Nat)),some (.ref Ma),some (.ref La),v6,v7,v8,v9,v10]
theorem sc_members:zo ["_law_letters_here", "_law_cells", "_law_cell", "_law_cap", "_law_members_here", "_law_lefts", "_law_at", "_law_number", "_law_letter", "_law_made", "_law_turn"] ["_law_letters_here", "_law_cells", "_law_cell", "_law_cap"] (zb xx):=⟨rfl,rfl,rfl,by decide +kernel,rfl,by decide +kernel,by decide +kernel⟩
theorem Zo {f:Addr} {fd:FuncData} (B:Bt mg)  (F:Fun K "_law_members" "_law_members" xx f fd) (D_cell_at:Df P w K mg base CX0 1 "_law_cell_at" ["_law_script", "_law_k"] [] (xo K)):FnOk P w K mg base CX0 2 f fd ["_law_letters_here", "_law_cells", "_law_cell", "_law_cap"] (Xi K):=by
 refine F.ok sc_members (fun vs H Q E h=>?_) (fun cdv A outer s H vs Q E hr h=>?_)
 ·obtain ⟨l,a,ns,c,n,rfl,_⟩:=h
  rfl
 ·obtain ⟨l,a,ns,c,n,rfl,hg,hS,n1,n30,q⟩:=h
  refine ⟨_,(zh (zq (i:=4) sc_members.nd rfl (Or.inl rfl) (yX (za yK zc)))
   (zh (zq (i:=5) sc_members.nd rfl (Or.inl rfl) (yX zc))
   (zh (zq (i:=6) sc_members.nd rfl (Or.inl rfl) zg)
   (zh (zq (i:=7) sc_members.nd rfl (Or.inl rfl) (zw zM (zw yA (pv 2) zg) zg))
   (zh (wB PassesOwn.never (zy vS (pv 6) (zn z7 rfl B.len PySem.boot_len (za (pv 4) zc)) (zG _))
    (zh (yl PassesOwn.never rfl (vx (pv 0)) (zu (i:=8) sc_members.nd rfl (Or.inl rfl))
     (zh (zq (i:=9) sc_members.nd rfl (Or.inl rfl) (zw zM (z9 ix_list (pv 4) (pv 6) (fun _ _=>rfl)) (pv 8)))
     (ze (ya (zy (V7 (qj hr)) (yj xZ (pv 9) (ym zg) xb) (pv 4) (by with_unfolding_all rfl))
      (zh (zq (i:=7) sc_members.nd rfl (Or.inl rfl) (zw yA (zw vo (pv 7) zg) zg))
      (zh (zq (i:=10) sc_members.nd rfl (Or.inl rfl) (zw zM (zw wv (pv 7) zg) (cl0 D_cell_at hr .nil rfl (za (pv 1) (za (zw zM (zn z7 rfl B.len PySem.boot_len (za (pv 4) zc)) (zn z7 rfl B.len PySem.boot_len (za (pv 5) zc))) zc)))))
      (ze (ya (PW.pt (Xe (zy qX (zw yA (pv 10) zg) zg (zG _)) (Ym (zy vS (zn z7 rfl B.len PySem.boot_len (za (pv 4) zc)) (pv 3) (zG _)))))
       (ze (yQ (xC PySem.F.plainAttrs_list PySem.F.slot_list_append PySem.F.type_list_append yz (pv 4) (za (pv 9) zc))))
       (ze (yQ (xC PySem.F.plainAttrs_list PySem.F.slot_list_append PySem.F.type_list_append yz (pv 5) (za (pv 9) zc))))))))
      zx))))
    (ze (zq (i:=6) sc_members.nd rfl (Or.inl rfl) (zw zM (pv 6) zg)))))
   (ze (zr (vw (za (pv 4) (za (pv 5) zc)))))))))),?_⟩
  have s16:=yG
  obtain ⟨l1,l6,lsm,lnd⟩:=of_decide_eq_true hg
  refine zk (fun σ H'=>∃ Ma:Addr,H Ma = none /\ Same H H' /\ H' Ma = some (.lst (tW [[]])) /\ σ = [some (.str (tx l)),some (.ref a),some (.int c),some (.int (n:Nat)),some (.ref Ma),none,none,none,none,none,none]) ?_ ?_
  ·rfl'
   exact ⟨by omega,fun p hp=>⟨p,hp,zf hp,zd,rfl⟩⟩
  rintro σ H1 ⟨Ma,hMa,s1,hM1,rfl⟩
  refine zk (fun σ H'=>∃ La:Addr,H La = none /\ Ma ≠ La /\ Same H H' /\ H' Ma = some (.lst (tW [[]])) /\ H' La = some (.lst (tW [])) /\ σ = [some (.str (tx l)),some (.ref a),some (.int c),some (.int (n:Nat)),some (.ref Ma),some (.ref La),none,none,none,none,none]) ?_ ?_
  ·rfl'
   exact ⟨by omega,fun p hp=>⟨p,jz s1 hp,fun e=>(by rw [e,hp] at hM1; cases hM1),s1.trans (zf hp),zf hp _ _ hM1,zd,rfl⟩⟩
  rintro σ H2 ⟨La,hLa,hne,s2,hM2,hL2,rfl⟩
  refine zk (fun σ H'=>H' = H2 /\ σ = [some (.str (tx l)),some (.ref a),some (.int c),some (.int (n:Nat)),some (.ref Ma),some (.ref La),some (.int 0),none,none,none,none]) ?_ ?_
  ·rfl'
  rintro σ H3 ⟨rfl,rfl⟩
  refine zk (fun σ H'=>∃ k,MbI l a c n H Ma La k σ H') ?_ ?_
  ·rfl'
   exact ⟨by decide,_,[[]],[],0,_,none,none,none,rfl,gb0,n1,s2,hM2,hL2,rfl⟩
  rintro σ H4 ⟨k4,hI4⟩
  refine zk (MeI l a c n H Ma La) ?_ ?_
  ·unfold uK
   refine ⟨MbI l a c n H Ma La,⟨k4,hI4⟩,?_⟩
   rintro k σ H' ⟨M,L,i,x,v8,v9,v10,rfl,hB,hMn,hs,hM,hL,rfl⟩
   have hll:=hB.ll
   rfl'
   refine ⟨_,.inl ⟨_,SqL.of hM,rfl⟩,yL (fun hi=>?_) fun hi=>?_⟩
   ·rw [List.length_map] at hi
    have hi':i < M.length:=by omega
    have hm:M[i]? = some M[i]:=List.getElem?_eq_getElem hi'
    generalize M[i] = m at hm
    refine ⟨MbI l a c n H Ma La (n + 1 - (i + 1)),fun σ' H' h=>⟨_,by omega,h⟩,?_⟩
    refine zk (MwI l a c n H Ma La i m l.length) ?_ ?_
    ·rfl'
     refine ForS.by (MwI l a c n H Ma La i m) ⟨M,L,x,v8,v9,v10,hB.go hm,hMn,hs,hM,hL,rfl⟩ ?_ fun σ H' h=>h
     rintro j d σ H' hd ⟨M,L,x,v8,v9,v10,hW,hMn,hs,hM,hL,rfl⟩
     have hmi:=hW.at_
     have hi2:=(List.getElem?_eq_some_iff.mp hmi).1
     have hml:m.length <= i:=hW.ln i m hmi
     have hjl:=(List.getElem?_eq_some_iff.mp hd).1
     have hatm:atI (tW M) (i:Int) = some (.str (tx m)):=xI (by rw [List.getElem?_map,hmi]; rfl)
     have hLl:=hW.ll
     have hil:i * l.length <= 30 * 6:=Nat.mul_le_mul (by omega) l6
     have ect:cut (m ++ [d]) (some 1) none = (m ++ [d]).tail:=by rw [wK _ (by decide)]; exact List.drop_one
     simp only [y8,List.set_cons_succ,List.set_cons_zero]
     refine zk (fun σ' H''=>H'' = H' /\ σ' = [some (.str (tx l)),some (.ref a),some (.int c),some (.int (n:Nat)),some (.ref Ma),some (.ref La),some (.int (i:Nat)),some (.int x),some (.str (tx [d])),some (.str (tx (m ++ [d]))),v10]) ?_ ?_
     ·rfl'
      exact ⟨_,SqL.of hM,_,hatm,_,rfl,by rw [yS]; omega,(jq m [d]).symm ▸ rfl⟩
     rintro σ' G1 ⟨rfl,rfl⟩
     rfl'
     rw [ect]
     refine ⟨by simp only [List.length_append,List.length_cons,List.length_nil]; omega,Ma,M.map dS,dS (m ++ [d]).tail,rfl,W2 hM,by simp only [Is],Nat.lt_of_le_of_lt (WM _) (by decide),?_⟩
     rw [Wk]
     refine ⟨_,rfl,?_⟩
     rw [if_neg Bool.false_ne_true]
     refine yL (fun ht=>?_) fun ht=>?_
     rotate_left
     ·exact ⟨M,L,x,_,_,_,hW.skip lnd hd (fun e=>ht (decide_eq_true e)),hMn,hs,hM,hL,rfl⟩
     have ht':=of_decide_eq_true ht
     refine zk (fun σ' H''=>H'' = G1 /\ ∃ x:Int,σ' = [some (.str (tx l)),some (.ref a),some (.int c),some (.int (n:Nat)),some (.ref Ma),some (.ref La),some (.int (i:Nat)),some (.int x),some (.str (tx [d])),some (.str (tx (m ++ [d]))),v10]) ?_ ?_
     ·rfl'
      exact ⟨.inr ⟨by decide,by decide⟩,by decide⟩
     rintro σ' G2 ⟨rfl,x2,rfl⟩
     refine zk (fun σ' H''=>H'' = G2 /\ ∃ t:Int,σ' = [some (.str (tx l)),some (.ref a),some (.int c),some (.int (n:Nat)),some (.ref Ma),some (.ref La),some (.int (i:Nat)),some (.int x2),some (.str (tx [d])),some (.str (tx (m ++ [d]))),some (.int t)]) ?_ ?_
     ·rfl'
      refine ⟨⟨by decide,by decide⟩,_,.inl ⟨_,SqL.of hM,rfl⟩,_,.inl ⟨_,SqL.of hL,rfl⟩,yW (wG hs hS) (by omega) ?_⟩
      exact ⟨⟨_,rfl⟩,rfl⟩
     rintro σ' G3 ⟨rfl,t,rfl⟩
     have hlM:(tW M).length = M.length:=List.length_map ..
     have hlL:(tW L).length = L.length:=List.length_map ..
     have toL:MwI l a c n H Ma La i m (j + 1) [some (.str (tx l)),some (.ref a),some (.int c),some (.int (n:Nat)),some (.ref Ma),some (.ref La),some (.int (i:Nat)),some (.int x2),some (.str (tx [d])),some (.str (tx (m ++ [d]))),some (.int t)] (upd G3 La (.lst (tW L ++ [.str (tx (m ++ [d]))]))):=⟨M,L ++ [m ++ [d]],x2,_,_,_,hW.left lnd hd ht',hMn,zC hs hLa,by rw [zi hne]; exact hM,by rw [zd,Yx],rfl⟩
     rfl'
     refine ⟨by decide,yL (fun _=>⟨_,.inl ⟨_,SqL.of hM,rfl⟩,yL (fun hn'=>⟨.inl ⟨_,SqL.of hM⟩,_,hM,by omega,M ++ [m ++ [d]],L,x2,_,_,_,hW.add lnd hd ht',by rw [List.length_append]; simp only [List.length_cons,List.length_nil]; omega,zC hs hMa,by rw [zd,Yx],by rw [zi hne.symm]; exact hL,rfl⟩) fun _=>⟨.inl ⟨_,SqL.of hL⟩,_,hL,by omega,toL⟩⟩) fun _=>⟨.inl ⟨_,SqL.of hL⟩,_,hL,by omega,toL⟩⟩
    rintro σ H5 ⟨M,L,x,v8,v9,v10,hW,hMn,hs,hM,hL,rfl⟩
    rfl'
    exact ⟨M,L,i + 1,x,v8,v9,v10,rfl,hW.back,hMn,hs,hM,hL,rfl⟩
   ·rw [List.length_map] at hi
    exact ⟨M,L,_,_,v8,v9,v10,hB.fam (by omega),Nat.le_trans hll (Nat.mul_le_mul_right _ hB.le),hMn,hs,hM,hL,rfl⟩
  rintro σ H5 ⟨M,L,v6,v7,v8,v9,v10,hF,hLl,hMn,hs,hM,hL,rfl⟩
  rfl'
  exact ⟨by omega,fun p hp=>q p Ma La M L _ (hs.trans (zf hp)) zd (zf hp _ _ hM) (zf hp _ _ hL) hMa hLa hne hF hMn hLl⟩
def RkAt (k:Int) (l:List Nat) (ns:List Int) (H:Hp) (p:Addr) (w:List Nat):Prop:=∃ q,H p = some (.tup [.int (vP k l ns w),.ref q]) /\ H q = some (.lst ((yV l (vv k w)).map V.int))
theorem RkAt.same {k:Int} {l:List Nat} {ns:List Int} {H H':Hp} {p:Addr} {w:List Nat} (h:RkAt k l ns H p w) (s:Same H H'):RkAt k l ns H' p w:=by
 obtain ⟨q,h1,h2⟩:=h
 exact ⟨q,s _ _ h1,s _ _ h2⟩
def LtD (k:Int) (l:List Nat) (ns:List Int) (u v:List Nat):Bool:=if vP k l ns u = vP k l ns v then ltP (yV l (vv k u)) (yV l (vv k v)) else decide (vP k l ns u < vP k l ns v)
def RtO (k:Int) (l:List Nat) (ns:List Int) (ws:List (List Nat)) (x v:List Nat):Prop:=(v ∈ ws /\ LtD k l ns v x = true) \/ ∃ t,t ≠ [] /\ x = v ++ t
theorem jZ (k:Int) (w:List Nat):(vv k w).length = w.length:=by
 unfold vv
 split
 ·exact List.length_reverse
 ·rfl
def qw (K:PySem.W.Frag):Sp:=fun vs H Q _=>∃ (x:List Nat) (W R p:Addr) (c k:Int) (l:List Nat) (ns:List Int) (ws:List (List Nat)) (rs:List Addr),vs = [.str (tx x),.ref W,.ref R,.ref p,.int c] /\ x ≠ [] /\ x.length <= 1000 /\ H W = some (.lst (tW ws)) /\ H R = some (.lst (rs.map V.ref)) /\ rs.length = ws.length /\ 1 <= ws.length /\ (∀ w ∈ ws,w.length <= 1000) /\ (∀ (i:Nat) (r:Addr) (w:List Nat),rs[i]? = some r -> ws[i]? = some w -> RkAt k l ns H r w) /\ RkAt k l ns H p x /\ ∀ v,RtO k l ns ws x v -> Q (.str (tx v)) H
theorem sc_right:zo ["_law_left", "_law_words", "_law_ranks", "_law_rank_here", "_law_cell", "_law_k", "_law_at"] ["_law_left", "_law_words", "_law_ranks", "_law_rank_here", "_law_cell"] (zb vn):=⟨rfl,rfl,rfl,by decide +kernel,rfl,by decide +kernel,by decide +kernel⟩
theorem Xw {f:Addr} {fd:FuncData} (B:Bt mg)  (F:Fun K "_law_right" "_law_right" vn f fd) (D_less:Df P w K mg base CX0 1 "_law_less" ["_law_one", "_law_other"] [] qp):FnOk P w K mg base CX0 2 f fd ["_law_left", "_law_words", "_law_ranks", "_law_rank_here", "_law_cell"] (qw K):=by
 refine F.ok sc_right (fun vs H Q E h=>?_) (fun cdv A outer s H vs Q E hr h=>?_)
 ·obtain ⟨x,W,R,p,c,k,l,ns,ws,rs,rfl,_⟩:=h
  rfl
 ·obtain ⟨x,W,R,p,c,k,l,ns,ws,rs,rfl,hx,hxl,hW,hR,hrl,hw1,hwl,hrk,hpk,q⟩:=h
  refine ⟨_,(zh (yl PassesOwn.never rfl (xG rfl B.range (za zg zc)) (zu (i:=5) sc_right.nd rfl (Or.inl rfl))
    (zh (zq (i:=6) sc_right.nd rfl (Or.inl rfl) (zw yA (zw zM (pv 4) (zw vo (zw vo (pv 5) (pv 5)) zg)) (zn z7 rfl B.len PySem.boot_len (za (pv 1) zc))))
    (ze (ya (vE (cl0 D_less hr .nil rfl (za (z9 ix_list (pv 2) (pv 6) (fun _ _=>rfl)) (za (pv 3) zc))) (fun _=>rfl))
     (ze (zr (z9 ix_list (pv 1) (pv 6) (fun _ _=>rfl))))
     zx))))
   (ze (zr (yj xZ (pv 0) xb (ym (zw yA (pv 4) (zn z7 rfl B.len PySem.boot_len (za (pv 0) zc)))))))),?_⟩
  have s16:=yG
  refine zk (fun σ H'=>H' = H /\ ∃ v5 v6,σ = [some (.str (tx x)),some (.ref W),some (.ref R),some (.ref p),some (.int c),v5,v6]) ?_ ?_
  ·rfl'
   refine ⟨by decide,by decide,ForR.by (fun i σ H'=>H' = H /\ ∃ v5 v6,σ = [some (.str (tx x)),some (.ref W),some (.ref R),some (.ref p),some (.int c),v5,v6]) ⟨rfl,_,_,rfl⟩ ?_ fun σ H' h=>h⟩
   rintro i σ H' hi ⟨rfl,v5,v6,rfl⟩
   simp only [y8,List.set_cons_succ,List.set_cons_zero]
   refine zk (fun σ' H''=>H'' = H' /\ ∃ (z:Int) (j:Nat),j < ws.length /\ σ' = [some (.str (tx x)),some (.ref W),some (.ref R),some (.ref p),some (.int c),some (.int z),some (.int (j:Nat))]) ?_ ?_
   ·have b0:=Int.emod_nonneg (c + (0 + (i:Int)) * (0 + (i:Int)) * 7) (b:=((tW ws).length:Int)) (by rw [List.length_map]; omega)
    have b1:=Int.emod_lt_of_pos (c + (0 + (i:Int)) * (0 + (i:Int)) * 7) (b:=((tW ws).length:Int)) (by rw [List.length_map]; omega)
    have el:(tW ws).length = ws.length:=List.length_map ..
    have hi3:i = 0 \/ i = 1 \/ i = 2:=by have:i < 3:=hi; omega
    rfl'
    have m1:CMul (0 + (i:Int)) (0 + (i:Int)):=by rcases hi3 with rfl | rfl | rfl <;> exact .inl ⟨by decide,by decide⟩
    have m2:CMul ((0 + (i:Int)) * (0 + (i:Int))) 7:=.inr ⟨by decide,by decide⟩
    refine ⟨m1,m2,_,.inl ⟨_,SqL.of hW,rfl⟩,by rw [el]; omega,_,((c + (0 + (i:Int)) * (0 + (i:Int)) * 7) % ((tW ws).length:Int)).toNat,by omega,rfl,by omega⟩
   rintro σ' G ⟨rfl,z,j,hj,rfl⟩
   have hr:rs[j]? = some rs[j]:=List.getElem?_eq_getElem (by omega)
   have hw:ws[j]? = some ws[j]:=List.getElem?_eq_getElem hj
   generalize rs[j] = r at hr
   generalize ws[j] = w at hw
   obtain ⟨rq,hr1,hr2⟩:=hrk j r w hr hw
   obtain ⟨pq,hp1,hp2⟩:=id hpk
   have e1:atI (rs.map V.ref) (j:Int) = some (.ref r):=xI (by rw [List.getElem?_map,hr]; rfl)
   have e2:atI (tW ws) (j:Int) = some (.str (tx w)):=xI (by rw [List.getElem?_map,hw]; rfl)
   have hwm:=List.mem_of_getElem? hw
   rfl'
   refine ⟨_,SqL.of hR,_,e1,r,rq,p,pq,_,_,_,_,rfl,hr1,hr2,hp1,hp2,by rw [yV,List.length_map,jZ]; exact hwl w hwm,by rw [yV,List.length_map,jZ]; exact hxl,⟨_,rfl,yL (fun hb=>⟨_,SqL.of hW,_,e2,q w (.inl ⟨hwm,hb⟩)⟩) fun _=>rfl⟩⟩
  rintro σ H1 ⟨rfl,v5,v6,rfl⟩
  rfl'
  have hx0:1 <= x.length:=by
   cases x with
   | nil=>exact absurd rfl hx
   | cons a b=>simp
  have b0:=Int.emod_nonneg c (b:=(x.length:Int)) (by omega)
  have b1:=Int.emod_lt_of_pos c (b:=(x.length:Int)) (by omega)
  refine ⟨by omega,by omega,by omega,q _ (.inr ⟨x.drop (c % (x.length:Int)).toNat,fun e=>?_,by rw [qZ _ b0,List.take_append_drop]⟩)⟩
  have:=congrArg List.length e
  rw [List.length_drop] at this
  simp at this
  omega
structure RuD (k:Int) (l:List Nat) (ns:List Int) (p:zK):Prop where
 i1:∀ c ∈ p.1,c ∈ l
 i2:∀ c ∈ p.2,c ∈ l
 n1:p.1.length <= 40
 n2:p.2.length <= 40
 lt:LtD k l ns p.2 p.1 = true \/ ∃ a b,a ++ b ≠ [] /\ p.1 = a ++ p.2 ++ b
def qE (K:PySem.W.Frag):Sp:=fun vs H Q _=>∃ (k c:Int) (l:List Nat) (D Ma La:Addr) (ns:List Int) (M L:List (List Nat)),vs = [.int k,.str (tx l),.ref D,.ref Ma,.ref La,.int c] /\ wH l = true /\ H D = some (.lst (ns.map V.int)) /\ l.length <= ns.length /\ H Ma = some (.lst (tW M)) /\ H La = some (.lst (tW L)) /\ Fam l M L /\ M.length <= 30 /\ L.length <= 180 /\ ∀ (r:Addr) (ps:List zK) (H':Hp),Same H H' -> H r = none -> LsA K H' r (ps.map dR) -> (∀ p ∈ ps,RuD k l ns p) -> (∀ p ∈ ps,p.1 ∈ L) -> (∀ x ∈ L,∃ p ∈ ps,p.1 = x) -> ps.length = L.length -> Q (.ref r) H'
theorem Iss.drop {H:Hp}:∀ (n:Nat) {l:List L3.D} {vs:List V},Iss K H l vs -> Iss K H (l.drop n) (vs.drop n)
 | 0,_,_,h=>h
 | n + 1,[],vs,h=>by
  simp only [Iss] at h
  subst h
  simp only [List.drop_nil,Iss]
 | n + 1,d :: l,vs,h=>by
  simp only [Iss] at h
  obtain ⟨v,r,rfl,_,h2⟩:=h
  exact Iss.drop n h2
theorem Iss.take {H:Hp}:∀ (n:Nat) {l:List L3.D} {vs:List V},Iss K H l vs -> Iss K H (l.take n) (vs.take n)
 | 0,_,_,_=>by simp only [List.take_zero,Iss]
 | n + 1,[],vs,h=>by
  simp only [Iss] at h
  subst h
  simp only [List.take_nil,Iss]
 | n + 1,d :: l,vs,h=>by
  simp only [Iss] at h
  obtain ⟨v,r,rfl,h1,h2⟩:=h
  simp only [List.take_succ_cons,Iss]
  exact ⟨v,_,rfl,h1,Iss.take n h2⟩
theorem Iss.rev {H:Hp}:∀ {l:List L3.D} {vs:List V},Iss K H l vs -> Iss K H l.reverse vs.reverse
 | [],vs,h=>by
  simp only [Iss] at h
  subst h
  simp only [List.reverse_nil,Iss]
 | d :: l,vs,h=>by
  simp only [Iss] at h
  obtain ⟨v,r,rfl,h1,h2⟩:=h
  rw [List.reverse_cons,List.reverse_cons]
  exact Iss.append (Iss.rev h2) (by simp only [Iss]; exact ⟨v,[],rfl,h1,rfl⟩)
theorem Zb {H:Hp} {W D Dn:Addr} {k:Int} {l:List Nat} {ns:List Int} {ws:List (List Nat)} {σ:L2.St} {Q:VK} {g:TG} (hg:g = y8 0) (hσ:vU σ 1 [0,1,2] = [none,some (.int k),some (.str (tx l)),some (.ref Dn)]) (hN:H Dn = some (.lst (ns.map V.int))) (hln:l.length <= ns.length) (hl26:l.length <= 26) (hW:H W = some (.lst (tW ws))) (hw:∀ w ∈ ws,w.length <= 1000 /\ ∀ c ∈ w,c ∈ l) (hl:ws.length <= 1000) (hD:H D = none)
  (q:∀ (rs:List Addr) (H':Hp),Same H H' -> H' D = some (.lst (rs.map V.ref)) -> rs.length = ws.length -> (∀ (i:Nat) (r:Addr) (w:List Nat),rs[i]? = some r -> ws[i]? = some w -> RkAt k l ns H' r w) -> Q (.ref D) H') :
  CompL K W g vD (uB wF [] E0 (zW (xh 1) (zW (xh 2) (zW (xh 3) (zW (xh 0) wU))))) 1 [0,1,2] σ H Q D:=by
 have s16:=yG
 subst hg
 refine CompL.by (xs:=tW ws) (fun i acc H'=>∃ rs:List Addr,acc = rs.map V.ref /\ rs.length = i /\ Same H H' /\ H' D = some (.lst acc) /\ ∀ (j:Nat) (r:Addr) (w:List Nat),rs[j]? = some r -> ws[j]? = some w -> ∃ q,q ≠ D /\ H' r = some (.tup [.int (vP k l ns w),.ref q]) /\ H' q = some (.lst ((yV l (vv k w)).map V.int))) ⟨[],rfl,rfl,zf hD,zd,fun j r w h=>by simp at h⟩ (fun i acc H' _ h=>by obtain ⟨_,_,_,hs,_⟩:=h; exact SqL.of (hs _ _ hW)) ?_ ?_
 ·rintro i v acc H' hv ⟨rs,rfl,hi,hs,hH,hr⟩
  rw [List.getElem?_map] at hv
  obtain ⟨w,hw0,rfl⟩:=Option.map_eq_some_iff.mp hv
  have hil:=(List.getElem?_eq_some_iff.mp hw0).1
  obtain ⟨w1,w2⟩:=hw w (List.mem_of_getElem? hw0)
  rw [hσ]
  simp only [vD]
  rfl'
  refine ⟨uc,k,l,Dn,ns,w,rfl,hs _ _ hN,hln,hl26,w1,w2,fun p q' H5 s5 hq hp5 hq5=>⟨s5 _ _ hH,by rw [List.length_map]; omega,CNx.mk (by rw [List.length_map]; exact hil) ⟨rs ++ [p],by rw [List.map_append]; rfl,by rw [List.length_append,hi]; rfl,zC (hs.trans s5) hD,zd,?_⟩⟩⟩
  have hD5:=s5 _ _ hH
  have tupNe:∀ {r:Addr} {vs:List V},H5 r = some (.tup vs) -> r ≠ D:=fun {r vs} e z=>by rw [z,hD5] at e; cases e
  intro j r x h1 h2
  by_cases hj:j < i
  ·rw [List.getElem?_append_left (by omega)] at h1
   obtain ⟨q2,n2,a1,a2⟩:=hr j r x h1 h2
   exact ⟨q2,n2,by rw [zi (tupNe (s5 _ _ a1))]; exact s5 _ _ a1,by rw [zi n2]; exact s5 _ _ a2⟩
  ·rw [List.getElem?_append_right (by omega)] at h1
   have hj0:j = i:=by
    have:=(List.getElem?_eq_some_iff.mp h1).1
    simp at this
    omega
   subst hj0
   rw [hi,Nat.sub_self] at h1
   cases h1
   rw [hw0] at h2
   cases h2
   have n2:q' ≠ D:=fun z=>by rw [z,hH] at hq; cases hq
   exact ⟨q',n2,by rw [zi (tupNe hp5)]; exact hp5,by rw [zi n2]; exact hq5⟩
 ·rintro acc H' ⟨rs,rfl,hi,hs,hH,hr⟩
  rw [List.length_map] at hi
  exact q rs H' hs hH hi fun i r w h1 h2=>by
   obtain ⟨q2,_,a1,a2⟩:=hr i r w h1 h2
   exact ⟨q2,a1,a2⟩
def RlI (K:PySem.W.Frag) (k c:Int) (l:List Nat) (ns:List Int) (D Ma La W R:Addr) (L:List (List Nat)) (H3:Hp) (Rl:Addr) (i:Nat) (σ:L2.St) (H':Hp):Prop:=∃ (qs:List zK) (x:Int) (v10 v11:Option V),Same H3 H' /\ LsA K H' Rl (qs.map dR) /\ (∀ p ∈ qs,RuD k l ns p) /\ qs.map Prod.fst = L.take i /\ σ = [some (.int k),some (.str (tx l)),some (.ref D),some (.ref Ma),some (.ref La),some (.int c),some (.ref W),some (.ref R),some (.int x),some (.ref Rl),v10,v11,none]
theorem sc_rules:zo ["_law_kind", "_law_letters_here", "_law_weights_here", "_law_members_here", "_law_lefts", "_law_cell", "_law_words", "_law_ranks", "_law_number", "_law_rules_here", "_law_left", "_law_rank_here", "_law_at"] ["_law_kind", "_law_letters_here", "_law_weights_here", "_law_members_here", "_law_lefts", "_law_cell"] (zb ww):=⟨rfl,rfl,rfl,by decide +kernel,rfl,by decide +kernel,by decide +kernel⟩
theorem XZ {f:Addr} {fd:FuncData} (B:Bt mg)  (F:Fun K "_law_rules" "_law_rules" ww f fd) (D_rank:Df P w K mg base CX0 1 "_law_rank" ["_law_kind", "_law_letters_here", "_law_weights_here", "_law_word"] [] wF) (D_right:Df P w K mg base CX0 2 "_law_right" ["_law_left", "_law_words", "_law_ranks", "_law_rank_here", "_law_cell"] [] (qw K)):FnOk P w K mg base CX0 3 f fd ["_law_kind", "_law_letters_here", "_law_weights_here", "_law_members_here", "_law_lefts", "_law_cell"] (qE K):=by
 refine F.ok sc_rules (fun vs H Q E h=>?_) (fun cdv A outer s H vs Q E hr h=>?_)
 ·obtain ⟨k,c,l,D,Ma,La,ns,M,L,rfl,_⟩:=h
  rfl
 ·obtain ⟨k,c,l,D,Ma,La,ns,M,L,rfl,hg,hD,hln,hM,hL,hF,hM30,hL180,q⟩:=h
  refine ⟨_,(zh (zq (i:=6) sc_rules.nd rfl (Or.inl rfl) (zw zM (pv 3) (pv 4)))
   (zh (jG (i:=7) sc_rules.nd rfl (Or.inl rfl) (Or.inl rfl) (own:=["_law_word"]) (caps:=["_law_kind", "_law_letters_here", "_law_weights_here"]) (ix:=[0,1,2]) (tt:=vD) (te:=(uB wF [] E0 (zW (xh 1) (zW (xh 2) (zW (xh 3) (zW (xh 0) wU)))))) rfl (yy (sc:=zb ww) rfl (by decide +kernel) (by decide +kernel) (by decide +kernel) rfl (by decide +kernel) (by decide +kernel) rfl) (yx (pv 6)) (fun _ _ _ _ _ _=>zu (i:=0) (show List.Nodup [_,_,_,_] by decide) rfl (Or.inl rfl)) (fun _ _ _ _ _ _=>xy) (fun _ _ _ _ _ _=>(cl0 D_rank hr .nil rfl (za (pv 1) (za (pv 2) (za (pv 3) (za (pv 0) zc)))))))
   (zh (zq (i:=8) sc_rules.nd rfl (Or.inl rfl) (zw zM (zw yA (pv 5) zg) zg))
   (zh (zq (i:=9) sc_rules.nd rfl (Or.inl rfl) (yX zc))
   (zh (yl PassesOwn.never rfl (yx (pv 4)) (zu (i:=10) sc_rules.nd rfl (Or.inl rfl))
    (zh (zq (i:=8) sc_rules.nd rfl (Or.inl rfl) (zw yA (zw vo (pv 8) zg) zg))
    (zh (zq (i:=11) sc_rules.nd rfl (Or.inl rfl) (cl0 D_rank hr .nil rfl (za (pv 0) (za (pv 1) (za (pv 2) (za (pv 10) zc))))))
    (ze (yQ (xC PySem.F.plainAttrs_list PySem.F.slot_list_append PySem.F.type_list_append yz (pv 9) (za (vw (za (pv 10) (za (cl0 D_right hr .nil rfl (za (pv 10) (za (pv 6) (za (pv 7) (za (pv 11) (za (zw wv (pv 8) zg) zc)))))) zc))) zc)))))))
   (zh (zq (i:=12) sc_rules.nd rfl (Or.inl rfl) (zw yA (zw wv (pv 8) zg) (zn z7 rfl B.len PySem.boot_len (za (pv 9) zc))))
   (zh (zq (i:=9) sc_rules.nd rfl (Or.inl rfl) (zw zM (yj xZ (pv 9) (ym (pv 12)) xb) (yj xZ (pv 9) xb (ym (pv 12)))))
   (zh (ya (zy qA (zw yA (pv 5) zg) zg (zG _))
    (ze (yQ (VX PySem.F.plainAttrs_list PySem.F.slot_list_reverse PySem.F.type_list_reverse Zw (pv 9))))
    zx)
   (ze (zr (pv 9))))))))))),?_⟩
  have s16:=yG
  obtain ⟨l1,l6,lsm,lnd⟩:=of_decide_eq_true hg
  have hMw:∀ w ∈ M ++ L,w.length <= 31 /\ ∀ c ∈ w,c ∈ l:=fun w hw=>by
   rcases List.mem_append.mp hw with h | h
   ·have:=hF.ln w h
    exact ⟨by omega,hF.inl _ rfl h⟩
   ·obtain ⟨_,u,d,rfl,hu,hd⟩:=hF.lf w h
    have:=hF.ln u hu
    refine ⟨by simp only [List.length_append,List.length_cons,List.length_nil]; omega,fun c hc=>?_⟩
    rcases List.mem_append.mp hc with h | h
    ·exact hF.inl _ rfl hu c h
    ·rw [List.mem_singleton.mp h]
     exact hd
  have hlM:(tW M).length = M.length:=List.length_map ..
  have hlL:(tW L).length = L.length:=List.length_map ..
  have hM1:1 <= M.length:=List.length_pos_of_mem hF.nil
  refine zk (fun σ H'=>∃ W:Addr,Same H H' /\ H' W = some (.lst (tW (M ++ L))) /\ σ = [some (.int k),some (.str (tx l)),some (.ref D),some (.ref Ma),some (.ref La),some (.int c),some (.ref W),none,none,none,none,none,none]) ?_ ?_
  ·rfl'
   exact ⟨_,hM,_,hL,by omega,fun p hp=>⟨zf hp,by rw [zd]; simp [tW]⟩⟩
  rintro σ H1 ⟨W,s1,hW,rfl⟩
  refine zk (fun σ H'=>∃ (R:Addr) (rs:List Addr),Same H H' /\ H' W = some (.lst (tW (M ++ L))) /\ H' R = some (.lst (rs.map V.ref)) /\ rs.length = (M ++ L).length /\ (∀ (i:Nat) (r:Addr) (w:List Nat),rs[i]? = some r -> (M ++ L)[i]? = some w -> RkAt k l ns H' r w) /\ σ = [some (.int k),some (.str (tx l)),some (.ref D),some (.ref Ma),some (.ref La),some (.int c),some (.ref W),some (.ref R),none,none,none,none,none]) ?_ ?_
  ·rfl'
   exact ⟨⟨_,SqL.of hW⟩,fun R hR=>Zb rfl rfl (s1 _ _ hD) hln (by omega) hW (fun w hw=>⟨by have:=(hMw w hw).1; omega,(hMw w hw).2⟩) (by rw [List.length_append]; omega) hR fun rs H' s' hR' hrl hrk=>⟨s1.trans s',s' _ _ hW,R,rs,hR',hrl,hrk,rfl⟩⟩
  rintro σ H2 ⟨R,rs,s2,hW2,hR2,hrl,hrk,rfl⟩
  refine zk (fun σ H'=>H' = H2 /\ ∃ x:Int,σ = [some (.int k),some (.str (tx l)),some (.ref D),some (.ref Ma),some (.ref La),some (.int c),some (.ref W),some (.ref R),some (.int x),none,none,none,none]) ?_ ?_
  ·rfl'
   exact by decide
  rintro σ H3 ⟨rfl,x3,rfl⟩
  refine zk (fun σ H'=>∃ Rl:Addr,H3 Rl = none /\ Same H3 H' /\ H' Rl = some (.lst []) /\ σ = [some (.int k),some (.str (tx l)),some (.ref D),some (.ref Ma),some (.ref La),some (.int c),some (.ref W),some (.ref R),some (.int x3),some (.ref Rl),none,none,none]) ?_ ?_
  ·rfl'
   exact ⟨by omega,fun p hp=>⟨p,hp,zf hp,zd,rfl⟩⟩
  rintro σ H4 ⟨Rl,hRl,s4,hRl4,rfl⟩
  have hL3:H3 La = some (.lst (tW L)):=s2 _ _ hL
  have hD3:H3 D = some (.lst (ns.map V.int)):=s2 _ _ hD
  refine zk (RlI K k c l ns D Ma La W R L H3 Rl L.length) ?_ ?_
  ·rfl'
   refine ⟨⟨_,SqL.of (s4 _ _ hL3)⟩,ForL.by (xs:=tW L) (RlI K k c l ns D Ma La W R L H3 Rl) ⟨[],x3,none,none,s4,⟨[],hRl4,by simp only [List.map_nil,Iss]⟩,fun p h=>(nomatch h),rfl,rfl⟩ (fun i σ H' _ h=>by obtain ⟨_,_,_,_,hs,_⟩:=h; exact SqL.of (hs _ _ hL3)) ?_ fun σ H' h=>by rw [hlL] at h; exact h⟩
   rintro i y σ H' hy ⟨qs,x,v10,v11,hs,hLs,hQ,hqL,rfl⟩
   rw [List.getElem?_map] at hy
   obtain ⟨w,hw,rfl⟩:=Option.map_eq_some_iff.mp hy
   have hi:=(List.getElem?_eq_some_iff.mp hw).1
   have hwm:=List.mem_append_right M (List.mem_of_getElem? hw)
   obtain ⟨w31,wl⟩:=hMw w hwm
   have hql:qs.length = i:=by
    have:=congrArg List.length hqL
    rw [List.length_map,List.length_take] at this
    omega
   simp only [y8,List.set_cons_succ,List.set_cons_zero]
   refine zk (fun σ' G=>G = H' /\ ∃ x:Int,σ' = [some (.int k),some (.str (tx l)),some (.ref D),some (.ref Ma),some (.ref La),some (.int c),some (.ref W),some (.ref R),some (.int x),some (.ref Rl),some (.str (tx w)),v11,none]) ?_ ?_
   ·rfl'
    exact ⟨.inr ⟨by decide,by decide⟩,by decide⟩
   rintro σ' G ⟨rfl,x5,rfl⟩
   refine zk (fun σ' G'=>∃ pr:Addr,Same G G' /\ RkAt k l ns G' pr w /\ σ' = [some (.int k),some (.str (tx l)),some (.ref D),some (.ref Ma),some (.ref La),some (.int c),some (.ref W),some (.ref R),some (.int x5),some (.ref Rl),some (.str (tx w)),some (.ref pr),none]) ?_ ?_
   ·rfl'
    exact ⟨k,l,D,ns,w,rfl,hs _ _ hD3,hln,by omega,by omega,wl,fun p q' H5 s5 _ hp5 hq5=>⟨s5,p,⟨q',hp5,hq5⟩,rfl⟩⟩
   rintro σ' G2 ⟨pr,g2,hpr,rfl⟩
   have s32:=hs.trans g2
   obtain ⟨ys,hY,hJ⟩:=hLs.same g2
   have hyl:=hJ.len
   rw [List.length_map] at hyl
   rfl'
   refine ⟨.inl ⟨_,SqL.of hY⟩,⟨by decide,by decide⟩,w,W,R,pr,_,k,l,ns,M ++ L,rs,rfl,hF.ne (List.mem_of_getElem? hw),by omega,s32 _ _ hW2,s32 _ _ hR2,hrl,by rw [List.length_append]; omega,fun w hw=>by have:=(hMw w hw).1; omega,fun i r w h1 h2=>(hrk i r w h1 h2).same s32,hpr,fun v hv=>⟨by omega,fun p hp=>⟨ys,zf hp _ _ hY,by omega,?_⟩⟩⟩
   refine ⟨qs ++ [(w,v)],x5,_,_,zC (s32.trans (zf hp)) hRl,?_,fun p' h=>?_,?_,rfl⟩
   ·rw [List.map_append]
    exact LsA.snoc (zf hp _ _ hY) (Iss.same (zf hp) _ _ hJ) (kP qs) (YR (w,v)) (Q0 (SqT.of zd))
   ·rcases List.mem_append.mp h with h | h
    ·exact hQ p' h
    ·rw [List.mem_singleton.mp h]
     rcases hv with ⟨hv1,hv2⟩ | ⟨t,ht,e⟩
     ·obtain ⟨a1,a2⟩:=hMw v hv1
      exact ⟨wl,a2,by show w.length <= 40; omega,by show v.length <= 40; omega,.inl hv2⟩
     ·have e':w = v ++ t:=e
      have hvl:v.length <= w.length:=by rw [e',List.length_append]; omega
      exact ⟨wl,fun c hc=>wl c (by rw [e']; exact List.mem_append_left _ hc),by show w.length <= 40; omega,by show v.length <= 40; omega,.inr ⟨[],t,by simpa using ht,by simpa using e'⟩⟩
   ·rw [List.map_append,hqL,yg hw]
    rfl
  rintro σ H5 ⟨qs,x,v10,v11,s5,hLs,hQ,hqL,rfl⟩
  rw [List.take_length] at hqL
  have hql:qs.length = L.length:=by
   have:=congrArg List.length hqL
   rw [List.length_map] at this
   exact this
  have hL1:1 <= L.length:=by
   have hl0:l[0]? = some (l[0]'(by omega)):=List.getElem?_eq_getElem (by omega)
   have:=hF.some (List.mem_of_getElem? hl0)
   cases L with
   | nil=>exact absurd rfl this
   | cons a b=>simp
  obtain ⟨ys,hY,hJ⟩:=hLs
  have hyl:=hJ.len
  rw [List.length_map] at hyl
  refine zk (fun σ H'=>H' = H5 /\ ∃ z:Nat,z < L.length /\ σ = [some (.int k),some (.str (tx l)),some (.ref D),some (.ref Ma),some (.ref La),some (.int c),some (.ref W),some (.ref R),some (.int x),some (.ref Rl),v10,v11,some (.int (z:Nat))]) ?_ ?_
  ·rfl'
   have b0:=Int.emod_nonneg (x / 16) (b:=(ys.length:Int)) (by omega)
   have b1:=Int.emod_lt_of_pos (x / 16) (b:=(ys.length:Int)) (by omega)
   exact ⟨⟨by decide,by decide⟩,_,.inl ⟨_,SqL.of hY,rfl⟩,by omega,(x / 16 % (ys.length:Int)).toNat,by omega,by omega⟩
  rintro σ H6 ⟨rfl,z,hz,rfl⟩
  refine zk (fun σ H'=>∃ (Q2:Addr) (v12:Option V),H Q2 = none /\ Same H6 H' /\ LsA K H' Q2 ((qs.drop z ++ qs.take z).map dR) /\ σ = [some (.int k),some (.str (tx l)),some (.ref D),some (.ref Ma),some (.ref La),some (.int c),some (.ref W),some (.ref R),some (.int x),some (.ref Q2),v10,v11,v12]) ?_ ?_
  ·rfl'
   have e1:Xp ys (some (z:Int)) none = ys.drop z:=by
    show cut ys (some (z:Int)) none = _
    rw [wK _ (by omega),Int.toNat_natCast]
   have e2:Xp ys none (some (z:Int)) = ys.take z:=by
    show cut ys none (some (z:Int)) = _
    rw [qZ _ (by omega),Int.toNat_natCast]
   refine ⟨ys,SqL.of hY,fun p hp=>⟨ys,SqL.of (zf hp _ _ hY),fun p1 hp1=>?_⟩⟩
   have sA:=zf (o:=.lst (Xp ys (some (z:Int)) none)) hp
   have sB:=zf (o:=.lst (Xp ys none (some (z:Int)))) hp1
   refine ⟨_,sB _ _ zd,_,zd,by rw [e1,e2,List.length_drop,List.length_take]; omega,fun p2 hp2=>⟨p2,jz ((s2.trans s5).trans (sA.trans sB)) hp2,sA.trans (sB.trans (zf hp2)),⟨_,zd,?_⟩,rfl⟩⟩
   rw [e1,e2,List.map_append,List.map_drop,List.map_take]
   rw [e1,e2] at hp2
   rw [e1] at sA hp1
   rw [e1,e2] at sB
   exact Iss.same (sA.trans (sB.trans (zf hp2))) _ _ (Iss.append (Iss.drop z hJ) (Iss.take z hJ))
  rintro σ H7 ⟨Q2,v12,hQ2,s7,hL7,rfl⟩
  obtain ⟨zs,hZ,hZ2⟩:=hL7
  have hps:∀ p ∈ qs.drop z ++ qs.take z,p ∈ qs:=fun p hp=>by
   rcases List.mem_append.mp hp with h | h
   ·exact List.mem_of_mem_drop h
   ·exact List.mem_of_mem_take h
  have hsp:∀ p ∈ qs,p ∈ qs.drop z ++ qs.take z:=fun p hp=>by
   rw [<- List.take_append_drop z qs] at hp
   rcases List.mem_append.mp hp with h | h
   ·exact List.mem_append_right _ h
   ·exact List.mem_append_left _ h
  have hall:∀ x ∈ L,∃ p ∈ qs,p.1 = x:=fun x hx=>by
   rw [<- hqL] at hx
   obtain ⟨p,hp,e⟩:=List.mem_map.mp hx
   exact ⟨p,hp,e⟩
  have hin:∀ p ∈ qs,p.1 ∈ L:=fun p hp=>by
   rw [<- hqL]
   exact List.mem_map.mpr ⟨p,hp,rfl⟩
  have hlen:(qs.drop z ++ qs.take z).length = L.length:=by
   rw [List.length_append,List.length_drop,List.length_take]
   omega
  have s07:Same H H7:=(s2.trans s5).trans s7
  refine zk (fun σ H'=>∃ (ps:List zK),Same H H' /\ LsA K H' Q2 (ps.map dR) /\ (∀ p ∈ ps,RuD k l ns p) /\ (∀ p ∈ ps,p.1 ∈ L) /\ (∀ x ∈ L,∃ p ∈ ps,p.1 = x) /\ ps.length = L.length /\ σ = [some (.int k),some (.str (tx l)),some (.ref D),some (.ref Ma),some (.ref La),some (.int c),some (.ref W),some (.ref R),some (.int x),some (.ref Q2),v10,v11,v12]) ?_ ?_
  ·rfl'
   refine ⟨by decide,yL (fun _=>⟨.inl ⟨_,SqL.of hZ⟩,Q2,zs,rfl,rfl,hZ,zC s07 hQ2,(qs.drop z ++ qs.take z).reverse,⟨_,zd,?_⟩,fun p hp=>hQ p (hps p (List.mem_reverse.mp hp)),fun p hp=>hin p (hps p (List.mem_reverse.mp hp)),fun x hx=>?_,by rw [List.length_reverse]; exact hlen⟩) fun _=>⟨s07,_,⟨zs,hZ,hZ2⟩,fun p hp=>hQ p (hps p hp),fun p hp=>hin p (hps p hp),fun x hx=>?_,hlen⟩⟩
   ·rw [List.map_reverse]
    have:=Iss.updL (zs:=zs.reverse) hZ _ _ (kP _) hZ2
    exact Iss.rev this
   ·obtain ⟨p,hp,e⟩:=hall x hx
    exact ⟨p,List.mem_reverse.mpr (hsp p hp),e⟩
   ·obtain ⟨p,hp,e⟩:=hall x hx
    exact ⟨p,hsp p hp,e⟩
  rintro σ H8 ⟨ps,s8,hL8,p1,p2,p3,p4,rfl⟩
  rfl'
  exact q Q2 ps H8 s8 hQ2 hL8 p1 p2 p3 p4
theorem Yi:∀ {x y:List Int},ltP x y = true -> ltI x y = true
 | [],_,h=>by cases h
 | _ :: _,[],h=>by cases h
 | a :: x,b :: y,h=>by
  rw [ltP] at h
  rw [ltI]
  by_cases e:a = b
  ·rw [if_pos e] at h ⊢
   exact Yi h
  ·rw [if_neg e] at h ⊢
   exact h
theorem Z0 {l t:List Nat} {c:Nat} (h:c ∈ l):(l ++ t).idxOf c = l.idxOf c:=by
 rw [List.idxOf_append,if_pos h]
theorem j2 {l t u:List Nat} (h:∀ c ∈ u,c ∈ l):yV (l ++ t) u = yV l u:=by
 unfold yV
 exact List.map_congr_left fun c hc=>by rw [Z0 (h c hc)]
theorem Wz {k:Int} {l t w:List Nat} {ns:List Int} (k0:0 <= k) (hn:(l ++ t).Nodup) (hl:(l ++ t).length <= ns.length) (hw:∀ c ∈ w,c ∈ l):zp k.toNat (l ++ t) (ns.take (l ++ t).length) w = vP k l ns w:=by
 unfold zp
 by_cases h:k = 2
 ·subst h
  rw [if_pos (show Int.toNat 2 = 2 from rfl),<- ql hn (by rw [List.length_take]; omega) fun c hc=>List.mem_append_left _ (hw c hc)]
  unfold vP
  refine congrArg List.sum (List.map_congr_left fun c hc=>?_)
  rw [if_pos rfl,if_pos rfl,Z0 (hw c hc),List.getD_eq_getElem?_getD,List.getD_eq_getElem?_getD,List.getElem?_take,if_pos]
  have:=List.idxOf_lt_length_of_mem (hw c hc)
  rw [List.length_append]
  omega
 ·rw [if_neg (by omega),kD h]
theorem WJ {k:Int} {l t w:List Nat} (k0:0 <= k) (hw:∀ c ∈ w,c ∈ l):Zl k.toNat (l ++ t) w = yV l (vv k w):=by
 unfold Zl y0 vv
 by_cases h:k = 1
 ·subst h
  rw [if_pos (show Int.toNat 1 = 1 from rfl),if_pos rfl]
  exact j2 fun c hc=>hw c (List.mem_reverse.mp hc)
 ·rw [if_neg (by omega),if_neg h]
  exact j2 hw
theorem RuD.less {k:Int} {l t:List Nat} {ns:List Int} {p:zK} (h:RuD k l ns p) (k0:0 <= k) (hl:(l ++ t).length <= ns.length) (G:OG (l ++ t) (ns.take (l ++ t).length) k.toNat):zY k.toNat (l ++ t) (ns.take (l ++ t).length) p.2 p.1 = true:=by
 have hn:(l ++ t).Nodup:=(of_decide_eq_true G.g).2.2.2
 rcases h.lt with hlt | ⟨a,b,hne,e⟩
 ·unfold zY
  rw [Wz k0 hn hl h.i1,Wz k0 hn hl h.i2,WJ k0 h.i1,WJ k0 h.i2]
  unfold LtD at hlt
  by_cases e:vP k l ns p.2 = vP k l ns p.1
  ·rw [if_pos e] at hlt ⊢
   exact Yi hlt
  ·rw [if_neg e] at hlt ⊢
   exact hlt
 ·rw [e]
  have i1:=h.i1
  rw [e] at i1
  refine (X8 G (fun c hc=>List.mem_append_left _ (i1 c (by simp [hc]))) (fun c hc=>List.mem_append_left _ (h.i2 c hc)) (fun c hc=>List.mem_append_left _ (i1 c (by simp [hc]))) fun z=>hne ?_).1
  have:=congrArg List.length z
  simp only [List.length_append] at this
  have ha:a = []:=List.length_eq_zero_iff.mp (by omega)
  have hb:b = []:=List.length_eq_zero_iff.mp (by omega)
  rw [ha,hb]
  rfl
structure RuL (k:Nat) (l:List Nat) (ws:List Int) (m:Nat) (ps:List zK):Prop where
 len:∀ p ∈ ps,p.1.length <= m /\ p.2.length <= m
 inn:∀ p ∈ ps,(∀ c ∈ p.1,c ∈ l) /\ ∀ c ∈ p.2,c ∈ l
 lt:∀ p ∈ ps,zY k l ws p.2 p.1 = true
theorem RuL.inL {k:Nat} {l:List Nat} {ws:List Int} {m:Nat} {ps:List zK} (h:RuL k l ws m ps) (hm:m <= 1000):InL l ps:=fun p hp=>by
 have h1:=h.len p hp
 have h2:=h.inn p hp
 exact ⟨by omega,by omega,h2.1,h2.2⟩
theorem RuL.fault {k:Nat} {l:List Nat} {ws:List Int} {m:Nat} {ps:List zK} (h:RuL k l ws m ps):xW k l ws ps 0 = none:=vf fun m p e=>h.lt p (List.mem_of_getElem? e)
theorem Uh {l:List Nat} {M L:List (List Nat)} {ps:List zK} (hF:Fam l M L) (hN:NeL ps) (h1:∀ p ∈ ps,p.1 ∈ L \/ ∃ z x,x ∈ L /\ p.1 = z :: x) (h2:∀ x ∈ L,∃ p ∈ ps,p.1 = x):∀ m ∈ M,∀ c ∈ l,Sh ps (m ++ [c]) = decide (m ++ [c] ∈ M):=by
 intro m hm c hc
 have e:Sh ps (m ++ [c]) = true ↔ m ++ [c] ∈ M:=by
  rw [ZM hN,<- hF.iff hm hc]
  constructor
  ·intro h x hx a b e
   obtain ⟨p,hp,rfl⟩:=h2 x hx
   exact h p hp a b e
  ·intro h p hp a b e
   rcases h1 p hp with k | ⟨z,x,hx,k⟩
   ·exact h _ k a b e
   ·rw [k] at e
    exact h x hx (a ++ [z]) b (by rw [e]; simp)
 by_cases h:m ++ [c] ∈ M
 ·rw [e.mpr h,decide_eq_true h]
 ·rw [decide_eq_false h]
  exact Bool.eq_false_iff.mpr fun k=>h (e.mp k)
abbrev MkS (P:Program) (w:World) (K:PySem.W.Frag) (mg:Str -> Option Value) (base:Heap) (CO CR CW CT CH:Addr):Prop:=DMk P w K mg base (CXx P w) 5 CH ["self", "order", "rules"] (qB K CO CR CW CT CH)
theorem ut {α:Type} [DecidableEq α]:∀ {xs ys:List α},xs.Nodup -> (∀ x ∈ xs,x ∈ ys) -> xs.length <= ys.length
 | [],_,_,_=>Nat.zero_le _
 | x :: xs,ys,hn,hs=>by
  have hx:=hs x List.mem_cons_self
  obtain ⟨h1,h2⟩:=List.nodup_cons.mp hn
  have:=ut (ys:=ys.erase x) h2 fun y hy=>(List.mem_erase_of_ne fun e=>h1 (by rw [<- e]; exact hy)).mpr (hs y (List.mem_cons_of_mem _ hy))
  rw [List.length_erase_of_mem hx] at this
  have h0:=List.length_pos_of_mem hx
  rw [List.length_cons]
  omega
theorem XR {w o:List Nat} {q:Nat} (h:zz w (q:Int) o = true):w.take q ++ o ++ w.drop (q + o.length) = w:=by
 unfold zz at h
 obtain ⟨_,_,e⟩:=of_decide_eq_true h
 rw [Int.toNat_natCast] at e
 calc w.take q ++ o ++ w.drop (q + o.length) = w.take q ++ ((w.drop q).take o.length ++ (w.drop q).drop o.length):=by rw [e,List.drop_drop,List.append_assoc]
  _ = w.take q ++ w.drop q:=by rw [List.take_append_drop]
  _ = w:=List.take_append_drop q w
theorem X3 {w:List Nat} {ps:List zK} {u:Nat × Nat} (h:zF w ps = some u):∃ p,ps[u.1]? = some p /\ zz w (u.2:Int) p.1 = true:=by
 unfold zF at h
 have hm:u ∈ yJ w ps w.length:=List.mem_of_mem_head? h
 obtain ⟨_,h2⟩:=usesK_mem.mp hm
 obtain ⟨_,p,hp,hs⟩:=xX h2
 exact ⟨p,hp,hs⟩
theorem kJ {k:Nat} {l:List Nat} {ns:List Int} {ps:List zK} {w:List Nat} {u:Nat × Nat} (G:OG l ns k) (hp:∀ p ∈ ps,zY k l ns p.2 p.1 = true /\ (∀ c ∈ p.1,c ∈ l) /\ ∀ c ∈ p.2,c ∈ l) (hw:∀ c ∈ w,c ∈ l) (h:zF w ps = some u):zY k l ns (Zn w ps u) w = true /\ ∀ c ∈ Zn w ps u,c ∈ l:=by
 obtain ⟨p,h1,h2⟩:=X3 h
 have e1:=XR h2
 obtain ⟨p1,p2,p3⟩:=hp p (List.mem_of_getElem? h1)
 unfold Zn VQ
 rw [vR h1,Int.toNat_natCast]
 have ha:∀ c ∈ w.take u.2,c ∈ l:=fun c hc=>hw c (List.mem_of_mem_take hc)
 have hb:∀ c ∈ w.drop (u.2 + p.1.length),c ∈ l:=fun c hc=>hw c (List.mem_of_mem_drop hc)
 generalize w.take u.2 = a at *
 generalize w.drop (u.2 + p.1.length) = b at *
 rw [<- e1]
 have ap:∀ x:List Nat,(∀ c ∈ x,c ∈ l) -> ∀ c ∈ a ++ x,c ∈ l:=fun x hx c hc=>(List.mem_append.mp hc).elim (ha c) (hx c)
 refine ⟨?_,fun c hc=>(List.mem_append.mp hc).elim (ap p.2 p3 c) (hb c)⟩
 rw [(jm G hb (ap p.2 p3) (ap p.1 p2)).2,(jm G ha p3 p2).1]
 exact p1
section
variable {k:Nat} {l:List Nat} {ns:List Int} {ps:List zK} {w:List Nat}
theorem vW (G:OG l ns k) (hp:∀ p ∈ ps,zY k l ns p.2 p.1 = true /\ (∀ c ∈ p.1,c ∈ l) /\ ∀ c ∈ p.2,c ∈ l) (hw:∀ c ∈ w,c ∈ l):∀ j,∀ c ∈ wAt ps w j,c ∈ l
 | 0=>hw
 | j + 1=>by
  have ih:=vW G hp hw j
  cases e:zF (wAt ps w j) ps with
  | none =>
   show ∀ c ∈ Xq ps (wAt ps w j),c ∈ l
   unfold Xq
   rw [e]
   exact ih
  | some u =>
   rw [xQ e]
   exact (kJ G hp ih e).2
theorem Vi (G:OG l ns k) (hp:∀ p ∈ ps,zY k l ns p.2 p.1 = true /\ (∀ c ∈ p.1,c ∈ l) /\ ∀ c ∈ p.2,c ∈ l) (hw:∀ c ∈ w,c ∈ l):∀ j,wAt ps w j = w \/ zY k l ns (wAt ps w j) w = true
 | 0=>.inl rfl
 | j + 1=>by
  have ih:=Vi G hp hw j
  have hm:=vW G hp hw j
  cases e:zF (wAt ps w j) ps with
  | none =>
   show Xq ps (wAt ps w j) = w \/ zY k l ns (Xq ps (wAt ps w j)) w = true
   unfold Xq
   rw [e]
   exact ih
  | some u =>
   rw [xQ e]
   have h:=(kJ G hp hm e).1
   rcases ih with h' | h'
   ·rw [h'] at h ⊢
    exact .inr h
   ·exact .inr (vT h h')
theorem kr (G:OG l ns k) (hp:∀ p ∈ ps,zY k l ns p.2 p.1 = true /\ (∀ c ∈ p.1,c ∈ l) /\ ∀ c ∈ p.2,c ∈ l) (hw:∀ c ∈ w,c ∈ l) {i:Nat}:∀ {d:Nat},Uf ps w (i + d + 1) -> zY k l ns (wAt ps w (i + d + 1)) (wAt ps w i) = true
 | 0,h=>by
  cases e:zF (wAt ps w i) ps with
  | none=>exact absurd e (h i (by omega))
  | some u =>
   rw [Nat.add_zero,xQ e]
   exact (kJ G hp (vW G hp hw i) e).1
 | d + 1,h=>by
  have ih:=kr G hp hw (i:=i) (d:=d) fun m hm=>h m (by omega)
  cases e:zF (wAt ps w (i + (d + 1))) ps with
  | none=>exact absurd e (h _ (by omega))
  | some u =>
   rw [xQ e]
   exact vT (kJ G hp (vW G hp hw _) e).1 ih
theorem ZG (G:OG l ns k) (hp:∀ p ∈ ps,zY k l ns p.2 p.1 = true /\ (∀ c ∈ p.1,c ∈ l) /\ ∀ c ∈ p.2,c ∈ l) (hw:∀ c ∈ w,c ∈ l) {Ws:List (List Nat)} (hin:∀ v,(∀ c ∈ v,c ∈ l) -> (v = w \/ zY k l ns v w = true) -> v ∈ Ws):∃ J,J < Ws.length /\ Uf ps w J /\ zF (wAt ps w J) ps = none:=by
 have live:∀ N,(∃ J,J < N /\ Uf ps w J /\ zF (wAt ps w J) ps = none) \/ Uf ps w N:=fun N=>by
  induction N with
  | zero=>exact .inr fun i hi=>absurd hi (Nat.not_lt_zero i)
  | succ N ih =>
   rcases ih with ⟨J,h1,h2,h3⟩ | h
   ·exact .inl ⟨J,by omega,h2,h3⟩
   ·cases e:zF (wAt ps w N) ps with
    | none=>exact .inl ⟨N,by omega,h,e⟩
    | some u =>
     refine .inr fun i hi=>?_
     by_cases hi':i < N
     ·exact h i hi'
     ·have:i = N:=by omega
      rw [this,e]
      exact fun z=>by cases z
 rcases live Ws.length with h | h
 ·exact h
 ·have hn:((List.range (Ws.length + 1)).map (wAt ps w)).Nodup:=by
   rw [List.nodup_iff_pairwise_ne,List.pairwise_map]
   refine List.Pairwise.imp_of_mem (fun {i j} hi hj hij e=>?_) List.pairwise_lt_range
   rw [List.mem_range] at hi hj
   have:=kr G hp hw (i:=i) (d:=j - i - 1) fun m hm=>h m (by omega)
   rw [show i + (j - i - 1) + 1 = j by omega,<- e,qK] at this
   cases this
  have:=ut hn (ys:=Ws) fun v hv=>by
   obtain ⟨i,_,rfl⟩:=List.mem_map.mp hv
   exact hin _ (vW G hp hw i) (Vi G hp hw i)
  rw [List.length_map,List.length_range] at this
  omega
end
def wlF (l:List Nat) (f:Nat -> Nat):Nat -> Nat -> List (List Nat)
 | 0,_=>[[]]
 | n + 1,W=>[] :: l.flatMap fun c=>if f c <= W then (wlF l f n (W - f c)).map (c :: ·) else []
def ku (fs:List Nat):Nat -> Nat -> Nat
 | 0,_=>1
 | n + 1,W=>1 + (fs.map fun x=>if x <= W then ku fs n (W - x) else 0).sum
theorem ZP (l:List Nat) (f:Nat -> Nat):∀ n W,(wlF l f n W).length = ku (l.map f) n W
 | 0,_=>rfl
 | n + 1,W=>by
  unfold wlF ku
  rw [List.length_cons,List.length_flatMap,List.map_map,Nat.add_comm]
  congr 2
  refine List.map_congr_left fun c _=>?_
  show (if f c <= W then (wlF l f n (W - f c)).map (c :: ·) else []).length = _
  by_cases h:f c <= W
  ·rw [if_pos h,List.length_map,ZP l f n]
   exact (if_pos h).symm
  ·rw [if_neg h]
   exact (if_neg h).symm
theorem YH {l:List Nat} {f:Nat -> Nat}:∀ {n W:Nat} {v:List Nat},(∀ c ∈ v,c ∈ l) -> v.length <= n -> (v.map f).sum <= W -> v ∈ wlF l f n W
 | 0,W,v,_,hl,_=>by
  rw [List.length_eq_zero_iff.mp (Nat.le_zero.mp hl)]
  exact List.mem_singleton.mpr rfl
 | n + 1,W,[],_,_,_=>List.mem_cons_self
 | n + 1,W,c :: v,hv,hl,hs=>by
  rw [List.map_cons,List.sum_cons] at hs
  refine List.mem_cons_of_mem _ (List.mem_flatMap.mpr ⟨c,hv c List.mem_cons_self,?_⟩)
  rw [if_pos (by omega)]
  exact List.mem_map.mpr ⟨v,YH (fun d hd=>hv d (List.mem_cons_of_mem _ hd)) (by simpa using hl) (by omega),rfl⟩
theorem Ze {l p:List Nat} {q:Nat} (h:q < l.length):decide (cut l (some (q:Int)) (some ((q:Int) + (p.length:Int))) = p) = zz l (q:Int) p:=by
 rw [WF l (by omega) (by omega)]
 have e:((q:Int) + (p.length:Int) - (q:Int)).toNat = p.length:=by omega
 rw [e,Int.toNat_natCast]
 unfold zz
 refine decide_eq_decide.mpr ⟨fun h1=>⟨by omega,?_,by rw [Int.toNat_natCast]; exact h1⟩,fun h1=>by have:=h1.2.2; rw [Int.toNat_natCast] at this; exact this⟩
 have h2:=congrArg List.length h1
 rw [List.length_take,List.length_drop] at h2
 omega
theorem Up {p:Addr} {a b:V} {i j:Nat} {σ:L2.St} {H:Hp} {R:L2.St -> Hp -> Prop} (h:SqT K H p [a,b]) (k:R ((σ.set i (some a)).set j (some b)) H):UM K 2 (jI (y8 i) (jI (y8 j) UD)) (.ref p) σ H R:=by
 simp only [UM,jI,y8,UD]
 first
 | exact ⟨_,_,rfl,h,rfl,_,_,rfl,_,_,rfl,rfl,k⟩
 | exact ⟨_,_,rfl,.inr h,rfl,_,_,rfl,_,_,rfl,rfl,k⟩
def Wc (K:PySem.W.Frag):Sp:=fun vs H Q _=>∃ (a:Addr) (ps:List zK) (l:List Nat),vs = [.ref a,.str (tx l)] /\ LsA K H a (ps.map dR) /\ l.length <= 1000 /\ (∀ p ∈ ps,p.1.length <= 1000 /\ p.2.length <= 1000) /\ (zF l ps = none -> Q .non H) /\ ∀ u,zF l ps = some u -> Q (.str (tx (Zn l ps u))) H
theorem sc_first:zo ["_law_rules_here", "_law_word", "_law_at", "_law_left", "_law_right_here"] ["_law_rules_here", "_law_word"] (zb vh):=⟨rfl,rfl,rfl,by decide +kernel,rfl,by decide +kernel,by decide +kernel⟩
theorem Wm {f:Addr} {fd:FuncData} (B:Bt mg)  (F:Fun K "_law_first" "_law_first" vh f fd)  : FnOk P w K mg base CX0 1 f fd ["_law_rules_here", "_law_word"] (Wc K):=by
 refine F.ok sc_first (fun vs H Q E h=>?_) (fun cdv A outer s H vs Q E hr h=>?_)
 ·obtain ⟨a,ps,l,rfl,_⟩:=h
  rfl
 ·obtain ⟨a,ps,l,rfl,hA,hl,hP,k1,k2⟩:=h
  refine ⟨_,(zh (yl PassesOwn.never rfl (xG rfl B.range (za (zn z7 rfl B.len PySem.boot_len (za (pv 1) zc)) zc)) (zu (i:=2) sc_first.nd rfl (Or.inl rfl))
    (ze (yl PassesOwn.never rfl (yx (pv 0)) (ue (n:=2) rfl (ye (zu (i:=3) sc_first.nd rfl (Or.inl rfl)) (ye (zu (i:=4) sc_first.nd rfl (Or.inl rfl)) wp)))
     (ze (ya (zy qA (yj xZ (pv 1) (ym (pv 2)) (ym (zw zM (pv 2) (zn z7 rfl B.len PySem.boot_len (za (pv 3) zc))))) (pv 3) (zG _))
      (ze (zr (zw zM (zw zM (yj xZ (pv 1) xb (ym (pv 2))) (pv 4)) (yj xZ (pv 1) (ym (zw zM (pv 2) (zn z7 rfl B.len PySem.boot_len (za (pv 3) zc)))) xb))))
      zx)))))
   (ze (zr wC))),?_⟩
  have s16:=yG
  obtain ⟨xs,h2,h3⟩:=id hA
  have hxl:=h3.len
  rw [List.length_map] at hxl
  refine zk (fun σ H'=>H' = H /\ FirstN l ps 0 l.length ps.length none) ?_ ?_
  ·rfl'
   refine ⟨by omega,by omega,by omega,ForR.by (fun i σ H'=>H' = H /\ FirstN l ps 0 i ps.length none /\ ∃ v2 v3 v4,σ = [some (.ref a),some (.str (tx l)),v2,v3,v4]) ⟨rfl,.inl ⟨rfl,fun j q _ _ h=>by omega⟩,_,_,_,rfl⟩ ?_ ?_⟩
   ·rintro i σ H' hi ⟨rfl,hF,v2,v3,v4,rfl⟩
    have hF':∀ j q,j < ps.length -> q < i -> stJ l ps q j = false:=by
     rcases hF with ⟨_,h⟩ | ⟨_,_,h,_⟩
     ·exact fun j q a b=>h j q a (Nat.zero_le _) b
     ·cases h
    rw [show (0:Int) + (i:Int) = (i:Int) by omega]
    rw [Int.toNat_natCast] at hi
    rfl'
    refine ⟨⟨_,SqL.of h2⟩,ForL.by (xs:=xs) (fun j σ H''=>H'' = H' /\ (∀ j',j' < j -> stJ l ps i j' = false) /\ ∃ v3 v4,σ = [some (.ref a),some (.str (tx l)),some (.int (i:Nat)),v3,v4]) ⟨rfl,fun j' h=>absurd h (Nat.not_lt_zero _),_,_,rfl⟩ (fun j σ H'' _ h=>by rw [h.1]; exact SqL.of h2) ?_ ?_⟩
    ·rintro j x σ H'' hx ⟨rfl,hn,v3,v4,rfl⟩
     obtain ⟨r,pr,hri,rfl,hqr⟩:=h3.getR hx
     have hm:=hP r (List.mem_of_getElem? hri)
     have hj:=(List.getElem?_eq_some_iff.mp hri).1
     refine Up hqr ?_
     simp only [List.set_cons_succ,List.set_cons_zero]
     rfl'
     have ec:=Ze (l:=l) (p:=r.1) (q:=i) hi
     refine ⟨by omega,by omega,yL (fun hb=>?_) fun hb=>fun j' hj'=>?_⟩
     ·have hst:zz l (i:Int) r.1 = true:=by rw [<- ec]; exact decide_eq_true hb
      have hu:zF l ps = some (j,i):=(vK (.inr ⟨j,i,rfl,hj,Nat.zero_le _,hi,by rw [vz hri]; exact hst,fun j' q' hj' _ hb'=>by
       rcases Nat.lt_trichotomy q' i with h | h | h
       ·rw [hF' j' q' hj' h] at hb'
        cases hb'
       ·subst h
        refine .inr ⟨rfl,?_⟩
        rcases Nat.lt_or_ge j' j with h | h
        ·rw [hn j' h] at hb'
         cases hb'
        ·exact h
       ·exact .inl h⟩)).symm
      have eu:cut l none (some (i:Int)) ++ r.2 ++ cut l (some ((i:Int) + (r.1.length:Int))) none = Zn l ps (j,i):=by
       unfold Zn VQ
       rw [vR hri,qZ _ (by omega),wK _ (by omega),Int.toNat_natCast]
       rw [show ((i:Int) + (r.1.length:Int)).toNat = i + r.1.length by omega]
      have c1:=wg l none (some (i:Int))
      have c2:=wg l (some ((i:Int) + (r.1.length:Int))) none
      rw [eu]
      exact ⟨by omega,by omega,by omega,by omega,by rw [List.length_append]; omega,k2 _ hu⟩
     ·by_cases e:j' < j
      ·exact hn j' e
      ·have:j' = j:=by omega
       subst this
       rw [vz hri,<- ec]
       exact decide_eq_false hb
    ·rintro σ H'' ⟨rfl,hn,v3,v4,rfl⟩
     rw [hxl] at hn
     refine ⟨rfl,.inl ⟨rfl,fun j q hj _ hq=>?_⟩,_,_,_,rfl⟩
     by_cases e:q < i
     ·exact hF' j q hj e
     ·have:q = i:=by omega
      rw [this]
      exact hn j hj
   ·rintro σ H' ⟨rfl,hF,v2,v3,v4,rfl⟩
    rw [Int.toNat_natCast] at hF
    exact ⟨rfl,hF⟩
  rintro σ H1 ⟨rfl,hF⟩
  rfl'
  exact k1 (vK hF).symm
def vG (K:PySem.W.Frag):Sp:=fun vs H Q _=>∃ (a:Addr) (ps:List zK) (l:List Nat),vs = [.ref a,.str (tx l)] /\ LsA K H a (ps.map dR) /\ (∀ p ∈ ps,p.1.length <= 1000 /\ p.2.length <= 1000) /\ xg ps l /\ Q (.str (tx (Zr ps l))) H
def AhV (ps:List zK) (l:List Nat) (j:Nat):V:=match zF (wAt ps l j) ps with
 | none=>.non
 | some _=>.str (tx (wAt ps l (j + 1)))
theorem km {ps:List zK} {l:List Nat} {j:Nat} (h:zF (wAt ps l j) ps = none):AhV ps l j = .non:=by
 unfold AhV
 rw [h]
theorem kj {ps:List zK} {l:List Nat} {j:Nat} {u:Nat × Nat} (h:zF (wAt ps l j) ps = some u):AhV ps l j = .str (tx (wAt ps l (j + 1))):=by
 unfold AhV
 rw [h]
def FoI (ps:List zK) (l:List Nat) (H:Hp) (a:Addr) (J:Nat) (m:Nat) (σ:L2.St) (H':Hp):Prop:=∃ j,m = J - j /\ j <= J /\ H' = H /\ σ = [some (.ref a),some (.str (tx (wAt ps l j))),some (AhV ps l j)]
theorem sc_form:zo ["_law_rules_here", "_law_word", "_law_ahead"] ["_law_rules_here", "_law_word"] (zb uH):=⟨rfl,rfl,rfl,by decide +kernel,rfl,by decide +kernel,by decide +kernel⟩
theorem VI {f:Addr} {fd:FuncData} (B:Bt mg)  (F:Fun K "_law_form" "_law_form" uH f fd) (D_first:Df P w K mg base CX0 1 "_law_first" ["_law_rules_here", "_law_word"] [] (Wc K)):FnOk P w K mg base CX0 2 f fd ["_law_rules_here", "_law_word"] (vG K):=by
 refine F.ok sc_form (fun vs H Q E h=>?_) (fun cdv A outer s H vs Q E hr h=>?_)
 ·obtain ⟨a,ps,l,rfl,_⟩:=h
  rfl
 ·obtain ⟨a,ps,l,rfl,hA,hP,hE,k⟩:=h
  refine ⟨_,(zh (zq (i:=2) sc_form.nd rfl (Or.inl rfl) (cl0 D_first hr .nil rfl (za (pv 0) (za (pv 1) zc))))
   (zh (wB PassesOwn.never (zy op_notN' (pv 2) wC (zG _))
    (zt (zq (i:=1) sc_form.nd rfl (Or.inl rfl) (pv 2))
    (ze (zq (i:=2) sc_form.nd rfl (Or.inl rfl) (cl0 D_first hr .nil rfl (za (pv 0) (za (pv 1) zc)))))))
   (ze (zr (pv 1))))),?_⟩
  have s16:=yG
  obtain ⟨J,hJ,hR,hJe⟩:=hE
  have ask:∀ {j:Nat} {Q':VK},j <= J -> Q' (AhV ps l j) H -> Wc K [.ref a,.str (tx (wAt ps l j))] H Q' E0:=fun {j Q'} hj hq=>⟨a,ps,_,rfl,hA,hR.len j hj,hP,fun h=>by rw [km h] at hq; exact hq,fun u hu=>by rw [kj hu,xQ hu] at hq; exact hq⟩
  refine zk (FoI ps l H a J J) ?_ ?_
  ·rfl'
   exact ask (j:=0) (Nat.zero_le _) ⟨0,by omega,Nat.zero_le _,rfl,rfl⟩
  rintro σ H1 h1
  refine zk (fun σ H'=>H' = H /\ ∃ v2,σ = [some (.ref a),some (.str (tx (Zr ps l))),v2]) ?_ ?_
  ·unfold uK
   refine ⟨FoI ps l H a J,⟨J,h1⟩,?_⟩
   rintro m σ H' ⟨j,rfl,hj,rfl,rfl⟩
   cases e:zF (wAt ps l j) ps with
   | none =>
    rw [km e]
    rfl'
    rw [u0 (by omega) e]
    exact yL (fun h=>absurd trivial h) fun _=>rfl
   | some u =>
    have hlt:j < J:=by
     rcases Nat.lt_or_ge j J with h | h
     ·exact h
     ·have:j = J:=by omega
      rw [this,hJe] at e
      cases e
    rw [kj e]
    rfl'
    exact ⟨FoI ps l H' a J (J - (j + 1)),fun σ' H'' h=>⟨_,by omega,h⟩,ask (j:=j + 1) (by omega) ⟨j + 1,rfl,by omega,rfl,rfl⟩⟩
  rintro σ H2 ⟨rfl,v2,rfl⟩
  rfl'
  exact k
def WtO (m n:Nat) (ns:List Int):Prop:=(∃ v,ns = List.replicate m v) \/ (m = 2 /\ n <= 7 /\ ∀ x ∈ ns,x <= 2)
def WW (K:PySem.W.Frag):Sp:=fun vs H Q _=>∃ (m:Nat) (Ma:Addr) (c:Int) (M:List (List Nat)),vs = [.int (m:Nat),.ref Ma,.int c] /\ m <= 6 /\ H Ma = some (.lst (tW M)) /\ ∀ (D:Addr) (ns:List Int) (H':Hp),Same H H' -> H' D = some (.lst (ns.map V.int)) -> ns.length = m -> (∀ n ∈ ns,1 <= n /\ n <= 1000000) -> WtO m M.length ns -> Q (.ref D) H'
theorem XV (m:Nat) (v:V):(List.replicate m [v]).flatten = List.replicate m v:=by
 induction m with
 | zero=>rfl
 | succ m ih=>rw [List.replicate_succ,List.flatten_cons,ih,List.replicate_succ]; rfl
theorem kZ:zo ["_law_many", "_law_members_here", "_law_cell"] ["_law_many", "_law_members_here", "_law_cell"] (zb xq):=⟨rfl,rfl,rfl,by decide +kernel,rfl,by decide +kernel,by decide +kernel⟩
theorem kX {f:Addr} {fd:FuncData} (B:Bt mg)  (F:Fun K "_law_weights" "_law_weights" xq f fd)  : FnOk P w K mg base CX0 1 f fd ["_law_many", "_law_members_here", "_law_cell"] (WW K):=by
 refine F.ok kZ (fun vs H Q E h=>?_) (fun cdv A outer s H vs Q E hr h=>?_)
 ·obtain ⟨m,Ma,c,M,rfl,_⟩:=h
  rfl
 ·obtain ⟨m,Ma,c,M,rfl,m6,hM,q⟩:=h
  refine ⟨_,(zh (ya (PW.pt (Xe (zy qA (pv 0) zg (zG _)) (Xe (zy xp (zn z7 rfl B.len PySem.boot_len (za (pv 1) zc)) zg (zG _)) (Ym (zy qA (zw yA (pv 2) zg) zg (zG _))))))
    (ze (zr (yX (za (zw zM zg (zw yA (zw wv (pv 2) zg) zg)) (za (zw zM zg (zw yA (zw wv (pv 2) zg) zg)) zc)))))
    zx)
   (ze (zr (zw Um (yX (za (zw zM zg (zw yA (zw wv (pv 2) zg) zg)) zc)) (pv 0))))),?_⟩
  have s16:=yG
  refine zk (fun σ H'=>H' = H /\ σ = [some (.int (m:Nat)),some (.ref Ma),some (.int c)]) ?_ ?_
  ·rfl'
   refine yL (fun h2=>⟨_,.inl ⟨_,SqL.of hM,rfl⟩,yL (fun h7=>⟨by decide,yL (fun _=>?_) fun _=>trivial⟩) fun _=>trivial⟩) fun _=>trivial
   have a0:=Int.emod_nonneg (c / 2) (b:=2) (by decide)
   have a1:=Int.emod_lt_of_pos (c / 2) (b:=2) (by decide)
   have b0:=Int.emod_nonneg (c / 4) (b:=2) (by decide)
   have b1:=Int.emod_lt_of_pos (c / 4) (b:=2) (by decide)
   have hm2:m = 2:=by omega
   rw [List.length_map] at h7
   refine ⟨⟨by decide,by decide⟩,by decide,⟨by decide,by decide⟩,by decide,by omega,fun p hp=>q p [1 + c / 2 % 2,1 + c / 4 % 2] _ (zf hp) zd (by rw [hm2]; rfl) (fun n hn=>?_) (.inr ⟨hm2,by omega,fun n hn=>?_⟩)⟩
   ·simp only [List.mem_cons,List.not_mem_nil,or_false] at hn
    omega
   ·simp only [List.mem_cons,List.not_mem_nil,or_false] at hn
    omega
  rintro σ H1 ⟨rfl,rfl⟩
  rfl'
  have a0:=Int.emod_nonneg (c / 2) (b:=1000000) (by decide)
  have a1:=Int.emod_lt_of_pos (c / 2) (b:=1000000) (by decide)
  refine ⟨⟨by decide,by decide⟩,by decide,by omega,fun p1 h1=>⟨p1,_,_,rfl,rfl,zd,by omega,by omega,by simp only [List.length_cons,List.length_nil]; omega,fun p hp=>?_⟩⟩
  rw [XV,Int.toNat_natCast]
  exact q p (List.replicate m (1 + c / 2 % 1000000)) _ ((zf h1).trans (zf hp)) (by rw [zd,List.map_replicate]) (by simp) (fun n hn=>by have:=List.eq_of_mem_replicate hn; omega) (.inl ⟨_,rfl⟩)
def jM (K:PySem.W.Frag):Sp:=fun vs H Q _=>∃ (a Ma:Addr) (ps:List zK) (l:List Nat) (M:List (List Nat)),vs = [.ref a,.str (tx l),.ref Ma] /\ LsA K H a (ps.map dR) /\ (∀ p ∈ ps,p.1.length <= 1000 /\ p.2.length <= 1000) /\ l.length <= 6 /\ H Ma = some (.lst (tW M)) /\ M.length <= 30 /\ (∀ w ∈ M,w.length <= 100) /\ (∀ w ∈ M,∀ c ∈ l,xg ps (w ++ [c]) /\ Zr ps (w ++ [c]) ∈ M) /\ ∀ (t:Addr) (rs:List Addr) (H':Hp),Same H H' -> TabAt H' t rs (M.map (vt ps l M)) -> Q (.ref t) H'
def TbI (ps:List zK) (l:List Nat) (M:List (List Nat)) (H:Hp) (a Ma T:Addr) (i:Nat) (σ:L2.St) (H':Hp):Prop:=∃ (rs:List Addr) (v4:Option V),rs.length = i /\ Same H H' /\ H' T = some (.lst (rs.map V.ref)) /\ (∀ r ∈ rs,r ≠ T) /\ (∀ (j:Nat) (r:Addr) (w:List Nat),rs[j]? = some r -> M[j]? = some w -> H' r = some (.lst ((vt ps l M w).map V.int))) /\ σ = [some (.ref a),some (.str (tx l)),some (.ref Ma),some (.ref T),v4]
theorem sc_table:zo ["_law_rules_here", "_law_letters_here", "_law_members_here", "_law_table_here", "_law_word"] ["_law_rules_here", "_law_letters_here", "_law_members_here"] (zb wj):=⟨rfl,rfl,rfl,by decide +kernel,rfl,by decide +kernel,by decide +kernel⟩
theorem X1 {f:Addr} {fd:FuncData} (B:Bt mg)  (F:Fun K "_law_table" "_law_table" wj f fd) (D_form:Df P w K mg base CX0 2 "_law_form" ["_law_rules_here", "_law_word"] [] (vG K)):FnOk P w K mg base CX0 3 f fd ["_law_rules_here", "_law_letters_here", "_law_members_here"] (jM K):=by
 refine F.ok sc_table (fun vs H Q E h=>?_) (fun cdv A outer s H vs Q E hr h=>?_)
 ·obtain ⟨a,Ma,ps,l,M,rfl,_⟩:=h
  rfl
 ·obtain ⟨a,Ma,ps,l,M,rfl,hA,hP,l6,hM,hM30,hwl,hE,q⟩:=h
  refine ⟨_,(zh (zq (i:=3) sc_table.nd rfl (Or.inl rfl) (yX zc))
   (zh (yl PassesOwn.never rfl (yx (pv 2)) (zu (i:=4) sc_table.nd rfl (Or.inr rfl))
    (ze (yQ (xC PySem.F.plainAttrs_list PySem.F.slot_list_append PySem.F.type_list_append yz (pv 3) (za (xE (own:=["_law_letter"]) (caps:=["_law_members_here", "_law_rules_here", "_law_word"]) (ix:=[2,0,4]) (tt:=vD) (te:=(tBM K "list" (W6 K) (xh 1) (zW (uB (vG K) [] E0 (zW (xh 2) (zW (tOp Wf (xh 3) (xh 0)) wU))) wU))) rfl (yy (sc:=zb wj) rfl (by decide +kernel) (by decide +kernel) (by decide +kernel) rfl (by decide +kernel) (by decide +kernel) rfl) (vx (pv 1)) (fun _ _ _ _ _ _=>zu (i:=0) (show List.Nodup [_,_,_,_] by decide) rfl (Or.inl rfl)) (fun _ _ _ _ _ _=>xy) (fun _ _ _ _ _ _=>(xC PySem.F.plainAttrs_list PySem.F.slot_list_index PySem.F.type_list_index kO (pv 1) (za (cl0 D_form hr .nil rfl (za (pv 2) (za (zw zM (pv 3) (pv 0)) zc))) zc)))) zc)))))
   (ze (zr (pv 3))))),?_⟩
  have s16:=yG
  refine zk (fun σ H'=>∃ T:Addr,H T = none /\ TbI ps l M H a Ma T 0 σ H') ?_ ?_
  ·rfl'
   exact ⟨by omega,fun p hp=>⟨p,hp,[],none,rfl,zf hp,zd,fun r h=>(nomatch h),fun j r w h=>by simp at h,rfl⟩⟩
  rintro σ H1 ⟨T,hT,hI1⟩
  have hI1':=hI1
  obtain ⟨rs,v4,hr0,s1,hT1,_,_,rfl⟩:=hI1
  refine zk (TbI ps l M H a Ma T M.length) ?_ ?_
  ·rfl'
   have hlM:(tW M).length = M.length:=List.length_map ..
   refine ⟨⟨_,SqL.of (s1 _ _ hM)⟩,ForL.by (xs:=tW M) (TbI ps l M H a Ma T) hI1' (fun i σ H' _ h=>by obtain ⟨_,_,_,hs,_⟩:=h; exact SqL.of (hs _ _ hM)) ?_ fun σ H' h=>by rw [hlM] at h; exact h⟩
   rintro i x σ H' hx ⟨rs,v4,hi,hs,hH,hf,hr,rfl⟩
   rw [List.getElem?_map] at hx
   obtain ⟨w,hw,rfl⟩:=Option.map_eq_some_iff.mp hx
   have hil:=(List.getElem?_eq_some_iff.mp hw).1
   have hwm:=List.mem_of_getElem? hw
   have hw100:=hwl w hwm
   simp only [y8,List.set_cons_succ,List.set_cons_zero]
   rfl'
   refine ⟨.inl ⟨_,SqL.of hH⟩,fun D hD=>CompS.by (fun i acc G=>Same H' G /\ G D = some (.lst acc) /\ acc = (vt ps (l.take i) M w).map V.int) ⟨zf hD,zd,rfl⟩ ?_ ?_⟩
   ·rintro i' c acc G hc ⟨sg,hG,rfl⟩
    have hcl:=(List.getElem?_eq_some_iff.mp hc).1
    obtain ⟨hEn,hfm⟩:=hE w hwm c (List.mem_of_getElem? hc)
    have s2:=hs.trans sg
    simp only [vD]
    rfl'
    refine ⟨uc,.inl ⟨_,SqL.of (s2 _ _ hM)⟩,by omega,a,ps,w ++ [c],rfl,hA.same s2,hP,hEn,⟨Ma,M,Zr ps (w ++ [c]),rfl,rfl,SqL.of (s2 _ _ hM),hfm,hG,by rw [List.length_map,vt,List.length_map,List.length_take]; omega,CNx.mk hcl ⟨zC sg hD,zd,?_⟩⟩⟩
    unfold vt
    rw [yg hc,List.map_append,List.map_append]
    rfl
   ·rintro acc G ⟨sg,hG,rfl⟩
    rw [List.take_length] at hG
    have hDT:D ≠ T:=fun e=>by rw [e,hH] at hD; cases hD
    refine ⟨_,sg _ _ hH,by rw [List.length_map]; omega,rs ++ [D],_,by rw [List.length_append,hi]; rfl,zC (hs.trans sg) hT,by rw [zd,List.map_append]; rfl,fun r hr'=>?_,fun j r w' h1 h2=>?_,rfl⟩
    ·rcases List.mem_append.mp hr' with h | h
     ·exact hf r h
     ·rw [List.mem_singleton.mp h]
      exact hDT
    ·by_cases hj:j < i
     ·rw [List.getElem?_append_left (by omega)] at h1
      rw [zi (hf r (List.mem_of_getElem? h1))]
      exact sg _ _ (hr j r w' h1 h2)
     ·rw [List.getElem?_append_right (by omega)] at h1
      have hj0:j = i:=by
       have:=(List.getElem?_eq_some_iff.mp h1).1
       simp at this
       omega
      subst hj0
      rw [hi,Nat.sub_self] at h1
      cases h1
      rw [hw] at h2
      cases h2
      rw [zi hDT]
      exact hG
  rintro σ H2 ⟨rs,v4,hi,hs,hH,hf,hr,rfl⟩
  rfl'
  refine q T rs H2 hs ⟨hH,by rw [List.length_map]; exact hi,fun j r x h1 h2=>?_⟩
  rw [List.getElem?_map] at h2
  obtain ⟨w,hw,rfl⟩:=Option.map_eq_some_iff.mp h2
  exact hr j r w h1 hw
structure TWR (K:PySem.W.Frag):Prop where
 ll:PySem.W.kitOne K (.type "list") (.type "list") = some true
 ii:PySem.W.kitOne K (.type "int") (.type "int") = some true
 ib:PySem.W.kitOne K (.type "int") (.type "bool") = some false
def VG (K:PySem.W.Frag):Sp:=fun vs H Q _=>∃ (r:Addr) (x:List Int),vs = [.ref r] /\ H r = some (.lst (x.map V.int)) /\ Q (.bl true) H
theorem sc_whole_row:zo ["_law_row", "_law_room"] ["_law_row"] (zb yE):=⟨rfl,rfl,rfl,by decide +kernel,rfl,by decide +kernel,by decide +kernel⟩
theorem jh {f:Addr} {fd:FuncData} (B:Bt mg) (T:TWR K) (F:Fun K "_law_whole_row" "_law_whole_row" yE f fd)  : FnOk P w K mg base CX0 1 f fd ["_law_row"] (VG K):=by
 refine F.ok sc_whole_row (fun vs H Q E h=>?_) (fun cdv A outer s H vs Q E hr h=>?_)
 ·obtain ⟨r,x,rfl,_⟩:=h
  rfl
 ·obtain ⟨r,x,rfl,hr',q⟩:=h
  refine ⟨_,(zh (ya (yU (vE (qt rfl B.isi (pv 0) rfl B.list PySem.Pv.boot_list) (fun _=>rfl)))
    (ze (zr wx))
    zx)
   (zt (yl PassesOwn.never rfl (yx (pv 0)) (zu (i:=1) sc_whole_row.nd rfl (Or.inl rfl))
    (ze (ya (PW.pt (Zm (yU (vE (qt rfl B.isi (pv 1) rfl B.int PySem.Pv.boot_int) (fun _=>rfl))) (jk (vE (qt rfl B.isi (pv 1) rfl B.bool PySem.Pv.boot_bool) (fun _=>rfl)))))
     (ze (zr wx))
     zx)))
   (ze (zr wx)))),?_⟩
  have s16:=yG
  refine zk (fun σ H'=>H' = H /\ σ = [some (.ref r),none]) ?_ ?_
  ·rfl'
   exact ⟨_,.inl (.lst hr'),true,T.ll,VP trivial⟩
  rintro σ H1 ⟨rfl,rfl⟩
  rfl'
  refine ⟨⟨_,SqL.of hr'⟩,ForL.by (xs:=x.map V.int) (fun i σ H'=>H' = H1 /\ ∃ v1,σ = [some (.ref r),v1]) ⟨rfl,_,rfl⟩ (fun i σ H' _ h=>by rw [h.1]; exact SqL.of hr') ?_ ?_⟩
  ·rintro i y σ H' hy ⟨rfl,v1,rfl⟩
   rw [List.getElem?_map] at hy
   obtain ⟨z,hz,rfl⟩:=Option.map_eq_some_iff.mp hy
   rfl'
   exact ⟨_,.inl (.int _),true,T.ii,VP ⟨_,.inl (.int _),false,T.ib,yL (fun h=>(nomatch h)) fun _=>trivial⟩⟩
  ·rintro σ H' ⟨rfl,v1,rfl⟩
   rfl'
   exact q
structure TLw (K:PySem.W.Frag) (CV:Addr):Prop where
 ll:PySem.W.kitOne K (.type "list") (.type "list") = some true
 iW:PySem.W.kitOne K (.ref CV) (.ref CV) = some true
 hn:PySem.W.specialIn K (.builtin "object.__class__") "__get__" = some (some (.builtin "getset_descriptor.__get__"))
 tk:PySem.W.takesIn K (.builtin "object.__class__") = some true
 aW:PySem.W.findIn K (.ref CV) "__class__" = some (some (.builtin "object.__class__"))
 oW:PySem.W.mroIn K CV (.type "object") = some true
def Yy (K:PySem.W.Frag) (CV:Addr):Sp:=fun vs H Q _=>∃ (x t Ma Tb:Addr) (rs qs:List Addr) (l:List Nat) (M:List (List Nat)) (tab:List (List Int)),vs = [.ref x,.str (tx l),.ref Ma,.ref Tb] /\ WorAt CV H x l t rs tab /\ uo l tab /\ wH l = true /\ H Ma = some (.lst (tW M)) /\ M.length = tab.length /\ TabAt H Tb qs tab /\ (∀ (i:Nat) (w:List Nat),M[i]? = some w -> (∀ c ∈ w,c ∈ l) /\ kv l tab 0 w = (i:Int)) /\ ∀ H',Same H H' -> Q (.bl true) H'
theorem sc_world_is:zo ["_law_world", "_law_letters_here", "_law_members_here", "_law_table_here", "_law_told", "_law_row", "_law_number", "_law_word"] ["_law_world", "_law_letters_here", "_law_members_here", "_law_table_here"] (zb yN):=⟨rfl,rfl,rfl,by decide +kernel,rfl,by decide +kernel,by decide +kernel⟩
theorem jF {f CV:Addr} {fd:FuncData} (B:Bt mg) (T:TLw K CV) (CLw:Vz K mg CV) (F:Fun K "_law_world_is" "_law_world_is" yN f fd) (D_whole_row:Df P w K mg base CX0 1 "_law_whole_row" ["_law_row"] [] (VG K)) (M_world_table_told:DM P w K mg base CX0 1 CV "table_told" ["self"] (qu CV)) (M_world_rooms:DM P w K mg base CX0 1 CV "rooms" ["self"] (vN CV)) (M_world_led:DM P w K mg base CX0 1 CV "led" ["self", "room", "word"] (qC CV)):FnOk P w K mg base CX0 2 f fd ["_law_world", "_law_letters_here", "_law_members_here", "_law_table_here"] (Yy K CV):=by
 refine F.ok sc_world_is (fun vs H Q E h=>?_) (fun cdv A outer s H vs Q E hr h=>?_)
 ·obtain ⟨x,t,Ma,Tb,rs,qs,l,M,tab,rfl,_⟩:=h
  rfl
 ·obtain ⟨x,t,Ma,Tb,rs,qs,l,M,tab,rfl,hW,hG,hg,hM,hMl,hTb,hled,q⟩:=h
  refine ⟨_,(zh (ya (PW.pt (Zm (yU (vE (ZO rfl B.isi (pv 0) rfl CLw.g) (fun _=>rfl))) (Zm (zy jW (yI (pv 0) rfl) (pv 1) (zG _)) (jk (zy jW (me0 M_world_rooms CLw.cl hr (pv 0)) (zn z7 rfl B.len PySem.boot_len (za (pv 2) zc)) (zG _))))))
    (ze (zr wx))
    zx)
   (zh (zq (i:=4) sc_world_is.nd rfl (Or.inl rfl) (me0 M_world_table_told CLw.cl hr (pv 0)))
   (zh (ya (PW.pt (Zm (yU (vE (qt rfl B.isi (pv 4) rfl B.list PySem.Pv.boot_list) (fun _=>rfl))) (jk (zy (VW (qj hr)) (pv 4) (pv 3) (zG _)))))
    (ze (zr wx))
    zx)
   (zh (yl PassesOwn.never rfl (yx (pv 4)) (zu (i:=5) sc_world_is.nd rfl (Or.inl rfl))
    (ze (ya (yU (vE (cl0 D_whole_row hr .nil rfl (za (pv 5) zc)) (fun _=>rfl)))
     (ze (zr wx))
     zx)))
   (zh (YZ (zw jr zg (z9 ix_list (z9 ix_list (pv 4) zg (fun _ _=>rfl)) zg (fun _ _=>rfl))) (V6 (z9 ix_list (pv 4) zg (fun _ _=>rfl)) zg XW (by intro _; rfl)))
   (zh (yQ (xC PySem.F.plainAttrs_list PySem.F.slot_list_append PySem.F.type_list_append yz (pv 4) (za (yX zc) zc)))
   (zh (yl PassesOwn.never rfl (qv rfl B.enum (za (pv 2) zc)) (ue (n:=2) rfl (ye (zu (i:=6) sc_world_is.nd rfl (Or.inl rfl)) (ye (zu (i:=7) sc_world_is.nd rfl (Or.inl rfl)) wp)))
    (ze (ya (zy jW (me1 M_world_led CLw.cl hr (pv 0) (za zg (za (pv 7) zc))) (pv 6) (zG _))
     (ze (zr wx))
     zx)))
   (ze (zr wx))))))))),?_⟩
  have s16:=yG
  obtain ⟨l1,l6,lsm,lnd⟩:=of_decide_eq_true hg
  have hlo:=hG.lo
  have hhi:=hG.hi
  obtain ⟨dx,ho,_⟩:=id hW
  have hlM:(tW M).length = M.length:=List.length_map ..
  refine zk (fun σ H'=>H' = H /\ σ = [some (.ref x),some (.str (tx l)),some (.ref Ma),some (.ref Tb),none,none,none,none]) ?_ ?_
  ·rfl'
   refine ⟨_,.inl (.ins ho CLw.cl T.aW T.hn T.tk T.oW),true,T.iW,VP ⟨_,_,_,ho,CLw.cl,CLw.nl,_,rfl,rfl,yL (fun h=>absurd rfl h) fun _=>⟨_,_,ho,rfl,YK hW ⟨_,.inl ⟨_,SqL.of hM,rfl⟩,rfl,yL (fun h=>absurd (by rw [hlM,hMl]) h) fun _=>rfl⟩⟩⟩⟩
  rintro σ H1 ⟨rfl,rfl⟩
  refine zk (fun σ H'=>∃ (D:Addr) (ds:List Addr),Same H1 H' /\ TabAt H' D ds tab /\ (∀ r ∈ D :: ds,H1 r = none) /\ D ∉ ds /\ σ = [some (.ref x),some (.str (tx l)),some (.ref Ma),some (.ref Tb),some (.ref D),none,none,none]) ?_ ?_
  ·rfl'
   exact ⟨_,_,ho,rfl,Wr hW (by omega) fun D ds H' s' hD hfr hni=>⟨s',D,ds,hD,hfr,hni,rfl⟩⟩
  rintro σ H2 ⟨D,ds,s2,hD,hfr,hni,rfl⟩
  refine zk (fun σ H'=>H' = H2 /\ σ = [some (.ref x),some (.str (tx l)),some (.ref Ma),some (.ref Tb),some (.ref D),none,none,none]) ?_ ?_
  ·rfl'
   refine ⟨_,.inl (.lst hD.top),true,T.ll,VP (VC (.inl ⟨hD.is,(hTb.same s2).is⟩) (Nat.lt_of_le_of_lt (WS _) (by decide)) ?_)⟩
   rw [xL]
   exact ⟨false,rfl,JE rfl⟩
  rintro σ H3 ⟨rfl,rfl⟩
  have hdl:=hD.len
  refine zk (fun σ H'=>H' = H3 /\ ∃ v5,σ = [some (.ref x),some (.str (tx l)),some (.ref Ma),some (.ref Tb),some (.ref D),v5,none,none]) ?_ ?_
  ·rfl'
   refine ⟨⟨_,SqL.of hD.top⟩,ForL.by (xs:=ds.map V.ref) (fun i σ H'=>H' = H3 /\ ∃ v5,σ = [some (.ref x),some (.str (tx l)),some (.ref Ma),some (.ref Tb),some (.ref D),v5,none,none]) ⟨rfl,_,rfl⟩ (fun i σ H' _ h=>by rw [h.1]; exact SqL.of hD.top) ?_ fun σ H' h=>h⟩
   rintro i y σ H' hy ⟨rfl,v5,rfl⟩
   rw [List.getElem?_map] at hy
   obtain ⟨r,hr1,rfl⟩:=Option.map_eq_some_iff.mp hy
   have hil:=(List.getElem?_eq_some_iff.mp hr1).1
   have hx1:tab[i]? = some (tab[i]'(by omega)):=List.getElem?_eq_getElem (by omega)
   rfl'
   exact ⟨r,_,rfl,hD.row i r _ hr1 hx1,⟨true,rfl,VP rfl⟩⟩
  rintro σ H4 ⟨rfl,v5,rfl⟩
  obtain ⟨r0,x0,e1,e2,e3⟩:=hD.get (i:=0) (by omega) (by omega)
  have hx0l:=hG.wd x0 (List.mem_of_getElem? e2)
  have hr0m:r0 ∈ ds:=by
   have:=qm e1
   obtain ⟨j,_,hj,_⟩:=this
   rw [List.getElem?_map] at hj
   obtain ⟨r',hr',e⟩:=Option.map_eq_some_iff.mp hj
   cases e
   exact List.mem_of_getElem? hr'
  have hr0D:r0 ≠ D:=fun e=>hni (e ▸ hr0m)
  have hr0n:=hfr r0 (List.mem_cons_of_mem _ hr0m)
  have hDn:=hfr D List.mem_cons_self
  have hx00:atI (x0.map V.int) 0 = some (.int (x0.getD 0 0)):=xI (j:=0) (by rw [List.getElem?_map,List.getD_eq_getElem?_getD,List.getElem?_eq_getElem (show 0 < x0.length by omega)]; rfl)
  have hix:ixN (x0.map V.int).length 0 = some 0:=by
   rw [List.length_map]
   unfold ixN
   rw [if_pos (by decide),if_pos (by omega)]
   rfl
  refine zk (fun σ H'=>Same H1 H' /\ H' D = some (.lst (ds.map V.ref)) /\ σ = [some (.ref x),some (.str (tx l)),some (.ref Ma),some (.ref Tb),some (.ref D),v5,none,none]) ?_ ?_
  ·rfl'
   refine ⟨_,SqL.of hD.top,_,e1,_,rfl,_,SqL.of e3,_,hx00,_,rfl,?_⟩
   simp only [Jl]
   rfl'
   exact ⟨_,SqL.of hD.top,_,e1,r0,_,0,0,rfl,rfl,e3,hix,zC s2 hr0n,by rw [zi (Ne.symm hr0D)]; exact hD.top⟩
  rintro σ H5 ⟨s5,hD5,rfl⟩
  refine zk (fun σ H'=>Same H1 H' /\ σ = [some (.ref x),some (.str (tx l)),some (.ref Ma),some (.ref Tb),some (.ref D),v5,none,none]) ?_ ?_
  ·rfl'
   exact ⟨.inl ⟨_,SqL.of hD5⟩,Nat.zero_le _,fun p hp=>⟨_,zf hp _ _ hD5,by rw [List.length_map]; omega,zC (s5.trans (zf hp)) hDn⟩⟩
  rintro σ H6 ⟨s6,rfl⟩
  refine zk (fun σ H'=>Same H1 H' /\ ∃ v6 v7,σ = [some (.ref x),some (.str (tx l)),some (.ref Ma),some (.ref Tb),some (.ref D),v5,v6,v7]) ?_ ?_
  ·rfl'
   refine ⟨⟨_,SqL.of (s6 _ _ hM)⟩,ForEL.by (xs:=tW M) (fun i σ H'=>Same H1 H' /\ ∃ v6 v7,σ = [some (.ref x),some (.str (tx l)),some (.ref Ma),some (.ref Tb),some (.ref D),v5,v6,v7]) ⟨s6,_,_,rfl⟩ (fun i σ H' _ h=>SqL.of (h.1 _ _ hM)) ?_ fun σ H' h=>h⟩
   rintro i y σ H' p hy ⟨hs,v6,v7,rfl⟩ hp
   rw [List.getElem?_map] at hy
   obtain ⟨w,hw,rfl⟩:=Option.map_eq_some_iff.mp hy
   obtain ⟨hwl,hwi⟩:=hled i w hw
   have sp:=hs.trans (zf (o:=.tup [.int (i:Nat),.str (tx w)]) hp)
   refine Up (SqT.of zd) ?_
   simp only [List.set_cons_succ,List.set_cons_zero]
   rfl'
   refine ⟨_,_,sp _ _ ho,rfl,We (hW.same sp) hG (by omega) (by omega) hwl ?_⟩
   rw [hwi]
   exact ⟨rfl,yL (fun h=>absurd rfl h) fun _=>sp⟩
  rintro σ H7 ⟨s7,v6,v7,rfl⟩
  rfl'
  exact q H7 s7
theorem Fam.all {l:List Nat} {M L:List (List Nat)} (hF:Fam l M L):∀ (n:Nat) {u:List Nat},u.length = n -> (∀ c ∈ u,c ∈ l) -> (∀ x ∈ L,∀ a b,u ≠ a ++ x ++ b) -> u ∈ M
 | 0,u,hl,_,_=>by
  rw [List.length_eq_zero_iff.mp hl]
  exact hF.nil
 | n + 1,u,hl,hu,hx=>by
  rcases List.eq_nil_or_concat u with rfl | ⟨v,c,e⟩
  ·exact hF.nil
  ·rw [List.concat_eq_append] at e
   subst e
   have hv:v ∈ M:=Fam.all hF n (by simpa using hl) (fun c hc=>hu c (List.mem_append_left _ hc)) fun x hL a b e=>hx x hL a (b ++ [c]) (by rw [e]; simp)
   exact (hF.iff hv (hu c (by simp))).mp hx
theorem first_sh {ps:List zK} {w:List Nat}:zF w ps = none ↔ Sh ps w = true:=by
 unfold zF Sh
 rw [List.head?_eq_none_iff,List.isEmpty_iff]
theorem Qm {l:List Nat} {M L:List (List Nat)} {ps:List zK} (hF:Fam l M L) (hN:NeL ps) (h2:∀ x ∈ L,∃ p ∈ ps,p.1 = x) {u:List Nat} (hu:∀ c ∈ u,c ∈ l) (h:Sh ps u = true):u ∈ M:=by
 rw [ZM hN] at h
 refine hF.all _ rfl hu fun x hx a b e=>?_
 obtain ⟨p,hp,rfl⟩:=h2 x hx
 exact h p hp a b e
theorem Q4 {l:List Nat} {M L:List (List Nat)} {ps:List zK} (hF:Fam l M L) (hN:NeL ps) (h1:∀ p ∈ ps,p.1 ∈ L) {u:List Nat} (hu:u ∈ M):Sh ps u = true:=by
 rw [ZM hN]
 intro p hp a b e
 rw [e] at hu
 exact (hF.lf _ (h1 p hp)).1 (hF.inf hu)
theorem ZF {ps:List zK} {w:List Nat} (h:Sh ps w = true):Zr ps w = w:=by
 have:=u0 (J:=0) (ps:=ps) (v:=w) (Nat.zero_le _) (first_sh.mpr h)
 exact this
theorem Y9 {l:List Nat} {M L:List (List Nat)} {ps:List zK} (hF:Fam l M L) (hN:NeL ps) (h1:∀ p ∈ ps,p.1 ∈ L):∀ (n:Nat) {w:List Nat},w.length = n -> w ∈ M -> kv l (M.map (vt ps l M)) 0 w = ((M.idxOf w:Nat):Int)
 | 0,w,hl,_=>by
  rw [List.length_eq_zero_iff.mp hl]
  have:M.idxOf [] = 0:=by rw [hF.sq]; exact List.idxOf_cons_self
  rw [this]
  rfl
 | n + 1,w,hl,hw=>by
  rcases List.eq_nil_or_concat w with rfl | ⟨u,c,e⟩
  ·simp at hl
  ·rw [List.concat_eq_append] at e
   subst e
   obtain ⟨hu,hc,_⟩:=hF.cl u c hw
   have ih:=Y9 hF hN h1 n (by simpa using hl) hu
   have e1:kv l (M.map (vt ps l M)) 0 (u ++ [c]) = qf l (M.map (vt ps l M)) (kv l (M.map (vt ps l M)) 0 u) c:=by
    unfold kv
    rw [List.foldl_append]
    rfl
   rw [e1,ih]
   unfold qf
   have hi:=List.idxOf_lt_length_of_mem hu
   have hci:=List.idxOf_lt_length_of_mem hc
   have er:(M.map (vt ps l M)).getD (M.idxOf u) [] = vt ps l M u:=by
    rw [List.getD_eq_getElem?_getD,List.getElem?_map,List.getElem?_eq_getElem hi,List.getElem_idxOf]
    rfl
   rw [Int.toNat_natCast,er]
   unfold vt
   rw [List.getD_eq_getElem?_getD,List.getElem?_map,List.getElem?_eq_getElem hci,List.getElem_idxOf]
   show ((M.idxOf (Zr ps (u ++ [c])):Nat):Int) = _
   rw [ZF (Q4 hF hN h1 hw)]
theorem Vy {l:List Nat} {M L:List (List Nat)} {ps:List zK} (hF:Fam l M L) (hN:NeL ps) (h1:∀ p ∈ ps,p.1 ∈ L) {i:Nat} {w:List Nat} (h:M[i]? = some w):(∀ c ∈ w,c ∈ l) /\ kv l (M.map (vt ps l M)) 0 w = (i:Int):=by
 have hw:=List.mem_of_getElem? h
 refine ⟨hF.inl _ rfl hw,?_⟩
 rw [Y9 hF hN h1 _ rfl hw]
 obtain ⟨hi,e⟩:=List.getElem?_eq_some_iff.mp h
 have:=hF.nd.idxOf_getElem i hi
 rw [e] at this
 rw [this]
theorem ky {k:Nat} {l:List Nat} {ns:List Int} {u v:List Nat} (h:zY k l ns u v = true):zp k l ns u <= zp k l ns v:=by
 unfold zY at h
 by_cases e:zp k l ns u = zp k l ns v
 ·omega
 ·rw [if_neg e] at h
  have:=of_decide_eq_true h
  omega
section
variable {k:Nat} {l:List Nat} {ns:List Int} {ps:List zK} {x:List Nat}
theorem Xa (G:OG l ns k) (hp:∀ p ∈ ps,zY k l ns p.2 p.1 = true /\ (∀ c ∈ p.1,c ∈ l) /\ ∀ c ∈ p.2,c ∈ l) (hx:∀ c ∈ x,c ∈ l) (f:Nat -> Nat) {n W:Nat} (hin:∀ v,(∀ c ∈ v,c ∈ l) -> (v = x \/ zY k l ns v x = true) -> v.length <= n /\ (v.map f).sum <= W) (hc:ku (l.map f) n W <= 4000) (hn:n <= 1000):xg ps x:=by
 obtain ⟨J,h1,h2,h3⟩:=ZG G hp hx (Ws:=wlF l f n W) fun v hv hle=>YH hv (hin v hv hle).1 (hin v hv hle).2
 rw [ZP] at h1
 exact ⟨J,by omega,⟨h2,fun j _=>Nat.le_trans (hin _ (vW G hp hx j) (Vi G hp hx j)).1 hn,by omega⟩,h3⟩
theorem jO (G:OG l ns k) {v:Int} (h:k ≠ 2 \/ ns = List.replicate l.length v) {w:List Nat} (hw:∀ c ∈ w,c ∈ l):∃ b:Int,0 < b /\ ∀ w:List Nat,(∀ c ∈ w,c ∈ l) -> zp k l ns w = b * (w.length:Int):=by
 by_cases hk:k = 2
 ·have hr:=h.resolve_left (fun e=>e hk)
  have h1:1 <= l.length:=(of_decide_eq_true G.g).1
  have hv:1 <= v:=(G.nb v (by rw [hr]; exact List.mem_replicate.mpr ⟨by omega,rfl⟩)).1
  refine ⟨v,by omega,fun w hw=>?_⟩
  rw [yu G hw]
  have hall:∀ i ∈ yV l w,wt k ns i = v:=fun i hi=>by
   obtain ⟨c,hc,rfl⟩:=List.mem_map.mp hi
   unfold wt
   rw [if_pos hk,hr,Int.toNat_natCast,List.getD_eq_getElem?_getD,List.getElem?_replicate,if_pos (List.idxOf_lt_length_of_mem (hw c hc))]
   rfl
  have hlen:(yV l w).length = w.length:=List.length_map ..
  rw [<- hlen]
  generalize yV l w = y at hall
  induction y with
  | nil=>simp
  | cons a y ih =>
   rw [List.map_cons,List.sum_cons,ih (fun i hi=>hall i (List.mem_cons_of_mem _ hi)),hall a List.mem_cons_self,List.length_cons]
   have:((y.length + 1:Nat):Int) = (y.length:Int) + 1:=by omega
   rw [this,Int.mul_add,Int.mul_one,Int.add_comm]
 ·refine ⟨1,by decide,fun w _=>?_⟩
  unfold zp
  rw [if_neg hk,Int.one_mul]
theorem Wq (v:List Nat):(v.map fun _=>1).sum = v.length:=by
 induction v with
 | nil=>rfl
 | cons a v ih=>rw [List.map_cons,List.sum_cons,ih,List.length_cons]; omega
theorem ui (G:OG l ns k) (hp:∀ p ∈ ps,zY k l ns p.2 p.1 = true /\ (∀ c ∈ p.1,c ∈ l) /\ ∀ c ∈ p.2,c ∈ l) (hx:∀ c ∈ x,c ∈ l) {v:Int} (h:k ≠ 2 \/ ns = List.replicate l.length v) {n:Nat} (hn:x.length <= n) (hn2:n <= 1000) (hc:ku (List.replicate l.length 1) n n <= 4000):xg ps x:=by
 obtain ⟨b,hb,hw⟩:=jO G h hx
 have hl:l.map (fun _=>1) = List.replicate l.length 1:=by rw [List.map_const']
 refine Xa G hp hx (fun _=>1) (n:=n) (W:=n) (fun v hv hle=>?_) (by rw [hl]; exact hc) hn2
 rw [Wq]
 have:v.length <= x.length:=by
  rcases hle with rfl | hle
  ·exact Nat.le_refl _
  ·have:=ky hle
   rw [hw v hv,hw x hx] at this
   have:=Int.le_of_mul_le_mul_left this hb
   omega
 omega
theorem Xc {m n:Nat} (h:(m = 1 /\ n <= 8) \/ (m = 2 /\ n <= 8) \/ (m = 3 /\ n <= 7) \/ (m = 4 /\ n <= 5) \/ (m = 5 /\ n <= 5) \/ (m = 6 /\ n <= 4)):ku (List.replicate m 1) n n <= 4000:=by
 rcases h with ⟨rfl,h⟩ | ⟨rfl,h⟩ | ⟨rfl,h⟩ | ⟨rfl,h⟩ | ⟨rfl,h⟩ | ⟨rfl,h⟩
 ·exact (by decide +kernel:∀ n ≤ 8,ku (List.replicate 1 1) n n <= 4000) n h
 ·exact (by decide +kernel:∀ n ≤ 8,ku (List.replicate 2 1) n n <= 4000) n h
 ·exact (by decide +kernel:∀ n ≤ 7,ku (List.replicate 3 1) n n <= 4000) n h
 ·exact (by decide +kernel:∀ n ≤ 5,ku (List.replicate 4 1) n n <= 4000) n h
 ·exact (by decide +kernel:∀ n ≤ 5,ku (List.replicate 5 1) n n <= 4000) n h
 ·exact (by decide +kernel:∀ n ≤ 4,ku (List.replicate 6 1) n n <= 4000) n h
end
theorem J3:ku [1,2] 14 14 <= 4000:=by decide +kernel
theorem JK:ku [2,1] 14 14 <= 4000:=by decide +kernel
theorem XM {l:List Nat} {ns:List Int} {ps:List zK} {x:List Nat} (G:OG l ns 2) (hp:∀ p ∈ ps,zY 2 l ns p.2 p.1 = true /\ (∀ c ∈ p.1,c ∈ l) /\ ∀ c ∈ p.2,c ∈ l) (hx:∀ c ∈ x,c ∈ l) (hl:l.length = 2) (hn2:∀ n ∈ ns,n <= 2) (h7:x.length <= 7):xg ps x:=by
 obtain ⟨c0,c1,rfl⟩:∃ c0 c1,l = [c0,c1]:=by
  match l,hl with
  | [c0,c1],_=>exact ⟨c0,c1,rfl⟩
 obtain ⟨a,b,rfl⟩:∃ a b,ns = [a,b]:=by
  have h:=G.nl
  match ns,h with
  | [a,b],_=>exact ⟨a,b,rfl⟩
 have hne:c0 ≠ c1:=by
  have:=(of_decide_eq_true G.g).2.2.2
  simpa using this
 have ha:=G.nb a (by simp)
 have hb:=G.nb b (by simp)
 have ha2:=hn2 a (by simp)
 have hb2:=hn2 b (by simp)
 by_cases hab:a = b
 ·exact ui G hp hx (v:=a) (.inr (by rw [hab]; rfl)) (n:=7) h7 (by decide) (Xc (.inr (.inl ⟨rfl,by decide⟩)))
 let f:Nat -> Nat:=fun c=>if c = c0 then a.toNat else b.toNat
 have f1:∀ c,1 <= f c /\ f c <= 2:=fun c=>by
  show 1 <= (if c = c0 then a.toNat else b.toNat) /\ (if c = c0 then a.toNat else b.toNat) <= 2
  split <;> omega
 have fw:∀ v:List Nat,(∀ c ∈ v,c ∈ [c0,c1]) -> zp 2 [c0,c1] [a,b] v = (((v.map f).sum:Nat):Int):=fun v hv=>by
  rw [yu G hv]
  induction v with
  | nil=>rfl
  | cons c v ih =>
   have ih:=ih fun d hd=>hv d (List.mem_cons_of_mem _ hd)
   have e:wt 2 [a,b] ((List.idxOf c [c0,c1]:Nat):Int) = (f c:Int):=by
    unfold wt
    rw [if_pos rfl,Int.toNat_natCast]
    show _ = (((if c = c0 then a.toNat else b.toNat):Nat):Int)
    have hc:=hv c List.mem_cons_self
    simp only [List.mem_cons,List.not_mem_nil,or_false] at hc
    rcases hc with rfl | rfl
    ·rw [if_pos rfl,List.idxOf_cons_self]
     show a = _
     omega
    ·have h10:(c0 == c) = false:=by simpa using hne
     rw [if_neg (Ne.symm hne),List.idxOf_cons,h10]
     simp only [cond_false,List.idxOf_cons_self]
     show b = _
     omega
   show ((((List.idxOf c [c0,c1]:Nat):Int) :: yV [c0,c1] v).map (wt 2 [a,b])).sum = _
   rw [List.map_cons,List.sum_cons,ih,e,List.map_cons,List.sum_cons]
   omega
 have fl:∀ v:List Nat,v.length <= (v.map f).sum /\ (v.map f).sum <= 2 * v.length:=fun v=>by
  induction v with
  | nil=>exact ⟨Nat.le_refl _,Nat.le_refl _⟩
  | cons c v ih =>
   have:=f1 c
   rw [List.map_cons,List.sum_cons,List.length_cons]
   omega
 have hlf:[c0,c1].map f = [a.toNat,b.toNat]:=by
  show [if c0 = c0 then a.toNat else b.toNat,if c1 = c0 then a.toNat else b.toNat] = _
  rw [if_pos rfl,if_neg (Ne.symm hne)]
 refine Xa G hp hx f (n:=14) (W:=14) (fun v hv hle=>?_) ?_ (by decide)
 ·have h1:=(fl x).2
  have h2:=(fl v).1
  have h3:(v.map f).sum <= (x.map f).sum:=by
   rcases hle with rfl | hle
   ·exact Nat.le_refl _
   ·have:=ky hle
    rw [fw v hv,fw x hx] at this
    omega
  omega
 ·rw [hlf]
  have:(a = 1 /\ b = 2) \/ (a = 2 /\ b = 1):=by omega
  rcases this with ⟨rfl,rfl⟩ | ⟨rfl,rfl⟩
  ·exact J3
  ·exact JK
structure Q8 (K:PySem.W.Frag) (mg:Str -> Option Value) (CM CF CQ:Addr):Prop where
 gF:mg "TooFar" = some (.ref CF)
 gN:mg "NoWorld" = some (.ref CQ)
 sM:PySem.W.subIn K (.ref CM) (.ref CM) = some true
 kF:PySem.W.kitOne K (.ref CM) (.ref CF) = some false
 kN:PySem.W.kitOne K (.ref CM) (.ref CQ) = some false
def ZK (K:PySem.W.Frag) (CO CR CW CH CV:Addr):Sp:=fun vs H Q _=>∃ (y o q:Addr) (ps:List zK) (k:Nat) (l:List Nat) (ns:List Int),vs = [.ref y] /\ SysAt K CH H y o q ps /\ OrdAt CO CR CW H o k l ns /\ wH l = true /\ NeL ps /\ ps.length <= 100 /\ (∀ p ∈ ps,p.1.length <= 1000 /\ p.2.length <= 1000) /\ (swF (Sh ps) l 8 10 [] [[]] = none -> ∀ (p:Addr) (H':Hp),Same H H' -> H' p = some (.tup [.non,.bl true]) -> Q (.ref p) H') /\ ∀ ws,swF (Sh ps) l 8 10 [] [[]] = some ws -> 1 <= ws.length /\ ws.length <= 8 /\ (∀ w ∈ ws,w.length <= 100) /\ (∀ w ∈ ws,∀ c ∈ l,xg ps (w ++ [c]) /\ Zr ps (w ++ [c]) ∈ ws) /\ ∀ (p x t:Addr) (rs:List Addr) (H':Hp),Same H H' -> WorAt CV H' x l t rs (ws.map (vt ps l ws)) -> H' p = some (.tup [.ref x,.bl false]) -> Q (.ref p) H'
def AsE (R:Option (List (List Nat))) (ps:List zK) (l:List Nat) (y CV:Addr) (H:Hp) (σ:L2.St) (H':Hp):Prop:=(R = none /\ Same H H' /\ σ = [some (.ref y),some (.non),some (.bl true),none]) \/ ∃ (ws:List (List Nat)) (x t:Addr) (rs:List Addr),R = some ws /\ Same H H' /\ WorAt CV H' x l t rs (ws.map (vt ps l ws)) /\ σ = [some (.ref y),some (.ref x),some (.bl false),none]
theorem sc_asked:zo ["_law_system", "_law_found", "_law_refused", "e"] ["_law_system"] (zb va):=⟨rfl,rfl,rfl,by decide +kernel,rfl,by decide +kernel,by decide +kernel⟩
theorem Wh {f CM CF CQ CO CR CW CH CV:Addr} {fd:FuncData} (B:Bt mg) (TA:Q8 K mg CM CF CQ) (TM:Vp K mg CM) (F:Fun K "_law_asked" "_law_asked" va f fd) (D_world_of:Df P w K mg base (CXx P w) 7 "world_of" ["system"] [] (Xh K CO CR CW CM CH CV)):FnOk P w K mg base CX0 8 f fd ["_law_system"] (ZK K CO CR CW CH CV):=by
 refine F.ok sc_asked (fun vs H Q E h=>?_) (fun cdv A outer s H vs Q E hr h=>?_)
 ·obtain ⟨y,o,q,ps,k,l,ns,rfl,_⟩:=h
  rfl
 ·obtain ⟨y,o,q,ps,k,l,ns,rfl,hy,ho,hg,hN,hpl,hP,q1,q2⟩:=h
  refine ⟨_,(zh (zq (i:=1) sc_asked.nd rfl (Or.inl rfl) wC)
   (zh (zq (i:=2) sc_asked.nd rfl (Or.inl rfl) wx)
   (zh (V1 (i:=1) sc_asked.nd rfl (Or.inl rfl) (.inl rfl) ⟨rfl,rfl⟩ (clX D_world_of hr .nil rfl (za (pv 0) zc))
    (W3 (ts:=(U3 (WT (X6 (tCB (VJ K) (zW (xh 3) (zW (tC (.ref CF)) wU)))) (X6 (tCB (VJ K) (zW (xh 3) (zW (tC (.ref CQ)) wU))))) (y8 2))) 3 (fun e=>(ze (zq (i:=2) sc_asked.nd rfl (Or.inl rfl) (V4 (Wy (ZO rfl B.isi (pv 3) rfl TA.gF)) (Uc (Wy (ZO rfl B.isi (pv 3) rfl TA.gN))))))) rfl TM.g rfl rfl TM.xi.ok .nil))
   (ze (zr (vw (za (pv 1) (za (pv 2) zc)))))))),?_⟩
  have s16:=yG
  generalize hR:swF (Sh ps) l 8 10 [] [[]] = R at q1 q2
  refine zk (fun σ H'=>H' = H /\ σ = [some (.ref y),some (.non),none,none]) ?_ ?_
  ·rfl'
  rintro σ H1 ⟨rfl,rfl⟩
  refine zk (fun σ H'=>H' = H1 /\ σ = [some (.ref y),some (.non),some (.bl false),none]) ?_ ?_
  ·rfl'
  rintro σ H2 ⟨rfl,rfl⟩
  refine zk (AsE R ps l y CV H2) ?_ ?_
  ·simp only [Qv]
   repeat (first | rfl' | simp only [xf,zE,zX,xn,xk,zB])
   have ty:∀ {H':Hp} {x:Addr},TyX K (upd H' x (XT x CM none)) (.ref x) (.ref CM):=fun {H' x}=>.inr (.inl ⟨x,CM,none,[],rfl,rfl,⟨zd,.inl ⟨rfl,rfl⟩⟩,TM.xi⟩)
   refine ⟨y,o,q,ps,k,l,ns,rfl,hy,ho,hg,hN,hpl,hP,?_,?_⟩
   ·rw [hR]
    exact fun hR0 H' s'=>⟨CM,rfl,fun x hx=>⟨true,TA.sM,JY ⟨_,ty,false,TA.kF,J5 ⟨_,ty,false,TA.kN,.inl ⟨hR0,s'.trans (zf hx),rfl⟩⟩⟩⟩⟩
   ·rw [hR]
    intro ws hw
    obtain ⟨w1,w2,w3,w4,_⟩:=q2 ws hw
    exact ⟨w1,w2,w3,w4,fun x t rs H' s' hW=>.inr ⟨ws,x,t,rs,hw,s',hW,rfl⟩⟩
  rintro σ H3 hc
  rcases hc with ⟨rfl,s3,rfl⟩ | ⟨ws,x,t,rs,rfl,s3,hW,rfl⟩
  ·rfl'
   exact ⟨by omega,fun p hp=>q1 rfl p _ (s3.trans (zf hp)) zd⟩
  ·obtain ⟨w1,w2,w3,w4,q3⟩:=q2 ws rfl
   rfl'
   exact ⟨by omega,fun p hp=>q3 p x t rs _ (s3.trans (zf hp)) (hW.same (zf hp)) zd⟩
def kc (K:PySem.W.Frag):Sp:=fun vs H Q _=>∃ (a:Addr) (ns:List Int),vs = [.ref a] /\ SqL K H a (ns.map V.int) /\ ∀ H',Q (.bl true) H'
theorem sc_law:zo ["_law_script", "_law_letters_here", "_law_kind", "_law_cap", "_law_members_here", "_law_lefts", "_law_weights_here", "_law_rules_here", "_law_table_here", "_law_handed", "_law_system", "_law_turn", "_law_found", "_law_refused"] ["_law_script"] (zb qx):=⟨rfl,rfl,rfl,by decide +kernel,rfl,by decide +kernel,by decide +kernel⟩
theorem V3 {f CO CR CW CT CH CV:Addr} {fd:FuncData} (B:Bt mg) (TS:Xo K mg CH) (MS:MkS P w K mg base CO CR CW CT CH) (F:Fun K "law" "law" qx f fd) (D_letters:Df P w K mg base CX0 1 "_law_letters" ["_law_cell", "_law_many"] [] xS) (D_members:Df P w K mg base CX0 2 "_law_members" ["_law_letters_here", "_law_cells", "_law_cell", "_law_cap"] [] (Xi K)) (D_weights:Df P w K mg base CX0 1 "_law_weights" ["_law_many", "_law_members_here", "_law_cell"] [] (WW K)) (D_rules:Df P w K mg base CX0 3 "_law_rules" ["_law_kind", "_law_letters_here", "_law_weights_here", "_law_members_here", "_law_lefts", "_law_cell"] [] (qE K)) (D_cell_at:Df P w K mg base CX0 1 "_law_cell_at" ["_law_script", "_law_k"] [] (xo K)) (D_table:Df P w K mg base CX0 3 "_law_table" ["_law_rules_here", "_law_letters_here", "_law_members_here"] [] (jM K)) (D_order:Df P w K mg base CX0 6 "_law_order" ["_law_kind", "_law_letters_here", "_law_weights_here"] [] (qF K CO CR CW)) (D_asked:Df P w K mg base CX0 8 "_law_asked" ["_law_system"] [] (ZK K CO CR CW CH CV)) (D_world_is:Df P w K mg base CX0 2 "_law_world_is" ["_law_world", "_law_letters_here", "_law_members_here", "_law_table_here"] [] (Yy K CV)):FnOk P w K mg base CX0 9 f fd ["_law_script"] (kc K):=by
 refine F.ok sc_law (fun vs H Q E h=>?_) (fun cdv A outer s H vs Q E hr h=>?_)
 ·obtain ⟨a,cs,rfl,_⟩:=h
  rfl
 ·obtain ⟨a,cs,rfl,hS,q⟩:=h
  refine ⟨_,(zh (zq (i:=1) sc_law.nd rfl (Or.inl rfl) (cl0 D_letters hr .nil rfl (za (cl0 D_cell_at hr .nil rfl (za (pv 0) (za zg zc))) (za (zw zM zg (zw yA (cl0 D_cell_at hr .nil rfl (za (pv 0) (za zg zc))) zg)) zc))))
   (zh (zq (i:=2) sc_law.nd rfl (Or.inl rfl) (zw yA (cl0 D_cell_at hr .nil rfl (za (pv 0) (za zg zc))) zg))
   (zh (zq (i:=3) sc_law.nd rfl (Or.inl rfl) (zw zM zg (zw yA (cl0 D_cell_at hr .nil rfl (za (pv 0) (za zg zc))) (z9 ix_list (yX (za zg (za zg (za zg (za zg (za zg (za zg zc))))))) (zw jr (zn z7 rfl B.len PySem.boot_len (za (pv 1) zc)) zg) (fun _ _=>rfl)))))
   (zh (YZ (cl0 D_members hr .nil rfl (za (pv 1) (za (yj xZ (pv 0) (ym zg) (ym zg)) (za (cl0 D_cell_at hr .nil rfl (za (pv 0) (za zg zc))) (za (pv 3) zc))))) (ue (n:=2) rfl (ye (zu (i:=4) sc_law.nd rfl (Or.inl rfl)) (ye (zu (i:=5) sc_law.nd rfl (Or.inl rfl)) wp))))
   (zh (zq (i:=6) sc_law.nd rfl (Or.inl rfl) (cl0 D_weights hr .nil rfl (za (zn z7 rfl B.len PySem.boot_len (za (pv 1) zc)) (za (pv 4) (za (cl0 D_cell_at hr .nil rfl (za (pv 0) (za zg zc))) zc)))))
   (zh (zq (i:=7) sc_law.nd rfl (Or.inl rfl) (cl0 D_rules hr .nil rfl (za (pv 2) (za (pv 1) (za (pv 6) (za (pv 4) (za (pv 5) (za (cl0 D_cell_at hr .nil rfl (za (pv 0) (za zg zc))) zc))))))))
   (zh (zq (i:=8) sc_law.nd rfl (Or.inl rfl) (yX zc))
   (zh (ya (zy xp (zn z7 rfl B.len PySem.boot_len (za (pv 4) zc)) zg (zG _))
    (ze (zq (i:=8) sc_law.nd rfl (Or.inl rfl) (cl0 D_table hr .nil rfl (za (pv 7) (za (pv 1) (za (pv 4) zc))))))
    zx)
   (zh (zq (i:=9) sc_law.nd rfl (Or.inl rfl) (xm yH rfl B.list PySem.Pv.boot_list (za (pv 7) zc)))
   (zh (zq (i:=10) sc_law.nd rfl (Or.inl rfl) (QA xe0 MS hr rfl TS.g (za (cl0 D_order hr .nil rfl (za (pv 2) (za (pv 1) (za (pv 6) zc)))) (za (pv 9) zc))))
   (zh (yl PassesOwn.never rfl (xG rfl B.range (za zg zc)) (zu (i:=11) sc_law.nd rfl (Or.inl rfl))
    (zh (YZ (cl0 D_asked hr .nil rfl (za (pv 10) zc)) (ue (n:=2) rfl (ye (zu (i:=12) sc_law.nd rfl (Or.inl rfl)) (ye (zu (i:=13) sc_law.nd rfl (Or.inl rfl)) wp))))
    (ze (ya (zy qX (zn z7 rfl B.len PySem.boot_len (za (pv 4) zc)) zg (zG _))
     (ze (ya (PW.pt (Zm (zy op_notN' (pv 12) wC (zG _)) (jk (yU (vE (pv 13) (fun _=>rfl))))))
      (ze (zr wx))
      zx))
     (ze (ya (PW.pt (Zm (vE (pv 13) (fun _=>rfl)) (jk (yU (vE (cl0 D_world_is hr .nil rfl (za (pv 12) (za (pv 1) (za (pv 4) (za (pv 8) zc))))) (fun _=>rfl))))))
      (ze (zr wx))
      zx))))))
   (ze (zr (ve (Ux (qj hr)) (pv 9) (pv 7) (zG _))))))))))))))),?_⟩
  have s16:=yG
  refine zk (fun σ H'=>H' = H /\ ∃ m:Nat,1 <= m /\ m <= 6 /\ σ = [some (.ref a),some (.str (tx (W9 (zZ cs 0) m))),none,none,none,none,none,none,none,none,none,none,none,none]) ?_ ?_
  ·repeat (first | rfl' | simp only [xf,zE,zX,xn,xk,zB])
   refine yW hS (by decide) (yW hS (by decide) ?_)
   have b0:=Int.emod_nonneg (zZ cs 1) (b:=6) (by decide)
   have b1:=Int.emod_lt_of_pos (zZ cs 1) (b:=6) (by decide)
   have em:1 + zZ cs 1 % 6 = (((1 + zZ cs 1 % 6).toNat:Nat):Int):=by omega
   refine ⟨_,rfl,by decide,?_⟩
   rw [em]
   exact jD (by omega) ⟨rfl,_,by omega,by omega,rfl⟩
  rintro σ H1 ⟨rfl,m,m1,m6,rfl⟩
  obtain ⟨hg,hlm⟩:=Yr (zZ cs 0) m6 m1
  generalize hl:W9 (zZ cs 0) m = l at hg hlm
  refine zk (fun σ H'=>H' = H1 /\ ∃ z:Int,0 <= z /\ z < 3 /\ σ = [some (.ref a),some (.str (tx l)),some (.int z),none,none,none,none,none,none,none,none,none,none,none]) ?_ ?_
  ·repeat (first | rfl' | simp only [xf,zE,zX,xn,xk,zB])
   refine yW hS (by decide) ?_
   exact ⟨_,rfl,by decide,rfl,zZ cs 2 % 3,Int.emod_nonneg _ (by decide),Int.emod_lt_of_pos _ (by decide),rfl⟩
  rintro σ H2 ⟨rfl,z,z0,z3,rfl⟩
  refine zk (fun σ H'=>Same H2 H' /\ ∃ n:Nat,1 <= n /\ ((l.length = 1 /\ n <= 9) \/ (l.length = 2 /\ n <= 9) \/ (l.length = 3 /\ n <= 7) \/ (l.length = 4 /\ n <= 5) \/ (l.length = 5 /\ n <= 5) \/ (l.length = 6 /\ n <= 4)) /\ σ = [some (.ref a),some (.str (tx l)),some (.int z),some (.int (n:Nat)),none,none,none,none,none,none,none,none,none,none]) ?_ ?_
  ·repeat (first | rfl' | simp only [xf,zE,zX,xn,xk,zB])
   refine yW hS (by decide) ⟨by omega,fun p hp=>⟨by omega,_,SqL.of zd,?_⟩⟩
   have a0:=Int.emod_nonneg (zZ cs 3) (b:=9) (by decide)
   have a1:=Int.emod_lt_of_pos (zZ cs 3) (b:=9) (by decide)
   have b0:=Int.emod_nonneg (zZ cs 3) (b:=7) (by decide)
   have b1:=Int.emod_lt_of_pos (zZ cs 3) (b:=7) (by decide)
   have c0:=Int.emod_nonneg (zZ cs 3) (b:=5) (by decide)
   have c1:=Int.emod_lt_of_pos (zZ cs 3) (b:=5) (by decide)
   have d0:=Int.emod_nonneg (zZ cs 3) (b:=4) (by decide)
   have d1:=Int.emod_lt_of_pos (zZ cs 3) (b:=4) (by decide)
   have hl':l.length = 1 \/ l.length = 2 \/ l.length = 3 \/ l.length = 4 \/ l.length = 5 \/ l.length = 6:=by omega
   rcases hl' with h | h | h | h | h | h
   ·rw [h]
    exact ⟨_,rfl,_,rfl,_,rfl,by decide,zf hp,(1 + zZ cs 3 % 9).toNat,by omega,by omega,by omega⟩
   ·rw [h]
    exact ⟨_,rfl,_,rfl,_,rfl,by decide,zf hp,(1 + zZ cs 3 % 9).toNat,by omega,by omega,by omega⟩
   ·rw [h]
    exact ⟨_,rfl,_,rfl,_,rfl,by decide,zf hp,(1 + zZ cs 3 % 7).toNat,by omega,by omega,by omega⟩
   ·rw [h]
    exact ⟨_,rfl,_,rfl,_,rfl,by decide,zf hp,(1 + zZ cs 3 % 5).toNat,by omega,by omega,by omega⟩
   ·rw [h]
    exact ⟨_,rfl,_,rfl,_,rfl,by decide,zf hp,(1 + zZ cs 3 % 5).toNat,by omega,by omega,by omega⟩
   ·rw [h]
    exact ⟨_,rfl,_,rfl,_,rfl,by decide,zf hp,(1 + zZ cs 3 % 4).toNat,by omega,by omega,by omega⟩
  rintro σ H3 ⟨s3,n,n1,hn,rfl⟩
  have hS3:=wG s3 hS
  have n9:n <= 9:=by omega
  refine zk (fun σ H'=>∃ (Ma La:Addr) (M L:List (List Nat)),Same H3 H' /\ H' Ma = some (.lst (tW M)) /\ H' La = some (.lst (tW L)) /\ Fam l M L /\ M.length <= n /\ L.length <= 54 /\ σ = [some (.ref a),some (.str (tx l)),some (.int z),some (.int (n:Nat)),some (.ref Ma),some (.ref La),none,none,none,none,none,none,none,none]) ?_ ?_
  ·repeat (first | rfl' | simp only [xf,zE,zX,xn,xk,zB])
   refine ⟨_,hS3,fun p hp=>yW (wG (zf hp) hS3) (by decide) ?_⟩
   rw [ZQ cs (by decide) (by decide)]
   generalize ((cs.drop (7:Int).toNat).take ((70:Int) - 7).toNat) = cs'
   refine ⟨l,p,cs',_,n,rfl,hg,SqL.of zd,n1,by omega,fun p2 Ma La M L H' s' hp2 hMa hLa _ _ _ hF hMn hLl=>?_⟩
   have:M.length * l.length <= 9 * 6:=Nat.mul_le_mul (by omega) (by omega)
   exact ⟨p2,rfl,_,SqT.of hp2,rfl,_,_,rfl,_,_,rfl,rfl,(zf hp).trans s',Ma,La,M,hMa,L,hLa,hF,hMn,by omega,rfl,rfl⟩
  rintro σ H4 ⟨Ma,La,M,L,s4,hMa,hLa,hF,hMn,hL54,rfl⟩
  have hS4:=wG s4 hS3
  refine zk (fun σ H'=>∃ (D:Addr) (ns:List Int),Same H4 H' /\ H' D = some (.lst (ns.map V.int)) /\ ns.length = l.length /\ (∀ n ∈ ns,1 <= n /\ n <= 1000000) /\ WtO l.length M.length ns /\ σ = [some (.ref a),some (.str (tx l)),some (.int z),some (.int (n:Nat)),some (.ref Ma),some (.ref La),some (.ref D),none,none,none,none,none,none,none]) ?_ ?_
  ·repeat (first | rfl' | simp only [xf,zE,zX,xn,xk,zB])
   refine ⟨by omega,yW hS4 (by decide) ?_⟩
   exact ⟨l.length,Ma,_,M,rfl,by omega,hMa,fun D ns H' s' hD h1 h2 h3=>⟨s',D,ns,hD,h1,h2,h3,rfl⟩⟩
  rintro σ H5 ⟨D,ns,s5,hD,hnl,hnb,hwt,rfl⟩
  have hS5:=wG s5 hS4
  refine zk (fun σ H'=>∃ (Rl:Addr) (ps:List zK),Same H5 H' /\ LsA K H' Rl (ps.map dR) /\ (∀ p ∈ ps,RuD z l ns p) /\ (∀ p ∈ ps,p.1 ∈ L) /\ (∀ x ∈ L,∃ p ∈ ps,p.1 = x) /\ ps.length = L.length /\ σ = [some (.ref a),some (.str (tx l)),some (.int z),some (.int (n:Nat)),some (.ref Ma),some (.ref La),some (.ref D),some (.ref Rl),none,none,none,none,none,none]) ?_ ?_
  ·repeat (first | rfl' | simp only [xf,zE,zX,xn,xk,zB])
   refine yW hS5 (by decide) ?_
   exact ⟨z,_,l,D,Ma,La,ns,M,L,rfl,hg,hD,by omega,s5 _ _ hMa,s5 _ _ hLa,hF,by omega,by omega,fun r ps H' s' hr hL p1 p2 p3 p4=>⟨s',r,ps,hL,p1,p2,p3,p4,rfl⟩⟩
  rintro σ H6 ⟨Rl,ps,s6,hL6,hRu,hP2,hP3,hpl,rfl⟩
  have hG:OG l ns z.toNat:=⟨hg,by omega,hnl,hnb⟩
  have hless:∀ p ∈ ps,zY z.toNat l ns p.2 p.1 = true /\ (∀ c ∈ p.1,c ∈ l) /\ ∀ c ∈ p.2,c ∈ l:=fun p hp=>by
   have et:ns.take (l ++ []).length = ns:=by rw [List.append_nil,<- hnl,List.take_length]
   have hG':OG (l ++ []) (ns.take (l ++ []).length) z.toNat:=by rw [et,List.append_nil]; exact hG
   have:=(hRu p hp).less (t:=[]) z0 (by rw [List.append_nil]; omega) hG'
   rw [et,List.append_nil] at this
   exact ⟨this,(hRu p hp).i1,(hRu p hp).i2⟩
  have hNe:NeL ps:=fun p hp=>hF.ne (hP2 p hp)
  have hP1:∀ p ∈ ps,p.1.length <= 1000 /\ p.2.length <= 1000:=fun p hp=>by
   have:=(hRu p hp).n1
   have:=(hRu p hp).n2
   omega
  have hEn:M.length <= 8 -> ∀ w ∈ M,∀ c ∈ l,xg ps (w ++ [c]) /\ Zr ps (w ++ [c]) ∈ M:=fun h8 w hw c hc=>by
   have hx:∀ d ∈ w ++ [c],d ∈ l:=fun d hd=>by
    rcases List.mem_append.mp hd with k | k
    ·exact hF.inl _ rfl hw d k
    ·rw [List.mem_singleton.mp k]
     exact hc
   have hxl:(w ++ [c]).length <= M.length:=by
    have:=hF.ln w hw
    simp only [List.length_append,List.length_cons,List.length_nil]
    omega
   have he:xg ps (w ++ [c]):=by
    rcases hwt with ⟨v,hv⟩ | ⟨h2,h7,hb⟩
    ·exact ui hG hless hx (v:=v) (.inr hv) hxl (by omega) (Xc (by omega))
    ·by_cases hz2:z = 2
     ·subst hz2
      exact XM hG hless hx h2 hb (by omega)
     ·exact ui hG hless hx (v:=1) (.inl (by omega)) hxl (by omega) (Xc (by omega))
   refine ⟨he,?_⟩
   obtain ⟨J,hJ,_,hJe⟩:=he
   rw [u0 hJ hJe]
   exact Qm hF hNe hP3 (vW hG hless hx J) (first_sh.mp hJe)
  have hM6:=s6 _ _ (s5 _ _ hMa)
  refine zk (fun σ H'=>∃ T0:Addr,Same H6 H' /\ σ = [some (.ref a),some (.str (tx l)),some (.int z),some (.int (n:Nat)),some (.ref Ma),some (.ref La),some (.ref D),some (.ref Rl),some (.ref T0),none,none,none,none,none]) ?_ ?_
  ·repeat (first | rfl' | simp only [xf,zE,zX,xn,xk,zB])
   exact ⟨Nat.zero_le _,fun p hp=>zf hp⟩
  rintro σ H7 ⟨T0,s7,rfl⟩
  have hlM:(tW M).length = M.length:=List.length_map ..
  refine zk (fun σ H'=>∃ Tb:Addr,Same H7 H' /\ (M.length <= 8 -> ∃ qs,TabAt H' Tb qs (M.map (vt ps l M))) /\ σ = [some (.ref a),some (.str (tx l)),some (.int z),some (.int (n:Nat)),some (.ref Ma),some (.ref La),some (.ref D),some (.ref Rl),some (.ref Tb),none,none,none,none,none]) ?_ ?_
  ·repeat (first | rfl' | simp only [xf,zE,zX,xn,xk,zB])
   refine ⟨_,.inl ⟨_,SqL.of (s7 _ _ hM6),rfl⟩,yL (fun h8=>?_) fun h8=>⟨Same.refl _,fun h=>absurd h (by rw [hlM] at h8; omega)⟩⟩
   rw [hlM] at h8
   exact ⟨Rl,Ma,ps,l,M,rfl,hL6.same s7,hP1,by omega,s7 _ _ hM6,by omega,fun w hw=>by have:=hF.ln w hw; omega,hEn (by omega),fun t rs H' s' hT=>⟨s',t,fun _=>⟨rs,hT⟩,rfl⟩⟩
  rintro σ H8 ⟨Tb,s8,hTb,rfl⟩
  have s68:=s7.trans s8
  have hL8:=hL6.same s68
  obtain ⟨xs,hX,hI⟩:=id hL8
  refine zk (fun σ H'=>∃ h:Addr,H8 h = none /\ H' = upd H8 h (.lst xs) /\ σ = [some (.ref a),some (.str (tx l)),some (.int z),some (.int (n:Nat)),some (.ref Ma),some (.ref La),some (.ref D),some (.ref Rl),some (.ref Tb),some (.ref h),none,none,none,none]) ?_ ?_
  ·repeat (first | rfl' | simp only [xf,zE,zX,xn,xk,zB])
   exact ⟨_,.inl (SqL.of hX),fun h hh=>⟨h,hh,rfl,rfl⟩⟩
  rintro σ H9 ⟨h,hh,rfl,rfl⟩
  have s9:=zf (o:=.lst xs) hh
  have hQ:RuL z.toNat l ns 40 ps:=⟨fun p hp=>⟨(hRu p hp).n1,(hRu p hp).n2⟩,fun p hp=>(hless p hp).2,fun p hp=>(hless p hp).1⟩
  refine zk (fun σ H'=>Same (upd H8 h (.lst xs)) H' /\ ∃ y o qa:Addr,SysAt K CH H' y o qa ps /\ OrdAt CO CR CW H' o z.toNat l ns /\ σ = [some (.ref a),some (.str (tx l)),some (.int z),some (.int (n:Nat)),some (.ref Ma),some (.ref La),some (.ref D),some (.ref Rl),some (.ref Tb),some (.ref h),some (.ref y),none,none,none]) ?_ ?_
  ·repeat (first | rfl' | simp only [xf,zE,zX,xn,xk,zB])
   refine ⟨z,l,D,ns,rfl,z0,z3,hg,s9 _ _ (s68 _ _ (s6 _ _ hD)),hnl,hnb,fun o H' so ho=>?_⟩
   intro x dx hx hdx hne
   have sd:=zf (o:=.own x) hdx
   have k1:Same H' (upd (upd H' dx (.own x)) x (.ins CH dx [])):=fun b' o' e=>by
    rw [zi (zv e hx)]
    exact sd _ _ e
   have k2:=so.trans k1
   have hh2:=k2 _ _ (zd (H:=H8) (a:=h) (o:=.lst xs))
   refine ⟨x,dx,o,h,z.toNat,l,ns,ps,xs,rfl,zd,ho.same k1,hG,hh2,Iss.same (s9.trans k2) _ _ hI,hQ.inL (by decide),(fun i e=>by rw [hQ.fault] at e; cases e),fun _ q1 H'' kp hx' hq' hqn=>⟨rfl,?_⟩⟩
   have k3:Same H' H'':=fun b' o' e=>kp b' o' (fun z=>by rw [z,hx] at e; cases e) (k1 _ _ e)
   exact ⟨so.trans k3,x,o,⟨q1,⟨dx,xs,hx',hq',Iss.same (s9.trans (so.trans k3)) _ _ hI⟩⟩,ho.same k3,rfl⟩
  rintro σ H10 ⟨s10,y,o,qa,hy,ho,rfl⟩
  have s810:=s9.trans s10
  have hM10:=s810 _ _ (s68 _ _ hM6)
  have hsw:swF (Sh ps) l 8 10 [] [[]] = if 8 < M.length then none else some M:=WQ hF (Uh hF hNe (fun p hp=>.inl (hP2 p hp)) hP3) 8
  refine zk (fun σ H'=>Same H10 H' /\ ∃ v11 v12 v13,σ = [some (.ref a),some (.str (tx l)),some (.int z),some (.int (n:Nat)),some (.ref Ma),some (.ref La),some (.ref D),some (.ref Rl),some (.ref Tb),some (.ref h),some (.ref y),v11,v12,v13]) ?_ ?_
  ·repeat (first | rfl' | simp only [xf,zE,zX,xn,xk,zB])
   refine ⟨by decide,by decide,ForR.by (fun i σ H'=>Same H10 H' /\ ∃ v11 v12 v13,σ = [some (.ref a),some (.str (tx l)),some (.int z),some (.int (n:Nat)),some (.ref Ma),some (.ref La),some (.ref D),some (.ref Rl),some (.ref Tb),some (.ref h),some (.ref y),v11,v12,v13]) ⟨Same.refl _,none,none,none,rfl⟩ ?_ fun σ H' h=>h⟩
   rintro i σ H' hi ⟨hs,v11,v12,v13,rfl⟩
   simp only [y8,List.set_cons_succ,List.set_cons_zero]
   refine zk (fun σ' G=>Same H' G /\ ((8 < M.length /\ σ' = [some (.ref a),some (.str (tx l)),some (.int z),some (.int (n:Nat)),some (.ref Ma),some (.ref La),some (.ref D),some (.ref Rl),some (.ref Tb),some (.ref h),some (.ref y),some (.int (0 + (i:Int))),some (.non),some (.bl true)]) \/ (M.length <= 8 /\ ∃ (x t:Addr) (rs:List Addr),WorAt CV G x l t rs (M.map (vt ps l M)) /\ σ' = [some (.ref a),some (.str (tx l)),some (.int z),some (.int (n:Nat)),some (.ref Ma),some (.ref La),some (.ref D),some (.ref Rl),some (.ref Tb),some (.ref h),some (.ref y),some (.int (0 + (i:Int))),some (.ref x),some (.bl false)]))) ?_ ?_
   ·repeat (first | rfl' | simp only [xf,zE,zX,xn,xk,zB])
    refine ⟨y,o,qa,ps,z.toNat,l,ns,rfl,hy.same hs,ho.same hs,hg,hNe,by omega,hP1,fun hR p H3 s3 hp=>?_,fun ws hR=>?_⟩
    ·rw [hsw] at hR
     have hC:8 < M.length:=by
      by_cases hc:8 < M.length
      ·exact hc
      ·rw [if_neg hc] at hR
       cases hR
     exact ⟨p,rfl,_,SqT.of hp,rfl,_,_,rfl,_,_,rfl,rfl,s3,.inl ⟨hC,rfl,rfl⟩⟩
    ·rw [hsw] at hR
     by_cases hc:8 < M.length
     ·rw [if_pos hc] at hR
      cases hR
     ·rw [if_neg hc] at hR
      cases hR
      exact ⟨List.length_pos_of_mem hF.nil,by omega,fun w hw=>by have:=hF.ln w hw; omega,hEn (by omega),fun p x t rs H3 s3 hW hp=>⟨p,rfl,_,SqT.of hp,rfl,_,_,rfl,_,_,rfl,rfl,s3,.inr ⟨by omega,x,⟨t,rs,hW⟩,rfl,rfl⟩⟩⟩
   rintro σ' G ⟨sG,hc⟩
   have sHG:=hs.trans sG
   have hMG:=sHG _ _ hM10
   rcases hc with ⟨hC,rfl⟩ | ⟨hC,x,t,rs,hW,rfl⟩
   ·repeat (first | rfl' | simp only [xf,zE,zX,xn,xk,zB])
    refine ⟨_,.inl ⟨_,SqL.of hMG,rfl⟩,yL (fun _=>yL (fun h=>absurd trivial h) fun _=>sHG) fun hn'=>absurd hC (by rw [hlM] at hn'; omega)⟩
   ·repeat (first | rfl' | simp only [xf,zE,zX,xn,xk,zB])
    obtain ⟨qs,hT⟩:=hTb hC
    refine ⟨_,.inl ⟨_,SqL.of hMG,rfl⟩,yL (fun hn'=>absurd hC (by rw [hlM] at hn'; omega)) fun _=>?_⟩
    have hGT:uo l (M.map (vt ps l M)):=by
     have:=List.length_pos_of_mem hF.nil
     refine ⟨by rw [List.length_map]; omega,by rw [List.length_map]; omega,fun x hx=>?_,fun x hx n hn=>?_⟩
     ·obtain ⟨w,_,rfl⟩:=List.mem_map.mp hx
      exact List.length_map ..
     ·obtain ⟨w,hw,rfl⟩:=List.mem_map.mp hx
      obtain ⟨c,hc,rfl⟩:=List.mem_map.mp hn
      have:=List.idxOf_lt_length_of_mem (hEn hC w hw c hc).2
      rw [List.length_map]
      omega
    exact ⟨x,t,Ma,Tb,rs,qs,l,M,_,rfl,hW,hGT,hg,hMG,by rw [List.length_map],hT.same (s810.trans sHG),fun i w hw=>Vy hF hNe hP2 hw,fun H' s'=>⟨true,rfl,VP (sHG.trans s')⟩⟩
  rintro σ H11 ⟨s11,v11,v12,v13,rfl⟩
  repeat (first | rfl' | simp only [xf,zE,zX,xn,xk,zB])
  refine Vj (.inl ⟨LsA.is ⟨xs,s11 _ _ (s10 _ _ (zd (H:=H8) (a:=h) (o:=.lst xs))),Iss.same (s810.trans s11) _ _ hI⟩,(hL8.same (s810.trans s11)).is⟩) (by have:=UU ps; omega) ?_
  rw [xL]
  exact q _
end
theorem Xr {us:List Value} (h:us.length = 1):∃ a,us = [a]:=List.length_eq_one_iff.mp h
theorem uw {us:List Value} (h:us.length = 2):∃ a0 a1,us = [a0,a1]:=by
 cases us with
 | nil=>cases h
 | cons a r =>
  obtain ⟨a1,rfl⟩:=Xr (Nat.succ.inj h)
  exact ⟨a,a1,rfl⟩
theorem kg {us:List Value} (h:us.length = 3):∃ a0 a1 a2,us = [a0,a1,a2]:=by
 cases us with
 | nil=>cases h
 | cons a r =>
  obtain ⟨a1,a2,rfl⟩:=uw (Nat.succ.inj h)
  exact ⟨a,a1,a2,rfl⟩
theorem VL {us:List Value} (h:us.length = 4):∃ a0 a1 a2 a3,us = [a0,a1,a2,a3]:=by
 cases us with
 | nil=>cases h
 | cons a r =>
  obtain ⟨a1,a2,a3,rfl⟩:=kg (Nat.succ.inj h)
  exact ⟨a,a1,a2,a3,rfl⟩
theorem Q7 {us:List Value} (h:us.length = 5):∃ a0 a1 a2 a3 a4,us = [a0,a1,a2,a3,a4]:=by
 cases us with
 | nil=>cases h
 | cons a r =>
  obtain ⟨a1,a2,a3,a4,rfl⟩:=VL (Nat.succ.inj h)
  exact ⟨a,a1,a2,a3,a4,rfl⟩
theorem Jq {us:List Value} (h:us.length = 6):∃ a0 a1 a2 a3 a4 a5,us = [a0,a1,a2,a3,a4,a5]:=by
 cases us with
 | nil=>cases h
 | cons a r =>
  obtain ⟨a1,a2,a3,a4,a5,rfl⟩:=Q7 (Nat.succ.inj h)
  exact ⟨a,a1,a2,a3,a4,a5,rfl⟩
theorem Ka {us:List Value} (h:us.length = 7):∃ a0 a1 a2 a3 a4 a5 a6,us = [a0,a1,a2,a3,a4,a5,a6]:=by
 cases us with
 | nil=>cases h
 | cons a r =>
  obtain ⟨a1,a2,a3,a4,a5,a6,rfl⟩:=Jq (Nat.succ.inj h)
  exact ⟨a,a1,a2,a3,a4,a5,a6,rfl⟩
theorem all_mk {l:PySem.W.OpenLaw} {w:World} {K:PySem.W.Frag} {h:Heap} {mg:Str -> Option Value} {fa f0 f1 f2 f3 f4 f5 f6 f7 f8 f9 f10 f11 f12 f13 f14 f15 f16 f17 f18 f19 f20 f21 f22 f23 f24 f25 f26 f27 c_LetterError c_NoLetters c_NoOrder c_Order c_FromRight c_ByWeights c_NotTurned c_System c_NoUse c_TooFar c_TooMany c_NoWorld c_World:Addr} (X:K.In h) (G:h.Ns mainGlobals mg) (hfa:mg "law" = some (.ref fa))
  {od0 an0:Option Addr} {sl0:Array (Option Value)} {oc0 kV0 dc0 pm0 cd0 ct0:Value}
  {od1 an1:Option Addr} {sl1:Array (Option Value)} {oc1 kV1 dc1 pm1 cd1 ct1:Value}
  {od2 an2:Option Addr} {sl2:Array (Option Value)} {oc2 kV2 dc2 pm2 cd2 ct2:Value}
  {od3 an3:Option Addr} {sl3:Array (Option Value)} {oc3 kV3 dc3 pm3 cd3 ct3:Value}
  {od4 an4:Option Addr} {sl4:Array (Option Value)} {oc4 kV4 dc4 pm4 cd4 ct4:Value}
  {od5 an5:Option Addr} {sl5:Array (Option Value)} {oc5 kV5 dc5 pm5 cd5 ct5:Value}
  {od6 an6:Option Addr} {sl6:Array (Option Value)} {oc6 kV6 dc6 pm6 cd6 ct6:Value}
  {od7 an7:Option Addr} {sl7:Array (Option Value)} {oc7 kV7 dc7 pm7 cd7 ct7:Value}
  {od8 an8:Option Addr} {sl8:Array (Option Value)} {oc8 kV8 dc8 pm8 cd8 ct8:Value}
  {od9 an9:Option Addr} {sl9:Array (Option Value)} {oc9 kV9 dc9 pm9 cd9 ct9:Value}
  {od10 an10:Option Addr} {sl10:Array (Option Value)} {oc10 kV10 dc10 pm10 cd10 ct10:Value}
  {od11 an11:Option Addr} {sl11:Array (Option Value)} {oc11 kV11 dc11 pm11 cd11 ct11:Value}
  {od12 an12:Option Addr} {sl12:Array (Option Value)} {oc12 kV12 dc12 pm12 cd12 ct12:Value}
  {od13 an13:Option Addr} {sl13:Array (Option Value)} {oc13 kV13 dc13 pm13 cd13 ct13:Value}
  {od14 an14:Option Addr} {sl14:Array (Option Value)} {oc14 kV14 dc14 pm14 cd14 ct14:Value}
  {od15 an15:Option Addr} {sl15:Array (Option Value)} {oc15 kV15 dc15 pm15 cd15 ct15:Value}
  {od16 an16:Option Addr} {yG:Array (Option Value)} {oc16 kV16 dc16 pm16 cd16 ct16:Value}
  {od17 an17:Option Addr} {sl17:Array (Option Value)} {oc17 kV17 dc17 pm17 cd17 ct17:Value}
  {od18 an18:Option Addr} {sl18:Array (Option Value)} {oc18 kV18 dc18 pm18 cd18 ct18:Value}
  {od19 an19:Option Addr} {sl19:Array (Option Value)} {oc19 kV19 dc19 pm19 cd19 ct19:Value}
  {od20 an20:Option Addr} {sl20:Array (Option Value)} {oc20 kV20 dc20 pm20 cd20 ct20:Value}
  {od21 an21:Option Addr} {sl21:Array (Option Value)} {oc21 kV21 dc21 pm21 cd21 ct21:Value}
  {od22 an22:Option Addr} {sl22:Array (Option Value)} {oc22 kV22 dc22 pm22 cd22 ct22:Value}
  {od23 an23:Option Addr} {sl23:Array (Option Value)} {oc23 kV23 dc23 pm23 cd23 ct23:Value}
  {od24 an24:Option Addr} {sl24:Array (Option Value)} {oc24 kV24 dc24 pm24 cd24 ct24:Value}
  {od25 an25:Option Addr} {sl25:Array (Option Value)} {oc25 kV25 dc25 pm25 cd25 ct25:Value}
  {od26 an26:Option Addr} {sl26:Array (Option Value)} {oc26 kV26 dc26 pm26 cd26 ct26:Value}
  {od27 an27:Option Addr} {sl27:Array (Option Value)} {oc27 kV27 dc27 pm27 cd27 ct27:Value}
  {t6 t7:Tok}
  {fI:Addr}
  {odI anI:Option Addr}
  {slI:Array (Option Value)}
  {ocI kVI dcI pmI cdI ctI:Value}
  {t8:Tok}
  {fU:Addr}
  {odU anU:Option Addr}
  {slU:Array (Option Value)}
  {ocU kVU dcU pmU cdU ctU:Value}
  {t9:Tok}
  {fm_order_init:Addr}
  {od_order_init an_order_init:Option Addr}
  {sl_order_init:Array (Option Value)}
  {oc_order_init kV_order_init dc_order_init pm_order_init cd_order_init ct_order_init:Value}
  {fm_order_weight:Addr}
  {od_order_weight an_order_weight:Option Addr}
  {sl_order_weight:Array (Option Value)}
  {oc_order_weight kV_order_weight dc_order_weight pm_order_weight cd_order_weight ct_order_weight:Value}
  {fm_order_seen:Addr}
  {od_order_seen an_order_seen:Option Addr}
  {sl_order_seen:Array (Option Value)}
  {oc_order_seen kV_order_seen dc_order_seen pm_order_seen cd_order_seen ct_order_seen:Value}
  {fm_fromright_seen:Addr}
  {od_fromright_seen an_fromright_seen:Option Addr}
  {sl_fromright_seen:Array (Option Value)}
  {oc_fromright_seen kV_fromright_seen dc_fromright_seen pm_fromright_seen cd_fromright_seen ct_fromright_seen:Value}
  {fm_byweights_init:Addr}
  {od_byweights_init an_byweights_init:Option Addr}
  {sl_byweights_init:Array (Option Value)}
  {oc_byweights_init kV_byweights_init dc_byweights_init pm_byweights_init cd_byweights_init ct_byweights_init:Value}
  {fm_byweights_weight:Addr}
  {od_byweights_weight an_byweights_weight:Option Addr}
  {sl_byweights_weight:Array (Option Value)}
  {oc_byweights_weight kV_byweights_weight dc_byweights_weight pm_byweights_weight cd_byweights_weight ct_byweights_weight:Value}
  {fm_order_rank:Addr}
  {od_order_rank an_order_rank:Option Addr}
  {sl_order_rank:Array (Option Value)}
  {oc_order_rank kV_order_rank dc_order_rank pm_order_rank cd_order_rank ct_order_rank:Value}
  {fm_order_before:Addr}
  {od_order_before an_order_before:Option Addr}
  {sl_order_before:Array (Option Value)}
  {oc_order_before kV_order_before dc_order_before pm_order_before cd_order_before ct_order_before:Value}
  {fm_system_init:Addr}
  {od_system_init an_system_init:Option Addr}
  {sl_system_init:Array (Option Value)}
  {oc_system_init kV_system_init dc_system_init pm_system_init cd_system_init ct_system_init:Value}
  {fm_system_first_use:Addr}
  {od_system_first_use an_system_first_use:Option Addr}
  {sl_system_first_use:Array (Option Value)}
  {oc_system_first_use kV_system_first_use dc_system_first_use pm_system_first_use cd_system_first_use ct_system_first_use:Value}
  {fm_system_is_shortest:Addr}
  {od_system_is_shortest an_system_is_shortest:Option Addr}
  {sl_system_is_shortest:Array (Option Value)}
  {oc_system_is_shortest kV_system_is_shortest dc_system_is_shortest pm_system_is_shortest cd_system_is_shortest ct_system_is_shortest:Value}
  {fm_system_road:Addr}
  {od_system_road an_system_road:Option Addr}
  {sl_system_road:Array (Option Value)}
  {oc_system_road kV_system_road dc_system_road pm_system_road cd_system_road ct_system_road:Value}
  {dv_system_road:Addr}
  {dt_system_road:Tok}
  {d1_system_road:Value}
  {d2_system_road:Option Addr}
  {d3_system_road:Nat}
  {d4_system_road:Array (Option Value)}
  {fm_system_shortest:Addr}
  {od_system_shortest an_system_shortest:Option Addr}
  {sl_system_shortest:Array (Option Value)}
  {oc_system_shortest kV_system_shortest dc_system_shortest pm_system_shortest cd_system_shortest ct_system_shortest:Value}
  {fm_world_init:Addr}
  {od_world_init an_world_init:Option Addr}
  {sl_world_init:Array (Option Value)}
  {oc_world_init kV_world_init dc_world_init pm_world_init cd_world_init ct_world_init:Value}
  {fm_world_rooms:Addr}
  {od_world_rooms an_world_rooms:Option Addr}
  {sl_world_rooms:Array (Option Value)}
  {oc_world_rooms kV_world_rooms dc_world_rooms pm_world_rooms cd_world_rooms ct_world_rooms:Value}
  {fm_world_table_told:Addr}
  {od_world_table_told an_world_table_told:Option Addr}
  {sl_world_table_told:Array (Option Value)}
  {oc_world_table_told kV_world_table_told dc_world_table_told pm_world_table_told cd_world_table_told ct_world_table_told:Value}
  {fm_world_led:Addr}
  {od_world_led an_world_led:Option Addr}
  {sl_world_led:Array (Option Value)}
  {oc_world_led kV_world_led dc_world_led pm_world_led cd_world_led ct_world_led:Value}
  {dv_gone:Addr}
  {dt_gone:Tok}
  {d1_gone:Value}
  {d2_gone:Option Addr}
  {d3_gone:Nat}
  {d4_gone:Array (Option Value)}
  {dv_shortest_words:Addr}
  {dt_shortest_words:Tok}
  {d1_shortest_words:Value}
  {d2_shortest_words:Option Addr}
  {d3_shortest_words:Nat}
  {d4_shortest_words:Array (Option Value)}
  (a0:PySem.W.nsIn K mainGlobals "is_small_letter" = some (some (.ref f0))) (l0:K.lookup f0 = some ⟨oc0,od0,.func (PySem.W.fnOf "is_small_letter" "is_small_letter" (zm zQ) (zj zQ) (zb zQ) .none kV0 dc0 pm0 an0 cd0 ct0),sl0⟩) (k0:PySem.W.codeIn K cd0 "is_small_letter" = true) (p0:PySem.W.keepIn K (.ref f0) = true)
  (a1:PySem.W.nsIn K mainGlobals "letters_of" = some (some (.ref f1))) (l1:K.lookup f1 = some ⟨oc1,od1,.func (PySem.W.fnOf "letters_of" "letters_of" (zm yv) (zj yv) (zb yv) .none kV1 dc1 pm1 an1 cd1 ct1),sl1⟩) (k1:PySem.W.codeIn K cd1 "letters_of" = true) (p1:PySem.W.keepIn K (.ref f1) = true)
  (a2:PySem.W.nsIn K mainGlobals "stands_at" = some (some (.ref f2))) (l2:K.lookup f2 = some ⟨oc2,od2,.func (PySem.W.fnOf "stands_at" "stands_at" (zm yF) (zj yF) (zb yF) .none kV2 dc2 pm2 an2 cd2 ct2),sl2⟩) (k2:PySem.W.codeIn K cd2 "stands_at" = true) (p2:PySem.W.keepIn K (.ref f2) = true)
  (a3:PySem.W.nsIn K mainGlobals "put" = some (some (.ref f3))) (l3:K.lookup f3 = some ⟨oc3,od3,.func (PySem.W.fnOf "put" "put" (zm Zz) (zj Zz) (zb Zz) .none kV3 dc3 pm3 an3 cd3 ct3),sl3⟩) (k3:PySem.W.codeIn K cd3 "put" = true) (p3:PySem.W.keepIn K (.ref f3) = true)
  (a4:PySem.W.nsIn K mainGlobals "first_within" = some (some (.ref f4))) (l4:K.lookup f4 = some ⟨oc4,od4,.func (PySem.W.fnOf "first_within" "first_within" (zm yb) (zj yb) (zb yb) .none kV4 dc4 pm4 an4 cd4 ct4),sl4⟩) (k4:PySem.W.codeIn K cd4 "first_within" = true) (p4:PySem.W.keepIn K (.ref f4) = true)
  (a5:PySem.W.nsIn K mainGlobals "first_from" = some (some (.ref f5))) (l5:K.lookup f5 = some ⟨oc5,od5,.func (PySem.W.fnOf "first_from" "first_from" (zm yr) (zj yr) (zb yr) .none kV5 dc5 pm5 an5 cd5 ct5),sl5⟩) (k5:PySem.W.codeIn K cd5 "first_from" = true) (p5:PySem.W.keepIn K (.ref f5) = true)
  (a6:PySem.W.nsIn K mainGlobals "gone" = some (some (.ref f6))) (l6:K.lookup f6 = some ⟨oc6,od6,.func (PySem.W.fnOf "gone" "gone" (zm xV) (zj xV) (zb xV) (.ref dv_gone) kV6 dc6 pm6 an6 cd6 ct6),sl6⟩) (k6:PySem.W.codeIn K cd6 "gone" = true) (p6:PySem.W.keepIn K (.ref f6) = true)
  (a7:PySem.W.nsIn K mainGlobals "one_letter_longer" = some (some (.ref f7))) (l7:K.lookup f7 = some ⟨oc7,od7,.func (PySem.W.fnOf "one_letter_longer" "one_letter_longer" (zm zL) (zj zL) (zb zL) .none kV7 dc7 pm7 an7 cd7 ct7),sl7⟩) (k7:PySem.W.codeIn K cd7 "one_letter_longer" = true) (p7:PySem.W.keepIn K (.ref f7) = true)
  (a8:PySem.W.nsIn K mainGlobals "shortest_words" = some (some (.ref f8))) (l8:K.lookup f8 = some ⟨oc8,od8,.func (PySem.W.fnOf "shortest_words" "shortest_words" (zm zD) (zj zD) (zb zD) (.ref dv_shortest_words) kV8 dc8 pm8 an8 cd8 ct8),sl8⟩) (k8:PySem.W.codeIn K cd8 "shortest_words" = true) (p8:PySem.W.keepIn K (.ref f8) = true)
  (a9:PySem.W.nsIn K mainGlobals "table_of" = some (some (.ref f9))) (l9:K.lookup f9 = some ⟨oc9,od9,.func (PySem.W.fnOf "table_of" "table_of" (zm yC) (zj yC) (zb yC) .none kV9 dc9 pm9 an9 cd9 ct9),sl9⟩) (k9:PySem.W.codeIn K cd9 "table_of" = true) (p9:PySem.W.keepIn K (.ref f9) = true)
  (a10:PySem.W.nsIn K mainGlobals "row_of" = some (some (.ref f10))) (l10:K.lookup f10 = some ⟨oc10,od10,.func (PySem.W.fnOf "row_of" "row_of" (zm xB) (zj xB) (zb xB) .none kV10 dc10 pm10 an10 cd10 ct10),sl10⟩) (k10:PySem.W.codeIn K cd10 "row_of" = true) (p10:PySem.W.keepIn K (.ref f10) = true)
  (a11:PySem.W.nsIn K mainGlobals "world_of" = some (some (.ref f11))) (l11:K.lookup f11 = some ⟨oc11,od11,.func (PySem.W.fnOf "world_of" "world_of" (zm yB) (zj yB) (zb yB) .none kV11 dc11 pm11 an11 cd11 ct11),sl11⟩) (k11:PySem.W.codeIn K cd11 "world_of" = true) (p11:PySem.W.keepIn K (.ref f11) = true)
  (a12:PySem.W.nsIn K mainGlobals "_law_cell_at" = some (some (.ref f12))) (l12:K.lookup f12 = some ⟨oc12,od12,.func (PySem.W.fnOf "_law_cell_at" "_law_cell_at" (zm xj) (zj xj) (zb xj) .none kV12 dc12 pm12 an12 cd12 ct12),sl12⟩) (k12:PySem.W.codeIn K cd12 "_law_cell_at" = true) (p12:PySem.W.keepIn K (.ref f12) = true)
  (a13:PySem.W.nsIn K mainGlobals "_law_letters" = some (some (.ref f13))) (l13:K.lookup f13 = some ⟨oc13,od13,.func (PySem.W.fnOf "_law_letters" "_law_letters" (zm xw) (zj xw) (zb xw) .none kV13 dc13 pm13 an13 cd13 ct13),sl13⟩) (k13:PySem.W.codeIn K cd13 "_law_letters" = true) (p13:PySem.W.keepIn K (.ref f13) = true)
  (a14:PySem.W.nsIn K mainGlobals "_law_rank" = some (some (.ref f14))) (l14:K.lookup f14 = some ⟨oc14,od14,.func (PySem.W.fnOf "_law_rank" "_law_rank" (zm uO) (zj uO) (zb uO) .none kV14 dc14 pm14 an14 cd14 ct14),sl14⟩) (k14:PySem.W.codeIn K cd14 "_law_rank" = true) (p14:PySem.W.keepIn K (.ref f14) = true)
  (a15:PySem.W.nsIn K mainGlobals "_law_less" = some (some (.ref f15))) (l15:K.lookup f15 = some ⟨oc15,od15,.func (PySem.W.fnOf "_law_less" "_law_less" (zm uI) (zj uI) (zb uI) .none kV15 dc15 pm15 an15 cd15 ct15),sl15⟩) (k15:PySem.W.codeIn K cd15 "_law_less" = true) (p15:PySem.W.keepIn K (.ref f15) = true)
  (a16:PySem.W.nsIn K mainGlobals "_law_order" = some (some (.ref f16))) (l16:K.lookup f16 = some ⟨oc16,od16,.func (PySem.W.fnOf "_law_order" "_law_order" (zm wX) (zj wX) (zb wX) .none kV16 dc16 pm16 an16 cd16 ct16),yG⟩) (k16:PySem.W.codeIn K cd16 "_law_order" = true) (p16:PySem.W.keepIn K (.ref f16) = true)
  (a17:PySem.W.nsIn K mainGlobals "_law_members" = some (some (.ref f17))) (l17:K.lookup f17 = some ⟨oc17,od17,.func (PySem.W.fnOf "_law_members" "_law_members" (zm xx) (zj xx) (zb xx) .none kV17 dc17 pm17 an17 cd17 ct17),sl17⟩) (k17:PySem.W.codeIn K cd17 "_law_members" = true) (p17:PySem.W.keepIn K (.ref f17) = true)
  (a18:PySem.W.nsIn K mainGlobals "_law_right" = some (some (.ref f18))) (l18:K.lookup f18 = some ⟨oc18,od18,.func (PySem.W.fnOf "_law_right" "_law_right" (zm vn) (zj vn) (zb vn) .none kV18 dc18 pm18 an18 cd18 ct18),sl18⟩) (k18:PySem.W.codeIn K cd18 "_law_right" = true) (p18:PySem.W.keepIn K (.ref f18) = true)
  (a19:PySem.W.nsIn K mainGlobals "_law_rules" = some (some (.ref f19))) (l19:K.lookup f19 = some ⟨oc19,od19,.func (PySem.W.fnOf "_law_rules" "_law_rules" (zm ww) (zj ww) (zb ww) .none kV19 dc19 pm19 an19 cd19 ct19),sl19⟩) (k19:PySem.W.codeIn K cd19 "_law_rules" = true) (p19:PySem.W.keepIn K (.ref f19) = true)
  (a20:PySem.W.nsIn K mainGlobals "_law_first" = some (some (.ref f20))) (l20:K.lookup f20 = some ⟨oc20,od20,.func (PySem.W.fnOf "_law_first" "_law_first" (zm vh) (zj vh) (zb vh) .none kV20 dc20 pm20 an20 cd20 ct20),sl20⟩) (k20:PySem.W.codeIn K cd20 "_law_first" = true) (p20:PySem.W.keepIn K (.ref f20) = true)
  (a21:PySem.W.nsIn K mainGlobals "_law_form" = some (some (.ref f21))) (l21:K.lookup f21 = some ⟨oc21,od21,.func (PySem.W.fnOf "_law_form" "_law_form" (zm uH) (zj uH) (zb uH) .none kV21 dc21 pm21 an21 cd21 ct21),sl21⟩) (k21:PySem.W.codeIn K cd21 "_law_form" = true) (p21:PySem.W.keepIn K (.ref f21) = true)
  (a22:PySem.W.nsIn K mainGlobals "_law_weights" = some (some (.ref f22))) (l22:K.lookup f22 = some ⟨oc22,od22,.func (PySem.W.fnOf "_law_weights" "_law_weights" (zm xq) (zj xq) (zb xq) .none kV22 dc22 pm22 an22 cd22 ct22),sl22⟩) (k22:PySem.W.codeIn K cd22 "_law_weights" = true) (p22:PySem.W.keepIn K (.ref f22) = true)
  (a23:PySem.W.nsIn K mainGlobals "_law_table" = some (some (.ref f23))) (l23:K.lookup f23 = some ⟨oc23,od23,.func (PySem.W.fnOf "_law_table" "_law_table" (zm wj) (zj wj) (zb wj) .none kV23 dc23 pm23 an23 cd23 ct23),sl23⟩) (k23:PySem.W.codeIn K cd23 "_law_table" = true) (p23:PySem.W.keepIn K (.ref f23) = true)
  (a24:PySem.W.nsIn K mainGlobals "_law_whole_row" = some (some (.ref f24))) (l24:K.lookup f24 = some ⟨oc24,od24,.func (PySem.W.fnOf "_law_whole_row" "_law_whole_row" (zm yE) (zj yE) (zb yE) .none kV24 dc24 pm24 an24 cd24 ct24),sl24⟩) (k24:PySem.W.codeIn K cd24 "_law_whole_row" = true) (p24:PySem.W.keepIn K (.ref f24) = true)
  (a25:PySem.W.nsIn K mainGlobals "_law_world_is" = some (some (.ref f25))) (l25:K.lookup f25 = some ⟨oc25,od25,.func (PySem.W.fnOf "_law_world_is" "_law_world_is" (zm yN) (zj yN) (zb yN) .none kV25 dc25 pm25 an25 cd25 ct25),sl25⟩) (k25:PySem.W.codeIn K cd25 "_law_world_is" = true) (p25:PySem.W.keepIn K (.ref f25) = true)
  (a26:PySem.W.nsIn K mainGlobals "_law_asked" = some (some (.ref f26))) (l26:K.lookup f26 = some ⟨oc26,od26,.func (PySem.W.fnOf "_law_asked" "_law_asked" (zm va) (zj va) (zb va) .none kV26 dc26 pm26 an26 cd26 ct26),sl26⟩) (k26:PySem.W.codeIn K cd26 "_law_asked" = true) (p26:PySem.W.keepIn K (.ref f26) = true)
  (a27:PySem.W.nsIn K mainGlobals "law" = some (some (.ref f27))) (l27:K.lookup f27 = some ⟨oc27,od27,.func (PySem.W.fnOf "law" "law" (zm qx) (zj qx) (zb qx) .none kV27 dc27 pm27 an27 cd27 ct27),sl27⟩) (k27:PySem.W.codeIn K cd27 "law" = true) (p27:PySem.W.keepIn K (.ref f27) = true)
  (g_LetterError:PySem.W.nsIn K mainGlobals "LetterError" = some (some (.ref c_LetterError)))
  (g_NoLetters:PySem.W.nsIn K mainGlobals "NoLetters" = some (some (.ref c_NoLetters)))
  (g_NoOrder:PySem.W.nsIn K mainGlobals "NoOrder" = some (some (.ref c_NoOrder)))
  (g_Order:PySem.W.nsIn K mainGlobals "Order" = some (some (.ref c_Order)))
  (g_FromRight:PySem.W.nsIn K mainGlobals "FromRight" = some (some (.ref c_FromRight)))
  (g_ByWeights:PySem.W.nsIn K mainGlobals "ByWeights" = some (some (.ref c_ByWeights)))
  (g_NotTurned:PySem.W.nsIn K mainGlobals "NotTurned" = some (some (.ref c_NotTurned)))
  (g_System:PySem.W.nsIn K mainGlobals "System" = some (some (.ref c_System)))
  (g_NoUse:PySem.W.nsIn K mainGlobals "NoUse" = some (some (.ref c_NoUse)))
  (g_TooFar:PySem.W.nsIn K mainGlobals "TooFar" = some (some (.ref c_TooFar)))
  (g_TooMany:PySem.W.nsIn K mainGlobals "TooMany" = some (some (.ref c_TooMany)))
  (g_NoWorld:PySem.W.nsIn K mainGlobals "NoWorld" = some (some (.ref c_NoWorld)))
  (g_World:PySem.W.nsIn K mainGlobals "World" = some (some (.ref c_World)))
  (kbb:PySem.W.kitOne K (.type "bool") (.type "bool") = some true)
  (kt:PySem.W.kitOne K (.type "tuple") (.type "tuple") = some true)
  (ki:PySem.W.kitOne K (.type "int") (.type "int") = some true)
  (kb:PySem.W.kitOne K (.type "int") (.type "bool") = some false)
  (kl:PySem.W.kitOne K (.type "list") (.type "list") = some true)
  (x7:PySem.W.specialIn K (.builtin "object.__class__") "__get__" = some (some (.builtin "getset_descriptor.__get__")))
  (x8:PySem.W.takesIn K (.builtin "object.__class__") = some true)
  (x1:jb K c_NoLetters = true)
  (x2:PySem.W.findIn K (.ref c_NoLetters) "__setattr__" = some (some (.builtin "object.__setattr__")))
  (x3:PySem.W.findIn K (.ref c_NoLetters) "__getattribute__" = some (some (.builtin "BaseException.__getattribute__")))
  (x4:PySem.W.findIn K (.ref c_NoLetters) "__getattr__" = some none)
  (x5:PySem.W.keepIn K (.ref c_NoLetters) = true)
  (x6:PySem.W.findIn K (.ref c_NoLetters) "__class__" = some (some (.builtin "object.__class__")))
  (x9:PySem.W.mroIn K c_NoLetters (.type "object") = some true)
  (xi:PySem.W.findIn K (.ref c_NoLetters) "__init__" = some (some (.builtin "ValueError.__init__")))
  (y1:jb K c_NoOrder = true)
  (y2:PySem.W.findIn K (.ref c_NoOrder) "__setattr__" = some (some (.builtin "object.__setattr__")))
  (y3:PySem.W.findIn K (.ref c_NoOrder) "__getattribute__" = some (some (.builtin "BaseException.__getattribute__")))
  (y4:PySem.W.findIn K (.ref c_NoOrder) "__getattr__" = some none)
  (y5:PySem.W.keepIn K (.ref c_NoOrder) = true)
  (y6:PySem.W.findIn K (.ref c_NoOrder) "__class__" = some (some (.builtin "object.__class__")))
  (y9:PySem.W.mroIn K c_NoOrder (.type "object") = some true)
  (yi:PySem.W.findIn K (.ref c_NoOrder) "__init__" = some (some (.builtin "ValueError.__init__")))
  (most:PySem.W.nsIn K mainGlobals "MOST_LETTERS" = some (some (.int 6 t6)))
  (mostw:PySem.W.nsIn K mainGlobals "MOST_WEIGHT" = some (some (.int 1000000 t7)))
  (pg_Order:PySem.W.plainGet K c_Order Str.empty = true)
  (hd_Order:PySem.W.hasDictIn K c_Order = true)
  (po_Order:PySem.W.plainOver K c_Order = true)
  (sa_Order:PySem.W.findIn K (.ref c_Order) "__setattr__" = some (some (.builtin "object.__setattr__")))
  (mk_Order:PySem.W.makesIn K c_Order = true)
  (kc_Order:PySem.W.keepIn K (.ref c_Order) = true)
  (nl_Order:PySem.W.findIn K (.ref c_Order) "letters" = some none)
  (ka_Order:PySem.W.kitOne K (.ref c_Order) (.ref c_Order) = some true)
  (cl_Order:PySem.W.findIn K (.ref c_Order) "__class__" = some (some (.builtin "object.__class__")))
  (mr_Order:PySem.W.mroIn K c_Order (.type "object") = some true)
  (pg_FromRight:PySem.W.plainGet K c_FromRight Str.empty = true)
  (hd_FromRight:PySem.W.hasDictIn K c_FromRight = true)
  (po_FromRight:PySem.W.plainOver K c_FromRight = true)
  (sa_FromRight:PySem.W.findIn K (.ref c_FromRight) "__setattr__" = some (some (.builtin "object.__setattr__")))
  (mk_FromRight:PySem.W.makesIn K c_FromRight = true)
  (kc_FromRight:PySem.W.keepIn K (.ref c_FromRight) = true)
  (nl_FromRight:PySem.W.findIn K (.ref c_FromRight) "letters" = some none)
  (ka_FromRight:PySem.W.kitOne K (.ref c_FromRight) (.ref c_Order) = some true)
  (cl_FromRight:PySem.W.findIn K (.ref c_FromRight) "__class__" = some (some (.builtin "object.__class__")))
  (mr_FromRight:PySem.W.mroIn K c_FromRight (.type "object") = some true)
  (pg_ByWeights:PySem.W.plainGet K c_ByWeights Str.empty = true)
  (hd_ByWeights:PySem.W.hasDictIn K c_ByWeights = true)
  (po_ByWeights:PySem.W.plainOver K c_ByWeights = true)
  (sa_ByWeights:PySem.W.findIn K (.ref c_ByWeights) "__setattr__" = some (some (.builtin "object.__setattr__")))
  (mk_ByWeights:PySem.W.makesIn K c_ByWeights = true)
  (kc_ByWeights:PySem.W.keepIn K (.ref c_ByWeights) = true)
  (nl_ByWeights:PySem.W.findIn K (.ref c_ByWeights) "letters" = some none)
  (ka_ByWeights:PySem.W.kitOne K (.ref c_ByWeights) (.ref c_Order) = some true)
  (cl_ByWeights:PySem.W.findIn K (.ref c_ByWeights) "__class__" = some (some (.builtin "object.__class__")))
  (mr_ByWeights:PySem.W.mroIn K c_ByWeights (.type "object") = some true)
  (nw_ByWeights:PySem.W.findIn K (.ref c_ByWeights) "weights" = some none)
  (sgO:PySem.W.specialIn K (.ref c_Order) "__getattribute__" = some (some (.builtin "type.__getattribute__")))
  (rdO:PySem.W.readsIn K c_Order (.type "type") = true)
  (win:PySem.W.nsIn K mainGlobals "WINDOW" = some (some (.int 128 t8)))
  (tt1:jb K c_NotTurned = true)
  (tt2:PySem.W.findIn K (.ref c_NotTurned) "__setattr__" = some (some (.builtin "object.__setattr__")))
  (tt3:PySem.W.findIn K (.ref c_NotTurned) "__getattribute__" = some (some (.builtin "BaseException.__getattribute__")))
  (tt4:PySem.W.findIn K (.ref c_NotTurned) "__getattr__" = some none)
  (tt5:PySem.W.keepIn K (.ref c_NotTurned) = true)
  (tt6:PySem.W.findIn K (.ref c_NotTurned) "__class__" = some (some (.builtin "object.__class__")))
  (tt9:PySem.W.mroIn K c_NotTurned (.type "object") = some true)
  (nn:PySem.W.findIn K (.ref c_NotTurned) "number" = some none)
  (ini:PySem.W.findIn K (.ref c_NotTurned) "__init__" = some (some (.ref fI)))
  (lI:K.lookup fI = some ⟨ocI,odI,.func (PySem.W.fnOf "__init__" "NotTurned.__init__" (zm zS) (zj zS) (zb zS) .none kVI dcI pmI anI cdI ctI),slI⟩)
  (kI:PySem.W.codeIn K cdI "NotTurned.__init__" = true)
  (pI:PySem.W.keepIn K (.ref fI) = true)
  (fnI:PySem.W.isFn K (.ref fI) = true)
  (pg_System:PySem.W.plainGet K c_System Str.empty = true)
  (hd_System:PySem.W.hasDictIn K c_System = true)
  (po_System:PySem.W.plainOver K c_System = true)
  (sa_System:PySem.W.findIn K (.ref c_System) "__setattr__" = some (some (.builtin "object.__setattr__")))
  (mk_System:PySem.W.makesIn K c_System = true)
  (kc_System:PySem.W.keepIn K (.ref c_System) = true)
  (no_System:PySem.W.findIn K (.ref c_System) "order" = some none)
  (nr_System:PySem.W.findIn K (.ref c_System) "rules" = some none)
  (u1:jb K c_NoUse = true)
  (u2:PySem.W.findIn K (.ref c_NoUse) "__setattr__" = some (some (.builtin "object.__setattr__")))
  (u3:PySem.W.findIn K (.ref c_NoUse) "__getattribute__" = some (some (.builtin "BaseException.__getattribute__")))
  (u4:PySem.W.findIn K (.ref c_NoUse) "__getattr__" = some none)
  (u5:PySem.W.keepIn K (.ref c_NoUse) = true)
  (u6:PySem.W.findIn K (.ref c_NoUse) "__class__" = some (some (.builtin "object.__class__")))
  (u9:PySem.W.mroIn K c_NoUse (.type "object") = some true)
  (ua:PySem.W.findIn K (.ref c_NoUse) "at" = some none)
  (iniU:PySem.W.findIn K (.ref c_NoUse) "__init__" = some (some (.ref fU)))
  (lU:K.lookup fU = some ⟨ocU,odU,.func (PySem.W.fnOf "__init__" "NoUse.__init__" (zm yw) (zj yw) (zb yw) .none kVU dcU pmU anU cdU ctU),slU⟩)
  (kU:PySem.W.codeIn K cdU "NoUse.__init__" = true)
  (pU:PySem.W.keepIn K (.ref fU) = true)
  (fnU:PySem.W.isFn K (.ref fU) = true)
  (v1:jb K c_TooFar = true)
  (v2:PySem.W.findIn K (.ref c_TooFar) "__setattr__" = some (some (.builtin "object.__setattr__")))
  (v3:PySem.W.findIn K (.ref c_TooFar) "__getattribute__" = some (some (.builtin "BaseException.__getattribute__")))
  (v4:PySem.W.findIn K (.ref c_TooFar) "__getattr__" = some none)
  (v5:PySem.W.keepIn K (.ref c_TooFar) = true)
  (v6:PySem.W.findIn K (.ref c_TooFar) "__class__" = some (some (.builtin "object.__class__")))
  (v9:PySem.W.mroIn K c_TooFar (.type "object") = some true)
  (vi:PySem.W.findIn K (.ref c_TooFar) "__init__" = some (some (.builtin "ValueError.__init__")))
  (sFF:PySem.W.subIn K (.ref c_TooFar) (.ref c_TooFar) = some true)
  (w1:jb K c_TooMany = true)
  (w2:PySem.W.findIn K (.ref c_TooMany) "__setattr__" = some (some (.builtin "object.__setattr__")))
  (w3:PySem.W.findIn K (.ref c_TooMany) "__getattribute__" = some (some (.builtin "BaseException.__getattribute__")))
  (w4:PySem.W.findIn K (.ref c_TooMany) "__getattr__" = some none)
  (w5:PySem.W.keepIn K (.ref c_TooMany) = true)
  (w6:PySem.W.findIn K (.ref c_TooMany) "__class__" = some (some (.builtin "object.__class__")))
  (w9:PySem.W.mroIn K c_TooMany (.type "object") = some true)
  (wi:PySem.W.findIn K (.ref c_TooMany) "__init__" = some (some (.builtin "ValueError.__init__")))
  (nw1:jb K c_NoWorld = true)
  (nw2:PySem.W.findIn K (.ref c_NoWorld) "__setattr__" = some (some (.builtin "object.__setattr__")))
  (nw3:PySem.W.findIn K (.ref c_NoWorld) "__getattribute__" = some (some (.builtin "BaseException.__getattribute__")))
  (nw4:PySem.W.findIn K (.ref c_NoWorld) "__getattr__" = some none)
  (nw5:PySem.W.keepIn K (.ref c_NoWorld) = true)
  (nw6:PySem.W.findIn K (.ref c_NoWorld) "__class__" = some (some (.builtin "object.__class__")))
  (nw9:PySem.W.mroIn K c_NoWorld (.type "object") = some true)
  (nwi:PySem.W.findIn K (.ref c_NoWorld) "__init__" = some (some (.builtin "ValueError.__init__")))
  (mostr:PySem.W.nsIn K mainGlobals "MOST_ROOMS" = some (some (.int 8 t9)))
  (pg_World:PySem.W.plainGet K c_World Str.empty = true)
  (hd_World:PySem.W.hasDictIn K c_World = true)
  (po_World:PySem.W.plainOver K c_World = true)
  (sa_World:PySem.W.findIn K (.ref c_World) "__setattr__" = some (some (.builtin "object.__setattr__")))
  (mk_World:PySem.W.makesIn K c_World = true)
  (kc_World:PySem.W.keepIn K (.ref c_World) = true)
  (nl_World:PySem.W.findIn K (.ref c_World) "letters" = some none)
  (nt_World:PySem.W.findIn K (.ref c_World) "table" = some none)
  (ka_World:PySem.W.kitOne K (.ref c_World) (.ref c_World) = some true)
  (cl_World:PySem.W.findIn K (.ref c_World) "__class__" = some (some (.builtin "object.__class__")))
  (mr_World:PySem.W.mroIn K c_World (.type "object") = some true)
  (kMM:PySem.W.subIn K (.ref c_TooMany) (.ref c_TooMany) = some true)
  (kMF:PySem.W.kitOne K (.ref c_TooMany) (.ref c_TooFar) = some false)
  (kMW:PySem.W.kitOne K (.ref c_TooMany) (.ref c_NoWorld) = some false)
  (nmin:PySem.W.nsIn K mainGlobals "min" = some none)
  (fi_order_init:PySem.W.findIn K (.ref c_Order) "__init__" = some (some (.ref fm_order_init)))
  (lo_order_init:K.lookup fm_order_init = some ⟨oc_order_init,od_order_init,.func (PySem.W.fnOf "__init__" "Order.__init__" (zm yq) (zj yq) (zb yq) .none kV_order_init dc_order_init pm_order_init an_order_init cd_order_init ct_order_init),sl_order_init⟩)
  (co_order_init:PySem.W.codeIn K cd_order_init "Order.__init__" = true)
  (ke_order_init:PySem.W.keepIn K (.ref fm_order_init) = true)
  (fn_order_init:PySem.W.isFn K (.ref fm_order_init) = true)
  (fi_order_weight:PySem.W.findIn K (.ref c_Order) "weight" = some (some (.ref fm_order_weight)))
  (lo_order_weight:K.lookup fm_order_weight = some ⟨oc_order_weight,od_order_weight,.func (PySem.W.fnOf "weight" "Order.weight" (zm yc) (zj yc) (zb yc) .none kV_order_weight dc_order_weight pm_order_weight an_order_weight cd_order_weight ct_order_weight),sl_order_weight⟩)
  (co_order_weight:PySem.W.codeIn K cd_order_weight "Order.weight" = true)
  (ke_order_weight:PySem.W.keepIn K (.ref fm_order_weight) = true)
  (fn_order_weight:PySem.W.isFn K (.ref fm_order_weight) = true)
  (fi_order_seen:PySem.W.findIn K (.ref c_Order) "seen" = some (some (.ref fm_order_seen)))
  (lo_order_seen:K.lookup fm_order_seen = some ⟨oc_order_seen,od_order_seen,.func (PySem.W.fnOf "seen" "Order.seen" (zm yt) (zj yt) (zb yt) .none kV_order_seen dc_order_seen pm_order_seen an_order_seen cd_order_seen ct_order_seen),sl_order_seen⟩)
  (co_order_seen:PySem.W.codeIn K cd_order_seen "Order.seen" = true)
  (ke_order_seen:PySem.W.keepIn K (.ref fm_order_seen) = true)
  (fn_order_seen:PySem.W.isFn K (.ref fm_order_seen) = true)
  (fi_fromright_seen:PySem.W.findIn K (.ref c_FromRight) "seen" = some (some (.ref fm_fromright_seen)))
  (lo_fromright_seen:K.lookup fm_fromright_seen = some ⟨oc_fromright_seen,od_fromright_seen,.func (PySem.W.fnOf "seen" "FromRight.seen" (zm zV) (zj zV) (zb zV) .none kV_fromright_seen dc_fromright_seen pm_fromright_seen an_fromright_seen cd_fromright_seen ct_fromright_seen),sl_fromright_seen⟩)
  (co_fromright_seen:PySem.W.codeIn K cd_fromright_seen "FromRight.seen" = true)
  (ke_fromright_seen:PySem.W.keepIn K (.ref fm_fromright_seen) = true)
  (fn_fromright_seen:PySem.W.isFn K (.ref fm_fromright_seen) = true)
  (fi_byweights_init:PySem.W.findIn K (.ref c_ByWeights) "__init__" = some (some (.ref fm_byweights_init)))
  (lo_byweights_init:K.lookup fm_byweights_init = some ⟨oc_byweights_init,od_byweights_init,.func (PySem.W.fnOf "__init__" "ByWeights.__init__" (zm zU) (zj zU) (zb zU) .none kV_byweights_init dc_byweights_init pm_byweights_init an_byweights_init cd_byweights_init ct_byweights_init),sl_byweights_init⟩)
  (co_byweights_init:PySem.W.codeIn K cd_byweights_init "ByWeights.__init__" = true)
  (ke_byweights_init:PySem.W.keepIn K (.ref fm_byweights_init) = true)
  (fn_byweights_init:PySem.W.isFn K (.ref fm_byweights_init) = true)
  (fi_byweights_weight:PySem.W.findIn K (.ref c_ByWeights) "weight" = some (some (.ref fm_byweights_weight)))
  (lo_byweights_weight:K.lookup fm_byweights_weight = some ⟨oc_byweights_weight,od_byweights_weight,.func (PySem.W.fnOf "weight" "ByWeights.weight" (zm zH) (zj zH) (zb zH) .none kV_byweights_weight dc_byweights_weight pm_byweights_weight an_byweights_weight cd_byweights_weight ct_byweights_weight),sl_byweights_weight⟩)
  (co_byweights_weight:PySem.W.codeIn K cd_byweights_weight "ByWeights.weight" = true)
  (ke_byweights_weight:PySem.W.keepIn K (.ref fm_byweights_weight) = true)
  (fn_byweights_weight:PySem.W.isFn K (.ref fm_byweights_weight) = true)
  (fi_order_rank:PySem.W.findIn K (.ref c_Order) "rank" = some (some (.ref fm_order_rank)))
  (lo_order_rank:K.lookup fm_order_rank = some ⟨oc_order_rank,od_order_rank,.func (PySem.W.fnOf "rank" "Order.rank" (zm yf) (zj yf) (zb yf) .none kV_order_rank dc_order_rank pm_order_rank an_order_rank cd_order_rank ct_order_rank),sl_order_rank⟩)
  (co_order_rank:PySem.W.codeIn K cd_order_rank "Order.rank" = true)
  (ke_order_rank:PySem.W.keepIn K (.ref fm_order_rank) = true)
  (fn_order_rank:PySem.W.isFn K (.ref fm_order_rank) = true)
  (fi_order_before:PySem.W.findIn K (.ref c_Order) "before" = some (some (.ref fm_order_before)))
  (lo_order_before:K.lookup fm_order_before = some ⟨oc_order_before,od_order_before,.func (PySem.W.fnOf "before" "Order.before" (zm yd) (zj yd) (zb yd) .none kV_order_before dc_order_before pm_order_before an_order_before cd_order_before ct_order_before),sl_order_before⟩)
  (co_order_before:PySem.W.codeIn K cd_order_before "Order.before" = true)
  (ke_order_before:PySem.W.keepIn K (.ref fm_order_before) = true)
  (fn_order_before:PySem.W.isFn K (.ref fm_order_before) = true)
  (fi_system_init:PySem.W.findIn K (.ref c_System) "__init__" = some (some (.ref fm_system_init)))
  (lo_system_init:K.lookup fm_system_init = some ⟨oc_system_init,od_system_init,.func (PySem.W.fnOf "__init__" "System.__init__" (zm yk) (zj yk) (zb yk) .none kV_system_init dc_system_init pm_system_init an_system_init cd_system_init ct_system_init),sl_system_init⟩)
  (co_system_init:PySem.W.codeIn K cd_system_init "System.__init__" = true)
  (ke_system_init:PySem.W.keepIn K (.ref fm_system_init) = true)
  (fn_system_init:PySem.W.isFn K (.ref fm_system_init) = true)
  (fi_system_first_use:PySem.W.findIn K (.ref c_System) "first_use" = some (some (.ref fm_system_first_use)))
  (lo_system_first_use:K.lookup fm_system_first_use = some ⟨oc_system_first_use,od_system_first_use,.func (PySem.W.fnOf "first_use" "System.first_use" (zm zN) (zj zN) (zb zN) .none kV_system_first_use dc_system_first_use pm_system_first_use an_system_first_use cd_system_first_use ct_system_first_use),sl_system_first_use⟩)
  (co_system_first_use:PySem.W.codeIn K cd_system_first_use "System.first_use" = true)
  (ke_system_first_use:PySem.W.keepIn K (.ref fm_system_first_use) = true)
  (fn_system_first_use:PySem.W.isFn K (.ref fm_system_first_use) = true)
  (fi_system_is_shortest:PySem.W.findIn K (.ref c_System) "is_shortest" = some (some (.ref fm_system_is_shortest)))
  (lo_system_is_shortest:K.lookup fm_system_is_shortest = some ⟨oc_system_is_shortest,od_system_is_shortest,.func (PySem.W.fnOf "is_shortest" "System.is_shortest" (zm zJ) (zj zJ) (zb zJ) .none kV_system_is_shortest dc_system_is_shortest pm_system_is_shortest an_system_is_shortest cd_system_is_shortest ct_system_is_shortest),sl_system_is_shortest⟩)
  (co_system_is_shortest:PySem.W.codeIn K cd_system_is_shortest "System.is_shortest" = true)
  (ke_system_is_shortest:PySem.W.keepIn K (.ref fm_system_is_shortest) = true)
  (fn_system_is_shortest:PySem.W.isFn K (.ref fm_system_is_shortest) = true)
  (fi_system_road:PySem.W.findIn K (.ref c_System) "road" = some (some (.ref fm_system_road)))
  (lo_system_road:K.lookup fm_system_road = some ⟨oc_system_road,od_system_road,.func (PySem.W.fnOf "road" "System.road" (zm zP) (zj zP) (zb zP) (.ref dv_system_road) kV_system_road dc_system_road pm_system_road an_system_road cd_system_road ct_system_road),sl_system_road⟩)
  (co_system_road:PySem.W.codeIn K cd_system_road "System.road" = true)
  (ke_system_road:PySem.W.keepIn K (.ref fm_system_road) = true)
  (fn_system_road:PySem.W.isFn K (.ref fm_system_road) = true)
  (dl_system_road:K.lookup dv_system_road = some ⟨d1_system_road,d2_system_road,.seq #[.int 4000 dt_system_road] d3_system_road,d4_system_road⟩)
  (fi_system_shortest:PySem.W.findIn K (.ref c_System) "shortest" = some (some (.ref fm_system_shortest)))
  (lo_system_shortest:K.lookup fm_system_shortest = some ⟨oc_system_shortest,od_system_shortest,.func (PySem.W.fnOf "shortest" "System.shortest" (zm zR) (zj zR) (zb zR) .none kV_system_shortest dc_system_shortest pm_system_shortest an_system_shortest cd_system_shortest ct_system_shortest),sl_system_shortest⟩)
  (co_system_shortest:PySem.W.codeIn K cd_system_shortest "System.shortest" = true)
  (ke_system_shortest:PySem.W.keepIn K (.ref fm_system_shortest) = true)
  (fn_system_shortest:PySem.W.isFn K (.ref fm_system_shortest) = true)
  (fi_world_init:PySem.W.findIn K (.ref c_World) "__init__" = some (some (.ref fm_world_init)))
  (lo_world_init:K.lookup fm_world_init = some ⟨oc_world_init,od_world_init,.func (PySem.W.fnOf "__init__" "World.__init__" (zm yo) (zj yo) (zb yo) .none kV_world_init dc_world_init pm_world_init an_world_init cd_world_init ct_world_init),sl_world_init⟩)
  (co_world_init:PySem.W.codeIn K cd_world_init "World.__init__" = true)
  (ke_world_init:PySem.W.keepIn K (.ref fm_world_init) = true)
  (fn_world_init:PySem.W.isFn K (.ref fm_world_init) = true)
  (fi_world_rooms:PySem.W.findIn K (.ref c_World) "rooms" = some (some (.ref fm_world_rooms)))
  (lo_world_rooms:K.lookup fm_world_rooms = some ⟨oc_world_rooms,od_world_rooms,.func (PySem.W.fnOf "rooms" "World.rooms" (zm yh) (zj yh) (zb yh) .none kV_world_rooms dc_world_rooms pm_world_rooms an_world_rooms cd_world_rooms ct_world_rooms),sl_world_rooms⟩)
  (co_world_rooms:PySem.W.codeIn K cd_world_rooms "World.rooms" = true)
  (ke_world_rooms:PySem.W.keepIn K (.ref fm_world_rooms) = true)
  (fn_world_rooms:PySem.W.isFn K (.ref fm_world_rooms) = true)
  (fi_world_table_told:PySem.W.findIn K (.ref c_World) "table_told" = some (some (.ref fm_world_table_told)))
  (lo_world_table_told:K.lookup fm_world_table_told = some ⟨oc_world_table_told,od_world_table_told,.func (PySem.W.fnOf "table_told" "World.table_told" (zm zI) (zj zI) (zb zI) .none kV_world_table_told dc_world_table_told pm_world_table_told an_world_table_told cd_world_table_told ct_world_table_told),sl_world_table_told⟩)
  (co_world_table_told:PySem.W.codeIn K cd_world_table_told "World.table_told" = true)
  (ke_world_table_told:PySem.W.keepIn K (.ref fm_world_table_told) = true)
  (fn_world_table_told:PySem.W.isFn K (.ref fm_world_table_told) = true)
  (fi_world_led:PySem.W.findIn K (.ref c_World) "led" = some (some (.ref fm_world_led)))
  (lo_world_led:K.lookup fm_world_led = some ⟨oc_world_led,od_world_led,.func (PySem.W.fnOf "led" "World.led" (zm yD) (zj yD) (zb yD) .none kV_world_led dc_world_led pm_world_led an_world_led cd_world_led ct_world_led),sl_world_led⟩)
  (co_world_led:PySem.W.codeIn K cd_world_led "World.led" = true)
  (ke_world_led:PySem.W.keepIn K (.ref fm_world_led) = true)
  (fn_world_led:PySem.W.isFn K (.ref fm_world_led) = true)
  (dl_gone:K.lookup dv_gone = some ⟨d1_gone,d2_gone,.seq #[.int 4000 dt_gone] d3_gone,d4_gone⟩)
  (dl_shortest_words:K.lookup dv_shortest_words = some ⟨d1_shortest_words,d2_shortest_words,.seq #[.int 8 dt_shortest_words] d3_shortest_words,d4_shortest_words⟩)
  (fcO:PySem.W.findCls K (.ref c_Order) (.type "type") "__init__" = some (.val (.ref fm_order_init)))
  (fiR_init:PySem.W.findIn K (.ref c_FromRight) "__init__" = some (some (.ref fm_order_init)))
  (fiR_weight:PySem.W.findIn K (.ref c_FromRight) "weight" = some (some (.ref fm_order_weight)))
  (fiW_seen:PySem.W.findIn K (.ref c_ByWeights) "seen" = some (some (.ref fm_order_seen)))
  (fiR_rank:PySem.W.findIn K (.ref c_FromRight) "rank" = some (some (.ref fm_order_rank)))
  (fiW_rank:PySem.W.findIn K (.ref c_ByWeights) "rank" = some (some (.ref fm_order_rank)))
  (fiR_before:PySem.W.findIn K (.ref c_FromRight) "before" = some (some (.ref fm_order_before)))
  (fiW_before:PySem.W.findIn K (.ref c_ByWeights) "before" = some (some (.ref fm_order_before)))
  (b0:PySem.W.nsIn K mainGlobals "len" = some none)
  (b1:PySem.W.nsIn K mainGlobals "range" = some none)
  (b2:PySem.W.nsIn K mainGlobals "isinstance" = some none)
  (b3:PySem.W.nsIn K mainGlobals "str" = some none)
  (b4:PySem.W.nsIn K mainGlobals "int" = some none)
  (b5:PySem.W.nsIn K mainGlobals "tuple" = some none)
  (b6:PySem.W.nsIn K mainGlobals "list" = some none)
  (b7:PySem.W.nsIn K mainGlobals "bool" = some none)
  (b8:PySem.W.nsIn K mainGlobals "enumerate" = some none)
  (b9:PySem.W.nsIn K mainGlobals "all" = some none)
  (b10:PySem.W.nsIn K mainGlobals "ValueError" = some none)
  (b11:PySem.W.nsIn K mainGlobals "max" = some none)
  (b12:PySem.W.nsIn K mainGlobals "reversed" = some none)
  (b13:PySem.W.nsIn K mainGlobals "zip" = some none)
  (b14:PySem.W.nsIn K mainGlobals "sum" = some none)
  (b15:PySem.W.nsIn K mainGlobals "sorted" = some none)
  : ∃ fd:FuncData,(∀ (s:Shared) (v:Value),BindsTo s fd ⟨[v],[]⟩ [("_law_script",v)]) /\ ∀ base:Heap,K.In base -> base.Ns mainGlobals mg -> FnOk l.prog w K mg base CX0 9 fa fd ["_law_script"] (kc K):=by
 have e:=hfa.symm.trans (PySem.W.mg_of X G a27)
 cases e
 have B:Bt mg:=⟨PySem.W.mg_none_of X G b0,PySem.W.mg_none_of X G b1,PySem.W.mg_none_of X G b2,PySem.W.mg_none_of X G b3,PySem.W.mg_none_of X G b4,PySem.W.mg_none_of X G b5,PySem.W.mg_none_of X G b6,PySem.W.mg_none_of X G b7,PySem.W.mg_none_of X G b8,PySem.W.mg_none_of X G b9,PySem.W.mg_none_of X G b10,PySem.W.mg_none_of X G b11,PySem.W.mg_none_of X G b12,PySem.W.mg_none_of X G b13,PySem.W.mg_none_of X G b14,PySem.W.mg_none_of X G b15⟩
 have F0:=zA (st:=zQ) l0 k0 p0
 have B0:=F0.binds (ps:=["sign"]) fun _ _ _ _ _ _ us hl=>by obtain ⟨_,rfl⟩:=Xr hl; rfl
 have M0:=PySem.W.mg_of X G a0
 have F1:=zA (st:=yv) l1 k1 p1
 have B1:=F1.binds (ps:=["text"]) fun _ _ _ _ _ _ us hl=>by obtain ⟨_,rfl⟩:=Xr hl; rfl
 have M1:=PySem.W.mg_of X G a1
 have F2:=zA (st:=yF) l2 k2 p2
 have B2:=F2.binds (ps:=["word", "place", "part"]) fun _ _ _ _ _ _ us hl=>by obtain ⟨_,_,_,rfl⟩:=kg hl; rfl
 have M2:=PySem.W.mg_of X G a2
 have F3:=zA (st:=Zz) l3 k3 p3
 have B3:=F3.binds (ps:=["word", "place", "old", "new"]) fun _ _ _ _ _ _ us hl=>by obtain ⟨_,_,_,_,rfl⟩:=VL hl; rfl
 have M3:=PySem.W.mg_of X G a3
 have F4:=zA (st:=yb) l4 k4 p4
 have B4:=F4.binds (ps:=["rules", "word", "start", "end"]) fun _ _ _ _ _ _ us hl=>by obtain ⟨_,_,_,_,rfl⟩:=VL hl; rfl
 have M4:=PySem.W.mg_of X G a4
 have F5:=zA (st:=yr) l5 k5 p5
 have B5:=F5.binds (ps:=["rules", "word", "start"]) fun _ _ _ _ _ _ us hl=>by obtain ⟨_,_,_,rfl⟩:=kg hl; rfl
 have M5:=PySem.W.mg_of X G a5
 have F6:FunD K "gone" "gone" xV (.ref dv_gone) f6 (PySem.W.fnOf "gone" "gone" (zm xV) (zj xV) (zb xV) (.ref dv_gone) kV6 dc6 pm6 an6 cd6 ct6):=⟨⟨_,_,_,_,_,_,_,_,_,rfl,l6,k6⟩⟩
 have M6:=PySem.W.mg_of X G a6
 have F7:=zA (st:=zL) l7 k7 p7
 have B7:=F7.binds (ps:=["system", "words"]) fun _ _ _ _ _ _ us hl=>by obtain ⟨_,_,rfl⟩:=uw hl; rfl
 have M7:=PySem.W.mg_of X G a7
 have F8:FunD K "shortest_words" "shortest_words" zD (.ref dv_shortest_words) f8 (PySem.W.fnOf "shortest_words" "shortest_words" (zm zD) (zj zD) (zb zD) (.ref dv_shortest_words) kV8 dc8 pm8 an8 cd8 ct8):=⟨⟨_,_,_,_,_,_,_,_,_,rfl,l8,k8⟩⟩
 have M8:=PySem.W.mg_of X G a8
 have F9:=zA (st:=yC) l9 k9 p9
 have B9:=F9.binds (ps:=["letters", "table"]) fun _ _ _ _ _ _ us hl=>by obtain ⟨_,_,rfl⟩:=uw hl; rfl
 have M9:=PySem.W.mg_of X G a9
 have F10:=zA (st:=xB) l10 k10 p10
 have B10:=F10.binds (ps:=["system", "words", "word"]) fun _ _ _ _ _ _ us hl=>by obtain ⟨_,_,_,rfl⟩:=kg hl; rfl
 have M10:=PySem.W.mg_of X G a10
 have F11:=zA (st:=yB) l11 k11 p11
 have B11:=F11.binds (ps:=["system"]) fun _ _ _ _ _ _ us hl=>by obtain ⟨_,rfl⟩:=Xr hl; rfl
 have M11:=PySem.W.mg_of X G a11
 have F12:=zA (st:=xj) l12 k12 p12
 have B12:=F12.binds (ps:=["_law_script", "_law_k"]) fun _ _ _ _ _ _ us hl=>by obtain ⟨_,_,rfl⟩:=uw hl; rfl
 have M12:=PySem.W.mg_of X G a12
 have F13:=zA (st:=xw) l13 k13 p13
 have B13:=F13.binds (ps:=["_law_cell", "_law_many"]) fun _ _ _ _ _ _ us hl=>by obtain ⟨_,_,rfl⟩:=uw hl; rfl
 have M13:=PySem.W.mg_of X G a13
 have F14:=zA (st:=uO) l14 k14 p14
 have B14:=F14.binds (ps:=["_law_kind", "_law_letters_here", "_law_weights_here", "_law_word"]) fun _ _ _ _ _ _ us hl=>by obtain ⟨_,_,_,_,rfl⟩:=VL hl; rfl
 have M14:=PySem.W.mg_of X G a14
 have F15:=zA (st:=uI) l15 k15 p15
 have B15:=F15.binds (ps:=["_law_one", "_law_other"]) fun _ _ _ _ _ _ us hl=>by obtain ⟨_,_,rfl⟩:=uw hl; rfl
 have M15:=PySem.W.mg_of X G a15
 have F16:=zA (st:=wX) l16 k16 p16
 have B16:=F16.binds (ps:=["_law_kind", "_law_letters_here", "_law_weights_here"]) fun _ _ _ _ _ _ us hl=>by obtain ⟨_,_,_,rfl⟩:=kg hl; rfl
 have M16:=PySem.W.mg_of X G a16
 have F17:=zA (st:=xx) l17 k17 p17
 have B17:=F17.binds (ps:=["_law_letters_here", "_law_cells", "_law_cell", "_law_cap"]) fun _ _ _ _ _ _ us hl=>by obtain ⟨_,_,_,_,rfl⟩:=VL hl; rfl
 have M17:=PySem.W.mg_of X G a17
 have F18:=zA (st:=vn) l18 k18 p18
 have B18:=F18.binds (ps:=["_law_left", "_law_words", "_law_ranks", "_law_rank_here", "_law_cell"]) fun _ _ _ _ _ _ us hl=>by obtain ⟨_,_,_,_,_,rfl⟩:=Q7 hl; rfl
 have M18:=PySem.W.mg_of X G a18
 have F19:=zA (st:=ww) l19 k19 p19
 have B19:=F19.binds (ps:=["_law_kind", "_law_letters_here", "_law_weights_here", "_law_members_here", "_law_lefts", "_law_cell"]) fun _ _ _ _ _ _ us hl=>by obtain ⟨_,_,_,_,_,_,rfl⟩:=Jq hl; rfl
 have M19:=PySem.W.mg_of X G a19
 have F20:=zA (st:=vh) l20 k20 p20
 have B20:=F20.binds (ps:=["_law_rules_here", "_law_word"]) fun _ _ _ _ _ _ us hl=>by obtain ⟨_,_,rfl⟩:=uw hl; rfl
 have M20:=PySem.W.mg_of X G a20
 have F21:=zA (st:=uH) l21 k21 p21
 have B21:=F21.binds (ps:=["_law_rules_here", "_law_word"]) fun _ _ _ _ _ _ us hl=>by obtain ⟨_,_,rfl⟩:=uw hl; rfl
 have M21:=PySem.W.mg_of X G a21
 have F22:=zA (st:=xq) l22 k22 p22
 have B22:=F22.binds (ps:=["_law_many", "_law_members_here", "_law_cell"]) fun _ _ _ _ _ _ us hl=>by obtain ⟨_,_,_,rfl⟩:=kg hl; rfl
 have M22:=PySem.W.mg_of X G a22
 have F23:=zA (st:=wj) l23 k23 p23
 have B23:=F23.binds (ps:=["_law_rules_here", "_law_letters_here", "_law_members_here"]) fun _ _ _ _ _ _ us hl=>by obtain ⟨_,_,_,rfl⟩:=kg hl; rfl
 have M23:=PySem.W.mg_of X G a23
 have F24:=zA (st:=yE) l24 k24 p24
 have B24:=F24.binds (ps:=["_law_row"]) fun _ _ _ _ _ _ us hl=>by obtain ⟨_,rfl⟩:=Xr hl; rfl
 have M24:=PySem.W.mg_of X G a24
 have F25:=zA (st:=yN) l25 k25 p25
 have B25:=F25.binds (ps:=["_law_world", "_law_letters_here", "_law_members_here", "_law_table_here"]) fun _ _ _ _ _ _ us hl=>by obtain ⟨_,_,_,_,rfl⟩:=VL hl; rfl
 have M25:=PySem.W.mg_of X G a25
 have F26:=zA (st:=va) l26 k26 p26
 have B26:=F26.binds (ps:=["_law_system"]) fun _ _ _ _ _ _ us hl=>by obtain ⟨_,rfl⟩:=Xr hl; rfl
 have M26:=PySem.W.mg_of X G a26
 have F27:=zA (st:=qx) l27 k27 p27
 have B27:=F27.binds (ps:=["_law_script"]) fun _ _ _ _ _ _ us hl=>by obtain ⟨_,rfl⟩:=Xr hl; rfl
 have M27:=PySem.W.mg_of X G a27
 refine ⟨PySem.W.fnOf "law" "law" (zm qx) (zj qx) (zb qx) .none kV27 dc27 pm27 an27 cd27 ct27,fun s v=>.of_eq rfl,fun base _ _=>?_⟩
 have XIl:XI K c_NoLetters:=⟨⟨x1,x2,x3,x4,x5⟩,x6,x7,x8,x9⟩
 have XIo:XI K c_NoOrder:=⟨⟨y1,y2,y3,y4,y5⟩,y6,x7,x8,y9⟩
 have TL:Jh K mg c_NoLetters:=⟨XIl,xi,PySem.W.mg_of X G g_NoLetters,t6,PySem.W.mg_of X G most⟩
 have TN:Jw K mg c_NoOrder:=⟨XIo,yi,PySem.W.mg_of X G g_NoOrder,t7,PySem.W.mg_of X G mostw⟩
 have TO:TOrd K mg c_Order c_FromRight c_ByWeights:=⟨⟨pg_Order,hd_Order,po_Order,sa_Order⟩,⟨pg_FromRight,hd_FromRight,po_FromRight,sa_FromRight⟩,⟨pg_ByWeights,hd_ByWeights,po_ByWeights,sa_ByWeights⟩,PySem.W.mg_of X G g_Order,PySem.W.mg_of X G g_FromRight,PySem.W.mg_of X G g_ByWeights,nl_Order,nl_FromRight,nl_ByWeights,nw_ByWeights⟩
 have XIt:XI K c_NotTurned:=⟨⟨tt1,tt2,tt3,tt4,tt5⟩,tt6,x7,x8,tt9⟩
 have TNt:TNT K mg c_NotTurned:=⟨XIt,PySem.W.mg_of X G g_NotTurned,nn⟩
 have FI:=zA (st:=zS) lI kI pI
 have BI:=FI.binds (ps:=["self", "number"]) fun _ _ _ _ _ _ us hl=>by obtain ⟨_,_,rfl⟩:=uw hl; rfl
 have TD:DNT l.prog w K mg base c_NotTurned:=⟨TNt,_,_,ini,fnI,vc TNt FI,BI⟩
 have TS:Xo K mg c_System:=⟨⟨pg_System,hd_System,po_System,sa_System⟩,PySem.W.mg_of X G g_System,no_System,nr_System⟩
 have TWi:Jg mg:=⟨t8,PySem.W.mg_of X G win⟩
 have XIu:XI K c_NoUse:=⟨⟨u1,u2,u3,u4,u5⟩,u6,x7,x8,u9⟩
 have TNu:TNU K mg c_NoUse:=⟨XIu,PySem.W.mg_of X G g_NoUse,ua⟩
 have FU:=zA (st:=yw) lU kU pU
 have BU:=FU.binds (ps:=["self", "at"]) fun _ _ _ _ _ _ us hl=>by obtain ⟨_,_,rfl⟩:=uw hl; rfl
 have TUd:DNU l.prog w K mg base c_NoUse:=⟨TNu,_,_,iniU,fnU,qc TNu FU,BU⟩
 have XIf:XI K c_TooFar:=⟨⟨v1,v2,v3,v4,v5⟩,v6,x7,x8,v9⟩
 have TF:Jx K mg c_TooFar:=⟨XIf,vi,PySem.W.mg_of X G g_TooFar⟩
 have XIm:XI K c_TooMany:=⟨⟨w1,w2,w3,w4,w5⟩,w6,x7,x8,w9⟩
 have TM:Vp K mg c_TooMany:=⟨XIm,wi,PySem.W.mg_of X G g_TooMany⟩
 have XIq:XI K c_NoWorld:=⟨⟨nw1,nw2,nw3,nw4,nw5⟩,nw6,x7,x8,nw9⟩
 have TNw:UK K mg c_NoWorld:=⟨XIq,nwi,PySem.W.mg_of X G g_NoWorld,t9,PySem.W.mg_of X G mostr⟩
 have CLw:Vz K mg c_World:=⟨⟨pg_World,hd_World,po_World,sa_World⟩,PySem.W.mg_of X G g_World,nl_World,nt_World⟩
 have D0:Df l.prog w K mg base CX0 1 "is_small_letter" ["sign"] [] vO:=⟨_,_,X5 F0,M0,p0,B0⟩
 have D1:Df l.prog w K mg base (CXx l.prog w) 2 "letters_of" ["text"] [] (yM c_NoLetters):=⟨_,_,qi B TL F1 D0,M1,p1,B1⟩
 have D2:Df l.prog w K mg base CX0 1 "stands_at" ["word", "place", "part"] [] yY:=⟨_,_,jo B F2,M2,p2,B2⟩
 have D3:Df l.prog w K mg base (CXx l.prog w) 3 "put" ["word", "place", "old", "new"] [] (Xm c_NoUse):=⟨_,_,UY B TUd F3 D2,M3,p3,B3⟩
 have FM_order_init:=zA (st:=yq) lo_order_init co_order_init ke_order_init
 have BM_order_init:=FM_order_init.binds (ps:=["self", "letters"]) fun _ _ _ _ _ _ us hl=>by obtain ⟨_,_,rfl⟩:=uw hl; rfl
 have MM_order_init:DMk l.prog w K mg base CX0 3 c_Order ["self", "letters"] (vH K):=⟨_,_,⟨mk_Order,fi_order_init,fn_order_init,kc_Order⟩,xz B FM_order_init D1,BM_order_init⟩
 have DI:DOI l.prog w K mg base c_Order:=⟨_,_,⟨sgO,rdO,fcO,ke_order_init⟩,xz B FM_order_init D1,BM_order_init⟩
 have FM_order_weight:=zA (st:=yc) lo_order_weight co_order_weight ke_order_weight
 have BM_order_weight:=FM_order_weight.binds (ps:=["self", "word"]) fun _ _ _ _ _ _ us hl=>by obtain ⟨_,_,rfl⟩:=uw hl; rfl
 have MM_order_weight:DM l.prog w K mg base CX0 1 c_Order "weight" ["self", "word"] uW:=⟨_,_,⟨fi_order_weight,fn_order_weight,ke_order_weight⟩,xK B FM_order_weight,BM_order_weight⟩
 have FM_order_seen:=zA (st:=yt) lo_order_seen co_order_seen ke_order_seen
 have BM_order_seen:=FM_order_seen.binds (ps:=["self", "word"]) fun _ _ _ _ _ _ us hl=>by obtain ⟨_,_,rfl⟩:=uw hl; rfl
 have MM_order_seen:DM l.prog w K mg base CX0 1 c_Order "seen" ["self", "word"] j9:=⟨_,_,⟨fi_order_seen,fn_order_seen,ke_order_seen⟩,wz B FM_order_seen,BM_order_seen⟩
 have FM_fromright_seen:=zA (st:=zV) lo_fromright_seen co_fromright_seen ke_fromright_seen
 have BM_fromright_seen:=FM_fromright_seen.binds (ps:=["self", "word"]) fun _ _ _ _ _ _ us hl=>by obtain ⟨_,_,rfl⟩:=uw hl; rfl
 have MM_fromright_seen:DM l.prog w K mg base CX0 1 c_FromRight "seen" ["self", "word"] jN:=⟨_,_,⟨fi_fromright_seen,fn_fromright_seen,ke_fromright_seen⟩,vb B FM_fromright_seen,BM_fromright_seen⟩
 have FM_byweights_init:=zA (st:=zU) lo_byweights_init co_byweights_init ke_byweights_init
 have BM_byweights_init:=FM_byweights_init.binds (ps:=["self", "letters", "weights"]) fun _ _ _ _ _ _ us hl=>by obtain ⟨_,_,_,rfl⟩:=kg hl; rfl
 have MM_byweights_init:DMk l.prog w K mg base (CXx l.prog w) 4 c_ByWeights ["self", "letters", "weights"] (qd K c_ByWeights):=⟨_,_,⟨mk_ByWeights,fi_byweights_init,fn_byweights_init,kc_ByWeights⟩,vd B TO TN DI FM_byweights_init,BM_byweights_init⟩
 have FM_byweights_weight:=zA (st:=zH) lo_byweights_weight co_byweights_weight ke_byweights_weight
 have BM_byweights_weight:=FM_byweights_weight.binds (ps:=["self", "word"]) fun _ _ _ _ _ _ us hl=>by obtain ⟨_,_,rfl⟩:=uw hl; rfl
 have MM_byweights_weight:DM l.prog w K mg base CX0 1 c_ByWeights "weight" ["self", "word"] (jC c_ByWeights):=⟨_,_,⟨fi_byweights_weight,fn_byweights_weight,ke_byweights_weight⟩,wo B TO FM_byweights_weight,BM_byweights_weight⟩
 have TT:TWS l.prog w K mg base c_Order c_FromRight c_ByWeights:=⟨TO,MM_order_init,⟨_,_,⟨mk_FromRight,fiR_init,fn_order_init,kc_FromRight⟩,xz B FM_order_init D1,BM_order_init⟩,MM_byweights_init,MM_order_weight,⟨_,_,⟨fiR_weight,fn_order_weight,ke_order_weight⟩,xK B FM_order_weight,BM_order_weight⟩,MM_byweights_weight,MM_order_seen,MM_fromright_seen,⟨_,_,⟨fiW_seen,fn_order_seen,ke_order_seen⟩,wz B FM_order_seen,BM_order_seen⟩⟩
 have FM_order_rank:=zA (st:=yf) lo_order_rank co_order_rank ke_order_rank
 have BM_order_rank:=FM_order_rank.binds (ps:=["self", "word"]) fun _ _ _ _ _ _ us hl=>by obtain ⟨_,_,rfl⟩:=uw hl; rfl
 have MM_order_rank:DM l.prog w K mg base CX0 2 c_Order "rank" ["self", "word"] (jP c_Order c_FromRight c_ByWeights):=⟨_,_,⟨fi_order_rank,fn_order_rank,ke_order_rank⟩,xA B TT FM_order_rank,BM_order_rank⟩
 have DRk:DR l.prog w K mg base c_Order c_FromRight c_ByWeights:=⟨fun C h=>by rcases h with e | e | e; (rw [e]; exact ⟨TO.cO,MM_order_rank⟩); (rw [e]; exact ⟨TO.cR,⟨_,_,⟨fiR_rank,fn_order_rank,ke_order_rank⟩,xA B TT FM_order_rank,BM_order_rank⟩⟩); (rw [e]; exact ⟨TO.cW,⟨_,_,⟨fiW_rank,fn_order_rank,ke_order_rank⟩,xA B TT FM_order_rank,BM_order_rank⟩⟩)⟩
 have FM_order_before:=zA (st:=yd) lo_order_before co_order_before ke_order_before
 have BM_order_before:=FM_order_before.binds (ps:=["self", "one", "other"]) fun _ _ _ _ _ _ us hl=>by obtain ⟨_,_,_,rfl⟩:=kg hl; rfl
 have MM_order_before:DM l.prog w K mg base CX0 3 c_Order "before" ["self", "one", "other"] (Z8 c_Order c_FromRight c_ByWeights):=⟨_,_,⟨fi_order_before,fn_order_before,ke_order_before⟩,yT B DRk FM_order_before,BM_order_before⟩
 have DBk:DB l.prog w K mg base c_Order c_FromRight c_ByWeights:=⟨fun C h=>by rcases h with e | e | e; (rw [e]; exact ⟨TO.cO,MM_order_before⟩); (rw [e]; exact ⟨TO.cR,⟨_,_,⟨fiR_before,fn_order_before,ke_order_before⟩,yT B DRk FM_order_before,BM_order_before⟩⟩); (rw [e]; exact ⟨TO.cW,⟨_,_,⟨fiW_before,fn_order_before,ke_order_before⟩,yT B DRk FM_order_before,BM_order_before⟩⟩)⟩
 have FM_system_init:=zA (st:=yk) lo_system_init co_system_init ke_system_init
 have BM_system_init:=FM_system_init.binds (ps:=["self", "order", "rules"]) fun _ _ _ _ _ _ us hl=>by obtain ⟨_,_,_,rfl⟩:=kg hl; rfl
 have MM_system_init:DMk l.prog w K mg base (CXx l.prog w) 5 c_System ["self", "order", "rules"] (qB K c_Order c_FromRight c_ByWeights c_NotTurned c_System):=⟨_,_,⟨mk_System,fi_system_init,fn_system_init,kc_System⟩,ux B TD TS DBk FM_system_init,BM_system_init⟩
 have MS:MkS l.prog w K mg base c_Order c_FromRight c_ByWeights c_NotTurned c_System:=MM_system_init
 have D4:Df l.prog w K mg base CX0 1 "first_within" ["rules", "word", "start", "end"] [] (xR K):=⟨_,_,v0 B F4,M4,p4,B4⟩
 have D5:Df l.prog w K mg base CX0 2 "first_from" ["rules", "word", "start"] [] (wA K):=⟨_,_,qz B TWi F5 D4,M5,p5,B5⟩
 have FM_system_first_use:=zA (st:=zN) lo_system_first_use co_system_first_use ke_system_first_use
 have BM_system_first_use:=FM_system_first_use.binds (ps:=["self", "word"]) fun _ _ _ _ _ _ us hl=>by obtain ⟨_,_,rfl⟩:=uw hl; rfl
 have MM_system_first_use:DM l.prog w K mg base CX0 3 c_System "first_use" ["self", "word"] (u7 K c_System):=⟨_,_,⟨fi_system_first_use,fn_system_first_use,ke_system_first_use⟩,wb B TS FM_system_first_use D5,BM_system_first_use⟩
 have FM_system_is_shortest:=zA (st:=zJ) lo_system_is_shortest co_system_is_shortest ke_system_is_shortest
 have BM_system_is_shortest:=FM_system_is_shortest.binds (ps:=["self", "word"]) fun _ _ _ _ _ _ us hl=>by obtain ⟨_,_,rfl⟩:=uw hl; rfl
 have MM_system_is_shortest:DM l.prog w K mg base CX0 4 c_System "is_shortest" ["self", "word"] (jA K c_System):=⟨_,_,⟨fi_system_is_shortest,fn_system_is_shortest,ke_system_is_shortest⟩,xJ B TS FM_system_is_shortest MM_system_first_use,BM_system_is_shortest⟩
 have O6:=Vk (P:=l.prog) (w:=w) (base:=base) B TF TUd F6 D5 D3
 have D6:Df l.prog w K mg base (CXx l.prog w) 4 "gone" ["rules", "word", "most"] [] (wc K c_TooFar):=⟨_,_,O6,M6,p6,fun s us hK hl=>by obtain ⟨_,_,_,rfl⟩:=kg (us:=us) (by simpa using hl); exact BindsTo.of_defaults rfl (hK _ _ dl_gone) rfl rfl rfl⟩
 have D6d:Df l.prog w K mg base (CXx l.prog w) 4 "gone" ["rules", "word", "most"] [.int 4000 dt_gone] (wc K c_TooFar):=⟨_,_,O6,M6,p6,fun s us hK hl=>by obtain ⟨_,_,rfl⟩:=uw (us:=us) (by simpa using hl); exact BindsTo.of_defaults rfl (hK _ _ dl_gone) rfl rfl rfl⟩
 have FM_system_road:FunD K "road" "System.road" zP (.ref dv_system_road) fm_system_road (PySem.W.fnOf "road" "System.road" (zm zP) (zj zP) (zb zP) (.ref dv_system_road) kV_system_road dc_system_road pm_system_road an_system_road cd_system_road ct_system_road):=⟨⟨_,_,_,_,_,_,_,_,_,rfl,lo_system_road,co_system_road⟩⟩
 have OM_system_road:=uz (P:=l.prog) (w:=w) (base:=base) B TS FM_system_road D6 D6d
 have MM_system_road:DM l.prog w K mg base (CXx l.prog w) 5 c_System "road" ["self", "word", "most"] (jy K c_System c_TooFar):=⟨_,_,⟨fi_system_road,fn_system_road,ke_system_road⟩,OM_system_road,fun s us hK hl=>by obtain ⟨_,_,_,rfl⟩:=kg (us:=us) (by simpa using hl); exact BindsTo.of_defaults rfl (hK _ _ dl_system_road) rfl rfl rfl⟩
 have MMd_system_road:DMD l.prog w K mg base (CXx l.prog w) 5 c_System "road" ["self", "word", "most"] [.int 4000 dt_system_road] (jy K c_System c_TooFar):=⟨_,_,⟨fi_system_road,fn_system_road,ke_system_road⟩,OM_system_road,fun s us hK hl=>by obtain ⟨_,_,rfl⟩:=uw (us:=us) (by simpa using hl); exact BindsTo.of_defaults rfl (hK _ _ dl_system_road) rfl rfl rfl⟩
 have FM_system_shortest:=zA (st:=zR) lo_system_shortest co_system_shortest ke_system_shortest
 have BM_system_shortest:=FM_system_shortest.binds (ps:=["self", "word"]) fun _ _ _ _ _ _ us hl=>by obtain ⟨_,_,rfl⟩:=uw hl; rfl
 have MM_system_shortest:DM l.prog w K mg base (CXx l.prog w) 5 c_System "shortest" ["self", "word"] (vM K c_System):=⟨_,_,⟨fi_system_shortest,fn_system_shortest,ke_system_shortest⟩,wP B TS FM_system_shortest D6 D6d,BM_system_shortest⟩
 have D7:Df l.prog w K mg base CX0 5 "one_letter_longer" ["system", "words"] [] (Y7 K c_Order c_FromRight c_ByWeights c_System):=⟨_,_,xU B TO TS F7 MM_system_is_shortest,M7,p7,B7⟩
 have O8:=vj (P:=l.prog) (w:=w) (base:=base) B TM F8 D7
 have D8:Df l.prog w K mg base (CXx l.prog w) 6 "shortest_words" ["system", "most"] [] (YD K c_Order c_FromRight c_ByWeights c_TooMany c_System):=⟨_,_,O8,M8,p8,fun s us hK hl=>by obtain ⟨_,_,rfl⟩:=uw (us:=us) (by simpa using hl); exact BindsTo.of_defaults rfl (hK _ _ dl_shortest_words) rfl rfl rfl⟩
 have D8d:Df l.prog w K mg base (CXx l.prog w) 6 "shortest_words" ["system", "most"] [.int 8 dt_shortest_words] (YD K c_Order c_FromRight c_ByWeights c_TooMany c_System):=⟨_,_,O8,M8,p8,fun s us hK hl=>by obtain ⟨_,rfl⟩:=Xr (us:=us) (by simpa using hl); exact BindsTo.of_defaults rfl (hK _ _ dl_shortest_words) rfl rfl rfl⟩
 have D9:Df l.prog w K mg base (CXx l.prog w) 1 "table_of" ["letters", "table"] [] wu:=⟨_,_,jR B TNw F9,M9,p9,B9⟩
 have FM_world_init:=zA (st:=yo) lo_world_init co_world_init ke_world_init
 have BM_world_init:=FM_world_init.binds (ps:=["self", "letters", "table"]) fun _ _ _ _ _ _ us hl=>by obtain ⟨_,_,_,rfl⟩:=kg hl; rfl
 have MM_world_init:DMk l.prog w K mg base (CXx l.prog w) 4 c_World ["self", "letters", "table"] (wT c_World):=⟨_,_,⟨mk_World,fi_world_init,fn_world_init,kc_World⟩,uX B CLw FM_world_init D1 D9,BM_world_init⟩
 have FM_world_rooms:=zA (st:=yh) lo_world_rooms co_world_rooms ke_world_rooms
 have BM_world_rooms:=FM_world_rooms.binds (ps:=["self"]) fun _ _ _ _ _ _ us hl=>by obtain ⟨_,rfl⟩:=Xr hl; rfl
 have MM_world_rooms:DM l.prog w K mg base CX0 1 c_World "rooms" ["self"] (vN c_World):=⟨_,_,⟨fi_world_rooms,fn_world_rooms,ke_world_rooms⟩,uy B CLw FM_world_rooms,BM_world_rooms⟩
 have FM_world_table_told:=zA (st:=zI) lo_world_table_told co_world_table_told ke_world_table_told
 have BM_world_table_told:=FM_world_table_told.binds (ps:=["self"]) fun _ _ _ _ _ _ us hl=>by obtain ⟨_,rfl⟩:=Xr hl; rfl
 have MM_world_table_told:DM l.prog w K mg base CX0 1 c_World "table_told" ["self"] (qu c_World):=⟨_,_,⟨fi_world_table_told,fn_world_table_told,ke_world_table_told⟩,wm B CLw FM_world_table_told,BM_world_table_told⟩
 have FM_world_led:=zA (st:=yD) lo_world_led co_world_led ke_world_led
 have BM_world_led:=FM_world_led.binds (ps:=["self", "room", "word"]) fun _ _ _ _ _ _ us hl=>by obtain ⟨_,_,_,rfl⟩:=kg hl; rfl
 have MM_world_led:DM l.prog w K mg base CX0 1 c_World "led" ["self", "room", "word"] (qC c_World):=⟨_,_,⟨fi_world_led,fn_world_led,ke_world_led⟩,jd B CLw FM_world_led,BM_world_led⟩
 have D10:Df l.prog w K mg base CX0 6 "row_of" ["system", "words", "word"] [] (wy K c_Order c_FromRight c_ByWeights c_System):=⟨_,_,YU B TO TS F10 MM_system_shortest,M10,p10,B10⟩
 have D11:Df l.prog w K mg base (CXx l.prog w) 7 "world_of" ["system"] [] (Xh K c_Order c_FromRight c_ByWeights c_TooMany c_System c_World):=⟨_,_,jH B TO TS CLw F11 D8 D8d D10 MM_world_init,M11,p11,B11⟩
 have D12:Df l.prog w K mg base CX0 1 "_law_cell_at" ["_law_script", "_law_k"] [] (xo K):=⟨_,_,Za B F12,M12,p12,B12⟩
 have D13:Df l.prog w K mg base CX0 1 "_law_letters" ["_law_cell", "_law_many"] [] xS:=⟨_,_,Zp B F13,M13,p13,B13⟩
 have D14:Df l.prog w K mg base CX0 1 "_law_rank" ["_law_kind", "_law_letters_here", "_law_weights_here", "_law_word"] [] wF:=⟨_,_,VF B F14,M14,p14,B14⟩
 have D15:Df l.prog w K mg base CX0 1 "_law_less" ["_law_one", "_law_other"] [] qp:=⟨_,_,Vv B (PySem.W.mg_none_of X G nmin) F15,M15,p15,B15⟩
 have D16:Df l.prog w K mg base CX0 6 "_law_order" ["_law_kind", "_law_letters_here", "_law_weights_here"] [] (qF K c_Order c_FromRight c_ByWeights):=⟨_,_,Xz B TT F16,M16,p16,B16⟩
 have D17:Df l.prog w K mg base CX0 2 "_law_members" ["_law_letters_here", "_law_cells", "_law_cell", "_law_cap"] [] (Xi K):=⟨_,_,Zo B F17 D12,M17,p17,B17⟩
 have D18:Df l.prog w K mg base CX0 2 "_law_right" ["_law_left", "_law_words", "_law_ranks", "_law_rank_here", "_law_cell"] [] (qw K):=⟨_,_,Xw B F18 D15,M18,p18,B18⟩
 have D19:Df l.prog w K mg base CX0 3 "_law_rules" ["_law_kind", "_law_letters_here", "_law_weights_here", "_law_members_here", "_law_lefts", "_law_cell"] [] (qE K):=⟨_,_,XZ B F19 D14 D18,M19,p19,B19⟩
 have D20:Df l.prog w K mg base CX0 1 "_law_first" ["_law_rules_here", "_law_word"] [] (Wc K):=⟨_,_,Wm B F20,M20,p20,B20⟩
 have D21:Df l.prog w K mg base CX0 2 "_law_form" ["_law_rules_here", "_law_word"] [] (vG K):=⟨_,_,VI B F21 D20,M21,p21,B21⟩
 have D22:Df l.prog w K mg base CX0 1 "_law_weights" ["_law_many", "_law_members_here", "_law_cell"] [] (WW K):=⟨_,_,kX B F22,M22,p22,B22⟩
 have D23:Df l.prog w K mg base CX0 3 "_law_table" ["_law_rules_here", "_law_letters_here", "_law_members_here"] [] (jM K):=⟨_,_,X1 B F23 D21,M23,p23,B23⟩
 have D24:Df l.prog w K mg base CX0 1 "_law_whole_row" ["_law_row"] [] (VG K):=⟨_,_,jh B ⟨kl,ki,kb⟩ F24,M24,p24,B24⟩
 have D25:Df l.prog w K mg base CX0 2 "_law_world_is" ["_law_world", "_law_letters_here", "_law_members_here", "_law_table_here"] [] (Yy K c_World):=⟨_,_,jF B ⟨kl,ka_World,x7,x8,cl_World,mr_World⟩ CLw F25 D24 MM_world_table_told MM_world_rooms MM_world_led,M25,p25,B25⟩
 have TA:Q8 K mg c_TooMany c_TooFar c_NoWorld:=⟨PySem.W.mg_of X G g_TooFar,PySem.W.mg_of X G g_NoWorld,kMM,kMF,kMW⟩
 have D26:Df l.prog w K mg base CX0 8 "_law_asked" ["_law_system"] [] (ZK K c_Order c_FromRight c_ByWeights c_System c_World):=⟨_,_,Wh B TA TM F26 D11,M26,p26,B26⟩
 exact V3 B TS MS F27 D13 D17 D22 D19 D12 D23 D16 D26 D25
theorem walk {l:PySem.W.OpenLaw} {q:Program} {loose:List Str} {XP:(Str -> Option Value) -> Heap -> Prop} {YP:World -> Heap -> Prop} {d:DefRec} {K:Params -> PySem.W.Frag} (hn:l.most = some 63) (hdf:d.params.defaults = [])
  (hY:∀ (w:World) (h:Heap),YP w h -> (K w.params).In h)
  (F:∀ (w:World) (mg:Str -> Option Value) (fa:Addr) (h:Heap),(K w.params).In h -> h.Ns mainGlobals mg -> mg d.name = some (.ref fa) ->
   ∃ fd:FuncData,(∀ (s:Shared) (u:Value),BindsTo s fd ⟨[u],[]⟩ [("_law_script",u)]) /\ ∀ base:Heap,(K w.params).In base -> base.Ns mainGlobals mg -> FnOk l.prog w (K w.params) mg base CX0 9 fa fd ["_law_script"] (kc (K w.params))) :
  PySem.W.WalkO q loose XP YP l.row.toRowW d [] (fun f vs=>PySem.call f vs) :=
 L2.walk_of (n:=63) (k:=9) (x:="_law_script") (CX:=fun _=>CX0) (sp:=fun w=>kc (K w.params)) hn (by decide) hdf ⟨rfl,by decide,by decide⟩ hY F (fun _ _ a ns hl hB hS=>⟨a,ns,rfl,hS,fun _=>rfl⟩) fun _ _ _ _ _ z=>z
end LL
def PySem.W.Fast.tw16704501063393487024:Nat:=0
def PySem.W.Fast.tw5949235906014423284:Nat:=0
def PySem.W.Fast.tw12190880868676330581:Nat:=0
def PySem.W.Fast.tw11157395983481074767:Nat:=0
def PySem.W.Fast.tw7273064922729653356:Nat:=0
def PySem.W.Fast.tw11721095671762634432:Nat:=0
def PySem.W.Fast.tw4835153453530972761:Nat:=0
def PySem.W.Fast.tw9765589162973637689:Nat:=0
def PySem.W.Fast.tw16979801895791068384:Nat:=0
def PySem.W.Fast.tw14036207376929404722:Nat:=0
def PySem.W.Fast.tw6536274749520796968:Nat:=0
def PySem.W.Fast.tw15238552768919976686:Nat:=0
def PySem.W.Fast.tw12590912903041032724:Nat:=0
def PySem.W.Fast.tw17863105184779834523:Nat:=0
def PySem.W.Fast.tw12266941299743094230:Nat:=0
def PySem.W.Fast.tw4733236766149833114:Nat:=0
def PySem.W.Fast.tw11284452018115470211:Nat:=0
def PySem.W.Fast.tw1130904771600853148:Nat:=0
def PySem.W.Fast.tw18419316780057535853:Nat:=0
def PySem.W.Fast.tw9550047243765787568:Nat:=0
def PySem.W.Fast.tw1578427727348494839:Nat:=0
def PySem.W.Fast.tw11962849495463502011:Nat:=0
def PySem.W.Fast.tw5024265555398776596:Nat:=0
def PySem.W.Fast.tw3843448937300268262:Nat:=0
def PySem.W.Fast.tw18198081410946727042:Nat:=0
def PySem.W.Fast.tw1814099041734866856:Nat:=0
def PySem.W.Fast.tw17894964606693371491:Nat:=0
def PySem.W.Fast.tw3778633163603579632:Nat:=0
def PySem.W.Fast.tw6251176523299291985:Nat:=0
def PySem.W.Fast.tw14795202117770554758:Nat:=0
def PySem.W.Fast.tw14186810111259434620:Nat:=0
def PySem.W.Fast.tw7450650438491018967:Nat:=0
def PySem.W.Fast.tw13289139029194030191:Nat:=0
def PySem.W.Fast.tw3241709692023543961:Nat:=0
def PySem.W.Fast.tw17500261601949451894:Nat:=0
def PySem.W.Fast.tw11233750010571400118:Nat:=0
def PySem.W.Fast.tw10939058783312968590:Nat:=0
def PySem.W.Fast.tw4394683872681617492:Nat:=0
def PySem.W.Fast.tw5861437201395552740:Nat:=0
def PySem.W.Fast.tw16891658874060956910:Nat:=0
def PySem.W.Fast.tw2357773710434446196:Nat:=0
def PySem.W.Fast.tw6553472201838992709:Nat:=0
def PySem.W.Fast.tw25037670526624622:Nat:=0
def PySem.W.Fast.tw9352137898455718062:Nat:=0
def PySem.W.Fast.tw11752986896077888719:Nat:=0
def PySem.W.Fast.tw5588600392460507985:Nat:=0
def PySem.W.Fast.tw7582521814597868011:Nat:=0
def PySem.W.Fast.tw17752816466226325628:Nat:=0
def PySem.W.Fast.tw14605928623359984005:Nat:=0
def PySem.W.Fast.tw15660855482481132838:Nat:=0
def PySem.W.Fast.tw2156401549155975802:Nat:=0
def PySem.W.Fast.tw1611278431888063574:Nat:=0
def PySem.W.Fast.tw10441262072340510977:Nat:=0
def PySem.W.Fast.tw15651059579107429090:Nat:=0
def PySem.W.Fast.tw9183805112621052334:Nat:=0
def PySem.W.Fast.tw10518838694816822816:Nat:=0
def PySem.W.Fast.tw1079913280530028883:Nat:=0
def PySem.W.Fast.tw9233309636673397905:Nat:=0
open PySem PySem.W PyProof.Rows
set_option maxRecDepth 100000 in
set_option maxHeartbeats 0 in
theorem PySem.Challenge.cw_letterlaw_k72_world_of_forms_holds : PySem.Challenge.rw_letterlaw_k72_world_of_forms.Holds := by
 w_on; o_law; k_head; (case hw=>w_witness2)
 k_fill
 refine LL.walk (l:=PySem.Challenge.rw_letterlaw_k72_world_of_forms) rfl rfl (fun w h Y=>PySem.W.kIn_of Y) ?F
 case F =>
  intro w mg fa h KX G hmg
  refine' LL.all_mk KX G hmg ?a0 ?l0 ?k0 ?p0 ?a1 ?l1 ?k1 ?p1 ?a2 ?l2 ?k2 ?p2 ?a3 ?l3 ?k3 ?p3 ?a4 ?l4 ?k4 ?p4 ?a5 ?l5 ?k5 ?p5 ?a6 ?l6 ?k6 ?p6 ?a7 ?l7 ?k7 ?p7 ?a8 ?l8 ?k8 ?p8 ?a9 ?l9 ?k9 ?p9 ?a10 ?l10 ?k10 ?p10 ?a11 ?l11 ?k11 ?p11 ?a12 ?l12 ?k12 ?p12 ?a13 ?l13 ?k13 ?p13 ?a14 ?l14 ?k14 ?p14 ?a15 ?l15 ?k15 ?p15 ?a16 ?l16 ?k16 ?p16 ?a17 ?l17 ?k17 ?p17 ?a18 ?l18 ?k18 ?p18 ?a19 ?l19 ?k19 ?p19 ?a20 ?l20 ?k20 ?p20 ?a21 ?l21 ?k21 ?p21 ?a22 ?l22 ?k22 ?p22 ?a23 ?l23 ?k23 ?p23 ?a24 ?l24 ?k24 ?p24 ?a25 ?l25 ?k25 ?p25 ?a26 ?l26 ?k26 ?p26 ?a27 ?l27 ?k27 ?p27 ?g_LetterError ?g_NoLetters ?g_NoOrder ?g_Order ?g_FromRight ?g_ByWeights ?g_NotTurned ?g_System ?g_NoUse ?g_TooFar ?g_TooMany ?g_NoWorld ?g_World ?kbb ?kt ?ki ?kb ?kl ?x7 ?x8 ?x1 ?x2 ?x3 ?x4 ?x5 ?x6 ?x9 ?xi ?y1 ?y2 ?y3 ?y4 ?y5 ?y6 ?y9 ?yi ?most ?mostw ?pg_Order ?hd_Order ?po_Order ?sa_Order ?mk_Order ?kc_Order ?nl_Order ?ka_Order ?cl_Order ?mr_Order ?pg_FromRight ?hd_FromRight ?po_FromRight ?sa_FromRight ?mk_FromRight ?kc_FromRight ?nl_FromRight ?ka_FromRight ?cl_FromRight ?mr_FromRight ?pg_ByWeights ?hd_ByWeights ?po_ByWeights ?sa_ByWeights ?mk_ByWeights ?kc_ByWeights ?nl_ByWeights ?ka_ByWeights ?cl_ByWeights ?mr_ByWeights ?nw_ByWeights ?sgO ?rdO ?win ?tt1 ?tt2 ?tt3 ?tt4 ?tt5 ?tt6 ?tt9 ?nn ?ini ?lI ?kI ?pI ?fnI ?pg_System ?hd_System ?po_System ?sa_System ?mk_System ?kc_System ?no_System ?nr_System ?u1 ?u2 ?u3 ?u4 ?u5 ?u6 ?u9 ?ua ?iniU ?lU ?kU ?pU ?fnU ?v1 ?v2 ?v3 ?v4 ?v5 ?v6 ?v9 ?vi ?sFF ?w1 ?w2 ?w3 ?w4 ?w5 ?w6 ?w9 ?wi ?nw1 ?nw2 ?nw3 ?nw4 ?nw5 ?nw6 ?nw9 ?nwi ?mostr ?pg_World ?hd_World ?po_World ?sa_World ?mk_World ?kc_World ?nl_World ?nt_World ?ka_World ?cl_World ?mr_World ?kMM ?kMF ?kMW ?nmin ?fi_order_init ?lo_order_init ?co_order_init ?ke_order_init ?fn_order_init ?fi_order_weight ?lo_order_weight ?co_order_weight ?ke_order_weight ?fn_order_weight ?fi_order_seen ?lo_order_seen ?co_order_seen ?ke_order_seen ?fn_order_seen ?fi_fromright_seen ?lo_fromright_seen ?co_fromright_seen ?ke_fromright_seen ?fn_fromright_seen ?fi_byweights_init ?lo_byweights_init ?co_byweights_init ?ke_byweights_init ?fn_byweights_init ?fi_byweights_weight ?lo_byweights_weight ?co_byweights_weight ?ke_byweights_weight ?fn_byweights_weight ?fi_order_rank ?lo_order_rank ?co_order_rank ?ke_order_rank ?fn_order_rank ?fi_order_before ?lo_order_before ?co_order_before ?ke_order_before ?fn_order_before ?fi_system_init ?lo_system_init ?co_system_init ?ke_system_init ?fn_system_init ?fi_system_first_use ?lo_system_first_use ?co_system_first_use ?ke_system_first_use ?fn_system_first_use ?fi_system_is_shortest ?lo_system_is_shortest ?co_system_is_shortest ?ke_system_is_shortest ?fn_system_is_shortest ?fi_system_road ?lo_system_road ?co_system_road ?ke_system_road ?fn_system_road ?dl_system_road ?fi_system_shortest ?lo_system_shortest ?co_system_shortest ?ke_system_shortest ?fn_system_shortest ?fi_world_init ?lo_world_init ?co_world_init ?ke_world_init ?fn_world_init ?fi_world_rooms ?lo_world_rooms ?co_world_rooms ?ke_world_rooms ?fn_world_rooms ?fi_world_table_told ?lo_world_table_told ?co_world_table_told ?ke_world_table_told ?fn_world_table_told ?fi_world_led ?lo_world_led ?co_world_led ?ke_world_led ?fn_world_led ?dl_gone ?dl_shortest_words ?fcO ?fiR_init ?fiR_weight ?fiW_seen ?fiR_rank ?fiW_rank ?fiR_before ?fiW_before ?b0 ?b1 ?b2 ?b3 ?b4 ?b5 ?b6 ?b7 ?b8 ?b9 ?b10 ?b11 ?b12 ?b13 ?b14 ?b15
  (case a0=>k_is)
  (case l0=>k_is)
  (case k0=>k_is)
  (case p0=>k_is)
  (case a1=>k_is)
  (case l1=>k_is)
  (case k1=>k_is)
  (case p1=>k_is)
  (case a2=>k_is)
  (case l2=>k_is)
  (case k2=>k_is)
  (case p2=>k_is)
  (case a3=>k_is)
  (case l3=>k_is)
  (case k3=>k_is)
  (case p3=>k_is)
  (case a4=>k_is)
  (case l4=>k_is)
  (case k4=>k_is)
  (case p4=>k_is)
  (case a5=>k_is)
  (case l5=>k_is)
  (case k5=>k_is)
  (case p5=>k_is)
  (case a6=>k_is)
  (case l6=>k_is)
  (case k6=>k_is)
  (case p6=>k_is)
  (case a7=>k_is)
  (case l7=>k_is)
  (case k7=>k_is)
  (case p7=>k_is)
  (case a8=>k_is)
  (case l8=>k_is)
  (case k8=>k_is)
  (case p8=>k_is)
  (case a9=>k_is)
  (case l9=>k_is)
  (case k9=>k_is)
  (case p9=>k_is)
  (case a10=>k_is)
  (case l10=>k_is)
  (case k10=>k_is)
  (case p10=>k_is)
  (case a11=>k_is)
  (case l11=>k_is)
  (case k11=>k_is)
  (case p11=>k_is)
  (case a12=>k_is)
  (case l12=>k_is)
  (case k12=>k_is)
  (case p12=>k_is)
  (case a13=>k_is)
  (case l13=>k_is)
  (case k13=>k_is)
  (case p13=>k_is)
  (case a14=>k_is)
  (case l14=>k_is)
  (case k14=>k_is)
  (case p14=>k_is)
  (case a15=>k_is)
  (case l15=>k_is)
  (case k15=>k_is)
  (case p15=>k_is)
  (case a16=>k_is)
  (case l16=>k_is)
  (case k16=>k_is)
  (case p16=>k_is)
  (case a17=>k_is)
  (case l17=>k_is)
  (case k17=>k_is)
  (case p17=>k_is)
  (case a18=>k_is)
  (case l18=>k_is)
  (case k18=>k_is)
  (case p18=>k_is)
  (case a19=>k_is)
  (case l19=>k_is)
  (case k19=>k_is)
  (case p19=>k_is)
  (case a20=>k_is)
  (case l20=>k_is)
  (case k20=>k_is)
  (case p20=>k_is)
  (case a21=>k_is)
  (case l21=>k_is)
  (case k21=>k_is)
  (case p21=>k_is)
  (case a22=>k_is)
  (case l22=>k_is)
  (case k22=>k_is)
  (case p22=>k_is)
  (case a23=>k_is)
  (case l23=>k_is)
  (case k23=>k_is)
  (case p23=>k_is)
  (case a24=>k_is)
  (case l24=>k_is)
  (case k24=>k_is)
  (case p24=>k_is)
  (case a25=>k_is)
  (case l25=>k_is)
  (case k25=>k_is)
  (case p25=>k_is)
  (case a26=>k_is)
  (case l26=>k_is)
  (case k26=>k_is)
  (case p26=>k_is)
  (case a27=>k_is)
  (case l27=>k_is)
  (case k27=>k_is)
  (case p27=>k_is)
  (case g_LetterError=>k_is)
  (case g_NoLetters=>k_is)
  (case g_NoOrder=>k_is)
  (case g_Order=>k_is)
  (case g_FromRight=>k_is)
  (case g_ByWeights=>k_is)
  (case g_NotTurned=>k_is)
  (case g_System=>k_is)
  (case g_NoUse=>k_is)
  (case g_TooFar=>k_is)
  (case g_TooMany=>k_is)
  (case g_NoWorld=>k_is)
  (case g_World=>k_is)
  (case kbb=>first | kernel_rfl | rfl)
  (case kt=>first | kernel_rfl | rfl)
  (case ki=>first | kernel_rfl | rfl)
  (case kb=>first | kernel_rfl | rfl)
  (case kl=>first | kernel_rfl | rfl)
  (case x7=>k_is)
  (case x8=>k_is)
  (case x1=>first | kernel_rfl | rfl | decide +kernel)
  (case x2=>k_is)
  (case x3=>k_is)
  (case x4=>k_is)
  (case x5=>k_is)
  (case x6=>k_is)
  (case x9=>k_is)
  (case xi=>k_is)
  (case y1=>first | kernel_rfl | rfl | decide +kernel)
  (case y2=>k_is)
  (case y3=>k_is)
  (case y4=>k_is)
  (case y5=>k_is)
  (case y6=>k_is)
  (case y9=>k_is)
  (case yi=>k_is)
  (case most=>k_is)
  (case mostw=>k_is)
  (case pg_Order=>first | kernel_rfl | rfl | k_is | decide +kernel)
  (case hd_Order=>first | kernel_rfl | rfl | k_is)
  (case po_Order=>first | kernel_rfl | rfl | k_is | decide +kernel)
  (case sa_Order=>k_is)
  (case mk_Order=>first | kernel_rfl | rfl | k_is | decide +kernel)
  (case kc_Order=>k_is)
  (case nl_Order=>k_is)
  (case ka_Order=>first | kernel_rfl | rfl)
  (case cl_Order=>k_is)
  (case mr_Order=>k_is)
  (case pg_FromRight=>first | kernel_rfl | rfl | k_is | decide +kernel)
  (case hd_FromRight=>first | kernel_rfl | rfl | k_is)
  (case po_FromRight=>first | kernel_rfl | rfl | k_is | decide +kernel)
  (case sa_FromRight=>k_is)
  (case mk_FromRight=>first | kernel_rfl | rfl | k_is | decide +kernel)
  (case kc_FromRight=>k_is)
  (case nl_FromRight=>k_is)
  (case ka_FromRight=>first | kernel_rfl | rfl)
  (case cl_FromRight=>k_is)
  (case mr_FromRight=>k_is)
  (case pg_ByWeights=>first | kernel_rfl | rfl | k_is | decide +kernel)
  (case hd_ByWeights=>first | kernel_rfl | rfl | k_is)
  (case po_ByWeights=>first | kernel_rfl | rfl | k_is | decide +kernel)
  (case sa_ByWeights=>k_is)
  (case mk_ByWeights=>first | kernel_rfl | rfl | k_is | decide +kernel)
  (case kc_ByWeights=>k_is)
  (case nl_ByWeights=>k_is)
  (case ka_ByWeights=>first | kernel_rfl | rfl)
  (case cl_ByWeights=>k_is)
  (case mr_ByWeights=>k_is)
  (case nw_ByWeights=>k_is)
  (case sgO=>k_is)
  (case rdO=>first | kernel_rfl | rfl | k_is | decide +kernel)
  (case win=>k_is)
  (case tt1=>first | kernel_rfl | rfl | decide +kernel)
  (case tt2=>k_is)
  (case tt3=>k_is)
  (case tt4=>k_is)
  (case tt5=>k_is)
  (case tt6=>k_is)
  (case tt9=>k_is)
  (case nn=>k_is)
  (case ini=>k_is)
  (case lI=>k_is)
  (case kI=>k_is)
  (case pI=>k_is)
  (case fnI=>first | kernel_rfl | rfl | k_is)
  (case pg_System=>first | kernel_rfl | rfl | k_is | decide +kernel)
  (case hd_System=>first | kernel_rfl | rfl | k_is)
  (case po_System=>first | kernel_rfl | rfl | k_is | decide +kernel)
  (case sa_System=>k_is)
  (case mk_System=>first | kernel_rfl | rfl | k_is | decide +kernel)
  (case kc_System=>k_is)
  (case no_System=>k_is)
  (case nr_System=>k_is)
  (case u1=>first | kernel_rfl | rfl | decide +kernel)
  (case u2=>k_is)
  (case u3=>k_is)
  (case u4=>k_is)
  (case u5=>k_is)
  (case u6=>k_is)
  (case u9=>k_is)
  (case ua=>k_is)
  (case iniU=>k_is)
  (case lU=>k_is)
  (case kU=>k_is)
  (case pU=>k_is)
  (case fnU=>first | kernel_rfl | rfl | k_is)
  (case v1=>first | kernel_rfl | rfl | decide +kernel)
  (case v2=>k_is)
  (case v3=>k_is)
  (case v4=>k_is)
  (case v5=>k_is)
  (case v6=>k_is)
  (case v9=>k_is)
  (case vi=>k_is)
  (case sFF=>k_is)
  (case w1=>first | kernel_rfl | rfl | decide +kernel)
  (case w2=>k_is)
  (case w3=>k_is)
  (case w4=>k_is)
  (case w5=>k_is)
  (case w6=>k_is)
  (case w9=>k_is)
  (case wi=>k_is)
  (case nw1=>first | kernel_rfl | rfl | decide +kernel)
  (case nw2=>k_is)
  (case nw3=>k_is)
  (case nw4=>k_is)
  (case nw5=>k_is)
  (case nw6=>k_is)
  (case nw9=>k_is)
  (case nwi=>k_is)
  (case mostr=>k_is)
  (case pg_World=>first | kernel_rfl | rfl | k_is | decide +kernel)
  (case hd_World=>first | kernel_rfl | rfl | k_is)
  (case po_World=>first | kernel_rfl | rfl | k_is | decide +kernel)
  (case sa_World=>k_is)
  (case mk_World=>first | kernel_rfl | rfl | k_is | decide +kernel)
  (case kc_World=>k_is)
  (case nl_World=>k_is)
  (case nt_World=>k_is)
  (case ka_World=>first | kernel_rfl | rfl)
  (case cl_World=>k_is)
  (case mr_World=>k_is)
  (case kMM=>k_is)
  (case kMF=>first | kernel_rfl | rfl)
  (case kMW=>first | kernel_rfl | rfl)
  (case nmin=>k_is)
  (case fi_order_init=>k_is)
  (case lo_order_init=>k_is)
  (case co_order_init=>k_is)
  (case ke_order_init=>k_is)
  (case fn_order_init=>first | kernel_rfl | rfl | k_is)
  (case fi_order_weight=>k_is)
  (case lo_order_weight=>k_is)
  (case co_order_weight=>k_is)
  (case ke_order_weight=>k_is)
  (case fn_order_weight=>first | kernel_rfl | rfl | k_is)
  (case fi_order_seen=>k_is)
  (case lo_order_seen=>k_is)
  (case co_order_seen=>k_is)
  (case ke_order_seen=>k_is)
  (case fn_order_seen=>first | kernel_rfl | rfl | k_is)
  (case fi_fromright_seen=>k_is)
  (case lo_fromright_seen=>k_is)
  (case co_fromright_seen=>k_is)
  (case ke_fromright_seen=>k_is)
  (case fn_fromright_seen=>first | kernel_rfl | rfl | k_is)
  (case fi_byweights_init=>k_is)
  (case lo_byweights_init=>k_is)
  (case co_byweights_init=>k_is)
  (case ke_byweights_init=>k_is)
  (case fn_byweights_init=>first | kernel_rfl | rfl | k_is)
  (case fi_byweights_weight=>k_is)
  (case lo_byweights_weight=>k_is)
  (case co_byweights_weight=>k_is)
  (case ke_byweights_weight=>k_is)
  (case fn_byweights_weight=>first | kernel_rfl | rfl | k_is)
  (case fi_order_rank=>k_is)
  (case lo_order_rank=>k_is)
  (case co_order_rank=>k_is)
  (case ke_order_rank=>k_is)
  (case fn_order_rank=>first | kernel_rfl | rfl | k_is)
  (case fi_order_before=>k_is)
  (case lo_order_before=>k_is)
  (case co_order_before=>k_is)
  (case ke_order_before=>k_is)
  (case fn_order_before=>first | kernel_rfl | rfl | k_is)
  (case fi_system_init=>k_is)
  (case lo_system_init=>k_is)
  (case co_system_init=>k_is)
  (case ke_system_init=>k_is)
  (case fn_system_init=>first | kernel_rfl | rfl | k_is)
  (case fi_system_first_use=>k_is)
  (case lo_system_first_use=>k_is)
  (case co_system_first_use=>k_is)
  (case ke_system_first_use=>k_is)
  (case fn_system_first_use=>first | kernel_rfl | rfl | k_is)
  (case fi_system_is_shortest=>k_is)
  (case lo_system_is_shortest=>k_is)
  (case co_system_is_shortest=>k_is)
  (case ke_system_is_shortest=>k_is)
  (case fn_system_is_shortest=>first | kernel_rfl | rfl | k_is)
  (case fi_system_road=>k_is)
  (case lo_system_road=>k_is)
  (case co_system_road=>k_is)
  (case ke_system_road=>k_is)
  (case fn_system_road=>first | kernel_rfl | rfl | k_is)
  (case dl_system_road=>k_is)
  (case fi_system_shortest=>k_is)
  (case lo_system_shortest=>k_is)
  (case co_system_shortest=>k_is)
  (case ke_system_shortest=>k_is)
  (case fn_system_shortest=>first | kernel_rfl | rfl | k_is)
  (case fi_world_init=>k_is)
  (case lo_world_init=>k_is)
  (case co_world_init=>k_is)
  (case ke_world_init=>k_is)
  (case fn_world_init=>first | kernel_rfl | rfl | k_is)
  (case fi_world_rooms=>k_is)
  (case lo_world_rooms=>k_is)
  (case co_world_rooms=>k_is)
  (case ke_world_rooms=>k_is)
  (case fn_world_rooms=>first | kernel_rfl | rfl | k_is)
  (case fi_world_table_told=>k_is)
  (case lo_world_table_told=>k_is)
  (case co_world_table_told=>k_is)
  (case ke_world_table_told=>k_is)
  (case fn_world_table_told=>first | kernel_rfl | rfl | k_is)
  (case fi_world_led=>k_is)
  (case lo_world_led=>k_is)
  (case co_world_led=>k_is)
  (case ke_world_led=>k_is)
  (case fn_world_led=>first | kernel_rfl | rfl | k_is)
  (case dl_gone=>k_is)
  (case dl_shortest_words=>k_is)
  (case fcO=>k_is)
  (case fiR_init=>k_is)
  (case fiR_weight=>k_is)
  (case fiW_seen=>k_is)
  (case fiR_rank=>k_is)
  (case fiW_rank=>k_is)
  (case fiR_before=>k_is)
  (case fiW_before=>k_is)
  (case b0=>k_is)
  (case b1=>k_is)
  (case b2=>k_is)
  (case b3=>k_is)
  (case b4=>k_is)
  (case b5=>k_is)
  (case b6=>k_is)
  (case b7=>k_is)
  (case b8=>k_is)
  (case b9=>k_is)
  (case b10=>k_is)
  (case b11=>k_is)
  (case b12=>k_is)
  (case b13=>k_is)
  (case b14=>k_is)
  (case b15=>k_is)
#print axioms PySem.Challenge.cw_letterlaw_k72_world_of_forms_holds
