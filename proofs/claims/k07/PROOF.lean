import PyProof.Rows.All
import Wide.All
import OpenK.AllK
import Wide.FinOn
import PyProof.EqAt
import PyProof.EqKinds
import PyProof.NeKinds
import PyProof.TupleCall
import KE.KRevIter
import PyProof.ZipIter
import PyProof.Rows.SetFrom
import PyProof.StrWalks
import PyProof.DictStraight
import PyProof.StrLawsFrom
import PyProof.Rows.StrNews2
import KE.KMinBuiltin
import PyProof.Rows.CallKwBuiltin
import PyProof.Rows.SortShell
import KE.KSortTup
import KE.KBoundM
import KE.KLam
import Lean
import PySem.Challenge.RW_letterlaw_k07_steps_read
set_option Elab.async false
set_option linter.all false
set_option maxRecDepth 100000
namespace L2
open PySem PySem.Spec PyProof.Rows
abbrev Key := Sum Int Str
def keyIs : Key → Value → Bool
  | .inl k, v => Value.isInt k v
  | .inr x, v => Value.isStrOf x v
def keyH (w : World) : Key → Int
  | .inl k => hashInt k
  | .inr x => hashStr w x
theorem keyIs_shape : ∀ {k : Key} {v : Value}, keyIs k v = true → (∃ i t, k = Sum.inl i ∧ v = Value.int i t) ∨ (∃ x t, k = Sum.inr x ∧ v = Value.str x t)
  | .inl i, v, h => by
    obtain ⟨t, e⟩ := Value.isInt_shape (k := i) (v := v) h
    exact .inl ⟨i, t, rfl, e⟩
  | .inr x, v, h => by
    obtain ⟨t, e⟩ := Value.isStrOf_shape (x := x) (v := v) h
    exact .inr ⟨x, t, rfl, e⟩
theorem key_ll (a b : Int) : decide ((Sum.inl a : Key) = Sum.inl b) = (a == b) := by
  by_cases e : a = b
  · subst e; simp
  · have h : ¬ (Sum.inl a : Key) = Sum.inl b := fun q => e (Sum.inl.inj q)
    rw [decide_eq_false h]
    exact (beq_eq_false_iff_ne.mpr e).symm
theorem key_rr (a b : Str) : decide ((Sum.inr a : Key) = Sum.inr b) = decide (a = b) := by
  by_cases e : a = b
  · subst e; simp
  · have h : ¬ (Sum.inr a : Key) = Sum.inr b := fun q => e (Sum.inr.inj q)
    rw [decide_eq_false h, decide_eq_false e]
theorem key_lr (a : Int) (b : Str) : decide ((Sum.inl a : Key) = Sum.inr b) = false := decide_eq_false (fun q => nomatch q)
theorem key_rl (a : Str) (b : Int) : decide ((Sum.inr a : Key) = Sum.inl b) = false := decide_eq_false (fun q => nomatch q)
def mixKind (prog : Program) (w : World) : PySem.KeyKind prog w Key where
  is := keyIs
  hash := keyH w
  inj := fun v a b ha hb => by
    rcases keyIs_shape ha with ⟨i, t, rfl, rfl⟩ | ⟨x, t, rfl, rfl⟩
    · rcases keyIs_shape hb with ⟨j, u, rfl, e⟩ | ⟨y, u, rfl, e⟩
      · injection e with e1 _; rw [e1]
      · exact nomatch e
    · rcases keyIs_shape hb with ⟨j, u, rfl, e⟩ | ⟨y, u, rfl, e⟩
      · exact nomatch e
      · injection e with e1 _; rw [e1]
  byValue := fun k v h => by
    rcases keyIs_shape h with ⟨i, t, rfl, rfl⟩ | ⟨x, t, rfl, rfl⟩ <;> rfl
  pyHash := fun hv h => by
    rcases keyIs_shape hv with ⟨i, t, rfl, rfl⟩ | ⟨x, t, rfl, rfl⟩
    · exact wpAny_pyHash_int h
    · exact wpAny_pyHash_str h
  eqBool := fun hu hv h => by
    rcases keyIs_shape hu with ⟨i, t, rfl, rfl⟩ | ⟨x, t, rfl, rfl⟩
    · rcases keyIs_shape hv with ⟨j, u, rfl, rfl⟩ | ⟨y, u, rfl, rfl⟩
      · rw [key_ll] at h; exact wpAny_eqBool_int h
      · rw [key_lr] at h; exact SeqAt.EqAt.int_str i t y u _ _ _ _ h
    · rcases keyIs_shape hv with ⟨j, u, rfl, rfl⟩ | ⟨y, u, rfl, rfl⟩
      · rw [key_rl] at h; exact SeqAt.EqAt.str_int x t j u _ _ _ _ h
      · rw [key_rr] at h; exact wpAny_eqBool_str h
  «strs» := fun k x t v h => by
    rcases keyIs_shape h with ⟨i, u, rfl, e⟩ | ⟨y, u, rfl, e⟩
    · exact nomatch e
    · injection e with e1 _
      subst e1
      cases v <;> rfl
end L2
namespace L2
open PySem PySem.Spec PyProof.Rows
inductive V where
  | non | bl (b : Bool) | int (i : Int) | str (x : Str) | byt (b : Array UInt8) | flt (b : UInt64) | ref (a : Addr) | ty (n : String)
  deriving DecidableEq
def RelV : V → Value → Prop
  | .non, u => u = Value.none
  | .bl b, u => u = Value.bool b
  | .int i, u => ∃ t, u = Value.int i t
  | .str x, u => ∃ t, u = Value.str x t
  | .byt b, u => ∃ t, u = Value.bytes b t
  | .flt b, u => ∃ t, u = Value.float b t
  | .ref a, u => u = Value.ref a
  | .ty n, u => u = Value.type n
abbrev Vals : List V → List Value → Prop := Paired RelV
theorem Vals.length {xs : List V} {us : List Value} (r : Vals xs us) : xs.length = us.length := Paired.length r
theorem Vals.get : ∀ {xs : List V} {us : List Value} {i : Nat} {x : V}, Vals xs us → xs[i]? = some x → ∃ u, us[i]? = some u ∧ RelV x u
  | _, _, _, _, .nil, e => by simp at e
  | _, _, 0, _, .cons r _, e => by simp at e; subst e; exact ⟨_, rfl, r⟩
  | _, _, i + 1, x, .cons _ t, e => by
    obtain ⟨u, h1, h2⟩ := Vals.get (i := i) (x := x) t (by simpa using e)
    exact ⟨u, by simpa using h1, h2⟩
theorem Vals.set {x : V} {u : Value} (r : RelV x u) : ∀ {xs : List V} {us : List Value} (i : Nat), Vals xs us → Vals (xs.set i x) (us.set i u)
  | _, _, _, .nil => .nil
  | _, _, 0, .cons _ t => .cons r t
  | _, _, i + 1, .cons q t => .cons q (Vals.set r i t)
theorem Vals.append : ∀ {xs ys : List V} {us ws : List Value}, Vals xs us → Vals ys ws → Vals (xs ++ ys) (us ++ ws)
  | _, _, _, _, .nil, s => s
  | _, _, _, _, .cons r t, s => .cons r (Vals.append t s)
theorem Vals.take : ∀ {xs : List V} {us : List Value} (n : Nat), Vals xs us → Vals (xs.take n) (us.take n)
  | _, _, 0, _ => .nil
  | _, _, _ + 1, .nil => .nil
  | _, _, n + 1, .cons r t => .cons r (Vals.take n t)
theorem Vals.drop : ∀ {xs : List V} {us : List Value} (n : Nat), Vals xs us → Vals (xs.drop n) (us.drop n)
  | _, _, 0, r => r
  | _, _, _ + 1, .nil => .nil
  | _, _, n + 1, .cons _ t => Vals.drop n t
def RelO : Option V → Option Value → Prop
  | some v, some u => RelV v u
  | none, none => True
  | _, _ => False
def KV {κ : Type} : List (κ × V) → List (κ × Value) → Prop := Paired fun (p : κ × V) (q : κ × Value) => p.1 = q.1 ∧ RelV p.2 q.2
def kV : Key → V
  | .inl i => .int i
  | .inr x => .str x
inductive HO where
    | lst (xs : List V)
    | tup (xs : List V)
    | dK (kvs : List (Key × V)) | dT (kvs : List (List Key × V))
    | set (S : Int → Bool) (n : Nat)
    | ins (C dx : Addr) (fs : List (Str × V))
    | own (x : Addr)
    | xd (fs : List (Str × V))
    | met (f x : Addr)
    | rng (lo hi : Int)
    | frz (o : Obj) (u : HO)
    | tbl (ps : Array Value)
    | ext (φ : Heap → Prop)
abbrev Hp := Addr → Option HO
def upd (H : Hp) (a : Addr) (o : HO) : Hp := fun b => if b = a then some o else H b
theorem upd_same {H : Hp} {a : Addr} {o : HO} : upd H a o a = some o := by unfold upd; rw [if_pos rfl]
theorem upd_ne {H : Hp} {a b : Addr} {o : HO} (h : b ≠ a) : upd H a o b = H b := by unfold upd; rw [if_neg h]
theorem ne_of_none {H : Hp} {a b : Addr} {o : HO} (h : H a = some o) (h' : H b = none) : a ≠ b := by
  intro e; subst e; rw [h] at h'; cases h'
section
variable (P : Program) (w : World)
def ObjOk (H : Hp) (h : Heap) (a : Addr) : HO → Prop
  | .lst xs => xs.length ≤ sizeLine ∧ ∃ (its : List Value) (n : Nat), Vals xs its ∧ h.get? a = some { cls := .type "list", data := .seq its.toArray n }
  | .tup xs => xs.length ≤ sizeLine ∧ ∃ its : List Value, Vals xs its ∧ IsTup h a its.toArray
  | .dK kvs => kvs.length ≤ sizeLine ∧ (a == sysModules) = false ∧ ∃ vs, KV kvs vs ∧ h.DictOf (mixKind P w) a vs
  | .dT kvs => kvs.length ≤ sizeLine ∧ (a == sysModules) = false ∧ ∃ xs : List (List Key × Addr × Value),
      Paired (fun (p : List Key × V) (q : List Key × Addr × Value) => p.1 = q.1 ∧ H q.2.1 = some (.tup (p.1.map kV)) ∧ RelV p.2 q.2.2) kvs xs ∧
      ∃ o es ep, h.get? a = some o ∧ o.ExactDict ∧ o.data = .dict es ep ∧ es.toList = xs.map (entryOfKey (tupleKind (mixKind P w))) ∧ (xs.map (·.1)).Nodup
  | .set S n => h.SetOf (intKind P w) a S n
  | .ins C dx fs => H dx = some (.own a) ∧ fs.length ≤ 1000 ∧ dx ≠ a ∧ h.get? a = some (PySem.W.instObj C dx) ∧
      ∃ mA, h.Ns1 dx mA ∧ (∀ f, RelO (fs.lookup f) (mA f)) ∧ PySem.Within mA (fs.map (·.1))
  | .own _ => ∃ o, h.get? a = some o
  | .xd fs => ∃ mA, h.Ns1 a mA ∧ ∀ f, RelO (fs.lookup f) (mA f)
  | .rng lo hi => ∃ t u v, h.get? a = some { cls := .type "range", data := .fields #[.int lo t, .int hi u, .int 1 v] }
  | .frz o u => h.get? a = some o ∧ ObjOk H h a u
  | .tbl ps => h.get? a = some { cls := .none, data := .fields ps }
  | .met f x => h.get? a = some (PySem.W.methodObj (.ref f) (.ref x))
  | .ext φ => φ h ∧ (∃ o, h.get? a = some o) ∧ ∀ h1 h2 : Heap, φ h1 → (∀ o, h1.get? a = some o → h2.get? a = some o) → φ h2
def HOk (H : Hp) (h : Heap) : Prop := ∀ a o, H a = some o → ObjOk P w H h a o
end
section
variable {P : Program} {w : World} {H H' : Hp} {h h' : Heap} {a : Addr} {o : HO}
theorem ObjOk.lt (x : ObjOk P w H h a o) : a < h.objs.size := by
  cases o with
  | lst xs => obtain ⟨_, _, _, _, e⟩ := x; exact Heap.lt_size e
  | tup xs => obtain ⟨_, _, _, p⟩ := x; exact p.lt
  | dK kvs => obtain ⟨_, _, _, _, o, _, _, e, _⟩ := x; exact Heap.lt_size e
  | dT kvs => obtain ⟨_, _, _, _, o, _, _, e, _⟩ := x; exact Heap.lt_size e
  | set S n => obtain ⟨o, _, _, _, e, _⟩ := x; exact Heap.lt_size e
  | ins C dx fs => obtain ⟨_, _, _, e, _⟩ := x; exact Heap.lt_size e
  | own y => obtain ⟨_, e⟩ := x; exact Heap.lt_size e
  | xd fs => obtain ⟨_, ⟨_, _, _, e, _⟩, _⟩ := x; exact Heap.lt_size e
  | rng lo hi => obtain ⟨_, _, _, e⟩ := x; exact Heap.lt_size e
  | frz ob u => obtain ⟨e, _⟩ := x; exact Heap.lt_size e
  | tbl ps => exact Heap.lt_size (show h.get? a = some _ from x)
  | met f y => exact Heap.lt_size (show h.get? a = some _ from x)
  | ext φ => obtain ⟨_, ⟨_, e⟩, _⟩ := x; exact Heap.lt_size e
theorem Paired.mapP {α β : Type} {F G : α → β → Prop} : ∀ {l₁ : List α} {l₂ : List β}, Paired F l₁ l₂ → (∀ a b, F a b → G a b) → Paired G l₁ l₂
  | _, _, .nil, _ => .nil
  | _, _, .cons r t, f => .cons (f _ _ r) (Paired.mapP t f)
theorem ObjOk.stay (x : ObjOk P w H h a o) (k : ∀ b u, (b = a ∨ H b = some (.own a)) → h.get? b = some u → h'.get? b = some u)
    (ho : ∀ b, H b = some (.own a) → H' b = some (.own a)) (ht : ∀ b xs, H b = some (.tup xs) → H' b = some (.tup xs)) : ObjOk P w H' h' a o := by
  induction o with
  | lst xs => obtain ⟨z, its, n, r, e⟩ := x; exact ⟨z, its, n, r, k _ _ (.inl rfl) e⟩
  | tup xs => obtain ⟨z, its, r, ob, e, c⟩ := x; exact ⟨z, its, r, ob, k _ _ (.inl rfl) e, c⟩
  | dK kvs => obtain ⟨z, y, vs, r, ob, es, ep, e, c⟩ := x; exact ⟨z, y, vs, r, ob, es, ep, k _ _ (.inl rfl) e, c⟩
  | dT kvs =>
    obtain ⟨z, y, xs, r, ob, es, ep, e, c⟩ := x
    exact ⟨z, y, xs, Paired.mapP r fun p q z => ⟨z.1, ht _ _ z.2.1, z.2.2⟩, ob, es, ep, k _ _ (.inl rfl) e, c⟩
  | set S n => obtain ⟨ob, es, ep, t, e, c⟩ := x; exact ⟨ob, es, ep, t, k _ _ (.inl rfl) e, c⟩
  | ins C dx fs =>
    obtain ⟨d, z, ne, e, mA, ⟨od, es, ep, e2, c⟩, r⟩ := x
    exact ⟨ho _ d, z, ne, k _ _ (.inl rfl) e, mA, ⟨od, es, ep, k _ _ (.inr d) e2, c⟩, r⟩
  | own y => obtain ⟨ob, e⟩ := x; exact ⟨ob, k _ _ (.inl rfl) e⟩
  | xd fs => obtain ⟨mA, ⟨od, es, ep, e, c⟩, r⟩ := x; exact ⟨mA, ⟨od, es, ep, k _ _ (.inl rfl) e, c⟩, r⟩
  | rng lo hi => obtain ⟨t, u, v, e⟩ := x; exact ⟨t, u, v, k _ _ (.inl rfl) e⟩
  | frz ob u ih => obtain ⟨e, q⟩ := x; exact ⟨k _ _ (.inl rfl) e, ih q⟩
  | tbl ps =>
    have e : h.get? a = some { cls := .none, data := .fields ps } := x
    show h'.get? a = some { cls := .none, data := .fields ps }
    exact k a _ (.inl rfl) e
  | met f y =>
    have e : h.get? a = some (PySem.W.methodObj (.ref f) (.ref y)) := x
    show h'.get? a = some (PySem.W.methodObj (.ref f) (.ref y))
    exact k a _ (.inl rfl) e
  | ext φ => obtain ⟨p, ⟨o, e⟩, st⟩ := x; exact ⟨st _ _ p fun o q => k _ _ (.inl rfl) q, ⟨o, k _ _ (.inl rfl) e⟩, st⟩
theorem HOk.lt (x : HOk P w H h) (e : H a = some o) : a < h.objs.size := (x a o e).lt
theorem HOk.fresh (x : HOk P w H h) (e : h.objs.size ≤ a) : H a = none := by
  cases q : H a with
  | none => rfl
  | some u => exact absurd (Nat.lt_of_lt_of_le (x.lt q) e) (Nat.lt_irrefl _)
theorem HOk.kept (x : HOk P w H h) (k : ∀ b u, h.get? b = some u → h'.get? b = some u) : HOk P w H h' := fun a o e =>
  (x a o e).stay (fun b u _ q => k b u q) (fun _ q => q) fun _ _ q => q
theorem HOk.laid (x : HOk P w H h) (k : ∀ b u, h.get? b = some u → h'.get? b = some u) (hp : h.objs.size ≤ a) (new : ObjOk P w (upd H a o) h' a o) : HOk P w (upd H a o) h' := fun b u e => by
  have hn := x.fresh hp
  by_cases hb : b = a
  · subst hb; rw [upd_same] at e; cases e; exact new
  · rw [upd_ne hb] at e
    exact (x b u e).stay (fun c v _ q => k c v q) (fun c q => by rw [upd_ne (ne_of_none q hn)]; exact q) fun c xs q => by rw [upd_ne (ne_of_none q hn)]; exact q
end
def Rd (H : Hp) (a : Addr) (u : HO) : Prop := H a = some u ∨ ∃ o, H a = some (.frz o u)
theorem Rd.ok {P : Program} {w : World} {H : Hp} {h : Heap} {a : Addr} {u : HO} (r : Rd H a u) (x : HOk P w H h) : ObjOk P w H h a u := by
  rcases r with r | ⟨o, r⟩
  · exact x a u r
  · obtain ⟨_, q⟩ := x a _ r
    exact q
def Mut : Option HO → Prop
  | some (.lst _) => True
  | some (.dK _) => True
  | some (.dT _) => True
  | some (.set _ _) => True
  | some (.ins _ _ _) => True
  | some (.ext _) => True
  | _ => False
section
variable {P : Program} {w : World} {H : Hp} {h h' : Heap} {x e : Addr} {o' : HO}
theorem HOk.write (ok : HOk P w H h) (mu : Mut (H x)) (he : e = x ∨ H e = some (.own x)) (k : ∀ b u, b ≠ e → h.get? b = some u → h'.get? b = some u) (heo : ∃ u, h'.get? e = some u)
    (new : ObjOk P w (upd H x o') h' x o') : HOk P w (upd H x o') h' := fun b u q => by
  have nown : ∀ c y, H c = some (.own y) → c ≠ x := fun c y r z => by subst z; rw [r] at mu; exact mu
  have ntup : ∀ c xs, H c = some (.tup xs) → c ≠ x := fun c xs r z => by subst z; rw [r] at mu; exact mu
  by_cases hb : b = x
  · subst hb; rw [upd_same] at q; cases q; exact new
  · rw [upd_ne hb] at q
    by_cases hbe : b = e
    · have q' : H b = some (.own x) := by
        rcases he with z | z
        · exact absurd (hbe.trans z) hb
        · rw [hbe]; exact z
      rw [q] at q'; cases q'
      obtain ⟨v, hv⟩ := heo
      exact ⟨v, by rw [hbe]; exact hv⟩
    · refine (ok b u q).stay (fun c v hc r => k c v ?_ r) (fun c r => by rw [upd_ne (nown c b r)]; exact r) fun c xs r => by rw [upd_ne (ntup c xs r)]; exact r
      rcases hc with rfl | hc
      · exact hbe
      · rintro rfl
        rcases he with z | z
        · exact nown c b hc z
        · rw [hc] at z; cases z; exact hb rfl
end
structure Un (fs ex : List Addr) (H H' : Hp) (h h' : Heap) : Prop where
  keep : ∀ b o, h.get? b = some o → H b = none → b ∉ fs → b ∉ ex → h'.get? b = some o
  slot : ∀ b o, h.get? b = some o → H b = none → b ∈ fs → b ∉ ex → ∃ sl, h'.get? b = some { o with slots := sl }
  free : ∀ b o, h.get? b = some o → H b = none → b ∉ ex → H' b = none
  there : ∀ b o, h.get? b = some o → b ∉ ex → ∃ o', h'.get? b = some o'
  tups : ∀ b xs, H b = some (.tup xs) → H' b = some (.tup xs)
  frzs : ∀ b o u, H b = some (.frz o u) → H' b = some (.frz o u)
  tbls : ∀ b ps, H b = some (.tbl ps) → ∃ more, H' b = some (.tbl (ps ++ more))
section
variable {fs fs' ex ex' : List Addr} {H H1 H2 : Hp} {h h1 h2 h' : Heap} {a x e : Addr} {o : HO}
theorem Un.any (u : Un fs ex H H1 h h1) {b : Addr} {ob : Obj} (q : h.get? b = some ob) (n : H b = none) (hx : b ∉ ex) : ∃ sl, h1.get? b = some { ob with slots := sl } := by
  by_cases hb : b ∈ fs
  · exact u.slot b ob q n hb hx
  · exact ⟨ob.slots, u.keep b ob q n hb hx⟩
theorem Un.kept (k : ∀ b u, h.get? b = some u → h'.get? b = some u) : Un fs ex H H h h' :=
  ⟨fun b ob q _ _ _ => k b ob q, fun b ob q _ _ _ => ⟨ob.slots, k b ob q⟩, fun _ _ _ n _ => n, fun b ob q _ => ⟨ob, k b ob q⟩, fun _ _ q => q, fun _ _ _ q => q, fun _ ps q => ⟨#[], by rw [q]; simp⟩⟩
theorem Un.refl : Un fs ex H H h h := Un.kept fun _ _ q => q
theorem Un.laid (k : ∀ b u, h.get? b = some u → h'.get? b = some u) (hp : h.objs.size ≤ a) (hn : H a = none) : Un fs ex H (upd H a o) h h' where
  keep := fun b u q _ _ _ => k b u q
  slot := fun b u q _ _ _ => ⟨u.slots, k b u q⟩
  free := fun b u q n _ => by rw [upd_ne (Nat.ne_of_lt (Nat.lt_of_lt_of_le (Heap.lt_size q) hp))]; exact n
  there := fun b u q _ => ⟨u, k b u q⟩
  tups := fun b xs q => by rw [upd_ne (ne_of_none q hn)]; exact q
  frzs := fun b u xs q => by rw [upd_ne (ne_of_none q hn)]; exact q
  tbls := fun b ps q => ⟨#[], by rw [upd_ne (ne_of_none q hn), q]; simp⟩
theorem Un.write (mu : Mut (H x)) (he : e = x ∨ H e = some (.own x)) (k : ∀ b u, b ≠ e → h.get? b = some u → h'.get? b = some u) (heo : ∃ u, h'.get? e = some u) : Un fs ex H (upd H x o) h h' := by
  have hx : ∀ b, H b = none → b ≠ x := fun b n z => by subst z; rw [n] at mu; exact mu
  have hb : ∀ b, H b = none → b ≠ e := fun b n z => by
    subst z
    rcases he with r | r
    · exact hx b n r
    · rw [n] at r; cases r
  have hm : ∀ b u, H b = some u → ¬ Mut (some u) → b ≠ x := fun b u q nm z => by subst z; rw [q] at mu; exact nm mu
  refine ⟨fun b u q n _ _ => k b u (hb b n) q, fun b u q n _ _ => ⟨u.slots, k b u (hb b n) q⟩, fun b u q n _ => by rw [upd_ne (hx b n)]; exact n, fun b u q _ => ?_,
    fun b xs q => by rw [upd_ne (hm b _ q fun z => z)]; exact q, fun b u xs q => by rw [upd_ne (hm b _ q fun z => z)]; exact q, fun b ps q => ⟨#[], by rw [upd_ne (hm b _ q fun z => z), q]; simp⟩⟩
  by_cases hbe : b = e
  · subst hbe; exact heo
  · exact ⟨u, k b u hbe q⟩
end
def trk (h : Heap) (H : Hp) : List Addr := (List.range h.objs.size).filter fun a => (H a).isSome
def hidT (h : Heap) (H : Hp) : Heap := PySem.W.hideAll h (trk h H)
theorem hidT_size (h : Heap) (H : Hp) : (hidT h H).objs.size = h.objs.size := PySem.W.hideAll_size _ _
theorem hidT_get {h : Heap} {H : Hp} {b : Addr} {o : Obj} (e : h.get? b = some o) (n : H b = none) : (hidT h H).get? b = some o :=
  PySem.W.hideAll_get _ e fun hm => by
    have q : (H b).isSome = true := (List.mem_filter.mp hm).2
    rw [n] at q; simp at q
theorem of_hidT {h : Heap} {H : Hp} {b : Addr} {o : Obj} (e : (hidT h H).get? b = some o) : h.get? b = some o ∧ H b = none := by
  have e' : h.get? b = some o := PySem.W.of_hideAll (trk h H) e
  refine ⟨e', ?_⟩
  cases q : H b with
  | none => rfl
  | some x =>
    have hm : b ∈ trk h H := List.mem_filter.mpr ⟨List.mem_range.mpr (Heap.lt_size e'), by simp [q]⟩
    have z : (hidT h H).get? b = none := PySem.W.hideAll_none (trk h H) hm
    rw [z] at e; cases e
def allNews (g h : Heap) (L : Addr) : List (Addr × Obj) := (List.range h.objs.size).filterMap fun a => if a = L ∨ (g.get? a).isSome = true then none else (h.get? a).map fun o => (a, o)
def rest (g h : Heap) (L d : Addr) : List (Addr × Obj) := (allNews g h L).filter fun p => decide (p.1 ≠ d)
end L2
namespace L2
open PySem PySem.Spec PyProof.Rows
structure Mod (K : PySem.W.Frag) (mg : Str → Option Value) (base : Heap) : Prop where
  kin : K.In base
  glob : base.Ns mainGlobals mg
  blt : ∃ mb, base.Ns builtinsNs mb ∧ ∀ x : Str, x ≠ "__name__" → mb x = bootBuiltins x
  nolimit : base.NoLimit
structure Cx where
  prog : Program
  w : World
  K : PySem.W.Frag
  mg : Str → Option Value
  base : Heap
  A : Around
  N : List Str
  s₀ : Shared
  H₀ : Hp
  env : Env
  outer : List Env
  stack : List Env
  ex : List Addr
  fn : Str → Bool
  calm : Bool
  pn : List (Addr × Obj)
  xe : Value → Shared → Prop
def frs (l : List Env) : List Addr := l.filterMap (·.frame)
abbrev Cx.fs (X : Cx) : List Addr := frs X.outer
def Vis (sc : Scope) (x : Str) : Prop := sc.names.lookup x = some .local ∨ sc.names.lookup x = some .cell ∨ sc.names.lookup x = some .free
def Loc (sc : Scope) (x : Str) : Prop := sc.names.lookup x = some .local ∨ sc.names.lookup x = some .cell
def Look (env : Env) (h : Heap) (m : Str → Option Value) (x : Str) (u : Value) : Prop :=
  (env.kindOf x = some .local ∧ m x = some u) ∨ ((env.kindOf x = some .cell ∨ env.kindOf x = some .free) ∧ ∃ c, env.cells.lookup x = some c ∧ h.IsCell c (some u))
structure Cx.Ok (X : Cx) : Prop where
  mod : Mod X.K X.mg X.base
  kind : X.env.scope.kind = .function
  glob : X.env.globals = mainGlobals
  blt : X.env.builtins = builtinsNs
  above : X.s₀.heap.objs.size ≤ X.env.locals
  inj : ∀ x y c, X.env.cells.lookup x = some c → X.env.cells.lookup y = some c → x = y
  has : ∀ x, (X.env.kindOf x = some .cell ∨ X.env.kindOf x = some .free) → ∃ c, X.env.cells.lookup x = some c
  cab : ∀ x c, X.fn x = true → X.env.cells.lookup x = some c → X.s₀.heap.objs.size ≤ c
  hd : X.calm = true → X.A.handled = none
  frames : X.A.frames = some X.stack
  stk : X.stack = X.outer ∨ (X.stack = X.env :: X.outer ∧ X.env.frame = some X.env.locals)
  exf : ∀ b ∈ X.ex, b ≠ X.env.locals ∧ ∀ x c, X.env.cells.lookup x = some c → c ≠ b
  bs : ∀ b o, X.base.get? b = some o → X.s₀.heap.get? b = some o ∧ X.H₀ b = none
  bsz : X.base.objs.size ≤ X.s₀.heap.objs.size
  noex : ∀ b o, X.base.get? b = some o → b ∉ X.ex
  exfs : ∀ b ∈ X.ex, b ∉ X.fs
  funs : X.s₀.heap.FunFrames X.base X.outer
  frf : ∀ b ∈ X.fs, X.H₀ b = none
structure Inv (X : Cx) (pins : List (Addr × Obj)) (σ : List (Option V)) (H : Hp) (s : Shared) : Prop where
  ok : X.Ok
  os : s.os = X.s₀.os
  bare : AllBare s.gens
  base : Un X.fs X.ex X.H₀ H X.s₀.heap s.heap
  loc : ∃ m, s.heap.Ns X.env.locals m ∧ ∀ (i : Nat) (x : Str) (v : V), X.N[i]? = some x → σ[i]? = some (some v) → Vis X.env.scope x → ∃ u, RelV v u ∧ Look X.env s.heap m x u
  cell : ∀ x c, X.env.cells.lookup x = some c → ∃ v, s.heap.IsCell c v
  free : H X.env.locals = none
  freeC : ∀ x c, X.env.cells.lookup x = some c → H c = none
  pin : ∀ p ∈ X.pn ++ pins, s.heap.get? p.1 = some p.2 ∧ H p.1 = none ∧ p.1 ≠ X.env.locals ∧ p.1 ∉ X.fs ∧ ∀ v, p.2.data ≠ .cell v
  hok : HOk X.prog X.w H s.heap
  len : σ.length = X.N.length
section
variable {X : Cx} {pins : List (Addr × Obj)} {σ : List (Option V)} {H H' : Hp} {s : Shared} {h' : Heap}
theorem Cx.Ok.nofr (ok : X.Ok) {b : Addr} {o : Obj} (e : X.base.get? b = some o) : b ∉ X.fs := fun hb => by
  have := (ok.funs.mem hb).1
  rw [e] at this; cases this
theorem Inv.bs (I : Inv X pins σ H s) : ∀ b o, X.base.get? b = some o → s.heap.get? b = some o ∧ H b = none := fun b o e =>
  ⟨I.base.keep b o (I.ok.bs b o e).1 (I.ok.bs b o e).2 (I.ok.nofr e) (I.ok.noex b o e), I.base.free b o (I.ok.bs b o e).1 (I.ok.bs b o e).2 (I.ok.noex b o e)⟩
theorem Inv.bk (I : Inv X pins σ H s) : ∀ b o, X.base.get? b = some o → s.heap.get? b = some o := fun b o e => (I.bs b o e).1
theorem Inv.mod (I : Inv X pins σ H s) : Mod X.K X.mg X.base := I.ok.mod
theorem Inv.kIn (I : Inv X pins σ H s) : X.K.In s.heap := I.ok.mod.kin.keeps I.bk
theorem Inv.nolimit (I : Inv X pins σ H s) : s.heap.NoLimit := I.ok.mod.nolimit.keeps I.bk
theorem Inv.fr (I : Inv X pins σ H s) : ∃ m, Fr X.base X.env.locals s.heap m :=
  let ⟨m, hn, _⟩ := I.loc
  ⟨m, hn, I.bk, Nat.le_trans I.ok.bsz I.ok.above⟩
theorem Inv.lt (I : Inv X pins σ H s) : X.env.locals < s.heap.objs.size := let ⟨_, hn, _⟩ := I.loc; hn.lt
theorem Inv.sz (I : Inv X pins σ H s) : X.s₀.heap.objs.size ≤ s.heap.objs.size := Nat.le_trans I.ok.above (Nat.le_of_lt I.lt)
theorem Inv.nofs (I : Inv X pins σ H s) {a : Addr} (h : s.heap.objs.size ≤ a) : a ∉ X.fs := fun hb => by
  obtain ⟨_, o, ho, _⟩ := I.ok.funs.mem hb
  exact absurd (Nat.lt_of_lt_of_le (Heap.lt_size ho) (Nat.le_trans I.sz h)) (Nat.lt_irrefl _)
theorem Inv.cne (I : Inv X pins σ H s) : ∀ x c, X.env.cells.lookup x = some c → c ≠ X.env.locals := fun x c e z => by
  obtain ⟨v, o, ho, hd⟩ := I.cell x c e
  obtain ⟨m, ⟨o', es, ep, ho', hd', _⟩, _⟩ := I.loc
  rw [z, ho'] at ho; cases ho; rw [hd'] at hd; cases hd
theorem Inv.funs (I : Inv X pins σ H s) : s.heap.FunFrames X.base X.outer := by
  have all : ∀ (l : List Env), (∀ b ∈ frs l, b ∈ X.fs) → X.s₀.heap.FunFrames X.base l → s.heap.FunFrames X.base l := by
    intro l
    induction l with
    | nil => intro _ _; trivial
    | cons env r ih =>
      intro hs hl
      obtain ⟨hk, ⟨L, o, hf, hn, ho, hd⟩, hr⟩ := hl
      have hL : L ∈ X.fs := hs L (by unfold frs; rw [List.filterMap_cons, hf]; exact List.mem_cons_self)
      obtain ⟨sl, e⟩ := I.base.slot L o ho (I.ok.frf L hL) hL fun z => I.ok.exfs L z hL
      exact ⟨hk, ⟨L, _, hf, hn, e, hd⟩, ih (fun b hb => hs b (by unfold frs; rw [List.filterMap_cons, hf]; exact List.mem_cons_of_mem _ hb)) hr⟩
  exact all X.outer (fun _ hb => hb) I.ok.funs
theorem Inv.stack (I : Inv X pins σ H s) : s.heap.FunFrames X.base X.stack := by
  rcases I.ok.stk with e | ⟨e, hf⟩
  · rw [e]; exact I.funs
  · rw [e]
    obtain ⟨m, hn, _⟩ := I.loc
    refine .cons (by rw [I.ok.kind]; decide) hf hn ?_ I.funs
    exact Heap.get?_none_of_le (Nat.le_trans I.ok.bsz I.ok.above)
theorem Inv.stkSub (I : Inv X pins σ H s) : ∀ b ∈ frs X.stack, b ∈ X.env.locals :: X.fs := fun b hb => by
  rcases I.ok.stk with e | ⟨e, hf⟩
  · rw [e] at hb; exact List.mem_cons_of_mem _ hb
  · rw [e] at hb
    unfold frs at hb
    rw [List.filterMap_cons, hf] at hb
    exact hb
theorem Inv.stkFree (I : Inv X pins σ H s) : ∀ b ∈ frs X.stack, H b = none := fun b hb => by
  rcases List.mem_cons.mp (I.stkSub b hb) with e | hb
  · rw [e]; exact I.free
  · obtain ⟨_, o, ho, _⟩ := I.ok.funs.mem hb
    exact I.base.free b o ho (I.ok.frf b hb) fun z => I.ok.exfs b z hb
theorem Inv.step {g' : Array GenState} {t' : Nat} {d' : Drawn} {ch : List Addr} (I : Inv X pins σ H s)
    (hch : ∀ b ∈ ch, (b ∈ X.ex ∨ X.s₀.heap.objs.size ≤ b) ∧ b ≠ X.env.locals ∧ (∀ x c, X.env.cells.lookup x = some c → c ≠ b) ∧ ∀ p ∈ X.pn ++ pins, p.1 ≠ b)
    (keep : ∀ b o, b ≠ X.env.locals → b ∉ X.fs → b ∉ ch → s.heap.get? b = some o → H b = none → h'.get? b = some o)
    (slot : ∀ b o, b ≠ X.env.locals → b ∈ X.fs → b ∉ ch → s.heap.get? b = some o → H b = none → ∃ sl, h'.get? b = some { o with slots := sl }) (free : ∀ b o, b ∉ ch → s.heap.get? b = some o → H b = none → H' b = none)
    (there : ∀ b o, b ∉ ch → s.heap.get? b = some o → ∃ o', h'.get? b = some o')
    (tups : ∀ b xs, H b = some (.tup xs) → H' b = some (.tup xs)) (frzs : ∀ b o u, H b = some (.frz o u) → H' b = some (.frz o u)) (tbls : ∀ b ps, H b = some (.tbl ps) → ∃ more, H' b = some (.tbl (ps ++ more)))
    (ns : ∀ m, s.heap.Ns X.env.locals m → h'.Ns X.env.locals m) (hok : HOk X.prog X.w H' h') (hg : AllBare g') :
    Inv X pins σ H' { s with heap := h', gens := g', drawn := d', toks := t' } := by
  have neL : ∀ b o, X.s₀.heap.get? b = some o → b ≠ X.env.locals := fun b o e => Nat.ne_of_lt (Nat.lt_of_lt_of_le (Heap.lt_size e) I.ok.above)
  have neC : ∀ b o, X.s₀.heap.get? b = some o → b ∉ X.ex → b ∉ ch := fun b o e hx hb => by
    rcases (hch b hb).1 with z | z
    · exact hx z
    · exact absurd (Nat.lt_of_lt_of_le (Heap.lt_size e) z) (Nat.lt_irrefl _)
  have cellK : ∀ x c, X.env.cells.lookup x = some c → ∀ v, s.heap.IsCell c v → h'.IsCell c v := fun x c e v ⟨o, ho, hd⟩ => by
    have nch : c ∉ ch := fun z => (hch c z).2.2.1 x c e rfl
    by_cases hc : c ∈ X.fs
    · obtain ⟨sl, q⟩ := slot c o (I.cne x c e) hc nch ho (I.freeC x c e)
      exact ⟨_, q, hd⟩
    · exact ⟨o, keep c o (I.cne x c e) hc nch ho (I.freeC x c e), hd⟩
  refine ⟨I.ok, I.os, hg, ⟨fun b o e n hb hx => ?_, fun b o e n hb hx => ?_, fun b o e n hx => ?_, fun b o e hx => ?_, fun b xs e => tups b xs (I.base.tups b xs e), fun b o xs e => frzs b o xs (I.base.frzs b o xs e), fun b ps e => ?_⟩, ?_, fun x c e => ?_, ?_, fun x c e => ?_, fun p hp => ?_, hok, I.len⟩
  · exact keep b o (neL b o e) hb (neC b o e hx) (I.base.keep b o e n hb hx) (I.base.free b o e n hx)
  · obtain ⟨sl, e1⟩ := I.base.slot b o e n hb hx
    obtain ⟨sl', e2⟩ := slot b _ (neL b o e) hb (neC b o e hx) e1 (I.base.free b o e n hx)
    exact ⟨sl', e2⟩
  · obtain ⟨o', e1⟩ := I.base.there b o e hx
    exact free b o' (neC b o e hx) e1 (I.base.free b o e n hx)
  · obtain ⟨o', e1⟩ := I.base.there b o e hx
    exact there b o' (neC b o e hx) e1
  · obtain ⟨m1, e1⟩ := I.base.tbls b ps e
    obtain ⟨m2, e2⟩ := tbls b _ e1
    exact ⟨m1 ++ m2, by rw [e2, Array.append_assoc]⟩
  · obtain ⟨m, hn, hl⟩ := I.loc
    refine ⟨m, ns m hn, fun i x v e1 e2 e3 => ?_⟩
    obtain ⟨u, r, l⟩ := hl i x v e1 e2 e3
    refine ⟨u, r, ?_⟩
    rcases l with l | ⟨k, c, e, z⟩
    · exact .inl l
    · exact .inr ⟨k, c, e, cellK x c e _ z⟩
  · obtain ⟨v, z⟩ := I.cell x c e
    exact ⟨v, cellK x c e v z⟩
  · obtain ⟨m, ⟨o, _, _, ho, _⟩, _⟩ := I.loc
    exact free _ o (fun z => (hch _ z).2.1 rfl) ho I.free
  · obtain ⟨v, o, ho, hd⟩ := I.cell x c e
    exact free c o (fun z => (hch c z).2.2.1 x c e rfl) ho (I.freeC x c e)
  · obtain ⟨e, n, ne, nf, d⟩ := I.pin p hp
    have nch : p.1 ∉ ch := fun z => (hch p.1 z).2.2.2 p hp rfl
    exact ⟨keep p.1 p.2 ne nf nch e n, free p.1 p.2 nch e n, ne, nf, d⟩
theorem Inv.un {t' : Nat} (I : Inv X pins σ H s) (u : Un X.fs [] H H' s.heap h') (hok : HOk X.prog X.w H' h') : Inv X pins σ H' { s with heap := h', toks := t' } := by
  obtain ⟨m, ⟨o, es, ep, ho, r⟩, _⟩ := id I.loc
  obtain ⟨sl, hL⟩ := u.any ho I.free (by simp)
  exact I.step (g' := s.gens) (d' := s.drawn) (ch := []) (fun _ z => nomatch z) (fun b o _ hb _ e n => u.keep b o e n hb (by simp)) (fun b o _ hb _ e n => u.slot b o e n hb (by simp)) (fun b o _ e n => u.free b o e n (by simp)) (fun b o _ e => u.there b o e (by simp)) u.tups u.frzs u.tbls (fun m' hm => by
    obtain ⟨o', es', ep', ho', r'⟩ := hm
    rw [ho] at ho'; cases ho'
    exact ⟨_, es', ep', hL, r'⟩) hok I.bare
theorem Inv.call {g' : Array GenState} {t' : Nat} {d' : Drawn} {ch : List Addr} (I : Inv X pins σ H s) (u : Un (frs X.stack) ch H H' s.heap h') (hok : HOk X.prog X.w H' h') (hg : AllBare g')
    (hch : ∀ b ∈ ch, (b ∈ X.ex ∨ X.s₀.heap.objs.size ≤ b) ∧ b ≠ X.env.locals ∧ (∀ x c, X.env.cells.lookup x = some c → c ≠ b) ∧ ∀ p ∈ X.pn ++ pins, p.1 ≠ b) :
    Inv X pins σ H' { s with heap := h', gens := g', drawn := d', toks := t' } := by
  obtain ⟨m, ⟨o, es, ep, ho, r⟩, _⟩ := id I.loc
  obtain ⟨sl, hL⟩ := u.any ho I.free fun z => (hch _ z).2.1 rfl
  exact I.step (ch := ch) hch (fun b o hL hb hc e n => u.keep b o e n (fun z => (List.mem_cons.mp (I.stkSub b z)).elim hL hb) hc) (fun b o _ _ hc e n => u.any e n hc) (fun b o hc e n => u.free b o e n hc) (fun b o hc e => u.there b o e hc) u.tups u.frzs u.tbls (fun m' hm => by
    obtain ⟨o', es', ep', ho', r'⟩ := hm
    rw [ho] at ho'; cases ho'
    exact ⟨_, es', ep', hL, r'⟩) hok hg
theorem Inv.turned {t' : Nat} {it : Addr} (I : Inv X pins σ H s) (k : ∀ b o, b ≠ it → s.heap.get? b = some o → h'.get? b = some o) (hn : H it = none) (hL : it ≠ X.env.locals)
    (h1 : it ∈ X.ex ∨ X.s₀.heap.objs.size ≤ it) (h2 : ∀ x c, X.env.cells.lookup x = some c → c ≠ it) (h3 : ∀ p ∈ X.pn ++ pins, p.1 ≠ it) : Inv X pins σ H { s with heap := h', toks := t' } := by
  have nit : ∀ b u, H b = some u → b ≠ it := fun b u e z => by rw [z, hn] at e; cases e
  refine I.step (g' := s.gens) (d' := s.drawn) (ch := [it]) (fun b hb => ?_) (fun b o _ _ hc e _ => k b o (fun z => hc (by simp [z])) e) (fun b o _ _ hc e _ => ⟨o.slots, k b o (fun z => hc (by simp [z])) e⟩) (fun _ _ _ _ n => n)
    (fun b o hc e => ⟨o, k b o (fun z => hc (by simp [z])) e⟩) (fun _ _ e => e) (fun _ _ _ e => e) (fun b ps e => ⟨#[], by rw [e]; simp⟩) (fun m hm => ?_) (fun b u e => ?_) I.bare
  · have e : b = it := by simpa using hb
    subst e
    exact ⟨h1, hL, h2, h3⟩
  · obtain ⟨o, es, ep, ho, r⟩ := hm
    exact ⟨o, es, ep, k _ o (Ne.symm hL) ho, r⟩
  · refine (I.hok b u e).stay (fun c v hc q => k c v ?_ q) (fun _ q => q) fun _ _ q => q
    rcases hc with z | z
    · rw [z]; exact nit b u e
    · exact nit c _ z
theorem Inv.tok (I : Inv X pins σ H s) (t : Nat) : Inv X pins σ H { s with toks := t } := I.un (h' := s.heap) (t' := t) Un.refl I.hok
theorem Inv.kept {t' : Nat} (I : Inv X pins σ H s) (k : ∀ b u, s.heap.get? b = some u → h'.get? b = some u) : Inv X pins σ H { s with heap := h', toks := t' } := I.un (Un.kept k) (I.hok.kept k)
theorem Inv.laid {a : Addr} {o : HO} {t' : Nat} (I : Inv X pins σ H s) (k : ∀ b u, s.heap.get? b = some u → h'.get? b = some u) (hp : s.heap.objs.size ≤ a) (new : ObjOk X.prog X.w (upd H a o) h' a o) :
    Inv X pins σ (upd H a o) { s with heap := h', toks := t' } := I.un (Un.laid k hp (I.hok.fresh hp)) (I.hok.laid k hp new)
theorem Inv.write {x e : Addr} {o : HO} {t' : Nat} (I : Inv X pins σ H s) (mu : Mut (H x)) (he : e = x ∨ H e = some (.own x)) (k : ∀ b u, b ≠ e → s.heap.get? b = some u → h'.get? b = some u) (heo : ∃ u, h'.get? e = some u)
    (new : ObjOk X.prog X.w (upd H x o) h' x o) : Inv X pins σ (upd H x o) { s with heap := h', toks := t' } := I.un (Un.write mu he k heo) (I.hok.write mu he k heo new)
theorem Inv.weak {σ' : List (Option V)} (I : Inv X pins σ H s) (hl : σ'.length = σ.length) (w : ∀ (i : Nat) v, σ'[i]? = some (some v) → σ[i]? = some (some v)) : Inv X pins σ' H s :=
  ⟨I.ok, I.os, I.bare, I.base, let ⟨m, hn, hl'⟩ := I.loc; ⟨m, hn, fun i x v e1 e2 e3 => hl' i x v e1 (w i v e2) e3⟩, I.cell, I.free, I.freeC, I.pin, I.hok, hl.trans I.len⟩
theorem Inv.pins_of {pins' : List (Addr × Obj)} (I : Inv X pins σ H s) (h : ∀ p ∈ pins', s.heap.get? p.1 = some p.2 ∧ H p.1 = none ∧ p.1 ≠ X.env.locals ∧ p.1 ∉ X.fs ∧ ∀ v, p.2.data ≠ .cell v) : Inv X pins' σ H s :=
  ⟨I.ok, I.os, I.bare, I.base, I.loc, I.cell, I.free, I.freeC, fun p hp => (List.mem_append.mp hp).elim (fun z => I.pin p (List.mem_append_left _ z)) (h p), I.hok, I.len⟩
theorem nodup_ix {N : List Str} (hN : N.Nodup) {i j : Nat} {x : Str} (a : N[i]? = some x) (b : N[j]? = some x) : i = j := by
  obtain ⟨h1, e1⟩ := List.getElem?_eq_some_iff.mp a
  obtain ⟨h2, e2⟩ := List.getElem?_eq_some_iff.mp b
  exact (List.getElem_inj hN).mp (e1.trans e2.symm)
theorem store_ok2 {M : Model} {A : Around} {E : Value → Shared → Prop} {i : Nat} {x : Str} {v : V} {u : Value} {Q : Unit → Shared → Prop} (I : Inv X pins σ H s) (hN : X.N.Nodup) (hi : X.N[i]? = some x) (hx : Loc X.env.scope x) (r : RelV v u)
    (h : ∀ s', Inv X pins (σ.set i (some v)) H s' → (∃ a, Heap.SameBut a s.heap s'.heap ∧ (a = X.env.locals ∨ X.env.cells.lookup x = some a)) → Q () s') (hf : X.fn x = true ∨ X.env.scope.names.lookup x = some .local := by first | exact .inl rfl | exact .inr rfl | assumption) : wpAny M A (storeName X.env x u) Q E s := by
  obtain ⟨m, hn, hl⟩ := id I.loc
  have hcls : (X.env.scope.kind == .class || (X.env.scope.kind == .module && X.env.locals != X.env.globals)) = false := by rw [I.ok.kind]; rfl
  have hiσ : i < σ.length := by rw [I.len]; exact (List.getElem?_eq_some_iff.mp hi).1
  have cne := I.cne
  have tracked : ∀ {a : Addr} {h' : Heap}, (∃ o, s.heap.get? a = some o ∧ H a = none) → Heap.SameBut a s.heap h' → HOk X.prog X.w H h' := fun {a h'} ha hs b ob e => by
    obtain ⟨_, _, hfree⟩ := ha
    refine (I.hok b ob e).stay (fun c w' hc q => (hs.2 c ?_).trans q) (fun _ q => q) fun _ _ q => q
    rintro rfl
    rcases hc with rfl | hc
    · rw [hfree] at e; cases e
    · rw [hfree] at hc; cases hc
  rcases hx with hk | hk
  · refine wpAny_storeName_local hk hn (fun h' hn' hs => ?_) hcls
    obtain ⟨oL, _, _, hoL, _⟩ := id hn
    refine h _ ⟨I.ok, I.os, I.bare, ⟨fun b o e n hb hx => ?_, fun b o e n hb hx => ?_, I.base.free, fun b o e hx => ?_, I.base.tups, I.base.frzs, I.base.tbls⟩, ⟨_, hn', fun j y v' e1 e2 e3 => ?_⟩, fun y c e => ?_, I.free, I.freeC, fun p hp => ?_, tracked ⟨oL, hoL, I.free⟩ hs, by simpa using I.len⟩ ⟨_, hs, .inl rfl⟩
    · exact (hs.2 b (Nat.ne_of_lt (Nat.lt_of_lt_of_le (Heap.lt_size e) I.ok.above))).trans (I.base.keep b o e n hb hx)
    · obtain ⟨sl, e1⟩ := I.base.slot b o e n hb hx
      exact ⟨sl, (hs.2 b (Nat.ne_of_lt (Nat.lt_of_lt_of_le (Heap.lt_size e) I.ok.above))).trans e1⟩
    · obtain ⟨o', e1⟩ := I.base.there b o e hx
      exact ⟨o', (hs.2 b (Nat.ne_of_lt (Nat.lt_of_lt_of_le (Heap.lt_size e) I.ok.above))).trans e1⟩
    · by_cases hj : j = i
      · subst hj
        rw [hi] at e1; cases e1
        rw [List.getElem?_set_self hiσ] at e2
        cases e2
        exact ⟨u, r, .inl ⟨hk, by simp⟩⟩
      · rw [List.getElem?_set_ne (Ne.symm hj)] at e2
        obtain ⟨u', r', q⟩ := hl j y v' e1 e2 e3
        refine ⟨u', r', ?_⟩
        rcases q with ⟨k, e⟩ | ⟨k, c, e, z⟩
        · refine .inl ⟨k, ?_⟩
          have : y ≠ x := fun e => hj (nodup_ix hN e1 (e ▸ hi))
          simp [this, e]
        · exact .inr ⟨k, c, e, z.sameBut hs (cne y c e)⟩
    · obtain ⟨w', z⟩ := I.cell y c e
      exact ⟨w', z.sameBut hs (cne y c e)⟩
    · obtain ⟨e, n, ne, nf, d⟩ := I.pin p hp
      exact ⟨(hs.2 p.1 ne).trans e, n, ne, nf, d⟩
  · have hfn : X.fn x = true := by
      rcases hf with z | z
      · exact z
      · rw [z] at hk; cases hk
    obtain ⟨c, hc⟩ := I.ok.has x (.inl hk)
    obtain ⟨w', z⟩ := I.cell x c hc
    refine wpAny_storeName_cell I.ok.kind hk hc z (fun h' hc' hs => ?_)
    obtain ⟨oc, hoc, hocd⟩ := id z
    refine h { s with heap := h' } ⟨I.ok, I.os, I.bare, ⟨fun b o e n hb hx => ?_, fun b o e n hb hx => ?_, I.base.free, fun b o e hx => ?_, I.base.tups, I.base.frzs, I.base.tbls⟩, ⟨m, hn.sameBut hs (Ne.symm (cne x c hc)), fun j y v' e1 e2 e3 => ?_⟩, fun y c' e => ?_, I.free, I.freeC, fun p hp => ?_, tracked ⟨oc, hoc, I.freeC x c hc⟩ hs, by simpa using I.len⟩ ⟨c, hs, .inr hc⟩
    · exact (hs.2 b (Nat.ne_of_lt (Nat.lt_of_lt_of_le (Heap.lt_size e) (I.ok.cab x c hfn hc)))).trans (I.base.keep b o e n hb hx)
    · obtain ⟨sl, e1⟩ := I.base.slot b o e n hb hx
      exact ⟨sl, (hs.2 b (Nat.ne_of_lt (Nat.lt_of_lt_of_le (Heap.lt_size e) (I.ok.cab x c hfn hc)))).trans e1⟩
    · obtain ⟨o', e1⟩ := I.base.there b o e hx
      exact ⟨o', (hs.2 b (Nat.ne_of_lt (Nat.lt_of_lt_of_le (Heap.lt_size e) (I.ok.cab x c hfn hc)))).trans e1⟩
    · by_cases hj : j = i
      · subst hj
        rw [hi] at e1; cases e1
        rw [List.getElem?_set_self hiσ] at e2
        cases e2
        exact ⟨u, r, .inr ⟨.inl hk, c, hc, hc'⟩⟩
      · rw [List.getElem?_set_ne (Ne.symm hj)] at e2
        obtain ⟨u', r', q⟩ := hl j y v' e1 e2 e3
        refine ⟨u', r', ?_⟩
        rcases q with q | ⟨k, c', e, z'⟩
        · exact .inl q
        · refine .inr ⟨k, c', e, z'.sameBut hs ?_⟩
          rintro rfl
          exact hj (nodup_ix hN e1 (I.ok.inj _ _ _ e hc ▸ hi))
    · by_cases hcc : c' = c
      · subst hcc; exact ⟨_, hc'⟩
      · obtain ⟨w2, z2⟩ := I.cell y c' e
        exact ⟨w2, z2.sameBut hs hcc⟩
    · obtain ⟨e, n, ne, nf, d⟩ := I.pin p hp
      refine ⟨(hs.2 p.1 ?_).trans e, n, ne, nf, d⟩
      intro q
      rw [q, hoc] at e
      have q' : oc = p.2 := Option.some.inj e
      exact d w' (by rw [← q']; exact hocd)
theorem store_ok {M : Model} {A : Around} {E : Value → Shared → Prop} {i : Nat} {x : Str} {v : V} {u : Value} {Q : Unit → Shared → Prop} (I : Inv X pins σ H s) (hN : X.N.Nodup) (hi : X.N[i]? = some x) (hx : Loc X.env.scope x) (r : RelV v u)
    (h : ∀ s', Inv X pins (σ.set i (some v)) H s' → Q () s') (hf : X.fn x = true ∨ X.env.scope.names.lookup x = some .local := by first | exact .inl rfl | exact .inr rfl | assumption) : wpAny M A (storeName X.env x u) Q E s :=
  store_ok2 I hN hi hx r (fun s' I' _ => h s' I') hf
theorem Inv.call' {s' : Shared} {ch : List Addr} (I : Inv X pins σ H s) (ho : s'.os = s.os) (u : Un (frs X.stack) ch H H' s.heap s'.heap) (hok : HOk X.prog X.w H' s'.heap) (hg : AllBare s'.gens)
    (hch : ∀ b ∈ ch, (b ∈ X.ex ∨ X.s₀.heap.objs.size ≤ b) ∧ b ≠ X.env.locals ∧ (∀ x c, X.env.cells.lookup x = some c → c ≠ b) ∧ ∀ p ∈ X.pn ++ pins, p.1 ≠ b) : Inv X pins σ H' s' := by
  obtain ⟨h', g', d', t', o'⟩ := s'
  have e : o' = s.os := ho
  subst e
  exact I.call (g' := g') (t' := t') (d' := d') u hok hg hch
end
abbrev XK := Value → Option Addr → Hp → Prop
abbrev St := List (Option V)
abbrev VK := V → Hp → Prop
abbrev TE := St → Hp → VK → Prop
abbrev TT := St → Hp → (Bool → Hp → Prop) → Prop
abbrev TA := St → Hp → (List V → Hp → Prop) → Prop
structure Ends where
  nx : St → Hp → Prop
  rt : VK
  bk : St → Hp → Prop := fun _ _ => False
  ct : St → Hp → Prop := fun _ _ => False
abbrev TS := Ends → St → Hp → Prop
def EP (X : Cx) (pins : List (Addr × Obj)) (σ : St) (Q : VK) (u : Value) (s' : Shared) : Prop := ∃ v H', Inv X pins σ H' s' ∧ RelV v u ∧ Q v H'
def TP (X : Cx) (pins : List (Addr × Obj)) (σ : St) (Q : Bool → Hp → Prop) (b : Bool) (s' : Shared) : Prop := ∃ H', Inv X pins σ H' s' ∧ Q b H'
def AP (X : Cx) (pins : List (Addr × Obj)) (σ : St) (Q : List V → Hp → Prop) (us : List Value) (s' : Shared) : Prop := ∃ vs H', Inv X pins σ H' s' ∧ Vals vs us ∧ Q vs H'
def SP (X : Cx) (pins : List (Addr × Obj)) (D : Ends) (f : Flow) (s' : Shared) : Prop :=
  match f with
  | .next => ∃ σ' H', Inv X pins σ' H' s' ∧ D.nx σ' H'
  | .brk => ∃ σ' H', Inv X pins σ' H' s' ∧ D.bk σ' H'
  | .cont => ∃ σ' H', Inv X pins σ' H' s' ∧ D.ct σ' H'
  | .ret u => ∃ v σ' H', Inv X pins σ' H' s' ∧ RelV v u ∧ D.rt v H'
def PE (X : Cx) (e : Expr) (t : TE) : Prop :=
  ∀ (pins : List (Addr × Obj)) (s : Shared) (σ : St) (H : Hp) (Q : VK), Inv X pins σ H s → t σ H Q → wpAny (model X.prog X.w) X.A (eval e X.env) (EP X pins σ Q) X.xe s
def PT (X : Cx) (e : Expr) (t : TT) : Prop :=
  ∀ (pins : List (Addr × Obj)) (s : Shared) (σ : St) (H : Hp) (Q : Bool → Hp → Prop), Inv X pins σ H s → t σ H Q → wpAny (model X.prog X.w) X.A (isTrue e X.env (eval e X.env)) (TP X pins σ Q) X.xe s
def PW (X : Cx) (e : Expr) (t : TT) : Prop :=
  ∀ (whole : Sem Value) (pins : List (Addr × Obj)) (s : Shared) (σ : St) (H : Hp) (Q : Bool → Hp → Prop), Inv X pins σ H s → t σ H Q → wpAny (model X.prog X.w) X.A (isTrue e X.env whole) (TP X pins σ Q) X.xe s
theorem PW.pt {X : Cx} {e : Expr} {t : TT} (h : PW X e t) : PT X e t := h _
def PA (X : Cx) (es : List Expr) (t : TA) : Prop :=
  ∀ (pos : Pos) (pins : List (Addr × Obj)) (s : Shared) (σ : St) (H : Hp) (Q : List V → Hp → Prop), Inv X pins σ H s → t σ H Q → wpAny (model X.prog X.w) X.A (spliced (backTo pos (starEach es X.env))) (AP X pins σ Q) X.xe s
def PS (X : Cx) (st : Stmt) (t : TS) : Prop :=
  ∀ (pins : List (Addr × Obj)) (s : Shared) (σ : St) (H : Hp) (D : Ends), Inv X pins σ H s → t D σ H → wpAny (model X.prog X.w) X.A (exec st X.env) (SP X pins D) X.xe s
def PSs (X : Cx) (st : List Stmt) (t : TS) : Prop :=
  ∀ (pins : List (Addr × Obj)) (s : Shared) (σ : St) (H : Hp) (D : Ends), Inv X pins σ H s → t D σ H → wpAny (model X.prog X.w) X.A (execs st X.env) (SP X pins D) X.xe s
theorem thn {α : Type} {t : Sem α} {Q Q' : α → Shared → Prop} {M : Model} {A : Around} {E : Value → Shared → Prop} {s : Shared} (h : wpAny M A t Q E s) (hQ : ∀ a s, Q a s → Q' a s) : wpAny M A t Q' E s := wpAny_mono h hQ fun _ _ x => x
end L2
namespace L2
open PySem PySem.Spec PyProof.Rows
section
variable {X : Cx}
theorem bin {a b : Expr} {ta tb : TE} (ha : PE X a ta) (hb : PE X b tb) {pins : List (Addr × Obj)} {s : Shared} {σ : St} {H : Hp} {R : V → V → Hp → Prop} (I : Inv X pins σ H s) (h : ta σ H fun x H1 => tb σ H1 fun y H2 => R x y H2)
    {α : Type} {Q : α → Shared → Prop} {f : Value → Value → Sem α}
    (hf : ∀ v u s2 x y H2, Inv X pins σ H2 s2 → RelV x v → RelV y u → R x y H2 → wpAny (model X.prog X.w) X.A (f v u) Q X.xe s2) :
    wpAny (model X.prog X.w) X.A (eval a X.env) (fun v s₁ => wpAny (model X.prog X.w) X.A (eval b X.env) (fun u s₂ => wpAny (model X.prog X.w) X.A (f v u) Q X.xe s₂) X.xe s₁) X.xe s := by
  refine thn (ha pins s σ H _ I h) fun v s1 ⟨x, H1, I1, r1, q1⟩ => ?_
  refine thn (hb pins s1 σ H1 _ I1 q1) fun u s2 ⟨y, H2, I2, r2, q2⟩ => ?_
  exact hf v u s2 x y H2 I2 r1 r2 q2
def tVar (i : Nat) : TE := fun σ H Q => ∃ v, σ[i]? = some (some v) ∧ Q v H
def tC (v : V) : TE := fun _ H Q => Q v H
theorem pe_var {i : Nat} {x : Str} {pos : Pos} (hN : X.N[i]? = some x) (hv : Vis X.env.scope x) (hd : (x == ("__debug__" : Str)) = false := by decide) (hcd : (x == ("__classdict__" : Str)) = false := by decide) : PE X (.Name x pos) (tVar i) := by
  intro pins s σ H Q I h
  obtain ⟨v, e, h⟩ := h
  obtain ⟨m, hn, hl⟩ := I.loc
  obtain ⟨u, r, l⟩ := hl i x v hN e hv
  have fin : EP X pins σ Q u s := ⟨v, H, I, r, h⟩
  rcases l with ⟨hk, hm⟩ | ⟨hk, c, hc, hcell⟩
  · exact wpAny_Name (wpAny_loadName_local I.ok.kind hk hn hm fin) hd
  · rcases hk with hk | hk
    · exact wpAny_Name (wpAny_loadName_cell I.ok.kind hk hc hcell fin) hd
    · exact wpAny_Name (wpAny_loadName_free I.ok.kind hk hc hcell fin hcd) hd
theorem pe_int {i j pos} : PE X (.Constant (.int i) j pos) (tC (.int i)) := fun _ _ _ H _ I h => wpAny_Constant_int ⟨.int i, H, I.tok _, ⟨_, rfl⟩, h⟩
theorem pe_bl {b j pos} : PE X (.Constant (.bool b) j pos) (tC (.bl b)) := fun _ _ _ H _ I h => Constant_bool ⟨.bl b, H, I, rfl, h⟩
theorem pe_non {j pos} : PE X (.Constant .none j pos) (tC .non) := fun _ _ _ H _ I h => Constant_none ⟨.non, H, I, rfl, h⟩
theorem pe_str {x j pos} : PE X (.Constant (.str x) j pos) (tC (.str x)) := fun _ _ _ H _ I h => Calls.Constant_str ⟨.str x, H, I.tok _, ⟨_, rfl⟩, h⟩
def Gl (X : Cx) (x : Str) : Prop := X.env.kindOf x = some .globalImplicit
theorem ld_glob {E : Value → Shared → Prop} {pins : List (Addr × Obj)} {s : Shared} {σ : St} {H : Hp} {x : Str} {u : Value} {pos : Pos} {Q : Value → Shared → Prop} (I : Inv X pins σ H s) (hg : Gl X x) (hm : X.mg x = some u) (h : Q u s)
    (hd : (x == ("__debug__" : Str)) = false := by decide) : wpAny (model X.prog X.w) X.A (eval (.Name x pos) X.env) Q E s :=
  Calls.Name_function_global I.ok.kind hg (Calls.loadGlobal_global (by rw [I.ok.glob]; exact I.mod.glob.keeps I.bk) hm h) hd
theorem ld_blt {E : Value → Shared → Prop} {pins : List (Addr × Obj)} {s : Shared} {σ : St} {H : Hp} {x : Str} {u : Value} {pos : Pos} {Q : Value → Shared → Prop} (I : Inv X pins σ H s) (hg : Gl X x) (hm : X.mg x = none) (hv : bootBuiltins x = some u) (h : Q u s)
    (hn : x ≠ "__name__" := by decide) (hd : (x == ("__debug__" : Str)) = false := by decide) : wpAny (model X.prog X.w) X.A (eval (.Name x pos) X.env) Q E s := by
  obtain ⟨mb, h1, h2⟩ := I.mod.blt
  exact Calls.Name_function_global I.ok.kind hg (Calls.loadGlobal_builtin (by rw [I.ok.glob]; exact I.mod.glob.keeps I.bk) hm (by rw [I.ok.blt]; exact h1.keeps I.bk) ((h2 x hn).trans hv) h) hd
theorem pe_glob {x : Str} {v : V} {u : Value} {pos : Pos} (hg : Gl X x) (hm : X.mg x = some u) (r : RelV v u) (hd : (x == ("__debug__" : Str)) = false := by decide) : PE X (.Name x pos) (tC v) :=
  fun _ _ _ H _ I h => ld_glob I hg hm ⟨v, H, I, r, h⟩ hd
theorem pe_bltn {x : Str} {v : V} {u : Value} {pos : Pos} (hg : Gl X x) (hm : X.mg x = none) (hv : bootBuiltins x = some u) (r : RelV v u) (hn : x ≠ "__name__" := by decide) (hd : (x == ("__debug__" : Str)) = false := by decide) : PE X (.Name x pos) (tC v) :=
  fun _ _ _ H _ I h => ld_blt I hg hm hv ⟨v, H, I, r, h⟩ hn hd
variable {a b : Expr} {ta tb : TE} {pos : Pos}
def tB (t : TE) : TT := fun σ H Q => t σ H fun x H1 => ∃ c, x = .bl c ∧ Q c H1
variable {tA tB' : TT} {rest : List Expr}
def tAnd (t u : TT) : TT := fun σ H Q => t σ H fun c H1 => if c = true then u σ H1 Q else Q false H1
def tOr (t u : TT) : TT := fun σ H Q => t σ H fun c H1 => if c = true then Q true H1 else u σ H1 Q
def tNot (t : TT) : TT := fun σ H Q => t σ H fun c H1 => Q (!c) H1
theorem pw_and1 (ha : PT X a tA) : PW X (.BoolOp .And [a] pos) tA := by
  intro wh pins s σ H Q I h
  refine isTrue_and (thn (ha pins s σ H Q I h) fun c s1 e => ?_)
  cases c with
  | true => exact isTrue_and_nil e
  | false => exact e
theorem pw_or1 (ha : PT X a tA) : PW X (.BoolOp .Or [a] pos) tA := by
  intro wh pins s σ H Q I h
  refine isTrue_or (thn (ha pins s σ H Q I h) fun c s1 e => ?_)
  cases c with
  | false => exact isTrue_or_nil e
  | true => exact e
theorem pw_and (ha : PT X a tA) (hb : PW X (.BoolOp .And (b :: rest) pos) tB') : PW X (.BoolOp .And (a :: b :: rest) pos) (tAnd tA tB') := by
  intro wh pins s σ H Q I h
  refine isTrue_and (thn (ha pins s σ H _ I h) fun c s1 ⟨H1, I1, q1⟩ => ?_)
  cases c with
  | true => exact hb wh pins s1 σ H1 Q I1 q1
  | false => exact ⟨H1, I1, q1⟩
theorem pw_or (ha : PT X a tA) (hb : PW X (.BoolOp .Or (b :: rest) pos) tB') : PW X (.BoolOp .Or (a :: b :: rest) pos) (tOr tA tB') := by
  intro wh pins s σ H Q I h
  refine isTrue_or (thn (ha pins s σ H _ I h) fun c s1 ⟨H1, I1, q1⟩ => ?_)
  cases c with
  | true => exact ⟨H1, I1, q1⟩
  | false => exact hb wh pins s1 σ H1 Q I1 q1
theorem pt_not (ha : PT X a tA) : PT X (.UnaryOp .Not a pos) (tNot tA) := by
  intro pins s σ H Q I h
  exact isTrue_not (ha pins s σ H (fun c H1 => Q (!c) H1) I h)
def tAndV (ta tb : TE) : TE := fun σ H Q => ta σ H fun x H1 => ∃ c, x = .bl c ∧ if c = true then tb σ H1 Q else Q (.bl false) H1
def tOrV (ta tb : TE) : TE := fun σ H Q => ta σ H fun x H1 => ∃ c, x = .bl c ∧ if c = true then Q (.bl true) H1 else tb σ H1 Q
def tNotV (ta : TE) : TE := fun σ H Q => ta σ H fun x H1 => ∃ c, x = .bl c ∧ Q (.bl (!c)) H1
theorem pe_one {op} {t : TE} (h : PE X a t) : PE X (.BoolOp op [a] pos) t := fun pins s σ H Q I hw => BoolOp_one (h pins s σ H Q I hw)
theorem pe_and (ha : PE X a ta) (hb : PE X (.BoolOp .And (b :: rest) pos) tb) : PE X (.BoolOp .And (a :: b :: rest) pos) (tAndV ta tb) := by
  intro pins s σ H Q I h
  refine BoolOp_and (thn (ha pins s σ H _ I h) fun v s1 ⟨x, H1, I1, r1, q1⟩ => ?_)
  obtain ⟨c, rfl, q1⟩ := q1
  cases r1
  refine wpAny_truthy_bool ?_
  cases c with
  | true => exact hb pins s1 σ H1 Q I1 q1
  | false => exact ⟨.bl false, H1, I1, rfl, q1⟩
theorem pe_or (ha : PE X a ta) (hb : PE X (.BoolOp .Or (b :: rest) pos) tb) : PE X (.BoolOp .Or (a :: b :: rest) pos) (tOrV ta tb) := by
  intro pins s σ H Q I h
  refine BoolOp_or (thn (ha pins s σ H _ I h) fun v s1 ⟨x, H1, I1, r1, q1⟩ => ?_)
  obtain ⟨c, rfl, q1⟩ := q1
  cases r1
  refine wpAny_truthy_bool ?_
  cases c with
  | false => exact hb pins s1 σ H1 Q I1 q1
  | true => exact ⟨.bl true, H1, I1, rfl, q1⟩
theorem pe_not (ha : PE X a ta) : PE X (.UnaryOp .Not a pos) (tNotV ta) := by
  intro pins s σ H Q I h
  refine UnaryOp_ (thn (ha pins s σ H _ I h) fun v s1 ⟨x, H1, I1, r1, q1⟩ => ?_)
  obtain ⟨c, rfl, q1⟩ := q1
  cases r1
  exact not_of (wpAny_truthy_bool ⟨.bl (!c), H1, I1, rfl, q1⟩)
def tIf (t : TT) (ta tb : TE) : TE := fun σ H Q => t σ H fun c H1 => if c = true then ta σ H1 Q else tb σ H1 Q
theorem pe_ifExp {c : Expr} (hc : PT X c tA) (ha : PE X a ta) (hb : PE X b tb) : PE X (.IfExp c a b pos) (tIf tA ta tb) := by
  intro pins s σ H Q I h
  refine wpAny_IfExp (thn (hc pins s σ H _ I h) fun d s1 ⟨H1, I1, q1⟩ => ?_)
  cases d with
  | true => exact ha pins s1 σ H1 Q I1 q1
  | false => exact hb pins s1 σ H1 Q I1 q1
end
end L2
namespace L2
open PySem PySem.Spec PyProof.Rows
def SqL (K : PySem.W.Frag) (H : Hp) (a : Addr) (xs : List V) : Prop :=
  Rd H a (.lst xs) ∨
    ∃ (o : Obj) (its : Array Value) (n : Nat), K.lookup a = some o ∧ o.cls = .type "list" ∧ o.dict = none ∧ o.data = .seq its n ∧ its.size ≤ sizeLine ∧ Vals xs its.toList
def SqT (K : PySem.W.Frag) (H : Hp) (a : Addr) (xs : List V) : Prop :=
  Rd H a (.tup xs) ∨
    ∃ (o : Obj) (its : Array Value) (n : Nat), K.lookup a = some o ∧ o.cls = .type "tuple" ∧ o.data = .seq its n ∧ its.size ≤ sizeLine ∧ Vals xs its.toList
def absV : Value → Option V
  | .none => some .non
  | .bool b => some (.bl b)
  | .int i _ => some (.int i)
  | .str x _ => some (.str x)
  | .bytes b _ => some (.byt b)
  | .float b _ => some (.flt b)
  | .ref a => some (.ref a)
  | .type n => some (.ty n)
  | _ => none
theorem RelV.abs {x : V} {u : Value} (r : RelV x u) : absV u = some x := by
  cases x with
  | non => cases r; rfl
  | bl _ => cases r; rfl
  | int _ => obtain ⟨t, rfl⟩ := r; rfl
  | str _ => obtain ⟨t, rfl⟩ := r; rfl
  | byt _ => obtain ⟨t, rfl⟩ := r; rfl
  | flt _ => obtain ⟨t, rfl⟩ := r; rfl
  | ref _ => cases r; rfl
  | ty _ => cases r; rfl
theorem RelV.inj {x y : V} {u : Value} (r : RelV x u) (q : RelV y u) : x = y := Option.some.inj (r.abs.symm.trans q.abs)
theorem Vals.inj : ∀ {xs ys : List V} {us : List Value}, Vals xs us → Vals ys us → xs = ys
  | _, _, _, .nil, .nil => rfl
  | _, _, _, .cons r t, .cons r' t' => by rw [r.inj r', Vals.inj t t']
section
variable {X : Cx} {pins : List (Addr × Obj)} {σ : St} {H : Hp} {s : Shared} {a : Addr} {xs ys : List V}
theorem SqL.of {K : PySem.W.Frag} (h : H a = some (.lst xs)) : SqL K H a xs := .inl (.inl h)
theorem SqT.of {K : PySem.W.Frag} (h : H a = some (.tup xs)) : SqT K H a xs := .inl (.inl h)
theorem Inv.list (I : Inv X pins σ H s) (h : SqL X.K H a xs) : ∃ its : List Value, Vals xs its ∧ PlainL s.heap a its.toArray ∧ xs.length ≤ sizeLine := by
  rcases h with h | ⟨o, its, n, hk, hc, hd, hs, hz, r⟩
  · obtain ⟨z, its, n, r, e⟩ := h.ok I.hok
    exact ⟨its, r, ⟨_, n, e, rfl, rfl, rfl⟩, z⟩
  · refine ⟨its.toList, r, ⟨o, n, I.kIn a o hk, hc, hd, by simpa using hs⟩, ?_⟩
    have e := r.length
    simp only [Array.length_toList] at e
    omega
theorem Inv.tuple (I : Inv X pins σ H s) (h : SqT X.K H a xs) : ∃ its : List Value, Vals xs its ∧ IsTup s.heap a its.toArray ∧ xs.length ≤ sizeLine := by
  rcases h with h | ⟨o, its, n, hk, hc, hs, hz, r⟩
  · obtain ⟨z, its, r, p⟩ := h.ok I.hok
    exact ⟨its, r, p, z⟩
  · refine ⟨its.toList, r, ⟨o, I.kIn a o hk, hc, n, by simpa using hs⟩, ?_⟩
    have e := r.length
    simp only [Array.length_toList] at e
    omega
theorem Inv.list_inj (I : Inv X pins σ H s) (h : SqL X.K H a xs) (h' : SqL X.K H a ys) : xs = ys := by
  obtain ⟨its, r, ⟨o, n, e, _, _, d⟩, _⟩ := I.list h
  obtain ⟨its', r', ⟨o', n', e', _, _, d'⟩, _⟩ := I.list h'
  rw [e] at e'; cases e'
  rw [d] at d'
  injection d' with d1 _
  have : its = its' := by simpa using congrArg Array.toList d1
  subst this
  exact r.inj r'
theorem Inv.tuple_inj (I : Inv X pins σ H s) (h : SqT X.K H a xs) (h' : SqT X.K H a ys) : xs = ys := by
  obtain ⟨its, r, ⟨o, e, _, n, d⟩, _⟩ := I.tuple h
  obtain ⟨its', r', ⟨o', e', _, n', d'⟩, _⟩ := I.tuple h'
  rw [e] at e'; cases e'
  rw [d] at d'
  injection d' with d1 _
  have : its = its' := by simpa using congrArg Array.toList d1
  subst this
  exact r.inj r'
end
abbrev Cx.wish (X : Cx) (E : Value → Shared → Prop) : Cx := { X with xe := E }
abbrev Cx.nox (X : Cx) : Cx := X.wish fun _ _ => False
theorem Cx.Ok.wish {X : Cx} (ok : X.Ok) (E : Value → Shared → Prop) : (X.wish E).Ok :=
  ⟨ok.mod, ok.kind, ok.glob, ok.blt, ok.above, ok.inj, ok.has, ok.cab, ok.hd, ok.frames, ok.stk, ok.exf, ok.bs, ok.bsz, ok.noex, ok.exfs, ok.funs, ok.frf⟩
theorem Cx.Ok.unwish {X : Cx} {E : Value → Shared → Prop} (ok : (X.wish E).Ok) : X.Ok :=
  ⟨ok.mod, ok.kind, ok.glob, ok.blt, ok.above, ok.inj, ok.has, ok.cab, ok.hd, ok.frames, ok.stk, ok.exf, ok.bs, ok.bsz, ok.noex, ok.exfs, ok.funs, ok.frf⟩
section
variable {X : Cx} {pins : List (Addr × Obj)} {σ : St} {H : Hp} {s : Shared} {E : Value → Shared → Prop}
theorem Inv.wish (I : Inv X pins σ H s) (E : Value → Shared → Prop) : Inv (X.wish E) pins σ H s := ⟨I.ok.wish E, I.os, I.bare, I.base, I.loc, I.cell, I.free, I.freeC, I.pin, I.hok, I.len⟩
theorem Inv.unwish (I : Inv (X.wish E) pins σ H s) : Inv X pins σ H s := ⟨I.ok.unwish, I.os, I.bare, I.base, I.loc, I.cell, I.free, I.freeC, I.pin, I.hok, I.len⟩
theorem SP.unwish {D : Ends} {f : Flow} {s' : Shared} (h : SP (X.wish E) pins D f s') : SP X pins D f s' := by
  cases f with
  | next => obtain ⟨σ', H', I, q⟩ := h; exact ⟨σ', H', I.unwish, q⟩
  | brk => obtain ⟨σ', H', I, q⟩ := h; exact ⟨σ', H', I.unwish, q⟩
  | cont => obtain ⟨σ', H', I, q⟩ := h; exact ⟨σ', H', I.unwish, q⟩
  | ret u => obtain ⟨v, σ', H', I, r, q⟩ := h; exact ⟨v, σ', H', I.unwish, r, q⟩
theorem PSs.nox {st : List Stmt} {t : TS} (h : PSs X.nox st t) : PSs X st t := fun pins s σ H D I hw =>
  wpAny_mono (h pins s σ H D (I.wish _) hw) (fun _ _ q => q.unwish) fun _ _ z => False.elim z
end
section
variable {X : Cx} {st : Stmt} {rest : List Stmt} {t u : TS} {e : Expr} {te : TE} {pos : Pos}
def tNext : TS := fun D σ H => D.nx σ H
def tSeq (t u : TS) : TS := fun D σ H => t { D with nx := u D } σ H
theorem pss_nil : PSs X [] tNext := fun _ _ σ H _ I h => wpAny_execs_nil ⟨σ, H, I, h⟩
theorem pss_cons (h1 : PS X st t) (h2 : PSs X rest u) : PSs X (st :: rest) (tSeq t u) := by
  intro pins s σ H D I h
  refine wpAny_execs_cons (thn (h1 pins s σ H { D with nx := u D } I h) fun f s1 q => ?_)
  cases f with
  | next =>
    obtain ⟨σ', H', I', q⟩ := q
    exact h2 pins s1 σ' H' D I' q
  | ret v => exact q
  | brk => exact q
  | cont => exact q
theorem pss_one (h1 : PS X st t) : PSs X [st] t := by
  intro pins s σ H D I h
  refine wpAny_execs_cons (thn (h1 pins s σ H D I h) fun f s1 q => ?_)
  cases f with
  | next => exact wpAny_execs_nil q
  | ret v => exact q
  | brk => exact q
  | cont => exact q
def tBreak : TS := fun D σ H => D.bk σ H
def tCont : TS := fun D σ H => D.ct σ H
theorem Inv.quiet {pins : List (Addr × Obj)} {σ : St} {H : Hp} {s : Shared} (I : Inv X pins σ H s) : interactive X.env = false := by simp [interactive, I.ok.kind]
def tDrop (te : TE) : TS := fun D σ H => te σ H fun _ H1 => D.nx σ H1
theorem ps_expr (he : PE X e te) (hs : swapsWith e none pos.line X.env = pure false := by rfl) : PS X (.Expr e pos) (tDrop te) := by
  intro pins s σ H D I h
  exact wpAny_Expr_any (thn (he pins s σ H _ I h) fun v s1 ⟨x, H1, I1, r1, q1⟩ => ⟨σ, H1, I1, q1⟩) I.quiet hs
def tRet (te : TE) : TS := fun D σ H => te σ H D.rt
theorem ps_ret (he : PE X e te) : PS X (.Return (some e) pos) (tRet te) := by
  intro pins s σ H D I h
  exact wpAny_Return_some (thn (he pins s σ H _ I h) fun v s1 ⟨x, H1, I1, r1, q1⟩ => ⟨x, σ, H1, I1, r1, q1⟩)
def tRetN : TS := fun D _ H => D.rt .non H
def tIfS (c : TT) (t u : TS) : TS := fun D σ H => c σ H fun b H1 => if b = true then t D σ H1 else u D σ H1
theorem ps_if {c : Expr} {a b : List Stmt} {tc : TT} (hc : PT X c tc) (ha : PSs X a t) (hb : PSs X b u) : PS X (.If c a b pos) (tIfS tc t u) := by
  intro pins s σ H D I h
  refine wpAny_If (thn (hc pins s σ H _ I h) fun d s1 ⟨H1, I1, q1⟩ => ?_)
  cases d with
  | true => exact ha pins s1 σ H1 D I1 q1
  | false => exact hb pins s1 σ H1 D I1 q1
end
abbrev TG := V → St → Hp → (St → Hp → Prop) → Prop
abbrev TGs := List V → St → Hp → (St → Hp → Prop) → Prop
def PG (X : Cx) (target : Expr) (t : TG) : Prop :=
  ∀ (pins : List (Addr × Obj)) (s : Shared) (σ : St) (H : Hp) (v : V) (u : Value) (Q : St → Hp → Prop), Inv X pins σ H s → RelV v u → t v σ H Q →
    wpAny (model X.prog X.w) X.A (assign target X.env u) (fun _ s' => ∃ σ' H', Inv X pins σ' H' s' ∧ Q σ' H') X.xe s
def PGs (X : Cx) (ts : List Expr) (t : TGs) : Prop :=
  ∀ (pins : List (Addr × Obj)) (s : Shared) (σ : St) (H : Hp) (vs : List V) (us : List Value) (Q : St → Hp → Prop), Inv X pins σ H s → Vals vs us → t vs σ H Q →
    wpAny (model X.prog X.w) X.A (assignInOrder ((assignEach ts X.env).map (·.2)) us) (fun _ s' => ∃ σ' H', Inv X pins σ' H' s' ∧ Q σ' H') X.xe s
abbrev TSet := V → V → V → Hp → (Hp → Prop) → Prop
def PSet (X : Cx) (t : TSet) : Prop :=
  ∀ (pins : List (Addr × Obj)) (s : Shared) (σ : St) (H : Hp) (o i v : V) (ov iv u : Value) (Q : Hp → Prop), Inv X pins σ H s → RelV o ov → RelV i iv → RelV v u → t o i v H Q →
    wpAny (model X.prog X.w) X.A (setItem ov iv u) (fun _ s' => ∃ H', Inv X pins σ H' s' ∧ Q H') X.xe s
section
variable {X : Cx} {pos : Pos}
def gName (i : Nat) : TG := fun v σ H Q => Q (σ.set i (some v)) H
theorem pg_name {i : Nat} {x : Str} (hN : X.N.Nodup) (hi : X.N[i]? = some x) (hx : Loc X.env.scope x) (hf : X.fn x = true ∨ X.env.scope.names.lookup x = some .local := by first | exact .inl rfl | exact .inr rfl | assumption) : PG X (.Name x pos) (gName i) := by
  intro pins s σ H v u Q I r h
  exact wpAny_assign_Name (store_ok I hN hi hx r (fun s' I' => ⟨_, H, I', h⟩) hf)
def gNil : TGs := fun vs σ H Q => vs = [] ∧ Q σ H
def gCons (t : TG) (u : TGs) : TGs := fun vs σ H Q => ∃ v r, vs = v :: r ∧ t v σ H fun σ' H' => u r σ' H' Q
theorem pgs_nil : PGs X [] gNil := by
  intro pins s σ H vs us Q I r h
  obtain ⟨e, h⟩ := h
  subst e
  cases r
  exact assignInOrder_nil ⟨σ, H, I, h⟩
theorem pgs_cons {e : Expr} {es : List Expr} {t : TG} {u : TGs} (h1 : PG X e t) (h2 : PGs X es u)
    (hs : (assignEach (e :: es) X.env).map (·.2) = assign e X.env :: (assignEach es X.env).map (·.2) := by rfl) : PGs X (e :: es) (gCons t u) := by
  intro pins s σ H vs us Q I r h
  obtain ⟨v, vr, e1, h⟩ := h
  subst e1
  cases r with
  | cons r rr =>
    rw [hs]
    refine assignInOrder_cons (thn (h1 pins s σ H _ _ _ I r h) fun _ s1 ⟨σ1, H1, I1, q1⟩ => ?_)
    exact h2 pins s1 σ1 H1 _ _ Q I1 rr q1
def gTup (K : PySem.W.Frag) (n : Nat) (t : TGs) : TG := fun v σ H Q => ∃ a xs, v = .ref a ∧ SqT K H a xs ∧ xs.length = n ∧ t xs σ H Q
theorem pg_tup {es : List Expr} {k : Nat} {t : TGs} {n : Nat} (hc : X.calm = true) (h : PGs X es t)
    (hn : (assignEach es X.env).length = n := by rfl) (hst : (assignEach es X.env).findIdx? (·.1) = none := by rfl) : PG X (.Tuple es k pos) (gTup X.K n t) := by
  intro pins s σ H v u Q I r hw
  obtain ⟨a, xs, e1, hq, hl, hw⟩ := hw
  subst e1
  cases r
  obtain ⟨its, rv, ht, hz⟩ := I.tuple hq
  refine assign_Tuple_tuple (I.ok.hd hc) ht (by simp [hn, ← hl, rv.length]) hst fun h' hx => ?_
  have I1 : Inv X pins σ H { s with heap := h' } := I.kept (t' := s.toks) fun b o e => hx b o (Nat.ne_of_lt (Heap.lt_size e)) e
  exact h pins _ σ H xs _ Q I1 (by simpa using rv) hw
def gSub (to ti : TE) (t : TSet) : TG := fun v σ H Q => to σ H fun o H1 => ti σ H1 fun i H2 => t o i v H2 fun H3 => Q σ H3
theorem pg_sub {o i : Expr} {to ti : TE} {t : TSet} (ho : PE X o to) (hi : PE X i ti) (hs : PSet X t)
    (ha : ∀ v, assign (.Subscript o i pos) X.env v = (do
      let ov ← holding [v] (eval o X.env)
      let iv ← holding [v, ov] (eval i X.env)
      standAt pos
      holding [v, ov, iv] (setItem ov iv v)
      release [v, ov, iv] []) := by intro _; rfl) : PG X (.Subscript o i pos) (gSub to ti t) := by
  intro pins s σ H v u Q I r h
  rw [ha]
  refine wpAny_bind (wpAny_holding (thn (ho pins s σ H _ I h) fun ov s1 ⟨x, H1, I1, r1, q1⟩ => ?_))
  refine wpAny_bind (wpAny_holding (thn (hi pins s1 σ H1 _ I1 q1) fun iv s2 ⟨y, H2, I2, r2, q2⟩ => ?_))
  refine wpAny_bind (wpAny_standAt (wpAny_bind (wpAny_holding (thn (hs pins s2 σ H2 x y v ov iv u _ I2 r1 r2 r q2) fun _ s3 ⟨H3, I3, q3⟩ => ?_))))
  exact wpAny_release ⟨σ, H3, I3, q3⟩
def tAsg (te : TE) (g : TG) : TS := fun D σ H => te σ H fun x H1 => g x σ H1 D.nx
theorem ps_asg {tg e : Expr} {te : TE} {g : TG} (he : PE X e te) (hg : PG X tg g) (hs : swapsWithSole [tg] e pos.line X.env = pure false := by rfl) (hw : swappedStores [tg] e X.env = pure none := by rfl)
    (h1 : (assignEach [tg] X.env).map (·.2) = [assign tg X.env] := by rfl) : PS X (.Assign [tg] e pos) (tAsg te g) := by
  intro pins s σ H D I h
  refine wpAny_Assign_stores (thn (he pins s σ H _ I h) fun v s1 ⟨x, H1, I1, r1, q1⟩ => ?_) hs hw
  rw [h1]
  exact thn (hg pins s1 σ H1 x v _ I1 r1 q1) fun _ s2 q => q
theorem ps_set {i : Nat} {x : Str} {e : Expr} {te : TE} {pos' : Pos} (hN : X.N.Nodup) (hi : X.N[i]? = some x) (hx : Loc X.env.scope x) (he : PE X e te) (hs : swapsWith e (some (.Name x pos')) pos.line X.env = pure false := by rfl) (hf : X.fn x = true ∨ X.env.scope.names.lookup x = some .local := by first | exact .inl rfl | exact .inr rfl | assumption) :
    PS X (.Assign [.Name x pos'] e pos) (tAsg te (gName i)) := by
  intro pins s σ H D I h
  refine wpAny_Assign_Name (thn (he pins s σ H _ I h) fun v s1 ⟨y, H1, I1, r1, q1⟩ => ?_) hs
  exact store_ok I1 hN hi hx r1 (fun s2 I2 => ⟨_, H1, I2, q1⟩) hf
def tPar (i j : Nat) (ta : TA) : TS := fun D σ H => ta σ H fun vs H1 => ∃ v w, vs = [v, w] ∧ D.nx ((σ.set i (some v)).set j (some w)) H1
end
section
variable {X : Cx} {pos : Pos}
end
structure It where
  go : Nat → Hp → Prop
  yld : Nat → Hp → V → Hp → Prop
  stop : Nat → Hp → Prop
def FpOk (X : Cx) (pins : List (Addr × Obj)) (H : Hp) (b : Addr) : Prop :=
  H b = none ∧ b ≠ X.env.locals ∧ b ∉ X.fs ∧ (b ∈ X.ex ∨ X.s₀.heap.objs.size ≤ b) ∧ (∀ x c, X.env.cells.lookup x = some c → c ≠ b) ∧ ∀ p ∈ X.pn ++ pins, p.1 ≠ b
theorem Inv.fpOk {X : Cx} {pins : List (Addr × Obj)} {σ : St} {H H' : Hp} {s : Shared} {b : Addr} (I : Inv X pins σ H s) (hb : s.heap.objs.size ≤ b) (hn : H' b = none) : FpOk X pins H' b := by
  refine ⟨hn, Nat.ne_of_gt (Nat.lt_of_lt_of_le I.lt hb), I.nofs hb, .inr (Nat.le_trans I.sz hb), fun x c e z => ?_, fun p hp z => ?_⟩
  · obtain ⟨v, q⟩ := I.cell x c e
    exact absurd (Nat.lt_of_lt_of_le q.lt (by rw [z]; exact hb)) (Nat.lt_irrefl _)
  · exact absurd (Nat.lt_of_lt_of_le (Heap.lt_size (I.pin p hp).1) (by rw [z]; exact hb)) (Nat.lt_irrefl _)
structure Turn (P : Program) (w : World) (K : PySem.W.Frag) (tg : Expr) (J : It) (fp : List Addr) (it : Addr) (tn : Nat → Heap → Prop) : Prop where
  mem : it ∈ fp
  obj : ∀ i h, tn i h → ∀ b ∈ fp, ∃ o, h.get? b = some o ∧ ∀ v, o.data ≠ .cell v
  keep : ∀ i h h', tn i h → (∀ b ∈ fp, ∀ o, h.get? b = some o → h'.get? b = some o) → tn i h'
  item : ∀ (X : Cx), X.prog = P → X.w = w → X.K = K → X.calm = true → ∀ (i : Nat) (pins : List (Addr × Obj)) (s : Shared) (σ : St) (H : Hp) (E : Value → Shared → Prop), Inv X pins σ H s → (∀ b ∈ fp, FpOk X pins H b) → tn i s.heap → J.go i H →
    wpAny (model P w) X.A (pyNext (.ref it)) (fun r s1 => ∃ u, r = some u ∧
      wpAny (model P w) X.A (letOwnedTupleGo tg (.ref it) u) (fun _ s2 => ∃ x H', Inv X pins σ H' s2 ∧ RelV x u ∧ J.yld i H x H' ∧ tn (i + 1) s2.heap ∧ ∀ b ∈ fp, H' b = none) E s1) E s
  done : ∀ (X : Cx), X.prog = P → X.w = w → X.K = K → X.calm = true → ∀ (i : Nat) (pins : List (Addr × Obj)) (s : Shared) (σ : St) (H : Hp) (E : Value → Shared → Prop), Inv X pins σ H s → (∀ b ∈ fp, FpOk X pins H b) → tn i s.heap → J.stop i H →
    wpAny (model P w) X.A (pyNext (.ref it)) (fun r s1 => r = none ∧ Inv X pins σ H s1) E s
  self : ∀ (A : Around) (i : Nat) (s : Shared) (Q : Value → Shared → Prop) (E : Value → Shared → Prop), tn i s.heap → Q (.ref it) s → wpAny (model P w) A (pyIter (.ref it)) Q E s
abbrev TI := St → Hp → (It → Hp → Prop) → Prop
def PIE (X : Cx) (pins : List (Addr × Obj)) (σ : St) (tg : Expr) (R : It → Hp → Prop) (itv : Value) (s2 : Shared) : Prop :=
  ∃ (it : Addr) (fp : List Addr) (tn : Nat → Heap → Prop) (J : It) (H' : Hp), itv = .ref it ∧ Inv X pins σ H' s2 ∧ Turn X.prog X.w X.K tg J fp it tn ∧ tn 0 s2.heap ∧ (∀ b ∈ fp, FpOk X pins H' b) ∧ R J H'
def PI (X : Cx) (tg iter : Expr) (wi : TI) : Prop :=
  ∀ (pins : List (Addr × Obj)) (s : Shared) (σ : St) (H : Hp) (R : It → Hp → Prop), Inv X pins σ H s → wi σ H R →
    wpAny (model X.prog X.w) X.A (eval iter X.env) (fun v s1 => wpAny (model X.prog X.w) X.A (pyIter v) (PIE X pins σ tg R) X.xe s1) X.xe s
theorem go_of {M : Model} {A : Around} {E : Value → Shared → Prop} {s : Shared} {tg : Expr} {it : Addr} {u : Value} {o : Obj} {n : String} {vs : Array Value} {Q : Unit → Shared → Prop} (ho : s.heap.get? it = some o) (hc : o.cls = .type n) (hd : o.data = .fields vs)
    (hn : ["enumerate", "zip", "dict_itemiterator", "dict_reverseitemiterator", "odict_iterator", "itertools.zip_longest", "itertools.pairwise"].contains n = false) (hQ : Q () s) : wpAny M A (letOwnedTupleGo tg (.ref it) u) Q E s := by
  unfold letOwnedTupleGo
  cases tg <;> first
    | exact wpAny_pure hQ
    | (cases u <;> first
        | exact wpAny_pure hQ
        | (refine wpAny_bind (wpAny_load ho ?_)
           rw [hc, hd]
           show wpAny M A (if (["enumerate", "zip", "dict_itemiterator", "dict_reverseitemiterator", "odict_iterator", "itertools.zip_longest", "itertools.pairwise"].contains n && vs[0]? == some (rawInt _)) = true then _ else _) Q E s
           rw [if_neg (by intro h; rw [hn, Bool.false_and] at h; cases h)]
           exact wpAny_pure hQ))
def Itl (K : PySem.W.Frag) (a : Addr) : It :=
  ⟨fun i H => ∃ xs x, SqL K H a xs ∧ xs[i]? = some x, fun i H x H' => H' = H ∧ ∀ xs, SqL K H a xs → xs[i]? = some x, fun i H => ∃ xs, SqL K H a xs ∧ xs.length ≤ i⟩
def Itt (K : PySem.W.Frag) (a : Addr) : It :=
  ⟨fun i H => ∃ xs x, SqT K H a xs ∧ xs[i]? = some x, fun i H x H' => H' = H ∧ ∀ xs, SqT K H a xs → xs[i]? = some x, fun i H => ∃ xs, SqT K H a xs ∧ xs.length ≤ i⟩
def Itr (lo : Int) (n : Nat) : It := ⟨fun i _ => i < n, fun i H x H' => H' = H ∧ x = .int (lo + i), fun i _ => n ≤ i⟩
theorem turn_list {P : Program} {w : World} {K : PySem.W.Frag} {tg : Expr} (a it : Addr) : Turn P w K tg (Itl K a) [it] it (fun i h => h.IsListIter it a i) where
  mem := by simp
  obj := fun i h st b hb => by
    have e : b = it := by simpa using hb
    subst e
    obtain ⟨o, e, c, d⟩ := st
    exact ⟨o, e, fun v z => by rw [d] at z; cases z⟩
  keep := fun i h h' st k => st.at fun o e => k it (by simp) o e
  item := by
    intro X hP hw hK hc i pins s σ H E I hf st hg
    subst hP hw hK
    obtain ⟨xs, x, hq, hx⟩ := hg
    obtain ⟨its, rv, p, hz⟩ := I.list hq
    obtain ⟨u, hu, ru⟩ := rv.get hx
    obtain ⟨f0, f1, f2, f3, f4, f5⟩ := hf it (by simp)
    refine wpAny_pyNext_list_item st p.isList (x := u) (by simpa using hu) fun h' st' sb => ?_
    have I1 : Inv X pins σ H { s with heap := h' } := I.turned (t' := s.toks) (fun b o hb e => (sb.2 b hb).trans e) f0 f1 f3 f4 f5
    obtain ⟨o, e, c, d⟩ := id st'
    exact ⟨u, rfl, go_of (s := { s with heap := h' }) e c d (by decide) ⟨x, H, I1, ru, ⟨rfl, fun ys hy => by rw [I.list_inj hy hq]; exact hx⟩, st', fun b hb => (hf b hb).1⟩⟩
  done := by
    intro X hP hw hK hc i pins s σ H E I hf st hg
    subst hP hw hK
    obtain ⟨xs, hq, hx⟩ := hg
    obtain ⟨its, rv, p, hz⟩ := I.list hq
    obtain ⟨f0, f1, f2, f3, f4, f5⟩ := hf it (by simp)
    have hl := rv.length
    exact wpAny_pyNext_list_end (I.ok.hd hc) st p.isList (by simp; omega) fun h' eb => ⟨rfl, I.turned (t' := s.toks) (fun b o hb e => eb b o hb e) f0 f1 f3 f4 f5⟩
  self := fun _ _ _ _ _ st h => wpAny_pyIter_listiter st h
theorem turn_range {P : Program} {w : World} {K : PySem.W.Frag} {tg : Expr} (it : Addr) (lo : Int) (n : Nat) : Turn P w K tg (Itr lo n) [it] it (fun i h => IsRangeIter h it (lo + (i : Nat) * 1) ((n : Int) - (i : Nat)) 1) where
  mem := by simp
  obj := fun i h st b hb => by
    have e : b = it := by simpa using hb
    subst e
    exact ⟨_, st, fun v z => by
      have z' : Data.fields _ = Data.cell v := z
      cases z'⟩
  keep := fun i h h' st k => k it (by simp) _ st
  item := by
    intro X hP hw hK hc i pins s σ H E I hf st hg
    subst hP hw hK
    obtain ⟨f0, f1, f2, f3, f4, f5⟩ := hf it (by simp)
    have W := Walks.range (prog := X.prog) (w := X.w) (I.ok.hd hc) it lo 1 n
    refine W.item i s _ _ hg st fun v h' tk hv st' kk => ?_
    obtain ⟨t, rfl⟩ := hv
    have I1 : Inv X pins σ H { s with heap := h', toks := tk } := I.turned (fun b o hb e => kk b o (by simpa using hb) e) f0 f1 f3 f4 f5
    refine ⟨_, rfl, go_of (s := { s with heap := h', toks := tk }) (n := "range_iterator") st' rfl rfl (by decide) ⟨.int (lo + i), H, I1, ⟨t, ?_⟩, ⟨rfl, rfl⟩, st', fun b hb => (hf b hb).1⟩⟩
    rw [Int.mul_one]
  done := by
    intro X hP hw hK hc i pins s σ H E I hf st hg
    subst hP hw hK
    obtain ⟨f0, f1, f2, f3, f4, f5⟩ := hf it (by simp)
    exact wpAny_pyNext_range_end (I.ok.hd hc) st (by have : n ≤ i := hg; omega) fun h' eb => ⟨rfl, I.turned (t' := s.toks) (fun b o hb e => eb b o hb e) f0 f1 f3 f4 f5⟩
  self := fun _ _ _ _ _ st h => wpAny_pyIter_rangeiter st h
end L2
namespace L2
open PySem PySem.Spec PyProof.Rows
section
variable {X : Cx} {tg : Expr}
def iList (K : PySem.W.Frag) (tl : TE) : TI := fun σ H R => tl σ H fun x H1 => ∃ a, x = .ref a ∧ (∃ xs, SqL K H1 a xs) ∧ R (Itl K a) H1
def iTup (K : PySem.W.Frag) (tl : TE) : TI := fun σ H R => tl σ H fun x H1 => ∃ a, x = .ref a ∧ (∃ xs, SqT K H1 a xs) ∧ R (Itt K a) H1
theorem pi_list {l : Expr} {tl : TE} (hl : PE X l tl) : PI X tg l (iList X.K tl) := by
  intro pins s σ H R I h
  refine thn (hl pins s σ H _ I h) fun v s1 ⟨x, H1, I1, r1, q1⟩ => ?_
  obtain ⟨a, e, ⟨xs, hq⟩, q⟩ := q1
  subst e
  cases r1
  obtain ⟨its, rv, p, hz⟩ := I1.list hq
  refine wpAny_pyIter_list p.isList ?_
  refine ⟨s1.heap.objs.size, [s1.heap.objs.size], _, _, H1, rfl, I1.kept (t' := s1.toks) fun b o e => Heap.get?_push_of_some _ e, turn_list a _, ⟨_, Heap.get?_push_size _ rfl, rfl, rfl⟩, fun b hb => ?_, q⟩
  have e : b = s1.heap.objs.size := by simpa using hb
  subst e
  exact I1.fpOk (Nat.le_refl _) (I1.hok.fresh (Nat.le_refl _))
theorem range_it {pins : List (Addr × Obj)} {σ : St} {H : Hp} {s : Shared} {R : It → Hp → Prop} {E : Value → Shared → Prop} {lo hi : Int} {t u v : Tok} {tk : Nat} (I : Inv X pins σ H s) (h1 : -(2 ^ 62) ≤ lo) (h2 : lo < 2 ^ 62) (h3 : -(2 ^ 62) ≤ hi) (h4 : hi < 2 ^ 62)
    (q : R (Itr lo (hi - lo).toNat) H) : wpAny (model X.prog X.w) X.A (pyIter (.ref s.heap.objs.size)) (PIE X pins σ tg R) E { s with heap := s.heap.push { cls := .type "range", data := .fields #[.int lo t, .int hi u, .int 1 v] }, toks := tk } := by
  refine wpAny_pyIter_range (IsRange.new ..) (small_one h1 h2 h3 h4) ?_
  have I1 : Inv X pins σ H { s with heap := s.heap.push { cls := .type "range", data := .fields #[.int lo t, .int hi u, .int 1 v] }, toks := tk } := I.kept fun b o e => Heap.get?_push_of_some _ e
  refine ⟨(s.heap.push { cls := .type "range", data := .fields #[.int lo t, .int hi u, .int 1 v] }).objs.size, [(s.heap.push { cls := .type "range", data := .fields #[.int lo t, .int hi u, .int 1 v] }).objs.size], _, _, H, rfl,
    I1.kept (t' := tk) fun b o e => Heap.get?_push_of_some _ e, turn_range _ lo (hi - lo).toNat, ?_, fun b hb => ?_, q⟩
  · have e1 : lo + ((0 : Nat) : Int) * 1 = lo := by simp
    have e2 : (((hi - lo).toNat : Nat) : Int) - ((0 : Nat) : Int) = Builtin.Range.rangeSize lo hi 1 := by rw [rangeSize_one]; split <;> omega
    show IsRangeIter _ _ (lo + ((0 : Nat) : Int) * 1) ((((hi - lo).toNat : Nat) : Int) - ((0 : Nat) : Int)) 1
    rw [e1, e2]
    exact Heap.get?_push_size _ rfl
  · have e : b = (s.heap.push { cls := .type "range", data := .fields #[.int lo t, .int hi u, .int 1 v] }).objs.size := by simpa using hb
    subst e
    exact I1.fpOk (Nat.le_refl _) (I1.hok.fresh (Nat.le_refl _))
def iRng1 (ta : TA) : TI := fun σ H R => ta σ H fun vs H1 => ∃ j : Int, vs = [.int j] ∧ -(2 ^ 62) ≤ j ∧ j < 2 ^ 62 ∧ R (Itr 0 j.toNat) H1
def iRng2 (ta : TA) : TI := fun σ H R => ta σ H fun vs H1 => ∃ i j : Int, vs = [.int i, .int j] ∧ (-(2 ^ 62) ≤ i ∧ i < 2 ^ 62 ∧ -(2 ^ 62) ≤ j ∧ j < 2 ^ 62) ∧ R (Itr i (j - i).toNat) H1
theorem pi_range1 {a : Expr} {ta : TA} {p pos : Pos} (hg : Gl X "range") (hm : X.mg "range" = none) (ha : PA X [a] ta) (hs : starEach [a] X.env = [(false, eval a X.env)] := by rfl) : PI X tg (.Call (.Name "range" p) [a] [] pos) (iRng1 ta) := by
  intro pins s σ H R I h
  refine Call_ (ld_blt I hg hm boot_range (PyProof.Rows.callWith_type1 (thn (ha pos pins s σ H _ I h) fun us s1 ⟨vs, H1, I1, r1, q1⟩ => ?_) hs rfl))
  obtain ⟨j, e, q1, q2, q⟩ := q1
  subst e
  cases r1 with
  | cons r rr =>
    cases rr
    obtain ⟨t, rfl⟩ := r
    exact call_range_1 (range_it I1 (by omega) (by omega) q1 q2 (by simpa using q))
def tFor (wi : TI) (g : TG) (tb : TS) : TS := fun D σ H => wi σ H fun J H1 => ∃ W : Nat → Nat → St → Hp → Prop, (∃ m, W 0 m σ H1) ∧ ∀ i m σ H, W i m σ H →
  (J.stop i H ∧ D.nx σ H) ∨ (J.go i H ∧ ∃ N : St → Hp → Prop, (∀ σ' H', N σ' H' → ∃ m', m' < m ∧ W (i + 1) m' σ' H') ∧ ∀ x H', J.yld i H x H' → g x σ H' fun σ2 H2 => tb { D with nx := N, ct := N, bk := D.nx } σ2 H2)
def pinsAt (fp : List Addr) (h : Heap) : List (Addr × Obj) := fp.filterMap fun b => (h.get? b).map fun o => (b, o)
theorem mem_pinsAt {fp : List Addr} {h : Heap} {b : Addr} {o : Obj} (hb : b ∈ fp) (e : h.get? b = some o) : (b, o) ∈ pinsAt fp h := List.mem_filterMap.mpr ⟨b, hb, by rw [e]; rfl⟩
theorem of_pinsAt {fp : List Addr} {h : Heap} {p : Addr × Obj} (hp : p ∈ pinsAt fp h) : p.1 ∈ fp ∧ h.get? p.1 = some p.2 := by
  obtain ⟨b, hb, e⟩ := List.mem_filterMap.mp hp
  cases q : h.get? b with
  | none => rw [q] at e; cases e
  | some o =>
    rw [q] at e
    have e' : (b, o) = p := Option.some.inj e
    subst e'
    exact ⟨hb, q⟩
theorem Inv.pinned {pins : List (Addr × Obj)} {σ : St} {H : Hp} {s : Shared} {fp : List Addr} (I : Inv X pins σ H s) (hf : ∀ b ∈ fp, FpOk X pins H b) (ho : ∀ b ∈ fp, ∃ o, s.heap.get? b = some o ∧ ∀ v, o.data ≠ .cell v) : Inv X (pins ++ pinsAt fp s.heap) σ H s :=
  I.pins_of fun p hp => (List.mem_append.mp hp).elim (fun z => I.pin p (List.mem_append_right _ z)) fun z => by
    obtain ⟨hb, e⟩ := of_pinsAt z
    obtain ⟨f0, f1, f2, _⟩ := hf p.1 hb
    obtain ⟨o, e', d⟩ := ho p.1 hb
    rw [e] at e'; cases e'
    exact ⟨e, f0, f1, f2, d⟩
theorem Inv.unpinned {pins pl : List (Addr × Obj)} {σ : St} {H : Hp} {s : Shared} (I : Inv X (pins ++ pl) σ H s) : Inv X pins σ H s := I.pins_of fun p hp => I.pin p (List.mem_append_right _ (List.mem_append_left _ hp))
theorem ps_for {iter : Expr} {body : List Stmt} {wi : TI} {g : TG} {tb : TS} {pos : Pos} (hp : PassesOwn (model X.prog X.w) X.A X.env X.xe) (hc : X.calm = true) (hi : PI X tg iter wi) (hg : PG X tg g) (hb : PSs X body tb)
    (hs : ∀ x, foldedSetIterable iter X.env x = pure x := by intro _; rfl) : PS X (.For tg iter body [] pos) (tFor wi g tb) := by
  intro pins s σ H D I h
  refine wpAny_For (thn (hi pins s σ H _ I h) fun v s1 h1 => thn h1 fun itv s2 h2 => ?_) hs
  obtain ⟨it, fp, tn, J, H2, e, I2, T, st2, f2, W, ⟨m0, w0⟩, turn⟩ := h2
  subst e
  have stat : ∀ {H' : Hp}, (∀ b ∈ fp, H' b = none) → ∀ b ∈ fp, FpOk X pins H' b := fun hn b hb => ⟨hn b hb, (f2 b hb).2⟩
  refine codeAny_forLoop_any (fun n s' => ∃ i σ' H', Inv X pins σ' H' s' ∧ tn i s'.heap ∧ (∀ b ∈ fp, H' b = none) ∧ W i n σ' H') ?_ m0 ⟨0, σ, H2, I2, st2, fun b hb => (f2 b hb).1, w0⟩
  rintro n s3 ⟨i, σ3, H3, I3, st3, fr3, w3⟩
  rcases turn i n σ3 H3 w3 with ⟨stop, qn⟩ | ⟨go, N, hN, step⟩
  · refine wpAny_passesOwn hp (thn (T.done X rfl rfl rfl hc i pins s3 σ3 H3 X.xe I3 (stat fr3) st3 stop) fun r s4 ⟨hr, I4⟩ => ?_)
    subst hr
    exact wpAny_execs_nil ⟨σ3, H3, I4, qn⟩
  · refine wpAny_passesOwn hp (thn (T.item X rfl rfl rfl hc i pins s3 σ3 H3 X.xe I3 (stat fr3) st3 go) fun r s4 ⟨u, hr, h4⟩ => ?_)
    subst hr
    refine wpAny_passesOwn hp (thn h4 fun _ s5 ⟨x, H5, I5, r5, y5, st5, fr5⟩ => ?_)
    have I5' := I5.pinned (stat fr5) (T.obj _ _ st5)
    refine wpAny_passesOwn hp (thn (hg _ s5 σ3 H5 x u _ I5' r5 (step x H5 y5)) fun _ s6 ⟨σ6, H6, I6, q6⟩ => ?_)
    refine wpAny_passesOwn hp (thn (hb _ s6 σ6 H6 _ I6 q6) fun f s7 q7 => ?_)
    have again : ∀ {σ7 : St} {H7 : Hp}, Inv X (pins ++ pinsAt fp s5.heap) σ7 H7 s7 → N σ7 H7 → ∃ m, m < n ∧ ∃ i σ' H', Inv X pins σ' H' s7 ∧ tn i s7.heap ∧ (∀ b ∈ fp, H' b = none) ∧ W i m σ' H' := fun {σ7 H7} I7 n7 => by
      obtain ⟨m', hm, w7⟩ := hN σ7 H7 n7
      refine ⟨m', hm, i + 1, σ7, H7, I7.unpinned, T.keep _ _ _ st5 fun b hb o e => (I7.pin (b, o) (List.mem_append_right _ (List.mem_append_right _ (mem_pinsAt hb e)))).1, fun b hb => ?_, w7⟩
      obtain ⟨o, e, d⟩ := T.obj _ _ st5 b hb
      exact (I7.pin (b, o) (List.mem_append_right _ (List.mem_append_right _ (mem_pinsAt hb e)))).2.1
    cases f with
    | next => obtain ⟨σ7, H7, I7, n7⟩ := q7; exact again I7 n7
    | cont => obtain ⟨σ7, H7, I7, n7⟩ := q7; exact again I7 n7
    | brk => obtain ⟨σ7, H7, I7, q7⟩ := q7; exact ⟨σ7, H7, I7.unpinned, q7⟩
    | ret v => obtain ⟨x7, σ7, H7, I7, r7, q7⟩ := q7; exact ⟨x7, σ7, H7, I7.unpinned, r7, q7⟩
end
theorem for_range {lo : Int} {n : Nat} {g : TG} {tb : TS} {D : Ends} {σ : St} {H : Hp} (Pv : Nat → St → Hp → Prop) (h0 : Pv 0 σ H)
    (hs : ∀ i σ H, i < n → Pv i σ H → g (.int (lo + i)) σ H fun σ2 H2 => tb { D with nx := Pv (i + 1), ct := Pv (i + 1), bk := D.nx } σ2 H2) (hd : ∀ σ H, Pv n σ H → D.nx σ H) :
    ∃ W : Nat → Nat → St → Hp → Prop, (∃ m, W 0 m σ H) ∧ ∀ i m σ H, W i m σ H →
      ((Itr lo n).stop i H ∧ D.nx σ H) ∨ ((Itr lo n).go i H ∧ ∃ N : St → Hp → Prop, (∀ σ' H', N σ' H' → ∃ m', m' < m ∧ W (i + 1) m' σ' H') ∧ ∀ x H', (Itr lo n).yld i H x H' → g x σ H' fun σ2 H2 => tb { D with nx := N, ct := N, bk := D.nx } σ2 H2) := by
  refine ⟨fun i m σ H => m = n - i ∧ i ≤ n ∧ Pv i σ H, ⟨n, by simp, Nat.zero_le _, h0⟩, ?_⟩
  rintro i m σ H ⟨rfl, hi, p⟩
  by_cases hlt : i < n
  · refine .inr ⟨hlt, Pv (i + 1), fun σ' H' p' => ⟨n - (i + 1), by omega, rfl, hlt, p'⟩, fun x H' y => ?_⟩
    obtain ⟨e, y⟩ := y
    subst e y
    exact hs i σ _ hlt p
  · have e : i = n := by omega
    subst e
    exact .inl ⟨Nat.le_refl _, hd σ H p⟩
end L2
namespace L2
open PySem PySem.Spec PyProof.Rows
abbrev R2 := V → V → Hp → VK → Prop
def OpR (X : Cx) (f : Value → Value → Sem Value) (r : R2) : Prop :=
  ∀ (pins : List (Addr × Obj)) (s : Shared) (σ : St) (H : Hp) (x y : V) (v u : Value) (Q : VK), Inv X pins σ H s → RelV x v → RelV y u → r x y H Q →
    wpAny (model X.prog X.w) X.A (f v u) (EP X pins σ Q) X.xe s
def UnR (X : Cx) (f : Value → Sem Value) (r : V → Hp → VK → Prop) : Prop :=
  ∀ (pins : List (Addr × Obj)) (s : Shared) (σ : St) (H : Hp) (x : V) (v : Value) (Q : VK), Inv X pins σ H s → RelV x v → r x H Q →
    wpAny (model X.prog X.w) X.A (f v) (EP X pins σ Q) X.xe s
def CallR (X : Cx) (f : Value) (r : List V → Hp → VK → Prop) : Prop :=
  ∀ (pins : List (Addr × Obj)) (s : Shared) (σ : St) (H : Hp) (xs : List V) (us : List Value) (Q : VK), Inv X pins σ H s → Vals xs us → r xs H Q →
    wpAny (model X.prog X.w) X.A (call f us) (EP X pins σ Q) X.xe s
def TruR (X : Cx) (r : V → Hp → (Bool → Hp → Prop) → Prop) : Prop :=
  ∀ (pins : List (Addr × Obj)) (s : Shared) (σ : St) (H : Hp) (x : V) (v : Value) (Q : Bool → Hp → Prop), Inv X pins σ H s → RelV x v → r x H Q →
    wpAny (model X.prog X.w) X.A (truthy v) (TP X pins σ Q) X.xe s
def tOp (r : R2) (ta tb : TE) : TE := fun σ H Q => ta σ H fun x H1 => tb σ H1 fun y H2 => r x y H2 Q
def tUn (r : V → Hp → VK → Prop) (ta : TE) : TE := fun σ H Q => ta σ H fun x H1 => r x H1 Q
def rI (C : Int → Int → Prop) (g : Int → Int → V) : R2 := fun x y H Q => ∃ i j, x = .int i ∧ y = .int j ∧ C i j ∧ Q (g i j) H
def rI0 (g : Int → Int → V) : R2 := fun x y H Q => ∃ i j, x = .int i ∧ y = .int j ∧ Q (g i j) H
def rU (g : Int → V) : V → Hp → VK → Prop := fun x H Q => ∃ i, x = .int i ∧ Q (g i) H
section
variable {X : Cx} {a b c : Expr} {ta tb tc : TE} {pos : Pos}
theorem binT (ha : PE X a ta) (hb : PE X b tb) {pins : List (Addr × Obj)} {s : Shared} {σ : St} {H : Hp} {R : V → V → Hp → Prop} (I : Inv X pins σ H s)
    (h : ta σ H fun x H1 => tb σ H1 fun y H2 => R x y H2) {Q : Value → Shared → Prop} {f : Value → Value → Sem Value}
    (hf : ∀ v u s2 x y H2, Inv X pins σ H2 s2 → RelV x v → RelV y u → R x y H2 → wpAny (model X.prog X.w) X.A (f v u) Q X.xe s2) :
    wpAny (model X.prog X.w) X.A (eval a X.env) (fun v s₁ => wpAny (model X.prog X.w) X.A (eval b X.env) (fun u s₂ => wpAny (model X.prog X.w) X.A (f v u) Q X.xe s₂) X.xe s₁) X.xe s := by
  refine thn (ha pins s σ H _ I h) fun v s1 ⟨x, H1, I1, r1, q1⟩ => ?_
  refine thn (hb pins s1 σ H1 _ I1 q1) fun u s2 ⟨y, H2, I2, r2, q2⟩ => ?_
  exact hf v u s2 x y H2 I2 r1 r2 q2
theorem pe_op {op : Operator} {r : R2} (ho : OpR X (binaryOp op) r) (ha : PE X a ta) (hb : PE X b tb) : PE X (.BinOp a op b pos) (tOp r ta tb) := by
  intro pins s σ H Q I h
  exact wpAny_BinOp (binT ha hb I h fun v u s2 x y H2 I2 rx ry q => ho pins s2 σ H2 x y v u Q I2 rx ry q)
theorem pe_un {op : UnaryOp} {r : V → Hp → VK → Prop} (ho : UnR X (unaryOp op) r) (ha : PE X a ta) : PE X (.UnaryOp op a pos) (tUn r ta) := by
  intro pins s σ H Q I h
  exact UnaryOp_ (thn (ha pins s σ H _ I h) fun v s1 ⟨x, H1, I1, r1, q1⟩ => ho pins s1 σ H1 x v Q I1 r1 q1)
theorem opI {f : Value → Value → Sem Value} {C : Int → Int → Prop} {g : Int → Int → Int}
    (rule : ∀ (i j : Int) (t u : Tok) (s : Shared) (Q : Value → Shared → Prop) (E : Value → Shared → Prop), C i j → Q (.int (g i j) s.toks) { s with toks := s.toks + 1 } → wpAny (model X.prog X.w) X.A (f (.int i t) (.int j u)) Q E s) :
    OpR X f (rI C fun i j => .int (g i j)) := by
  intro pins s σ H x y v u Q I rx ry h
  obtain ⟨i, j, rfl, rfl, hc, q⟩ := h
  obtain ⟨t, rfl⟩ := rx
  obtain ⟨t', rfl⟩ := ry
  exact rule i j t t' s _ _ hc ⟨.int (g i j), H, I.tok _, ⟨_, rfl⟩, q⟩
theorem opI0 {f : Value → Value → Sem Value} {g : Int → Int → Int}
    (rule : ∀ (i j : Int) (t u : Tok) (s : Shared) (Q : Value → Shared → Prop) (E : Value → Shared → Prop), Q (.int (g i j) s.toks) { s with toks := s.toks + 1 } → wpAny (model X.prog X.w) X.A (f (.int i t) (.int j u)) Q E s) :
    OpR X f (rI0 fun i j => .int (g i j)) := by
  intro pins s σ H x y v u Q I rx ry h
  obtain ⟨i, j, rfl, rfl, q⟩ := h
  obtain ⟨t, rfl⟩ := rx
  obtain ⟨t', rfl⟩ := ry
  exact rule i j t t' s _ _ ⟨.int (g i j), H, I.tok _, ⟨_, rfl⟩, q⟩
theorem opB0 {f : Value → Value → Sem Value} {g : Int → Int → Bool}
    (rule : ∀ (i j : Int) (t u : Tok) (s : Shared) (Q : Value → Shared → Prop) (E : Value → Shared → Prop), Q (.bool (g i j)) s → wpAny (model X.prog X.w) X.A (f (.int i t) (.int j u)) Q E s) :
    OpR X f (rI0 fun i j => .bl (g i j)) := by
  intro pins s σ H x y v u Q I rx ry h
  obtain ⟨i, j, rfl, rfl, q⟩ := h
  obtain ⟨t, rfl⟩ := rx
  obtain ⟨t', rfl⟩ := ry
  exact rule i j t t' s _ _ ⟨.bl (g i j), H, I, rfl, q⟩
def CDiv (i j : Int) : Prop := 0 < j ∧ j < 1073741824
def CMul (i j : Int) : Prop := (-(2 ^ 64) < i ∧ i < 2 ^ 64) ∨ (-(2 ^ 64) < j ∧ j < 2 ^ 64)
theorem CMul.ok {i j : Int} (h : CMul i j) : IntMulOk i j := by
  rcases h with ⟨h1, h2⟩ | ⟨h1, h2⟩
  · exact .of_left (intBits_le_64 h1 h2)
  · exact .of_right (intBits_le_64 h1 h2)
theorem op_add : OpR X (binaryOp .Add) (rI0 fun i j => .int (i + j)) := opI0 fun _ _ _ _ _ _ _ q => add_int q
theorem op_mul : OpR X (binaryOp .Mult) (rI CMul fun i j => .int (i * j)) := opI fun _ _ _ _ _ _ _ hc q => mul_int q hc.ok
theorem op_fdiv : OpR X (binaryOp .FloorDiv) (rI CDiv fun i j => .int (i / j)) := opI fun i j _ _ _ _ _ hc q => by
  have h1 : (0 : Int) < j := hc.1
  have h2 : j < 1073741824 := hc.2
  exact floordiv_int (by omega) (by rw [Int.fdiv_eq_ediv_of_nonneg i (by omega)]; exact q) (.inl (PyProof.noPylong_small (by omega)))
theorem op_mod : OpR X (binaryOp .Mod) (rI (fun _ j => 0 < j) fun i j => .int (i % j)) := opI fun i j _ _ _ _ _ hc q => by
  have h1 : (0 : Int) < j := hc
  exact mod_int' (by omega) (by rw [Int.fmod_eq_emod_of_nonneg i (by omega)]; exact q)
theorem unI {f : Value → Sem Value} {g : Int → Int}
    (rule : ∀ (i : Int) (t : Tok) (s : Shared) (Q : Value → Shared → Prop) (E : Value → Shared → Prop), Q (.int (g i) s.toks) { s with toks := s.toks + 1 } → wpAny (model X.prog X.w) X.A (f (.int i t)) Q E s) :
    UnR X f (rU fun i => .int (g i)) := by
  intro pins s σ H x v Q I rx h
  obtain ⟨i, rfl, q⟩ := h
  obtain ⟨t, rfl⟩ := rx
  exact rule i t s _ _ ⟨.int (g i), H, I.tok _, ⟨_, rfl⟩, q⟩
theorem un_neg : UnR X (unaryOp .USub) (rU fun i => .int (-i)) := unI fun _ _ _ _ _ q => neg_int q
end
def scal : V → V → Bool
  | .non, .non => true | .non, .int _ => true | .int _, .non => true | .non, .bl _ => true | .bl _, .non => true | .non, .str _ => true | .str _, .non => true
  | .int _, .int _ => true | .bl _, .bl _ => true | .str _, .str _ => true | .byt _, .byt _ => true
  | .int _, .str _ => true | .str _, .int _ => true | .bl _, .str _ => true | .str _, .bl _ => true
  | _, _ => false
def rEq : R2 := fun x y H Q => scal x y = true ∧ Q (.bl (decide (x = y))) H
def rNe : R2 := fun x y H Q => scal x y = true ∧ Q (.bl (!decide (x = y))) H
theorem dec_int {i j : Int} : decide (V.int i = V.int j) = (i == j) := by
  rw [Bool.eq_iff_iff]
  simp
theorem dec_bl {i j : Bool} : decide (V.bl i = V.bl j) = (i == j) := by
  rw [Bool.eq_iff_iff]
  simp
theorem dec_str {i j : Str} : decide (V.str i = V.str j) = (i == j) := by
  rw [Bool.eq_iff_iff]
  simp
theorem dec_byt {i j : Array UInt8} : decide (V.byt i = V.byt j) = (i.toList == j.toList) := by
  rw [Bool.eq_iff_iff]
  cases i
  cases j
  simp
section
variable {X : Cx} {a b c : Expr} {ta tb tc : TE} {pos : Pos}
theorem fin_bl {pins : List (Addr × Obj)} {σ : St} {H : Hp} {s : Shared} {Q : VK} {k k' : Bool} (I : Inv X pins σ H s) (q : Q (.bl k) H) (e : k = k') : EP X pins σ Q (.bool k') s := by
  subst e
  exact ⟨.bl k, H, I, rfl, q⟩
theorem op_eq : OpR X (compareOp .Eq) rEq := by
  intro pins s σ H x y v u Q I rx ry h
  obtain ⟨hs, q⟩ := h
  cases x with
  | non =>
    cases rx
    cases y with
    | non => cases ry; exact PySem.EqNone.eq_none_none (fin_bl I q (by simp))
    | bl j => cases ry; exact PySem.EqNone.eq_none_bool (fin_bl I q (by simp))
    | int j => obtain ⟨t', rfl⟩ := ry; exact PySem.EqNone.eq_none_int (fin_bl I q (by simp))
    | str j => obtain ⟨t', rfl⟩ := ry; exact PySem.EqNone.eq_none_str (fin_bl I q (by simp))
    | _ => exact absurd (show false = true from hs) Bool.false_ne_true
  | bl i =>
    cases rx
    cases y with
    | non => cases ry; exact PySem.EqNone.eq_bool_none (fin_bl I q (by simp))
    | bl j => cases ry; exact eq_bool (fin_bl I q dec_bl)
    | str j => obtain ⟨t', rfl⟩ := ry; exact PySem.EqMixed.eq_bool_str (fin_bl I q (by simp))
    | _ => exact absurd (show false = true from hs) Bool.false_ne_true
  | int i =>
    obtain ⟨t, rfl⟩ := rx
    cases y with
    | non => cases ry; exact PySem.EqNone.eq_int_none (fin_bl I q (by simp))
    | int j => obtain ⟨t', rfl⟩ := ry; exact eq_int (fin_bl I q dec_int)
    | str j => obtain ⟨t', rfl⟩ := ry; exact PySem.EqMixed.eq_int_str (fin_bl I q (by simp))
    | _ => exact absurd (show false = true from hs) Bool.false_ne_true
  | str i =>
    obtain ⟨t, rfl⟩ := rx
    cases y with
    | non => cases ry; exact PySem.EqNone.eq_str_none (fin_bl I q (by simp))
    | bl j => cases ry; exact PySem.EqMixed.eq_str_bool (fin_bl I q (by simp))
    | int j => obtain ⟨t', rfl⟩ := ry; exact PySem.EqMixed.eq_str_int (fin_bl I q (by simp))
    | str j => obtain ⟨t', rfl⟩ := ry; exact eq_str (fin_bl I q dec_str)
    | _ => exact absurd (show false = true from hs) Bool.false_ne_true
  | byt i =>
    obtain ⟨t, rfl⟩ := rx
    cases y with
    | byt j => obtain ⟨t', rfl⟩ := ry; exact PySem.W.eq_bytes (fin_bl I q dec_byt)
    | _ => exact absurd (show false = true from hs) Bool.false_ne_true
  | _ => cases y <;> exact absurd (show false = true from hs) Bool.false_ne_true
theorem op_ne : OpR X (compareOp .NotEq) rNe := by
  intro pins s σ H x y v u Q I rx ry h
  obtain ⟨hs, q⟩ := h
  cases x with
  | non =>
    cases rx
    cases y with
    | non => cases ry; exact PySem.EqNone.ne_none_none (fin_bl I q (by simp))
    | bl j => cases ry; exact PySem.EqNone.ne_none_bool (fin_bl I q (by simp))
    | int j => obtain ⟨t', rfl⟩ := ry; exact PySem.EqNone.ne_none_int (fin_bl I q (by simp))
    | str j => obtain ⟨t', rfl⟩ := ry; exact PySem.EqNone.ne_none_str (fin_bl I q (by simp))
    | _ => exact absurd (show false = true from hs) Bool.false_ne_true
  | bl i =>
    cases rx
    cases y with
    | non => cases ry; exact PySem.EqNone.ne_bool_none (fin_bl I q (by simp))
    | bl j => cases ry; exact ne_bool (fin_bl I q (congrArg not dec_bl))
    | str j => obtain ⟨t', rfl⟩ := ry; exact PySem.EqMixed.ne_bool_str (fin_bl I q (by simp))
    | _ => exact absurd (show false = true from hs) Bool.false_ne_true
  | int i =>
    obtain ⟨t, rfl⟩ := rx
    cases y with
    | non => cases ry; exact PySem.EqNone.ne_int_none (fin_bl I q (by simp))
    | int j => obtain ⟨t', rfl⟩ := ry; exact ne_int (fin_bl I q (congrArg not dec_int))
    | str j => obtain ⟨t', rfl⟩ := ry; exact PySem.EqMixed.ne_int_str (fin_bl I q (by simp))
    | _ => exact absurd (show false = true from hs) Bool.false_ne_true
  | str i =>
    obtain ⟨t, rfl⟩ := rx
    cases y with
    | non => cases ry; exact PySem.EqNone.ne_str_none (fin_bl I q (by simp))
    | bl j => cases ry; exact PySem.EqMixed.ne_str_bool (fin_bl I q (by simp))
    | int j => obtain ⟨t', rfl⟩ := ry; exact PySem.EqMixed.ne_str_int (fin_bl I q (by simp))
    | str j => obtain ⟨t', rfl⟩ := ry; exact ne_str (fin_bl I q (congrArg not dec_str))
    | _ => exact absurd (show false = true from hs) Bool.false_ne_true
  | byt i =>
    obtain ⟨t, rfl⟩ := rx
    cases y with
    | byt j => obtain ⟨t', rfl⟩ := ry; exact PySem.W.ne_bytes (fin_bl I q (congrArg not dec_byt))
    | _ => exact absurd (show false = true from hs) Bool.false_ne_true
  | _ => cases y <;> exact absurd (show false = true from hs) Bool.false_ne_true
theorem op_lt : OpR X (compareOp .Lt) (rI0 fun i j => .bl (decide (i < j))) := opB0 fun _ _ _ _ _ _ _ q => lt_int q
theorem op_le : OpR X (compareOp .LtE) (rI0 fun i j => .bl (decide (i ≤ j))) := opB0 fun _ _ _ _ _ _ _ q => le_int q
theorem op_gt : OpR X (compareOp .Gt) (rI0 fun i j => .bl (decide (j < i))) := opB0 fun _ _ _ _ _ _ _ q => gt_int q
theorem op_lt_str : OpR X (compareOp .Lt) (fun x y H Q => ∃ i j, x = .str i ∧ y = .str j ∧ Q (.bl (decide (i.cps.toList < j.cps.toList))) H) := by
  intro pins s σ H x y v u Q I rx ry h
  obtain ⟨i, j, rfl, rfl, q⟩ := h
  obtain ⟨t, rfl⟩ := rx
  obtain ⟨t', rfl⟩ := ry
  exact lt_str (fin_bl I q rfl)
theorem op_in_str : OpR X (compareOp .In) (fun x y H Q => ∃ i j, x = .str i ∧ y = .str j ∧ Q (.bl (!(Builtin.Str.occurrences j i 0 j.length 1).isEmpty)) H) := by
  intro pins s σ H x y v u Q I rx ry h
  obtain ⟨i, j, rfl, rfl, q⟩ := h
  obtain ⟨t, rfl⟩ := rx
  obtain ⟨t', rfl⟩ := ry
  exact in_str (fin_bl I q rfl)
theorem op_isN : OpR X (compareOp .Is) (fun x y H Q => y = .non ∧ Q (.bl (decide (x = .non))) H) := by
  intro pins s σ H x y v u Q I rx ry h
  obtain ⟨rfl, q⟩ := h
  cases ry
  refine is_none_gen (fin_bl I q ?_)
  cases x <;> first
    | (cases rx; rfl)
    | (obtain ⟨t, rfl⟩ := rx; rfl)
theorem op_notN : OpR X (compareOp .IsNot) (fun x y H Q => y = .non ∧ Q (.bl (!decide (x = .non))) H) := by
  intro pins s σ H x y v u Q I rx ry h
  obtain ⟨rfl, q⟩ := h
  cases ry
  refine isnot_none_gen (fin_bl I q ?_)
  cases x <;> first
    | (cases rx; rfl)
    | (obtain ⟨t, rfl⟩ := rx; rfl)
theorem OpR.or {f : Value → Value → Sem Value} {r r' : R2} (h : OpR X f r) (h' : OpR X f r') : OpR X f (fun x y H Q => r x y H Q ∨ r' x y H Q) := by
  intro pins s σ H x y v u Q I rx ry q
  rcases q with q | q
  · exact h pins s σ H x y v u Q I rx ry q
  · exact h' pins s σ H x y v u Q I rx ry q
theorem nomark (b : Expr) {op : CmpOp} (h : op ≠ .In := by decide) (h2 : op ≠ .NotIn := by decide) : behindInMarks op b = false := by
  have e1 : (op == CmpOp.In) = false := by cases op <;> first | rfl | exact absurd rfl h
  have e2 : (op == CmpOp.NotIn) = false := by cases op <;> first | rfl | exact absurd rfl h2
  cases b <;> simp [behindInMarks, e1, e2]
theorem pe_cmpR {op : CmpOp} {r : R2} (ho : OpR X (compareOp op) r) (ha : PE X a ta) (hb : PE X b tb) (hm : behindInMarks op b = false) : PE X (.Compare a [op] [b] pos) (tOp r ta tb) := by
  intro pins s σ H Q I h
  exact wpAny_Compare1 (binT ha hb I h fun v u s2 x y H2 I2 rx ry q => ho pins s2 σ H2 x y v u Q I2 rx ry q) hm
def tTest (t : TE) : TT := fun σ H Q => t σ H fun x H' => ∃ k, x = .bl k ∧ Q k H'
theorem pt_cmpR {op : CmpOp} {r : R2} (ho : OpR X (compareOp op) r) (ha : PE X a ta) (hb : PE X b tb) (hm : behindInMarks op b = false) : PT X (.Compare a [op] [b] pos) (tTest (tOp r ta tb)) := by
  intro pins s σ H Q I h
  refine wpAny_isTrue_Compare1 (thn (ha pins s σ H _ I h) fun v s1 ⟨x, H1, I1, r1, q1⟩ => thn (hb pins s1 σ H1 _ I1 q1) fun u s2 ⟨y, H2, I2, r2, q2⟩ =>
    thn (ho pins s2 σ H2 x y v u _ I2 r1 r2 q2) fun c s3 ⟨z, H3, I3, r3, k, e, q3⟩ => ?_) hm
  subst e
  cases r3
  exact wpAny_truthy_bool ⟨H3, I3, q3⟩
def tChain (r r' : R2) (ta tb tc : TE) : TE := fun σ H Q => ta σ H fun x H1 => tb σ H1 fun y H2 => r x y H2 fun z H3 => ∃ k, z = .bl k ∧
  (if k = true then tc σ H3 fun w' H4 => r' y w' H4 Q else Q (.bl false) H3)
theorem pt_chain {op op' : CmpOp} {r r' : R2} (ho : OpR X (compareOp op) r) (ho' : OpR X (compareOp op') r') (ha : PE X a ta) (hb : PE X b tb) (hc : PE X c tc)
    (hm : lastMarks [op, op'] [b, c] = false := by with_unfolding_all rfl) : PT X (.Compare a [op, op'] [b, c] pos) (tTest (tChain r r' ta tb tc)) := by
  intro pins s σ H Q I h
  refine isTrue_chain (thn (ha pins s σ H _ I h) fun v s1 ⟨x, H1, I1, r1, q1⟩ => test_link (thn (hb pins s1 σ H1 _ I1 q1) fun u s2 ⟨y, H2, I2, r2, q2⟩ =>
    thn (ho pins s2 σ H2 x y v u _ I2 r1 r2 q2) fun d s3 ⟨z, H3, I3, r3, k, e, q3⟩ => ?_)) hm
  subst e
  cases r3
  refine wpAny_truthy_bool ?_
  cases k with
  | false =>
    obtain ⟨k', e', q'⟩ := q3
    cases e'
    exact ite_ff ⟨H3, I3, q'⟩
  | true =>
    refine ite_tt (test_last (thn (hc pins s3 σ H3 _ I3 q3) fun w' s4 ⟨z', H4, I4, r4, q4⟩ => thn (ho' pins s4 σ H4 y z' u w' _ I4 r2 r4 q4) fun d' s5 ⟨z2, H5, I5, r5, k2, e2, q5⟩ => ?_))
    subst e2
    cases r5
    exact wpAny_truthy_bool ⟨H5, I5, q5⟩
def TruV (K : PySem.W.Frag) (x : V) (H : Hp) (k : Bool) : Prop :=
  match x with
  | .non => k = false
  | .bl b => k = b
  | .int i => k = (i != 0)
  | .str y => y.length ≤ sizeLine ∧ k = ((y.length : Int) != 0)
  | .byt y => y.size ≤ sizeLine ∧ k = ((y.size : Int) != 0)
  | .ref p => (∃ xs, SqL K H p xs ∧ k = !xs.isEmpty) ∨ (∃ xs, SqT K H p xs ∧ k = !xs.isEmpty) ∨ ∃ kvs, H p = some (.dK kvs) ∧ k = !kvs.isEmpty
  | _ => False
theorem isEmpty_kv {κ : Type} {kvs : List (κ × V)} {vs : List (κ × Value)} (r : KV kvs vs) : (!vs.isEmpty) = !kvs.isEmpty := by
  cases r <;> rfl
theorem isEmpty_of {xs : List V} {its : List Value} (r : Vals xs its) : (!its.toArray.isEmpty) = !xs.isEmpty := by
  cases r <;> simp
theorem line63 : (sizeLine : Nat) < 2 ^ 63 := by rw [sizeLine_eq]; decide
theorem tru_ok : TruR X (fun x H Q => ∃ k, TruV X.K x H k ∧ Q k H) := by
  intro pins s σ H x v Q I rx h
  obtain ⟨k, e, q⟩ := h
  have hl := line63
  have hs : sizeLine = 16777216 := sizeLine_eq
  cases x with
  | non =>
    cases rx
    have e' : k = false := e
    subst e'
    exact truthy_none ⟨H, I, q⟩
  | bl b =>
    cases rx
    have e' : k = b := e
    subst e'
    exact wpAny_truthy_bool ⟨H, I, q⟩
  | int i =>
    obtain ⟨t, rfl⟩ := rx
    have e' : k = (i != 0) := e
    subst e'
    exact PySem.P.truthy_int ⟨H, I, q⟩
  | str y =>
    obtain ⟨t, rfl⟩ := rx
    obtain ⟨hy, e'⟩ : y.length ≤ sizeLine ∧ k = ((y.length : Int) != 0) := e
    subst e'
    exact PySem.P.truthy_str (by omega) ⟨H, I.tok _, q⟩
  | byt y =>
    obtain ⟨t, rfl⟩ := rx
    obtain ⟨hy, e'⟩ : y.size ≤ sizeLine ∧ k = ((y.size : Int) != 0) := e
    subst e'
    exact PySem.W.truthy_bytes (by omega) ⟨H, I.tok _, q⟩
  | ref p =>
    cases rx
    have e' : (∃ xs, SqL X.K H p xs ∧ k = !xs.isEmpty) ∨ (∃ xs, SqT X.K H p xs ∧ k = !xs.isEmpty) ∨ ∃ kvs, H p = some (.dK kvs) ∧ k = !kvs.isEmpty := e
    rcases e' with ⟨xs, hx, e'⟩ | ⟨xs, hx, e'⟩ | ⟨kvs, hx, e'⟩
    · subst e'
      obtain ⟨its, r, pl, hz⟩ := I.list hx
      have hlen := r.length
      exact wpAny_truthy_list pl.isList (by simp only [List.size_toArray]; omega) ⟨H, I.tok _, by rw [isEmpty_of r]; exact q⟩
    · subst e'
      obtain ⟨its, r, pl, hz⟩ := I.tuple hx
      have hlen := r.length
      exact truthy_tuple pl (by simp only [List.size_toArray]; omega) ⟨H, I.tok _, by rw [isEmpty_of r]; exact q⟩
    · subst e'
      obtain ⟨hz, hS, vs, r, m⟩ : kvs.length ≤ sizeLine ∧ (p == sysModules) = false ∧ ∃ vs, KV kvs vs ∧ s.heap.DictOf (mixKind X.prog X.w) p vs := I.hok p _ hx
      have hlen : kvs.length = vs.length := Paired.length r
      exact wpAny_truthy_dict hS m (by omega) ⟨H, I.tok _, by rw [isEmpty_kv r]; exact q⟩
  | _ => exact (show False from e).elim
theorem pt_truth (ha : PE X a ta) (he : ∀ whole, isTrue a X.env whole = (do let v ← whole; standAt a.pos; holding [v] (truthy v))) :
    PT X a (fun σ H Q => ta σ H fun x H' => ∃ k, TruV X.K x H' k ∧ Q k H') := by
  intro pins s σ H Q I h
  exact isTrue_plain (thn (ha pins s σ H _ I h) fun v s1 ⟨x, H1, I1, r1, q1⟩ => tru_ok pins s1 σ H1 x v Q I1 r1 q1) (he _)
theorem op_add_str : OpR X (binaryOp .Add) (fun x y H Q => ∃ i j, x = .str i ∧ y = .str j ∧ i.length + j.length ≤ sizeLine ∧ Q (.str (i ++ j)) H) := by
  intro pins s σ H x y v u Q I rx ry h
  obtain ⟨i, j, rfl, rfl, hz, q⟩ := h
  obtain ⟨t, rfl⟩ := rx
  obtain ⟨t', rfl⟩ := ry
  exact add_str (fun t' tk => ⟨.str (i ++ j), H, I.tok _, ⟨_, rfl⟩, q⟩) hz
theorem vals1 {x : V} {us : List Value} (r : Vals [x] us) : ∃ u, us = [u] ∧ RelV x u := by
  cases r with
  | cons r1 r2 => cases r2; exact ⟨_, rfl, r1⟩
theorem vals2 {x y : V} {us : List Value} (r : Vals [x, y] us) : ∃ u w', us = [u, w'] ∧ RelV x u ∧ RelV y w' := by
  cases r with
  | cons r1 r2 =>
    cases r2 with
    | cons r3 r4 => cases r4; exact ⟨_, _, rfl, r1, r3⟩
theorem call_str_int : CallR X (.type "str") (fun xs H Q => ∃ i, xs = [.int i] ∧ i.natAbs.log2 < 1920 ∧ Q (.str (toString i)) H) := by
  intro pins s σ H xs us Q I r h
  obtain ⟨i, rfl, hz, q⟩ := h
  obtain ⟨u, rfl, t, rfl⟩ := vals1 r
  exact PySem.P.str_of_int hz ⟨.str _, H, I.tok _, ⟨_, rfl⟩, q⟩
def LenV (K : PySem.W.Frag) (x : V) (H : Hp) (n : Nat) : Prop :=
  match x with
  | .str y => y.length ≤ sizeLine ∧ n = y.length
  | .byt y => y.size ≤ sizeLine ∧ n = y.size
  | .ref p => (∃ xs, SqL K H p xs ∧ n = xs.length) ∨ ∃ xs, SqT K H p xs ∧ n = xs.length
  | _ => False
theorem call_len : CallR X (.builtin "len") (fun xs H Q => ∃ x n, xs = [x] ∧ LenV X.K x H n ∧ Q (.int n) H) := by
  intro pins s σ H xs us Q I r h
  obtain ⟨x, n, rfl, e, q⟩ := h
  obtain ⟨u, rfl, rx⟩ := vals1 r
  have hl := line63
  have hs : sizeLine = 16777216 := sizeLine_eq
  cases x with
  | str y =>
    obtain ⟨t, rfl⟩ := rx
    obtain ⟨hy, e'⟩ : y.length ≤ sizeLine ∧ n = y.length := e
    subst e'
    exact len_str (by omega) ⟨.int _, H, I.tok _, ⟨_, rfl⟩, q⟩
  | byt y =>
    obtain ⟨t, rfl⟩ := rx
    obtain ⟨hy, e'⟩ : y.size ≤ sizeLine ∧ n = y.size := e
    subst e'
    exact PySem.W.len_bytes (by omega) ⟨.int _, H, I.tok _, ⟨_, rfl⟩, q⟩
  | ref p =>
    cases rx
    have e' : (∃ xs, SqL X.K H p xs ∧ n = xs.length) ∨ ∃ xs, SqT X.K H p xs ∧ n = xs.length := e
    rcases e' with ⟨xs, hx, e'⟩ | ⟨xs, hx, e'⟩
    · subst e'
      obtain ⟨its, r', pl, hz⟩ := I.list hx
      have hlen := r'.length
      exact Calls.call_len_list pl.isList (by simp only [List.size_toArray]; omega) ⟨.int xs.length, H, I.tok _, ⟨_, by simp only [List.size_toArray]; rw [hlen]⟩, q⟩
    · subst e'
      obtain ⟨its, r', pl, hz⟩ := I.tuple hx
      have hlen := r'.length
      exact len_tuple pl (by simp only [List.size_toArray]; omega) ⟨.int xs.length, H, I.tok _, ⟨_, by simp only [List.size_toArray]; rw [hlen]⟩, q⟩
  | _ => exact (show False from e).elim
end
end L2
namespace L2
open PySem PySem.Spec PyProof.Rows
structure ObjM (h : Heap) (x dx C : Addr) (mA : Str → Option Value) : Prop where
  obj : h.get? x = some (PySem.W.instObj C dx)
  ns : h.Ns1 dx mA
  ne : dx ≠ x
theorem lookIn_ns {h : Heap} {dx : Addr} {mA : Str → Option Value} (n : h.Ns1 dx mA) : ∃ od, h.get? dx = some od ∧ ∀ name, PySem.W.lookIn name od = some (mA name) := by
  obtain ⟨o, es, ep, ho, hd, hk, _, hm⟩ := n
  refine ⟨o, ho, fun name => ?_⟩
  have e := hm name
  unfold nsFind findBy at e
  rw [← Array.find?_toList] at e
  unfold PySem.W.lookIn
  rw [hd]
  dsimp only
  split
  · rename_i y q
    rw [q] at e
    exact congrArg some e
  · rename_i q
    rw [q] at e
    have a : es.toList.any (·.refKey) = false := by
      rw [List.any_eq_false]
      intro y hy
      obtain ⟨z, t, hkey⟩ := hk y (Array.mem_toList_iff.mp hy)
      simp [DictEntry.refKey, hkey]
    have a' : ¬ es.toList.any (·.refKey) = true := by rw [a]; exact Bool.false_ne_true
    rw [if_neg a']
    exact congrArg some e
theorem ObjM.look {h : Heap} {x dx C : Addr} {mA : Str → Option Value} (I : ObjM h x dx C mA) : ∃ od, PySem.W.InstAt h x (PySem.W.instObj C dx) C (some od) ∧ ∀ name, PySem.W.lookIn name od = some (mA name) :=
  let ⟨od, ho, hl⟩ := lookIn_ns I.ns
  ⟨od, ⟨I.obj, rfl, rfl, ho⟩, hl⟩
section
variable {prog : Program} {w : World} {A : Around} {E : Value → Shared → Prop} {s : Shared} {K : PySem.W.Frag} {x dx C f : Addr} {mA : Str → Option Value} {name : Str} {v : Value}
end
def putF (f : Str) (v : V) : List (Str × V) → List (Str × V)
  | [] => [(f, v)]
  | (g, x) :: r => if g = f then (g, v) :: r else (g, x) :: putF f v r
section
variable {P : Program} {w : World} {H H' : Hp} {h h' : Heap} {a C dx : Addr} {fs fs' : List (Str × V)}
theorem ins_get (hok : HOk P w H h) (e : H a = some (.ins C dx fs)) : ∃ mA, ObjM h a dx C mA ∧ (∀ f, RelO (fs.lookup f) (mA f)) ∧ PySem.Within mA (fs.map (·.1)) ∧ fs.length ≤ 1000 ∧ H dx = some (.own a) := by
  obtain ⟨d, z, ne, ob, mA, n, r, q⟩ := (show ObjOk P w H h a (.ins C dx fs) from hok a _ e)
  exact ⟨mA, ⟨ob, n, ne⟩, r, q, z, d⟩
end
structure Cls (K : PySem.W.Frag) (C : Addr) : Prop where
  pg : PySem.W.plainGet K C Str.empty = true
  hd : PySem.W.hasDictIn K C = true
  po : PySem.W.plainOver K C = true
  sa : PySem.W.findIn K (.ref C) "__setattr__" = some (some (.builtin "object.__setattr__"))
theorem Cls.get {K : PySem.W.Frag} {C : Addr} (c : Cls K C) (f : Str) : PySem.W.plainGet K C f = true := c.pg
def NoAttr (K : PySem.W.Frag) (C : Addr) (f : Str) : Prop := PySem.W.findIn K (.ref C) f = some none
section
variable {X : Cx} {pins : List (Addr × Obj)} {σ : St} {H : Hp} {s : Shared} {a C dx : Addr} {fs : List (Str × V)} {f : Str} {v : V} {A : Around} {E : Value → Shared → Prop}
theorem Inv.made (I : Inv X pins σ H s) : Inv X pins σ (upd (upd H s.heap.objs.size (.own (s.heap.objs.size + 1))) (s.heap.objs.size + 1) (.ins C s.heap.objs.size []))
    { s with heap := (s.heap.push PySem.W.emptyDict).push (PySem.W.instObj C s.heap.objs.size) } := by
  have e1 : (s.heap.push PySem.W.emptyDict).get? s.heap.objs.size = some PySem.W.emptyDict := Heap.get?_push_size s.heap rfl
  have e2 : ((s.heap.push PySem.W.emptyDict).push (PySem.W.instObj C s.heap.objs.size)).get? (s.heap.objs.size + 1) = some (PySem.W.instObj C s.heap.objs.size) := by
    have := Heap.get?_push_size (s.heap.push PySem.W.emptyDict) (o := PySem.W.instObj C s.heap.objs.size) rfl
    rwa [Heap.size_push] at this
  have e3 : (s.heap.push PySem.W.emptyDict).Ns s.heap.objs.size (fun _ => none) := ⟨PySem.W.emptyDict, #[], _, e1, rfl, (fun e he => absurd he (by simp)), fun _ => rfl⟩
  have I1 := I.laid (a := s.heap.objs.size) (o := .own (s.heap.objs.size + 1)) (h' := s.heap.push PySem.W.emptyDict) (t' := s.toks) (fun b u q => Heap.get?_push_of_some _ q) (Nat.le_refl _) ⟨_, e1⟩
  refine I1.laid (a := s.heap.objs.size + 1) (o := .ins C s.heap.objs.size []) (t' := s.toks) (fun b u q => Heap.get?_push_of_some _ q) (Nat.le_of_eq (Heap.size_push _ _)) ?_
  have ne : s.heap.objs.size ≠ s.heap.objs.size + 1 := Nat.ne_of_lt (Nat.lt_succ_self _)
  refine ⟨by rw [upd_ne ne, upd_same], Nat.zero_le _, ne, e2, fun _ => none, (Heap.Ns1.of_empty e3).at fun o q => Heap.get?_push_of_some _ q, fun _ => True.intro, fun y hy => absurd rfl hy⟩
end
def tFld (K : PySem.W.Frag) (ta : TE) (f : Str) : TE := fun σ H Q => ta σ H fun x H1 => ∃ a C dx fs v, x = .ref a ∧ H1 a = some (.ins C dx fs) ∧ Cls K C ∧ NoAttr K C f ∧ fs.lookup f = some v ∧ Q v H1
def sFld (K : PySem.W.Frag) (ta tv : TE) (f : Str) : TS := fun D σ H => tv σ H fun y H1 => ta σ H1 fun x H2 => ∃ a C dx fs, x = .ref a ∧ H2 a = some (.ins C dx fs) ∧ Cls K C ∧ NoAttr K C f ∧ fs.length < 1000 ∧
  D.nx σ (upd H2 a (.ins C dx (putF f y fs)))
section
variable {X : Cx} {o e value : Expr} {f : Str} {pos pos' tpos : Pos} {ta tv : TE}
end
section
variable {X : Cx} {pins : List (Addr × Obj)} {σ : St} {H : Hp} {s : Shared} {A : Around} {E : Value → Shared → Prop} {Q : Value → Shared → Prop} {c : Value} {b : Bool}
inductive TyOf (K : PySem.W.Frag) (H : Hp) : V → Value → Prop where
  | non : TyOf K H .non (.type "NoneType")
  | bl (x : Bool) : TyOf K H (.bl x) (.type "bool")
  | int (i : Int) : TyOf K H (.int i) (.type "int")
  | str (x : Str) : TyOf K H (.str x) (.type "str")
  | flt (x : UInt64) : TyOf K H (.flt x) (.type "float")
  | lst {a : Addr} {xs : List V} (e : H a = some (.lst xs)) : TyOf K H (.ref a) (.type "list")
  | frz {a : Addr} {o : Obj} {xs : List V} (e : H a = some (.frz o (.lst xs))) : TyOf K H (.ref a) (.type "list")
  | tup {a : Addr} {xs : List V} (e : H a = some (.tup xs)) : TyOf K H (.ref a) (.type "tuple")
  | dK {a : Addr} {kvs : List (Key × V)} (e : H a = some (.dK kvs)) : TyOf K H (.ref a) (.type "dict")
  | dT {a : Addr} {kvs : List (List Key × V)} (e : H a = some (.dT kvs)) : TyOf K H (.ref a) (.type "dict")
  | ins {a C dx : Addr} {fs : List (Str × V)} (e : H a = some (.ins C dx fs)) (cl : Cls K C) (ha : PySem.W.findIn K (.ref C) "__class__" = some (some (.builtin "object.__class__")))
      (hn : PySem.W.specialIn K (.builtin "object.__class__") "__get__" = some (some (.builtin "getset_descriptor.__get__"))) (htk : PySem.W.takesIn K (.builtin "object.__class__") = some true)
      (hm : PySem.W.mroIn K C (.type "object") = some true) : TyOf K H (.ref a) (.ref C)
theorem isinst_ok {x : V} {u t : Value} (I : Inv X pins σ H s) (rx : RelV x u) (ty : TyOf X.K H x t) (e : PySem.W.kitOne X.K t c = some b) (h : ∀ tk, Q (.bool b) { s with toks := tk }) :
    wpAny (model X.prog X.w) A (call (.builtin "isinstance") [u, c]) Q E s := by
  cases ty with
  | non => cases (show u = Value.none from rx); exact PySem.W.kia_one PySem.W.kitx_none I.kIn True.intro e (fun z => nomatch z) h
  | bl y => cases (show u = Value.bool y from rx); exact PySem.W.kia_one PySem.W.kitx_bool I.kIn True.intro e (fun z => nomatch z) h
  | int i => obtain ⟨t, q⟩ := (show ∃ t, u = Value.int i t from rx); cases q; exact PySem.W.kia_one PySem.W.kitx_int I.kIn True.intro e (fun z => nomatch z) h
  | str y => obtain ⟨t, q⟩ := (show ∃ t, u = Value.str y t from rx); cases q; exact PySem.W.kia_one PySem.W.kitx_str I.kIn True.intro e (fun z => nomatch z) h
  | flt y => obtain ⟨t, q⟩ := (show ∃ t, u = Value.float y t from rx); cases q; exact PySem.W.kia_one PySem.W.kitx_float I.kIn True.intro e (fun z => nomatch z) h
  | @lst a xs ea =>
    cases (show u = Value.ref a from rx)
    obtain ⟨_, _, n, _, h1⟩ := (show ObjOk X.prog X.w H s.heap a (.lst xs) from I.hok a _ ea)
    exact PySem.W.kia_one PySem.W.kitx_list I.kIn ⟨_, h1, rfl⟩ e (fun z => nomatch z) h
  | @frz a ob xs ea =>
    cases (show u = Value.ref a from rx)
    obtain ⟨_, _, _, n, _, h1⟩ := (show ObjOk X.prog X.w H s.heap a (.frz ob (.lst xs)) from I.hok a _ ea)
    exact PySem.W.kia_one PySem.W.kitx_list I.kIn ⟨_, h1, rfl⟩ e (fun z => nomatch z) h
  | @tup a xs ea =>
    cases (show u = Value.ref a from rx)
    obtain ⟨_, _, _, p⟩ := (show ObjOk X.prog X.w H s.heap a (.tup xs) from I.hok a _ ea)
    obtain ⟨o, h1, h2, _⟩ := p
    exact PySem.W.kia_one PySem.W.kitx_tuple I.kIn ⟨o, h1, h2⟩ e (fun z => nomatch z) h
  | @dK a kvs ea =>
    cases (show u = Value.ref a from rx)
    obtain ⟨_, _, vs, _, p⟩ := (show ObjOk X.prog X.w H s.heap a (.dK kvs) from I.hok a _ ea)
    obtain ⟨o, es, ep, h1, h2, _⟩ := p
    exact PySem.W.kia_one PySem.W.kitx_dict I.kIn ⟨o, h1, h2.1⟩ e (fun z => nomatch z) h
  | @dT a kvs ea =>
    cases (show u = Value.ref a from rx)
    obtain ⟨_, _, xs, _, o, es, ep, h1, h2, _⟩ := (show ObjOk X.prog X.w H s.heap a (.dT kvs) from I.hok a _ ea)
    exact PySem.W.kia_one PySem.W.kitx_dict I.kIn ⟨o, h1, h2.1⟩ e (fun z => nomatch z) h
  | @ins a C dx fs ea cl ha hn htk hm =>
    cases (show u = Value.ref a from rx)
    obtain ⟨mA, O, _⟩ := ins_get I.hok ea
    obtain ⟨od, J, _⟩ := O.look
    exact PySem.W.kia_one (PySem.W.kitx_own (cl.get _) cl.hd ha hn htk hm) I.kIn J e (fun z => nomatch z) h
end
end L2
namespace L2
open PySem PySem.Spec PyProof.Rows
structure Room (k : Nat) (A : Around) : Prop where
  hd : A.handled = none
  dp : A.depth + 3 * k + 5 < recursionLimit
  un : A.units + 16 * k + 200 < cLine
theorem Room.mono {j k : Nat} {A : Around} (r : Room k A) (h : j ≤ k) : Room j A := ⟨r.hd, by have := r.dp; omega, by have := r.un; omega⟩
theorem Room.deeper {k : Nat} {A : Around} (r : Room (k + 1) A) (env : Env) : Room k (A.deeper env) :=
  ⟨r.hd, by have := r.dp; show A.depth + 1 + 3 * k + 5 < _; omega, by have := r.un; show A.units + 3 + 16 * k + 200 < _; omega⟩
theorem Room.in1 {k : Nat} {A : Around} (r : Room (k + 1) A) : Room k A.in1 :=
  ⟨r.hd, by have := r.dp; show A.depth + 3 * k + 5 < _; omega, by have := r.un; show A.units + 1 + 16 * k + 200 < _; omega⟩
theorem Room.depth {k : Nat} {A : Around} (r : Room k A) : A.depth < recursionLimit := by have := r.dp; omega
theorem Room.units {k : Nat} {A : Around} (r : Room k A) : A.units + 64 < cLine := by have := r.un; omega
def tNil : TA := fun _ H Q => Q [] H
def tCons (ta : TE) (tr : TA) : TA := fun σ H Q => ta σ H fun x H1 => tr σ H1 fun xs H2 => Q (x :: xs) H2
section
variable {X : Cx} {e : Expr} {es : List Expr} {te : TE} {t : TA} {pos : Pos}
theorem pa_nil : PA X [] tNil := fun _ _ _ _ H Q I h => Calls.spliced_nil ⟨[], H, I, .nil, h⟩
theorem pa_cons (ha : PE X e te) (hr : PA X es t) (hs : starEach (e :: es) X.env = (false, eval e X.env) :: starEach es X.env := by rfl) : PA X (e :: es) (tCons te t) := by
  intro pos pins s σ H Q I h
  rw [hs]
  show wpAny _ _ (spliced ((false, eval e X.env) :: backTo pos (starEach es X.env))) _ _ s
  refine Calls.spliced_cons (thn (ha pins s σ H _ I h) fun u s1 ⟨x, H1, I1, r1, q1⟩ => ?_)
  exact thn (hr pos pins s1 σ H1 _ I1 q1) fun us s2 ⟨xs, H2, I2, r2, q2⟩ => ⟨x :: xs, H2, I2, .cons r1 r2, q2⟩
def tTup (t : TA) : TE := fun σ H Q => t σ H fun xs H1 => xs.length ≤ sizeLine ∧ ∀ p, H1 p = none → Q (.ref p) (upd H1 p (.tup xs))
def tLst (t : TA) : TE := fun σ H Q => t σ H fun xs H1 => xs.length ≤ sizeLine ∧ ∀ p, H1 p = none → Q (.ref p) (upd H1 p (.lst xs))
theorem pe_tup {x1} (h : PA X es t) : PE X (.Tuple es x1 pos) (tTup t) := by
  intro pins s σ H Q I hq
  refine wpAny_Tuple_spliced (thn (h pos pins s σ H _ I hq) fun us s1 ⟨xs, H1, I1, r, z, q⟩ => ⟨by rw [← r.length]; exact z, ?_⟩)
  have hf : H1 s1.heap.objs.size = none := I1.hok.fresh (Nat.le_refl _)
  refine ⟨.ref s1.heap.objs.size, upd H1 s1.heap.objs.size (.tup xs), I1.laid (t' := s1.toks) (fun b u e => Heap.get?_push_of_some _ e) (Nat.le_refl _) ?_, rfl, q _ hf⟩
  exact ⟨z, us, r, ⟨_, Heap.get?_push_size _ rfl, rfl, _, rfl⟩⟩
theorem pe_lst (h : PA X es t) : PE X (.List es pos) (tLst t) := by
  intro pins s σ H Q I hq
  refine wpAny_List_spliced (thn (h pos pins s σ H _ I hq) fun us s1 ⟨xs, H1, I1, r, z, q⟩ => ⟨by rw [← r.length]; exact z, ?_⟩)
  have hf : H1 s1.heap.objs.size = none := I1.hok.fresh (Nat.le_refl _)
  refine ⟨.ref s1.heap.objs.size, upd H1 s1.heap.objs.size (.lst xs), I1.laid (t' := s1.toks) (fun b u e => Heap.get?_push_of_some _ e) (Nat.le_refl _) ?_, rfl, q _ hf⟩
  exact ⟨z, us, 0, r, Heap.get?_push_size _ rfl⟩
end
abbrev Sp := List V → Hp → VK → XK → Prop
abbrev CXT := List Env → Hp → Shared → XK → Value → Shared → Prop
structure Env0 (P : Program) (w : World) (K : PySem.W.Frag) (mg : Str → Option Value) (base : Heap) (A : Around) (outer : List Env) (s : Shared) (H : Hp) : Prop where
  frames : A.frames = some outer
  mod : Mod K mg base
  bs : ∀ b o, base.get? b = some o → s.heap.get? b = some o ∧ H b = none
  bsz : base.objs.size ≤ s.heap.objs.size
  funs : s.heap.FunFrames base outer
  frf : ∀ b ∈ frs outer, H b = none
  hok : HOk P w H s.heap
  bare : AllBare s.gens
def CE (outer : List Env) (P : Program) (w : World) (H : Hp) (s : Shared) (Q : VK) (u : Value) (s' : Shared) : Prop :=
  ∃ v H', s'.os = s.os ∧ AllBare s'.gens ∧ Un (frs outer) [] H H' s.heap s'.heap ∧ HOk P w H' s'.heap ∧ RelV v u ∧ Q v H'
def CR (CX : CXT) (outer : List Env) (P : Program) (w : World) (H : Hp) (s : Shared) (Q : VK) (E : XK) (r : Result) (s' : Shared) : Prop :=
  match r with
  | .ok (.ret u) => CE outer P w H s Q u s'
  | .ok _ => False
  | .error e => CX outer H s E e s'
structure FnOk (P : Program) (w : World) (K : PySem.W.Frag) (mg : Str → Option Value) (base : Heap) (CX : CXT) (k : Nat) (f : Addr) (fd : FuncData) (ps : List Str) (sp : Sp) : Prop where
  len : ∀ vs H Q E, sp vs H Q E → vs.length = ps.length
  run : ∀ (A : Around) (outer : List Env) (s : Shared) (H : Hp) (args : Args) (us : List Value) (vs : List V) (Q : VK) (E : XK), Room k A → Env0 P w K mg base A outer s H → BindsTo s fd args (ps.zip us) → Vals vs us → sp vs H Q E →
    codeAny (model P w) A (.call (.ref f) args) (CR CX outer P w H s Q E) s
theorem Env0.in1 {P : Program} {w : World} {K : PySem.W.Frag} {mg : Str → Option Value} {base : Heap} {A : Around} {outer : List Env} {s : Shared} {H : Hp} (e : Env0 P w K mg base A outer s H) :
    Env0 P w K mg base A.in1 outer s H := ⟨e.frames, e.mod, e.bs, e.bsz, e.funs, e.frf, e.hok, e.bare⟩
section
variable {X : Cx} {pins : List (Addr × Obj)} {σ : St} {H : Hp} {s s' : Shared}
theorem Inv.env0 (I : Inv X pins σ H s) : Env0 X.prog X.w X.K X.mg X.base X.A X.stack s H :=
  ⟨I.ok.frames, I.ok.mod, I.bs, Nat.le_trans I.ok.bsz I.sz, I.stack, I.stkFree, I.hok, I.bare⟩
theorem Inv.after {Q : VK} {u : Value} (I : Inv X pins σ H s) (h : CE X.stack X.prog X.w H s Q u s') : EP X pins σ Q u s' := by
  obtain ⟨v, H', os, bare, un, hok, r, q⟩ := h
  obtain ⟨hh, g, d, t, os'⟩ := s'
  obtain rfl : os' = s.os := os
  exact ⟨v, H', I.call (h' := hh) (g' := g) (d' := d) (t' := t) (ch := []) un hok bare (fun b z => absurd z (by simp)), r, q⟩
end
def tCall (sp : Sp) (dvs : List V) (E : XK) (t : TA) : TE := fun σ H Q => t σ H fun vs H1 => sp (vs ++ dvs) H1 Q E
def tMeth (C : Addr) (m : Str) (sp : Sp) (dvs : List V) (E : XK) (ta : TE) (t : TA) : TE := fun σ H Q => ta σ H fun x H1 => ∃ a dx fs, x = .ref a ∧ H1 a = some (.ins C dx fs) ∧ fs.lookup m = none ∧
  t σ H1 fun vs H2 => sp (x :: (vs ++ dvs)) H2 Q E
def tMake (C : Addr) (sp : Sp) (dvs : List V) (E : XK) (t : TA) : TE := fun σ H Q => t σ H fun vs H1 => ∀ x dx, H1 x = none → H1 dx = none → dx ≠ x →
  sp (.ref x :: (vs ++ dvs)) (upd (upd H1 dx (.own x)) x (.ins C dx [])) (fun v H2 => v = .non ∧ Q (.ref x) H2) E
def Binds (K : PySem.W.Frag) (fd : FuncData) (ps : List Str) (ds : List Value) : Prop :=
  ∀ (s : Shared) (us : List Value), K.In s.heap → (us ++ ds).length = ps.length → BindsTo s fd ⟨us, []⟩ (ps.zip (us ++ ds))
theorem Binds.all {K : PySem.W.Frag} {fd : FuncData} {ps : List Str} (h : ∀ us : List Value, us.length = ps.length → bindArgs fd ⟨us, []⟩ = pure (ps.zip us)) : Binds K fd ps [] := fun s us _ hl => by
  rw [List.append_nil] at hl ⊢
  exact .of_eq (h us hl)
def Passes (CX : CXT) (X : Cx) (E : XK) : Prop := ∀ (pins : List (Addr × Obj)) (σ : St) (H : Hp) (s : Shared) (e : Value) (s' : Shared), Inv X pins σ H s → CX X.stack H s E e s' → X.xe e s'
section
variable {X : Cx} {CX : CXT} {k : Nat} {f C : Addr} {fd : FuncData} {ps : List Str} {sp : Sp} {dvs : List V} {ds : List Value} {E : XK} {x m : Str} {p pos apos : Pos} {e o : Expr} {es : List Expr} {ta : TE} {t : TA}
theorem run_fn {pins : List (Addr × Obj)} {σ : St} {H : Hp} {s : Shared} {Q : VK} {us : List Value} {vs : List V} (F : FnOk X.prog X.w X.K X.mg X.base CX k f fd ps sp) (hr : Room k X.A) (hb : Binds X.K fd ps ds) (hd : Vals dvs ds) (hx : Passes CX X E)
    (I : Inv X pins σ H s) (r : Vals vs us) (h : sp (vs ++ dvs) H Q E) : wpAny (model X.prog X.w) X.A (call (.ref f) us) (EP X pins σ Q) X.xe s := by
  have r2 : Vals (vs ++ dvs) (us ++ ds) := r.append hd
  have hl : (us ++ ds).length = ps.length := by rw [← r2.length]; exact F.len _ _ _ _ h
  refine wpAny_call (codeAny_mono (F.run X.A X.stack s H ⟨us, []⟩ (us ++ ds) (vs ++ dvs) Q E hr I.env0 (hb s us I.kIn hl) r2 h) fun r s' hq => ?_)
  cases r with
  | error e => exact hx pins σ H s e s' I hq
  | ok fl =>
    cases fl with
    | ret u => exact I.after hq
    | next => exact False.elim hq
    | brk => exact False.elim hq
    | cont => exact False.elim hq
theorem pe_call (F : FnOk X.prog X.w X.K X.mg X.base CX k f fd ps sp) (hr : Room k X.A) (hg : Gl X x) (hm : X.mg x = some (.ref f)) (hk : PySem.W.keepIn X.K (.ref f) = true) (hb : Binds X.K fd ps ds) (hd : Vals dvs ds) (hx : Passes CX X E)
    (ha : PA X (e :: es) t) (hdb : (x == ("__debug__" : Str)) = false := by decide) (he : starEach (e :: es) X.env = (false, eval e X.env) :: starEach es X.env := by rfl) (hpl : (backTo pos (starEach es X.env)).any (·.1) = false := by rfl) :
    PE X (.Call (.Name x p) (e :: es) [] pos) (tCall sp dvs E t) := by
  intro pins s σ H Q I h
  refine wpAny_Call_Name_kw (ld_glob I hg hm ?_ hdb)
  refine PySem.W.callWith_K (h₀ := X.base) I.ok.mod.kin hk (thn (ha pos pins s σ H _ I h) fun us s1 ⟨vs, H1, I1, r, q⟩ => ⟨I1.kIn, ?_⟩) he hpl
  exact run_fn F hr hb hd hx I1 r q
end
section
variable {X : Cx} {CX : CXT} {k : Nat} {f C : Addr} {fd : FuncData} {ps ks : List Str} {sp : Sp} {E : XK} {x m : Str} {p pos apos kpos : Pos} {e o : Expr} {es : List Expr} {kws : List Keyword} {te ta : TE} {t tk : TA} {nm : Option Str}
variable {g : List Value → List Value → List Value} {gV : List V → List V → List V}
end
structure FnScope (N P : List Str) (sc : Scope) : Prop where
  kind : sc.kind = .function
  co : sc.isCoroutine = false
  gen : sc.isGenerator = false
  nd : N.Nodup
  pre : N.take P.length = P
  par : ∀ x ∈ P, sc.names.lookup x = some .local ∨ sc.names.lookup x = some .cell
  nofree : ∀ y ∈ sc.names, y.2 ≠ .free
theorem bindL_out {kindOf : Str → Option NameKind} {x : Str} : ∀ {binds : List (Str × Value)} {m : Str → Option Value}, (∀ v, (x, v) ∉ binds) → bindL kindOf binds m x = m x
  | [], _, _ => rfl
  | (n, v) :: r, m, h => by
    unfold bindL
    rw [bindL_out fun w hw => h w (List.mem_cons_of_mem _ hw)]
    split
    · have : x ≠ n := by rintro rfl; exact h v List.mem_cons_self
      simp [this]
    · rfl
theorem bindC_out {kindOf : Str → Option NameKind} {x : Str} : ∀ {binds : List (Str × Value)} {m : Str → Option Value}, (∀ v, (x, v) ∉ binds) → bindC kindOf binds m x = m x
  | [], _, _ => rfl
  | (n, v) :: r, m, h => by
    unfold bindC
    rw [bindC_out fun w hw => h w (List.mem_cons_of_mem _ hw)]
    split
    · rfl
    · have : x ≠ n := by rintro rfl; exact h v List.mem_cons_self
      simp [this]
theorem bindL_get {kindOf : Str → Option NameKind} {x : Str} {v : Value} : ∀ {P : List Str} {vs : List Value} {i : Nat} {m : Str → Option Value}, P.Nodup → P[i]? = some x → vs[i]? = some v → kindOf x = some .local →
    bindL kindOf (P.zip vs) m x = some v
  | [], _, _, _, _, h, _, _ => by simp at h
  | _ :: _, [], _, _, _, _, h, _ => by simp at h
  | p :: P, w :: vs, 0, m, nd, h1, h2, hk => by
    simp at h1 h2; subst h1; subst h2
    show bindL kindOf ((p, w) :: P.zip vs) m p = _
    unfold bindL
    rw [bindL_out fun v hv => (List.nodup_cons.mp nd).1 (List.of_mem_zip hv).1, if_pos hk]
    simp
  | p :: P, w :: vs, i + 1, m, nd, h1, h2, hk => by
    show bindL kindOf ((p, w) :: P.zip vs) m x = _
    unfold bindL
    exact bindL_get (i := i) (List.nodup_cons.mp nd).2 (by simpa using h1) (by simpa using h2) hk
theorem bindC_get {kindOf : Str → Option NameKind} {x : Str} {v : Value} : ∀ {P : List Str} {vs : List Value} {i : Nat} {m : Str → Option Value}, P.Nodup → P[i]? = some x → vs[i]? = some v → kindOf x ≠ some .local →
    bindC kindOf (P.zip vs) m x = some v
  | [], _, _, _, _, h, _, _ => by simp at h
  | _ :: _, [], _, _, _, _, h, _ => by simp at h
  | p :: P, w :: vs, 0, m, nd, h1, h2, hk => by
    simp at h1 h2; subst h1; subst h2
    show bindC kindOf ((p, w) :: P.zip vs) m p = _
    unfold bindC
    rw [bindC_out fun v hv => (List.nodup_cons.mp nd).1 (List.of_mem_zip hv).1, if_neg hk]
    simp
  | p :: P, w :: vs, i + 1, m, nd, h1, h2, hk => by
    show bindC kindOf ((p, w) :: P.zip vs) m x = _
    unfold bindC
    exact bindC_get (i := i) (List.nodup_cons.mp nd).2 (by simpa using h1) (by simpa using h2) hk
def start (N : List Str) (vs : List V) : St := vs.map some ++ List.replicate (N.length - vs.length) none
def cxOf (CX : CXT) (P : Program) (w : World) (K : PySem.W.Frag) (mg : Str → Option Value) (base : Heap) (N : List Str) (qual : Str) (scope : Scope) (f : Addr) (cd : Value) (A : Around) (outer : List Env) (s : Shared) (H : Hp) (E : XK) : Cx where
  prog := P
  w := w
  K := K
  mg := mg
  base := base
  A := A.deeper (envOfC qual scope s.heap.objs.size f cd)
  N := N
  s₀ := s
  H₀ := H
  env := envOfC qual scope s.heap.objs.size f cd
  outer := outer
  stack := envOfC qual scope s.heap.objs.size f cd :: outer
  ex := []
  calm := true
  fn := fun _ => true
  pn := []
  xe := fun e s' => wpAny (model P w) (A.deeper (envOfC qual scope s.heap.objs.size f cd)) (leaving (envOfC qual scope s.heap.objs.size f cd) e) (fun _ s'' => CX outer H s E e s'') (fun e' s'' => CX outer H s E e' s'') s'
theorem cell_has {sc : Scope} {n : Nat} {x : Str} (h : sc.names.lookup x = some .cell) : ∃ c, (cellsFrom n sc.names []).lookup x = some c := by
  have q := PySem.W.cellsFrom_some sc.names n [] (.inl h)
  exact Option.isSome_iff_exists.mp q
theorem inv_start {CX : CXT} {P : Program} {w : World} {K : PySem.W.Frag} {mg : Str → Option Value} {base : Heap} {N ps : List Str} {qual : Str} {scope : Scope} {f : Addr} {cd : Value} {A : Around} {outer : List Env} {s s1 : Shared} {H : Hp} {E : XK} {us : List Value} {vs : List V}
    (S : FnScope N ps scope) (hd : A.handled = none) (e0 : Env0 P w K mg base A outer s H) (hl : vs.length = ps.length) (r : Vals vs us)
    (x : InCallC s s.heap.objs.size (bindL (envOfC qual scope s.heap.objs.size f cd).kindOf (ps.zip us) fun _ => none) (cellsFrom (s.heap.objs.size + 1) scope.names []) (bindC (envOfC qual scope s.heap.objs.size f cd).kindOf (ps.zip us) fun _ => none) s1) :
    Inv (cxOf CX P w K mg base N qual scope f cd A outer s H E) [] (start N vs) H s1 := by
  have hpl : ps.length ≤ N.length := by have := congrArg List.length S.pre; rw [List.length_take] at this; omega
  obtain ⟨h1, tk, rfl, hk⟩ := x.done
  have noA : ∀ b : Addr, b ∉ (cxOf CX P w K mg base N qual scope f cd A outer s H E).ex := fun b z => absurd (show b ∈ ([] : List Addr) from z) (by simp)
  refine ⟨⟨e0.mod, S.kind, rfl, rfl, Nat.le_refl _, fun y z c h1 h2 => ?_, fun y hy => ?_, fun y c _ h => ?_, fun _ => hd, Around.frames_deeper e0.frames, .inr ⟨rfl, rfl⟩, fun b z => absurd z (noA b), e0.bs, e0.bsz, fun b _ _ => noA b, fun b z => absurd z (noA b), e0.funs, e0.frf⟩,
    rfl, e0.bare, Un.kept hk, ⟨_, x.toInCall.ns, fun i y v h1 h2 h3 => ?_⟩, fun y c h => ⟨_, x.cell y c h⟩, e0.hok.fresh (Nat.le_refl _), fun y c h => ?_, fun p hp => absurd (show p ∈ ([] : List (Addr × Obj)) from hp) (by simp), e0.hok.kept hk, ?_⟩
  · exact name_of_addr x.apart (PySem.mem_of_lookup h1) (PySem.mem_of_lookup h2)
  · have hy : scope.names.lookup y = some .cell ∨ scope.names.lookup y = some .free := hy
    rcases hy with hy | hy
    · exact cell_has hy
    · exact absurd rfl (S.nofree _ (PySem.mem_of_lookup hy))
  · exact Nat.le_of_lt (x.above y c (PySem.mem_of_lookup h))
  · have hi : i < vs.length := by
      unfold start at h2
      by_cases hi : i < vs.length
      · exact hi
      · rw [List.getElem?_append_right (by simpa using hi)] at h2
        rw [List.getElem?_replicate] at h2
        split at h2 <;> cases h2
    have ha : vs[i]? = some v := by
      unfold start at h2
      rw [List.getElem?_append_left (by simpa using hi), List.getElem?_map] at h2
      cases e : vs[i]? with
      | none => rw [e] at h2; cases h2
      | some a => rw [e] at h2; cases h2; rfl
    obtain ⟨u, hu, rv⟩ := r.get ha
    have hp : ps[i]? = some y := by
      rw [← S.pre, List.getElem?_take_of_lt (by omega)]; exact h1
    have ndP : ps.Nodup := by rw [← S.pre]; exact S.nd.sublist (List.take_sublist _ _)
    refine ⟨u, rv, ?_⟩
    rcases S.par y (List.mem_of_getElem? hp) with k | k
    · exact .inl ⟨k, bindL_get ndP hp hu k⟩
    · obtain ⟨c, e⟩ := cell_has (n := s.heap.objs.size + 1) k
      refine .inr ⟨.inl k, c, e, ?_⟩
      have q := x.cell y c e
      rw [bindC_get ndP hp hu (by show scope.names.lookup y ≠ _; rw [k]; decide)] at q
      exact q
  · exact e0.hok.fresh (Nat.le_of_lt (x.above y c (PySem.mem_of_lookup h)))
  · unfold start
    show _ = N.length
    rw [List.length_append, List.length_map, List.length_replicate]
    omega
theorem fn_of {CX : CXT} {P : Program} {w : World} {K : PySem.W.Frag} {mg : Str → Option Value} {base : Heap} {k : Nat} {f : Addr} {name qual : Str} {params : Arguments} {body : List Stmt} {scope : Scope} {dV kV doc pm cdv ct oc : Value} {an od : Option Addr}
    {osl : Array (Option Value)} {N ps : List Str} {sp : Sp} (lk : K.lookup f = some ⟨oc, od, .func (PySem.W.fnOf name qual params body scope dV kV doc pm an cdv ct), osl⟩) (hcd : PySem.W.codeIn K cdv qual = true) (S : FnScope N ps scope)
    (len : ∀ vs H Q E, sp vs H Q E → vs.length = ps.length)
    (hbody : ∀ (A : Around) (outer : List Env) (s : Shared) (H : Hp) (vs : List V) (Q : VK) (E : XK), Room k (A.deeper (envOfC qual scope s.heap.objs.size f cdv)) → sp vs H Q E →
      ∃ t, PSs (cxOf CX P w K mg base N qual scope f cdv A outer s H E) body t ∧ t { nx := fun _ H' => Q .non H', rt := Q } (start N vs) H) :
    FnOk P w K mg base CX (k + 1) f (PySem.W.fnOf name qual params body scope dV kV doc pm an cdv ct) ps sp := by
  refine ⟨len, fun A outer s H args us vs Q E hr e0 hb r hsp => ?_⟩
  have hl := len _ _ _ _ hsp
  have KX : K.In s.heap := e0.mod.kin.keeps fun b o e => (e0.bs b o e).1
  have lim : s.heap.NoLimit := e0.mod.nolimit.keeps fun b o e => (e0.bs b o e).1
  have hkind : ∀ y ∈ ps.zip us, scope.names.lookup y.1 = some .local ∨ (scope.names.lookup y.1 = some .cell ∧ ((cellsFrom (s.heap.objs.size + 1) scope.names []).lookup y.1).isSome = true) := fun ⟨n, v⟩ hy => by
    rcases S.par n (List.of_mem_zip hy).1 with q | q
    · exact .inl q
    · exact .inr ⟨q, PySem.W.cellsFrom_some _ _ _ (.inl q)⟩
  refine codeAny_call_function hr.depth (KX _ _ lk) rfl S.co S.gen rfl (PySem.W.codeRec_of KX hcd) (hb _ _ _ _ ?_)
  refine wpAny_newFunctionEnv_cells S.kind hkind fun env he s1 x => ?_
  subst he
  refine ⟨lim.keeps x.toInCall.keep, codeAny_func ?_⟩
  obtain ⟨t, ht, hq⟩ := hbody A outer s H vs Q E (hr.deeper _) hsp
  have I : Inv (cxOf CX P w K mg base N qual scope f cdv A outer s H E) [] (start N vs) H s1 := inv_start S hr.hd e0 hl r x
  refine wpAny_mono (ht [] s1 (start N vs) H _ I hq) (fun fl s' hs => ?_) fun e s' hs => hs
  have fin : ∀ {σ' : St} {H' : Hp} {v : V} {u : Value}, Inv (cxOf CX P w K mg base N qual scope f cdv A outer s H E) [] σ' H' s' → RelV v u → Q v H' → CE outer P w H s Q u s' :=
    fun {σ' H' v u} J rv q => ⟨v, H', J.os, J.bare, J.base, J.hok, rv, q⟩
  cases fl with
  | ret u =>
    obtain ⟨v, σ', H', J, rv, q⟩ := hs
    exact fin J rv q
  | next =>
    obtain ⟨σ', H', J, q⟩ := hs
    exact fin (v := V.non) (u := Value.none) J rfl q
  | brk =>
    obtain ⟨_, _, _, q⟩ := hs
    exact False.elim q
  | cont =>
    obtain ⟨_, _, _, q⟩ := hs
    exact False.elim q
end L2
namespace L2
open PySem PySem.Spec PyProof.Rows
section
variable {X : Cx} {x : Str} {p pos : Pos} {e : Expr} {es : List Expr} {t : TA} {id T : String} {r : List V → Hp → VK → Prop}
def tCB (r : List V → Hp → VK → Prop) (t : TA) : TE := fun σ H Q => t σ H fun vs H1 => r vs H1 Q
theorem pe_callB (hc : CallR X (.builtin id) r) (hg : Gl X x) (hm : X.mg x = none) (hv : bootBuiltins x = some (.builtin id)) (ha : PA X (e :: es) t) (hn : x ≠ "__name__" := by decide) (hdb : (x == ("__debug__" : Str)) = false := by decide)
    (he : starEach (e :: es) X.env = (false, eval e X.env) :: starEach es X.env := by rfl) (hpl : (backTo pos (starEach es X.env)).any (·.1) = false := by rfl) : PE X (.Call (.Name x p) (e :: es) [] pos) (tCB r t) := by
  intro pins s σ H Q I h
  refine wpAny_Call_Name_kw (ld_blt I hg hm hv ?_ hn hdb)
  exact PyProof.Rows.callWith_builtin1 (thn (ha pos pins s σ H _ I h) fun us s1 ⟨vs, H1, I1, r1, q1⟩ => hc pins s1 σ H1 vs us Q I1 r1 q1) he hpl
theorem pe_callTy (hc : CallR X (.type T) r) (hg : Gl X x) (hm : X.mg x = none) (hv : bootBuiltins x = some (.type T)) (ha : PA X (e :: es) t) (hn : x ≠ "__name__" := by decide) (hdb : (x == ("__debug__" : Str)) = false := by decide)
    (he : starEach (e :: es) X.env = (false, eval e X.env) :: starEach es X.env := by rfl) (hpl : (backTo pos (starEach es X.env)).any (·.1) = false := by rfl) : PE X (.Call (.Name x p) (e :: es) [] pos) (tCB r t) := by
  intro pins s σ H Q I h
  refine wpAny_Call_Name_kw (ld_blt I hg hm hv ?_ hn hdb)
  exact PyProof.Rows.callWith_type1 (thn (ha pos pins s σ H _ I h) fun us s1 ⟨vs, H1, I1, r1, q1⟩ => hc pins s1 σ H1 vs us Q I1 r1 q1) he hpl
end
end L2
namespace HT
open PySem PyProof.Rows
section
open PySem.SeqAt
open PySem.AutoSeq1 (wpAny_loadPart')
open PySem.MeetsSeq PySem.MeetsSeq2 PySem.MeetsSeq3
end
section
variable {prog : Program} {w : World} {A : Around} {E : Value → Shared → Prop} {s : Shared}
def sIx (n d : Nat) : Option Int → Nat
  | none => d
  | some v => if v < 0 then (v + (n : Int)).toNat else min v.toNat n
theorem sIx_none (n d : Nat) : sIx n d none = d := rfl
theorem sIx_nat (n d k : Nat) : sIx n d (some (k : Int)) = min k n := by
  show (if (k : Int) < 0 then ((k : Int) + (n : Int)).toNat else min (k : Int).toNat n) = min k n
  rw [if_neg (by omega), Int.toNat_natCast]
theorem sIx_le (n d : Nat) (hd : d ≤ n) (o : Option Int) : sIx n d o ≤ n := by
  cases o with
  | none => exact hd
  | some v =>
    show (if v < 0 then (v + (n : Int)).toNat else min v.toNat n) ≤ n
    by_cases hv : v < 0
    · rw [if_pos hv]; omega
    · rw [if_neg hv]; exact Nat.min_le_right _ _
end
end HT
namespace L2
open PySem PySem.Spec PyProof.Rows
abbrev TO := St → Hp → (Option Int → Hp → Prop) → Prop
def PO (X : Cx) (e : Option Expr) (t : TO) : Prop :=
  ∀ (pins : List (Addr × Obj)) (s : Shared) (σ : St) (H : Hp) (Q : Option Int → Hp → Prop), Inv X pins σ H s → t σ H Q →
    wpAny (model X.prog X.w) X.A (evalPart e X.env) (fun u s' => ∃ o H', Inv X pins σ H' s' ∧ IsPart u o ∧ Q o H') X.xe s
def tNoPart : TO := fun _ H Q => Q none H
def tPart (t : TE) : TO := fun σ H Q => t σ H fun x H1 => ∃ i, x = .int i ∧ Q (some i) H1
section
variable {X : Cx} {e : Expr} {te : TE} {lo hi : Option Expr} {tl th : TO} {pos p2 : Pos}
theorem po_none : PO X none tNoPart := by
  intro pins s σ H Q I h
  rw [evalPart_none]
  exact wpAny_pure ⟨none, H, I, .none, h⟩
theorem po_some (h : PE X e te) : PO X (some e) (tPart te) := by
  intro pins s σ H Q I hw
  rw [evalPart_some]
  refine thn (h pins s σ H _ I hw) fun u s1 ⟨x, H1, I1, r1, q1⟩ => ?_
  obtain ⟨i, rfl, q⟩ := q1
  obtain ⟨t, rfl⟩ := r1
  exact ⟨some i, H1, I1, .int i t, q⟩
def SlR (X : Cx) (r : V → Option Int → Option Int → Hp → VK → Prop) : Prop :=
  ∀ (pins : List (Addr × Obj)) (s : Shared) (σ : St) (H : Hp) (x : V) (v vl vu : Value) (lo hi : Option Int) (sl : Addr) (Q : VK), Inv X pins σ H s → RelV x v → s.heap.IsSliceOf sl vl vu .none → IsPart vl lo → IsPart vu hi → r x lo hi H Q →
    ∃ T id, typeLookup (.type T) "__getitem__" = pure (some (.builtin id)) ∧ s.TypeIs v T ∧ wpAny (model X.prog X.w) X.A (getItem v (.ref sl)) (EP X pins σ Q) X.xe s
theorem SlR.or {r r' : V → Option Int → Option Int → Hp → VK → Prop} (h : SlR X r) (h' : SlR X r') : SlR X (fun x lo hi H Q => r x lo hi H Q ∨ r' x lo hi H Q) := by
  intro pins s σ H x v vl vu lo hi sl Q I rx hs pl pu q
  rcases q with q | q
  · exact h pins s σ H x v vl vu lo hi sl Q I rx hs pl pu q
  · exact h' pins s σ H x v vl vu lo hi sl Q I rx hs pl pu q
def tSl (r : V → Option Int → Option Int → Hp → VK → Prop) (te : TE) (tl th : TO) : TE := fun σ H Q => te σ H fun x H1 => tl σ H1 fun l H2 => th σ H2 fun u H3 => r x l u H3 Q
theorem pe_slice {r : V → Option Int → Option Int → Hp → VK → Prop} (hr : SlR X r) (he : PE X e te) (hl : PO X lo tl) (hu : PO X hi th) : PE X (.Subscript e (.Slice lo hi none p2) pos) (tSl r te tl th) := by
  intro pins s σ H Q I h
  refine Subscript_ (thn (he pins s σ H _ I h) fun v s1 ⟨x, H1, I1, r1, q1⟩ => ?_)
  refine wpAny_Slice (thn (hl pins s1 σ H1 _ I1 q1) fun vl s2 ⟨l, H2, I2, pl, q2⟩ => thn (hu pins s2 σ H2 _ I2 q2) fun vu s3 ⟨u, H3, I3, pu, q3⟩ => ?_)
  rw [evalPart_none]
  refine wpAny_pure ?_
  have I4 : Inv X pins σ H3 { s3 with heap := s3.heap.push { cls := .type "slice", data := .fields #[vl, vu, .none] } } := I3.kept (t' := s3.toks) fun b ob q => Heap.get?_push_of_some _ q
  obtain ⟨T, id, hT, ht, hg⟩ := hr pins { s3 with heap := s3.heap.push { cls := .type "slice", data := .fields #[vl, vu, .none] } } σ H3 x v vl vu l u s3.heap.objs.size Q I4 r1 (Heap.IsSliceOf.new ..) pl pu q3
  show wpAny (model X.prog X.w) X.A (subscriptTail e (.Slice lo hi none p2) v (.ref s3.heap.objs.size)) (EP X pins σ Q) X.xe { s3 with heap := s3.heap.push { cls := .type "slice", data := .fields #[vl, vu, .none] } }
  exact tail_any (ops := [.ref s3.heap.objs.size, v]) ht hT hg (by with_unfolding_all rfl)
def cutV (xs : List V) (lo hi : Option Int) : List V := (xs.drop (HT.sIx xs.length 0 lo)).take (HT.sIx xs.length xs.length hi - HT.sIx xs.length 0 lo)
theorem cutV_length (xs : List V) (lo hi : Option Int) : (cutV xs lo hi).length ≤ xs.length := by
  unfold cutV
  rw [List.length_take, List.length_drop]
  omega
end
end L2
namespace L2
open PySem PySem.Spec PyProof.Rows
def ixN (n : Nat) (i : Int) : Option Nat := if 0 ≤ i then (if i < n then some i.toNat else none) else if -(n : Int) ≤ i then some (i + n).toNat else none
def atI {α : Type} (xs : List α) (i : Int) : Option α := (ixN xs.length i).bind fun j => xs[j]?
theorem ixN_seq {n : Nat} {i : Int} {j : Nat} (h : ixN n i = some j) : seqIndex? i n = some j ∧ j < n ∧ -(n : Int) ≤ i ∧ i < n := by
  unfold ixN at h
  by_cases h0 : 0 ≤ i
  · rw [if_pos h0] at h
    by_cases h1 : i < n
    · rw [if_pos h1] at h
      have e : i.toNat = j := Option.some.inj h
      exact ⟨by rw [seqIndex_of h0 h1, e], by omega, by omega, h1⟩
    · rw [if_neg h1] at h; cases h
  · rw [if_neg h0] at h
    by_cases h1 : -(n : Int) ≤ i
    · rw [if_pos h1] at h
      have e : (i + n).toNat = j := Option.some.inj h
      exact ⟨by rw [seqIndex_neg (by omega) h1, e], by omega, h1, by omega⟩
    · rw [if_neg h1] at h; cases h
theorem atI_get {α : Type} {xs : List α} {i : Int} {v : α} (h : atI xs i = some v) : ∃ j, seqIndex? i xs.length = some j ∧ xs[j]? = some v ∧ j < xs.length ∧ -(xs.length : Int) ≤ i ∧ i < xs.length := by
  unfold atI at h
  cases e : ixN xs.length i with
  | none => rw [e] at h; cases h
  | some j =>
    rw [e] at h
    obtain ⟨h1, h2, h3, h4⟩ := ixN_seq e
    exact ⟨j, h1, h, h2, h3, h4⟩
theorem atI_nat {α : Type} {xs : List α} {j : Nat} {v : α} (h : xs[j]? = some v) : atI xs (j : Int) = some v := by
  have hj : j < xs.length := (List.getElem?_eq_some_iff.mp h).1
  have e : ixN xs.length (j : Int) = some j := by
    unfold ixN
    rw [if_pos (by omega), if_pos (by omega)]; simp
  unfold atI; rw [e]; exact h
def PlainIx (b : Expr) : Prop := ∀ o i, subscripted b false o i = operate [o, i] (getItem o i)
def IxR (X : Cx) (r : R2) : Prop :=
  ∀ (value slice : Expr) (pins : List (Addr × Obj)) (s : Shared) (σ : St) (H : Hp) (x y : V) (v u : Value) (Q : VK), Inv X pins σ H s → RelV x v → RelV y u → r x y H Q →
    subscripted slice false v u = operate [v, u] (getItem v u) → wpAny (model X.prog X.w) X.A (subscriptTail value slice v u) (EP X pins σ Q) X.xe s
def MtR (X : Cx) (id : String) (r : V → List V → Hp → VK → Prop) : Prop :=
  ∀ (pins : List (Addr × Obj)) (s : Shared) (σ : St) (H : Hp) (x : V) (xs : List V) (v : Value) (us : List Value) (Q : VK), Inv X pins σ H s → RelV x v → Vals xs us → r x xs H Q →
    wpAny (model X.prog X.w) X.A (call (.builtin id) (v :: us)) (EP X pins σ Q) X.xe s
section
variable {X : Cx} {a b : Expr} {ta tb : TE} {pos : Pos}
theorem IxR.or {r r' : R2} (h : IxR X r) (h' : IxR X r') : IxR X (fun x y H Q => r x y H Q ∨ r' x y H Q) := by
  intro value slice pins s σ H x y v u Q I rx ry q hs
  rcases q with q | q
  · exact h value slice pins s σ H x y v u Q I rx ry q hs
  · exact h' value slice pins s σ H x y v u Q I rx ry q hs
theorem pe_ix {r : R2} (hr : IxR X r) (ha : PE X a ta) (hb : PE X b tb) (hs : PlainIx b) : PE X (.Subscript a b pos) (tOp r ta tb) := by
  intro pins s σ H Q I h
  exact Subscript_ (binT ha hb I h fun v u s2 x y H2 I2 rx ry q => hr a b pins s2 σ H2 x y v u Q I2 rx ry q (hs _ _))
def rIxL (K : PySem.W.Frag) : R2 := fun x y H Q => ∃ p xs i v, x = .ref p ∧ y = .int i ∧ SqL K H p xs ∧ atI xs i = some v ∧ Q v H
def rIxT (K : PySem.W.Frag) : R2 := fun x y H Q => ∃ p xs i v, x = .ref p ∧ y = .int i ∧ SqT K H p xs ∧ atI xs i = some v ∧ Q v H
def rIxS : R2 := fun x y H Q => ∃ z i c, x = .str z ∧ y = .int i ∧ z.length ≤ sizeLine ∧ atI z.cps.toList i = some c ∧ Q (.str ⟨#[c]⟩) H
theorem ix_list : IxR X (rIxL X.K) := by
  intro value slice pins s σ H x y v u Q I rx ry h hs
  obtain ⟨p, xs, i, z, rfl, rfl, hq, he, q⟩ := h
  cases rx
  obtain ⟨t, rfl⟩ := ry
  obtain ⟨its, r, pl, hz⟩ := I.list hq
  obtain ⟨j, h1, h2, h3, h4, h5⟩ := atI_get he
  obtain ⟨w, ew, rw'⟩ := r.get h2
  have hl := r.length
  have hn := line63
  have fin : EP X pins σ Q w s := ⟨z, H, I, rw', q⟩
  by_cases h0 : 0 ≤ i
  · have hj : i.toNat = j := by
      rw [seqIndex_of h0 h5] at h1
      exact Option.some.inj h1
    exact item_listR pl.isList h0 (by omega) (by rw [hj]; simpa using ew) fin hs
  · have hj : (i + (its.toArray.size : Int)).toNat = j := by
      rw [seqIndex_neg (by omega) h4] at h1
      rw [List.size_toArray, ← hl]
      exact Option.some.inj h1
    exact subscriptTail_builtinR (x := w) pl.isList.typeIs slot_list_getitem.lookup
      (wpAny_getItem_list_neg (Q := fun r s' => r = w ∧ EP X pins σ Q r s') pl.isList (by omega) (by rw [List.size_toArray] <;> omega) (by omega) (by rw [hj]; simpa using ew) ⟨rfl, fin⟩) hs
theorem ix_tup : IxR X (rIxT X.K) := by
  intro value slice pins s σ H x y v u Q I rx ry h hs
  obtain ⟨p, xs, i, z, rfl, rfl, hq, he, q⟩ := h
  cases rx
  obtain ⟨t, rfl⟩ := ry
  obtain ⟨its, r, pl, hz⟩ := I.tuple hq
  obtain ⟨j, h1, h2, h3, h4, h5⟩ := atI_get he
  obtain ⟨w, ew, rw'⟩ := r.get h2
  have hl := r.length
  have hn := line63
  have fin : EP X pins σ Q w s := ⟨z, H, I, rw', q⟩
  exact subscriptTail_builtinR (x := w) pl.typeIs slot_tuple_getitem.lookup
    (getItem_tuple (j := j) (Q := fun r s' => r = w ∧ EP X pins σ Q r s') pl (by omega) (by omega) (by rw [List.size_toArray, ← hl]; exact h1) (by simpa using ew) ⟨rfl, fin⟩) hs
theorem ix_str : IxR X rIxS := by
  intro value slice pins s σ H x y v u Q I rx ry h hs
  obtain ⟨z, i, c, rfl, rfl, hz, he, q⟩ := h
  obtain ⟨t, rfl⟩ := rx
  obtain ⟨t', rfl⟩ := ry
  obtain ⟨j, h1, h2, h3, h4, h5⟩ := atI_get he
  have hl : z.cps.toList.length = z.length := by simp [Str.length]
  rw [hl] at h1 h4 h5
  have hn := line63
  exact tail_any (typeIs_str s z t) slot_str_getitem.lookup (getItem_str (c := c) (by
    have e1 : decide (i < -(2 ^ 63 : Int)) = false := decide_eq_false (by omega)
    have e2 : decide (i ≥ 2 ^ 63) = false := decide_eq_false (by omega)
    rw [e1, e2, Bool.or_false]) (by rw [h1]; simpa using h2) ⟨.str ⟨#[c]⟩, H, I.tok _, ⟨_, rfl⟩, q⟩) hs
def rIx (K : PySem.W.Frag) : R2 := fun x y H Q => rIxL K x y H Q ∨ rIxT K x y H Q ∨ rIxS x y H Q
theorem ix_seq : IxR X (rIx X.K) := ix_list.or (ix_tup.or ix_str)
theorem mapSeq_set (its : List Value) (n j : Nat) (u : Value) : Obj.mapSeq (·.setIfInBounds j u) { cls := .type "list", data := .seq its.toArray n } = { cls := .type "list", data := .seq (its.set j u).toArray n } := by
  simp [Obj.mapSeq]
theorem Inv.lst {pins : List (Addr × Obj)} {σ : St} {H : Hp} {s : Shared} {p : Addr} {xs : List V} (I : Inv X pins σ H s) (h : H p = some (.lst xs)) :
    ∃ (its : List Value) (n : Nat), Vals xs its ∧ s.heap.get? p = some { cls := .type "list", data := .seq its.toArray n } ∧ xs.length ≤ sizeLine := by
  obtain ⟨z, its, n, r, e⟩ := I.hok p _ h
  exact ⟨its, n, r, e, z⟩
theorem Inv.lstUpd {pins : List (Addr × Obj)} {σ : St} {H : Hp} {s : Shared} {p : Addr} {xs ys : List V} {its its' : List Value} {n n' : Nat} {f : Obj → Obj} (I : Inv X pins σ H s) (h : H p = some (.lst xs))
    (ho : s.heap.get? p = some { cls := .type "list", data := .seq its.toArray n }) (hf : f { cls := .type "list", data := .seq its.toArray n } = { cls := .type "list", data := .seq its'.toArray n' }) (r : Vals ys its') (hz : ys.length ≤ sizeLine) (t : Nat) :
    Inv X pins σ (upd H p (.lst ys)) { s with heap := s.heap.update p f, toks := t } := by
  have e : (s.heap.update p f).get? p = some { cls := .type "list", data := .seq its'.toArray n' } := by
    rw [Heap.get?_update_self f ho (by rw [hf] <;> rfl), hf]
  refine I.write (x := p) (e := p) (by rw [h]; trivial) (.inl rfl) (fun b u hb q => (Heap.get?_update_other _ _ (Ne.symm hb)).trans q) ⟨_, e⟩ ?_
  exact ⟨hz, its', n', r, e⟩
def rSetL : V → V → V → Hp → (Hp → Prop) → Prop := fun o i v H Q => ∃ p xs k j, o = .ref p ∧ i = .int k ∧ H p = some (.lst xs) ∧ ixN xs.length k = some j ∧ Q (upd H p (.lst (xs.set j v)))
theorem set_list : PSet X rSetL := by
  intro pins s σ H o i v ov iv u Q I ro ri rv h
  obtain ⟨p, xs, k, j, rfl, rfl, hp, hj, q⟩ := h
  cases ro
  obtain ⟨t, rfl⟩ := ri
  obtain ⟨its, n, r, ho, hz⟩ := I.lst hp
  obtain ⟨h1, h2, h3, h4⟩ := ixN_seq hj
  have hl := r.length
  have hn := line63
  have I' : Inv X pins σ (upd H p (.lst (xs.set j v))) { s with heap := s.heap.update p (Obj.mapSeq (·.setIfInBounds j u)) } :=
    I.lstUpd hp ho (mapSeq_set its n j u) (r.set rv j) (by rw [List.length_set]; exact hz) s.toks
  by_cases h0 : 0 ≤ k
  · have hk : k.toNat = j := by
      rw [seqIndex_of h0 h4] at h1
      exact Option.some.inj h1
    exact PySem.W.ki_setAt ho h0 (by omega) (by rw [List.size_toArray, ← hl]; exact h4) (by rw [hk]; exact ⟨_, I', q⟩)
  · have hk : (k + (its.toArray.size : Int)).toNat = j := by
      rw [seqIndex_neg (by omega) h3] at h1
      rw [List.size_toArray, ← hl]
      exact Option.some.inj h1
    exact PySem.W.ki_setBack ho (by omega) (by rw [List.size_toArray, ← hl]; exact h3) (by omega) (by rw [hk]; exact ⟨_, I', q⟩)
theorem slice_bounds (lo hi : Option Int) (n : Nat) : (sliceBounds lo hi none n).1 = ((HT.sIx n 0 lo : Nat) : Int) ∧ (sliceBounds lo hi none n).2.1 = ((HT.sIx n n hi : Nat) : Int) ∧ (sliceBounds lo hi none n).2.2 = 1 := by
  refine ⟨?_, ?_, rfl⟩
  · cases lo with
    | none => simp [sliceBounds, HT.sIx]
    | some i =>
      simp only [sliceBounds, HT.sIx, Option.getD_none, show (1 : Int) > 0 by decide, if_true]
      by_cases h : i < 0
      · simp only [h, if_true] <;> omega
      · simp only [h, if_false] <;> omega
  · cases hi with
    | none => simp [sliceBounds, HT.sIx]
    | some i =>
      simp only [sliceBounds, HT.sIx, Option.getD_none, show (1 : Int) > 0 by decide, if_true]
      by_cases h : i < 0
      · simp only [h, if_true] <;> omega
      · simp only [h, if_false] <;> omega
theorem slicePick_cut (its : List Value) (lo hi : Option Int) : slicePick its.toArray lo hi none = ((its.drop (HT.sIx its.length 0 lo)).take (HT.sIx its.length its.length hi - HT.sIx its.length 0 lo)).toArray := by
  obtain ⟨h1, h2, h3⟩ := slice_bounds lo hi its.toArray.size
  unfold slicePick
  rw [h1, h2, h3]
  simp only [sliceRange_one, pick_run, List.size_toArray] <;> rfl
def rSlL (K : PySem.W.Frag) : V → Option Int → Option Int → Hp → VK → Prop := fun x lo hi H Q => ∃ a xs, x = .ref a ∧ SqL K H a xs ∧ ∀ p, H p = none → Q (.ref p) (upd H p (.lst (cutV xs lo hi)))
theorem sl_list : SlR X (rSlL X.K) := by
  intro pins s σ H x v vl vu lo hi sl Q I rx hs pl pu h
  obtain ⟨a, xs, rfl, hx, q⟩ := h
  cases rx
  obtain ⟨its, r, ht, hz⟩ := I.list hx
  have hlen := r.length
  refine ⟨"list", _, slot_list_getitem.lookup, ht.isList.typeIs, ?_⟩
  refine wpAny_getItem_list_slice ht.isList hs pl pu .none (by simp) ?_ (by rw [List.size_toArray] <;> omega)
  rw [slicePick_cut, ← hlen]
  refine ⟨.ref s.heap.objs.size, _, I.laid (t' := s.toks) (o := .lst (cutV xs lo hi)) (fun b ob q => Heap.get?_push_of_some _ q) (Nat.le_refl _) ?_, rfl, q _ (I.hok.fresh (Nat.le_refl _))⟩
  exact ⟨Nat.le_trans (cutV_length xs lo hi) hz, _, 0, (r.drop (HT.sIx xs.length 0 lo)).take (HT.sIx xs.length xs.length hi - HT.sIx xs.length 0 lo), Heap.get?_push_size _ rfl⟩
def flatV : V → Bool
  | .non => true
  | .bl _ => true
  | .int _ => true
  | .str _ => true
  | _ => false
def eqV : V → V → Bool
  | .non, .non => true
  | .bl a, .bl b => a == b
  | .bl a, .int b => (if a then 1 else 0) == b
  | .int a, .bl b => a == (if b then 1 else 0)
  | .int a, .int b => a == b
  | .str a, .str b => a == b
  | _, _ => false
theorem eqAt_V {A : Around} {s : Shared} {y x : V} {u v : Value} (ry : RelV y u) (rx : RelV x v) (fy : flatV y = true) (fx : flatV x = true) : SeqAt.EqAt A s u v (eqV y x) := by
  cases y with
  | non =>
    cases ry
    cases x with
    | non => cases rx; exact SeqAt.EqAt.same _
    | bl b => cases rx; exact SeqAt.EqAt.none_bool b
    | int b => obtain ⟨t, rfl⟩ := rx; exact SeqAt.EqAt.none_int b t
    | str b => obtain ⟨t, rfl⟩ := rx; exact SeqAt.EqAt.none_str b t
    | _ => exact absurd (show false = true from fx) Bool.false_ne_true
  | bl a =>
    cases ry
    cases x with
    | non => cases rx; exact SeqAt.EqAt.bool_none a
    | bl b => cases rx; exact SeqAt.EqAt.bool_bool a b
    | int b => obtain ⟨t, rfl⟩ := rx; exact SeqAt.EqAt.bool_int a b t
    | str b => obtain ⟨t, rfl⟩ := rx; exact SeqAt.EqAt.bool_str a b t
    | _ => exact absurd (show false = true from fx) Bool.false_ne_true
  | int a =>
    obtain ⟨t', rfl⟩ := ry
    cases x with
    | non => cases rx; exact SeqAt.EqAt.int_none a t'
    | bl b => cases rx; exact SeqAt.EqAt.int_bool a t' b
    | int b => obtain ⟨t, rfl⟩ := rx; exact SeqAt.EqAt.int_int a t' b t
    | str b => obtain ⟨t, rfl⟩ := rx; exact SeqAt.EqAt.int_str a t' b t
    | _ => exact absurd (show false = true from fx) Bool.false_ne_true
  | str a =>
    obtain ⟨t', rfl⟩ := ry
    cases x with
    | non => cases rx; exact SeqAt.EqAt.str_none a t'
    | bl b => cases rx; exact SeqAt.EqAt.str_bool a t' b
    | int b => obtain ⟨t, rfl⟩ := rx; exact SeqAt.EqAt.str_int a t' b t
    | str b => obtain ⟨t, rfl⟩ := rx; exact SeqAt.EqAt.str_str a t' b t
    | _ => exact absurd (show false = true from fx) Bool.false_ne_true
  | _ => exact absurd (show false = true from fy) Bool.false_ne_true
def tyV (K : PySem.W.Frag) (T : String) (x : V) (H : Hp) : Prop := match x with
  | .str _ => T = "str"
  | .int _ => T = "int"
  | .ref p => (T = "list" ∧ ∃ xs, SqL K H p xs) ∨ (T = "tuple" ∧ ∃ o, K.lookup p = some o ∧ o.cls = .type "tuple" ∧ o.dict = none) ∨
      (T = "dict" ∧ ((∃ kvs, H p = some (.dK kvs)) ∨ ∃ kvs, H p = some (.dT kvs))) ∨ (T = "set" ∧ ∃ S n, H p = some (.set S n))
  | _ => False
theorem tyV_is {pins : List (Addr × Obj)} {σ : St} {H : Hp} {s : Shared} {T : String} {x : V} {v : Value} (I : Inv X pins σ H s) (r : RelV x v) (ty : tyV X.K T x H) :
    s.TypeIs v T ∧ ∀ a, v = .ref a → ∃ ob, s.heap.get? a = some ob ∧ ob.dict = none := by
  cases x with
  | str z =>
    obtain ⟨t, rfl⟩ := r
    cases (show T = "str" from ty)
    exact ⟨typeIs_str s z t, fun _ e => nomatch e⟩
  | int i =>
    obtain ⟨t, rfl⟩ := r
    cases (show T = "int" from ty)
    exact ⟨typeIs_int s i t, fun _ e => nomatch e⟩
  | ref p =>
    cases r
    rcases ty with ⟨rfl, xs, hq⟩ | ⟨rfl, o, hk, hc, hd⟩ | ⟨rfl, hk⟩ | ⟨rfl, S, n, hk⟩
    · obtain ⟨its, _, pl, _⟩ := I.list hq
      refine ⟨pl.isList.typeIs, fun a e => ?_⟩
      cases e
      obtain ⟨o, n, e, c, hd, _⟩ := pl
      exact ⟨o, e, hd⟩
    · refine ⟨⟨o, I.kIn p o hk, hc⟩, fun a e => ?_⟩
      cases e
      exact ⟨o, I.kIn _ o hk, hd⟩
    · have z : ∃ o, s.heap.get? p = some o ∧ o.ExactDict := by
        rcases hk with ⟨kvs, hk⟩ | ⟨kvs, hk⟩
        · obtain ⟨_, _, _, _, o, _, _, e, ex, _⟩ := I.hok p _ hk
          exact ⟨o, e, ex⟩
        · obtain ⟨_, _, _, _, o, _, _, e, ex, _⟩ := I.hok p _ hk
          exact ⟨o, e, ex⟩
      obtain ⟨o, e, ex⟩ := z
      refine ⟨⟨o, e, ex.1⟩, fun a e2 => ?_⟩
      cases e2
      exact ⟨o, e, ex.2.1⟩
    · obtain ⟨o, _, _, _, e, ex, _⟩ := I.hok p _ hk
      refine ⟨⟨o, e, ex.1⟩, fun a e2 => ?_⟩
      cases e2
      exact ⟨o, e, ex.2.1⟩
  | _ => exact False.elim ty
def tBM0 (K : PySem.W.Frag) (T : String) (r : V → List V → Hp → VK → Prop) (to : TE) : TE := fun σ H Q => to σ H fun x H1 => tyV K T x H1 ∧ r x [] H1 Q
def tBM (K : PySem.W.Frag) (T : String) (r : V → List V → Hp → VK → Prop) (to : TE) (t : TA) : TE := fun σ H Q => to σ H fun x H1 => tyV K T x H1 ∧ t σ H1 fun xs H2 => r x xs H2 Q
variable {o e : Expr} {es : List Expr} {to : TE} {t : TA} {name : Str} {apos cpos : Pos} {T id : String} {r : V → List V → Hp → VK → Prop}
theorem pe_bm (pa : PlainAttrs T) (slot : Slot T name id) (hty : typeOf (.builtin id) = pure (.type "method_descriptor")) (hm : MtR X id r) (ho : PE X o to) (ha : PA X (e :: es) t)
    (hbase : attributeBase o name X.env (eval o X.env) = eval o X.env := by rfl)
    (hfew : ((backTo cpos (starEach (e :: es) X.env)).all (fun x => !x.1) && (backToKw cpos (keywordEach [] X.env)).all (fun x => x.1.isSome)
      && decide ((e :: es).length + ([] : List Keyword).length + (if ([] : List Keyword).isEmpty then 0 else 1) < 30)) = true := by rfl)
    (hline : (apos.endLine == cpos.line) = true := by rfl) (hs : starEach (e :: es) X.env = (false, eval e X.env) :: starEach es X.env := by rfl) (hplain : (backTo cpos (starEach es X.env)).any (·.1) = false := by rfl) :
    PE X (.Call (.Attribute o name apos) (e :: es) [] cpos) (tBM X.K T r to t) := by
  intro pins s σ H Q I h
  refine wpAny_Call_method_late hbase hfew hline rfl (thn (ho pins s σ H _ I h) fun v s1 ⟨x, H1, I1, r1, ty, q1⟩ => ?_)
  obtain ⟨h1, h2⟩ := tyV_is I1 r1 ty
  refine ⟨T, id, pa, slot, hty, h1, h2, ?_⟩
  have hA := ha cpos pins s1 σ H1 _ I1 q1
  rw [hs] at hA ⊢
  refine Calls.callWith_builtin (by show (false || (backTo cpos (starEach es X.env)).any (·.1)) = false; rw [hplain] <;> rfl) (Calls.evalArgs_plain ?_)
  exact thn hA fun us s2 ⟨vs, H2, I2, r2, q2⟩ => hm pins s2 σ H2 x vs v us Q I2 r1 r2 q2
/- xs.append(e), list.index on a module's tuple .. are MtR facts of 06m -/
end
end L2
namespace L2
open PySem PySem.Spec PyProof.Rows
def MtM (X : Cx) (id : String) (r : V → List V → Hp → VK → Prop) : Prop :=
  ∀ (pins : List (Addr × Obj)) (s : Shared) (σ : St) (H : Hp) (x : V) (xs : List V) (v : Value) (us : List Value) (Q : VK), Inv X pins σ H s → RelV x v → Vals xs us → r x xs H Q →
    wpAny (model X.prog X.w) X.A (call (.builtin id) (v :: us)) (EP X pins σ Q) X.xe s
theorem Vals.one : ∀ {x : V} {us : List Value}, Vals [x] us → ∃ u, us = [u] ∧ RelV x u
  | _, _, .cons r .nil => ⟨_, rfl, r⟩
theorem Vals.two : ∀ {x y : V} {us : List Value}, Vals [x, y] us → ∃ u v, us = [u, v] ∧ RelV x u ∧ RelV y v
  | _, _, _, .cons r (.cons q .nil) => ⟨_, _, rfl, r, q⟩
theorem Vals.zero : ∀ {us : List Value}, Vals [] us → us = []
  | _, .nil => rfl
theorem Vals.dropLast {xs : List V} {us : List Value} (h : Vals xs us) : Vals xs.dropLast us.dropLast := by
  induction h with
  | nil => exact .nil
  | cons r t ih =>
    cases t with
    | nil => exact .nil
    | cons q t' => exact .cons r ih
theorem Vals.reverse {xs : List V} {us : List Value} (h : Vals xs us) : Vals xs.reverse us.reverse := by
  induction h with
  | nil => exact .nil
  | cons r t ih => rw [List.reverse_cons, List.reverse_cons]; exact Vals.append ih (.cons r .nil)
section
variable {X : Cx} {pins : List (Addr × Obj)} {σ : St} {H : Hp} {s : Shared} {l b : Addr} {xs ys zs : List V}
theorem Inv.lset {its its' : List Value} {n : Nat} {f : Array Value → Array Value} {t' : Nat} (I : Inv X pins σ H s) (hH : H l = some (.lst xs))
    (e : s.heap.get? l = some { cls := .type "list", data := .seq its.toArray n }) (hf : f its.toArray = its'.toArray) (hv : Vals ys its') (hz : ys.length ≤ sizeLine) :
    Inv X pins σ (upd H l (.lst ys)) { s with heap := s.heap.update l (Obj.mapSeq f), toks := t' } := by
  have q := PySem.IsL.update e f
  rw [hf] at q
  refine I.write (x := l) (e := l) (by rw [hH]; exact trivial) (.inl rfl) (fun b' u hb hu => (Heap.get?_update_other s.heap (Obj.mapSeq f) (Ne.symm hb)).trans hu) ⟨_, q⟩ ?_
  exact ⟨hz, its', _, hv, q⟩
theorem Inv.lnew {its : List Value} {t' : Nat} (I : Inv X pins σ H s) (hv : Vals ys its) (hz : ys.length ≤ sizeLine) :
    Inv X pins σ (upd H s.heap.objs.size (.lst ys)) { s with heap := s.heap.push { cls := .type "list", data := .seq its.toArray }, toks := t' } :=
  I.laid (fun _ _ q => Heap.get?_push_of_some _ q) (Nat.le_refl _) ⟨hz, its, 0, hv, Heap.get?_push_size _ rfl⟩
theorem Inv.fresh (I : Inv X pins σ H s) : H s.heap.objs.size = none := I.hok.fresh (Nat.le_refl _)
theorem Inv.lstM (I : Inv X pins σ H s) (hH : H l = some (.lst xs)) : xs.length ≤ sizeLine ∧ ∃ (its : List Value) (n : Nat), Vals xs its ∧ xs.length = its.length ∧ s.heap.get? l = some { cls := .type "list", data := .seq its.toArray n } := by
  obtain ⟨z, its, n, r, e⟩ := I.hok l _ hH
  exact ⟨z, its, n, r, r.length, e⟩
theorem notLongL {n : Nat} (h : n ≤ sizeLine) : Builtin.List.listTooLong n = false := by
  unfold Builtin.List.listTooLong
  exact decide_eq_false (by omega)
end
section
variable {X : Cx}
def rAppend : V → List V → Hp → VK → Prop := fun x vs H Q => ∃ l xs y, x = .ref l ∧ vs = [y] ∧ H l = some (.lst xs) ∧ xs.length < sizeLine ∧ Q .non (upd H l (.lst (xs ++ [y])))
theorem mt_append : MtM X "list.append" rAppend := by
  intro pins s σ H x vs v us Q I rx rv h
  obtain ⟨l, xs, y, rfl, rfl, hH, hz, q⟩ := h
  cases rx
  obtain ⟨u, rfl, ru⟩ := rv.one
  obtain ⟨z, its, n, r, hl, e⟩ := I.lstM hH
  refine call_meets F.slot_list_append ⟨_, e, rfl⟩ F.entry_list_append (F.args_list_append_2 _ _) (PySem.list_append l its.toArray n u (by rw [List.size_toArray]; omega)) ⟨e, ?_⟩
  refine ⟨.non, _, I.lset (its' := its ++ [u]) hH e (by simp) (r.append (.cons ru .nil)) ?_, rfl, q⟩
  rw [List.length_append, List.length_singleton]
  omega
def rExtend : V → List V → Hp → VK → Prop := fun x vs H Q => ∃ l b xs zs, x = .ref l ∧ vs = [.ref b] ∧ H l = some (.lst xs) ∧ H b = some (.lst zs) ∧ xs.length + zs.length ≤ sizeLine ∧ Q .non (upd H l (.lst (xs ++ zs)))
theorem mt_extend : MtM X "list.extend" rExtend := by
  intro pins s σ H x vs v us Q I rx rv h
  obtain ⟨l, b, xs, zs, rfl, rfl, hH, hB, hz, q⟩ := h
  cases rx
  obtain ⟨u, rfl, ru⟩ := rv.one
  cases ru
  obtain ⟨z, its, n, r, hl, e⟩ := I.lstM hH
  obtain ⟨z2, its2, n2, r2, hl2, e2⟩ := I.lstM hB
  have hsz : its.toArray.size + its2.toArray.size ≤ sizeLine := by rw [List.size_toArray, List.size_toArray]; omega
  have hlong : ¬ (!its.toArray.isEmpty && Builtin.List.listTooLong (its.toArray.size + its2.toArray.size)) = true := by
    rw [notLongL hsz, Bool.and_false]
    exact Bool.false_ne_true
  refine call_meets F.slot_list_extend ⟨_, e, rfl⟩ F.entry_list_extend (F.args_list_extend_2 _ _)
    (AutoSeq1.list_extend_list_list_0 l its.toArray n b its2.toArray n2 hlong (by rw [List.size_toArray]; omega) (by omega)) ⟨e, e2, ?_⟩
  refine ⟨.non, _, I.lset (its' := its ++ its2) hH e (by simp) (r.append r2) ?_, rfl, q⟩
  rw [List.length_append]
  omega
def rCat : R2 := fun x y H Q => ∃ l b xs zs, x = .ref l ∧ y = .ref b ∧ H l = some (.lst xs) ∧ H b = some (.lst zs) ∧ xs.length + zs.length ≤ sizeLine ∧ ∀ p, H p = none → Q (.ref p) (upd H p (.lst (xs ++ zs)))
theorem op_cat : OpR X (binaryOp .Add) rCat := by
  intro pins s σ H x y v u Q I rx ry h
  obtain ⟨l, b, xs, zs, rfl, rfl, hH, hB, hz, q⟩ := h
  cases rx
  cases ry
  obtain ⟨z, its, n, r, hl, e⟩ := I.lstM hH
  obtain ⟨z2, its2, n2, r2, hl2, e2⟩ := I.lstM hB
  refine PySem.P.add_list e e2 ?_ (by rw [List.size_toArray, List.size_toArray]; omega)
  have ea : its.toArray ++ its2.toArray = (its ++ its2).toArray := by simp
  rw [ea]
  exact ⟨.ref _, _, I.lnew (t' := s.toks) (r.append r2) (by rw [List.length_append]; omega), rfl, q _ I.fresh⟩
theorem len_rep {α : Type} (xs : List α) (k : Nat) : (List.replicate k xs).flatten.length = k * xs.length := by
  induction k with
  | zero => simp
  | succ k ih => rw [List.replicate_succ, List.flatten_cons, List.length_append, ih, Nat.succ_mul, Nat.add_comm]
end
section
variable {prog : Program} {w : World} {A : Around} {E : Value → Shared → Prop} {s : Shared}
end
section
variable {X : Cx}
end
end L2
namespace Att
open PySem PySem.W PySem.Calls PyProof.Rows
theorem ints_of_wellAll {P : Params} {h : Heap} : ∀ (ns : List Int) (vs : List Value), WellAll P h vs (ns.map WData.int) → IntsAre vs ns := by
  intro ns
  induction ns with
  | nil =>
    intro vs w
    rw [List.map_nil] at w
    cases w
    exact .nil
  | cons n ns ih =>
    intro vs w
    rw [List.map_cons] at w
    cases w with
    | cons a b =>
      cases a
      exact .cons _ _ (ih _ b)
theorem script_of {l : OpenLaw} {n : Nat} (hn : l.most = some n) {P : Params} {h : Heap} {args : List WData} {vals : List Value}
    (hpre : l.row.toRowW.claim.pre args = true) (hwl : WellAll P h vals args) :
    ∃ a vs ns, vals = [Value.ref a] ∧ args = [WData.list (ns.map WData.int)] ∧ h.get? a = some { cls := .type "list", data := .seq vs.toArray } ∧ IntsAre vs ns ∧ ns.length ≤ n := by
  have hsh : WShape.hasAll [] args [.list .int] = true := (pre_splitW hpre).1
  have hc : l.pre.holds [] { args := args } = true := (pre_splitW hpre).2
  obtain ⟨d, r, rfl, h1, h2⟩ := hasAllW_cons hsh
  obtain rfl := hasAllW_nil h2
  obtain ⟨xs, rfl, h3⟩ := hasW_list h1
  obtain ⟨ns, rfl⟩ := items_int h3
  have hlen : ns.length ≤ n := by
    unfold OpenLaw.pre at hc
    have h4 : (WTm.not (.lt (.lit (.int (n : Int))) (.len (.arg 0)))).holds [] { args := [.list (ns.map .int)] } = true := by
      have h4 := (holds_andW hc).1
      rw [hn] at h4
      exact h4
    have h5 := condW_of h4 (w_not (w_lt w_lit (w_len_list (w_arg rfl))))
    rw [List.length_map] at h5
    refine Nat.le_of_not_lt fun q => ?_
    have q' : (n : Int) < ((ns.length : Nat) : Int) := by omega
    first
      | (rw [decide_eq_true q'] at h5; exact absurd h5 (by decide))
      | (simp at h5; omega)
  cases hwl with
  | cons w1 w2 =>
    cases w2
    cases w1 with
    | list ho hall => exact ⟨_, _, ns, rfl, rfl, ho, ints_of_wellAll ns _ hall, hlen⟩
theorem post_true (l : OpenLaw) (args : List WData) : l.row.toRowW.claim.post args (.bool true) args = true :=
  postW_of (r := l.row.toRowW) (X := (true == true))
    (show WShape.has [] (.bool true) .bool = true by first | rfl | decide | simp [WShape.has, WShape.arms, WShape.armsAll])
    (show (WTm.eq .res (.lit (.bool true))).value [] { args := args, res := some (.bool true), after := args } = some (.bool (true == true)) from w_eq_bool (w_res rfl) w_lit) rfl
theorem attach_call {l : OpenLaw} {n : Nat} {q : Program} {loose : List Str} {XP : (Str → Option Value) → Heap → Prop} {YP : World → Heap → Prop} {d : DefRec}
    (hn : l.most = some n) (hdf : d.params.defaults = [])
    (call : ∀ (w : World) (s₀ s₁ : Shared) (mg mb : Str → Option Value) (fa : Addr) (o : Obj) (pm cd doc : Value) (a : Addr) (vs : List Value) (ns : List Int),
      Ground q loose [] XP w s₀ mg mb s₁.heap → YP w s₁.heap →
      s₁.heap.get? fa = some o → o.data = .func (docDef d.name d.params d.body d.scope pm cd doc) → s₁.heap.CodeRec cd d.name → mg d.name = some (.ref fa) →
      s₁.heap.get? a = some { cls := .type "list", data := .seq vs.toArray } → IntsAre vs ns → ns.length ≤ n → s₁.gens = #[] →
      codeAny (model l.prog w) callerA (.call (.ref fa) ⟨[.ref a], []⟩) (fun r s' => r = .ok (.ret (.bool true)) ∧ OldK s₁.heap s'.heap ∧ s'.os = s₁.os ∧ AllBare s'.gens) s₁) :
    WalkO q loose XP YP l.row.toRowW d [] (fun f vs => PySem.call f vs) := by
  intro w s₀ s₁ mg mb G Y fa o pm cd doc dV kV ho hd hcd hD hmg hg args vals as hpre hlay hrd hwl hlo
  obtain rfl : dV = .none := Dflts.none hD hdf
  obtain rfl : kV = .none := Dflts.noKw hD
  obtain ⟨a, vs, ns, rfl, rfl, hobj, hints, hlen⟩ := script_of hn hpre hwl
  refine enter_call (codeAny_mono (call w s₀ s₁ mg mb fa o pm cd doc a vs ns G Y ho (fd_plain hd) hcd hmg hobj hints hlen hg) fun r s' hq => ?_)
  obtain ⟨rfl, h2, h3, h4⟩ := hq
  exact ⟨.inl ⟨.bool true, .bool true, [], rfl, fun _ => rfl, .bool true, post_true l _, fun _ => ⟨List.Pairwise.nil, fun _ hm => (nomatch hm)⟩⟩, h2, h3, h4⟩
section
variable {prog : Program} {w : World} {A : Around} {E : Value → Shared → Prop} {s : Shared} {K : Frag}
def ledger (h : Heap) (L d : Addr) : List (Addr × Obj) := (List.range h.objs.size).filterMap fun a => if a = L ∨ a = d then none else (h.get? a).map fun o => (a, o)
end
end Att
namespace L2
open PySem PySem.Spec PyProof.Rows
theorem vals_ints : ∀ {vs : List Value} {ns : List Int}, IntsAre vs ns → Vals (ns.map V.int) vs
  | _, _, .nil => .nil
  | _, _, .cons n t h => .cons ⟨t, rfl⟩ (vals_ints h)
def Only (H : Hp) : Prop := ∀ b, H b = none ∨ ∃ o xs, H b = some (.frz o (.lst xs))
theorem law_call {P : Program} {w : World} {K : PySem.W.Frag} {mg mb : Str → Option Value} {CX : CXT} {k : Nat} {fa a : Addr} {fd : FuncData} {x : Str} {sp : Sp} {s₁ : Shared} {vs : List Value} {ns : List Int}
    (KX : K.In s₁.heap) (hns : s₁.heap.Ns mainGlobals mg) (hb : s₁.heap.Ns builtinsNs mb) (hbb : ∀ x : Str, x ≠ "__name__" → mb x = bootBuiltins x) (hlim : s₁.heap.NoLimit) (hg : s₁.gens = #[])
    (ha : s₁.heap.get? a = some { cls := .type "list", data := .seq vs.toArray }) (hi : IntsAre vs ns) (hl : ns.length ≤ sizeLine) (hr : Room k callerA)
    (F : ∀ base : Heap, K.In base → base.Ns mainGlobals mg → FnOk P w K mg base CX k fa fd [x] sp) (hbind : ∀ (s : Shared) (u : Value), BindsTo s fd ⟨[u], []⟩ [(x, u)])
    (hsp : ∀ H : Hp, Only H → SqL K H a (ns.map V.int) → sp [.ref a] H (fun v _ => v = .bl true) fun _ _ _ => False)
    (hCX : ∀ H e s', CX [] H s₁ (fun _ _ _ => False) e s' → False) :
    codeAny (model P w) callerA (.call (.ref fa) ⟨[.ref a], []⟩) (fun r s' => r = .ok (.ret (.bool true)) ∧ OldK s₁.heap s'.heap ∧ s'.os = s₁.os ∧ AllBare s'.gens) s₁ := by
  have rv := vals_ints hi
  have lenV := hi.length
  have core : ∀ H : Hp, Only H → SqL K H a (ns.map V.int) → HOk P w H s₁.heap → (∀ b, H b ≠ none → b = a) → (H a ≠ none → K.lookup a = none) →
      codeAny (model P w) callerA (.call (.ref fa) ⟨[.ref a], []⟩) (fun r s' => r = .ok (.ret (.bool true)) ∧ OldK s₁.heap s'.heap ∧ s'.os = s₁.os ∧ AllBare s'.gens) s₁ := by
    intro H hO hS hok hA hK
    have base_of : ∀ {b : Addr} {o : Obj}, s₁.heap.get? b = some o → H b = none → (hidT s₁.heap H).get? b = some o := fun e n => hidT_get e n
    have noA : ∀ {b : Addr} {o : Obj} {es : Array DictEntry} {ep : Nat}, s₁.heap.get? b = some o → o.data = .dict es ep → H b = none := fun {b o es ep} e d => by
      cases q : H b with
      | none => rfl
      | some u =>
        have e' : b = a := hA b (by rw [q]; simp)
        subst e'
        rw [ha] at e; cases e
        have d' : Data.seq vs.toArray _ = Data.dict es ep := d
        cases d'
    have nsK : ∀ {b : Addr} {m : Str → Option Value}, s₁.heap.Ns b m → (hidT s₁.heap H).Ns b m := fun {b m} ⟨o, es, ep, e, d, r⟩ => ⟨o, es, ep, base_of e (noA e d), d, r⟩
    have hKb : K.In (hidT s₁.heap H) := fun b o e => base_of (KX b o e) (by
      cases q : H b with
      | none => rfl
      | some u =>
        have e' : b = a := hA b (by rw [q]; simp)
        subst e'
        rw [hK (by rw [q]; simp)] at e; cases e)
    have hM : Mod K mg (hidT s₁.heap H) := ⟨hKb, nsK hns, ⟨mb, nsK hb, hbb⟩, let ⟨mc, h1, h2⟩ := hlim; ⟨mc, nsK h1, h2⟩⟩
    have e0 : Env0 P w K mg (hidT s₁.heap H) callerA [] s₁ H := ⟨rfl, hM, fun b o e => of_hidT e, Nat.le_of_eq (hidT_size _ _), trivial, fun b hb => absurd (show b ∈ ([] : List Addr) from hb) (by simp), hok, .of_eq hg⟩
    refine codeAny_mono ((F _ hKb (nsK hns)).run callerA [] s₁ H ⟨[.ref a], []⟩ [.ref a] [.ref a] _ _ hr e0 (hbind s₁ (.ref a)) (.cons rfl .nil) (hsp H hO hS)) fun r s' h => ?_
    cases r with
    | error e => exact (hCX H e s' h).elim
    | ok fl =>
      cases fl with
      | next => exact False.elim h
      | brk => exact False.elim h
      | cont => exact False.elim h
      | ret u =>
        obtain ⟨v, H', os, bare, un, hok', r', q⟩ := h
        have q' : v = .bl true := q
        subst q'
        obtain rfl : u = Value.bool true := r'
        refine ⟨rfl, OldK.of_keep fun b o e => ?_, os, bare⟩
        cases q : H b with
        | none => exact un.keep b o e q (by intro z; exact absurd (show b ∈ ([] : List Addr) from z) (by simp)) (by simp)
        | some u =>
          rcases hO b with z | ⟨ob, xs, z⟩
          · rw [q] at z; cases z
          · have z2 := un.frzs b ob _ z
            obtain ⟨e1, _⟩ := hok b _ z
            obtain ⟨e2, _⟩ := hok' b _ z2
            rw [e] at e1; cases e1
            exact e2
  cases hk : K.lookup a with
  | some o =>
    have e := KX a o hk
    rw [ha] at e
    cases e
    refine core (fun _ => none) (fun _ => .inl rfl) (.inr ⟨_, vs.toArray, _, hk, rfl, rfl, rfl, by rw [List.size_toArray, lenV]; exact hl, by simpa using rv⟩) (fun b u z => by have z' : (none : Option HO) = some u := z; cases z') (fun b z => absurd rfl z) fun z => absurd rfl z
  | none =>
    refine core (fun b => if b = a then some (.frz { cls := .type "list", data := .seq vs.toArray } (.lst (ns.map V.int))) else none) (fun b => ?_) (.inl (.inr ⟨{ cls := .type "list", data := .seq vs.toArray }, if_pos rfl⟩)) (fun b u z => ?_) (fun b z => ?_) fun _ => hk
    · by_cases hb : b = a
      · exact .inr ⟨_, _, if_pos hb⟩
      · exact .inl (if_neg hb)
    · by_cases hb : b = a
      · have z' := (if_pos hb).symm.trans z
        cases z'
        subst hb
        exact ⟨ha, by rw [List.length_map]; exact hl, vs, _, rv, ha⟩
      · have z' := (if_neg hb).symm.trans z
        cases z'
    · by_cases hb : b = a
      · exact hb
      · exact absurd (if_neg hb) z
end L2
namespace L2
open PySem PySem.Spec PyProof.Rows
theorem walk_of {l : PySem.W.OpenLaw} {n k : Nat} {q : Program} {loose : List Str} {XP : (Str → Option Value) → Heap → Prop} {YP : World → Heap → Prop} {d : DefRec} {K : Params → PySem.W.Frag} {CX : World → CXT} {sp : World → Sp} {x : Str}
    (hn : l.most = some n) (hn2 : n ≤ sizeLine) (hdf : d.params.defaults = []) (hr : Room k callerA)
    (hY : ∀ (w : World) (h : Heap), YP w h → (K w.params).In h)
    (F : ∀ (w : World) (mg : Str → Option Value) (fa : Addr) (h : Heap), (K w.params).In h → h.Ns mainGlobals mg → mg d.name = some (.ref fa) →
      ∃ fd : FuncData, (∀ (s : Shared) (u : Value), BindsTo s fd ⟨[u], []⟩ [(x, u)]) ∧
        ∀ base : Heap, (K w.params).In base → base.Ns mainGlobals mg → FnOk l.prog w (K w.params) mg base (CX w) k fa fd [x] (sp w))
    (hsp : ∀ (w : World) (H : Hp) (a : Addr) (ns : List Int), ns.length ≤ n → Only H → SqL (K w.params) H a (ns.map V.int) → sp w [.ref a] H (fun v _ => v = .bl true) fun _ _ _ => False)
    (hCX : ∀ (w : World) (H : Hp) (s : Shared) (e : Value) (s' : Shared), CX w [] H s (fun _ _ _ => False) e s' → False) :
    PySem.W.WalkO q loose XP YP l.row.toRowW d [] (fun f vs => PySem.call f vs) := by
  refine Att.attach_call hn hdf fun w s₀ s₁ mg mb fa o pm cd doc a vs ns G Y ho hd hcd hmg hobj hints hlen hg => ?_
  have KX := hY w _ Y
  obtain ⟨fd, hb, hF⟩ := F w mg fa _ KX G.T.g hmg
  exact law_call KX G.T.g G.T.b G.T.builtins G.T.nolimit hg hobj hints (Nat.le_trans hlen hn2) hr hF hb (fun H hO hS => hsp w H a ns hlen hO hS) fun H e s' => hCX w H s₁ e s'
end L2
namespace L2
open PySem PySem.Spec PyProof.Rows
def defArgs (s : Stmt) : Arguments := match s with
  | .FunctionDef _ a _ _ _ _ _ _ _ _ => a
  | _ => { posonlyargs := [], args := [], vararg := none, kwonlyargs := [], kw_defaults := [], kwarg := none, defaults := [] }
def defBody (s : Stmt) : List Stmt := match s with
  | .FunctionDef _ _ b _ _ _ _ _ _ _ => b
  | _ => []
def defScope (s : Stmt) : Scope := match s with
  | .FunctionDef _ _ _ _ _ _ sc _ _ _ => sc
  | _ => { kind := .function, names := [], isGenerator := false, isCoroutine := false }
abbrev CX0 : CXT := fun _ _ _ _ _ _ => False
abbrev E0 : XK := fun _ _ _ => False
theorem pass0 {X : Cx} : Passes CX0 X E0 := fun _ _ _ _ _ _ _ h => h.elim
structure Fun (K : PySem.W.Frag) (x qual : Str) (st : Stmt) (f : Addr) (fd : FuncData) : Prop where
  ex : ∃ (oc : Value) (od : Option Addr) (kV doc pm : Value) (an : Option Addr) (cdv ct : Value) (osl : Array (Option Value)),
    fd = PySem.W.fnOf x qual (defArgs st) (defBody st) (defScope st) .none kV doc pm an cdv ct ∧ K.lookup f = some ⟨oc, od, .func fd, osl⟩ ∧ PySem.W.codeIn K cdv qual = true
  kp : PySem.W.keepIn K (.ref f) = true
section
variable {P : Program} {w : World} {K : PySem.W.Frag} {mg : Str → Option Value} {base : Heap}
theorem Fun.ok {x qual : Str} {st : Stmt} {f : Addr} {fd : FuncData} {N ps : List Str} {k : Nat} {sp : Sp} (F : Fun K x qual st f fd) (S : FnScope N ps (defScope st)) (len : ∀ vs H Q E, sp vs H Q E → vs.length = ps.length)
    (hbody : ∀ (cdv : Value) (A : Around) (outer : List Env) (s : Shared) (H : Hp) (vs : List V) (Q : VK) (E : XK), Room k (A.deeper (envOfC qual (defScope st) s.heap.objs.size f cdv)) → sp vs H Q E →
      ∃ t, PSs (cxOf CX0 P w K mg base N qual (defScope st) f cdv A outer s H E).nox (defBody st) t ∧ t { nx := fun _ H' => Q .non H', rt := Q } (start N vs) H) : FnOk P w K mg base CX0 (k + 1) f fd ps sp := by
  obtain ⟨oc, od, kV, doc, pm, an, cdv, ct, osl, rfl, lk, hcd⟩ := F.ex
  refine fn_of lk hcd S len fun A outer s H vs Q E hr hsp => ?_
  obtain ⟨t, h, q⟩ := hbody cdv A outer s H vs Q E hr hsp
  exact ⟨t, h.nox, q⟩
theorem Fun.binds {x qual : Str} {st : Stmt} {f : Addr} {fd : FuncData} {ps : List Str} (F : Fun K x qual st f fd)
    (h : ∀ (kV doc pm : Value) (an : Option Addr) (cdv ct : Value) (us : List Value), us.length = ps.length → bindArgs (PySem.W.fnOf x qual (defArgs st) (defBody st) (defScope st) .none kV doc pm an cdv ct) ⟨us, []⟩ = pure (ps.zip us)) : Binds K fd ps [] := by
  obtain ⟨oc, od, kV, doc, pm, an, cdv, ct, osl, rfl, lk, hcd⟩ := F.ex
  exact .all (h kV doc pm an cdv ct)
theorem fun_mk {x qual : Str} {st : Stmt} {f : Addr} {oc : Value} {od an : Option Addr} {osl : Array (Option Value)} {kV doc pm cdv ct : Value} (l : K.lookup f = some ⟨oc, od, .func (PySem.W.fnOf x qual (defArgs st) (defBody st) (defScope st) .none kV doc pm an cdv ct), osl⟩)
    (c : PySem.W.codeIn K cdv qual = true) (k : PySem.W.keepIn K (.ref f) = true) : Fun K x qual st f (PySem.W.fnOf x qual (defArgs st) (defBody st) (defScope st) .none kV doc pm an cdv ct) := ⟨⟨oc, od, kV, doc, pm, an, cdv, ct, osl, rfl, l, c⟩, k⟩
end
section
variable {X : Cx}
theorem pv (i : Nat) {x : Str} {pos : Pos} (hN : X.N[i]? = some x := by rfl) (hv : Vis X.env.scope x := by first | exact Or.inl rfl | exact Or.inr (Or.inl rfl) | exact Or.inr (Or.inr rfl)) (hd : (x == ("__debug__" : Str)) = false := by decide)
    (hcd : (x == ("__classdict__" : Str)) = false := by decide) : PE X (.Name x pos) (tVar i) := pe_var hN hv hd hcd
end
theorem iteF {A B : Prop} (h : B) : if false = true then A else B := by
  rw [if_neg Bool.false_ne_true]
  exact h
theorem iteT {A B : Prop} (h : A) : if true = true then A else B := by
  rw [if_pos rfl]
  exact h
theorem ite2 {c A B : Prop} [Decidable c] (h1 : c → A) (h2 : ¬ c → B) : if c then A else B := by
  by_cases h : c
  · rw [if_pos h]
    exact h1 h
  · rw [if_neg h]
    exact h2 h
def Same (H H' : Hp) : Prop := ∀ b o, H b = some o → H' b = some o
theorem Same.refl (H : Hp) : Same H H := fun _ _ h => h
theorem Same.trans {H H1 H2 : Hp} (a : Same H H1) (b : Same H1 H2) : Same H H2 := fun c o h => b c o (a c o h)
theorem Same.free {H H' : Hp} (e : Same H H') {l : Addr} (h : H' l = Option.none) : H l = Option.none := by
  cases q : H l with
  | none => rfl
  | some o =>
    rw [e l o q] at h
    cases h
theorem Same.seq {K : PySem.W.Frag} {H H' : Hp} {a : Addr} {xs : List V} (e : Same H H') (h : SqL K H a xs) : SqL K H' a xs := by
  rcases h with (h | ⟨o, h⟩) | h
  · exact .inl (.inl (e _ _ h))
  · exact .inl (.inr ⟨o, e _ _ h⟩)
  · exact .inr h
end L2
set_option Elab.async false
set_option linter.all false
set_option maxRecDepth 100000
set_option maxHeartbeats 4000000
namespace L3
open PySem PySem.Spec PyProof.Rows L2
abbrev St := L2.St
abbrev cs (x : Str) : List Nat := x.cps.toList
abbrev tx (l : List Nat) : Str := ⟨l.toArray⟩
theorem tx_cs (x : Str) : tx (cs x) = x := by cases x; rfl
theorem cs_tx (l : List Nat) : cs (tx l) = l := rfl
theorem len_cs (x : Str) : x.length = (cs x).length := by simp [Str.length, cs]
theorem len_tx (l : List Nat) : (tx l).length = l.length := by simp [Str.length, tx]
theorem cs_inj {x y : Str} (h : cs x = cs y) : x = y := by rw [← tx_cs x, ← tx_cs y, h]
theorem tx_inj {l m : List Nat} (h : tx l = tx m) : l = m := by rw [← cs_tx l, ← cs_tx m, h]
theorem tx_eq {l m : List Nat} : tx l = tx m ↔ l = m := ⟨tx_inj, fun h => by rw [h]⟩
theorem tx_append (l m : List Nat) : tx l ++ tx m = tx (l ++ m) := by
  apply cs_inj
  show (tx l ++ tx m).cps.toList = l ++ m
  rw [Str.cps_append]
  simp
def cut {α : Type} (l : List α) (lo hi : Option Int) : List α := (l.drop (HT.sIx l.length 0 lo)).take (HT.sIx l.length l.length hi - HT.sIx l.length 0 lo)
theorem cut_len {α : Type} (l : List α) (lo hi : Option Int) : (cut l lo hi).length ≤ l.length := by
  unfold cut
  rw [List.length_take, List.length_drop]
  omega
theorem range_nat (a b : Nat) : sliceRange (a : Int) (b : Int) 1 = (List.range (b - a)).map (fun k => a + k) := by
  unfold sliceRange
  have e : (if (1 : Int) > 0 then (if (a : Int) < b then ((b : Int) - a + 1 - 1) / 1 else 0) else (if (a : Int) > b then ((a : Int) - b - 1 - 1) / (-1) else 0)).toNat = b - a := by
    rw [if_pos (by decide)]
    by_cases h : (a : Int) < b
    · rw [if_pos h, Int.ediv_one]; omega
    · rw [if_neg h]; omega
  show (List.range ((if (1 : Int) > 0 then (if (a : Int) < b then ((b : Int) - a + 1 - 1) / 1 else 0) else (if (a : Int) > b then ((a : Int) - b - 1 - 1) / (-1) else 0)).toNat)).map _ = _
  rw [e]
  refine List.map_congr_left fun k _ => ?_
  omega
theorem idx_cut (lo hi : Option Int) (n : Nat) : Builtin.Str.strSliceIndices lo hi 1 n = (List.range (HT.sIx n n hi - HT.sIx n 0 lo)).map (fun k => HT.sIx n 0 lo + k) := by
  rw [← range_nat]
  have clip : ∀ (v : Int) (d : Nat), max 0 (min (if v < 0 then v + (n : Int) else v) (n : Int)) = ((HT.sIx n d (some v) : Nat) : Int) := fun v d => by
    show _ = (((if v < 0 then (v + (n : Int)).toNat else min v.toNat n) : Nat) : Int)
    by_cases hv : v < 0
    · simp only [if_pos hv]; omega
    · simp only [if_neg hv]; omega
  have h1 : ((1 : Int) > 0) = True := by simp
  unfold Builtin.Str.strSliceIndices
  cases lo with
  | none =>
    cases hi with
    | none => simp only [h1, if_true]; rfl
    | some j => simp only [h1, if_true, clip j n]; rfl
  | some i =>
    cases hi with
    | none => simp only [h1, if_true, clip i 0]; rfl
    | some j => simp only [h1, if_true, clip i 0, clip j n]
theorem slice_cut (x : Str) (lo hi : Option Int) : Txt.slice x lo hi = tx (cut (cs x) lo hi) := by
  have hn : x.length = x.cps.toList.length := len_cs x
  have hj : HT.sIx x.length x.length hi ≤ x.length := HT.sIx_le _ _ (Nat.le_refl _) hi
  have hi0 : HT.sIx x.length 0 lo ≤ x.length := HT.sIx_le _ _ (Nat.zero_le _) lo
  unfold Txt.slice
  rw [idx_cut]
  split
  · rename_i h
    have h' : HT.sIx x.length x.length hi - HT.sIx x.length 0 lo = x.length := by simpa using h
    apply cs_inj
    show x.cps.toList = cut x.cps.toList lo hi
    unfold cut
    rw [← hn]
    by_cases z : x.length = 0
    · have : x.cps.toList = [] := List.eq_nil_of_length_eq_zero (by omega)
      rw [this]; simp
    · have e0 : HT.sIx x.length 0 lo = 0 := by omega
      rw [e0] at h' ⊢
      rw [h', List.drop_zero, hn, List.take_length]
  · apply cs_inj
    have h := StrLaws.picks x.cps.toList (HT.sIx x.length x.length hi - HT.sIx x.length 0 lo) (HT.sIx x.length 0 lo) (by omega)
    show (List.filterMap (fun k => x.cps[k]?) _).toArray.toList = cut x.cps.toList lo hi
    unfold cut
    rw [← hn]
    simpa using h
section
variable {X : Cx}
theorem part_of {v : Value} {o : Option Int} (p : IsPart v o) : ∃ l : Option (Int × Tok), v = partValue l ∧ l.map (·.1) = o := by
  cases p with
  | none => exact ⟨none, rfl, rfl⟩
  | int i t => exact ⟨some (i, t), rfl, rfl⟩
def rSlS : V → Option Int → Option Int → Hp → VK → Prop := fun x lo hi H Q => ∃ z, x = .str z ∧ z.length ≤ sizeLine ∧ Q (.str (tx (cut (cs z) lo hi))) H
theorem sl_str : SlR X rSlS := by
  intro pins s σ H x v vl vu lo hi sl Q I rx hs pl pu h
  obtain ⟨z, rfl, hz, q⟩ := h
  obtain ⟨t, rfl⟩ := rx
  obtain ⟨l, rfl, el⟩ := part_of pl
  obtain ⟨u, rfl, eu⟩ := part_of pu
  refine ⟨"str", _, slot_str_getitem.lookup, typeIs_str s z t, ?_⟩
  refine wpAny_getItem_str_slice (l := l) (u := u) (st := none) hs rfl ?_
  have e : Txt.slice z lo hi = tx (cut (cs z) lo hi) := slice_cut z lo hi
  have hl : (tx (cut (cs z) lo hi)).length ≤ sizeLine := by rw [len_tx]; have := cut_len (cs z) lo hi; rw [← len_cs] at this; omega
  unfold sliceMade slicePicked
  rw [el, eu]
  unfold Txt.slice at e
  by_cases hc : ((1 : Int) == 1 && (Builtin.Str.strSliceIndices lo hi 1 z.length).length == z.length) = true
  · rw [if_pos hc] at e
    have hc' : (((none : Option (Int × Tok)).map (·.1)).getD 1 == 1 && (Builtin.Str.strSliceIndices lo hi (((none : Option (Int × Tok)).map (·.1)).getD 1) z.length).length == z.length) = true := hc
    rw [if_pos hc']
    exact ⟨.str (tx (cut (cs z) lo hi)), H, I, ⟨t, by rw [← e]⟩, q⟩
  · rw [if_neg hc] at e
    have hc' : ¬ (((none : Option (Int × Tok)).map (·.1)).getD 1 == 1 && (Builtin.Str.strSliceIndices lo hi (((none : Option (Int × Tok)).map (·.1)).getD 1) z.length).length == z.length) = true := hc
    rw [if_neg hc']
    show (Str.mk ((Builtin.Str.strSliceIndices lo hi 1 z.length).filterMap (z.cps[·]?)).toArray).length ≤ sizeLine ∧ _
    rw [e]
    refine ⟨hl, ?_⟩
    exact ⟨.str (tx (cut (cs z) lo hi)), H, I.tok _, ⟨_, by
      show Value.str (Str.mk ((Builtin.Str.strSliceIndices lo hi 1 z.length).filterMap (z.cps[·]?)).toArray) _ = _
      rw [e]⟩, q⟩
theorem fold_rep (l : List Nat) : ∀ (k : Nat) (acc : Array Nat), ((List.replicate k l.toArray).foldl (· ++ ·) acc).toList = acc.toList ++ (List.replicate k l).flatten
  | 0, acc => by simp
  | k + 1, acc => by
    rw [List.replicate_succ, List.foldl_cons, fold_rep l k, List.replicate_succ, List.flatten_cons]
    simp
theorem op_mul_str : OpR X (binaryOp .Mult) (fun x y H Q => ∃ z n, x = .str z ∧ y = .int n ∧ 0 ≤ n ∧ n ≤ 1000 ∧ z.length ≤ 1000 ∧ Q (.str (tx (List.replicate n.toNat (cs z)).flatten)) H) := by
  intro pins s σ H x y v u Q I rx ry h
  obtain ⟨z, n, rfl, rfl, h0, h1, hz, q⟩ := h
  obtain ⟨t, rfl⟩ := rx
  obtain ⟨t', rfl⟩ := ry
  have hs : sizeLine = 16777216 := sizeLine_eq
  have hmul : z.length * n.toNat ≤ 1000 * 1000 := Nat.mul_le_mul hz (by omega)
  have fl : ((List.replicate n.toNat (cs z)).flatten).length = n.toNat * z.length := by rw [L2.len_rep, ← len_cs]
  refine PySem.P.mul_str ?_ (fun _ _ => ?_) (fun _ _ => ?_) ?_
  · rw [decide_eq_false (by omega), decide_eq_false (by omega)]; rfl
  · have : (1000 : Int) ≤ (2 ^ 63 - 1) / n := by
      apply Int.le_ediv_of_mul_le (by omega)
      omega
    omega
  · unfold Builtin.Str.tooLong
    exact decide_eq_false (by omega)
  · by_cases c1 : n < 1
    · rw [if_pos c1]
      have e : n.toNat = 0 := by omega
      rw [e] at q
      exact ⟨by decide, .str (tx []), H, I.tok _, ⟨_, rfl⟩, q⟩
    · rw [if_neg c1]
      by_cases c2 : (n == 1 || z.length == 0) = true
      · rw [if_pos c2]
        have e : tx (List.replicate n.toNat (cs z)).flatten = z := by
          rw [Bool.or_eq_true] at c2
          rcases c2 with c | c
          · have : n.toNat = 1 := by have := eq_of_beq c; omega
            rw [this]
            simp only [List.replicate_one, List.flatten_singleton]
          · have c0 : z.length = 0 := eq_of_beq c
            have : cs z = [] := List.eq_nil_of_length_eq_zero (by rw [← len_cs]; exact c0)
            apply cs_inj
            rw [this]
            show (List.replicate n.toNat ([] : List Nat)).flatten = []
            simp only [List.flatten_replicate_nil]
        rw [e] at q
        exact ⟨.str z, H, I, ⟨_, rfl⟩, q⟩
      · rw [if_neg c2]
        have e : (⟨(List.replicate n.toNat z.cps).foldl (· ++ ·) #[]⟩ : Str) = tx (List.replicate n.toNat (cs z)).flatten := by
          apply cs_inj
          have := fold_rep (cs z) n.toNat #[]
          have e2 : (cs z).toArray = z.cps := by cases z; rfl
          rw [e2] at this
          show (List.foldl (· ++ ·) #[] (List.replicate n.toNat z.cps)).toList = (List.replicate n.toNat (cs z)).flatten
          rw [this]
          rfl
        rw [e]
        refine ⟨by rw [len_tx, fl, Nat.mul_comm]; omega, .str _, H, I.tok _, ⟨_, rfl⟩, q⟩
theorem op_le_str : OpR X (compareOp .LtE) (fun x y H Q => ∃ i j, x = .str i ∧ y = .str j ∧ Q (.bl (!(decide (cs j < cs i)))) H) := by
  intro pins s σ H x y v u Q I rx ry h
  obtain ⟨i, j, rfl, rfl, q⟩ := h
  obtain ⟨t, rfl⟩ := rx
  obtain ⟨t', rfl⟩ := ry
  exact PySem.P.le_str ⟨.bl _, H, I, rfl, q⟩
theorem op_lt_str' : OpR X (compareOp .Lt) (fun x y H Q => ∃ i j, x = .str i ∧ y = .str j ∧ Q (.bl (decide (cs i < cs j))) H) := op_lt_str
theorem in_one (x : Str) (c : Nat) : (!(Builtin.Str.occurrences x (tx [c]) 0 x.length 1).isEmpty) = decide (c ∈ cs x) := StrLaws.found_one x c
theorem mt_find : MtR X "str.find" (fun x xs H Q => ∃ z y, x = .str z ∧ xs = [.str y] ∧ Q (.int (Txt.find z y)) H) := by
  intro pins s σ H x xs v us Q I rx rv h
  obtain ⟨z, y, rfl, rfl, q⟩ := h
  obtain ⟨t, rfl⟩ := rx
  obtain ⟨u, rfl, t', rfl⟩ := vals1 rv
  exact PySem.SC.find ⟨.int _, H, I.tok _, ⟨_, rfl⟩, q⟩
end
end L3
set_option Elab.async false
set_option linter.all false
set_option maxRecDepth 100000
set_option maxHeartbeats 4000000
namespace L3
open PySem PySem.Spec PyProof.Rows L2
section
variable {X : Cx} {pins : List (Addr × Obj)} {σ : St} {H : Hp} {s : Shared} {fp : List Addr} {h' : Heap} {t' : Nat}
theorem Inv.track {a : Addr} {o : HO} (I : Inv X pins σ H s) (fa : FpOk X pins H a) (new : ObjOk X.prog X.w (upd H a o) s.heap a o) : Inv X pins σ (upd H a o) s := by
  obtain ⟨a0, a1, a2, a3, a4, a5⟩ := fa
  have e : s = { s with heap := s.heap, gens := s.gens, drawn := s.drawn, toks := s.toks } := rfl
  rw [e]
  refine I.step (g' := s.gens) (d' := s.drawn) (ch := [a]) (fun b hb => ?_) (fun b o _ _ _ e _ => e) (fun b o _ _ _ e _ => ⟨o.slots, e⟩) (fun b o hc _ n => ?_)
    (fun b o _ e => ⟨o, e⟩) (fun b xs e => ?_) (fun b u xs e => ?_) (fun b ps e => ?_) (fun m hm => hm) (fun b u e => ?_) I.bare
  · have eb : b = a := by simpa using hb
    subst eb
    exact ⟨a3, a1, a4, a5⟩
  · rw [upd_ne (by simpa using hc)]; exact n
  · rw [upd_ne (ne_of_none e a0)]; exact e
  · rw [upd_ne (ne_of_none e a0)]; exact e
  · exact ⟨#[], by rw [upd_ne (ne_of_none e a0), e]; simp⟩
  · by_cases hb : b = a
    · subst hb; rw [upd_same] at e; cases e; exact new
    · rw [upd_ne hb] at e
      exact (I.hok b u e).stay (fun c v _ q => q) (fun c q => by rw [upd_ne (ne_of_none q a0)]; exact q) fun c xs q => by rw [upd_ne (ne_of_none q a0)]; exact q
end
def Its (x : Str) : It := ⟨fun i _ => i < (cs x).length, fun i H v H' => H' = H ∧ ∃ c, (cs x)[i]? = some c ∧ v = .str (tx [c]), fun i _ => i = (cs x).length⟩
theorem turn_str {P : Program} {w : World} {K : PySem.W.Frag} {tg : Expr} {ty : String} (hty : ["enumerate", "zip", "dict_itemiterator", "dict_reverseitemiterator", "odict_iterator", "itertools.zip_longest", "itertools.pairwise"].contains ty = false) (it : Addr) (x : Str) (t : Tok)
    (W : ∀ A : Around, A.handled = none → Walks P w A it [it] [it] x.cps.size (SignAt x) fun i h => h.IsStrIter it ty x t i)
    (S : ∀ (A : Around) (i : Nat) (s : Shared) (Q : Value → Shared → Prop) (E : Value → Shared → Prop), s.heap.IsStrIter it ty x t i → Q (.ref it) s → wpAny (model P w) A (pyIter (.ref it)) Q E s) :
    Turn P w K tg (Its x) [it] it (fun i h => h.IsStrIter it ty x t i) where
  mem := by simp
  obj := fun i h st b hb => by
    have e : b = it := by simpa using hb
    subst e
    obtain ⟨o, e, c, d⟩ := st
    exact ⟨o, e, fun v z => by rw [d] at z; cases z⟩
  keep := fun i h h' st k => let ⟨o, e, r⟩ := st; ⟨o, k it (by simp) o e, r⟩
  item := by
    intro X hP hw hK hc i pins s σ H E I hf st hg
    subst hP hw hK
    obtain ⟨f0, f1, f2, f3, f4, f5⟩ := hf it (by simp)
    have hg' : i < x.cps.size := by have : i < x.cps.toList.length := hg; simpa using this
    refine (W X.A (I.ok.hd hc)).item i s _ _ hg' st fun v h' tk hv st' kk => ?_
    obtain ⟨c, u, hcc, rfl⟩ := hv
    have I1 : Inv X pins σ H { s with heap := h', toks := tk } := I.turned (fun b o hb e => kk b o (by simpa using hb) e) f0 f1 f3 f4 f5
    obtain ⟨o, e, cl, d⟩ := id st'
    refine ⟨_, rfl, go_of (s := { s with heap := h', toks := tk }) e cl d hty ⟨.str (tx [c]), H, I1, ⟨u, rfl⟩, ⟨rfl, c, ?_, rfl⟩, st', fun b hb => (hf b hb).1⟩⟩
    show x.cps.toList[i]? = some c
    simpa using hcc
  done := by
    intro X hP hw hK hc i pins s σ H E I hf st hg
    subst hP hw hK
    obtain ⟨f0, f1, f2, f3, f4, f5⟩ := hf it (by simp)
    have hi : i = x.cps.size := by have : i = x.cps.toList.length := hg; simpa using this
    rw [hi] at st
    exact (W X.A (I.ok.hd hc)).done s _ _ st fun h' tk kk => ⟨rfl, I.turned (fun b o hb e => kk b o (by simpa using hb) e) f0 f1 f3 f4 f5⟩
  self := fun A i s Q E st h => S A i s Q E st h
section
variable {X : Cx} {tg : Expr}
def iStr (tl : TE) : TI := fun σ H R => tl σ H fun v H1 => ∃ x, v = .str x ∧ R (Its x) H1
theorem pi_str {l : Expr} {tl : TE} (hl : PE X l tl) : PI X tg l (iStr tl) := by
  intro pins s σ H R I h
  refine thn (hl pins s σ H _ I h) fun v s1 ⟨y, H1, I1, r1, q1⟩ => ?_
  obtain ⟨x, e, q⟩ := q1
  subst e
  obtain ⟨t, rfl⟩ := r1
  have fin : ∀ (ty : String) (hty : ["enumerate", "zip", "dict_itemiterator", "dict_reverseitemiterator", "odict_iterator", "itertools.zip_longest", "itertools.pairwise"].contains ty = false)
      (W : ∀ A : Around, A.handled = none → Walks X.prog X.w A s1.heap.objs.size [s1.heap.objs.size] [s1.heap.objs.size] x.cps.size (SignAt x) fun i h => h.IsStrIter s1.heap.objs.size ty x t i)
      (S : ∀ (A : Around) (i : Nat) (s : Shared) (Q : Value → Shared → Prop) (E : Value → Shared → Prop), s.heap.IsStrIter s1.heap.objs.size ty x t i → Q (.ref s1.heap.objs.size) s → wpAny (model X.prog X.w) A (pyIter (.ref s1.heap.objs.size)) Q E s),
      PIE X pins σ tg R (.ref s1.heap.objs.size) { s1 with heap := s1.heap.push { cls := .type ty, data := .fields #[.str x t, .int 0 0] } } := fun ty hty W S => by
    refine ⟨s1.heap.objs.size, [s1.heap.objs.size], _, _, H1, rfl, I1.kept (t' := s1.toks) fun b o e => Heap.get?_push_of_some _ e, turn_str hty _ x t W S, ⟨_, Heap.get?_push_size _ rfl, rfl, rfl⟩, fun b hb => ?_, q⟩
    have e : b = s1.heap.objs.size := by simpa using hb
    subst e
    exact I1.fpOk (Nat.le_refl _) (I1.hok.fresh (Nat.le_refl _))
  cases ha : x.cps.all (· < 128)
  · exact wpAny_pyIter_wide ha (fin "str_iterator" (by decide) (fun A hA => Walks.strWide hA _ x t) fun A i s Q E st h => wpAny_pyIter_striter_wide st h)
  · exact wpAny_pyIter_ascii ha (fin "str_ascii_iterator" (by decide) (fun A hA => Walks.strAscii hA _ x t) fun A i s Q E st h => wpAny_pyIter_striter_ascii st h)
end
theorem for_str {x : Str} {g : TG} {tb : TS} {D : Ends} {σ : St} {H : Hp} (Pv : Nat → St → Hp → Prop) (h0 : Pv 0 σ H)
    (hs : ∀ i c σ H, (cs x)[i]? = some c → Pv i σ H → g (.str (tx [c])) σ H fun σ2 H2 => tb { D with nx := Pv (i + 1), ct := Pv (i + 1), bk := D.nx } σ2 H2) (hd : ∀ σ H, Pv (cs x).length σ H → D.nx σ H) :
    ∃ W : Nat → Nat → St → Hp → Prop, (∃ m, W 0 m σ H) ∧ ∀ i m σ H, W i m σ H →
      ((Its x).stop i H ∧ D.nx σ H) ∨ ((Its x).go i H ∧ ∃ N : St → Hp → Prop, (∀ σ' H', N σ' H' → ∃ m', m' < m ∧ W (i + 1) m' σ' H') ∧ ∀ v H', (Its x).yld i H v H' → g v σ H' fun σ2 H2 => tb { D with nx := N, ct := N, bk := D.nx } σ2 H2) := by
  refine ⟨fun i m σ H => m = (cs x).length - i ∧ i ≤ (cs x).length ∧ Pv i σ H, ⟨(cs x).length, by simp, Nat.zero_le _, h0⟩, ?_⟩
  rintro i m σ H ⟨rfl, hi, p⟩
  by_cases hlt : i < (cs x).length
  · refine .inr ⟨hlt, Pv (i + 1), fun σ' H' p' => ⟨(cs x).length - (i + 1), by omega, rfl, hlt, p'⟩, fun v H' y => ?_⟩
    obtain ⟨e, c, hc, ev⟩ := y
    subst e ev
    exact hs i c σ _ hc p
  · have e : i = (cs x).length := by omega
    subst e
    exact .inl ⟨rfl, hd σ H p⟩
def Ite (x : Str) : It := ⟨fun i _ => i < (cs x).length, fun i H v H' => ∃ p c, H p = none ∧ (cs x)[i]? = some c ∧ v = .ref p ∧ H' = upd H p (.tup [.int (i : Nat), .str (tx [c])]), fun i _ => i = (cs x).length⟩
section
variable {X : Cx}
def iEnum (ta : TA) : TI := fun σ H R => ta σ H fun vs H1 => ∃ x, vs = [.str x] ∧ R (Ite x) H1
end
end L3
set_option Elab.async false
set_option linter.all false
set_option maxRecDepth 100000
set_option maxHeartbeats 4000000
namespace L3
open PySem PySem.Spec PyProof.Rows L2
theorem closure_is {env : Env} : ∀ (names : List (Str × NameKind)) (acc : List (Str × Addr)),
    (∀ y, (y, NameKind.free) ∈ names → ∃ c, env.cells.lookup y = some c) → (∀ y c, acc.lookup y = some c → env.cells.lookup y = some c) →
    ∃ cl, (forIn names acc fun (x : Str × NameKind) (cs : List (Str × Addr)) => if (x.2 == NameKind.free) = true then (do let a ← cellOf env x.1; pure (ForInStep.yield ((x.1, a) :: cs))) else pure (ForInStep.yield cs) : Sem (List (Str × Addr))) = pure cl ∧
      (∀ y c, cl.lookup y = some c → env.cells.lookup y = some c) ∧ (∀ y, (y, NameKind.free) ∈ names ∨ (acc.lookup y).isSome = true → ∃ c, cl.lookup y = some c)
  | [], acc, _, ha => ⟨acc, rfl, ha, fun y h => by
      rcases h with h | h
      · cases h
      · exact Option.isSome_iff_exists.mp h⟩
  | (n, k) :: r, acc, hn, ha => by
    by_cases hk : k = NameKind.free
    · subst hk
      obtain ⟨c, hc⟩ := hn n (by simp)
      have ha' : ∀ y d, ((n, c) :: acc).lookup y = some d → env.cells.lookup y = some d := fun y d e => by
        rw [List.lookup_cons] at e
        by_cases hy : (y == n) = true
        · rw [hy] at e
          have : y = n := eq_of_beq hy
          subst this
          cases e
          exact hc
        · have hy' : (y == n) = false := by simpa using hy
          rw [hy'] at e
          exact ha y d e
      obtain ⟨cl, e, h1, h2⟩ := closure_is r ((n, c) :: acc) (fun y hy => hn y (List.mem_cons_of_mem _ hy)) ha'
      refine ⟨cl, ?_, h1, fun y hy => h2 y ?_⟩
      · rw [List.forIn_cons]
        have ec : cellOf env n = pure c := by unfold cellOf; rw [hc]
        simp only [beq_self_eq_true, if_true, ec, pure_bind]
        exact e
      · rcases hy with hy | hy
        · rcases List.mem_cons.mp hy with q | q
          · cases q
            exact .inr (by simp)
          · exact .inl q
        · refine .inr ?_
          rw [List.lookup_cons]
          by_cases hyn : (y == n) = true
          · rw [hyn]; rfl
          · have hy' : (y == n) = false := by simpa using hyn
            rw [hy']; exact hy
    · obtain ⟨cl, e, h1, h2⟩ := closure_is r acc (fun y hy => hn y (List.mem_cons_of_mem _ hy)) ha
      refine ⟨cl, ?_, h1, fun y hy => h2 y ?_⟩
      · rw [List.forIn_cons]
        have ek : (k == NameKind.free) = false := by simpa using hk
        simp only [ek, Bool.false_eq_true, if_false, pure_bind]
        exact e
      · rcases hy with hy | hy
        · rcases List.mem_cons.mp hy with q | q
          · cases q; exact absurd rfl hk
          · exact .inl q
        · exact .inr hy
theorem closureFor_is {scope : Scope} {env : Env} (hn : ∀ y, (y, NameKind.free) ∈ scope.names → ∃ c, env.cells.lookup y = some c) :
    ∃ cl, closureFor scope env = pure cl ∧ (∀ y c, cl.lookup y = some c → env.cells.lookup y = some c) ∧ (∀ y, (y, NameKind.free) ∈ scope.names → ∃ c, cl.lookup y = some c) := by
  obtain ⟨cl, e, h1, h2⟩ := closure_is scope.names [] hn (fun y c h => by cases h)
  refine ⟨cl, ?_, h1, fun y hy => h2 y (.inl hy)⟩
  unfold closureFor
  simp only [bind_pure]
  exact e
abbrev testsOf (ifs : List Expr) (env : Env) : Sem Bool :=
  forIn ifs true fun c r => if r = true then (do let ok ← isTrue c env (eval c env); pure (ForInStep.yield ok)) else pure (ForInStep.yield r)
theorem comp_loop {prog : Program} {w : World} {A : Around} {R : Result → Shared → Prop} {s : Shared} {elt tg iter : Expr} {ifs : List Expr} {scope : Scope} {pos : Pos} {it acc : Value} {env : Env}
    (I : Nat → Shared → Prop) {EE : Value → Shared → Prop} (hEE : EE = notedBy (model prog w) A env fun e s' => R (.error e) s')
    (turn : ∀ n s, I n s → wpAny (model prog w) A (pyNext it) (fun r s1 => match r with
      | none => R (.ok .next) s1
      | some v => wpAny (model prog w) A (letOwnedTupleGo tg it v) (fun _ s2 => wpAny (model prog w) A (assign tg env v) (fun _ s3 =>
          wpAny (model prog w) A (testsOf ifs env) (fun ok s4 => if ok = true then
            wpAny (model prog w) A (eval elt env) (fun x s5 => wpAny (model prog w) A (call (.builtin "list.append") [acc, x]) (fun _ s6 => ∃ m, m < n ∧ I m s6) EE s5) EE s4
            else ∃ m, m < n ∧ I m s4) EE s3) EE s2) EE s1) EE s) (n : Nat) (h : I n s) :
    codeAny (model prog w) A (.compLoop (.ListComp elt [⟨tg, iter, ifs, 0⟩] scope pos) 0 it acc env) R s := by
  subst hEE
  refine codeAny_loop rfl I (fun n s hI => ?_) n h
  show wpAny _ A ((compTurn (.ListComp elt [⟨tg, iter, ifs, 0⟩] scope pos) 0 it acc env).onRaise (fun x => do noteFrame x env; theTreesLotGoes x)) _ _ s
  refine wpAny_noted ?_
  rw [compTurn_list]
  refine wpAny_bind (wpAny_standAt (wpAny_bind (thn (turn n s hI) fun r s1 h1 => ?_)))
  cases r with
  | none => exact wpAny_pure h1
  | some v =>
    refine wpAny_bind (thn h1 fun _ s2 h2 => wpAny_bind (thn h2 fun _ s3 h3 => wpAny_bind (thn h3 fun ok s4 h4 => ?_)))
    cases ok with
    | false => exact wpAny_pure ⟨rfl, h4⟩
    | true => exact wpAny_bind (wpAny_bind (thn h4 fun x s5 h5 => wpAny_bind (thn h5 fun _ s6 h6 => wpAny_pure (wpAny_pure ⟨rfl, h6⟩))))
def compCx (X : Cx) (scope : Scope) (cl : List (Str × Addr)) (C : Addr) (N : List Str) (pins : List (Addr × Obj)) (s3 : Shared) (H3 : Hp) (fp : List Addr) (E : Value → Shared → Prop) : Cx :=
  { X with N := N, s₀ := s3, H₀ := H3, env := compEnvC scope cl C X.env, outer := X.stack, ex := fp, fn := fun _ => false, pn := X.pn ++ pins, xe := E }
def seen (σ : St) (own : Nat) (ix : List Nat) : St := List.replicate own none ++ ix.map fun i => (σ[i]?).join
structure CompOk (X : Cx) (scope : Scope) (own caps : List Str) (ix : List Nat) : Prop where
  kind : scope.kind = .function
  nocell : ∀ y ∈ scope.names, y.2 ≠ .cell
  names : ∀ y ∈ scope.names, y.2 = .local → scope.names.lookup y.1 = some .local
  free : ∀ y, (y, NameKind.free) ∈ scope.names → X.env.kindOf y = some .cell
  hown : ∀ y ∈ own, scope.names.lookup y = some .local
  hcaps : ∀ y ∈ caps, scope.names.lookup y = some .free
  hix : ix.map (fun i => X.N[i]?) = caps.map some
theorem lookup_mem {α β : Type} [BEq α] [LawfulBEq α] {l : List (α × β)} {a : α} {b : β} (h : l.lookup a = some b) : (a, b) ∈ l := by
  induction l with
  | nil => cases h
  | cons p r ih =>
    obtain ⟨c, d⟩ := p
    rw [List.lookup_cons] at h
    by_cases e : (a == c) = true
    · rw [e] at h
      cases h
      rw [eq_of_beq e]
      exact List.mem_cons_self
    · have e' : (a == c) = false := by simpa using e
      rw [e'] at h
      exact List.mem_cons_of_mem _ (ih h)
theorem lookup_relabel {scope : Scope} {env : Env} (hf : env.scope.kind = .function) : ∀ {names : List (Str × NameKind)} {x : Str} {k : NameKind}, names.lookup x = some k →
    (names.map fun (n, k) => if (k == NameKind.free && env.scope.kind == .function && env.kindOf n == some .cell) then (n, NameKind.cell) else (n, k)).lookup x = some (if (k == NameKind.free && env.scope.kind == .function && env.kindOf x == some .cell) = true then .cell else k)
  | [], _, _, h => by simp at h
  | (n, k') :: r, x, k, h => by
    have ih := @lookup_relabel scope env hf r x k
    show List.lookup x ((if (k' == NameKind.free && env.scope.kind == .function && env.kindOf n == some .cell) = true then (n, NameKind.cell) else (n, k')) :: _) = _
    by_cases hx : (x == n) = true
    · have hxn : x = n := eq_of_beq hx
      subst hxn
      rw [List.lookup_cons, hx] at h
      cases h
      by_cases c : (k' == NameKind.free && env.scope.kind == .function && env.kindOf x == some .cell) = true
      · rw [if_pos c, if_pos c, List.lookup_cons, hx]
      · rw [if_neg c, if_neg c, List.lookup_cons, hx]
    · have hx' : (x == n) = false := by simpa using hx
      rw [List.lookup_cons, hx'] at h
      by_cases c : (k' == NameKind.free && env.scope.kind == .function && env.kindOf n == some .cell) = true
      · rw [if_pos c, List.lookup_cons, hx']; exact ih h
      · rw [if_neg c, List.lookup_cons, hx']; exact ih h
theorem relabel_none {scope : Scope} {env : Env} : ∀ {names : List (Str × NameKind)} {x : Str}, names.lookup x = none →
    (names.map fun (n, k) => if (k == NameKind.free && env.scope.kind == .function && env.kindOf n == some .cell) then (n, NameKind.cell) else (n, k)).lookup x = none
  | [], _, _ => rfl
  | (n, k') :: r, x, h => by
    have ih := @relabel_none scope env r x
    show List.lookup x ((if (k' == NameKind.free && env.scope.kind == .function && env.kindOf n == some .cell) = true then (n, NameKind.cell) else (n, k')) :: _) = _
    by_cases hx : (x == n) = true
    · rw [List.lookup_cons, hx] at h; cases h
    · have hx' : (x == n) = false := by simpa using hx
      rw [List.lookup_cons, hx'] at h
      by_cases c : (k' == NameKind.free && env.scope.kind == .function && env.kindOf n == some .cell) = true
      · rw [if_pos c, List.lookup_cons, hx']; exact ih h
      · rw [if_neg c, List.lookup_cons, hx']; exact ih h
section
variable {X : Cx} {scope : Scope} {own caps : List Str} {ix : List Nat} {cl : List (Str × Addr)} {pins : List (Addr × Obj)} {σ : St} {H : Hp} {s : Shared} {fp : List Addr} {E : Value → Shared → Prop}
theorem comp_start (S : CompOk X scope own caps ix) (hcl1 : ∀ y c, cl.lookup y = some c → X.env.cells.lookup y = some c) (hcl2 : ∀ y, (y, NameKind.free) ∈ scope.names → ∃ c, cl.lookup y = some c)
    (I : Inv X pins σ H s) (hfp : ∀ b ∈ fp, FpOk X pins H b) (hlt : ∀ b ∈ fp, b < s.heap.objs.size) {h4 : Heap} {t4 : Nat} (hn : h4.Ns s.heap.objs.size fun _ => none) (hk : ∀ b o, s.heap.get? b = some o → h4.get? b = some o) :
    Inv (compCx X scope cl s.heap.objs.size (own ++ caps) pins s H fp E) [] (seen σ own.length ix) H { s with heap := h4, toks := t4 } := by
  have kf : X.env.scope.kind = .function := I.ok.kind
  have nofp : ∀ b ∈ fp, b ≠ s.heap.objs.size := fun b hb => Nat.ne_of_lt (hlt b hb)
  have cellLt : ∀ x c, X.env.cells.lookup x = some c → c < s.heap.objs.size := fun x c e => by
    obtain ⟨v, o, ho, _⟩ := I.cell x c e
    exact Heap.lt_size ho
  have kinds : ∀ y k, scope.names.lookup y = some k → (relabel scope X.env).names.lookup y = some (if (k == NameKind.free && X.env.scope.kind == .function && X.env.kindOf y == some .cell) = true then .cell else k) := fun y k e => lookup_relabel (scope := scope) kf e
  have back : ∀ y k, (relabel scope X.env).names.lookup y = some k → ∃ k', scope.names.lookup y = some k' ∧ k = (if (k' == NameKind.free && X.env.scope.kind == .function && X.env.kindOf y == some .cell) = true then .cell else k') := fun y k e => by
    cases q : scope.names.lookup y with
    | none =>
      have := relabel_none (scope := scope) (env := X.env) q
      have e' : (scope.names.map fun (n, k) => if (k == NameKind.free && X.env.scope.kind == .function && X.env.kindOf n == some .cell) then (n, NameKind.cell) else (n, k)).lookup y = some k := e
      rw [this] at e'; cases e'
    | some k' =>
      refine ⟨k', rfl, ?_⟩
      have := kinds y k' q
      rw [e] at this
      exact Option.some.inj this
  have isCell : ∀ y, scope.names.lookup y = some .free → (relabel scope X.env).names.lookup y = some .cell := fun y e => by
    have := kinds y _ e
    rw [this, if_pos]
    rw [S.free y (lookup_mem e), kf]
    rfl
  refine ⟨⟨I.ok.mod, ?_, I.ok.glob, I.ok.blt, Nat.le_refl _, ?_, ?_, ?_, I.ok.hd, I.ok.frames, .inl rfl, ?_, I.bs, Nat.le_trans I.ok.bsz I.sz, ?_, ?_, I.stack, I.stkFree⟩, rfl, I.bare, Un.kept hk, ⟨_, hn, ?_⟩, ?_, ?_, ?_, ?_, I.hok.kept hk, ?_⟩
  · show (relabel scope X.env).kind = .function
    exact S.kind
  · intro x y c h1 h2
    exact I.ok.inj x y c (hcl1 x c h1) (hcl1 y c h2)
  · intro y hy
    have hy' : (relabel scope X.env).names.lookup y = some .cell ∨ (relabel scope X.env).names.lookup y = some .free := hy
    have : scope.names.lookup y = some .free := by
      rcases hy' with q | q
      · obtain ⟨k', e, ek⟩ := back y _ q
        by_cases c : (k' == NameKind.free && X.env.scope.kind == .function && X.env.kindOf y == some .cell) = true
        · rw [Bool.and_eq_true, Bool.and_eq_true] at c
          rw [e, eq_of_beq c.1.1]
        · rw [if_neg c] at ek
          exact absurd ek.symm (S.nocell _ (lookup_mem e))
      · obtain ⟨k', e, ek⟩ := back y _ q
        by_cases c : (k' == NameKind.free && X.env.scope.kind == .function && X.env.kindOf y == some .cell) = true
        · rw [if_pos c] at ek; cases ek
        · rw [if_neg c] at ek
          rw [e, ← ek]
    exact hcl2 y (lookup_mem this)
  · intro x c h _
    exact absurd h (by simp [compCx])
  · intro b hb
    refine ⟨nofp b hb, fun x c e => ?_⟩
    exact (hfp b hb).2.2.2.2.1 x c (hcl1 x c e)
  · intro b o e hb
    obtain ⟨_, _, _, q, _⟩ := hfp b hb
    rcases q with q | q
    · exact I.ok.noex b o e q
    · exact absurd (Nat.lt_of_lt_of_le (Heap.lt_size e) (Nat.le_trans I.ok.bsz q)) (Nat.lt_irrefl _)
  · intro b hb z
    rcases List.mem_cons.mp (I.stkSub b z) with e | e
    · exact (hfp b hb).2.1 e
    · exact (hfp b hb).2.2.1 e
  · intro i y v h1 h2 h3
    have hi : own.length ≤ i := by
      refine Nat.le_of_not_lt fun hlt' => ?_
      unfold seen at h2
      rw [List.getElem?_append_left (by rw [List.length_replicate]; exact hlt'), List.getElem?_replicate, if_pos hlt'] at h2
      cases h2
    have h1' : caps[i - own.length]? = some y := by
      have : (own ++ caps)[i]? = some y := h1
      rw [List.getElem?_append_right hi] at this
      exact this
    have h2' : (ix.map fun i => (σ[i]?).join)[i - own.length]? = some (some v) := by
      unfold seen at h2
      rw [List.getElem?_append_right (by rw [List.length_replicate]; exact hi), List.length_replicate] at h2
      exact h2
    rw [List.getElem?_map] at h2'
    have hx := congrArg (fun l => l[i - own.length]?) S.hix
    simp only [List.getElem?_map, h1', Option.map_some] at hx
    cases q : ix[i - own.length]? with
    | none => rw [q] at h2'; cases h2'
    | some j =>
      rw [q] at h2' hx
      have hj : X.N[j]? = some y := Option.some.inj hx
      have hv : (σ[j]?).join = some v := Option.some.inj h2'
      have hσ : σ[j]? = some (some v) := by
        cases r : σ[j]? with
        | none => rw [r] at hv; cases hv
        | some z => rw [r] at hv; cases z with
          | none => cases hv
          | some z => cases hv; rfl
      have hfree : scope.names.lookup y = some .free := S.hcaps y (List.mem_of_getElem? h1')
      have hkc := S.free y (lookup_mem hfree)
      obtain ⟨m, hm, hl⟩ := I.loc
      obtain ⟨u, ru, l⟩ := hl j y v hj hσ (.inr (.inl hkc))
      refine ⟨u, ru, .inr ⟨.inl (isCell y hfree), ?_⟩⟩
      rcases l with ⟨k, _⟩ | ⟨_, c, e, z⟩
      · have : X.env.kindOf y = some .local := k
        rw [hkc] at this; cases this
      · obtain ⟨c', e'⟩ := hcl2 y (lookup_mem hfree)
        have := hcl1 y c' e'
        rw [e] at this
        cases this
        obtain ⟨o, ho, hd⟩ := z
        exact ⟨c, e', o, hk c o ho, hd⟩
  · intro x c e
    obtain ⟨v, o, ho, hd⟩ := I.cell x c (hcl1 x c e)
    exact ⟨v, o, hk c o ho, hd⟩
  · exact I.hok.fresh (Nat.le_refl _)
  · intro x c e
    exact I.freeC x c (hcl1 x c e)
  · intro p hp
    have hp' : p ∈ X.pn ++ pins := by
      have : p ∈ (X.pn ++ pins) ++ [] := hp
      rwa [List.append_nil] at this
    obtain ⟨e, n, ne, nf, d⟩ := I.pin p hp'
    refine ⟨hk _ _ e, n, ?_, fun z => ?_, d⟩
    · exact Nat.ne_of_lt (Heap.lt_size e)
    · rcases List.mem_cons.mp (I.stkSub p.1 z) with q | q
      · exact ne q
      · exact nf q
  · show (seen σ own.length ix).length = (own ++ caps).length
    have := congrArg List.length S.hix
    rw [List.length_map, List.length_map] at this
    unfold seen
    rw [List.length_append, List.length_replicate, List.length_map, List.length_append, this]
end
end L3
set_option Elab.async false
set_option linter.all false
set_option maxRecDepth 100000
set_option maxHeartbeats 4000000
namespace L3
open PySem PySem.Spec PyProof.Rows L2
def KeepsSt (σ σ' : St) : Prop := σ.length = σ'.length ∧ ∀ (i : Nat) v, σ[i]? = some (some v) → σ'[i]? = some (some v)
def PTs (X : Cx) (ifs : List Expr) (t : TT) : Prop :=
  ∀ (pins : List (Addr × Obj)) (s : Shared) (σ : St) (H : Hp) (Q : Bool → Hp → Prop), Inv X pins σ H s → t σ H Q → wpAny (model X.prog X.w) X.A (testsOf ifs X.env) (TP X pins σ Q) X.xe s
def tYes : TT := fun _ H Q => Q true H
theorem pts_nil {X : Cx} : PTs X [] tYes := fun _ _ _ H _ I h => wpAny_pure ⟨H, I, h⟩
def tComp (wi : TI) (g : TG) (tt : TT) (te : TE) (own : Nat) (ix : List Nat) : TE := fun σ H Q => wi σ H fun J H1 => ∀ D, H1 D = none → ∃ W : Nat → Nat → List V → Hp → Prop, (∃ m, W 0 m [] (upd H1 D (.lst []))) ∧
  ∀ i m acc H', W i m acc H' → (J.stop i H' ∧ Q (.ref D) H') ∨ (J.go i H' ∧ ∀ x H2, J.yld i H' x H2 → g x (seen σ own ix) H2 fun σ3 H3 => KeepsSt (seen σ own ix) σ3 ∧ tt σ3 H3 fun b H4 => if b = true then
    te σ3 H4 fun v H5 => H5 D = some (.lst acc) ∧ acc.length < sizeLine ∧ ∃ m', m' < m ∧ W (i + 1) m' (acc ++ [v]) (upd H5 D (.lst (acc ++ [v])))
    else ∃ m', m' < m ∧ W (i + 1) m' acc H4)
theorem HOk.but {P : Program} {w : World} {H : Hp} {h1 h2 : Heap} {a : Addr} (ok : HOk P w H h1) (sb : Heap.SameBut a h1 h2) (ha : H a = none) : HOk P w H h2 := fun b ob e => by
  refine (ok b ob e).stay (fun c u hc q => (sb.2 c ?_).trans q) (fun _ q => q) fun _ _ q => q
  rintro rfl
  rcases hc with rfl | hc
  · rw [ha] at e; cases e
  · rw [ha] at hc; cases hc
section
variable {X : Cx} {scope : Scope} {own caps : List Str} {ix : List Nat} {elt tg iter : Expr} {ifs : List Expr} {pos : Pos} {wi : TI} {g : TG} {tt : TT} {te : TE}
theorem comp_block (hc : X.calm = true) (S : CompOk X scope own caps ix)
    (hg : ∀ cl C pins s3 H3 fp, PG (compCx X scope cl C (own ++ caps) pins s3 H3 fp fun _ _ => False) tg g)
    (ht : ∀ cl C pins s3 H3 fp, PTs (compCx X scope cl C (own ++ caps) pins s3 H3 fp fun _ _ => False) ifs tt)
    (he : ∀ cl C pins s3 H3 fp, PE (compCx X scope cl C (own ++ caps) pins s3 H3 fp fun _ _ => False) elt te)
    {cl : List (Str × Addr)} (hc1 : ∀ y c, cl.lookup y = some c → X.env.cells.lookup y = some c) (hc2 : ∀ y, (y, NameKind.free) ∈ scope.names → ∃ c, cl.lookup y = some c)
    {pins : List (Addr × Obj)} {σ : St} {H2 : Hp} {s2 : Shared} {Q : VK} {it : Addr} {fp : List Addr} {tn : Nat → Heap → Prop} {J : It} (I2 : Inv X pins σ H2 s2) (T : Turn X.prog X.w X.K tg J fp it tn) (st2 : tn 0 s2.heap) (f2 : ∀ b ∈ fp, FpOk X pins H2 b)
    (q : ∀ D, H2 D = none → ∃ W : Nat → Nat → List V → Hp → Prop, (∃ m, W 0 m [] (upd H2 D (.lst []))) ∧
      ∀ i m acc H', W i m acc H' → (J.stop i H' ∧ Q (.ref D) H') ∨ (J.go i H' ∧ ∀ x H2, J.yld i H' x H2 → g x (seen σ own.length ix) H2 fun σ3 H3 => KeepsSt (seen σ own.length ix) σ3 ∧ tt σ3 H3 fun b H4 => if b = true then
        te σ3 H4 fun v H5 => H5 D = some (.lst acc) ∧ acc.length < sizeLine ∧ ∃ m', m' < m ∧ W (i + 1) m' (acc ++ [v]) (upd H5 D (.lst (acc ++ [v])))
        else ∃ m', m' < m ∧ W (i + 1) m' acc H4))
    {RR : Value → Addr → Result → Shared → Prop} {E : Value → Shared → Prop}
    (hRR : ∀ D C m s' H', H2 D = none → s'.heap.Ns C m → FpOk X pins H' C → Inv X pins σ H' s' → Q (.ref D) H' → RR (.ref D) C (.ok .next) s') :
    wpAny (model X.prog X.w) X.A (newList []) (fun acc s3 => wpAny (model X.prog X.w) X.A (newFunctionEnv scope X.env.globals cl [] X.env.qual none .none (some X.env)) (fun cenv s4 =>
      codeAny (model X.prog X.w) X.A (.compStart (.ListComp elt [⟨tg, iter, ifs, 0⟩] scope pos) 0 (.ref it) acc { cenv with scope := relabel scope X.env }) (RR acc cenv.locals) s4) E s3) E s2 := by
  have hD : H2 s2.heap.objs.size = none := I2.hok.fresh (Nat.le_refl _)
  obtain ⟨W, ⟨m0, w0⟩, turn⟩ := q _ hD
  refine wpAny_newObj_type (wpAny_newFunctionEnv S.nocell (by intro y hy; simp at hy) (fun h1 hns1 hsb1 => ?_) S.kind)
  dsimp only at hns1 hsb1 ⊢
  have I3 : Inv X pins σ (upd H2 s2.heap.objs.size (.lst [])) { s2 with heap := s2.heap.push { cls := .type "list", dict := none, data := .seq ([] : List Value).toArray } } :=
    I2.lnew (its := []) (t' := s2.toks) .nil (Nat.zero_le _)
  generalize hs3 : ({ s2 with heap := s2.heap.push { cls := .type "list", dict := none, data := .seq ([] : List Value).toArray } } : Shared) = s3 at I3
  have e3 : s2.heap.push { cls := .type "list", dict := none, data := .seq ([] : List Value).toArray } = s3.heap := by rw [← hs3]
  rw [e3] at hns1 hsb1 ⊢
  have k1 : ∀ b o, s3.heap.get? b = some o → h1.get? b = some o := fun b o e => (hsb1.2 b (Nat.ne_of_lt (Heap.lt_size e))).trans (Heap.get?_push_of_some _ e)
  have k23 : ∀ b o, s2.heap.get? b = some o → s3.heap.get? b = some o := fun b o e => by rw [← e3]; exact Heap.get?_push_of_some _ e
  have hz : s3.heap.objs.size = s2.heap.objs.size + 1 := by rw [← e3, Heap.size_push]
  have fpObj : ∀ b ∈ fp, ∃ o, s2.heap.get? b = some o := fun b hb => let ⟨o, e, _⟩ := T.obj 0 _ st2 b hb; ⟨o, e⟩
  have fplt : ∀ b ∈ fp, b < s2.heap.objs.size := fun b hb => let ⟨o, e⟩ := fpObj b hb; Heap.lt_size e
  have f3 : ∀ b ∈ fp, FpOk X pins (upd H2 s2.heap.objs.size (.lst [])) b := fun b hb => ⟨by rw [upd_ne (Nat.ne_of_lt (fplt b hb))]; exact (f2 b hb).1, (f2 b hb).2⟩
  have I4 : Inv (compCx X scope cl s3.heap.objs.size (own ++ caps) pins s3 (upd H2 s2.heap.objs.size (.lst [])) fp fun _ _ => False) [] (seen σ own.length ix) (upd H2 s2.heap.objs.size (.lst [])) { s3 with heap := h1, toks := s3.toks + ([] : List (Str × Value)).length } :=
    comp_start S hc1 hc2 I3 f3 (fun b hb => by rw [hz]; exact Nat.lt_succ_of_lt (fplt b hb)) hns1 k1
  have st4 : tn 0 h1 := T.keep 0 _ _ st2 fun b hb o e => k1 b o (k23 b o e)
  generalize hs4 : ({ s3 with heap := h1, toks := s3.toks + ([] : List (Str × Value)).length } : Shared) = s4 at I4
  have es4 : ({ s2 with heap := h1, toks := s2.toks + ([] : List (Str × Value)).length } : Shared) = s4 := by rw [← hs4, ← hs3]
  have e4 : h1 = s4.heap := by rw [← hs4]
  have loop : codeAny (model X.prog X.w) X.A (.compLoop (.ListComp elt [⟨tg, iter, ifs, 0⟩] scope pos) 0 (.ref it) (.ref s2.heap.objs.size) (compEnvC scope cl s3.heap.objs.size X.env)) (RR (.ref s2.heap.objs.size) s3.heap.objs.size) s4 := by
    let X' := compCx X scope cl s3.heap.objs.size (own ++ caps) pins s3 (upd H2 s2.heap.objs.size (.lst [])) fp fun _ _ => False
    have fp' : ∀ {H' : Hp}, (∀ b ∈ fp, H' b = none) → ∀ b ∈ fp, FpOk X' [] H' b := fun {H'} hn b hb => by
      obtain ⟨_, a1, a2, a3, a4, a5⟩ := f3 b hb
      refine ⟨hn b hb, Nat.ne_of_lt (show b < s3.heap.objs.size from by rw [hz]; exact Nat.lt_succ_of_lt (fplt b hb)), fun z => ?_, .inl hb, fun x c e => a4 x c (hc1 x c e), fun p hp => ?_⟩
      · rcases List.mem_cons.mp (I3.stkSub b z) with e | e
        · exact a1 e
        · exact a2 e
      · have : p ∈ (X.pn ++ pins) ++ [] := hp
        rw [List.append_nil] at this
        exact a5 p this
    refine comp_loop (fun n s' => ∃ i acc H', Inv X' [] (seen σ own.length ix) H' s' ∧ tn i s'.heap ∧ (∀ b ∈ fp, H' b = none) ∧ W i n acc H') rfl ?_ m0 ⟨0, [], _, I4, by rw [← e4]; exact st4, fun b hb => (f3 b hb).1, w0⟩
    rintro n s5 ⟨i, acc, H5, I5, st5, fr5, w5⟩
    refine wpAny_noRaise ?_
    rcases turn i n acc H5 w5 with ⟨stop, qn⟩ | ⟨go, step⟩
    · refine thn (T.done X' rfl rfl rfl hc i [] s5 _ H5 _ I5 (fp' fr5) st5 stop) fun r s6 ⟨hr, I6⟩ => ?_
      subst hr
      obtain ⟨m, hm, _⟩ := I6.loc
      refine hRR _ _ m s6 H5 hD hm (I3.fpOk (Nat.le_refl _) I6.free) (I3.call' (s' := s6) I6.os I6.base I6.hok I6.bare fun b hb => ?_) qn
      obtain ⟨_, a1, a2, a3, a4, a5⟩ := f3 b hb
      exact ⟨a3, a1, a4, a5⟩
    · refine thn (T.item X' rfl rfl rfl hc i [] s5 _ H5 (fun _ _ => False) I5 (fp' fr5) st5 go) fun r s6 ⟨u, hr, h6⟩ => ?_
      subst hr
      refine wpAny_noRaise (thn h6 fun _ s7 ⟨x, H7, I7, r7, y7, st7, fr7⟩ => ?_)
      have I7' := I7.pinned (fp' fr7) (T.obj _ _ st7)
      refine wpAny_noRaise (thn (hg _ _ _ _ _ _ _ s7 _ H7 x u _ I7' r7 (step x H7 y7)) fun _ s8 ⟨σ8, H8, I8, ks, q8⟩ => ?_)
      refine wpAny_noRaise (thn (ht _ _ _ _ _ _ _ s8 σ8 H8 _ I8 q8) fun b s9 ⟨H9, I9, q9⟩ => ?_)
      have back : ∀ {s' : Shared} {H' : Hp} {acc' : List V} {m' : Nat}, Inv X' ([] ++ pinsAt fp s7.heap) σ8 H' s' → m' < n → W (i + 1) m' acc' H' → ∃ m, m < n ∧ ∃ i acc H', Inv X' [] (seen σ own.length ix) H' s' ∧ tn i s'.heap ∧ (∀ b ∈ fp, H' b = none) ∧ W i m acc H' := fun {s' H' acc' m'} J' hm w' => by
        refine ⟨m', hm, i + 1, acc', H', (J'.unpinned).weak ks.1 ks.2, T.keep _ _ _ st7 fun b hb o e => (J'.pin (b, o) (List.mem_append_right _ (List.mem_append_right _ (mem_pinsAt hb e)))).1, fun b hb => ?_, w'⟩
        obtain ⟨o, e, d⟩ := T.obj _ _ st7 b hb
        exact (J'.pin (b, o) (List.mem_append_right _ (List.mem_append_right _ (mem_pinsAt hb e)))).2.1
      cases b with
      | false =>
        rw [if_neg Bool.false_ne_true] at q9 ⊢
        obtain ⟨m', hm, w'⟩ := q9
        exact back I9 hm w'
      | true =>
        rw [if_pos rfl] at q9 ⊢
        refine wpAny_noRaise (thn (he _ _ _ _ _ _ _ s9 σ8 H9 _ I9 q9) fun v s10 ⟨y, H10, I10, r10, hD10, hsz, m', hm, w'⟩ => ?_)
        refine wpAny_noRaise ?_
        have := mt_append (X := X') _ s10 σ8 H10 (.ref s2.heap.objs.size) [y] (.ref s2.heap.objs.size) [v] (fun _ H' => H' = upd H10 s2.heap.objs.size (.lst (acc ++ [y]))) I10 rfl (.cons r10 .nil) ⟨_, acc, y, rfl, rfl, hD10, hsz, rfl⟩
        refine thn this fun _ s11 ⟨_, H11, I11, _, eH⟩ => ?_
        subst eH
        exact back I11 hm w'
  have goal : codeAny (model X.prog X.w) X.A (.compStart (.ListComp elt [⟨tg, iter, ifs, 0⟩] scope pos) 0 (.ref it) (.ref s2.heap.objs.size) (compEnvC scope cl s3.heap.objs.size X.env)) (RR (.ref s2.heap.objs.size) s3.heap.objs.size) s4 :=
    codeAny_compStart_list loop (T.self _ 0 s4 _ _ (by rw [← e4]; exact st4) loop)
  rw [← es4] at goal
  exact goal
theorem pe_comp (hc : X.calm = true) (S : CompOk X scope own caps ix) (hi : PI X tg iter wi)
    (hg : ∀ cl C pins s3 H3 fp, PG (compCx X scope cl C (own ++ caps) pins s3 H3 fp fun _ _ => False) tg g)
    (ht : ∀ cl C pins s3 H3 fp, PTs (compCx X scope cl C (own ++ caps) pins s3 H3 fp fun _ _ => False) ifs tt)
    (he : ∀ cl C pins s3 H3 fp, PE (compCx X scope cl C (own ++ caps) pins s3 H3 fp fun _ _ => False) elt te)
    (hs : ∀ x, foldedSetIterable iter X.env x = pure x := by intro _; rfl) :
    PE X (.ListComp elt [⟨tg, iter, ifs, 0⟩] scope pos) (tComp wi g tt te own.length ix) := by
  intro pins s σ H Q I h
  obtain ⟨cl, hclos, hc1, hc2⟩ := closureFor_is (scope := scope) (env := X.env) fun y hy => I.ok.has y (.inl (S.free y hy))
  rw [eval_ListComp]
  refine wpAny_comprehension_free (use := none) rfl hs hclos S.kind S.names (thn (hi pins s σ H _ I h) fun v s1 h1 => thn h1 fun itv s2 h2 => ?_)
  obtain ⟨it, fp, tn, J, H2, e, I2, T, st2, f2, q⟩ := h2
  subst e
  refine comp_block (RR := fun acc C => compPost (model X.prog X.w) X.A X.xe none (EP X pins σ Q) acc C) hc S hg ht he hc1 hc2 I2 T st2 f2 q ?_
  intro D C m s' H' _ hn fc I' qn
  obtain ⟨a0, a1, a2, a3, a4, a5⟩ := fc
  exact ⟨m, hn, fun h' sb => ⟨.ref D, H', I'.turned (t' := s'.toks) (fun b o hb e => (sb.2 b hb).trans e) a0 a1 a3 a4 a5, rfl, qn⟩⟩
def tSetComp (i : Nat) (t : TE) : TS := fun D σ H => t σ H fun x H1 => D.nx (σ.set i (some x)) H1
theorem ps_set_comp {i : Nat} {y : Str} {py spos : Pos} (hN : X.N.Nodup) (hy : X.N[i]? = some y) (hly : Loc X.env.scope y) (hf : X.fn y = true ∨ X.env.scope.names.lookup y = some .local) (hc : X.calm = true) (S : CompOk X scope own caps ix) (hi : PI X tg iter wi)
    (hg : ∀ cl C pins s3 H3 fp, PG (compCx X scope cl C (own ++ caps) pins s3 H3 fp fun _ _ => False) tg g)
    (ht : ∀ cl C pins s3 H3 fp, PTs (compCx X scope cl C (own ++ caps) pins s3 H3 fp fun _ _ => False) ifs tt)
    (he : ∀ cl C pins s3 H3 fp, PE (compCx X scope cl C (own ++ caps) pins s3 H3 fp fun _ _ => False) elt te)
    (hsw : swapsWith (.ListComp elt [⟨tg, iter, ifs, 0⟩] scope pos) (some (.Name y py)) spos.line X.env = pure true := by rfl)
    (hs : ∀ x, foldedSetIterable iter X.env x = pure x := by intro _; rfl) :
    PS X (.Assign [.Name y py] (.ListComp elt [⟨tg, iter, ifs, 0⟩] scope pos) spos) (tSetComp i (tComp wi g tt te own.length ix)) := by
  intro pins s σ H D I h
  obtain ⟨cl, hclos, hc1, hc2⟩ := closureFor_is (scope := scope) (env := X.env) fun y hy => I.ok.has y (.inl (S.free y hy))
  rw [exec_Assign_Name_used _ _ _ _ hsw]
  refine wpAny_bind (wpAny_standAt (wpAny_bind ?_))
  show wpAny _ X.A (do let _ ← comprehension (.ListComp elt [⟨tg, iter, ifs, 0⟩] scope pos) scope X.env _ (newList []) false (eval iter X.env) (some (assign (.Name y py) X.env))) _ _ s
  refine wpAny_bind (thn (wpAny_comprehension_free (use := some (assign (.Name y py) X.env)) (Q := fun _ s' => SP X pins D .next s') rfl hs hclos S.kind S.names (thn (hi pins s σ H _ I h) fun v s1 h1 => thn h1 fun itv s2 h2 => ?_)) fun _ s' hq => wpAny_pure (wpAny_pure hq))
  obtain ⟨it, fp, tn, J, H2, e, I2, T, st2, f2, q⟩ := h2
  subst e
  refine comp_block (Q := fun x H1 => D.nx (σ.set i (some x)) H1) (RR := fun acc C => compPost (model X.prog X.w) X.A X.xe (some (assign (.Name y py) X.env)) (fun _ s' => SP X pins D .next s') acc C) hc S hg ht he hc1 hc2 I2 T st2 f2 q ?_
  intro D' C m s' H1 hD' hn fc I1 nx
  obtain ⟨a0, a1, a2, a3, a4, a5⟩ := fc
  show wpAny _ X.A (assign (.Name y py) X.env (.ref D')) _ _ s'
  refine wpAny_assign_Name (store_ok2 I1 hN hy hly (v := .ref D') rfl (fun s'' I2' ⟨a, sb, ha⟩ => ?_) hf)
  have hCa : C ≠ a := by
    rcases ha with e | e
    · rw [e]; exact a1
    · exact fun z => a4 _ _ e z.symm
  refine ⟨m, hn.sameBut sb hCa, fun h' sb' => ⟨_, H1, I2'.turned (t' := s''.toks) (fun b o hb e => (sb'.2 b hb).trans e) a0 a1 a3 a4 a5, nx⟩⟩
end
end L3
set_option Elab.async false
set_option linter.all false
set_option maxRecDepth 100000
set_option maxHeartbeats 4000000
namespace L3
open PySem PySem.Spec PyProof.Rows L2
section
variable {X : Cx} {a b : Expr} {ta tb : TE} {pos : Pos}
def rAddA : R2 := fun x y H Q => (∃ i j, x = .int i ∧ y = .int j ∧ Q (.int (i + j)) H) ∨ (∃ i j, x = .str i ∧ y = .str j ∧ i.length + j.length ≤ sizeLine ∧ Q (.str (i ++ j)) H) ∨ rCat x y H Q
theorem op_addA : OpR X (binaryOp .Add) rAddA := op_add.or (op_add_str.or op_cat)
def rMulA : R2 := fun x y H Q => (∃ i j, x = .int i ∧ y = .int j ∧ CMul i j ∧ Q (.int (i * j)) H) ∨ ∃ z n, x = .str z ∧ y = .int n ∧ 0 ≤ n ∧ n ≤ 1000 ∧ z.length ≤ 1000 ∧ Q (.str (tx (List.replicate n.toNat (cs z)).flatten)) H
theorem op_mulA : OpR X (binaryOp .Mult) rMulA := op_mul.or op_mul_str
def rLtA : R2 := fun x y H Q => (∃ i j, x = .int i ∧ y = .int j ∧ Q (.bl (decide (i < j))) H) ∨ ∃ i j, x = .str i ∧ y = .str j ∧ Q (.bl (decide (cs i < cs j))) H
theorem op_ltA : OpR X (compareOp .Lt) rLtA := op_lt.or op_lt_str'
def rLeA : R2 := fun x y H Q => (∃ i j, x = .int i ∧ y = .int j ∧ Q (.bl (decide (i ≤ j))) H) ∨ ∃ i j, x = .str i ∧ y = .str j ∧ Q (.bl (!(decide (cs j < cs i)))) H
theorem op_leA : OpR X (compareOp .LtE) rLeA := op_le.or op_le_str
theorem op_gt_str : OpR X (compareOp .Gt) (fun x y H Q => ∃ i j, x = .str i ∧ y = .str j ∧ Q (.bl (decide (cs j < cs i))) H) := by
  intro pins s σ H x y v u Q I rx ry h
  obtain ⟨i, j, rfl, rfl, q⟩ := h
  obtain ⟨t, rfl⟩ := rx
  obtain ⟨t', rfl⟩ := ry
  exact PySem.P.gt_str ⟨.bl _, H, I, rfl, q⟩
def rGtA : R2 := fun x y H Q => (∃ i j, x = .int i ∧ y = .int j ∧ Q (.bl (decide (j < i))) H) ∨ ∃ i j, x = .str i ∧ y = .str j ∧ Q (.bl (decide (cs j < cs i))) H
theorem op_gtA : OpR X (compareOp .Gt) rGtA := op_gt.or op_gt_str
def rSlA (K : PySem.W.Frag) : V → Option Int → Option Int → Hp → VK → Prop := fun x lo hi H Q => rSlL K x lo hi H Q ∨ rSlS x lo hi H Q
theorem sl_any : SlR X (rSlA X.K) := sl_list.or sl_str
def cV : V → Option Value
  | .ty n => some (.type n)
  | .ref a => some (.ref a)
  | _ => none
theorem call_isi : CallR X (.builtin "isinstance") (fun xs H Q => ∃ x c u t b, xs = [x, c] ∧ cV c = some u ∧ TyOf X.K H x t ∧ PySem.W.kitOne X.K t u = some b ∧ Q (.bl b) H) := by
  intro pins s σ H xs us Q I r h
  obtain ⟨x, c, u, t, b, rfl, hc, ty, e, q⟩ := h
  obtain ⟨v, w', rfl, rx, rc⟩ := vals2 r
  have : w' = u := by
    cases c with
    | ty n => cases hc; exact rc
    | ref a => cases hc; exact rc
    | _ => cases hc
  subst this
  exact isinst_ok I rx ty e fun tk => ⟨.bl b, H, I.tok tk, rfl, q⟩
end
end L3
set_option Elab.async false
set_option linter.all false
set_option maxRecDepth 100000
set_option maxHeartbeats 4000000
namespace L3
open PySem PySem.Spec PyProof.Rows L2
def Iel (K : PySem.W.Frag) (a : Addr) : It := ⟨fun i H => ∃ xs x, SqL K H a xs ∧ xs[i]? = some x, fun i H v H' => ∃ p x, H p = none ∧ (∀ xs, SqL K H a xs → xs[i]? = some x) ∧ v = .ref p ∧ H' = upd H p (.tup [.int (i : Nat), x]), fun i H => ∃ xs, SqL K H a xs ∧ i = xs.length⟩
section
variable {X : Cx}
def iEnumL (K : PySem.W.Frag) (ta : TA) : TI := fun σ H R => ta σ H fun vs H1 => ∃ a, vs = [.ref a] ∧ (∃ xs, SqL K H1 a xs) ∧ R (Iel K a) H1
end
def ForEL (K : PySem.W.Frag) (a : Addr) (g : TG) (tb : TS) (D : Ends) (σ : St) (H : Hp) : Prop := ∃ W : Nat → Nat → St → Hp → Prop, (∃ m, W 0 m σ H) ∧ ∀ i m σ H, W i m σ H →
  ((Iel K a).stop i H ∧ D.nx σ H) ∨ ((Iel K a).go i H ∧ ∃ N : St → Hp → Prop, (∀ σ' H', N σ' H' → ∃ m', m' < m ∧ W (i + 1) m' σ' H') ∧ ∀ x H', (Iel K a).yld i H x H' → g x σ H' fun σ2 H2 => tb { D with nx := N, ct := N, bk := D.nx } σ2 H2)
theorem rd_el {K : PySem.W.Frag} {ta : TA} {g : TG} {tb : TS} {D : Ends} {σ : St} {H : Hp} : tFor (iEnumL K ta) g tb D σ H = ta σ H fun vs H1 => ∃ a, vs = [.ref a] ∧ (∃ xs, SqL K H1 a xs) ∧ ForEL K a g tb D σ H1 := rfl
def ForT (K : PySem.W.Frag) (a : Addr) (g : TG) (tb : TS) (D : Ends) (σ : St) (H : Hp) : Prop := ∃ W : Nat → Nat → St → Hp → Prop, (∃ m, W 0 m σ H) ∧ ∀ i m σ H, W i m σ H →
  ((Itt K a).stop i H ∧ D.nx σ H) ∨ ((Itt K a).go i H ∧ ∃ N : St → Hp → Prop, (∀ σ' H', N σ' H' → ∃ m', m' < m ∧ W (i + 1) m' σ' H') ∧ ∀ x H', (Itt K a).yld i H x H' → g x σ H' fun σ2 H2 => tb { D with nx := N, ct := N, bk := D.nx } σ2 H2)
theorem rd_t {K : PySem.W.Frag} {tl : TE} {g : TG} {tb : TS} {D : Ends} {σ : St} {H : Hp} : tFor (iTup K tl) g tb D σ H = tl σ H fun x H1 => ∃ a, x = .ref a ∧ (∃ xs, SqT K H1 a xs) ∧ ForT K a g tb D σ H1 := rfl
def tTr (K : PySem.W.Frag) (ta : TE) : TT := fun σ H Q => ta σ H fun x H' => ∃ k, TruV K x H' k ∧ Q k H'
theorem rd_tr {K : PySem.W.Frag} {ta : TE} {σ : L2.St} {H : Hp} {Q : Bool → Hp → Prop} : tTr K ta σ H Q = ta σ H fun x H' => ∃ k, TruV K x H' k ∧ Q k H' := rfl
def tBl (ta : TE) : TT := fun σ H Q => ta σ H fun x H' => ∃ k, x = .bl k ∧ Q k H'
theorem rd_bl {ta : TE} {σ : L2.St} {H : Hp} {Q : Bool → Hp → Prop} : tBl ta σ H Q = ta σ H fun x H' => ∃ k, x = .bl k ∧ Q k H' := rfl
section
variable {X : Cx} {a : Expr} {ta : TE}
end
end L3
set_option Elab.async false
set_option linter.all false
set_option maxRecDepth 100000
set_option maxHeartbeats 4000000
namespace L3
open PySem PySem.Spec PyProof.Rows L2
def Irv (K : PySem.W.Frag) (a : Addr) (n : Nat) : It := ⟨fun i H => ∃ xs, SqL K H a xs ∧ xs.length = n ∧ i < n, fun i H v H' => H' = H ∧ ∀ xs, SqL K H a xs → xs.length = n → xs[n - 1 - i]? = some v, fun i H => i = n⟩
section
variable {X : Cx} {tg : Expr}
def iRev (K : PySem.W.Frag) (ta : TA) : TI := fun σ H R => ta σ H fun vs H1 => ∃ a xs, vs = [.ref a] ∧ SqL K H1 a xs ∧ R (Irv K a xs.length) H1
end
section
variable {prog : Program} {w : World} {A : Around} {E : Value → Shared → Prop} {s : Shared}
end
section
variable {X : Cx}
def tRevL (K : PySem.W.Frag) (ta : TA) : TE := fun σ H Q => ta σ H fun vs H1 => ∃ a xs, vs = [.ref a] ∧ SqL K H1 a xs ∧ ∀ l, H1 l = none → Q (.ref l) (upd H1 l (.lst xs.reverse))
theorem rd_revl {K : PySem.W.Frag} {ta : TA} {σ : L2.St} {H : Hp} {Q : VK} : tRevL K ta σ H Q = ta σ H fun vs H1 => ∃ a xs, vs = [.ref a] ∧ SqL K H1 a xs ∧ ∀ l, H1 l = none → Q (.ref l) (upd H1 l (.lst xs.reverse)) := rfl
end
def Izp (K : PySem.W.Frag) (a b : Addr) : It := ⟨fun i H => ∃ xs ys x y, SqL K H a xs ∧ SqL K H b ys ∧ xs[i]? = some x ∧ ys[i]? = some y, fun i H v H' => ∃ p x y, H p = none ∧ (∀ xs, SqL K H a xs → xs[i]? = some x) ∧ (∀ ys, SqL K H b ys → ys[i]? = some y) ∧ v = .ref p ∧ H' = upd H p (.tup [x, y]), fun i H => ∃ xs ys, SqL K H a xs ∧ SqL K H b ys ∧ (xs.length = i ∨ ys.length = i) ∧ i ≤ xs.length ∧ i ≤ ys.length⟩
theorem kind_ne {h : Heap} {a b : Addr} {o1 o2 : Obj} {t u : String} (h1 : h.get? a = some o1) (c1 : o1.cls = .type t) (h2 : h.get? b = some o2) (c2 : o2.cls = .type u) (hne : t ≠ u) : a ≠ b := fun z => by
  rw [z, h2] at h1
  cases h1
  rw [c2] at c1
  exact hne (Value.type.inj c1).symm
structure Apart5 (z TI TO i1 i2 : Addr) : Prop where
  TIz : TI ≠ z
  TOz : TO ≠ z
  i1z : i1 ≠ z
  i2z : i2 ≠ z
  TITO : TI ≠ TO
  TIi1 : TI ≠ i1
  TIi2 : TI ≠ i2
  TOi1 : TO ≠ i1
  TOi2 : TO ≠ i2
  i12 : i1 ≠ i2
def ZipAt (z TI TO i1 i2 l1 l2 : Addr) (i : Nat) (h : Heap) : Prop := IsZip h z TI TO .none ∧ IsPair h TI (.ref i1) (.ref i2) ∧ (∃ a b, IsPair h TO a b) ∧ h.IsListIter i1 l1 i ∧ h.IsListIter i2 l2 i
theorem ZipAt.apart {z TI TO i1 i2 l1 l2 : Addr} {i : Nat} {h : Heap} {xs ys : Array Value} (D : Apart5 z TI TO i1 i2) (st : ZipAt z TI TO i1 i2 l1 l2 i h) (h1 : h.IsList l1 xs) (h2 : h.IsList l2 ys) : ZipApart z TI TO i1 i2 l1 l2 := by
  obtain ⟨hz, hTI, ⟨a, b, hTO⟩, ⟨o1, e1, c1, _⟩, ⟨o2, e2, c2, _⟩⟩ := st
  obtain ⟨p1, q1, k1, _⟩ := h1
  obtain ⟨p2, q2, k2, _⟩ := h2
  exact ⟨D.TIz, D.TOz, D.i1z, D.i2z, D.TITO, D.TIi1, D.TIi2, D.TOi1, D.TOi2, D.i12, kind_ne q1 k1 hz rfl (by decide), kind_ne q1 k1 hTO rfl (by decide), kind_ne q1 k1 e1 c1 (by decide), kind_ne q1 k1 e2 c2 (by decide), kind_ne q2 k2 hz rfl (by decide), kind_ne q2 k2 hTO rfl (by decide), kind_ne q2 k2 e1 c1 (by decide), kind_ne q2 k2 e2 c2 (by decide)⟩
section
variable {X : Cx}
def iZip (K : PySem.W.Frag) (ta : TA) : TI := fun σ H R => ta σ H fun vs H1 => ∃ a b, vs = [.ref a, .ref b] ∧ (∃ xs, SqL K H1 a xs) ∧ (∃ ys, SqL K H1 b ys) ∧ R (Izp K a b) H1
end
def ForZ (K : PySem.W.Frag) (a b : Addr) (g : TG) (tb : TS) (D : Ends) (σ : L2.St) (H : Hp) : Prop := ∃ W : Nat → Nat → L2.St → Hp → Prop, (∃ m, W 0 m σ H) ∧ ∀ i m σ H, W i m σ H →
  ((Izp K a b).stop i H ∧ D.nx σ H) ∨ ((Izp K a b).go i H ∧ ∃ N : L2.St → Hp → Prop, (∀ σ' H', N σ' H' → ∃ m', m' < m ∧ W (i + 1) m' σ' H') ∧ ∀ x H', (Izp K a b).yld i H x H' → g x σ H' fun σ2 H2 => tb { D with nx := N, ct := N, bk := D.nx } σ2 H2)
theorem rd_z {K : PySem.W.Frag} {ta : TA} {g : TG} {tb : TS} {D : Ends} {σ : L2.St} {H : Hp} : tFor (iZip K ta) g tb D σ H = ta σ H fun vs H1 => ∃ a b, vs = [.ref a, .ref b] ∧ (∃ xs, SqL K H1 a xs) ∧ (∃ ys, SqL K H1 b ys) ∧ ForZ K a b g tb D σ H1 := rfl
end L3
set_option Elab.async false
set_option linter.all false
set_option maxRecDepth 100000
set_option maxHeartbeats 4000000
namespace L3
open PySem PySem.Spec PyProof.Rows L2
abbrev xob (C : Addr) (dx : Option Addr) (t : Addr) (tb : Value) : Obj := { cls := .ref C, dict := dx, data := .fields #[.ref t, tb, .none, .none, .bool false, .none] }
abbrev xog (C : Addr) (dx : Option Addr) (t : Addr) (tb c : Value) (k : Bool) : Obj := { cls := .ref C, dict := dx, data := .fields #[.ref t, tb, c, .none, .bool k, .none] }
def TbOk (h : Heap) (x : Addr) (tb : Value) : Prop := tb = .none ∨ ∃ T oT ts, tb = .ref T ∧ T ≠ x ∧ h.get? T = some oT ∧ oT.data = .fields ts ∧ 3 < ts.size
section
variable {M : Model} {A : Around} {E : Value → Shared → Prop} {s : Shared} {base : Heap} {env env0 : Env} {outer : List Env} {L x t C : Addr} {dx : Option Addr} {cx : Value} {kx : Bool}
theorem frameOf_same (h : env.frame = env0.frame) : PySem.frameOf env = PySem.frameOf env0 := by unfold PySem.frameOf; rw [h]
theorem entry_x {tb head : Value} {hadNext : Bool} {Q : Unit → Shared → Prop} (hfr : A.frames = some (env0 :: outer)) (hl : s.heap.FunFrames base (env0 :: outer)) (hf : env0.frame = some L) (he : env.frame = some L)
    (hx : s.heap.get? x = some (xog C dx t tb cx kx))
    (h : ∀ h' oT ts, h'.get? x = some (xog C dx t (.ref s.heap.objs.size) cx kx) → s.heap.objs.size ≠ x → h'.get? s.heap.objs.size = some oT → oT.data = .fields ts → 3 < ts.size →
      (∀ b o, b ≠ x → b ∉ frs (env0 :: outer) → s.heap.get? b = some o → h'.get? b = some o) → (∀ b o, b ≠ x → s.heap.get? b = some o → ∃ sl, h'.get? b = some { o with slots := sl }) → Q () { s with heap := h' }) :
    wpAny M A (do let a ← PySem.frameOf env; let pl ← entryPlaceOf L hadNext; let b ← EntryCells.newEntry head a .none (rawInt L) .none pl; setField (.ref x) 1 b) Q E s := by
  have hxf : x ∉ frs (env0 :: outer) := fun hm => by
    obtain ⟨_, o, ho, hnf⟩ := hl.mem hm
    rw [hx] at ho
    cases ho
    exact hnf _ rfl
  rw [frameOf_same (he.trans hf.symm)]
  refine wpAny_bind (wpAny_frameOf_fun hfr hl hf fun h1 hs1 => wpAny_bind (wpAny_entryPlaceOf fun pl hpl => ?_))
  unfold EntryCells.newEntry newFields
  refine wpAny_bind (wpAny_newObj_type ?_ (hpl.sizeOk5 _ _ _ _ _))
  have hz : h1.objs.size = s.heap.objs.size := hs1.1
  have hx1 : h1.get? x = some (xog C dx t tb cx kx) := (hs1.2.1 x hxf).trans hx
  generalize ho : ({ cls := .type "traceback", dict := none, data := .fields ([head, .ref L, .none, rawInt L, .none] ++ (if pl.isEmpty then List.replicate 6 Value.none else pl)).toArray } : Obj) = ob
  have hx2 : (h1.push ob).get? x = some (xog C dx t tb cx kx) := Heap.get?_push_of_some _ hx1
  refine wpAny_setField hx2 rfl (by show 1 < 6; decide) ?_
  have hne : h1.objs.size ≠ x := Nat.ne_of_gt (Heap.lt_size hx1)
  have hx3 : ((h1.push ob).update x (Obj.mapFields (·.setIfInBounds 1 (Value.ref h1.objs.size)))).get? x = some (xog C dx t (.ref h1.objs.size) cx kx) :=
    Heap.get?_update_self (Obj.mapFields (·.setIfInBounds 1 (Value.ref h1.objs.size))) hx2 rfl
  have hT : ((h1.push ob).update x (Obj.mapFields (·.setIfInBounds 1 (Value.ref h1.objs.size)))).get? h1.objs.size = some ob :=
    (Heap.get?_update_other _ _ (Ne.symm hne)).trans (Heap.get?_push_size h1 (by rw [← ho]; rfl))
  rw [hz] at hx3 hT hne
  have kp : ∀ b o, b ≠ x → h1.get? b = some o → ((h1.push ob).update x (Obj.mapFields (·.setIfInBounds 1 (Value.ref h1.objs.size)))).get? b = some o := fun b o hb e =>
    (Heap.get?_update_other _ _ (Ne.symm hb)).trans (Heap.get?_push_of_some _ e)
  rw [hz] at kp ⊢
  refine h _ ob _ hx3 hne hT (by rw [← ho]) (by simp only [List.size_toArray, List.length_append, List.length_cons, List.length_nil] <;> omega) (fun b o hb hbf e => kp b o hb ((hs1.2.1 b hbf).trans e)) fun b o hb e => ?_
  obtain ⟨sl, q⟩ := hs1.2.2 b o e
  exact ⟨sl, kp b _ hb q⟩
theorem settle_x {tb : Value} {Q : Unit → Shared → Prop} (hfr : A.frames = some (env0 :: outer)) (hl : s.heap.FunFrames base (env0 :: outer)) (hf : env0.frame = some L) (he : env.frame = some L)
    (hx : s.heap.get? x = some (xog C dx t tb cx kx)) (htb : TbOk s.heap x tb)
    (h : ∀ h' T oT ts, h'.get? x = some (xog C dx t (.ref T) cx kx) → T ≠ x → (tb = .ref T ∨ s.heap.objs.size ≤ T) → h'.get? T = some oT → oT.data = .fields ts → 3 < ts.size →
      (∀ b o, b ≠ x → tb ≠ .ref b → b ∉ frs (env0 :: outer) → s.heap.get? b = some o → h'.get? b = some o) → (∀ b o, b ≠ x → tb ≠ .ref b → s.heap.get? b = some o → ∃ sl, h'.get? b = some { o with slots := sl }) → Q () { s with heap := h' }) :
    wpAny M A (noteFrame (.ref x) env) (fun _ s1 => wpAny M A (setFlight (.ref x) none) Q E s1) E s := by
  have land : ∀ (h1 : Heap) (T : Addr) (oT : Obj) (ts : Array Value), h1.get? x = some (xog C dx t (.ref T) cx kx) → T ≠ x → (tb = .ref T ∨ s.heap.objs.size ≤ T) → h1.get? T = some oT → oT.data = .fields ts → 3 < ts.size →
      (∀ b o, b ≠ x → tb ≠ .ref b → b ∉ frs (env0 :: outer) → s.heap.get? b = some o → h1.get? b = some o) → (∀ b o, b ≠ x → tb ≠ .ref b → s.heap.get? b = some o → ∃ sl, h1.get? b = some { o with slots := sl }) →
      wpAny M A (setFlight (.ref x) none) Q E { s with heap := h1 } := fun h1 T oT ts e1 nT oldT e2 d2 z2 k1 k2 => by
    unfold setFlight
    refine wpAny_bind (wpAny_field (s := { s with heap := h1 }) e1 rfl (x := .ref T) rfl ?_)
    rw [if_pos (show (Value.ref T != Value.none) = true from by simp)]
    refine wpAny_setField (s := { s with heap := h1 }) e2 d2 z2 ?_
    have d3 := Obj.data_mapFields d2 (·.setIfInBounds 3 ((none : Option Addr).elim Value.none fun f => rawInt f))
    have nb : ∀ b, b ≠ x → tb ≠ .ref b → (∃ o, s.heap.get? b = some o) → b ≠ T := fun b hb hbt ⟨o, eo⟩ z => by
      subst z
      rcases oldT with q | q
      · exact hbt q
      · exact absurd (Heap.lt_size eo) (Nat.not_lt.mpr q)
    refine h _ T _ _ ((Heap.get?_update_other _ _ nT).trans e1) nT oldT (Heap.get?_update_self _ e2 (Obj.isFreed_of_fields d3)) d3 (by simpa using z2) (fun b o hb hbt hbf e => ?_) fun b o hb hbt e => ?_
    · exact (Heap.get?_update_other _ _ (Ne.symm (nb b hb hbt ⟨o, e⟩))).trans (k1 b o hb hbt hbf e)
    · obtain ⟨sl, q⟩ := k2 b o hb hbt e
      exact ⟨sl, (Heap.get?_update_other _ _ (Ne.symm (nb b hb hbt ⟨o, e⟩))).trans q⟩
  unfold noteFrame
  simp only [he]
  refine wpAny_bind (wpAny_field hx rfl (x := tb) rfl ?_)
  rcases htb with rfl | ⟨T, oT, ts, rfl, nT, e2, d2, z2⟩
  · rw [if_neg (by decide)]
    refine entry_x hfr hl hf he hx fun h' oT ts e1 ne e2 d2 z2 k1 k2 => land h' _ oT ts e1 ne (.inr (Nat.le_refl _)) e2 d2 z2 (fun b o hb _ hbf e => k1 b o hb hbf e) fun b o hb _ e => k2 b o hb e
  · rw [if_pos (show (Value.ref T != Value.none) = true from by simp)]
    obtain ⟨y, hy⟩ : ∃ y, ts[3]? = some y := ⟨ts[3], by simp [z2]⟩
    refine wpAny_bind (wpAny_field e2 d2 (x := y) hy ?_)
    by_cases c : (y == rawInt L) = true
    · rw [if_pos c]
      exact wpAny_pure (land s.heap T oT ts hx nT (.inl rfl) e2 d2 z2 (fun b o _ _ _ e => e) fun b o _ _ e => ⟨o.slots, e⟩)
    · rw [if_neg c]
      refine wpAny_bind (wpAny_setField e2 d2 z2 ?_)
      have oth : ∀ b, b ≠ T → (s.heap.update T (Obj.mapFields (·.setIfInBounds 3 Value.none))).get? b = s.heap.get? b := fun b hb => Heap.get?_update_other _ _ (Ne.symm hb)
      have hl1 : (s.heap.update T (Obj.mapFields (·.setIfInBounds 3 Value.none))).FunFrames base (env0 :: outer) := hl.of_keeps fun b o hb hnf => ⟨o, (oth b fun q => by rw [q, e2] at hb; cases hb; exact hnf ts d2).trans hb, rfl⟩
      have hsz : (s.heap.update T (Obj.mapFields (·.setIfInBounds 3 Value.none))).objs.size = s.heap.objs.size := Heap.size_update ..
      refine entry_x (s := { s with heap := s.heap.update T (Obj.mapFields (·.setIfInBounds 3 Value.none)) }) hfr hl1 hf he ((oth x (Ne.symm nT)).trans hx) fun h' oT' ts' e1 ne e2' d2' z2' k1 k2 => ?_
      refine land h' _ oT' ts' e1 ne (.inr (by rw [hsz]; exact Nat.le_refl _)) e2' d2' z2' (fun b o hb hbt hbf e => k1 b o hb hbf ((oth b fun q => hbt (by rw [q])).trans e)) fun b o hb hbt e => k2 b o hb ((oth b fun q => hbt (by rw [q])).trans e)
theorem leave_x {tb : Value} {Q : Unit → Shared → Prop} (hfr : A.frames = some (env0 :: outer)) (hl : s.heap.FunFrames base (env0 :: outer)) (hf : env0.frame = some L) (he : env.frame = some L)
    (hx : s.heap.get? x = some (xog C dx t tb cx kx)) (htb : TbOk s.heap x tb)
    (h : ∀ h' T oT ts, h'.get? x = some (xog C dx t (.ref T) cx kx) → T ≠ x → (tb = .ref T ∨ s.heap.objs.size ≤ T) → h'.get? T = some oT → oT.data = .fields ts → 3 < ts.size →
      (∀ b o, b ≠ x → tb ≠ .ref b → b ∉ frs (env0 :: outer) → s.heap.get? b = some o → h'.get? b = some o) → (∀ b o, b ≠ x → tb ≠ .ref b → s.heap.get? b = some o → ∃ sl, h'.get? b = some { o with slots := sl }) → Q () { s with heap := h' }) :
    wpAny M A (leaving env (.ref x)) Q E s := wpAny_bind (settle_x hfr hl hf he hx htb h)
end
def CXx (P : Program) (w : World) : CXT := fun outer H s E e s' => ∃ (x C t : Addr) (dx : Option Addr) (tb : Value) (H' : Hp), e = .ref x ∧ s'.os = s.os ∧ AllBare s'.gens ∧ Un (frs outer) [] H H' s.heap s'.heap ∧ HOk P w H' s'.heap ∧
  s'.heap.get? x = some (xob C dx t tb) ∧ TbOk s'.heap x tb ∧ H' x = none ∧ s.heap.objs.size ≤ x ∧ (∀ T, tb = .ref T → H' T = none ∧ s.heap.objs.size ≤ T) ∧ E (.ref C) dx H'
def Flies (X : Cx) (E : XK) (e : Value) (s : Shared) : Prop := ∃ (pins : List (Addr × Obj)) (σ : St) (H : Hp) (x C t : Addr) (dx : Option Addr) (tb : Value), e = .ref x ∧ Inv X pins σ H s ∧
  s.heap.get? x = some (xob C dx t tb) ∧ TbOk s.heap x tb ∧ FpOk X pins H x ∧ (∀ T, tb = .ref T → FpOk X pins H T) ∧ E (.ref C) dx H
def XE (X : Cx) (E : XK) : Prop := ∀ e s, Flies X E e s → X.xe e s
theorem passes_x {X : Cx} {E : XK} (hx : XE X E) : Passes (CXx X.prog X.w) X E := by
  intro pins σ H s e s' I h
  obtain ⟨x, C, t, dx, tb, H', rfl, os, bare, un, hok, ob, tr, hn, hsz, hT, q⟩ := h
  have I' : Inv X pins σ H' s' := I.call' os un hok bare fun b z => absurd z (by simp)
  exact hx _ _ ⟨pins, σ, H', x, C, t, dx, tb, rfl, I', ob, tr, I.fpOk hsz hn, fun T e => I.fpOk (hT T e).2 (hT T e).1, q⟩
theorem xe_cx {P : Program} {w : World} {K : PySem.W.Frag} {mg : Str → Option Value} {base : Heap} {N : List Str} {qual : Str} {scope : Scope} {f : Addr} {cd : Value} {A : Around} {outer : List Env} {s : Shared} {H : Hp} {E : XK} :
    XE (cxOf (CXx P w) P w K mg base N qual scope f cd A outer s H E) E := by
  intro e s1 h
  obtain ⟨pins, σ, H1, x, C, t, dx, tb, rfl, I, ob, tr, fx, fT, q⟩ := h
  show wpAny _ _ (leaving _ (.ref x)) _ _ s1
  have ff := I.stack
  refine leave_x (A := (cxOf (CXx P w) P w K mg base N qual scope f cd A outer s H E).A) (env0 := envOfC qual scope s.heap.objs.size f cd) (outer := outer) I.ok.frames ff rfl rfl ob tr fun h' T oT ts e1 nT oldT e2 d2 z2 k1 k2 => ?_
  have szs : s.heap.objs.size ≤ s1.heap.objs.size := I.sz
  have hxs : s.heap.objs.size ≤ x := by
    rcases fx.2.2.2.1 with z | z
    · exact absurd z (by simp [cxOf])
    · exact z
  have hTs : s.heap.objs.size ≤ T ∧ H1 T = none := by
    rcases oldT with z | z
    · obtain ⟨a0, _, _, a3, _⟩ := fT T z
      rcases a3 with y | y
      · exact absurd y (by simp [cxOf])
      · exact ⟨y, a0⟩
    · exact ⟨Nat.le_trans szs z, I.hok.fresh z⟩
  have tbs : ∀ b, tb = .ref b → s.heap.objs.size ≤ b ∧ H1 b = none := fun b hb => by
    obtain ⟨a0, _, _, a3, _⟩ := fT b hb
    rcases a3 with y | y
    · exact absurd y (by simp [cxOf])
    · exact ⟨y, a0⟩
  have old : ∀ b o, s.heap.get? b = some o → b ≠ x ∧ tb ≠ .ref b := fun b o e => by
    have hb := Heap.lt_size e
    refine ⟨Nat.ne_of_lt (Nat.lt_of_lt_of_le hb hxs), fun z => ?_⟩
    exact absurd (Nat.lt_of_lt_of_le hb (tbs b z).1) (Nat.lt_irrefl _)
  have un : Un (frs outer) [] H H1 s.heap h' := by
    have B := I.base
    refine ⟨fun b o e n hb _ => ?_, fun b o e n hb _ => ?_, fun b o e n _ => B.free b o e n (by simp [cxOf]), fun b o e _ => ?_, B.tups, B.frzs, B.tbls⟩
    · have e1 := B.keep b o e n hb (by simp [cxOf])
      refine k1 b o (old b o e).1 (old b o e).2 (fun z => ?_) e1
      have z' := I.stkSub b z
      rcases List.mem_cons.mp z' with q | q
      · exact absurd q (Nat.ne_of_lt (Nat.lt_of_lt_of_le (Heap.lt_size e) I.ok.above))
      · exact hb q
    · obtain ⟨sl, e1⟩ := B.slot b o e n hb (by simp [cxOf])
      obtain ⟨sl', e2⟩ := k2 b _ (old b o e).1 (old b o e).2 e1
      exact ⟨sl', e2⟩
    · obtain ⟨o', e1⟩ := B.there b o e (by simp [cxOf])
      obtain ⟨sl', e2⟩ := k2 b _ (old b o e).1 (old b o e).2 e1
      exact ⟨_, e2⟩
  have hok : HOk P w H1 h' := fun b u e => by
    refine (I.hok b u e).stay (fun c v hc q => k1 c v ?_ ?_ ?_ q) (fun _ q => q) fun _ _ q => q
    · rintro rfl
      rcases hc with rfl | hc
      · rw [fx.1] at e; cases e
      · rw [fx.1] at hc; cases hc
    · intro z
      have := (tbs c z).2
      rcases hc with rfl | hc
      · rw [this] at e; cases e
      · rw [this] at hc; cases hc
    · intro z
      have := I.stkFree c z
      rcases hc with rfl | hc
      · rw [this] at e; cases e
      · rw [this] at hc; cases hc
  exact ⟨x, C, t, dx, .ref T, H1, rfl, I.os, I.bare, un, hok, e1, .inr ⟨T, oT, ts, rfl, nT, e2, d2, z2⟩, fx.1, hxs, fun T' z => by cases z; exact ⟨hTs.2, hTs.1⟩, q⟩
theorem Fun.okX {P : Program} {w : World} {K : PySem.W.Frag} {mg : Str → Option Value} {base : Heap} {x qual : Str} {st : Stmt} {f : Addr} {fd : FuncData} {N ps : List Str} {k : Nat} {sp : Sp} (F : Fun K x qual st f fd) (S : FnScope N ps (defScope st)) (len : ∀ vs H Q E, sp vs H Q E → vs.length = ps.length)
    (hbody : ∀ (cdv : Value) (A : Around) (outer : List Env) (s : Shared) (H : Hp) (vs : List V) (Q : VK) (E : XK), Room k (A.deeper (envOfC qual (defScope st) s.heap.objs.size f cdv)) → XE (cxOf (CXx P w) P w K mg base N qual (defScope st) f cdv A outer s H E) E → sp vs H Q E →
      ∃ t, PSs (cxOf (CXx P w) P w K mg base N qual (defScope st) f cdv A outer s H E) (defBody st) t ∧ t { nx := fun _ H' => Q .non H', rt := Q } (start N vs) H) : FnOk P w K mg base (CXx P w) (k + 1) f fd ps sp := by
  obtain ⟨oc, od, kV, doc, pm, an, cdv, ct, osl, rfl, lk, hcd⟩ := F.ex
  exact fn_of lk hcd S len fun A outer s H vs Q E hr hsp => hbody cdv A outer s H vs Q E hr xe_cx hsp
end L3
set_option Elab.async false
set_option linter.all false
set_option maxRecDepth 100000
set_option maxHeartbeats 4000000
namespace L3
open PySem PySem.Spec PyProof.Rows L2
structure RoomH (k : Nat) (A : Around) : Prop where
  dp : A.depth + 3 * k + 5 < recursionLimit
  un : A.units + 16 * k + 200 < cLine
theorem RoomH.of {k : Nat} {A : Around} (r : Room k A) : RoomH k A := ⟨r.dp, r.un⟩
theorem RoomH.mark {k : Nat} {A : Around} (r : RoomH k A) (e : Option Value) : RoomH k (A.mark e) := ⟨r.dp, r.un⟩
theorem RoomH.deeper {k : Nat} {A : Around} (r : RoomH (k + 1) A) (env : Env) : RoomH k (A.deeper env) :=
  ⟨by have := r.dp; show A.depth + 1 + 3 * k + 5 < _; omega, by have := r.un; show A.units + 3 + 16 * k + 200 < _; omega⟩
def cxH (P : Program) (w : World) (K : PySem.W.Frag) (mg : Str → Option Value) (base : Heap) (N : List Str) (qual : Str) (scope : Scope) (f : Addr) (cd : Value) (A : Around) (outer : List Env) (s : Shared) (H : Hp) : Cx :=
  { cxOf CX0 P w K mg base N qual scope f cd A outer s H E0 with calm := false, xe := fun _ _ => False }
structure FnOkH (P : Program) (w : World) (K : PySem.W.Frag) (mg : Str → Option Value) (base : Heap) (k : Nat) (f : Addr) (fd : FuncData) (ps : List Str) (sp : Sp) : Prop where
  len : ∀ vs H Q E, sp vs H Q E → vs.length = ps.length
  run : ∀ (A : Around) (outer : List Env) (s : Shared) (H : Hp) (args : Args) (us : List Value) (vs : List V) (Q : VK), RoomH k A → Env0 P w K mg base A outer s H → BindsTo s fd args (ps.zip us) → Vals vs us → sp vs H Q E0 →
    codeAny (model P w) A (.call (.ref f) args) (CR CX0 outer P w H s Q E0) s
theorem fn_ofH {P : Program} {w : World} {K : PySem.W.Frag} {mg : Str → Option Value} {base : Heap} {k : Nat} {f : Addr} {name qual : Str} {params : Arguments} {body : List Stmt} {scope : Scope} {dV kV doc pm cdv ct oc : Value} {an od : Option Addr}
    {osl : Array (Option Value)} {N ps : List Str} {sp : Sp} (lk : K.lookup f = some ⟨oc, od, .func (PySem.W.fnOf name qual params body scope dV kV doc pm an cdv ct), osl⟩) (hcd : PySem.W.codeIn K cdv qual = true) (S : FnScope N ps scope)
    (len : ∀ vs H Q E, sp vs H Q E → vs.length = ps.length)
    (hbody : ∀ (A : Around) (outer : List Env) (s : Shared) (H : Hp) (vs : List V) (Q : VK), RoomH k (A.deeper (envOfC qual scope s.heap.objs.size f cdv)) → sp vs H Q E0 →
      ∃ t, PSs (cxH P w K mg base N qual scope f cdv A outer s H) body t ∧ t { nx := fun _ H' => Q .non H', rt := Q } (start N vs) H) :
    FnOkH P w K mg base (k + 1) f (PySem.W.fnOf name qual params body scope dV kV doc pm an cdv ct) ps sp := by
  refine ⟨len, fun A outer s H args us vs Q hr e0 hb r hsp => ?_⟩
  have hl := len _ _ _ _ hsp
  have KX : K.In s.heap := e0.mod.kin.keeps fun b o e => (e0.bs b o e).1
  have lim : s.heap.NoLimit := e0.mod.nolimit.keeps fun b o e => (e0.bs b o e).1
  have hdep : A.depth < recursionLimit := by have := hr.dp; omega
  have hkind : ∀ y ∈ ps.zip us, scope.names.lookup y.1 = some .local ∨ (scope.names.lookup y.1 = some .cell ∧ ((cellsFrom (s.heap.objs.size + 1) scope.names []).lookup y.1).isSome = true) := fun ⟨n, v⟩ hy => by
    rcases S.par n (List.of_mem_zip hy).1 with q | q
    · exact .inl q
    · exact .inr ⟨q, PySem.W.cellsFrom_some _ _ _ (.inl q)⟩
  refine codeAny_call_function hdep (KX _ _ lk) rfl S.co S.gen rfl (PySem.W.codeRec_of KX hcd) (hb _ _ _ _ ?_)
  refine wpAny_newFunctionEnv_cells S.kind hkind fun env he s1 x => ?_
  subst he
  refine ⟨lim.keeps x.toInCall.keep, codeAny_func ?_⟩
  obtain ⟨t, ht, hq⟩ := hbody A outer s H vs Q (hr.deeper _) hsp
  have e0' : Env0 P w K mg base { A with handled := none } outer s H := ⟨e0.frames, e0.mod, e0.bs, e0.bsz, e0.funs, e0.frf, e0.hok, e0.bare⟩
  have I0 : Inv (cxOf CX0 P w K mg base N qual scope f cdv { A with handled := none } outer s H E0) [] (start N vs) H s1 := inv_start S rfl e0' hl r x
  have I : Inv (cxH P w K mg base N qual scope f cdv A outer s H) [] (start N vs) H s1 :=
    ⟨⟨I0.ok.mod, I0.ok.kind, I0.ok.glob, I0.ok.blt, I0.ok.above, I0.ok.inj, I0.ok.has, I0.ok.cab, fun z => absurd z (by simp [cxH]), Around.frames_deeper e0.frames, I0.ok.stk, I0.ok.exf, I0.ok.bs, I0.ok.bsz, I0.ok.noex, I0.ok.exfs, I0.ok.funs, I0.ok.frf⟩,
      I0.os, I0.bare, I0.base, I0.loc, I0.cell, I0.free, I0.freeC, I0.pin, I0.hok, I0.len⟩
  refine wpAny_mono (ht [] s1 (start N vs) H _ I hq) (fun fl s' hs => ?_) fun e s' hs => False.elim hs
  have fin : ∀ {σ' : St} {H' : Hp} {v : V} {u : Value}, Inv (cxH P w K mg base N qual scope f cdv A outer s H) [] σ' H' s' → RelV v u → Q v H' → CE outer P w H s Q u s' :=
    fun {σ' H' v u} J rv q => ⟨v, H', J.os, J.bare, J.base, J.hok, rv, q⟩
  cases fl with
  | ret u =>
    obtain ⟨v, σ', H', J, rv, q⟩ := hs
    exact fin J rv q
  | next =>
    obtain ⟨σ', H', J, q⟩ := hs
    exact fin (v := V.non) (u := Value.none) J rfl q
  | brk =>
    obtain ⟨_, _, _, q⟩ := hs
    exact False.elim q
  | cont =>
    obtain ⟨_, _, _, q⟩ := hs
    exact False.elim q
theorem Fun.okH {P : Program} {w : World} {K : PySem.W.Frag} {mg : Str → Option Value} {base : Heap} {x qual : Str} {st : Stmt} {f : Addr} {fd : FuncData} {N ps : List Str} {k : Nat} {sp : Sp} (F : Fun K x qual st f fd) (S : FnScope N ps (defScope st)) (len : ∀ vs H Q E, sp vs H Q E → vs.length = ps.length)
    (hbody : ∀ (cdv : Value) (A : Around) (outer : List Env) (s : Shared) (H : Hp) (vs : List V) (Q : VK), RoomH k (A.deeper (envOfC qual (defScope st) s.heap.objs.size f cdv)) → sp vs H Q E0 →
      ∃ t, PSs (cxH P w K mg base N qual (defScope st) f cdv A outer s H) (defBody st) t ∧ t { nx := fun _ H' => Q .non H', rt := Q } (start N vs) H) : FnOkH P w K mg base (k + 1) f fd ps sp := by
  obtain ⟨oc, od, kV, doc, pm, an, cdv, ct, osl, rfl, lk, hcd⟩ := F.ex
  exact fn_ofH lk hcd S len fun A outer s H vs Q hr hsp => hbody cdv A outer s H vs Q hr hsp
section
variable {X : Cx} {k : Nat} {f : Addr} {fd : FuncData} {ps : List Str} {sp : Sp} {x : Str} {p pos : Pos} {e : Expr} {es : List Expr} {t : TA}
theorem pe_callH (F : FnOkH X.prog X.w X.K X.mg X.base k f fd ps sp) (hr : RoomH k X.A) (hg : Gl X x) (hm : X.mg x = some (.ref f)) (hk : PySem.W.keepIn X.K (.ref f) = true) (hb : Binds X.K fd ps [])
    (ha : PA X (e :: es) t) (hdb : (x == ("__debug__" : Str)) = false := by decide) (he : starEach (e :: es) X.env = (false, eval e X.env) :: starEach es X.env := by rfl) (hpl : (backTo pos (starEach es X.env)).any (·.1) = false := by rfl) :
    PE X (.Call (.Name x p) (e :: es) [] pos) (tCall sp [] E0 t) := by
  intro pins s σ H Q I h
  refine wpAny_Call_Name_kw (ld_glob I hg hm ?_ hdb)
  refine PySem.W.callWith_K (h₀ := X.base) I.ok.mod.kin hk (thn (ha pos pins s σ H _ I h) fun us s1 ⟨vs, H1, I1, r, q⟩ => ⟨I1.kIn, ?_⟩) he hpl
  have q : sp (vs ++ []) H1 Q E0 := q
  rw [List.append_nil] at q
  have hl : (us ++ ([] : List Value)).length = ps.length := by rw [List.append_nil, ← r.length]; exact F.len _ _ _ _ q
  have hb' := hb s1 us I1.kIn hl
  rw [List.append_nil] at hb'
  refine wpAny_call (codeAny_mono (F.run X.A X.stack s1 H1 ⟨us, []⟩ us vs Q hr I1.env0 hb' r q) fun r s' hq => ?_)
  cases r with
  | error e => exact False.elim hq
  | ok fl =>
    cases fl with
    | ret u => exact I1.after hq
    | next => exact False.elim hq
    | brk => exact False.elim hq
    | cont => exact False.elim hq
end
end L3
set_option Elab.async false
set_option linter.all false
set_option maxRecDepth 100000
set_option maxHeartbeats 4000000
namespace L3
open PySem PySem.Spec PyProof.Rows L2
abbrev bmV : List Value := [.type "ValueError", .type "Exception", .type "BaseException", .type "object"]
def xcIn (K : PySem.W.Frag) (C : Addr) : Bool := match K.lookup C with
  | some ⟨.type "type", _, .cls cd, sl⟩ => (match cd.mro, sl.toList with
    | .ref C' :: bm, [_, _, _, _, some (.builtin n), _] => C' == C && (n == "ValueError.__new__" && (!cd.hasDel && (cd.hasDict && PySem.W.tailIn K bmV bm)))
    | _, _ => false)
  | _ => false
theorem xc_obj {K : PySem.W.Frag} {C : Addr} (q : xcIn K C = true) : ∃ bm N nm qn bs sn sub ab col dd k0 k1 k2 k3 k5, K.lookup C = some (excClassObj nm qn C N bs bm true sn sub ab col dd k0 k1 k2 k3 k5 "ValueError.__new__") ∧ ∀ h : Heap, K.In h → OwnTail h bmV bm := by
  unfold xcIn at q
  split at q
  · rename_i dd cd sl ho
    split at q
    · rename_i C' bm k0 k1 k2 k3 n k5 hm hs
      simp only [Bool.and_eq_true, beq_iff_eq, Bool.not_eq_true'] at q
      obtain ⟨rfl, rfl, hdel, hdct, ht⟩ := q
      obtain ⟨nm, bs, mro, ns, qn, hd, sn, sub, ab, col, del⟩ := cd
      dsimp only at hm hdel hdct
      subst hm hdel hdct
      have hsl : sl = #[k0, k1, k2, k3, some (.builtin "ValueError.__new__"), k5] := by
        obtain ⟨l⟩ := sl
        simp only at hs
        rw [hs]
      subst hsl
      exact ⟨bm, ns, nm, qn, bs, sn, sub, ab, col, dd, k0, k1, k2, k3, k5, ho, fun h X => PySem.W.tail_of_in X ht⟩
    · cases q
  · cases q
structure XC (K : PySem.W.Frag) (C : Addr) : Prop where
  ok : xcIn K C = true
  sa : PySem.W.findIn K (.ref C) "__setattr__" = some (some (.builtin "object.__setattr__"))
  ga : PySem.W.findIn K (.ref C) "__getattribute__" = some (some (.builtin "BaseException.__getattribute__"))
  gt : PySem.W.findIn K (.ref C) "__getattr__" = some none
  kp : PySem.W.keepIn K (.ref C) = true
section
variable {prog : Program} {w : World} {A : Around} {R : Result → Shared → Prop} {h : Heap} {g : Array GenState} {d : Drawn} {t : Nat} {os : OsState} {K : PySem.W.Frag} {C : Addr}
theorem exc_call {init : Value} {rest : List Value} (X : K.In h) (q : xcIn K C = true) (hi : PySem.W.findIn K (.ref C) "__init__" = some (some init))
    (hb : ∀ self, PySem.W.Looks (model prog w) h (bindSpecial init self) (init, [self])) (hrest : rest.length ≤ sizeLine)
    (hq : codeAny (model prog w) (A.under (.builtin "type.__call__" ⟨.ref C :: rest, []⟩)) (.call init ⟨.ref (h.objs.size + 1) :: rest, []⟩) (PySem.W.InitBack (h.objs.size + 1) R) ⟨(h.push { cls := .type "tuple", data := .seq rest.toArray }).push (xob C none h.objs.size .none), g, d, t, os⟩) :
    codeAny (model prog w) A (.call (.ref C) ⟨rest, []⟩) R ⟨h, g, d, t, os⟩ := by
  obtain ⟨bm, N, nm, qn, bs, sn, sub, ab, col, dd, k0, k1, k2, k3, k5, lk, tl⟩ := xc_obj q
  have hC := X _ _ lk
  have T := tl h X
  have F := PySem.F.excBase_ValueError
  have f1 := tc_lookup
  have f2 := tc_bind (.ref C)
  have hT : (⟨h, g, d, t, os⟩ : Shared).TypeIs (.ref C) "type" := ⟨_, hC, rfl⟩
  refine codeAny_of_tree ?_
  show wpAny _ _ (callAny (.ref C) _) _ _ _
  repeat (any_goals (first | assumption | with_reducible refine wpAny_loadPart_at hC ?_ | wp_step))
  refine ⟨rfl, ?_⟩
  refine codeAny_call_builtin_at (Code.quiet_builtin _ (by decide +kernel)) entry_typeCall (wpAny_check_type_call_sub hC ?_)
  repeat (first | with_reducible refine wpAny_loadPart_at hC ?_ | with_reducible refine wpAny_madeBy_exc hC ?_ | wp_step)
  refine codeAny_call_builtin_code (Code.quiet_builtin _ F.quiet) (wpAny_check_new_subT F T hC ?_)
  refine codeAny_exc_new_subT F T hC ?_ hrest
  show wpAny _ _ _ _ _ _
  have k : ∀ b o, h.get? b = some o → ((h.push { cls := .type "tuple", data := .seq rest.toArray }).push (xob C none h.objs.size .none)).get? b = some o := fun b o e => Heap.get?_push_of_some _ (Heap.get?_push_of_some _ e)
  have hC1 := k _ _ hC
  have hget : ((h.push { cls := .type "tuple", data := .seq rest.toArray }).push (xob C none h.objs.size .none)).get? (h.objs.size + 1) = some (xob C none h.objs.size .none) := by heap_get
  have hcC : (Value.ref C :: bm).contains (.ref C) = true := by simp
  unfold isInstance
  repeat (first | with_reducible refine wpAny_loadPart_at hget ?_ | wp_step)
  refine wpAny_isSubtype_exc (C := C) hC1 ?_
  rw [hcC]
  repeat wp_step
  show wpAny _ _ (typeLookup (.ref C) _) _ _ _
  refine ((PySem.W.looks_findIn X hi).keeps k).at ?_
  refine wpAny_holding (wpAny_bind (((hb _).keeps k).at ?_))
  refine wpAny_bind (wpAny_call (codeAny_mono hq fun r s' z => ?_))
  rcases r with e | (v | _ | _ | _) <;> first | exact z | exact z.elim | skip
  obtain ⟨rfl, z⟩ := z
  exact wpAny_pure (wpAny_pure z)
end
end L3
set_option Elab.async false
set_option linter.all false
set_option maxRecDepth 100000
set_option maxHeartbeats 4000000
namespace L3
open PySem PySem.Spec PyProof.Rows L2
def XN (x C : Addr) (dx : Option Addr) : HO := .ext fun h => ∃ t, h.get? x = some (xob C dx t .none)
def XT (x C : Addr) (dx : Option Addr) : HO := .ext fun h => ∃ t tb c k, h.get? x = some (xog C dx t tb c k)
def XP (x C : Addr) (dx : Option Addr) : HO := .ext fun h => ∃ t tb, h.get? x = some (xob C dx t tb)
theorem xt_ok {P : Program} {w : World} {H : Hp} {h : Heap} {x C t : Addr} {dx : Option Addr} {tb c : Value} {k : Bool} (e : h.get? x = some (xog C dx t tb c k)) : ObjOk P w H h x (XT x C dx) :=
  ⟨⟨t, tb, c, k, e⟩, ⟨_, e⟩, fun h1 h2 ⟨t, tb, c, k', q⟩ k => ⟨t, tb, c, k', k _ q⟩⟩
theorem xt_at {P : Program} {w : World} {H : Hp} {h : Heap} {x C : Addr} {dx : Option Addr} (o : ObjOk P w H h x (XT x C dx)) : ∃ t tb c k, h.get? x = some (xog C dx t tb c k) := o.1
section
variable {nm q : Str} {C N : Addr} {bs bm : List Value} {hdct : Bool} {sn : List Str} {sub : List Value} {ab : Bool} {col : Option Bool} {dd : Option Addr} {k0 k1 k2 k3 k5 : Option Value} {newId : String} {h : Heap} {M : Model}
theorem sub_looks (hC : h.get? C = some (excClassObj nm q C N bs bm hdct sn sub ab col dd k0 k1 k2 k3 k5 newId)) (base : Value) : PySem.W.Looks M h (isSubtype (.ref C) base) ((Value.ref C :: bm).contains base) := fun A Q E s k z => by
  obtain ⟨hp, g, d, t, os⟩ := s
  exact wpAny_isSubtype_exc (k _ _ hC) z
end
section
variable {X : Cx} {pins : List (Addr × Obj)} {σ : St} {H : Hp} {s : Shared} {A : Around} {E : Value → Shared → Prop} {x C : Addr} {f : Str} {y : V} {u : Value}
end
end L3
set_option Elab.async false
set_option linter.all false
set_option maxRecDepth 100000
set_option maxHeartbeats 4000000
namespace L3
open PySem PySem.Spec PyProof.Rows L2
section
variable {X : Cx} {o value : Expr} {f : Str} {pos pos' : Pos} {ta tv : TE}
end
section
variable {M : Model} {A : Around} {E : Value → Shared → Prop} {s : Shared} {env : Env}
theorem raise_x {K : PySem.W.Frag} {x : Sem Value} {Q : Flow → Shared → Prop} (hh : A.handled = none)
    (h : wpAny M A x (fun v s1 => ∃ e C t dx, v = .ref e ∧ K.In s1.heap ∧ xcIn K C = true ∧ s1.heap.get? e = some (xob C dx t .none) ∧ E (.ref e) s1) E s) : wpAny M A (raiseStmt env (some x) none) Q E s := by
  unfold raiseStmt
  refine wpAny_bind (thn h fun v s1 h1 => ?_)
  obtain ⟨e, C, t, dx, rfl, X, hC, he, hE⟩ := h1
  obtain ⟨bm, N, nm, qn, bs, sn, sub, ab, col, dd, k0, k1, k2, k3, k5, lk, tl⟩ := xc_obj hC
  have hCo := X _ _ lk
  have T := tl _ X
  have hcB : (Value.ref C :: bm).contains (.type "BaseException") = true := by rw [List.contains_cons, T.hasType (show bmV.contains (.type "BaseException") = true by decide +kernel), Bool.or_true]
  obtain ⟨hp, g, d, tk, os⟩ := s1
  repeat (first | with_reducible refine wpAny_loadPart_at he ?_ | with_reducible refine wpAny_loadPart_at hCo ?_ | (with_reducible refine wpAny_isSubtype_exc hCo ?_; rw [hcB]) | wp_step)
  exact wpAny_raiseNew_none hh hE
theorem Raise_x {K : PySem.W.Frag} {e : Expr} {pos : Pos} {Q : Flow → Shared → Prop} (hh : A.handled = none)
    (h : wpAny M A (eval e env) (fun v s1 => ∃ a C t dx, v = .ref a ∧ K.In s1.heap ∧ xcIn K C = true ∧ s1.heap.get? a = some (xob C dx t .none) ∧ E (.ref a) s1) E s) : wpAny M A (exec (.Raise (some e) none pos) env) Q E s := by
  rw [arm_exec_Raise]
  first
    | exact wpAny_bind (wpAny_standAt (raise_x hh (wpAny_bind (thn h fun v s1 h1 => wpAny_bind (wpAny_standAt (wpAny_pure h1))))))
    | (simp only [evalOpt, Option.map]; exact wpAny_bind (wpAny_standAt (raise_x hh (wpAny_bind (thn h fun v s1 h1 => wpAny_bind (wpAny_standAt (wpAny_pure h1)))))))
end
def del (H : Hp) (x : Addr) : Hp := fun b => if b = x then none else H b
section
variable {X : Cx} {pins : List (Addr × Obj)} {σ : St} {H : Hp} {s : Shared}
theorem run_xmake0 {C : Addr} {us : List Value} {E : Value → Shared → Prop} {Q : Value → Shared → Prop} (I : Inv X pins σ H s) (xc : xcIn X.K C = true) (hi : PySem.W.findIn X.K (.ref C) "__init__" = some (some (.builtin "ValueError.__init__"))) (hl : us.length ≤ sizeLine)
    (h : ∀ s' x t, s.heap.objs.size ≤ x → Inv X pins σ H s' → s'.heap.get? x = some (xob C none t .none) → Q (.ref x) s') : wpAny (model X.prog X.w) X.A (call (.ref C) us) Q E s := by
  have F := PySem.F.excBase_ValueError
  obtain ⟨bm, N, nm, qn, bs, sn, sub, ab, col, dd, k0, k1, k2, k3, k5, lk, tl⟩ := xc_obj xc
  have hC := I.kIn _ _ lk
  have T := tl _ I.kIn
  obtain ⟨hp, g, d, t, os⟩ := s
  have k : ∀ b o, hp.get? b = some o → ((hp.push { cls := .type "tuple", data := .seq us.toArray }).push (xob C none hp.objs.size .none)).get? b = some o := fun b o e => Heap.get?_push_of_some _ (Heap.get?_push_of_some _ e)
  refine wpAny_call (exc_call I.kIn xc hi (fun self => PySem.W.Looks.of_pure (F.init.bind self)) hl ?_)
  have hget : ((hp.push { cls := .type "tuple", data := .seq us.toArray }).push (xob C none hp.objs.size .none)).get? (hp.objs.size + 1) = some (xob C none hp.objs.size .none) := by heap_get
  refine codeAny_call_builtin F.init.plain F.initEntry (wpAny_check_init_subT F (T.keeps k) (k _ _ hC) hget rfl ?_)
  wp_walk
  refine ⟨rfl, h _ (hp.objs.size + 1) ((hp.push { cls := .type "tuple", data := .seq us.toArray }).push (xob C none hp.objs.size .none)).objs.size (Nat.le_succ _) (I.kept (t' := t) fun b o e => ?_) ?_⟩
  · exact (Heap.get?_update_other _ _ (Nat.ne_of_gt (Nat.lt_succ_of_lt (Heap.lt_size e)))).trans (Heap.get?_push_of_some _ (k b o e))
  · exact Heap.get?_update_self (Obj.mapFields fun x => x.setIfInBounds 0 (Value.ref ((hp.push { cls := .type "tuple", data := .seq us.toArray }).push (xob C none hp.objs.size .none)).objs.size)) (Heap.get?_push_of_some _ hget) rfl
def tRaise0 (E : XK) (C : Addr) (t : TA) : TS := fun _ σ H => t σ H fun vs H1 => vs.length ≤ sizeLine ∧ E (.ref C) none H1
theorem ps_raise0 {E : XK} {C : Addr} {cn : Str} {np cpos pos : Pos} {e : Expr} {es : List Expr} {t : TA} (hx : XE X E) (hc : X.calm = true) (xc : XC X.K C) (hi : PySem.W.findIn X.K (.ref C) "__init__" = some (some (.builtin "ValueError.__init__"))) (hg : Gl X cn) (hm : X.mg cn = some (.ref C)) (ha : PA X (e :: es) t)
    (hdb : (cn == ("__debug__" : Str)) = false := by decide) (he : starEach (e :: es) X.env = (false, eval e X.env) :: starEach es X.env := by rfl) (hpl : (backTo cpos (starEach es X.env)).any (·.1) = false := by rfl) :
    PS X (.Raise (some (.Call (.Name cn np) (e :: es) [] cpos)) none pos) (tRaise0 E C t) := by
  intro pins s σ H D I h
  refine Raise_x (K := X.K) (I.ok.hd hc) (wpAny_Call_Name_kw (ld_glob I hg hm ?_ hdb))
  refine PySem.W.callWith_K (h₀ := X.base) I.ok.mod.kin xc.kp (thn (ha cpos pins s σ H _ I h) fun us s1 ⟨vs, H1, I1, r, z, q⟩ => ⟨I1.kIn, ?_⟩) he hpl
  refine run_xmake0 (us := [] ++ us) I1 xc.ok hi (by show us.length ≤ sizeLine; rw [← r.length]; exact z) fun s2 x t hz I2 ob => ⟨x, C, t, none, rfl, I2.kIn, xc.ok, ob, ?_⟩
  exact hx _ _ ⟨pins, σ, H1, x, C, t, none, .none, rfl, I2, ob, .inl rfl, I1.fpOk hz (I1.hok.fresh hz), fun T z => (by cases z), q⟩
def tRaise1 (E : XK) (C : Addr) (sp : Sp) (t : TA) : TS := fun _ σ H => t σ H fun vs H1 => vs.length ≤ sizeLine ∧ ∀ x, H1 x = none → sp (.ref x :: vs) (upd H1 x (XN x C none)) (fun v H2 => v = .non ∧ ∃ dx, H2 x = some (XN x C dx) ∧ E (.ref C) dx (del H2 x)) E0
end
end L3
set_option Elab.async false
set_option linter.all false
set_option maxRecDepth 100000
set_option maxHeartbeats 4000000
namespace L3
open PySem PySem.Spec PyProof.Rows L2
def FliesAt (X : Cx) (pins : List (Addr × Obj)) (σ : St) (E : XK) (e : Value) (s : Shared) : Prop := ∃ (cx : Value) (kx : Bool) (H : Hp) (x C t : Addr) (dx : Option Addr) (tb : Value), e = .ref x ∧ Inv X pins σ H s ∧
  s.heap.get? x = some (xog C dx t tb cx kx) ∧ TbOk s.heap x tb ∧ FpOk X pins H x ∧ (∀ T, tb = .ref T → FpOk X pins H T) ∧ E (.ref C) dx H
abbrev TX := St → Hp → VK → XK → Prop
def PEX (X : Cx) (e : Expr) (t : TX) : Prop :=
  ∀ (pins : List (Addr × Obj)) (s : Shared) (σ : St) (H : Hp) (Q : VK) (E : XK), Inv X pins σ H s → t σ H Q E → wpAny (model X.prog X.w) X.A (eval e X.env) (EP X pins σ Q) (FliesAt X pins σ E) s
section
variable {X : Cx}
variable {k : Nat} {f : Addr} {fd : FuncData} {ps : List Str} {sp : Sp} {dvs : List V} {ds : List Value} {x : Str} {p pos : Pos} {e : Expr} {es : List Expr} {t : TA}
theorem pex_call (F : FnOk X.prog X.w X.K X.mg X.base (CXx X.prog X.w) k f fd ps sp) (hr : Room k X.A) (hg : Gl X x) (hm : X.mg x = some (.ref f)) (hk : PySem.W.keepIn X.K (.ref f) = true) (hb : Binds X.K fd ps ds) (hd : Vals dvs ds)
    (ha : PA X.nox (e :: es) t) (hdb : (x == ("__debug__" : Str)) = false := by decide) (he : starEach (e :: es) X.env = (false, eval e X.env) :: starEach es X.env := by rfl) (hpl : (backTo pos (starEach es X.env)).any (·.1) = false := by rfl) :
    PEX X (.Call (.Name x p) (e :: es) [] pos) (fun σ H Q E => t σ H fun vs H1 => sp (vs ++ dvs) H1 Q E) := by
  intro pins s σ H Q E I h
  refine wpAny_Call_Name_kw (ld_glob I hg hm ?_ hdb)
  refine PySem.W.callWith_K (h₀ := X.base) I.ok.mod.kin hk (wpAny_noRaise (thn (ha pos pins s σ H _ (I.wish _) h) fun us s1 ⟨vs, H1, I1, r, q⟩ => ⟨I1.kIn, ?_⟩)) he hpl
  have I1' : Inv X pins σ H1 s1 := I1.unwish
  have r2 : Vals (vs ++ dvs) (us ++ ds) := r.append hd
  have hl : (us ++ ds).length = ps.length := by rw [← r2.length]; exact F.len _ _ _ _ q
  refine wpAny_call (codeAny_mono (F.run X.A X.stack s1 H1 ⟨us, []⟩ (us ++ ds) (vs ++ dvs) Q E hr I1'.env0 (hb s1 us I1'.kIn hl) r2 q) fun r s' hq => ?_)
  cases r with
  | error e =>
    obtain ⟨x, C, t, dx, tb, H', rfl, os, bare, un, hok, ob, tr, hn, hsz, hT, q⟩ := hq
    exact ⟨.none, false, H', x, C, t, dx, tb, rfl, I1'.call' os un hok bare (fun b z => absurd z (by simp)), ob, tr, I1'.fpOk hsz hn, fun T e => I1'.fpOk (hT T e).2 (hT T e).1, q⟩
  | ok fl =>
    cases fl with
    | ret u => exact I1'.after hq
    | next => exact False.elim hq
    | brk => exact False.elim hq
    | cont => exact False.elim hq
end
abbrev Cx.suite (X : Cx) (e : Value) : Cx := { X with A := X.A.mark (some e), calm := false, xe := fun _ _ => False }
theorem Inv.suite {X : Cx} {pins : List (Addr × Obj)} {σ : St} {H : Hp} {s : Shared} (I : Inv X pins σ H s) (e : Value) : Inv (Cx.suite X e) pins σ H s :=
  ⟨⟨I.ok.mod, I.ok.kind, I.ok.glob, I.ok.blt, I.ok.above, I.ok.inj, I.ok.has, I.ok.cab, fun z => absurd z (by simp [Cx.suite]), I.ok.frames, I.ok.stk, I.ok.exf, I.ok.bs, I.ok.bsz, I.ok.noex, I.ok.exfs, I.ok.funs, I.ok.frf⟩,
    I.os, I.bare, I.base, I.loc, I.cell, I.free, I.freeC, I.pin, I.hok, I.len⟩
theorem Inv.unsuite {X : Cx} {pins : List (Addr × Obj)} {σ σ' : St} {H H' : Hp} {s s' : Shared} {e : Value} (J : Inv X pins σ' H' s') (I : Inv (Cx.suite X e) pins σ H s) : Inv X pins σ H s :=
  ⟨J.ok, I.os, I.bare, I.base, I.loc, I.cell, I.free, I.freeC, I.pin, I.hok, I.len⟩
structure Hd where
  D : Addr
  i : Nat
  ts : TS
def tHs (K : PySem.W.Frag) (C : Addr) (dx : Option Addr) (x : Addr) (Dd : Ends) (σ : St) (H : Hp) : List Hd → Prop
  | [] => False
  | h :: r => ∃ b, PySem.W.subIn K (.ref C) (.ref h.D) = some b ∧ if b = true then h.ts { Dd with nx := fun σ' H' => Dd.nx (σ'.set h.i none) H', bk := fun σ' H' => Dd.bk (σ'.set h.i none) H', ct := fun σ' H' => Dd.ct (σ'.set h.i none) H' } (σ.set h.i (some (.ref x))) H else tHs K C dx x Dd σ H r
section
variable {X : Cx} {pins : List (Addr × Obj)} {σ : St} {H : Hp} {s : Shared}
theorem name_gone {M : Model} {A : Around} {E : Value → Shared → Prop} {i : Nat} {n : Str} {pos : Pos} {Q : Unit → Shared → Prop} (I : Inv X pins σ H s) (hN : X.N.Nodup) (hi : X.N[i]? = some n) (hk : X.env.scope.names.lookup n = some .local)
    (h : ∀ s', Inv X pins (σ.set i none) H s' → Q () s') : wpAny M A (do bindName X.env n .none; unbindBehindTheSuite X.env n pos) Q E s := by
  obtain ⟨m, hn, hl⟩ := id I.loc
  have hcls : (X.env.scope.kind == .class || (X.env.scope.kind == .module && X.env.locals != X.env.globals)) = false := by rw [I.ok.kind]; rfl
  have hiσ : i < σ.length := by rw [I.len]; exact (List.getElem?_eq_some_iff.mp hi).1
  have cne := I.cne
  refine wpAny_nameGoes_keeps hk hn hcls fun h' v hn' hs => ?_
  obtain ⟨oL, _, _, hoL, _⟩ := id hn
  refine h _ ⟨I.ok, I.os, I.bare, ⟨fun b o e n hb hx => ?_, fun b o e n hb hx => ?_, I.base.free, fun b o e hx => ?_, I.base.tups, I.base.frzs, I.base.tbls⟩, ⟨_, hn', fun j y v' e1 e2 e3 => ?_⟩, fun y c e => ?_, I.free, I.freeC, fun p hp => ?_, ?_, by simpa using I.len⟩
  · exact (hs.2 b (Nat.ne_of_lt (Nat.lt_of_lt_of_le (Heap.lt_size e) I.ok.above))).trans (I.base.keep b o e n hb hx)
  · obtain ⟨sl, e1⟩ := I.base.slot b o e n hb hx
    exact ⟨sl, (hs.2 b (Nat.ne_of_lt (Nat.lt_of_lt_of_le (Heap.lt_size e) I.ok.above))).trans e1⟩
  · obtain ⟨o', e1⟩ := I.base.there b o e hx
    exact ⟨o', (hs.2 b (Nat.ne_of_lt (Nat.lt_of_lt_of_le (Heap.lt_size e) I.ok.above))).trans e1⟩
  · by_cases hj : j = i
    · subst hj
      rw [List.getElem?_set_self hiσ] at e2
      cases e2
    · rw [List.getElem?_set_ne (Ne.symm hj)] at e2
      obtain ⟨u', r', q⟩ := hl j y v' e1 e2 e3
      refine ⟨u', r', ?_⟩
      rcases q with ⟨k, e⟩ | ⟨k, c, e, z⟩
      · refine .inl ⟨k, ?_⟩
        have : y ≠ n := fun e => hj (nodup_ix hN e1 (e ▸ hi))
        simp [this, e]
      · exact .inr ⟨k, c, e, z.sameBut hs (cne y c e)⟩
  · obtain ⟨w', z⟩ := I.cell y c e
    exact ⟨w', z.sameBut hs (cne y c e)⟩
  · obtain ⟨e, n, ne, nf, d⟩ := I.pin p hp
    exact ⟨(hs.2 p.1 ne).trans e, n, ne, nf, d⟩
  · exact HOk.but I.hok hs I.free
end
theorem xmatch {M : Model} {A : Around} {E : Value → Shared → Prop} {K : PySem.W.Frag} {s : Shared} {x C D t : Addr} {dx : Option Addr} {tb cx : Value} {kx : Bool} {b : Bool} {Q : Bool → Shared → Prop} (X : K.In s.heap) (hD : xcIn K D = true) (he : s.heap.get? x = some (xog C dx t tb cx kx))
    (hs : PySem.W.subIn K (.ref C) (.ref D) = some b) (h : Q b s) : wpAny M A (excMatches (.ref x) (.ref D)) Q E s := by
  obtain ⟨bm, N, nm, qn, bs, sn, sub, ab, col, dd, k0, k1, k2, k3, k5, lk, tl⟩ := xc_obj hD
  have hDo := X _ _ lk
  have T := tl _ X
  have hcB : (Value.ref D :: bm).contains (.type "BaseException") = true := by rw [List.contains_cons, T.hasType (show bmV.contains (.type "BaseException") = true by decide +kernel), Bool.or_true]
  have L := PySem.W.looks_subIn (M := M) X hs
  have f := tc_notTuple
  obtain ⟨hp, g, d, tk, os⟩ := s
  unfold excMatches
  repeat (first | with_reducible refine wpAny_loadPart_at he ?_ | with_reducible refine wpAny_loadPart_at hDo ?_ | (with_reducible refine wpAny_isSubtype_exc hDo ?_; rw [hcB]) | (with_reducible refine PySem.W.Looks.at L ?_) | wp_step)
  cases b with
  | false => exact wpAny_pure (wpAny_pure (wpAny_pure h))
  | true => exact wpAny_pure (wpAny_pure (wpAny_pure h))
structure HdOk (X : Cx) (h : ExceptHandler) (d : Hd) : Prop where
  ex : ∃ (cn n : Str) (np pos : Pos) (b0 : Stmt) (suite : List Stmt), h = .ExceptHandler (some (.Name cn np)) (some n) (b0 :: suite) pos ∧ Gl X cn ∧ X.mg cn = some (.ref d.D) ∧ X.N[d.i]? = some n ∧ X.env.scope.names.lookup n = some .local ∧ (cn == ("__debug__" : Str)) = false ∧
    (∀ e, PSs (Cx.suite X e) (b0 :: suite) d.ts)
  xc : xcIn X.K d.D = true
inductive HdsOk (X : Cx) : List ExceptHandler → List Hd → Prop
  | nil {hs} : HdsOk X hs []
  | cons {h d hs ds} : HdOk X h d → HdsOk X hs ds → HdsOk X (h :: hs) (d :: ds)
section
variable {X : Cx}
theorem handle_ok (hN : X.N.Nodup) : ∀ {hs : List ExceptHandler} {ds : List Hd}, HdsOk X hs ds → ∀ {pins : List (Addr × Obj)} {s : Shared} {σ : St} {H : Hp} {Dd : Ends} {x C T : Addr} {dx : Option Addr}, Inv X pins σ H s → H x = some (XT x C dx) →
    (∃ t cx kx, s.heap.get? x = some (xog C dx t (.ref T) cx kx)) → (∃ oT ts, s.heap.get? T = some oT ∧ oT.data = .fields ts ∧ 3 < ts.size) → FpOk X pins H T → tHs X.K C dx x Dd σ H ds →
    wpAny (model X.prog X.w) X.A (handleBy (.ref x) X.env hs) (SP X pins Dd) X.xe s
  | _, _, .nil, _, _, _, _, _, _, _, _, _, _, _, _, _, _, h => h.elim
  | _, _, .cons h1 h2, pins, s, σ, H, Dd, x, C, T, dx, I, hx, ⟨t, cx, kx, ob⟩, ⟨oT, ts, eT, dT, zT⟩, fT, h => by
    obtain ⟨⟨cn, n, np, pos, b0, suite, rfl, hg, hm, hi, hk, hdb, hsu⟩, xc⟩ := h1
    obtain ⟨b, hb, q⟩ := h
    have I' := Inv.suite I (.ref x)
    refine wpAny_handleBy_cons (codeAny_handlers_test (ld_glob (X := Cx.suite X (.ref x)) I' hg hm (xmatch I.kIn xc ob hb ?_) hdb)) (by intro q; cases q)
    cases b with
    | false =>
      rw [if_neg Bool.false_ne_true] at q
      exact handle_ok hN h2 I hx ⟨t, cx, kx, ob⟩ ⟨oT, ts, eT, dT, zT⟩ fT q
    | true =>
      rw [if_pos rfl] at q
      refine codeAny_handlers_suite_as ?_
      unfold setFlight
      refine wpAny_bind (wpAny_field ob rfl (x := .ref T) rfl ?_)
      rw [if_pos (show (Value.ref T != Value.none) = true from by simp)]
      refine wpAny_setField eT dT zT ?_
      obtain ⟨f0, f1, f2, f3, f4, f5⟩ := fT
      have I2 : Inv X pins σ H { s with heap := s.heap.update T (Obj.mapFields (·.setIfInBounds 3 ((none : Option Addr).elim Value.none fun f => rawInt f))) } :=
        I.turned (t' := s.toks) (fun b o hb e => (Heap.get?_update_other _ _ (Ne.symm hb)).trans e) f0 f1 f3 f4 f5
      refine store_ok (X := Cx.suite X (.ref x)) (v := .ref x) (Inv.suite I2 (.ref x)) hN hi (.inl hk) rfl (fun s3 I3 => ?_) (.inr hk)
      refine wpAny_noRaise (thn (hsu _ pins s3 _ H _ I3 q) fun fl s4 q4 => ?_)
      cases fl with
      | next =>
        obtain ⟨σ4, H4, I4, n4⟩ := q4
        exact name_gone (Inv.unsuite I I4) hN hi hk fun s5 I5 => ⟨_, _, I5, n4⟩
      | brk =>
        obtain ⟨σ4, H4, I4, n4⟩ := q4
        exact name_gone (Inv.unsuite I I4) hN hi hk fun s5 I5 => ⟨_, _, I5, n4⟩
      | cont =>
        obtain ⟨σ4, H4, I4, n4⟩ := q4
        exact name_gone (Inv.unsuite I I4) hN hi hk fun s5 I5 => ⟨_, _, I5, n4⟩
      | ret v =>
        obtain ⟨y, σ4, H4, I4, r4, n4⟩ := q4
        exact name_gone (Inv.unsuite I I4) hN hi hk fun s5 I5 => ⟨y, _, _, I5, r4, n4⟩
def tbL : Value → List Addr
  | .ref b => [b]
  | _ => []
def tTry (K : PySem.W.Frag) (i : Nat) (te : TX) (hds : List Hd) : TS := fun D σ H => te σ H (fun v H1 => D.nx (σ.set i (some v)) H1) fun cls dx H1 => ∃ C, cls = .ref C ∧ ∀ x, H1 x = none → tHs K C dx x D σ (upd H1 x (XT x C dx)) hds
theorem ps_try {i : Nat} {y : Str} {yp apos pos : Pos} {e : Expr} {te : TX} {h : ExceptHandler} {hs : List ExceptHandler} {hds : List Hd} (hN : X.N.Nodup) (hy : X.N[i]? = some y) (hly : Loc X.env.scope y) (hf : X.fn y = true ∨ X.env.scope.names.lookup y = some .local)
    (hst : X.stack = X.env :: X.outer ∧ X.env.frame = some X.env.locals) (he : PEX X e te) (hh : HdsOk X (h :: hs) hds) (hsw : swapsWith e (some (.Name y yp)) apos.line X.env = pure false := by rfl) :
    PS X (.Try [.Assign [.Name y yp] e apos] (h :: hs) [] [] pos) (tTry X.K i te hds) := by
  intro pins s σ H D I hq
  refine wpAny_Try_except (wpAny_execs_cons (wpAny_Assign_Name (wpAny_mono (he pins s σ H _ _ I hq) (fun v s1 ⟨z, H1, I1, r1, q1⟩ => ?_) fun e s1 fl => ?_) hsw))
  · exact store_ok I1 hN hy hly r1 (fun s2 I2 => wpAny_execs_nil (wpAny_execs_nil ⟨_, H1, I2, q1⟩)) hf
  · obtain ⟨cx, kx, H1, x, C, t, dx, tb, rfl, I1, ob, tr, fx, fT, C', ec, q1⟩ := fl
    cases ec
    have fr : X.A.frames = some (X.env :: X.outer) := by rw [← hst.1]; exact I1.ok.frames
    have ff : s1.heap.FunFrames X.base (X.env :: X.outer) := by rw [← hst.1]; exact I1.stack
    refine settle_x fr ff hst.2 hst.2 ob tr fun h' T oT ts e1 nT oldT e2 d2 z2 k1 k2 => ?_
    have fT' : FpOk X pins H1 T := by
      rcases oldT with z | z
      · exact fT T z
      · exact I1.fpOk z (I1.hok.fresh z)
    have tbs : ∀ b, tb = .ref b → H1 b = none := fun b hb => (fT b hb).1
    have nch : ∀ b o, s1.heap.get? b = some o → b ∉ (x :: T :: tbL tb) → b ≠ x ∧ tb ≠ .ref b := fun b o _ hb => by
      refine ⟨fun z => hb (by simp [z]), fun z => hb ?_⟩
      rw [z]
      simp [tbL]
    have un : Un (frs X.stack) (x :: T :: tbL tb) H1 H1 s1.heap h' := by
      rw [hst.1]
      refine ⟨fun b o e n hb hc => ?_, fun b o e n hb hc => ?_, fun b o e n _ => n, fun b o e hc => ?_, fun b xs e => e, fun b o u e => e, fun b ps e => ⟨#[], by rw [e]; simp⟩⟩
      · obtain ⟨a1, a2⟩ := nch b o e hc
        exact k1 b o a1 a2 hb e
      · obtain ⟨a1, a2⟩ := nch b o e hc
        exact k2 b o a1 a2 e
      · obtain ⟨a1, a2⟩ := nch b o e hc
        obtain ⟨sl, q⟩ := k2 b o a1 a2 e
        exact ⟨_, q⟩
    have hok : HOk X.prog X.w H1 h' := fun b u e => by
      refine (I1.hok b u e).stay (fun c v hc q => k1 c v ?_ ?_ ?_ q) (fun _ q => q) fun _ _ q => q
      · rintro rfl
        rcases hc with rfl | hc
        · rw [fx.1] at e; cases e
        · rw [fx.1] at hc; cases hc
      · intro z
        have := tbs c z
        rcases hc with rfl | hc
        · rw [this] at e; cases e
        · rw [this] at hc; cases hc
      · intro z
        rw [← hst.1] at z
        have := I1.stkFree c z
        rcases hc with rfl | hc
        · rw [this] at e; cases e
        · rw [this] at hc; cases hc
    have I2 : Inv X pins σ H1 { s1 with heap := h' } := I1.call' (s' := { s1 with heap := h' }) rfl un hok I1.bare fun b hb => by
      have fb : FpOk X pins H1 b := by
        rcases List.mem_cons.mp hb with z | z
        · rw [z]; exact fx
        · rcases List.mem_cons.mp z with z | z
          · rw [z]; exact fT'
          · cases tb with
            | ref b' =>
              have : b = b' := by simpa [tbL] using z
              rw [this]; exact fT b' rfl
            | _ => simp [tbL] at z
      obtain ⟨_, a1, _, a3, a4, a5⟩ := fb
      exact ⟨a3, a1, a4, a5⟩
    have I3 : Inv X pins σ (upd H1 x (XT x C dx)) { s1 with heap := h' } := Inv.track I2 fx (xt_ok e1)
    exact handle_ok hN hh I3 upd_same ⟨t, _, _, e1⟩ ⟨oT, ts, e2, d2, z2⟩ ⟨by rw [upd_ne nT]; exact fT'.1, fT'.2⟩ (q1 x fx.1)
end
end L3
set_option Elab.async false
set_option linter.all false
set_option maxRecDepth 100000
set_option maxHeartbeats 4000000
namespace L3
open PySem PySem.Spec PyProof.Rows L2
section
variable {prog : Program} {w : World} {A : Around} {E : Value → Shared → Prop} {s : Shared} {K : PySem.W.Frag} {x C : Addr} {ox : Obj} {od : Option Obj} {name : Str} {tk : Tok}
theorem xga_by {fill expr : Bool} {Q : Value → Shared → Prop} (X : K.In s.heap) (xc : XC K C) (J : PySem.W.InstAt s.heap x ox C od)
    (h : wpAny (model prog w) A.in1 (Builtin.«object.__getattribute__» ⟨[.ref x, .str name tk], []⟩) (fun fin s' => match fin with | .done (.ret v) => wpAny (model prog w) A (handedOut v) Q E s' | _ => False) (fun _ _ => False) s) :
    wpAny (model prog w) A (getAttrBy (.ref x) (.str name tk) fill expr) Q E s := by
  obtain ⟨bm, N, nm, qn, bs, sn, sub, ab, col, dd, k0, k1, k2, k3, k5, lk, tl⟩ := xc_obj xc.ok
  have hC := X _ _ lk
  have T := tl _ X
  have FB := PySem.F.attrBase_ValueError
  have L0 := J.type (M := model prog w)
  have L1 := PySem.W.looks_findIn (M := model prog w) X xc.ga
  have L2 := PySem.W.looks_findIn (M := model prog w) X xc.gt
  have hcB : (Value.ref C :: bm).contains (.type "BaseException") = true := by rw [List.contains_cons, T.hasType (show bmV.contains (.type "BaseException") = true by decide +kernel), Bool.or_true]
  have isB : PySem.W.Looks (model prog w) s.heap (isInstance (.ref x) (.type "BaseException")) true := L0.andThen (by have := sub_looks (M := model prog w) hC (.type "BaseException"); rw [hcB] at this; exact this)
  have f3 := FB.ga.bind (.ref x)
  have hx0 : (expr && onTheHeap (Value.builtin "BaseException.__getattribute__")) = false := by cases expr <;> rfl
  have hx2 : (Value.builtin "BaseException.__getattribute__" == Value.builtin "object.__getattribute__") = false := by decide +kernel
  have hx1 : (onTheHeap (Value.ref C) && Value.builtin "BaseException.__getattribute__" == Value.builtin "object.__getattribute__") = false := by rw [hx2]; rfl
  unfold getAttrBy
  refine wpAny_holding (wpAny_bind (L0.here (wpAny_bind (L1.here ?_))))
  show wpAny _ _ (if (onTheHeap (Value.ref C) && Value.builtin "BaseException.__getattribute__" == Value.builtin "object.__getattribute__") = true then _ else _) _ _ _
  rw [hx1, if_neg Bool.false_ne_true]
  unfold getAttrByItsOwn hookBefore
  rw [if_pos (by rfl)]
  refine wpAny_bind (L2.here (wpAny_bind (wpAny_attempt (wpAny_holding ?_))))
  unfold callGetattribute
  rw [hx0, if_neg Bool.false_ne_true]
  unfold boundAndCalled
  rw [f3]
  refine wpAny_bind (wpAny_pure ?_)
  show wpAny (model prog w) A (call (.builtin "BaseException.__getattribute__") [.ref x, .str name tk]) _ _ s
  refine wpAny_call (codeAny_call_builtin FB.ga.plain PySem.F.entry_bexc_ga (@PySem.W.check_slot (model prog w) _ _ s "BaseException.__getattribute__" "BaseException" "__getattribute__" (.ref x) [.str name tk] [] _ (by decide +kernel) (by decide +kernel) isB (PySem.F.args_bexc_ga _ _) ?_))
  refine wpAny_mono h (fun fin s' z => ?_) fun _ _ z => z.elim
  rcases fin with (_ | _ | _ | v) | _ <;> first | exact z | exact z.elim
theorem xclass {Q : Option Value → Shared → Prop} (X : K.In s.heap) (xc : XC K C) (J : PySem.W.InstAt s.heap x ox C od) (ha : PySem.W.findIn K (.ref C) "__class__" = some (some (.builtin "object.__class__")))
    (hn : PySem.W.specialIn K (.builtin "object.__class__") "__get__" = some (some (.builtin "getset_descriptor.__get__"))) (htk : PySem.W.takesIn K (.builtin "object.__class__") = some true) (hm : PySem.W.mroIn K C (.type "object") = some true)
    (h : Q (some (.ref C)) { s with toks := s.toks + 1 }) : wpAny (model prog w) A (getAttr? (.ref x) "__class__") Q E s := by
  have hf : PySem.W.findObj K C od "__class__" = some (.bind (.builtin "getset_descriptor.__get__") (.builtin "object.__class__")) := by
    obtain ⟨bm, N, nm, qn, bs, sn, sub, ab, col, dd, k0, k1, k2, k3, k5, lk, tl⟩ := xc_obj xc.ok
    have hcl : (PySem.W.clsIn K C).isSome = true := by unfold PySem.W.clsIn; rw [lk]; rfl
    obtain ⟨cd, hc⟩ := Option.isSome_iff_exists.mp hcl
    unfold PySem.W.findObj
    rw [hc, Option.bind_some, ha, Option.bind_some]
    simp [hn, htk]
  unfold getAttr? getAttrBy?
  refine wpAny_bind (wpAny_mkText (wpAny_bind (wpAny_attempt (xga_by (s := { s with toks := s.toks + 1 }) X xc J ?_))))
  have L0 := J.type (M := model prog w)
  have L1 := PySem.W.looks_find (M := model prog w) X J hf
  unfold Builtin.«object.__getattribute__»
  refine wpAny_bind (wpAny_pure (wpAny_bind (wpAny_pure (wpAny_bind (L0.here (s := { s with toks := s.toks + 1 }) (wpAny_bind (L1.here (s := { s with toks := s.toks + 1 }) ?_)))))))
  show wpAny _ _ (holding [.builtin "object.__class__"] (call (.builtin "getset_descriptor.__get__") [.builtin "object.__class__", .ref x, .ref C]) >>= ret) _ _ _
  refine wpAny_bind (wpAny_holding (wpAny_call (PySem.W.class_get (s := { s with toks := s.toks + 1 }) X J hm ?_)))
  refine wpAny_pure ?_
  show wpAny _ _ (handedOut (.ref C)) _ _ _
  rw [PySem.W.handedOut_of rfl]
  exact wpAny_pure (wpAny_pure h)
end
structure XI (K : PySem.W.Frag) (C : Addr) : Prop extends XC K C where
  ca : PySem.W.findIn K (.ref C) "__class__" = some (some (.builtin "object.__class__"))
  cg : PySem.W.specialIn K (.builtin "object.__class__") "__get__" = some (some (.builtin "getset_descriptor.__get__"))
  ct : PySem.W.takesIn K (.builtin "object.__class__") = some true
  mo : PySem.W.mroIn K C (.type "object") = some true
theorem inst_x {h : Heap} {x C t : Addr} {tb c : Value} {k : Bool} (ob : h.get? x = some (xog C none t tb c k)) : PySem.W.InstAt h x (xog C none t tb c k) C none := ⟨ob, rfl, rfl, trivial⟩
theorem kit_x {K : PySem.W.Frag} {x C : Addr} {dx : Option Addr} (xi : XI K C) : PySem.W.KitX K (.ref x) (.ref C) (fun h => (∃ t tb c k, h.get? x = some (xog C dx t tb c k)) ∧ ∀ d, dx = some d → ∃ o, h.get? d = some o) where
  ty := fun M h X ⟨⟨t, tb, c, k', ob⟩, _⟩ => (PySem.W.Looks.ld ob).andThen .now
  it := fun M h X _ => by
    obtain ⟨bm, N, nm, qn, bs, sn, sub, ab, col, dd, k0, k1, k2, k3, k5, lk, tl⟩ := xc_obj xi.ok
    intro A' Q' E' s' k q
    unfold isType loadHead
    exact wpAny_bind (wpAny_loadPart (k _ _ (X _ _ lk)) (wpAny_pure q))
  ne := fun h tp dd its n sl X htp => by
    obtain ⟨bm, N, nm, qn, bs, sn, sub, ab, col, dd, k0, k1, k2, k3, k5, lk, tl⟩ := xc_obj xi.ok
    refine Bool.eq_false_iff.mpr fun q => ?_
    have e : C = tp := Value.ref.inj (beq_iff_eq.mp q)
    subst e
    have z := congrArg (fun o : Option Obj => o.map fun o => match o.data with | .cls _ => true | _ => false) ((X _ _ lk).symm.trans htp)
    exact absurd (show true = false from Option.some.inj z) (by decide)
  ca := fun {prog w A E Q s} X ⟨⟨t, tb, c, k', ob⟩, hd⟩ k => by
    cases dx with
    | none => exact xclass X xi.toXC (inst_x ob) xi.ca xi.cg xi.ct xi.mo k
    | some d =>
      obtain ⟨o, e⟩ := hd d rfl
      exact xclass (od := some o) X xi.toXC ⟨ob, rfl, rfl, e⟩ xi.ca xi.cg xi.ct xi.mo k
section
variable {X : Cx}
def XAt (H : Hp) (x C : Addr) (dx : Option Addr) (fs : List (Str × V)) : Prop := H x = some (XT x C dx) ∧ ((dx = none ∧ fs = []) ∨ ∃ d, dx = some d ∧ H d = some (.xd fs))
theorem call_isiX : CallR X (.builtin "isinstance") (fun xs H Q => ∃ x C dx fs c u b, xs = [.ref x, c] ∧ cV c = some u ∧ XAt H x C dx fs ∧ XI X.K C ∧ PySem.W.kitOne X.K (.ref C) u = some b ∧ Q (.bl b) H) := by
  intro pins s σ H xs us Q I r h
  obtain ⟨x, C, dx, fs, c, u, b, rfl, hc, ⟨hx, hd⟩, xi, e, q⟩ := h
  obtain ⟨v, w', rfl, rx, rc⟩ := vals2 r
  cases rx
  have : w' = u := by
    cases c with
    | ty n => cases hc; exact rc
    | ref a => cases hc; exact rc
    | _ => cases hc
  subst this
  refine PySem.W.kia_one (kit_x (dx := dx) xi) I.kIn ⟨xt_at (I.hok _ _ hx), fun d z => ?_⟩ e (fun z => nomatch z) fun tk => ⟨.bl b, H, I.tok tk, rfl, q⟩
  rcases hd with ⟨z', _⟩ | ⟨d', z', hd'⟩
  · rw [z'] at z; cases z
  · rw [z'] at z; cases z
    obtain ⟨mA, ⟨o, es, ep, ho, _⟩, _⟩ := I.hok _ _ hd'
    exact ⟨o, ho⟩
def tXget (K : PySem.W.Frag) (ta : TE) (f : Str) : TE := fun σ H Q => ta σ H fun y H1 => ∃ x C dx fs v, y = .ref x ∧ XAt H1 x C dx fs ∧ XC K C ∧ PySem.W.hasDictIn K C = true ∧ NoAttr K C f ∧ fs.lookup f = some v ∧ Q v H1
end
end L3
set_option Elab.async false
set_option linter.all false
set_option maxRecDepth 100000
set_option maxHeartbeats 4000000
namespace L3
open PySem PySem.Spec PyProof.Rows L2
structure Df (P : Program) (w : World) (K : PySem.W.Frag) (mg : Str → Option Value) (base : Heap) (CX : CXT) (k : Nat) (nm : Str) (ps : List Str) (ds : List Value) (sp : Sp) : Prop where
  ex : ∃ f fd, FnOk P w K mg base CX k f fd ps sp ∧ mg nm = some (.ref f) ∧ PySem.W.keepIn K (.ref f) = true ∧ Binds K fd ps ds
structure DfH (P : Program) (w : World) (K : PySem.W.Frag) (mg : Str → Option Value) (base : Heap) (k : Nat) (nm : Str) (ps : List Str) (sp : Sp) : Prop where
  ex : ∃ f fd, FnOkH P w K mg base k f fd ps sp ∧ mg nm = some (.ref f) ∧ PySem.W.keepIn K (.ref f) = true ∧ Binds K fd ps []
structure Bt (mg : Str → Option Value) : Prop where
  len : mg "len" = none
  range : mg "range" = none
  isi : mg "isinstance" = none
  str : mg "str" = none
  int : mg "int" = none
  tuple : mg "tuple" = none
  list : mg "list" = none
  bool : mg "bool" = none
  enum : mg "enumerate" = none
  all : mg "all" = none
  verr : mg "ValueError" = none
  max : mg "max" = none
  rev : mg "reversed" = none
  zip : mg "zip" = none
  sum : mg "sum" = none
  sorted : mg "sorted" = none
section
variable {X : Cx} {CX : CXT} {k : Nat} {ps : List Str} {sp : Sp} {ds : List Value} {dvs : List V} {E : XK} {x : Str} {p pos : Pos} {e : Expr} {es : List Expr} {t : TA}
theorem cl0 {j : Nat} (D : Df X.prog X.w X.K X.mg X.base CX0 k x ps ds sp) (hr : Room j X.A) (hd : Vals dvs ds) (hg : Gl X x) (ha : PA X (e :: es) t) (hdb : (x == ("__debug__" : Str)) = false := by decide) (he : starEach (e :: es) X.env = (false, eval e X.env) :: starEach es X.env := by rfl)
    (hpl : (backTo pos (starEach es X.env)).any (·.1) = false := by rfl) (hj : k ≤ j := by decide) : PE X (.Call (.Name x p) (e :: es) [] pos) (tCall sp dvs E0 t) := by
  obtain ⟨f, fd, F, hm, hk, hb⟩ := D.ex
  exact pe_call F (hr.mono hj) hg hm hk hb hd pass0 ha hdb he hpl
theorem clH (D : DfH X.prog X.w X.K X.mg X.base k x ps sp) (hr : RoomH k X.A) (hg : Gl X x) (ha : PA X (e :: es) t) (hdb : (x == ("__debug__" : Str)) = false := by decide) (he : starEach (e :: es) X.env = (false, eval e X.env) :: starEach es X.env := by rfl)
    (hpl : (backTo pos (starEach es X.env)).any (·.1) = false := by rfl) : PE X (.Call (.Name x p) (e :: es) [] pos) (tCall sp [] E0 t) := by
  obtain ⟨f, fd, F, hm, hk, hb⟩ := D.ex
  exact pe_callH F hr hg hm hk hb ha hdb he hpl
theorem clX {j : Nat} (D : Df X.prog X.w X.K X.mg X.base (CXx X.prog X.w) k x ps ds sp) (hr : Room j X.A) (hd : Vals dvs ds) (hg : Gl X x) (ha : PA X.nox (e :: es) t) (hdb : (x == ("__debug__" : Str)) = false := by decide) (he : starEach (e :: es) X.env = (false, eval e X.env) :: starEach es X.env := by rfl)
    (hpl : (backTo pos (starEach es X.env)).any (·.1) = false := by rfl) (hj : k ≤ j := by decide) : PEX X (.Call (.Name x p) (e :: es) [] pos) (fun σ H Q E => t σ H fun vs H1 => sp (vs ++ dvs) H1 Q E) := by
  obtain ⟨f, fd, F, hm, hk, hb⟩ := D.ex
  exact pex_call F (hr.mono hj) hg hm hk hb hd ha hdb he hpl
theorem clP {j : Nat} (hx : XE X E) (D : Df X.prog X.w X.K X.mg X.base (CXx X.prog X.w) k x ps ds sp) (hr : Room j X.A) (hd : Vals dvs ds) (hg : Gl X x) (ha : PA X (e :: es) t) (hdb : (x == ("__debug__" : Str)) = false := by decide) (he : starEach (e :: es) X.env = (false, eval e X.env) :: starEach es X.env := by rfl)
    (hpl : (backTo pos (starEach es X.env)).any (·.1) = false := by rfl) (hj : k ≤ j := by decide) : PE X (.Call (.Name x p) (e :: es) [] pos) (tCall sp dvs E t) := by
  obtain ⟨f, fd, F, hm, hk, hb⟩ := D.ex
  exact pe_call F (hr.mono hj) hg hm hk hb hd (passes_x hx) ha hdb he hpl
end
theorem hd_cons {X : Cx} {cn n : Str} {np pos : Pos} {b0 : Stmt} {suite : List Stmt} {hs : List ExceptHandler} {ds : List Hd} {D : Addr} {ts : TS} (i : Nat) (hsu : ∀ e, PSs (Cx.suite X e) (b0 :: suite) ts) (hg : Gl X cn) (hm : X.mg cn = some (.ref D)) (hi : X.N[i]? = some n) (hk : X.env.scope.names.lookup n = some .local) (xc : xcIn X.K D = true) (r : HdsOk X hs ds)
    (hdb : (cn == ("__debug__" : Str)) = false := by decide) : HdsOk X (.ExceptHandler (some (.Name cn np)) (some n) (b0 :: suite) pos :: hs) (⟨D, i, ts⟩ :: ds) :=
  .cons ⟨⟨cn, n, np, pos, b0, suite, rfl, hg, hm, hi, hk, hdb, hsu⟩, xc⟩ r
def TyX (K : PySem.W.Frag) (H : Hp) (x : V) (t : Value) : Prop := TyOf K H x t ∨ (∃ a C dx fs, x = .ref a ∧ t = .ref C ∧ XAt H a C dx fs ∧ XI K C) ∨ (∃ a xs, x = .ref a ∧ t = .type "list" ∧ SqL K H a xs) ∨ ∃ a xs, x = .ref a ∧ t = .type "tuple" ∧ SqT K H a xs
def rIsi (K : PySem.W.Frag) : List V → Hp → VK → Prop := fun xs H Q => ∃ x c u t b, xs = [x, c] ∧ cV c = some u ∧ TyX K H x t ∧ PySem.W.kitOne K t u = some b ∧ Q (.bl b) H
theorem c_isi {X : Cx} : CallR X (.builtin "isinstance") (rIsi X.K) := by
  intro pins s σ H xs us Q I r h
  obtain ⟨x, c, u, t, b, rfl, hc, ty, e, q⟩ := h
  rcases ty with ty | ⟨a, C, dx, fs, rfl, rfl, ha, xi⟩ | ⟨a, ys, rfl, rfl, hq⟩ | ⟨a, ys, rfl, rfl, hq⟩
  · exact call_isi pins s σ H _ us Q I r ⟨x, c, u, t, b, rfl, hc, ty, e, q⟩
  · exact call_isiX pins s σ H _ us Q I r ⟨a, C, dx, fs, c, u, b, rfl, hc, ha, xi, e, q⟩
  all_goals
    obtain ⟨v, w', rfl, rx, rc⟩ := vals2 r
    have : w' = u := by
      cases c with
      | ty n => cases hc; exact rc
      | ref a => cases hc; exact rc
      | _ => cases hc
    subst this
    cases rx
  · obtain ⟨its, _, p, _⟩ := I.list hq
    obtain ⟨o, h1, h2, _⟩ := p.isList
    exact PySem.W.kia_one PySem.W.kitx_list I.kIn ⟨o, h1, h2⟩ e (fun z => nomatch z) fun tk => ⟨.bl b, H, I.tok tk, rfl, q⟩
  · obtain ⟨its, _, p, _⟩ := I.tuple hq
    obtain ⟨o, h1, h2, _⟩ := p
    exact PySem.W.kia_one PySem.W.kitx_tuple I.kIn ⟨o, h1, h2⟩ e (fun z => nomatch z) fun tk => ⟨.bl b, H, I.tok tk, rfl, q⟩
theorem pe_isi {X : Cx} {e : Expr} {te : TE} {c : Str} {C : Addr} {p q pos : Pos} (h1 : Gl X "isinstance") (h2 : X.mg "isinstance" = none) (he : PE X e te) (hg : Gl X c) (hm : X.mg c = some (.ref C)) (hd : (c == ("__debug__" : Str)) = false := by decide)
    (hs1 : starEach [e, .Name c q] X.env = (false, eval e X.env) :: starEach [.Name c q] X.env := by rfl) (hs3 : starEach [.Name c q] X.env = (false, eval (.Name c q) X.env) :: starEach [] X.env := by rfl) (hs2 : (backTo pos (starEach [.Name c q] X.env)).any (·.1) = false := by rfl) : PE X (.Call (.Name "isinstance" p) [e, .Name c q] [] pos) (tCB (rIsi X.K) (tCons te (tCons (tC (.ref C)) tNil))) :=
  pe_callB c_isi h1 h2 boot_isinstance (pa_cons he (pa_cons (pe_glob hg hm rfl hd) pa_nil hs3) hs1) (he := hs1) (hpl := hs2)
theorem pe_isiB {X : Cx} {e : Expr} {te : TE} {c : Str} {n : String} {p q pos : Pos} (h1 : Gl X "isinstance") (h2 : X.mg "isinstance" = none) (he : PE X e te) (hg : Gl X c) (hm : X.mg c = none) (hv : bootBuiltins c = some (.type n)) (hn : c ≠ "__name__" := by decide) (hd : (c == ("__debug__" : Str)) = false := by decide)
    (hs1 : starEach [e, .Name c q] X.env = (false, eval e X.env) :: starEach [.Name c q] X.env := by rfl) (hs3 : starEach [.Name c q] X.env = (false, eval (.Name c q) X.env) :: starEach [] X.env := by rfl) (hs2 : (backTo pos (starEach [.Name c q] X.env)).any (·.1) = false := by rfl) : PE X (.Call (.Name "isinstance" p) [e, .Name c q] [] pos) (tCB (rIsi X.K) (tCons te (tCons (tC (.ty n)) tNil))) :=
  pe_callB c_isi h1 h2 boot_isinstance (pa_cons he (pa_cons (pe_bltn hg hm hv rfl hn hd) pa_nil hs3) hs1) (he := hs1) (hpl := hs2)
theorem cV_ref {a : Addr} : cV (.ref a) = some (.ref a) := rfl
theorem cV_ty {n : String} : cV (.ty n) = some (.type n) := rfl
theorem cxHK {P w K mg base N q sc f cd A o s H} : (cxH P w K mg base N q sc f cd A o s H).K = K := rfl
def rCount : V → List V → Hp → VK → Prop := fun x xs H Q => ∃ z y, x = .str z ∧ xs = [.str y] ∧ Q (.int (Txt.count z y)) H
def rFind : V → List V → Hp → VK → Prop := fun x xs H Q => ∃ z y, x = .str z ∧ xs = [.str y] ∧ Q (.int (Txt.find z y)) H
theorem m_find {X : Cx} : MtR X "str.find" rFind := mt_find
theorem count_l (l : List Nat) (c : Nat) : Txt.count (tx l) (tx [c]) = (l.count c : Int) := by
  have h : ∀ l : List Nat, cnt c l = (l.count c : Int) := fun l => by
    induction l with
    | nil => rfl
    | cons n r ih =>
      rw [cnt_cons, ih, List.count_cons]
      by_cases e : n = c
      · subst e; simp; omega
      · have : (n == c) = false := by simpa using e
        simp [e, this]
  exact (PyProof.Rows.count_is (tx l) c).trans (h l)
theorem lt1 {a b : Nat} : ([a] : List Nat) < [b] ↔ a < b := by rw [List.cons_lt_cons_iff]; exact ⟨fun h => h.elim id fun ⟨_, q⟩ => absurd q (List.not_lt_nil _), .inl⟩
def rLen (K : PySem.W.Frag) : List V → Hp → VK → Prop := fun xs H Q => ∃ x n, xs = [x] ∧ LenV K x H n ∧ Q (.int n) H
theorem c_len {X : Cx} : CallR X (.builtin "len") (rLen X.K) := call_len
def ForR (lo : Int) (n : Nat) (g : TG) (tb : TS) (D : Ends) (σ : St) (H : Hp) : Prop := ∃ W : Nat → Nat → St → Hp → Prop, (∃ m, W 0 m σ H) ∧ ∀ i m σ H, W i m σ H →
  ((Itr lo n).stop i H ∧ D.nx σ H) ∨ ((Itr lo n).go i H ∧ ∃ N : St → Hp → Prop, (∀ σ' H', N σ' H' → ∃ m', m' < m ∧ W (i + 1) m' σ' H') ∧ ∀ x H', (Itr lo n).yld i H x H' → g x σ H' fun σ2 H2 => tb { D with nx := N, ct := N, bk := D.nx } σ2 H2)
theorem rd_r1 {ta : TA} {g : TG} {tb : TS} {D : Ends} {σ : St} {H : Hp} : tFor (iRng1 ta) g tb D σ H = ta σ H fun vs H1 => ∃ j : Int, vs = [.int j] ∧ -(2 ^ 62) ≤ j ∧ j < 2 ^ 62 ∧ ForR 0 j.toNat g tb D σ H1 := rfl
theorem rd_r2 {ta : TA} {g : TG} {tb : TS} {D : Ends} {σ : St} {H : Hp} : tFor (iRng2 ta) g tb D σ H = ta σ H fun vs H1 => ∃ i j : Int, vs = [.int i, .int j] ∧ (-(2 ^ 62) ≤ i ∧ i < 2 ^ 62 ∧ -(2 ^ 62) ≤ j ∧ j < 2 ^ 62) ∧ ForR i (j - i).toNat g tb D σ H1 := rfl
theorem ForR.by {lo : Int} {n : Nat} {g : TG} {tb : TS} {D : Ends} {σ : St} {H : Hp} (Pv : Nat → St → Hp → Prop) (h0 : Pv 0 σ H)
    (hs : ∀ i σ H, i < n → Pv i σ H → g (.int (lo + i)) σ H fun σ2 H2 => tb { D with nx := Pv (i + 1), ct := Pv (i + 1), bk := D.nx } σ2 H2) (hd : ∀ σ H, Pv n σ H → D.nx σ H) : ForR lo n g tb D σ H := for_range Pv h0 hs hd
def ForL (K : PySem.W.Frag) (a : Addr) (g : TG) (tb : TS) (D : Ends) (σ : St) (H : Hp) : Prop := ∃ W : Nat → Nat → St → Hp → Prop, (∃ m, W 0 m σ H) ∧ ∀ i m σ H, W i m σ H →
  ((Itl K a).stop i H ∧ D.nx σ H) ∨ ((Itl K a).go i H ∧ ∃ N : St → Hp → Prop, (∀ σ' H', N σ' H' → ∃ m', m' < m ∧ W (i + 1) m' σ' H') ∧ ∀ x H', (Itl K a).yld i H x H' → g x σ H' fun σ2 H2 => tb { D with nx := N, ct := N, bk := D.nx } σ2 H2)
theorem rd_l {K : PySem.W.Frag} {tl : TE} {g : TG} {tb : TS} {D : Ends} {σ : St} {H : Hp} : tFor (iList K tl) g tb D σ H = tl σ H fun x H1 => ∃ a, x = .ref a ∧ (∃ xs, SqL K H1 a xs) ∧ ForL K a g tb D σ H1 := rfl
def ForS (x : Str) (g : TG) (tb : TS) (D : Ends) (σ : St) (H : Hp) : Prop := ∃ W : Nat → Nat → St → Hp → Prop, (∃ m, W 0 m σ H) ∧ ∀ i m σ H, W i m σ H →
  ((Its x).stop i H ∧ D.nx σ H) ∨ ((Its x).go i H ∧ ∃ N : St → Hp → Prop, (∀ σ' H', N σ' H' → ∃ m', m' < m ∧ W (i + 1) m' σ' H') ∧ ∀ v H', (Its x).yld i H v H' → g v σ H' fun σ2 H2 => tb { D with nx := N, ct := N, bk := D.nx } σ2 H2)
theorem rd_s {tl : TE} {g : TG} {tb : TS} {D : Ends} {σ : St} {H : Hp} : tFor (iStr tl) g tb D σ H = tl σ H fun v H1 => ∃ x, v = .str x ∧ ForS x g tb D σ H1 := rfl
theorem ForS.by {l : List Nat} {g : TG} {tb : TS} {D : Ends} {σ : St} {H : Hp} (Pv : Nat → St → Hp → Prop) (h0 : Pv 0 σ H)
    (hs : ∀ i c σ H, l[i]? = some c → Pv i σ H → g (.str (tx [c])) σ H fun σ2 H2 => tb { D with nx := Pv (i + 1), ct := Pv (i + 1), bk := D.nx } σ2 H2) (hd : ∀ σ H, Pv l.length σ H → D.nx σ H) : ForS (tx l) g tb D σ H := for_str Pv h0 hs hd
def ForE (x : Str) (g : TG) (tb : TS) (D : Ends) (σ : St) (H : Hp) : Prop := ∃ W : Nat → Nat → St → Hp → Prop, (∃ m, W 0 m σ H) ∧ ∀ i m σ H, W i m σ H →
  ((Ite x).stop i H ∧ D.nx σ H) ∨ ((Ite x).go i H ∧ ∃ N : St → Hp → Prop, (∀ σ' H', N σ' H' → ∃ m', m' < m ∧ W (i + 1) m' σ' H') ∧ ∀ v H', (Ite x).yld i H v H' → g v σ H' fun σ2 H2 => tb { D with nx := N, ct := N, bk := D.nx } σ2 H2)
theorem rd_e {ta : TA} {g : TG} {tb : TS} {D : Ends} {σ : St} {H : Hp} : tFor (iEnum ta) g tb D σ H = ta σ H fun vs H1 => ∃ x, vs = [.str x] ∧ ForE x g tb D σ H1 := rfl
theorem cut_to {α : Type} (l : List α) {k : Int} (h : 0 ≤ k) : cut l none (some k) = l.take k.toNat := by
  obtain ⟨n, rfl⟩ := Int.eq_ofNat_of_zero_le h
  unfold cut
  rw [HT.sIx_none, HT.sIx_nat, List.drop_zero, Nat.sub_zero]
  by_cases q : n ≤ l.length
  · rw [Nat.min_eq_left q]; rfl
  · rw [Nat.min_eq_right (by omega), List.take_length, List.take_of_length_le (by simp; omega)]
theorem cut_from {α : Type} (l : List α) {k : Int} (h : 0 ≤ k) : cut l (some k) none = l.drop k.toNat := by
  obtain ⟨n, rfl⟩ := Int.eq_ofNat_of_zero_le h
  unfold cut
  rw [HT.sIx_none, HT.sIx_nat]
  by_cases q : n ≤ l.length
  · rw [Nat.min_eq_left q]
    rw [List.take_of_length_le (by rw [List.length_drop] <;> omega)]
    rfl
  · rw [Nat.min_eq_right (by omega), List.drop_length, List.drop_of_length_le (by simp; omega)]
    simp
theorem atI_of {α : Type} {xs : List α} {i : Int} (h0 : 0 ≤ i) (h1 : i < xs.length) : ∃ v, atI xs i = some v ∧ xs[i.toNat]? = some v := by
  obtain ⟨n, rfl⟩ := Int.eq_ofNat_of_zero_le h0
  have hn : n < xs.length := by omega
  exact ⟨xs[n], atI_nat (List.getElem?_eq_getElem hn), List.getElem?_eq_getElem hn⟩
theorem sl16 : (sizeLine : Nat) = 16777216 := sizeLine_eq
theorem cxK {CX P w K mg base N q sc f cd A o s H E} : (cxOf CX P w K mg base N q sc f cd A o s H E).K = K := rfl
theorem cxP {CX P w K mg base N q sc f cd A o s H E} : (cxOf CX P w K mg base N q sc f cd A o s H E).prog = P := rfl
theorem cxW {CX P w K mg base N q sc f cd A o s H E} : (cxOf CX P w K mg base N q sc f cd A o s H E).w = w := rfl
theorem sc_ii {a b : Int} : scal (.int a) (.int b) = true := rfl
theorem sc_ss {a b : Str} : scal (.str a) (.str b) = true := rfl
theorem sc_bb {a b : Bool} : scal (.bl a) (.bl b) = true := rfl
theorem sc_ns {b : Str} : scal .non (.str b) = true := rfl
theorem sc_sn {b : Str} : scal (.str b) .non = true := rfl
theorem same_upd {H : Hp} {p : Addr} {o : HO} (h : H p = none) : Same H (upd H p o) := fun b u e => by
  rw [upd_ne (ne_of_none e h)]
  exact e
theorem take_one {α : Type} {l : List α} {i : Nat} {c : α} (h : l[i]? = some c) : l.take (i + 1) = l.take i ++ [c] := by
  rw [List.take_add_one, h]; rfl
end L3
set_option Elab.async false
set_option linter.all false
set_option maxRecDepth 100000
set_option maxHeartbeats 4000000
namespace L3
open PySem PySem.Spec PyProof.Rows L2
section
variable {X : Cx}
def rNin : R2 := fun x y H Q => ∃ c l, x = .str (tx [c]) ∧ y = .str (tx l) ∧ Q (.bl (!decide (c ∈ l))) H
def rIn1 : R2 := fun x y H Q => ∃ c l, x = .str (tx [c]) ∧ y = .str (tx l) ∧ Q (.bl (decide (c ∈ l))) H
theorem op_in1 : OpR X (compareOp .In) rIn1 := by
  intro pins s σ H x y v u Q I rx ry h
  obtain ⟨c, l, rfl, rfl, q⟩ := h
  refine op_in_str pins s σ H _ _ v u Q I rx ry ⟨_, _, rfl, rfl, ?_⟩
  rw [in_one]
  exact q
def rIsN : R2 := fun x y H Q => y = .non ∧ Q (.bl (decide (x = .non))) H
theorem op_isN' : OpR X (compareOp .Is) rIsN := op_isN
def rNotN : R2 := fun x y H Q => y = .non ∧ Q (.bl (!decide (x = .non))) H
theorem op_notN' : OpR X (compareOp .IsNot) rNotN := op_notN
def rMax2 : List V → Hp → VK → Prop := fun xs H Q => ∃ i j, xs = [.int i, .int j] ∧ Q (.int (if j > i then j else i)) H
def rGe : R2 := fun x y H Q => ∃ i j, x = .int i ∧ y = .int j ∧ Q (.bl (decide (j ≤ i))) H
def tTru (K : PySem.W.Frag) (ta : TE) : TT := fun σ H Q => ta σ H fun x H' => ∃ k, TruV K x H' k ∧ Q k H'
end
def BadAt (ls l : List Nat) (m : Int) (k : Nat) : Prop := ∃ c, l[k]? = some c ∧ (m ≤ k ∨ c ∉ ls)
def FB (ls l : List Nat) (m : Int) (k : Nat) : Prop := BadAt ls l m k ∧ ∀ j < k, ¬ BadAt ls l m j
def NB (ls l : List Nat) (m : Int) : Prop := ∀ j, ¬ BadAt ls l m j
theorem FB.nb {ls l : List Nat} {m : Int} {k : Nat} (h : FB ls l m k) (n : NB ls l m) : False := n k h.1
end L3
set_option Elab.async false
set_option linter.all false
set_option maxRecDepth 100000
set_option maxHeartbeats 4000000
namespace L3
open PySem PySem.Spec PyProof.Rows L2
inductive D where
  | non | bl (b : Bool) | int (i : Int) | str (x : Str) | lst (l : List D) | tup (l : List D)
mutual
def Is (K : PySem.W.Frag) (H : Hp) : D → V → Prop
  | .non, v => v = .non
  | .bl b, v => v = .bl b
  | .int i, v => v = .int i
  | .str x, v => v = .str x
  | .lst l, v => ∃ a xs, v = .ref a ∧ SqL K H a xs ∧ Iss K H l xs
  | .tup l, v => ∃ a xs, v = .ref a ∧ SqT K H a xs ∧ Iss K H l xs
def Iss (K : PySem.W.Frag) (H : Hp) : List D → List V → Prop
  | [], vs => vs = []
  | d :: l, vs => ∃ v r, vs = v :: r ∧ Is K H d v ∧ Iss K H l r
end
mutual
def eqD : D → D → Bool
  | .non, .non => true
  | .bl a, .bl b => a == b
  | .bl a, .int b => (if a then 1 else 0) == b
  | .int a, .bl b => a == (if b then 1 else 0)
  | .int a, .int b => a == b
  | .str a, .str b => a == b
  | .lst l, .lst m => eqDs l m
  | .tup l, .tup m => eqDs l m
  | _, _ => false
def eqDs : List D → List D → Bool
  | [], [] => true
  | d :: l, e :: m => eqD d e && eqDs l m
  | _, _ => false
end
mutual
def dpD : D → Nat
  | .lst l => dpDs l + 1
  | .tup l => dpDs l + 1
  | _ => 0
def dpDs : List D → Nat
  | [] => 0
  | d :: l => max (dpD d) (dpDs l)
end
theorem dp_at : ∀ {l : List D} {j : Nat} {d : D}, l[j]? = some d → dpD d ≤ dpDs l
  | d :: l, 0, _, h => by
    cases h
    simp only [dpDs]
    omega
  | d :: l, j + 1, e, h => by
    have := dp_at (l := l) (j := j) (d := e) h
    simp only [dpDs]
    omega
mutual
theorem eqD_refl : ∀ d : D, eqD d d = true
  | .non => rfl
  | .bl b => by simp [eqD]
  | .int i => by simp [eqD]
  | .str x => by simp [eqD]
  | .lst l => by simp only [eqD]; exact eqDs_refl l
  | .tup l => by simp only [eqD]; exact eqDs_refl l
theorem eqDs_refl : ∀ l : List D, eqDs l l = true
  | [] => rfl
  | d :: l => by simp only [eqDs, eqD_refl d, eqDs_refl l, Bool.and_self]
end
theorem Iss.len {K : PySem.W.Frag} {H : Hp} : ∀ {l : List D} {vs : List V}, Iss K H l vs → vs.length = l.length
  | [], vs, h => by simp only [Iss] at h; rw [h]; rfl
  | d :: l, vs, h => by
    simp only [Iss] at h
    obtain ⟨v, r, rfl, _, h2⟩ := h
    simp only [List.length_cons, Iss.len h2]
theorem Iss.at {K : PySem.W.Frag} {H : Hp} : ∀ {l : List D} {vs : List V} {j : Nat} {d : D}, Iss K H l vs → l[j]? = some d → ∃ v, vs[j]? = some v ∧ Is K H d v
  | d :: l, vs, 0, _, h, q => by
    cases q
    simp only [Iss] at h
    obtain ⟨v, r, rfl, h1, _⟩ := h
    exact ⟨v, rfl, h1⟩
  | d :: l, vs, j + 1, e, h, q => by
    simp only [Iss] at h
    obtain ⟨v, r, rfl, _, h2⟩ := h
    exact Iss.at (j := j) h2 q
theorem Iss.ints {K : PySem.W.Frag} {H : Hp} : ∀ (l : List Int), Iss K H (l.map D.int) (l.map V.int)
  | [] => by simp only [List.map_nil, Iss]
  | i :: l => by
    simp only [List.map_cons, Iss, Is]
    exact ⟨_, _, rfl, rfl, Iss.ints l⟩
theorem seqT_same {K : PySem.W.Frag} {H H' : Hp} {a : Addr} {xs : List V} (e : Same H H') (h : SqT K H a xs) : SqT K H' a xs := by
  rcases h with (h | ⟨o, h⟩) | h
  · exact .inl (.inl (e _ _ h))
  · exact .inl (.inr ⟨o, e _ _ h⟩)
  · exact .inr h
mutual
theorem Is.same {K : PySem.W.Frag} {H H' : Hp} (e : Same H H') : ∀ (d : D) (v : V), Is K H d v → Is K H' d v
  | .non, v, h => by simp only [Is] at h ⊢; exact h
  | .bl b, v, h => by simp only [Is] at h ⊢; exact h
  | .int b, v, h => by simp only [Is] at h ⊢; exact h
  | .str b, v, h => by simp only [Is] at h ⊢; exact h
  | .lst l, v, h => by
    simp only [Is] at h ⊢
    obtain ⟨a, xs, e1, e2, e3⟩ := h
    exact ⟨a, xs, e1, e.seq e2, Iss.same e l xs e3⟩
  | .tup l, v, h => by
    simp only [Is] at h ⊢
    obtain ⟨a, xs, e1, e2, e3⟩ := h
    exact ⟨a, xs, e1, seqT_same e e2, Iss.same e l xs e3⟩
theorem Iss.same {K : PySem.W.Frag} {H H' : Hp} (e : Same H H') : ∀ (l : List D) (vs : List V), Iss K H l vs → Iss K H' l vs
  | [], vs, h => by simp only [Iss] at h ⊢; exact h
  | d :: l, vs, h => by
    simp only [Iss] at h ⊢
    obtain ⟨v, r, e1, e2, e3⟩ := h
    exact ⟨v, r, e1, Is.same e d v e2, Iss.same e l r e3⟩
end
theorem eqDs_is : ∀ (l m : List D), eqDs l m = ((List.range (min l.length m.length)).all (fun j => eqD (l.getD j .non) (m.getD j .non)) && l.length == m.length)
  | [], [] => rfl
  | [], e :: m => by simp [eqDs]
  | d :: l, [] => by simp [eqDs]
  | d :: l, e :: m => by
    simp only [eqDs, eqDs_is l m, List.length_cons]
    have h1 : min (l.length + 1) (m.length + 1) = min l.length m.length + 1 := by omega
    rw [h1, List.range_succ_eq_map, List.all_cons, List.all_map]
    have h2 : (l.length + 1 == m.length + 1) = (l.length == m.length) := by
      rw [Bool.eq_iff_iff, beq_iff_eq, beq_iff_eq]; omega
    rw [h2]
    simp only [List.getD_cons_zero, Bool.and_assoc]
    rfl
section
variable {X : Cx} {pins : List (Addr × Obj)} {σ : St} {H : Hp} {s : Shared}
theorem seq_kinds {a : Addr} {xs ys : List V} (I : Inv X pins σ H s) (h : SqL X.K H a xs) (g : SqT X.K H a ys) : False := by
  obtain ⟨its, r, ⟨o, n, e, c, _, d⟩, _⟩ := I.list h
  obtain ⟨its', r', ⟨o', e', c', n', d'⟩, _⟩ := I.tuple g
  rw [e] at e'
  cases e'
  rw [c] at c'
  exact absurd (Value.type.inj c') (by decide)
mutual
theorem is_det (I : Inv X pins σ H s) : ∀ (d e : D) (v : V), Is X.K H d v → Is X.K H e v → d = e
  | .lst l, .lst m, v, h, g => by
    simp only [Is] at h g
    obtain ⟨a, xs, rfl, h1, h2⟩ := h
    obtain ⟨b, ys, e, g1, g2⟩ := g
    cases e
    have := I.list_inj h1 g1
    subst this
    rw [iss_det I l m xs h2 g2]
  | .tup l, .tup m, v, h, g => by
    simp only [Is] at h g
    obtain ⟨a, xs, rfl, h1, h2⟩ := h
    obtain ⟨b, ys, e, g1, g2⟩ := g
    cases e
    have := I.tuple_inj h1 g1
    subst this
    rw [iss_det I l m xs h2 g2]
  | .lst l, .tup m, v, h, g => by
    simp only [Is] at h g
    obtain ⟨a, xs, rfl, h1, h2⟩ := h
    obtain ⟨b, ys, e, g1, g2⟩ := g
    cases e
    exact (seq_kinds I h1 g1).elim
  | .tup l, .lst m, v, h, g => by
    simp only [Is] at h g
    obtain ⟨a, xs, rfl, h1, h2⟩ := h
    obtain ⟨b, ys, e, g1, g2⟩ := g
    cases e
    exact (seq_kinds I g1 h1).elim
  | .lst l, .non, v, h, g => by simp only [Is] at h g; obtain ⟨a, xs, rfl, _⟩ := h; cases g
  | .lst l, .bl _, v, h, g => by simp only [Is] at h g; obtain ⟨a, xs, rfl, _⟩ := h; cases g
  | .lst l, .int _, v, h, g => by simp only [Is] at h g; obtain ⟨a, xs, rfl, _⟩ := h; cases g
  | .lst l, .str _, v, h, g => by simp only [Is] at h g; obtain ⟨a, xs, rfl, _⟩ := h; cases g
  | .tup l, .non, v, h, g => by simp only [Is] at h g; obtain ⟨a, xs, rfl, _⟩ := h; cases g
  | .tup l, .bl _, v, h, g => by simp only [Is] at h g; obtain ⟨a, xs, rfl, _⟩ := h; cases g
  | .tup l, .int _, v, h, g => by simp only [Is] at h g; obtain ⟨a, xs, rfl, _⟩ := h; cases g
  | .tup l, .str _, v, h, g => by simp only [Is] at h g; obtain ⟨a, xs, rfl, _⟩ := h; cases g
  | .non, e, v, h, g => by
    simp only [Is] at h
    subst h
    cases e <;> simp only [Is] at g
    all_goals first | rfl | (obtain ⟨a, xs, q, _⟩ := g; cases q) | cases g
  | .bl _, e, v, h, g => by
    simp only [Is] at h
    subst h
    cases e <;> simp only [Is] at g
    all_goals first | (cases g; rfl) | (obtain ⟨a, xs, q, _⟩ := g; cases q) | cases g
  | .int _, e, v, h, g => by
    simp only [Is] at h
    subst h
    cases e <;> simp only [Is] at g
    all_goals first | (cases g; rfl) | (obtain ⟨a, xs, q, _⟩ := g; cases q) | cases g
  | .str _, e, v, h, g => by
    simp only [Is] at h
    subst h
    cases e <;> simp only [Is] at g
    all_goals first | (cases g; rfl) | (obtain ⟨a, xs, q, _⟩ := g; cases q) | cases g
theorem iss_det (I : Inv X pins σ H s) : ∀ (l m : List D) (vs : List V), Iss X.K H l vs → Iss X.K H m vs → l = m
  | [], [], _, _, _ => rfl
  | [], e :: m, vs, h, g => by
    simp only [Iss] at h g
    subst h
    obtain ⟨_, _, q, _⟩ := g
    cases q
  | d :: l, [], vs, h, g => by
    simp only [Iss] at h g
    subst g
    obtain ⟨_, _, q, _⟩ := h
    cases q
  | d :: l, e :: m, vs, h, g => by
    simp only [Iss] at h g
    obtain ⟨v, r, rfl, h1, h2⟩ := h
    obtain ⟨v', r', q, g1, g2⟩ := g
    cases q
    rw [is_det I d e v h1 g1, iss_det I l m r h2 g2]
end
theorem vals_at : ∀ {xs : List V} {us : List Value} {j : Nat} {x : V}, Vals xs us → xs[j]? = some x → ∃ u, us[j]? = some u ∧ RelV x u
  | _, _, 0, _, .cons r t, h => by cases h; exact ⟨_, rfl, r⟩
  | _, _, j + 1, _, .cons r t, h => vals_at (j := j) t h
theorem items_at {l m : List D} {xs ys : List V} {its its' : List Value} {A : Around} {n : Nat} (hl : Iss X.K H l xs) (hm : Iss X.K H m ys) (r : Vals xs its) (r' : Vals ys its') (hn : dpDs l < n)
    (ih : ∀ (d e : D) (x y : V) (u v : Value), dpD d < n → Is X.K H d x → Is X.K H e y → RelV x u → RelV y v → SeqAt.EqAt A s u v (eqD d e)) :
    ∀ j (h1 : j < its.toArray.size) (h2 : j < its'.toArray.size), SeqAt.EqAt A s its.toArray[j] its'.toArray[j] (eqD (l.getD j .non) (m.getD j .non)) := by
  intro j h1 h2
  rw [List.size_toArray] at h1 h2
  have e1 := hl.len
  have e2 := hm.len
  have e3 := r.length
  have e4 := r'.length
  have g1 : l[j]? = some l[j] := List.getElem?_eq_getElem (by omega)
  have g2 : m[j]? = some m[j] := List.getElem?_eq_getElem (by omega)
  generalize l[j] = d at g1
  generalize m[j] = e at g2
  obtain ⟨x, hx, ix⟩ := hl.at g1
  obtain ⟨y, hy, iy⟩ := hm.at g2
  obtain ⟨u, hu, ru⟩ := vals_at r hx
  obtain ⟨v, hv, rv⟩ := vals_at r' hy
  have q1 : its.toArray[j] = u := by
    have := (List.getElem?_eq_some_iff.mp hu).2
    simpa using this
  have q2 : its'.toArray[j] = v := by
    have := (List.getElem?_eq_some_iff.mp hv).2
    simpa using this
  rw [q1, q2, List.getD_eq_getElem?_getD, List.getD_eq_getElem?_getD, g1, g2]
  exact ih d e x y u v (Nat.lt_of_le_of_lt (dp_at g1) hn) ix iy ru rv
theorem eqAt_D (I : Inv X pins σ H s) : ∀ (n : Nat) (A : Around) (d e : D) (x y : V) (u v : Value), A.units + n < cLine → dpD d < n → Is X.K H d x → Is X.K H e y → RelV x u → RelV y v → SeqAt.EqAt A s u v (eqD d e) := by
  intro n
  induction n with
  | zero => intro A d e x y u v _ h; exact absurd h (Nat.not_lt_zero _)
  | succ n ih =>
    intro A d e x y u v hu hd hx hy rx ry
    have hu1 : A.units < cLine := by omega
    have huA : A.in1.units + n < cLine := by show A.units + 1 + n < cLine; omega
    cases d with
    | lst l =>
      simp only [Is] at hx
      obtain ⟨a, xs, rfl, h1, h2⟩ := hx
      cases rx
      obtain ⟨its, r, p, _⟩ := I.list h1
      cases e with
      | non => simp only [Is] at hy; subst hy; cases ry; exact SeqAt.EqAt.list_none p.isList hu1
      | bl b => simp only [Is] at hy; subst hy; cases ry; exact SeqAt.EqAt.list_bool b p.isList hu1
      | int b => simp only [Is] at hy; subst hy; obtain ⟨t, rfl⟩ := ry; exact SeqAt.EqAt.list_int b t p.isList hu1
      | str b => simp only [Is] at hy; subst hy; obtain ⟨t, rfl⟩ := ry; exact SeqAt.EqAt.list_str b t p.isList hu1
      | tup m =>
        simp only [Is] at hy
        obtain ⟨b, ys, rfl, g1, g2⟩ := hy
        cases ry
        obtain ⟨its', r', p', _⟩ := I.tuple g1
        exact SeqAt.EqAt.list_tuple p.isList p' hu1
      | lst m =>
        have hy' := hy
        simp only [Is] at hy
        obtain ⟨b, ys, rfl, g1, g2⟩ := hy
        cases ry
        obtain ⟨its', r', p', _⟩ := I.list g1
        simp only [dpD] at hd
        by_cases hab : a = b
        · subst hab
          have := is_det I (.lst l) (.lst m) (.ref a) (by simp only [Is]; exact ⟨a, xs, rfl, h1, h2⟩) hy'
          rw [this, eqD_refl]
          exact SeqAt.EqAt.same _
        · refine .of_refs hab ?_
          simp only [eqD]
          have L1 := h2.len
          have L2 := g2.len
          have L3 := r.length
          have L4 := r'.length
          by_cases hl : l.length = m.length
          · have := SeqAt.RcAt.lists (A := A) p.isList p'.isList (by simp only [List.size_toArray]; omega) hu1 (items_at h2 g2 r r' (n := n) (by omega) fun d e x y u v q1 q2 q3 q4 q5 => ih A.in1 d e x y u v huA q1 q2 q3 q4 q5)
            rw [eqDs_is, hl, Nat.min_self, beq_self_eq_true, Bool.and_true]
            have e1 : its.toArray.size = m.length := by simp only [List.size_toArray]; omega
            rw [e1] at this
            exact this
          · rw [eqDs_is, beq_eq_false_iff_ne.mpr hl, Bool.and_false]
            exact SeqAt.RcAt.lists_lengths p.isList p'.isList (by rw [bne_iff_ne]; simp only [List.size_toArray]; omega) hu1
    | tup l =>
      simp only [Is] at hx
      obtain ⟨a, xs, rfl, h1, h2⟩ := hx
      cases rx
      obtain ⟨its, r, p, _⟩ := I.tuple h1
      cases e with
      | non => simp only [Is] at hy; subst hy; cases ry; exact SeqAt.EqAt.tuple_none p hu1
      | bl b => simp only [Is] at hy; subst hy; cases ry; exact SeqAt.EqAt.tuple_bool b p hu1
      | int b => simp only [Is] at hy; subst hy; obtain ⟨t, rfl⟩ := ry; exact SeqAt.EqAt.tuple_int b t p hu1
      | str b => simp only [Is] at hy; subst hy; obtain ⟨t, rfl⟩ := ry; exact SeqAt.EqAt.tuple_str b t p hu1
      | lst m =>
        simp only [Is] at hy
        obtain ⟨b, ys, rfl, g1, g2⟩ := hy
        cases ry
        obtain ⟨its', r', p', _⟩ := I.list g1
        exact SeqAt.EqAt.tuple_list p p'.isList hu1
      | tup m =>
        have hy' := hy
        simp only [Is] at hy
        obtain ⟨b, ys, rfl, g1, g2⟩ := hy
        cases ry
        obtain ⟨its', r', p', _⟩ := I.tuple g1
        simp only [dpD] at hd
        by_cases hab : a = b
        · subst hab
          have := is_det I (.tup l) (.tup m) (.ref a) (by simp only [Is]; exact ⟨a, xs, rfl, h1, h2⟩) hy'
          rw [this, eqD_refl]
          exact SeqAt.EqAt.same _
        · refine .of_refs hab ?_
          simp only [eqD]
          have L1 := h2.len
          have L2 := g2.len
          have L3 := r.length
          have L4 := r'.length
          have := SeqAt.RcAt.tuples (A := A) p p' hu1 (items_at h2 g2 r r' (n := n) (by omega) fun d e x y u v q1 q2 q3 q4 q5 => ih A.in1 d e x y u v huA q1 q2 q3 q4 q5)
          rw [eqDs_is]
          simp only [List.size_toArray] at this
          rw [← L1, ← L2, L3, L4]
          exact this
    | non =>
      simp only [Is] at hx
      subst hx
      cases e with
      | lst m =>
        simp only [Is] at hy
        obtain ⟨b, ys, rfl, g1, g2⟩ := hy
        cases rx; cases ry
        obtain ⟨its', r', p', _⟩ := I.list g1
        exact SeqAt.EqAt.none_list p'.isList hu1
      | tup m =>
        simp only [Is] at hy
        obtain ⟨b, ys, rfl, g1, g2⟩ := hy
        cases rx; cases ry
        obtain ⟨its', r', p', _⟩ := I.tuple g1
        exact SeqAt.EqAt.none_tuple p' hu1
      | _ => simp only [Is] at hy; subst hy; exact eqAt_V rx ry rfl rfl
    | bl c =>
      simp only [Is] at hx
      subst hx
      cases e with
      | lst m =>
        simp only [Is] at hy
        obtain ⟨b, ys, rfl, g1, g2⟩ := hy
        cases rx; cases ry
        obtain ⟨its', r', p', _⟩ := I.list g1
        exact SeqAt.EqAt.bool_list _ p'.isList hu1
      | tup m =>
        simp only [Is] at hy
        obtain ⟨b, ys, rfl, g1, g2⟩ := hy
        cases rx; cases ry
        obtain ⟨its', r', p', _⟩ := I.tuple g1
        exact SeqAt.EqAt.bool_tuple _ p' hu1
      | _ => simp only [Is] at hy; subst hy; exact eqAt_V rx ry rfl rfl
    | int c =>
      simp only [Is] at hx
      subst hx
      cases e with
      | lst m =>
        simp only [Is] at hy
        obtain ⟨b, ys, rfl, g1, g2⟩ := hy
        obtain ⟨t, rfl⟩ := rx; cases ry
        obtain ⟨its', r', p', _⟩ := I.list g1
        exact SeqAt.EqAt.int_list _ _ p'.isList hu1
      | tup m =>
        simp only [Is] at hy
        obtain ⟨b, ys, rfl, g1, g2⟩ := hy
        obtain ⟨t, rfl⟩ := rx; cases ry
        obtain ⟨its', r', p', _⟩ := I.tuple g1
        exact SeqAt.EqAt.int_tuple _ _ p' hu1
      | _ => simp only [Is] at hy; subst hy; exact eqAt_V rx ry rfl rfl
    | str c =>
      simp only [Is] at hx
      subst hx
      cases e with
      | lst m =>
        simp only [Is] at hy
        obtain ⟨b, ys, rfl, g1, g2⟩ := hy
        obtain ⟨t, rfl⟩ := rx; cases ry
        obtain ⟨its', r', p', _⟩ := I.list g1
        exact SeqAt.EqAt.str_list _ _ p'.isList hu1
      | tup m =>
        simp only [Is] at hy
        obtain ⟨b, ys, rfl, g1, g2⟩ := hy
        obtain ⟨t, rfl⟩ := rx; cases ry
        obtain ⟨its', r', p', _⟩ := I.tuple g1
        exact SeqAt.EqAt.str_tuple _ _ p' hu1
      | _ => simp only [Is] at hy; subst hy; exact eqAt_V rx ry rfl rfl
def rEqL (K : PySem.W.Frag) : R2 := fun x y H Q => ∃ l m, ((Is K H (.lst l) x ∧ Is K H (.lst m) y) ∨ (Is K H (.tup l) x ∧ Is K H (.tup m) y)) ∧ dpDs l < 50 ∧ Q (.bl (eqDs l m)) H
def rNeL (K : PySem.W.Frag) : R2 := fun x y H Q => ∃ l m, ((Is K H (.lst l) x ∧ Is K H (.lst m) y) ∨ (Is K H (.tup l) x ∧ Is K H (.tup m) y)) ∧ dpDs l < 50 ∧ Q (.bl (!eqDs l m)) H
theorem op_eqL (hu : X.A.units + 100 < cLine) : OpR X (compareOp .Eq) (rEqL X.K) := by
  intro pins s σ H x y v u Q I rx ry h
  obtain ⟨l, m, hh, hd, q⟩ := h
  have hu1 : X.A.units < cLine := by omega
  have huA : X.A.in1.units + 50 < cLine := by show X.A.units + 1 + 50 < cLine; omega
  rcases hh with ⟨hx, hy⟩ | ⟨hx, hy⟩
  · simp only [Is] at hx hy
    obtain ⟨a, xs, rfl, h1, h2⟩ := hx
    obtain ⟨b, ys, rfl, g1, g2⟩ := hy
    cases rx; cases ry
    obtain ⟨its, r, p, _⟩ := I.list h1
    obtain ⟨its', r', p', _⟩ := I.list g1
    have L1 := h2.len
    have L2 := g2.len
    have L3 := r.length
    have L4 := r'.length
    by_cases hl : l.length = m.length
    · have := SeqAt.RcAt.lists (A := X.A) p.isList p'.isList (by simp only [List.size_toArray]; omega) hu1 (items_at h2 g2 r r' (n := 50) hd fun d e x y u v q1 q2 q3 q4 q5 => eqAt_D I 50 X.A.in1 d e x y u v huA q1 q2 q3 q4 q5)
      have e1 : its.toArray.size = m.length := by simp only [List.size_toArray]; omega
      rw [e1] at this
      rw [eqDs_is, hl, Nat.min_self, beq_self_eq_true, Bool.and_true] at q
      exact this X.prog X.w X.xe _ ⟨.bl _, H, I, rfl, q⟩
    · rw [eqDs_is, beq_eq_false_iff_ne.mpr hl, Bool.and_false] at q
      exact SeqAt.RcAt.lists_lengths p.isList p'.isList (by rw [bne_iff_ne]; simp only [List.size_toArray]; omega) hu1 X.prog X.w X.xe _ ⟨.bl _, H, I, rfl, q⟩
  · simp only [Is] at hx hy
    obtain ⟨a, xs, rfl, h1, h2⟩ := hx
    obtain ⟨b, ys, rfl, g1, g2⟩ := hy
    cases rx; cases ry
    obtain ⟨its, r, p, _⟩ := I.tuple h1
    obtain ⟨its', r', p', _⟩ := I.tuple g1
    have L1 := h2.len
    have L2 := g2.len
    have L3 := r.length
    have L4 := r'.length
    have := SeqAt.RcAt.tuples (A := X.A) p p' hu1 (items_at h2 g2 r r' (n := 50) hd fun d e x y u v q1 q2 q3 q4 q5 => eqAt_D I 50 X.A.in1 d e x y u v huA q1 q2 q3 q4 q5)
    simp only [List.size_toArray] at this
    rw [eqDs_is, ← L1, ← L2, L3, L4] at q
    exact this X.prog X.w X.xe _ ⟨.bl _, H, I, rfl, q⟩
theorem op_neL (hu : X.A.units + 100 < cLine) : OpR X (compareOp .NotEq) (rNeL X.K) := by
  intro pins s σ H x y v u Q I rx ry h
  obtain ⟨l, m, hh, hd, q⟩ := h
  have hu1 : X.A.units < cLine := by omega
  have huA : X.A.in1.units + 50 < cLine := by show X.A.units + 1 + 50 < cLine; omega
  rcases hh with ⟨hx, hy⟩ | ⟨hx, hy⟩
  · simp only [Is] at hx hy
    obtain ⟨a, xs, rfl, h1, h2⟩ := hx
    obtain ⟨b, ys, rfl, g1, g2⟩ := hy
    cases rx; cases ry
    obtain ⟨its, r, p, _⟩ := I.list h1
    obtain ⟨its', r', p', _⟩ := I.list g1
    have L1 := h2.len
    have L2 := g2.len
    have L3 := r.length
    have L4 := r'.length
    by_cases hl : l.length = m.length
    · have := SeqAt.RcNeAt.lists (A := X.A) p.isList p'.isList (by simp only [List.size_toArray]; omega) hu1 (items_at h2 g2 r r' (n := 50) hd fun d e x y u v q1 q2 q3 q4 q5 => eqAt_D I 50 X.A.in1 d e x y u v huA q1 q2 q3 q4 q5)
      have e1 : its.toArray.size = m.length := by simp only [List.size_toArray]; omega
      rw [e1] at this
      rw [eqDs_is, hl, Nat.min_self, beq_self_eq_true, Bool.and_true] at q
      exact this X.prog X.w X.xe _ ⟨.bl _, H, I, rfl, q⟩
    · rw [eqDs_is, beq_eq_false_iff_ne.mpr hl, Bool.and_false] at q
      exact SeqAt.RcNeAt.lists_lengths p.isList p'.isList (by rw [bne_iff_ne]; simp only [List.size_toArray]; omega) hu1 X.prog X.w X.xe _ ⟨.bl _, H, I, rfl, q⟩
  · simp only [Is] at hx hy
    obtain ⟨a, xs, rfl, h1, h2⟩ := hx
    obtain ⟨b, ys, rfl, g1, g2⟩ := hy
    cases rx; cases ry
    obtain ⟨its, r, p, _⟩ := I.tuple h1
    obtain ⟨its', r', p', _⟩ := I.tuple g1
    have L1 := h2.len
    have L2 := g2.len
    have L3 := r.length
    have L4 := r'.length
    have := SeqAt.RcNeAt.tuples (A := X.A) p p' hu1 (items_at h2 g2 r r' (n := 50) hd fun d e x y u v q1 q2 q3 q4 q5 => eqAt_D I 50 X.A.in1 d e x y u v huA q1 q2 q3 q4 q5)
    simp only [List.size_toArray] at this
    rw [eqDs_is, ← L1, ← L2, L3, L4] at q
    exact this X.prog X.w X.xe _ ⟨.bl _, H, I, rfl, q⟩
end
abbrev CNx (n i : Nat) (Pv : Nat → List V → Hp → Prop) (acc : List V) (H : Hp) : Prop := ∃ m', m' < n - i ∧ (m' = n - (i + 1) ∧ i + 1 ≤ n ∧ Pv (i + 1) acc H)
theorem CNx.mk {n i : Nat} {Pv : Nat → List V → Hp → Prop} {acc : List V} {H : Hp} (hi : i < n) (h : Pv (i + 1) acc H) : CNx n i Pv acc H := ⟨n - (i + 1), by omega, rfl, hi, h⟩
def CompG (J : It) (g : TG) (tt : TT) (te : TE) (own : Nat) (ix : List Nat) (σ : St) (H1 : Hp) (Q : VK) (D : Addr) : Prop := ∃ W : Nat → Nat → List V → Hp → Prop, (∃ m, W 0 m [] (upd H1 D (.lst []))) ∧
  ∀ i m acc H', W i m acc H' → (J.stop i H' ∧ Q (.ref D) H') ∨ (J.go i H' ∧ ∀ x H2, J.yld i H' x H2 → g x (seen σ own ix) H2 fun σ3 H3 => KeepsSt (seen σ own ix) σ3 ∧ tt σ3 H3 fun b H4 => if b = true then
    te σ3 H4 fun v H5 => H5 D = some (.lst acc) ∧ acc.length < sizeLine ∧ ∃ m', m' < m ∧ W (i + 1) m' (acc ++ [v]) (upd H5 D (.lst (acc ++ [v])))
    else ∃ m', m' < m ∧ W (i + 1) m' acc H4)
def CompR (lo : Int) (n : Nat) (g : TG) (tt : TT) (te : TE) (own : Nat) (ix : List Nat) (σ : St) (H1 : Hp) (Q : VK) (D : Addr) : Prop := CompG (Itr lo n) g tt te own ix σ H1 Q D
def CompL (K : PySem.W.Frag) (a : Addr) (g : TG) (tt : TT) (te : TE) (own : Nat) (ix : List Nat) (σ : St) (H1 : Hp) (Q : VK) (D : Addr) : Prop := CompG (Itl K a) g tt te own ix σ H1 Q D
def CompS (x : Str) (g : TG) (tt : TT) (te : TE) (own : Nat) (ix : List Nat) (σ : St) (H1 : Hp) (Q : VK) (D : Addr) : Prop := CompG (Its x) g tt te own ix σ H1 Q D
theorem rd_cr1 {ta : TA} {g : TG} {tt : TT} {te : TE} {own : Nat} {ix : List Nat} {σ : St} {H : Hp} {Q : VK} : tComp (iRng1 ta) g tt te own ix σ H Q = ta σ H fun vs H1 => ∃ j : Int, vs = [.int j] ∧ -(2 ^ 62) ≤ j ∧ j < 2 ^ 62 ∧ ∀ D, H1 D = none → CompR 0 j.toNat g tt te own ix σ H1 Q D := rfl
theorem rd_cl {K : PySem.W.Frag} {tl : TE} {g : TG} {tt : TT} {te : TE} {own : Nat} {ix : List Nat} {σ : St} {H : Hp} {Q : VK} : tComp (iList K tl) g tt te own ix σ H Q = tl σ H fun x H1 => ∃ a, x = .ref a ∧ (∃ xs, SqL K H1 a xs) ∧ ∀ D, H1 D = none → CompL K a g tt te own ix σ H1 Q D := rfl
theorem rd_cs {tl : TE} {g : TG} {tt : TT} {te : TE} {own : Nat} {ix : List Nat} {σ : St} {H : Hp} {Q : VK} : tComp (iStr tl) g tt te own ix σ H Q = tl σ H fun v H1 => ∃ x, v = .str x ∧ ∀ D, H1 D = none → CompS x g tt te own ix σ H1 Q D := rfl
section
variable {g : TG} {tt : TT} {te : TE} {own : Nat} {ix : List Nat} {σ : St} {H1 : Hp} {Q : VK} {D : Addr}
theorem CompL.by {K : PySem.W.Frag} {a : Addr} {xs : List V} (Pv : Nat → List V → Hp → Prop) (h0 : Pv 0 [] (upd H1 D (.lst []))) (hl : ∀ i acc H', i ≤ xs.length → Pv i acc H' → SqL K H' a xs)
    (hs : ∀ i x acc H', xs[i]? = some x → Pv i acc H' → g x (seen σ own ix) H' fun σ3 H3 => KeepsSt (seen σ own ix) σ3 ∧ tt σ3 H3 fun b H4 => if b = true then
      te σ3 H4 fun v H5 => H5 D = some (.lst acc) ∧ acc.length < sizeLine ∧ CNx xs.length i Pv (acc ++ [v]) (upd H5 D (.lst (acc ++ [v]))) else CNx xs.length i Pv acc H4)
    (hd : ∀ acc H', Pv xs.length acc H' → Q (.ref D) H') : CompL K a g tt te own ix σ H1 Q D := by
  refine ⟨fun i m acc H => m = xs.length - i ∧ i ≤ xs.length ∧ Pv i acc H, ⟨xs.length, by simp, Nat.zero_le _, h0⟩, ?_⟩
  rintro i m acc H' ⟨rfl, hi, p⟩
  have q := hl i acc H' hi p
  by_cases hlt : i < xs.length
  · refine .inr ⟨⟨xs, xs[i], q, by simp [hlt]⟩, fun x H2 y => ?_⟩
    obtain ⟨e, y⟩ := y
    subst e
    exact hs i x acc _ (y xs q) p
  · have e : i = xs.length := by omega
    subst e
    exact .inl ⟨⟨xs, q, Nat.le_refl _⟩, hd acc H' p⟩
theorem CompS.by {l : List Nat} (Pv : Nat → List V → Hp → Prop) (h0 : Pv 0 [] (upd H1 D (.lst [])))
    (hs : ∀ i c acc H', l[i]? = some c → Pv i acc H' → g (.str (tx [c])) (seen σ own ix) H' fun σ3 H3 => KeepsSt (seen σ own ix) σ3 ∧ tt σ3 H3 fun b H4 => if b = true then
      te σ3 H4 fun v H5 => H5 D = some (.lst acc) ∧ acc.length < sizeLine ∧ CNx l.length i Pv (acc ++ [v]) (upd H5 D (.lst (acc ++ [v]))) else CNx l.length i Pv acc H4)
    (hd : ∀ acc H', Pv l.length acc H' → Q (.ref D) H') : CompS (tx l) g tt te own ix σ H1 Q D := by
  refine ⟨fun i m acc H => m = l.length - i ∧ i ≤ l.length ∧ Pv i acc H, ⟨l.length, by simp, Nat.zero_le _, h0⟩, ?_⟩
  rintro i m acc H' ⟨rfl, hi, p⟩
  by_cases hlt : i < l.length
  · refine .inr ⟨hlt, fun v H2 y => ?_⟩
    obtain ⟨e, c, hc, ev⟩ := y
    subst e ev
    exact hs i c acc _ hc p
  · have e : i = l.length := by omega
    subst e
    exact .inl ⟨rfl, hd acc H' p⟩
end
theorem keeps0 {x : V} {r : St} : KeepsSt (none :: r) (some x :: r) := ⟨rfl, fun i v h => by
  cases i with
  | zero => cases h
  | succ i => exact h⟩
theorem compOk_of {X : Cx} {scope sc : Scope} {own caps : List Str} {ix : List Nat} (h1 : scope.kind = .function) (h2 : scope.names.all (fun y => y.2 != .cell) = true) (h3 : scope.names.all (fun y => y.2 != .local || scope.names.lookup y.1 == some .local) = true)
    (h4 : scope.names.all (fun y => y.2 != .free || sc.names.lookup y.1 == some .cell) = true) (hsc : X.env.scope = sc) (h5 : own.all (fun y => scope.names.lookup y == some .local) = true) (h6 : caps.all (fun y => scope.names.lookup y == some .free) = true) (h7 : ix.map (fun i => X.N[i]?) = caps.map some) : CompOk X scope own caps ix := by
  refine ⟨h1, fun y hy => ?_, fun y hy e => ?_, fun y hy => ?_, fun y hy => ?_, fun y hy => ?_, h7⟩
  · have := List.all_eq_true.mp h2 y hy
    simpa using this
  · have := List.all_eq_true.mp h3 y hy
    rw [e] at this
    simpa using this
  · have := List.all_eq_true.mp h4 _ hy
    have := by simpa using this
    show X.env.scope.names.lookup y = some .cell
    rw [hsc]
    exact this
  · have := List.all_eq_true.mp h5 y hy
    simpa using this
  · have := List.all_eq_true.mp h6 y hy
    simpa using this
theorem cut_mid {α : Type} (l : List α) {a b : Int} (h0 : 0 ≤ a) (h1 : a ≤ b) (h2 : b ≤ l.length) : cut l (some a) (some b) = (l.drop a.toNat).take (b - a).toNat := by
  obtain ⟨m, rfl⟩ := Int.eq_ofNat_of_zero_le h0
  obtain ⟨n, rfl⟩ := Int.eq_ofNat_of_zero_le (by omega : 0 ≤ b)
  unfold cut
  rw [HT.sIx_nat, HT.sIx_nat, Nat.min_eq_left (by omega), Nat.min_eq_left (by omega)]
  have : ((n : Int) - (m : Int)).toNat = n - m := by omega
  rw [this]
  rfl
theorem room100 {k : Nat} {A : Around} (r : Room k A) : A.units + 100 < cLine := by have := r.un; omega
end L3
set_option Elab.async false
set_option linter.all false
set_option maxRecDepth 100000
set_option maxHeartbeats 4000000
namespace L3
open PySem PySem.Spec PyProof.Rows L2
def tCut (t u : TS) : TS := fun D σ H => ∃ R : St → Hp → Prop, t { D with nx := R } σ H ∧ ∀ σ' H', R σ' H' → u D σ' H'
theorem pss_cut {X : Cx} {st : Stmt} {rest : List Stmt} {t u : TS} (h1 : PS X st t) (h2 : PSs X rest u) : PSs X (st :: rest) (tCut t u) := by
  intro pins s σ H D I h
  obtain ⟨R, h, hr⟩ := h
  refine wpAny_execs_cons (thn (h1 pins s σ H { D with nx := R } I h) fun f s1 q => ?_)
  cases f with
  | next =>
    obtain ⟨σ', H', I', q⟩ := q
    exact h2 pins s1 σ' H' D I' (hr _ _ q)
  | ret v => exact q
  | brk => exact q
  | cont => exact q
theorem cut_by {t u : TS} {D : Ends} {σ : St} {H : Hp} (R : St → Hp → Prop) (h : t { D with nx := R } σ H) (hr : ∀ σ' H', R σ' H' → u D σ' H') : tCut t u D σ H := ⟨R, h, hr⟩
theorem same_over {H H' : Hp} {a : Addr} {o : HO} (h : Same H H') (e : H a = none) : Same H (upd H' a o) := fun b u q => by
  rw [upd_ne (ne_of_none q e)]
  exact h b u q
theorem iteM {A B : Prop} (h : B) : if true = false then A else B := by rw [if_neg (by decide)]; exact h
def CompV (K : PySem.W.Frag) (a : Addr) (n : Nat) (g : TG) (tt : TT) (te : TE) (own : Nat) (ix : List Nat) (σ : L2.St) (H1 : Hp) (Q : VK) (D : Addr) : Prop := CompG (Irv K a n) g tt te own ix σ H1 Q D
theorem rd_cv {K : PySem.W.Frag} {ta : TA} {g : TG} {tt : TT} {te : TE} {own : Nat} {ix : List Nat} {σ : L2.St} {H : Hp} {Q : VK} : tComp (iRev K ta) g tt te own ix σ H Q = ta σ H fun vs H1 => ∃ a xs, vs = [.ref a] ∧ SqL K H1 a xs ∧ ∀ D, H1 D = none → CompV K a xs.length g tt te own ix σ H1 Q D := rfl
end L3
set_option Elab.async false
set_option linter.all false
set_option maxRecDepth 100000
set_option maxHeartbeats 4000000
namespace L3
open PySem PySem.Spec PyProof.Rows L2
def splitL (c : Nat) : List Nat → List (List Nat)
  | [] => [[]]
  | x :: r => if x = c then [] :: splitL c r else match splitL c r with
    | p :: q => (x :: p) :: q
    | [] => [[x]]
def joinL (c : Nat) : List (List Nat) → List Nat
  | [] => []
  | [p] => p
  | p :: q :: r => p ++ c :: joinL c (q :: r)
theorem splitL_free {c : Nat} : ∀ {p : List Nat}, c ∉ p → splitL c p = [p]
  | [], _ => rfl
  | x :: r, h => by
    have h1 : ¬ x = c := fun e => h (by rw [e]; exact List.mem_cons_self)
    have h2 : c ∉ r := fun e => h (List.mem_cons_of_mem _ e)
    simp only [splitL, if_neg h1, splitL_free h2]
theorem splitL_app {c : Nat} : ∀ {p r : List Nat}, c ∉ p → splitL c (p ++ c :: r) = p :: splitL c r
  | [], r, _ => by simp only [List.nil_append, splitL, if_true]
  | x :: p, r, h => by
    have h1 : ¬ x = c := fun e => h (by rw [e]; exact List.mem_cons_self)
    have h2 : c ∉ p := fun e => h (List.mem_cons_of_mem _ e)
    simp only [List.cons_append, splitL, if_neg h1, splitL_app h2]
theorem split_join {c : Nat} : ∀ {P : List (List Nat)}, P ≠ [] → (∀ p ∈ P, c ∉ p) → splitL c (joinL c P) = P
  | [], h, _ => absurd rfl h
  | [p], _, h => splitL_free (h p (by simp))
  | p :: q :: r, _, h => by
    simp only [joinL]
    rw [splitL_app (h p (by simp)), split_join (by simp) fun x hx => h x (List.mem_cons_of_mem _ hx)]
theorem join_splitL (c : Nat) : ∀ l : List Nat, joinL c (splitL c l) = l ∧ splitL c l ≠ [] ∧ ∀ p ∈ splitL c l, c ∉ p
  | [] => ⟨rfl, by simp [splitL], by simp [splitL]⟩
  | x :: r => by
    obtain ⟨h1, h2, h3⟩ := join_splitL c r
    by_cases hx : x = c
    · subst hx
      simp only [splitL, if_true]
      cases hs : splitL x r with
      | nil => exact absurd hs h2
      | cons p q =>
        rw [hs] at h1 h3
        refine ⟨?_, by simp, ?_⟩
        · show [] ++ x :: joinL x (p :: q) = x :: r
          rw [h1]
          rfl
        · intro z hz
          rcases List.mem_cons.mp hz with e | e
          · rw [e]; simp
          · exact h3 z e
    · simp only [splitL, if_neg hx]
      cases hs : splitL c r with
      | nil => exact absurd hs h2
      | cons p q =>
        rw [hs] at h1 h3
        refine ⟨?_, by simp, ?_⟩
        · cases q with
          | nil =>
            simp only [joinL] at h1 ⊢
            rw [h1]
          | cons y z =>
            simp only [joinL] at h1 ⊢
            rw [List.cons_append, h1]
        · intro z hz
          rcases List.mem_cons.mp hz with e | e
          · rw [e]
            intro hm
            rcases List.mem_cons.mp hm with e2 | e2
            · exact hx e2.symm
            · exact h3 p (by simp) e2
          · exact h3 z (List.mem_cons_of_mem _ e)
theorem cs_join (c : Nat) : ∀ ys : List Str, cs (Str.join (tx [c]) ys) = joinL c (ys.map cs)
  | [] => rfl
  | [x] => rfl
  | x :: y :: r => by
    have ih := cs_join c (y :: r)
    show ((x ++ tx [c]) ++ Str.join (tx [c]) (y :: r)).cps.toList = cs x ++ c :: joinL c ((y :: r).map cs)
    rw [← ih, Str.cps_append, Str.cps_append]
    simp
theorem split_is (l : List Nat) (c : Nat) : Txt.split (tx l) (tx [c]) = (splitL c l).map tx := by
  have h1 : joinL c ((Txt.split (tx l) (tx [c])).map cs) = l := by
    rw [← cs_join, StrLaws.join_split]
  have h2 : (Txt.split (tx l) (tx [c])).map cs ≠ [] := by
    have := PyProof.Rows.split_pos (tx l) (tx [c])
    intro e
    rw [List.map_eq_nil_iff] at e
    rw [e] at this
    exact absurd this (by decide)
  have h3 : ∀ p ∈ (Txt.split (tx l) (tx [c])).map cs, c ∉ p := by
    intro p hp
    obtain ⟨y, hy, rfl⟩ := List.mem_map.mp hp
    exact StrLaws.split_free (tx l) c y hy
  have h4 := split_join h2 h3
  rw [h1] at h4
  rw [h4, List.map_map]
  have : (tx ∘ cs) = id := by funext x; exact tx_cs x
  rw [this, List.map_id]
theorem splitL_len (c : Nat) (l : List Nat) : (splitL c l).length ≤ l.length + 1 := by
  induction l with
  | nil => simp [splitL]
  | cons x r ih =>
    simp only [splitL]
    by_cases h : x = c
    · rw [if_pos h]
      simp only [List.length_cons]
      omega
    · rw [if_neg h]
      cases hs : splitL c r with
      | nil => simp
      | cons p q =>
        rw [hs] at ih
        simp only [List.length_cons] at ih ⊢
        omega
section
variable {X : Cx}
theorem strs_of : ∀ {ys : List Str} {its : List Value}, Vals (ys.map V.str) its → ∃ l : List (Str × Tok), its = strValues l ∧ l.map (·.1) = ys
  | [], _, .nil => ⟨[], rfl, rfl⟩
  | y :: ys, _, .cons r t => by
    obtain ⟨tk, rfl⟩ := r
    obtain ⟨l, e1, e2⟩ := strs_of t
    exact ⟨(y, tk) :: l, by rw [e1]; rfl, by rw [List.map_cons, e2]⟩
theorem vals_strs : ∀ l : List (Str × Tok), Vals ((l.map (·.1)).map V.str) (strValues l)
  | [] => .nil
  | (x, t) :: l => .cons ⟨t, rfl⟩ (vals_strs l)
def rJoin (K : PySem.W.Frag) : V → List V → Hp → VK → Prop := fun x xs H Q => ∃ z p ys, x = .str z ∧ xs = [.ref p] ∧ SqL K H p (ys.map V.str) ∧ JoinOk z ys = true ∧ Q (.str (Txt.join z ys)) H
theorem m_join : MtR X "str.join" (rJoin X.K) := by
  intro pins s σ H x xs v us Q I rx rv h
  obtain ⟨z, p, ys, rfl, rfl, hS, hok, q⟩ := h
  obtain ⟨t, rfl⟩ := rx
  obtain ⟨u, rfl, ru⟩ := vals1 rv
  cases ru
  obtain ⟨its, r, pl, _⟩ := I.list hS
  obtain ⟨l, rfl, e⟩ := strs_of r
  exact PySem.SC.join pl.isList e hok fun t' k => ⟨.str _, H, I.tok _, ⟨_, rfl⟩, q⟩
def rSplit : V → List V → Hp → VK → Prop := fun x xs H Q => ∃ l c, x = .str (tx l) ∧ xs = [.str (tx [c])] ∧ l.length ≤ 100000 ∧ ∀ D, H D = none → Q (.ref D) (upd H D (.lst ((splitL c l).map fun p => V.str (tx p))))
theorem m_split : MtR X "str.split" rSplit := by
  intro pins s σ H x xs v us Q I rx rv h
  obtain ⟨l, c, rfl, rfl, hl, q⟩ := h
  obtain ⟨t, rfl⟩ := rx
  obtain ⟨u, rfl, t', rfl⟩ := vals1 rv
  have s16 : (sizeLine : Nat) = 16777216 := sizeLine_eq
  have hy : ((tx [c]).length == 0) = false := rfl
  have hz1 : (tx l).length ≤ sizeLine := by rw [len_tx]; omega
  have hlen := splitL_len c l
  have fin : ∀ (n : List (Str × Tok)) (k : Nat), n.map (·.1) = Txt.split (tx l) (tx [c]) → EP X pins σ Q (.ref s.heap.objs.size) { s with heap := s.heap.push { cls := .type "list", data := .seq (strValues n).toArray }, toks := k } := fun n k e => by
    rw [split_is] at e
    have v1 := vals_strs n
    rw [e, List.map_map] at v1
    refine ⟨.ref s.heap.objs.size, _, I.lnew (t' := k) v1 ?_, rfl, ?_⟩
    · rw [List.length_map]
      omega
    · exact q _ (I.hok.fresh (Nat.le_refl _))
  cases h1 : (decide ((tx l).length < (tx [c]).length) || decide (Builtin.Str.strKind (tx l) < Builtin.Str.strKind (tx [c])))
  · cases hf : (Builtin.Str.occurrences (tx l) (tx [c]) 0 (tx l).length ((tx l).length + 1)).isEmpty
    · have hz2 : (Builtin.Str.partsBetween (tx l) (Builtin.Str.occurrences (tx l) (tx [c]) 0 (tx l).length ((tx l).length + 1)) (tx [c]).length).length ≤ sizeLine := by
        have e : Txt.split (tx l) (tx [c]) = Builtin.Str.partsBetween (tx l) (Builtin.Str.occurrences (tx l) (tx [c]) 0 (tx l).length ((tx l).length + 1)) (tx [c]).length := (if_neg (ne_true_of_eq_false h1)).trans (if_neg (ne_true_of_eq_false hf))
        rw [← e, split_is, List.length_map]
        omega
      refine call_meets F.slot_str_split (typeIs_str _ _ _) F.entry_str_split (F.args_str_split_2 _ _) (meets_str_split_sep (tx l) (tx [c]) t t' h1 hy hf hz1 hz2) ?_
      show wants (EP X pins σ Q) X.xe _ { s with toks := _, heap := s.heap.push { cls := .type "list", data := .seq (strsFrom s.toks (Builtin.Str.partsBetween (tx l) (Builtin.Str.occurrences (tx l) (tx [c]) 0 (tx l).length ((tx l).length + 1)) (tx [c]).length)).toArray } }
      rw [strsFrom_eq]
      exact fin (numbered s.toks _) _ ((numbered_texts _ _).trans ((if_neg (ne_true_of_eq_false h1)).trans (if_neg (ne_true_of_eq_false hf))).symm)
    · exact call_meets F.slot_str_split (typeIs_str _ _ _) F.entry_str_split (F.args_str_split_2 _ _) (meets_str_split_not_found (tx l) (tx [c]) t t' h1 hy hf)
        (fin [(tx l, t)] s.toks ((if_neg (ne_true_of_eq_false h1)).trans (if_pos hf)).symm)
  · exact call_meets F.slot_str_split (typeIs_str _ _ _) F.entry_str_split (F.args_str_split_2 _ _) (meets_str_split_cannot_occur (tx l) (tx [c]) t t' h1)
      (fin [(tx l, t)] s.toks (if_pos h1).symm)
theorem bools_at : ∀ {bs : List Bool} {its : List Value} {i : Nat} {v : Value}, Vals (bs.map V.bl) its → its[i]? = some v → v = .bool (bs.getD i false)
  | [], _, _, _, .nil, h => by cases h
  | b :: bs, _, 0, v, .cons r t, h => by
    cases r
    cases h
    rfl
  | b :: bs, _, i + 1, v, .cons r t, h => bools_at (bs := bs) (i := i) t h
theorem all_range (bs : List Bool) : (List.range bs.length).all (fun i => bs.getD i false) = bs.all id := by
  induction bs with
  | nil => rfl
  | cons b bs ih =>
    rw [List.length_cons, List.range_succ_eq_map, List.all_cons, List.all_map, List.all_cons, ← ih]
    rfl
def rAll (K : PySem.W.Frag) : List V → Hp → VK → Prop := fun xs H Q => ∃ (p : Addr) (bs : List Bool), xs = [.ref p] ∧ SqL K H p (bs.map V.bl) ∧ Q (.bl (bs.all id)) H
theorem c_all (hc : X.calm = true) : CallR X (.builtin "all") (rAll X.K) := by
  intro pins s σ H xs us Q I r h
  obtain ⟨p, bs, rfl, hS, q⟩ := h
  obtain ⟨u, rfl, ru⟩ := vals1 r
  cases ru
  obtain ⟨its, rv, pl, hz⟩ := I.list hS
  have hlen : its.length = bs.length := by
    have := rv.length
    rw [List.length_map] at this
    exact this.symm
  have hh : X.A.in1.handled = none := I.ok.hd hc
  have hne : p ≠ s.heap.objs.size := by
    obtain ⟨o, n, e, _⟩ := pl
    exact Nat.ne_of_lt (Heap.lt_size e)
  obtain ⟨f0, f1, f2, f3, f4, f5⟩ := I.fpOk (H' := H) (Nat.le_refl _) (I.hok.fresh (Nat.le_refl _))
  have I1 := I.kept (t' := s.toks) (h' := s.heap.push { cls := .type "list_iterator", data := .fields #[.ref p, .int 0 0] }) fun b o e => Heap.get?_push_of_some _ e
  refine call_all_walk (wpAny_pyIter_list pl.isList ?_)
  refine ⟨s.heap.objs.size, _, _, _, _, _, fun i => bs.getD i false, rfl, Walks.list hh s.heap.objs.size p hne its.toArray, ⟨⟨_, Heap.get?_push_size _ rfl, rfl, rfl⟩, ?_⟩, ?_, ?_⟩
  · obtain ⟨o, n, e, c, d, dt⟩ := pl
    exact ⟨o, Heap.get?_push_of_some _ e, c, n, dt⟩
  · intro i v s' Q' E' hv hq
    have := bools_at rv (i := i) (v := v) (by simpa using hv)
    rw [this]
    exact wpAny_truthy_bool hq
  · intro h' tk hk
    have e : (List.range its.toArray.size).all (fun i => bs.getD i false) = bs.all id := by
      rw [List.size_toArray, hlen, all_range]
    rw [e]
    refine ⟨.bl _, H, ?_, rfl, q⟩
    exact I1.turned (t' := tk) (it := s.heap.objs.size) (fun b o hb q => hk b o (by simpa using hb) q) f0 f1 f3 f4 f5
def rIntT : List V → Hp → VK → Prop := fun xs H Q => ∃ (z : Str) (n : Int), xs = [.str z] ∧ PySem.intText? z = some n ∧ z.length ≤ 640 ∧ Q (.int n) H
theorem c_intT : CallR X (.type "int") rIntT := by
  intro pins s σ H xs us Q I r h
  obtain ⟨z, n, rfl, hn, hl, q⟩ := h
  obtain ⟨u, rfl, t, rfl⟩ := vals1 r
  exact PySem.W.KIN.call_text hn hl ⟨.int n, H, I.tok _, ⟨_, rfl⟩, q⟩
def rStrI : List V → Hp → VK → Prop := fun xs H Q => ∃ i : Int, xs = [.int i] ∧ i.natAbs.log2 < 1920 ∧ Q (.str (Str.ofString (toString i))) H
theorem c_strI : CallR X (.type "str") rStrI := call_str_int
end
end L3
set_option Elab.async false
set_option linter.all false
set_option maxRecDepth 100000
set_option maxHeartbeats 4000000
namespace L3
open PySem PySem.Spec PyProof.Rows L2
section
variable {M : Model} {A : Around} {E : Value → Shared → Prop} {s : Shared} {base : Heap} {env env0 : Env} {outer : List Env} {L x t C : Addr} {dx : Option Addr}
theorem note_x {tb : Value} {Q : Unit → Shared → Prop} (hfr : A.frames = some (env0 :: outer)) (hl : s.heap.FunFrames base (env0 :: outer)) (hf : env0.frame = some L) (he : env.frame = some L)
    (hx : s.heap.get? x = some (xob C dx t tb)) (htb : TbOk s.heap x tb)
    (h : ∀ h' T oT ts, h'.get? x = some (xob C dx t (.ref T)) → T ≠ x → (tb = .ref T ∨ s.heap.objs.size ≤ T) → h'.get? T = some oT → oT.data = .fields ts → 3 < ts.size →
      (∀ b o, b ≠ x → tb ≠ .ref b → b ∉ frs (env0 :: outer) → s.heap.get? b = some o → h'.get? b = some o) → (∀ b o, b ≠ x → tb ≠ .ref b → s.heap.get? b = some o → ∃ sl, h'.get? b = some { o with slots := sl }) → Q () { s with heap := h' }) :
    wpAny M A (noteFrame (.ref x) env) Q E s := by
  have land : ∀ (h1 : Heap) (T : Addr) (oT : Obj) (ts : Array Value), h1.get? x = some (xob C dx t (.ref T)) → T ≠ x → (tb = .ref T ∨ s.heap.objs.size ≤ T) → h1.get? T = some oT → oT.data = .fields ts → 3 < ts.size →
      (∀ b o, b ≠ x → tb ≠ .ref b → b ∉ frs (env0 :: outer) → s.heap.get? b = some o → h1.get? b = some o) → (∀ b o, b ≠ x → tb ≠ .ref b → s.heap.get? b = some o → ∃ sl, h1.get? b = some { o with slots := sl }) →
      Q () { s with heap := h1 } := fun h1 T oT ts e1 nT oldT e2 d2 z2 k1 k2 => h h1 T oT ts e1 nT oldT e2 d2 z2 k1 k2
  unfold noteFrame
  simp only [he]
  refine wpAny_bind (wpAny_field hx rfl (x := tb) rfl ?_)
  rcases htb with rfl | ⟨T, oT, ts, rfl, nT, e2, d2, z2⟩
  · rw [if_neg (by decide)]
    refine entry_x hfr hl hf he hx fun h' oT ts e1 ne e2 d2 z2 k1 k2 => land h' _ oT ts e1 ne (.inr (Nat.le_refl _)) e2 d2 z2 (fun b o hb _ hbf e => k1 b o hb hbf e) fun b o hb _ e => k2 b o hb e
  · rw [if_pos (show (Value.ref T != Value.none) = true from by simp)]
    obtain ⟨y, hy⟩ : ∃ y, ts[3]? = some y := ⟨ts[3], by simp [z2]⟩
    refine wpAny_bind (wpAny_field e2 d2 (x := y) hy ?_)
    by_cases c : (y == rawInt L) = true
    · rw [if_pos c]
      exact wpAny_pure (land s.heap T oT ts hx nT (.inl rfl) e2 d2 z2 (fun b o _ _ _ e => e) fun b o _ _ e => ⟨o.slots, e⟩)
    · rw [if_neg c]
      refine wpAny_bind (wpAny_setField e2 d2 z2 ?_)
      have oth : ∀ b, b ≠ T → (s.heap.update T (Obj.mapFields (·.setIfInBounds 3 Value.none))).get? b = s.heap.get? b := fun b hb => Heap.get?_update_other _ _ (Ne.symm hb)
      have hl1 : (s.heap.update T (Obj.mapFields (·.setIfInBounds 3 Value.none))).FunFrames base (env0 :: outer) := hl.of_keeps fun b o hb hnf => ⟨o, (oth b fun q => by rw [q, e2] at hb; cases hb; exact hnf ts d2).trans hb, rfl⟩
      have hsz : (s.heap.update T (Obj.mapFields (·.setIfInBounds 3 Value.none))).objs.size = s.heap.objs.size := Heap.size_update ..
      refine entry_x (s := { s with heap := s.heap.update T (Obj.mapFields (·.setIfInBounds 3 Value.none)) }) hfr hl1 hf he ((oth x (Ne.symm nT)).trans hx) fun h' oT' ts' e1 ne e2' d2' z2' k1 k2 => ?_
      refine land h' _ oT' ts' e1 ne (.inr (by rw [hsz]; exact Nat.le_refl _)) e2' d2' z2' (fun b o hb hbt hbf e => k1 b o hb hbf ((oth b fun q => hbt (by rw [q])).trans e)) fun b o hb hbt e => k2 b o hb ((oth b fun q => hbt (by rw [q])).trans e)
end
section
variable {X : Cx} {pins : List (Addr × Obj)} {σ : St} {H1 : Hp} {s1 : Shared}
theorem Inv.noted {h' : Heap} {x T : Addr} {tb : Value} (I1 : Inv X pins σ H1 s1) (hst : X.stack = X.env :: X.outer) (fx : FpOk X pins H1 x) (fT : ∀ T, tb = .ref T → FpOk X pins H1 T) (fT' : FpOk X pins H1 T)
    (k1 : ∀ b o, b ≠ x → tb ≠ .ref b → b ∉ frs (X.env :: X.outer) → s1.heap.get? b = some o → h'.get? b = some o) (k2 : ∀ b o, b ≠ x → tb ≠ .ref b → s1.heap.get? b = some o → ∃ sl, h'.get? b = some { o with slots := sl }) : Inv X pins σ H1 { s1 with heap := h' } := by
  have tbs : ∀ b, tb = .ref b → H1 b = none := fun b hb => (fT b hb).1
  have nch : ∀ b o, s1.heap.get? b = some o → b ∉ (x :: T :: tbL tb) → b ≠ x ∧ tb ≠ .ref b := fun b o _ hb => by
    refine ⟨fun z => hb (by simp [z]), fun z => hb ?_⟩
    rw [z]
    simp [tbL]
  have un : Un (frs X.stack) (x :: T :: tbL tb) H1 H1 s1.heap h' := by
    rw [hst]
    refine ⟨fun b o e n hb hc => ?_, fun b o e n hb hc => ?_, fun b o e n _ => n, fun b o e hc => ?_, fun b xs e => e, fun b o u e => e, fun b ps e => ⟨#[], by rw [e]; simp⟩⟩
    · obtain ⟨a1, a2⟩ := nch b o e hc
      exact k1 b o a1 a2 hb e
    · obtain ⟨a1, a2⟩ := nch b o e hc
      exact k2 b o a1 a2 e
    · obtain ⟨a1, a2⟩ := nch b o e hc
      obtain ⟨sl, q⟩ := k2 b o a1 a2 e
      exact ⟨_, q⟩
  have hok : HOk X.prog X.w H1 h' := fun b u e => by
    refine (I1.hok b u e).stay (fun c v hc q => k1 c v ?_ ?_ ?_ q) (fun _ q => q) fun _ _ q => q
    · rintro rfl
      rcases hc with rfl | hc
      · rw [fx.1] at e; cases e
      · rw [fx.1] at hc; cases hc
    · intro z
      have := tbs c z
      rcases hc with rfl | hc
      · rw [this] at e; cases e
      · rw [this] at hc; cases hc
    · intro z
      rw [← hst] at z
      have := I1.stkFree c z
      rcases hc with rfl | hc
      · rw [this] at e; cases e
      · rw [this] at hc; cases hc
  exact I1.call' (s' := { s1 with heap := h' }) rfl un hok I1.bare fun b hb => by
    have fb : FpOk X pins H1 b := by
      rcases List.mem_cons.mp hb with z | z
      · rw [z]; exact fx
      · rcases List.mem_cons.mp z with z | z
        · rw [z]; exact fT'
        · cases tb with
          | ref b' =>
            have : b = b' := by simpa [tbL] using z
            rw [this]; exact fT b' rfl
          | _ => simp [tbL] at z
    obtain ⟨_, a1, _, a3, a4, a5⟩ := fb
    exact ⟨a3, a1, a4, a5⟩
end
section
variable {X : Cx} {scope : Scope} {own caps : List Str} {ix : List Nat} {cl : List (Str × Addr)}
theorem comp_xe {N : List Str} {EX : XK} {pins : List (Addr × Obj)} {σ : St} {H3 : Hp} {s3 : Shared} {fp : List Addr} {xe : Value → Shared → Prop} {e : Value} {s1 : Shared} {RE : Value → Shared → Prop} (hst : X.stack = X.env :: X.outer ∧ X.env.frame = some X.env.locals) (hxe : XE X EX)
    (hc1 : ∀ y c, cl.lookup y = some c → X.env.cells.lookup y = some c) (I3 : Inv X pins σ H3 s3) (f3 : ∀ b ∈ fp, FpOk X pins H3 b) (fl : Flies (compCx X scope cl s3.heap.objs.size N pins s3 H3 fp xe) EX e s1)
    (hRE : ∀ m s' x, s'.heap.Ns s3.heap.objs.size m → (∀ h', Heap.SameBut s3.heap.objs.size s'.heap h' → ∀ cenv : Env, cenv.locals = s3.heap.objs.size → wpAny (model X.prog X.w) X.A (PySem.passOn "comprehension.variables-let-go" x cenv : Sem Value) (fun _ _ => False) X.xe { s' with heap := h' }) → RE x s') :
    notedBy (model X.prog X.w) X.A (compEnvC scope cl s3.heap.objs.size X.env) RE e s1 := by
  obtain ⟨pins', σ', H1, x, C, t, dx, tb, rfl, I1, ob, tr, fx, fT, q⟩ := fl
  have IX : Inv X pins σ H1 s1 := I3.call' (s' := s1) I1.os I1.base I1.hok I1.bare fun b hb => by
    obtain ⟨_, a1, a2, a3, a4, a5⟩ := f3 b hb
    exact ⟨a3, a1, a4, a5⟩
  have up : ∀ b, FpOk (compCx X scope cl s3.heap.objs.size N pins s3 H3 fp xe) pins' H1 b → FpOk X pins H1 b := fun b hb => by
    obtain ⟨a0, a1, a2, a3, a4, a5⟩ := hb
    rcases a3 with a3 | a3
    · exact ⟨a0, (f3 b a3).2⟩
    · exact I3.fpOk a3 a0
  have fx' := up x fx
  have fT' : ∀ T, tb = .ref T → FpOk X pins H1 T := fun T h => up T (fT T h)
  have fr : X.A.frames = some (X.env :: X.outer) := by rw [← hst.1]; exact IX.ok.frames
  have ff : s1.heap.FunFrames X.base (X.env :: X.outer) := by rw [← hst.1]; exact IX.stack
  obtain ⟨m, hm, _⟩ := I1.loc
  have fC : FpOk X pins H1 s3.heap.objs.size := I3.fpOk (Nat.le_refl _) I1.free
  refine note_x fr ff hst.2 hst.2 ob tr fun h' T oT ts e1 nT oldT e2 d2 z2 k1 k2 => ?_
  have fT2 : FpOk X pins H1 T := by
    rcases oldT with z | z
    · exact fT' T z
    · exact IX.fpOk z (IX.hok.fresh z)
  have I2 : Inv X pins σ H1 { s1 with heap := h' } := Inv.noted IX hst.1 fx' fT' fT2 k1 k2
  have hCx : s3.heap.objs.size ≠ x := fun z => fx.2.1 z.symm
  have hCtb : tb ≠ .ref s3.heap.objs.size := fun z => (fT _ z).2.1 rfl
  obtain ⟨oC, es, ep, hoC, rC⟩ := hm
  have hCT : T ≠ s3.heap.objs.size := by
    rcases oldT with z | z
    · exact (fT T z).2.1
    · exact Nat.ne_of_gt (Nat.lt_of_lt_of_le (Heap.lt_size hoC) z)
  have hCf : s3.heap.objs.size ∉ frs (X.env :: X.outer) := fun z => by
    rw [← hst.1] at z
    rcases List.mem_cons.mp (IX.stkSub _ z) with y | y
    · exact fC.2.1 y
    · exact fC.2.2.1 y
  refine hRE m _ _ ⟨oC, es, ep, k1 _ _ hCx hCtb hCf hoC, rC⟩ fun h2 sb cenv hcenv => ?_
  have I3' : Inv X pins σ H1 { s1 with heap := h2 } := I2.turned (t' := s1.toks) (fun b o hb e => (sb.2 b hb).trans e) fC.1 fC.2.1 fC.2.2.2.1 fC.2.2.2.2.1 fC.2.2.2.2.2
  have ob2 : h2.get? x = some (xob C dx t (.ref T)) := (sb.2 x (Ne.symm hCx)).trans e1
  have oT2 : h2.get? T = some oT := (sb.2 T hCT).trans e2
  unfold PySem.passOn
  refine wpAny_bind (wpAny_field (s := { s1 with heap := h2 }) ob2 rfl (x := .ref T) rfl ?_)
  rw [if_neg (show ¬ (Value.ref T == Value.none) = true from by simp)]
  unfold setFlight
  refine wpAny_bind (wpAny_bind (wpAny_field (s := { s1 with heap := h2 }) ob2 rfl (x := .ref T) rfl ?_))
  rw [if_pos (show (Value.ref T != Value.none) = true from by simp)]
  refine wpAny_setField (s := { s1 with heap := h2 }) oT2 d2 z2 (wpAny_throw (hxe _ _ ?_))
  have d3 := Obj.data_mapFields d2 (·.setIfInBounds 3 (cenv.frame.elim Value.none fun f => rawInt f))
  have I4 : Inv X pins σ H1 { s1 with heap := h2.update T (Obj.mapFields (·.setIfInBounds 3 (cenv.frame.elim Value.none fun f => rawInt f))) } :=
    I3'.turned (t' := s1.toks) (fun b o hb e => (Heap.get?_update_other _ _ (Ne.symm hb)).trans e) fT2.1 fT2.2.1 fT2.2.2.2.1 fT2.2.2.2.2.1 fT2.2.2.2.2.2
  exact ⟨pins, σ, H1, x, C, t, dx, .ref T, rfl, I4, (Heap.get?_update_other _ _ nT).trans ob2, .inr ⟨T, _, _, rfl, nT, Heap.get?_update_self _ oT2 (Obj.isFreed_of_fields d3), d3, by simpa using z2⟩, fx', fun T' z => by cases z; exact fT2, q⟩
end
section
variable {X : Cx} {scope : Scope} {own caps : List Str} {ix : List Nat} {elt tg iter : Expr} {ifs : List Expr} {pos : Pos} {wi : TI} {g : TG} {tt : TT} {te : TE}
theorem comp_blockX (hc : X.calm = true) (S : CompOk X scope own caps ix)
    (hg : ∀ cl C pins s3 H3 fp, PG (compCx X scope cl C (own ++ caps) pins s3 H3 fp fun _ _ => False) tg g)
    (ht : ∀ cl C pins s3 H3 fp, PTs (compCx X scope cl C (own ++ caps) pins s3 H3 fp fun _ _ => False) ifs tt)
    {EX : XK} (hst : X.stack = X.env :: X.outer ∧ X.env.frame = some X.env.locals) (hxe : XE X EX) (he : ∀ cl C pins s3 H3 fp xe, XE (compCx X scope cl C (own ++ caps) pins s3 H3 fp xe) EX → PE (compCx X scope cl C (own ++ caps) pins s3 H3 fp xe) elt te)
    {cl : List (Str × Addr)} (hc1 : ∀ y c, cl.lookup y = some c → X.env.cells.lookup y = some c) (hc2 : ∀ y, (y, NameKind.free) ∈ scope.names → ∃ c, cl.lookup y = some c)
    {pins : List (Addr × Obj)} {σ : St} {H2 : Hp} {s2 : Shared} {Q : VK} {it : Addr} {fp : List Addr} {tn : Nat → Heap → Prop} {J : It} (I2 : Inv X pins σ H2 s2) (T : Turn X.prog X.w X.K tg J fp it tn) (st2 : tn 0 s2.heap) (f2 : ∀ b ∈ fp, FpOk X pins H2 b)
    (q : ∀ D, H2 D = none → ∃ W : Nat → Nat → List V → Hp → Prop, (∃ m, W 0 m [] (upd H2 D (.lst []))) ∧
      ∀ i m acc H', W i m acc H' → (J.stop i H' ∧ Q (.ref D) H') ∨ (J.go i H' ∧ ∀ x H2, J.yld i H' x H2 → g x (seen σ own.length ix) H2 fun σ3 H3 => KeepsSt (seen σ own.length ix) σ3 ∧ tt σ3 H3 fun b H4 => if b = true then
        te σ3 H4 fun v H5 => H5 D = some (.lst acc) ∧ acc.length < sizeLine ∧ ∃ m', m' < m ∧ W (i + 1) m' (acc ++ [v]) (upd H5 D (.lst (acc ++ [v])))
        else ∃ m', m' < m ∧ W (i + 1) m' acc H4))
    {RR : Value → Addr → Result → Shared → Prop} {E : Value → Shared → Prop}
    (hRR : ∀ D C m s' H', H2 D = none → s'.heap.Ns C m → FpOk X pins H' C → Inv X pins σ H' s' → Q (.ref D) H' → RR (.ref D) C (.ok .next) s')
    (hRE : ∀ D C m s' x, s'.heap.Ns C m → (∀ h', Heap.SameBut C s'.heap h' → ∀ cenv : Env, cenv.locals = C → wpAny (model X.prog X.w) X.A (PySem.passOn "comprehension.variables-let-go" x cenv : Sem Value) (fun _ _ => False) X.xe { s' with heap := h' }) → RR (.ref D) C (.error x) s') :
    wpAny (model X.prog X.w) X.A (newList []) (fun acc s3 => wpAny (model X.prog X.w) X.A (newFunctionEnv scope X.env.globals cl [] X.env.qual none .none (some X.env)) (fun cenv s4 =>
      codeAny (model X.prog X.w) X.A (.compStart (.ListComp elt [⟨tg, iter, ifs, 0⟩] scope pos) 0 (.ref it) acc { cenv with scope := relabel scope X.env }) (RR acc cenv.locals) s4) E s3) E s2 := by
  have hD : H2 s2.heap.objs.size = none := I2.hok.fresh (Nat.le_refl _)
  obtain ⟨W, ⟨m0, w0⟩, turn⟩ := q _ hD
  refine wpAny_newObj_type (wpAny_newFunctionEnv S.nocell (by intro y hy; simp at hy) (fun h1 hns1 hsb1 => ?_) S.kind)
  dsimp only at hns1 hsb1 ⊢
  have I3 : Inv X pins σ (upd H2 s2.heap.objs.size (.lst [])) { s2 with heap := s2.heap.push { cls := .type "list", dict := none, data := .seq ([] : List Value).toArray } } :=
    I2.lnew (its := []) (t' := s2.toks) .nil (Nat.zero_le _)
  generalize hs3 : ({ s2 with heap := s2.heap.push { cls := .type "list", dict := none, data := .seq ([] : List Value).toArray } } : Shared) = s3 at I3
  have e3 : s2.heap.push { cls := .type "list", dict := none, data := .seq ([] : List Value).toArray } = s3.heap := by rw [← hs3]
  rw [e3] at hns1 hsb1 ⊢
  have k1 : ∀ b o, s3.heap.get? b = some o → h1.get? b = some o := fun b o e => (hsb1.2 b (Nat.ne_of_lt (Heap.lt_size e))).trans (Heap.get?_push_of_some _ e)
  have k23 : ∀ b o, s2.heap.get? b = some o → s3.heap.get? b = some o := fun b o e => by rw [← e3]; exact Heap.get?_push_of_some _ e
  have hz : s3.heap.objs.size = s2.heap.objs.size + 1 := by rw [← e3, Heap.size_push]
  have fpObj : ∀ b ∈ fp, ∃ o, s2.heap.get? b = some o := fun b hb => let ⟨o, e, _⟩ := T.obj 0 _ st2 b hb; ⟨o, e⟩
  have fplt : ∀ b ∈ fp, b < s2.heap.objs.size := fun b hb => let ⟨o, e⟩ := fpObj b hb; Heap.lt_size e
  have f3 : ∀ b ∈ fp, FpOk X pins (upd H2 s2.heap.objs.size (.lst [])) b := fun b hb => ⟨by rw [upd_ne (Nat.ne_of_lt (fplt b hb))]; exact (f2 b hb).1, (f2 b hb).2⟩
  have I4 : Inv (compCx X scope cl s3.heap.objs.size (own ++ caps) pins s3 (upd H2 s2.heap.objs.size (.lst [])) fp fun _ _ => False) [] (seen σ own.length ix) (upd H2 s2.heap.objs.size (.lst [])) { s3 with heap := h1, toks := s3.toks + ([] : List (Str × Value)).length } :=
    comp_start S hc1 hc2 I3 f3 (fun b hb => by rw [hz]; exact Nat.lt_succ_of_lt (fplt b hb)) hns1 k1
  have st4 : tn 0 h1 := T.keep 0 _ _ st2 fun b hb o e => k1 b o (k23 b o e)
  generalize hs4 : ({ s3 with heap := h1, toks := s3.toks + ([] : List (Str × Value)).length } : Shared) = s4 at I4
  have es4 : ({ s2 with heap := h1, toks := s2.toks + ([] : List (Str × Value)).length } : Shared) = s4 := by rw [← hs4, ← hs3]
  have e4 : h1 = s4.heap := by rw [← hs4]
  have loop : codeAny (model X.prog X.w) X.A (.compLoop (.ListComp elt [⟨tg, iter, ifs, 0⟩] scope pos) 0 (.ref it) (.ref s2.heap.objs.size) (compEnvC scope cl s3.heap.objs.size X.env)) (RR (.ref s2.heap.objs.size) s3.heap.objs.size) s4 := by
    let X' := compCx X scope cl s3.heap.objs.size (own ++ caps) pins s3 (upd H2 s2.heap.objs.size (.lst [])) fp fun _ _ => False
    have fp' : ∀ {H' : Hp}, (∀ b ∈ fp, H' b = none) → ∀ b ∈ fp, FpOk X' [] H' b := fun {H'} hn b hb => by
      obtain ⟨_, a1, a2, a3, a4, a5⟩ := f3 b hb
      refine ⟨hn b hb, Nat.ne_of_lt (show b < s3.heap.objs.size from by rw [hz]; exact Nat.lt_succ_of_lt (fplt b hb)), fun z => ?_, .inl hb, fun x c e => a4 x c (hc1 x c e), fun p hp => ?_⟩
      · rcases List.mem_cons.mp (I3.stkSub b z) with e | e
        · exact a1 e
        · exact a2 e
      · have : p ∈ (X.pn ++ pins) ++ [] := hp
        rw [List.append_nil] at this
        exact a5 p this
    refine comp_loop (fun n s' => ∃ i acc H', Inv X' [] (seen σ own.length ix) H' s' ∧ tn i s'.heap ∧ (∀ b ∈ fp, H' b = none) ∧ W i n acc H') rfl ?_ m0 ⟨0, [], _, I4, by rw [← e4]; exact st4, fun b hb => (f3 b hb).1, w0⟩
    rintro n s5 ⟨i, acc, H5, I5, st5, fr5, w5⟩
    refine wpAny_noRaise ?_
    rcases turn i n acc H5 w5 with ⟨stop, qn⟩ | ⟨go, step⟩
    · refine thn (T.done X' rfl rfl rfl hc i [] s5 _ H5 _ I5 (fp' fr5) st5 stop) fun r s6 ⟨hr, I6⟩ => ?_
      subst hr
      obtain ⟨m, hm, _⟩ := I6.loc
      refine hRR _ _ m s6 H5 hD hm (I3.fpOk (Nat.le_refl _) I6.free) (I3.call' (s' := s6) I6.os I6.base I6.hok I6.bare fun b hb => ?_) qn
      obtain ⟨_, a1, a2, a3, a4, a5⟩ := f3 b hb
      exact ⟨a3, a1, a4, a5⟩
    · refine thn (T.item X' rfl rfl rfl hc i [] s5 _ H5 (fun _ _ => False) I5 (fp' fr5) st5 go) fun r s6 ⟨u, hr, h6⟩ => ?_
      subst hr
      refine wpAny_noRaise (thn h6 fun _ s7 ⟨x, H7, I7, r7, y7, st7, fr7⟩ => ?_)
      have I7' := I7.pinned (fp' fr7) (T.obj _ _ st7)
      refine wpAny_noRaise (thn (hg _ _ _ _ _ _ _ s7 _ H7 x u _ I7' r7 (step x H7 y7)) fun _ s8 ⟨σ8, H8, I8, ks, q8⟩ => ?_)
      refine wpAny_noRaise (thn (ht _ _ _ _ _ _ _ s8 σ8 H8 _ I8 q8) fun b s9 ⟨H9, I9, q9⟩ => ?_)
      have back : ∀ {s' : Shared} {H' : Hp} {acc' : List V} {m' : Nat}, Inv X' ([] ++ pinsAt fp s7.heap) σ8 H' s' → m' < n → W (i + 1) m' acc' H' → ∃ m, m < n ∧ ∃ i acc H', Inv X' [] (seen σ own.length ix) H' s' ∧ tn i s'.heap ∧ (∀ b ∈ fp, H' b = none) ∧ W i m acc H' := fun {s' H' acc' m'} J' hm w' => by
        refine ⟨m', hm, i + 1, acc', H', (J'.unpinned).weak ks.1 ks.2, T.keep _ _ _ st7 fun b hb o e => (J'.pin (b, o) (List.mem_append_right _ (List.mem_append_right _ (mem_pinsAt hb e)))).1, fun b hb => ?_, w'⟩
        obtain ⟨o, e, d⟩ := T.obj _ _ st7 b hb
        exact (J'.pin (b, o) (List.mem_append_right _ (List.mem_append_right _ (mem_pinsAt hb e)))).2.1
      cases b with
      | false =>
        rw [if_neg Bool.false_ne_true] at q9 ⊢
        obtain ⟨m', hm, w'⟩ := q9
        exact back I9 hm w'
      | true =>
        rw [if_pos rfl] at q9 ⊢
        refine thn (he cl _ pins s3 (upd H2 s2.heap.objs.size (.lst [])) fp _ (fun e s hfl => comp_xe (RE := fun e s' => RR (.ref s2.heap.objs.size) s3.heap.objs.size (.error e) s') hst hxe hc1 I3 f3 hfl fun m s' x a b => hRE _ _ m s' x a b) _ s9 σ8 H9 _ (I9.wish _) q9) fun v s10 ⟨y, H10, I10', r10, hD10, hsz, m', hm, w'⟩ => ?_
        have I10 := Inv.unwish (X := X') I10'
        refine wpAny_noRaise ?_
        have := mt_append (X := X') _ s10 σ8 H10 (.ref s2.heap.objs.size) [y] (.ref s2.heap.objs.size) [v] (fun _ H' => H' = upd H10 s2.heap.objs.size (.lst (acc ++ [y]))) I10 rfl (.cons r10 .nil) ⟨_, acc, y, rfl, rfl, hD10, hsz, rfl⟩
        refine thn this fun _ s11 ⟨_, H11, I11, _, eH⟩ => ?_
        subst eH
        exact back I11 hm w'
  have goal : codeAny (model X.prog X.w) X.A (.compStart (.ListComp elt [⟨tg, iter, ifs, 0⟩] scope pos) 0 (.ref it) (.ref s2.heap.objs.size) (compEnvC scope cl s3.heap.objs.size X.env)) (RR (.ref s2.heap.objs.size) s3.heap.objs.size) s4 :=
    codeAny_compStart_list loop (T.self _ 0 s4 _ _ (by rw [← e4]; exact st4) loop)
  rw [← es4] at goal
  exact goal
theorem pe_compX {EX : XK} (hc : X.calm = true) (S : CompOk X scope own caps ix) (hst : X.stack = X.env :: X.outer ∧ X.env.frame = some X.env.locals) (hxe : XE X EX) (hi : PI X tg iter wi)
    (hg : ∀ cl C pins s3 H3 fp, PG (compCx X scope cl C (own ++ caps) pins s3 H3 fp fun _ _ => False) tg g)
    (ht : ∀ cl C pins s3 H3 fp, PTs (compCx X scope cl C (own ++ caps) pins s3 H3 fp fun _ _ => False) ifs tt)
    (he : ∀ cl C pins s3 H3 fp xe, XE (compCx X scope cl C (own ++ caps) pins s3 H3 fp xe) EX → PE (compCx X scope cl C (own ++ caps) pins s3 H3 fp xe) elt te)
    (hs : ∀ x, foldedSetIterable iter X.env x = pure x := by intro _; rfl) :
    PE X (.ListComp elt [⟨tg, iter, ifs, 0⟩] scope pos) (tComp wi g tt te own.length ix) := by
  intro pins s σ H Q I h
  obtain ⟨cl, hclos, hc1, hc2⟩ := closureFor_is (scope := scope) (env := X.env) fun y hy => I.ok.has y (.inl (S.free y hy))
  rw [eval_ListComp]
  refine wpAny_comprehension_free (use := none) rfl hs hclos S.kind S.names (thn (hi pins s σ H _ I h) fun v s1 h1 => thn h1 fun itv s2 h2 => ?_)
  obtain ⟨it, fp, tn, J, H2, e, I2, T, st2, f2, q⟩ := h2
  subst e
  refine comp_blockX (RR := fun acc C => compPost (model X.prog X.w) X.A X.xe none (EP X pins σ Q) acc C) hc S hg ht hst hxe he hc1 hc2 I2 T st2 f2 q ?_ ?_
  · intro D C m s' H' _ hn fc I' qn
    obtain ⟨a0, a1, a2, a3, a4, a5⟩ := fc
    exact ⟨m, hn, fun h' sb => ⟨.ref D, H', I'.turned (t' := s'.toks) (fun b o hb e => (sb.2 b hb).trans e) a0 a1 a3 a4 a5, rfl, qn⟩⟩
  · intro D C m s' x hn hp
    exact ⟨m, hn, hp⟩
end
end L3
set_option Elab.async false
set_option linter.all false
set_option maxRecDepth 100000
namespace LL
open PySem PySem.Spec PyProof.Rows L2 L3
def PEp (X : Cx) (e : Expr) (t : TE) : Prop :=
  ∀ (pins : List (Addr × Obj)) (s : Shared) (σ : L2.St) (H : Hp) (Q : VK), Inv X pins σ H s → 1 ≤ s.toks → t σ H Q → wpAny (model X.prog X.w) X.A (eval e X.env) (EP X pins σ Q) X.xe s
def PSsp (X : Cx) (st : List Stmt) (t : TS) : Prop :=
  ∀ (pins : List (Addr × Obj)) (s : Shared) (σ : L2.St) (H : Hp) (D : Ends), Inv X pins σ H s → 1 ≤ s.toks → t D σ H → wpAny (model X.prog X.w) X.A (execs st X.env) (SP X pins D) X.xe s
theorem PE.pep {X : Cx} {e : Expr} {t : TE} (h : PE X e t) : PEp X e t := fun pins s σ H Q I _ q => h pins s σ H Q I q
def rRepl (y z : Str) : V → List V → Hp → VK → Prop := fun x _ H Q => ∃ l, x = .str (tx l) ∧ l.length ≤ 1000 ∧ (∀ l' : List Nat, l'.length ≤ l.length + (l.length + 1) * z.length → Q (.str (tx l')) H)
theorem rep_len (x y z : Str) : (Txt.replace x y z).length ≤ x.length + (x.length + 1) * z.length := by
  unfold Txt.replace
  split
  · exact Nat.le_add_right _ _
  · have h1 := StrLaws.occ_length_le x y 0 x.length (x.length + 1)
    have hy : (PySem.Builtin.Str.glued y (PySem.Builtin.Str.partsBetween x (PySem.Builtin.Str.occurrences x y 0 x.length (x.length + 1)) y.length)).length = x.length := by rw [StrLaws.glued_between_self]
    rw [size_glued, length_partsBetween, Nat.add_sub_cancel] at hy
    rw [size_glued, length_partsBetween, Nat.add_sub_cancel]
    have h2 : (PySem.Builtin.Str.occurrences x y 0 x.length (x.length + 1)).length * z.length ≤ (x.length + 1) * z.length := Nat.mul_le_mul_right _ h1
    omega
theorem pep_repl {X : Cx} {o : Expr} {to : TE} {y z : Str} {j1 j2 : Nat} {p1 p2 apos cpos : Pos} (ho : PEp X o to) (hyz : (y == z) = false) (hz : z.length ≤ 10)
    (hbase : attributeBase o "replace" X.env (eval o X.env) = eval o X.env := by rfl)
    (hfew : ((backTo cpos (starEach [.Constant (.str y) j1 p1, .Constant (.str z) j2 p2] X.env)).all (fun x => !x.1) && (backToKw cpos (keywordEach [] X.env)).all (fun x => x.1.isSome)
      && decide (([.Constant (.str y) j1 p1, .Constant (.str z) j2 p2] : List Expr).length + ([] : List Keyword).length + (if ([] : List Keyword).isEmpty then 0 else 1) < 30)) = true := by rfl)
    (hline : (apos.endLine == cpos.line) = true := by rfl)
    (hs : starEach [.Constant (.str y) j1 p1, .Constant (.str z) j2 p2] X.env = [(false, eval (.Constant (.str y) j1 p1) X.env), (false, eval (.Constant (.str z) j2 p2) X.env)] := by rfl) :
    PEp X (.Call (.Attribute o "replace" apos) [.Constant (.str y) j1 p1, .Constant (.str z) j2 p2] [] cpos) (tBM X.K "str" (rRepl y z) to (tCons (tC (.str y)) (tCons (tC (.str z)) tNil))) := by
  intro pins s σ H Q I hn h
  refine wpAny_Call_method_late hbase hfew hline rfl (wpAny_with_toks (n := 1) hn (wpAny_mono (ho pins s σ H _ I hn h) (fun v s1 ⟨x, H1, I1, r1, ty, q1⟩ hn1 => ?_) (fun _ _ x _ => x)))
  obtain ⟨h1, h2⟩ := tyV_is I1 r1 ty
  refine ⟨"str", "str.replace", PySem.F.plainAttrs_str, PySem.F.slot_str_replace, PySem.F.type_str_replace, h1, h2, ?_⟩
  obtain ⟨l, rfl, hl, q⟩ := q1
  obtain ⟨t, rfl⟩ := r1
  rw [hs]
  refine Calls.callWith_builtin rfl (Calls.evalArgs_plain ?_)
  show wpAny _ _ (spliced ((false, eval (.Constant (.str y) j1 p1) X.env) :: (false, eval (.Constant (.str z) j2 p2) X.env) :: [])) _ _ s1
  refine Calls.spliced_cons (Calls.Constant_str (Calls.spliced_cons (Calls.Constant_str (Calls.spliced_nil ?_))))
  have hb : (tx l).length + ((tx l).length + 1) * z.length ≤ 16777216 := by
    rw [len_tx]
    have : (l.length + 1) * z.length ≤ (l.length + 1) * 10 := Nat.mul_le_mul_left _ hz
    omega
  refine PySem.SC.replace (Nat.ne_of_gt hn1) (Nat.succ_ne_zero _) (Nat.ne_of_lt (Nat.lt_succ_self _)) hyz hb fun t' k => ?_
  refine ⟨.str (Txt.replace (tx l) y z), H1, (I1.tok k), ⟨t', rfl⟩, ?_⟩
  have hr := rep_len (tx l) y z
  rw [len_tx] at hr
  have := q (cs (Txt.replace (tx l) y z)) (by rw [← len_tx, tx_cs]; exact hr)
  rw [tx_cs] at this
  exact this
theorem pssp_asg {X : Cx} {tg e : Expr} {te : TE} {g : TG} {pos : Pos} (he : PEp X e te) (hg : PG X tg g) (hs : swapsWithSole [tg] e pos.line X.env = pure false := by rfl) (hw : swappedStores [tg] e X.env = pure none := by rfl)
    (h1 : (assignEach [tg] X.env).map (·.2) = [assign tg X.env] := by rfl) : PSsp X [.Assign [tg] e pos] (tAsg te g) := by
  intro pins s σ H D I hn h
  refine wpAny_execs_cons (wpAny_Assign_stores (thn (he pins s σ H _ I hn h) fun v s1 ⟨x, H1, I1, r1, q1⟩ => ?_) hs hw)
  rw [h1]
  refine thn (hg pins s1 σ H1 x v _ I1 r1 q1) fun _ s2 q => ?_
  exact wpAny_execs_nil q
theorem ps_ifp {X : Cx} {a : Expr} {op : CmpOp} {r : R2} {ta : TE} {k : Int} {j : Nat} {cp pos pos' : Pos} {A B : List Stmt} {t u : TS} (ho : OpR X (compareOp op) r) (ha : PE X a ta) (hA : PSs X A t) (hB : PSsp X B u) (hm : behindInMarks op (.Constant (.int k) j cp) = false) :
    PS X (.If (.Compare a [op] [.Constant (.int k) j cp] pos') A B pos) (tIfS (tTest (tOp r ta (tC (.int k)))) t u) := by
  intro pins s σ H D I h
  refine wpAny_If (wpAny_isTrue_Compare1 (thn (ha pins s σ H _ I h) fun v s1 ⟨x, H1, I1, r1, q1⟩ => wpAny_Constant_int (wpAny_with_toks (n := 1) (Nat.le_add_left 1 _) (wpAny_mono (ho pins _ σ H1 x (.int k) v _ _ (I1.tok _) r1 ⟨_, rfl⟩ q1) (fun c s3 ⟨z, H3, I3, r3, b, e, q3⟩ hn => ?_) (fun _ _ x _ => x)))) hm)
  subst e
  cases r3
  refine wpAny_truthy_bool ?_
  cases b with
  | true => exact hA pins s3 σ H3 D I3 q3
  | false => exact hB pins s3 σ H3 D I3 hn q3
end LL
set_option Elab.async false
set_option linter.all false
set_option maxRecDepth 100000
set_option maxHeartbeats 4000000
namespace L3
open PySem PySem.Spec PyProof.Rows L2
open AutoSeq1 (wpAny_loadPart')
open MeetsSeq MeetsSeq2 MeetsSeq3 SeqRoads2 SeqAt
def LtAt (A : Around) (s : Shared) (y x : Value) (b : Bool) : Prop :=
  ∀ (prog : Program) (w : World) (E : Value → Shared → Prop) (Q : Value → Shared → Prop), Q (.bool b) s → wpAny (model prog w) A (richCompare .Lt y x) Q E s
def Steps (e t r : Nat → Bool) (m n : Nat) : Prop := ∀ i, i ≤ m → i ≤ n → r i = if i < m ∧ i < n then (if e i = true then r (i + 1) else t i) else decide (m < n)
theorem lt_loopAt (l b : Addr) (items items2 : Array Value) (n n2 : Nat) (dd dd2 : Option Addr) (sl sl2 : Array (Option Value)) (e t r : Nat → Bool) (hr : Steps e t r items.size items2.size) (k : Nat) :
    ∀ i : Nat, i ≤ items.size → i ≤ items2.size → items.size - i = k → Meets (Builtin.«list.__eq__.loop» ⟨[.ref l, .ref b, rawInt i, rawInt 0], []⟩)
      (fun A R s => s.heap.get? l = some { cls := .type "list", dict := dd, data := .seq items n, slots := sl } ∧ s.heap.get? b = some { cls := .type "list", dict := dd2, data := .seq items2 n2, slots := sl2 } ∧
        (∀ j (h1 : j < items.size) (h2 : j < items2.size), EqAt A.in1 s items[j] items2[j] (e j)) ∧ (∀ j (h1 : j < items.size) (h2 : j < items2.size), e j = false → LtAt A.in1 s items[j] items2[j] (t j)) ∧
        R (.ok (.ret (.bool (r i)))) s) := by
  induction k with
  | zero =>
    intro i b1 b2 hk prog w A R s h
    obtain ⟨hp, g, d, tk, os⟩ := s; obtain ⟨hl, hb, he, ht, h⟩ := h
    have hri := hr i b1 b2
    rw [if_neg (by omega)] at hri
    rw [hri] at h
    wp_walk using wpAny_loadPart' hl, wpAny_loadPart' hb
    have hi1 : items[((i : Nat) : Int).toNat]? = none := by simp; omega
    rw [hi1]
    wp_walk using wpAny_loadPart' hl, wpAny_loadPart' hb
    exact h
  | succ k ih =>
    intro i b1 b2 hk prog w A R s h
    obtain ⟨hp, g, d, tk, os⟩ := s; obtain ⟨hl, hb, he, ht, h⟩ := h
    have hlt : i < items.size := by omega
    have hi1 : items[((i : Nat) : Int).toNat]? = some items[i] := by simp [hlt]
    have hc : ((i : Int) + 1) = ((i + 1 : Nat) : Int) := by push_cast; rfl
    have hri := hr i b1 b2
    by_cases hlt2 : i < items2.size
    · rw [if_pos ⟨hlt, hlt2⟩] at hri
      rw [hri] at h
      have hi2 : items2[((i : Nat) : Int).toNat]? = some items2[i] := by simp [hlt2]
      wp_walk using wpAny_loadPart' hl, wpAny_loadPart' hb
      rw [hi1, hi2]
      refine wpAny_bind (he i hlt hlt2 prog w _ _ ?_)
      cases hb' : e i with
      | true =>
        rw [hb', if_pos rfl] at h
        wp_walk
        rw [hc]
        exact ⟨plainId_quiet plain_eq_loop _, codeAny_builtin entry_eq_loop (by
          rw [Around.under_plainId plain_eq_loop _]
          exact ih (i + 1) (by omega) (by omega) (by omega) prog w A R _ ⟨hl, hb, he, ht, h⟩)⟩
      | false =>
        rw [hb', if_neg Bool.false_ne_true] at h
        wp_walk using wpAny_loadPart' hl, wpAny_loadPart' hb
        rw [hi1, hi2]
        refine wpAny_bind (ht i hlt hlt2 hb' prog w _ _ ?_)
        wp_walk
        exact h
    · rw [if_neg (by omega)] at hri
      rw [hri] at h
      have hi2 : items2[((i : Nat) : Int).toNat]? = none := by simp; omega
      wp_walk using wpAny_loadPart' hl, wpAny_loadPart' hb
      rw [hi1, hi2]
      wp_walk using wpAny_loadPart' hl, wpAny_loadPart' hb
      exact h
theorem list_ltAt (l b : Addr) (items items2 : Array Value) (n n2 : Nat) (dd dd2 : Option Addr) (sl sl2 : Array (Option Value)) (e t r : Nat → Bool) (hr : Steps e t r items.size items2.size) :
    Meets (Builtin.«list.__lt__» ⟨[.ref l, .ref b], []⟩)
      (fun A R s => s.heap.get? l = some { cls := .type "list", dict := dd, data := .seq items n, slots := sl } ∧ s.heap.get? b = some { cls := .type "list", dict := dd2, data := .seq items2 n2, slots := sl2 } ∧
        (∀ j (h1 : j < items.size) (h2 : j < items2.size), EqAt A.in1 s items[j] items2[j] (e j)) ∧ (∀ j (h1 : j < items.size) (h2 : j < items2.size), e j = false → LtAt A.in1 s items[j] items2[j] (t j)) ∧
        R (.ok (.ret (.bool (r 0)))) s) := by
  intro prog w A R s h
  obtain ⟨hp, g, d, tk, os⟩ := s; obtain ⟨hl, hb, he, ht, h⟩ := h
  have f3 := AutoSeq1.sub_list_list
  wp_walk using wpAny_loadPart' hl, wpAny_loadPart' hb
  exact ⟨plainId_quiet plain_eq_loop _, codeAny_builtin entry_eq_loop (by
    rw [Around.under_plainId plain_eq_loop _]
    exact lt_loopAt l b items items2 n n2 dd dd2 sl sl2 e t r hr _ 0 (Nat.zero_le _) (Nat.zero_le _) rfl prog w A R _ ⟨hl, hb, he, ht, h⟩)⟩
theorem tuple_ltAt (l b : Addr) (items items2 : Array Value) (n n2 : Nat) (dd dd2 : Option Addr) (sl sl2 : Array (Option Value)) (e t r : Nat → Bool) (hr : Steps e t r items.size items2.size) :
    Meets (Builtin.«tuple.__lt__» ⟨[.ref l, .ref b], []⟩)
      (fun A R s => s.heap.get? l = some { cls := .type "tuple", dict := dd, data := .seq items n, slots := sl } ∧ s.heap.get? b = some { cls := .type "tuple", dict := dd2, data := .seq items2 n2, slots := sl2 } ∧
        (∀ j (h1 : j < items.size) (h2 : j < items2.size), EqAt A.in1 s items[j] items2[j] (e j)) ∧ (∀ j (h1 : j < items.size) (h2 : j < items2.size), e j = false → LtAt A.in1 s items[j] items2[j] (t j)) ∧
        R (.ok (.ret (.bool (r 0)))) s) :=
  .of_wp fun prog w A R s h => by
    obtain ⟨hp, g, d, tk, os⟩ := s; obtain ⟨hl, hb, he, ht, h⟩ := h
    have f2 := AutoSeq1.sub_tuple_tuple
    have hZ : (items.toList.zip items2.toList).length = min items.size items2.size := by simp
    wp_walk using wpAny_loadPart' hl, wpAny_loadPart' hb, wpAny_forIn_list _ (fun rest b s' => b.1 = none ∧ s' = ⟨hp, g, d, tk, os⟩ ∧ ∃ i, i ≤ min items.size items2.size ∧ rest = (items.toList.zip items2.toList).drop i ∧
      R (.ok (.ret (.bool (r i)))) ⟨hp, g, d, tk, os⟩) _
    case turn =>
      rintro ⟨y, x⟩ rest b s' ⟨hb', rfl, i, hi, hz, hR⟩
      have hlt : i < (items.toList.zip items2.toList).length := by
        rcases Nat.lt_or_ge i (items.toList.zip items2.toList).length with h' | h'
        · exact h'
        · rw [List.drop_of_length_le h'] at hz; cases hz
      have hm : i < min items.size items2.size := hZ ▸ hlt
      have h1 : i < items.size := Nat.lt_of_lt_of_le hm (Nat.min_le_left _ _)
      have h2 : i < items2.size := Nat.lt_of_lt_of_le hm (Nat.min_le_right _ _)
      rw [List.drop_eq_getElem_cons hlt] at hz
      injection hz with hyx hrest
      have hy : y = items[i] := by have := congrArg Prod.fst hyx; simpa using this
      have hx : x = items2[i] := by have := congrArg Prod.snd hyx; simpa using this
      subst hy hx
      have hri := hr i (by omega) (by omega)
      rw [if_pos ⟨h1, h2⟩] at hri
      rw [hri] at hR
      refine wpAny_bind (he i h1 h2 prog w _ _ ?_)
      cases hy : e i with
      | true =>
        rw [hy, if_pos rfl] at hR
        wp_walk
        exact ⟨rfl, rfl, i + 1, by omega, hrest, hR⟩
      | false =>
        rw [hy, if_neg Bool.false_ne_true] at hR
        simp only [Bool.not_false, if_true]
        refine wpAny_bind (wpAny_rule ?_)
        refine wpAny_bind (ht i h1 h2 hy prog w _ _ ?_)
        wp_walk
        exact ⟨_, rfl, hR⟩
    case fin =>
      rintro ⟨b1, b2⟩ s' ⟨hb', rfl, i, hi, hz, hR⟩
      simp only at hb'
      subst hb'
      have hge : min items.size items2.size ≤ i := by
        rcases Nat.lt_or_ge i (items.toList.zip items2.toList).length with h' | h'
        · rw [List.drop_eq_getElem_cons h'] at hz; cases hz
        · exact hZ ▸ h'
      have hri := hr i (by omega) (by omega)
      rw [if_neg (by omega)] at hri
      rw [hri] at hR
      wp_walk
      exact ⟨_, rfl, hR⟩
    case h =>
      exact ⟨rfl, rfl, 0, Nat.zero_le _, rfl, h⟩
theorem LtAt.lists {A : Around} {s : Shared} {l b : Addr} {items items2 : Array Value} {e t r : Nat → Bool} (hl : s.heap.IsList l items) (hb : s.heap.IsList b items2) (hr : Steps e t r items.size items2.size) (hu : A.units < cLine)
    (he : ∀ j (h1 : j < items.size) (h2 : j < items2.size), EqAt A.in1 s items[j] items2[j] (e j)) (ht : ∀ j (h1 : j < items.size) (h2 : j < items2.size), e j = false → LtAt A.in1 s items[j] items2[j] (t j)) : LtAt A s (.ref l) (.ref b) (r 0) := fun prog w E Q h => by
  obtain ⟨⟨cls, dd, data, sl⟩, ho, hc, n, hd⟩ := id hl
  obtain ⟨⟨cls2, dd2, data2, sl2⟩, ho2, hc2, n2, hd2⟩ := id hb
  simp only at hc hd hc2 hd2
  subst hc hd hc2 hd2
  exact richCompare_meets_room (op := .Lt) ⟨_, ho, rfl⟩ ⟨_, ho2, rfl⟩ F.slot_list_lt F.entry_list_lt (F.args_list_lt_2 _ _) (list_ltAt l b items items2 n n2 dd dd2 sl sl2 e t r hr)
    ⟨ho, ho2, he, ht, show Value.bool (r 0) ≠ Value.notImplemented ∧ Q (.bool (r 0)) s from ⟨(fun x => nomatch x), h⟩⟩ hu
theorem LtAt.tuples {A : Around} {s : Shared} {l b : Addr} {items items2 : Array Value} {e t r : Nat → Bool} (hl : s.heap.IsTuple l items) (hb : s.heap.IsTuple b items2) (hr : Steps e t r items.size items2.size) (hu : A.units < cLine)
    (he : ∀ j (h1 : j < items.size) (h2 : j < items2.size), EqAt A.in1 s items[j] items2[j] (e j)) (ht : ∀ j (h1 : j < items.size) (h2 : j < items2.size), e j = false → LtAt A.in1 s items[j] items2[j] (t j)) : LtAt A s (.ref l) (.ref b) (r 0) := fun prog w E Q h => by
  obtain ⟨⟨cls, dd, data, sl⟩, ho, hc, n, hd⟩ := id hl
  obtain ⟨⟨cls2, dd2, data2, sl2⟩, ho2, hc2, n2, hd2⟩ := id hb
  simp only at hc hd hc2 hd2
  subst hc hd hc2 hd2
  exact richCompare_meets_room (op := .Lt) ⟨_, ho, rfl⟩ ⟨_, ho2, rfl⟩ F.slot_tuple_lt F.entry_tuple_lt (F.args_tuple_lt_2 _ _) (tuple_ltAt l b items items2 n n2 dd dd2 sl sl2 e t r hr)
    ⟨ho, ho2, he, ht, show Value.bool (r 0) ≠ Value.notImplemented ∧ Q (.bool (r 0)) s from ⟨(fun x => nomatch x), h⟩⟩ hu
end L3
set_option Elab.async false
set_option linter.all false
set_option maxRecDepth 100000
set_option maxHeartbeats 4000000
namespace L3
open PySem PySem.Spec PyProof.Rows L2
section
variable {X : Cx} {pins : List (Addr × Obj)} {σ : St} {H : Hp} {s : Shared}
end
end L3
set_option Elab.async false
set_option linter.all false
set_option maxRecDepth 100000
set_option maxHeartbeats 4000000
namespace L3
open PySem PySem.Spec PyProof.Rows L2
def LsA (K : PySem.W.Frag) (H : Hp) (a : Addr) (ds : List D) : Prop := ∃ xs, H a = some (.lst xs) ∧ Iss K H ds xs
theorem LsA.is {K : PySem.W.Frag} {H : Hp} {a : Addr} {ds : List D} (h : LsA K H a ds) : Is K H (.lst ds) (.ref a) := by
  obtain ⟨xs, h1, h2⟩ := h
  simp only [Is]
  exact ⟨a, xs, rfl, SqL.of h1, h2⟩
theorem LsA.nil {K : PySem.W.Frag} {H : Hp} {a : Addr} : LsA K (upd H a (.lst [])) a [] := ⟨[], upd_same, by simp only [Iss]⟩
theorem Is.tup {K : PySem.W.Frag} {H : Hp} {p : Addr} {vs : List V} {ds : List D} (hp : H p = none) (h : Iss K H ds vs) : Is K (upd H p (.tup vs)) (.tup ds) (.ref p) := by
  simp only [Is]
  exact ⟨p, vs, rfl, SqT.of upd_same, Iss.same (same_upd hp) _ _ h⟩
abbrev N3 := Nat × Nat × Nat
def d3 (t : N3) : D := .tup [.int (t.1 : Nat), .int (t.2.1 : Nat), .int (t.2.2 : Nat)]
theorem cut_an {α : Type} (l : List α) {a b : Int} (h0 : 0 ≤ a) (h1 : a ≤ b) : cut l (some a) (some b) = (l.drop a.toNat).take (b - a).toNat := by
  by_cases h2 : b ≤ l.length
  · exact cut_mid l h0 h1 h2
  · obtain ⟨m, rfl⟩ := Int.eq_ofNat_of_zero_le h0
    obtain ⟨n, rfl⟩ := Int.eq_ofNat_of_zero_le (by omega : 0 ≤ b)
    unfold cut
    rw [HT.sIx_nat, HT.sIx_nat, Nat.min_eq_right (by omega : l.length ≤ n)]
    have e : (((n : Nat) : Int) - ((m : Nat) : Int)).toNat = n - m := by omega
    have e2 : ((m : Nat) : Int).toNat = m := rfl
    rw [e, e2, List.take_of_length_le (l := l.drop m) (by rw [List.length_drop]; omega)]
    by_cases hm : m ≤ l.length
    · rw [Nat.min_eq_left hm, List.take_of_length_le (by rw [List.length_drop]; omega)]
    · rw [Nat.min_eq_right (by omega), List.drop_of_length_le (Nat.le_refl _), List.drop_of_length_le (by omega), List.take_nil]
end L3
set_option maxHeartbeats 4000000
namespace LL
open PySem L2 L3
def top (i : Nat) : Stmt := PySem.Challenge.pw_letterlaw_k07_steps_read.main.body.getD i (.Pass ⟨0, 0, 0, 0⟩)
abbrev s_shown_step : Stmt := top 13
abbrev s_shown_steps : Stmt := top 14
abbrev s_is_number : Stmt := top 15
abbrev s_read_step : Stmt := top 16
abbrev s_read_steps : Stmt := top 17
abbrev s_cell_at : Stmt := top 19
abbrev s_whole : Stmt := top 20
abbrev s_written : Stmt := top 21
abbrev s_odd_text : Stmt := top 22
abbrev s_text : Stmt := top 23
abbrev s_number : Stmt := top 24
abbrev s_step : Stmt := top 25
abbrev s_due : Stmt := top 26
abbrev s_another : Stmt := top 27
abbrev s_asked : Stmt := top 28
abbrev s_alike : Stmt := top 29
abbrev s_law : Stmt := top 30
section
variable {P : Program} {w : World} {K : PySem.W.Frag} {mg : Str → Option Value} {base : Heap}
seal L2.PE L2.PS L2.PA L2.PT L2.PSs L2.PI L2.PG L2.PW L2.PGs
local macro_rules | `(tactic| rfl') => `(tactic| simp only [tSeq, rAppend, tTru, seen, Option.join_some, Option.join_none, rU, tSetComp, rd_cr1, rd_cl, rd_cs,  tNext, tRet, tIfS, tTest, tOp, tUn, tVar, tC, tCall, tCons, tNil, tCB, tAsg, gName, tDrop, tNot, tAnd, tOr, tAndV, tOrV, tNotV, tChain, tIf, rI, rI0, rAddA, rMulA, rLtA, rLeA, rGtA, rEq, rNe, rIx, rIxL, rIxT, rIxS, rSlA, rSlL, rSlS, rCat, tSl, tNoPart, tPart, rNin, rIn1, rIsN, rNotN, rMax2, rGe, tXget, decide_false, decide_true, Prod.mk.injEq, rLen, LenV, rIsi, rCount, rFind, count_l, tyV, tBM, tBM0, if_true, if_false, Bool.false_eq_true, decide_eq_true_eq, decide_eq_false_iff_not, Bool.not_eq_true', Bool.not_true, Bool.not_false, lt1, tTup, tLst, gTup, gCons, gNil, tBreak, tCont, tRetN, tRaise0, tRaise1, tTry, tHs, TruV, sc_ii, sc_ss, sc_bb, sc_ns, sc_sn, Value.ref.injEq, L2.start, rd_r1, rd_r2, rd_l, rd_s, rd_e, rd_el, rd_t, rd_tr, rd_bl, tPar, rd_z, rd_revl, rd_cv, tFld, sFld, tMeth, tMake, putF, tx_append, cs_tx, len_tx, cxHK, cV_ref, cV_ty, cxK, cxP, cxW, List.map_cons, List.map_nil, List.length_cons, List.length_nil, List.replicate_succ, List.replicate_zero, Nat.reduceAdd, Nat.reduceSub, and_assoc, tx_eq, exists_eq, exists_eq', exists_eq_left', exists_eq_left, exists_eq_right, exists_eq_right', exists_and_left, exists_and_right, V.int.injEq, V.ref.injEq, V.str.injEq, V.bl.injEq, V.ty.injEq, reduceCtorEq, false_and, and_false, true_and, and_true, or_false, false_or, exists_false, exists_const, List.getElem?_cons_zero, List.getElem?_cons_succ, Option.some.injEq, List.set_cons_zero, List.set_cons_succ, List.cons.injEq, List.append_nil, List.nil_append, List.cons_append])
def Dec (d : List Nat) : Prop := 1 ≤ d.length ∧ d.length ≤ 4 ∧ (d[0]? = some 48 → d = [48]) ∧ ∀ c ∈ d, 48 ≤ c ∧ c ≤ 57
instance (d : List Nat) : Decidable (Dec d) := by unfold Dec; infer_instance
structure TNum (mg : Str → Option Value) : Prop where
  m : ∃ t, mg "MOST_FIGURES" = some (.int 4 t)
  f : ∃ t, mg "FIGURES" = some (.str "0123456789" t)
def sp_is_number : Sp := fun vs H Q _ => ∃ d : List Nat, vs = [.str (tx d), .int 4] ∧ d.length ≤ 1000 ∧ ∀ H', Same H H' → Q (.bl (decide (Dec d))) H'
theorem use_is_number {d : List Nat} {H : Hp} {Q : VK} {E : XK} (hd : d.length ≤ 1000) (h : ∀ H', Same H H' → Q (.bl (decide (Dec d))) H') : sp_is_number [.str (tx d), .int 4] H Q E := ⟨d, rfl, hd, h⟩
def figs : List Nat := [48, 49, 50, 51, 52, 53, 54, 55, 56, 57]
theorem figs_txt : (("0123456789" : Str)) = tx figs := rfl
theorem figs_iff (c : Nat) : c ∈ figs ↔ 48 ≤ c ∧ c ≤ 57 := by
  unfold figs
  simp only [List.mem_cons, List.mem_nil_iff, or_false]
  omega
theorem sc_is_number : FnScope ["text", "most"] ["text", "most"] (defScope s_is_number) := ⟨rfl, rfl, rfl, by decide +kernel, rfl, by decide +kernel, by decide +kernel⟩
theorem ok_is_number {f : Addr} {fd : FuncData} (B : Bt mg) (T : TNum mg) (F : Fun K "is_number" "is_number" s_is_number f fd) : FnOk P w K mg base CX0 1 f fd ["text", "most"] sp_is_number := by
  obtain ⟨tF, gF⟩ := T.f
  refine F.ok sc_is_number (fun vs H Q E h => ?_) (fun cdv A outer s H vs Q E hr h => ?_)
  · obtain ⟨d, rfl, _⟩ := h
    rfl
  · obtain ⟨d, rfl, hd, q⟩ := h
    refine ⟨_, (pss_cons (ps_if (pt_not (pt_chain op_leA op_leA pe_int (pe_callB c_len rfl B.len PySem.boot_len (pa_cons (pv 0) pa_nil)) (pv 1)))
        (pss_one (ps_ret pe_bl))
        pss_nil)
      (pss_cons (ps_if (PW.pt (pw_and (pt_cmpR op_eq (pe_ix ix_seq (pv 0) pe_int (fun _ _ => rfl)) pe_str (nomark _)) (pw_and1 (pt_cmpR op_ne (pv 0) pe_str (nomark _)))))
        (pss_one (ps_ret pe_bl))
        pss_nil)
      (pss_one (ps_ret (pe_callB (c_all rfl) rfl B.all PyProof.Rows.boot_all (pa_cons (pe_comp (own := ["sign"]) (caps := []) (ix := []) (tt := tYes) (te := tOp rIn1 (tVar 0) (tC (.str "0123456789"))) rfl (compOk_of (sc := defScope s_is_number) rfl (by decide +kernel) (by decide +kernel) (by decide +kernel) rfl (by decide +kernel) (by decide +kernel) rfl) (pi_str (pv 0)) (fun _ _ _ _ _ _ => pg_name (i := 0) (show List.Nodup [_] by decide) rfl (Or.inl rfl)) (fun _ _ _ _ _ _ => pts_nil) (fun _ _ _ _ _ _ => (pe_cmpR op_in1 (pv 0) (pe_glob (v := .str "0123456789") rfl gF ⟨tF, rfl⟩) (by with_unfolding_all rfl)))) pa_nil)))))), ?_⟩
    have s16 := sl16
    have e48 : (("0" : Str)) = tx [48] := rfl
    simp only [rAll, figs_txt, e48]
    rfl'
    have no : ¬ Dec d → Q (.bl false) H := fun h => by
      have := q H (.refl _)
      rw [decide_eq_false h] at this
      exact this
    have tail : 1 ≤ d.length → d.length ≤ 4 → (d[0]? = some 48 → d = [48]) → ∀ (D : Addr), H D = none → CompS (tx d) (gName 0) tYes (tOp rIn1 (tVar 0) (tC (V.str (tx figs)))) 1 [] [some (V.str (tx d)), some (V.int 4)] H (fun x H1 => rAll K [x] H1 Q) D := fun h1 h4 h0 D hD => by
      refine CompS.by (fun i acc H' => acc = (d.take i).map (fun c => V.bl (decide (c ∈ figs))) ∧ Same H H' ∧ H' D = some (.lst acc)) ⟨rfl, same_upd hD, upd_same⟩ ?_ ?_
      · rintro i c acc H' hc ⟨rfl, hs, hH⟩
        simp only [tYes]
        rfl'
        refine ⟨keeps0, hH, ?_, CNx.mk (List.getElem?_eq_some_iff.mp hc).1 ⟨?_, same_over hs hD, upd_same⟩⟩
        · rw [List.length_map, List.length_take]
          omega
        · rw [take_one hc, List.map_append]
          rfl
      · rintro acc H' ⟨rfl, hs, hH⟩
        rw [List.take_length] at hH
        refine ⟨D, d.map fun c => decide (c ∈ figs), rfl, SqL.of (by rw [hH, List.map_map]; rfl), ?_⟩
        have e : (d.map fun c => decide (c ∈ figs)).all id = decide (Dec d) := by
          rw [Bool.eq_iff_iff, List.all_eq_true, decide_eq_true_eq]
          constructor
          · intro h
            refine ⟨h1, h4, h0, fun c hc => (figs_iff c).mp ?_⟩
            have := h _ (List.mem_map.mpr ⟨c, hc, rfl⟩)
            simpa using this
          · intro h b hb
            obtain ⟨c, hc, rfl⟩ := List.mem_map.mp hb
            exact decide_eq_true ((figs_iff c).mpr (h.2.2.2 c hc))
        rw [e]
        exact q H' hs
    refine ⟨by omega, ite2 (fun h1 => ite2 (fun h4 => no fun h => by have := h.2.1; omega) fun h4 => ⟨by omega, ?_⟩) fun h1 => no fun h => by have := h.1; omega⟩
    obtain ⟨v, e1, e2⟩ := atI_of (xs := d) (i := 0) (by decide) (by omega)
    have e2' : d[0]? = some v := e2
    refine ⟨v, e1, ite2 (fun hv => ite2 (fun hn => no fun h => hn (h.2.2.1 (by rw [e2', hv]))) fun hn => tail (by omega) (by omega) fun _ => by simpa using hn) fun hv => tail (by omega) (by omega) fun h => ?_⟩
    rw [e2'] at h
    exact absurd (Option.some.inj h) hv
def StepIs (p : List Nat) (n m : Int) (f : Bool) : Prop := ∃ d1 d2, p = d1 ++ (if f = true then 62 else 60) :: d2 ∧ Dec d1 ∧ Dec d2 ∧ n = (NumText.digitsVal d1 : Nat) ∧ m = (NumText.digitsVal d2 : Nat)
structure TNS (K : PySem.W.Frag) (mg : Str → Option Value) (C : Addr) : Prop where
  xi : XI K C
  g : mg "NoStep" = some (.ref C)
  ini : PySem.W.findIn K (.ref C) "__init__" = some (some (.builtin "ValueError.__init__"))
  fo : ∃ t, mg "FORTH" = some (.str ">" t)
  ba : ∃ t, mg "BACK" = some (.str "<" t)
def sp_read_step (C : Addr) : Sp := fun vs H Q E => ∃ p : List Nat, vs = [.str (tx p)] ∧ p.length ≤ 1000 ∧ (∀ n m f, StepIs p n m f → ∀ t H', Same H H' → H' t = some (.tup [.int n, .int m, .bl f]) → Q (.ref t) H') ∧ ((∀ n m f, ¬ StepIs p n m f) → ∀ H', Same H H' → E (.ref C) none H')
theorem use_intT {d : List Nat} {H : Hp} {Q : VK} (hd : Dec d) (h : Q (.int (NumText.digitsVal d : Nat)) H) : rIntT [.str (tx d)] H Q :=
  ⟨tx d, _, rfl, intText_digits (fun c hc => hd.2.2.2 c hc) (fun e => by have := hd.1; rw [show d = [] from e] at this; exact absurd this (by decide)) (by rw [len_tx]; have := hd.2.1; omega), by rw [len_tx]; have := hd.2.1; omega, h⟩
theorem sc_read_step : FnScope ["text", "sign", "parts"] ["text"] (defScope s_read_step) := ⟨rfl, rfl, rfl, by decide +kernel, rfl, by decide +kernel, by decide +kernel⟩
theorem ok_read_step {f C : Addr} {fd : FuncData} (B : Bt mg) (T : TNS K mg C) (TN : TNum mg) (F : Fun K "read_step" "read_step" s_read_step f fd) (D_is_number : Df P w K mg base CX0 1 "is_number" ["text", "most"] [] sp_is_number) : FnOk P w K mg base (CXx P w) 3 f fd ["text"] (sp_read_step C) := by
  obtain ⟨tF, gF⟩ := T.fo
  obtain ⟨tB, gB⟩ := T.ba
  obtain ⟨tM, gM⟩ := TN.m
  refine Fun.okX F sc_read_step (fun vs H Q E h => ?_) (fun cdv A outer s H vs Q E hr hx h => ?_)
  · obtain ⟨p, rfl, _⟩ := h
    rfl
  · obtain ⟨p, rfl, hp, q1, q2⟩ := h
    refine ⟨_, (pss_cut (ps_set (i := 1) sc_read_step.nd rfl (Or.inl rfl) (pe_ifExp (pt_cmpR op_in1 (pe_glob (v := .str ">") rfl gF ⟨tF, rfl⟩) (pv 0) (by with_unfolding_all rfl)) (pe_glob (v := .str ">") rfl gF ⟨tF, rfl⟩) (pe_glob (v := .str "<") rfl gB ⟨tB, rfl⟩)))
      (pss_cut (ps_set (i := 2) sc_read_step.nd rfl (Or.inl rfl) (pe_bm PySem.F.plainAttrs_str PySem.F.slot_str_split PySem.F.type_str_split m_split (pv 0) (pa_cons (pv 1) pa_nil)))
      (pss_cons (ps_if (PW.pt (pw_or (pt_cmpR op_ne (pe_callB c_len rfl B.len PySem.boot_len (pa_cons (pv 2) pa_nil)) pe_int (nomark _)) (pw_or1 (pt_not (pt_truth (pe_callB (c_all rfl) rfl B.all PyProof.Rows.boot_all (pa_cons (pe_comp (own := ["part"]) (caps := []) (ix := []) (tt := tYes) (te := tCall sp_is_number [] E0 (tCons (tVar 0) (tCons (tC (.int 4)) tNil))) rfl (compOk_of (sc := defScope s_read_step) rfl (by decide +kernel) (by decide +kernel) (by decide +kernel) rfl (by decide +kernel) (by decide +kernel) rfl) (pi_list (pv 2)) (fun _ _ _ _ _ _ => pg_name (i := 0) (show List.Nodup [_] by decide) rfl (Or.inl rfl)) (fun _ _ _ _ _ _ => pts_nil) (fun _ _ _ _ _ _ => (cl0 D_is_number hr .nil rfl (pa_cons (pv 0) (pa_cons (pe_glob (v := .int 4) rfl gM ⟨tM, rfl⟩) pa_nil))))) pa_nil)) (fun _ => rfl))))))
        (pss_one (ps_raise0 hx rfl T.xi.toXC T.ini rfl T.g (pa_cons pe_str pa_nil)))
        pss_nil)
      (pss_one (ps_ret (pe_tup (pa_cons (pe_callTy c_intT rfl B.int PySem.Pv.boot_int (pa_cons (pe_ix ix_seq (pv 2) pe_int (fun _ _ => rfl)) pa_nil)) (pa_cons (pe_callTy c_intT rfl B.int PySem.Pv.boot_int (pa_cons (pe_ix ix_seq (pv 2) pe_int (fun _ _ => rfl)) pa_nil)) (pa_cons (pe_cmpR op_eq (pv 1) (pe_glob (v := .str ">") rfl gF ⟨tF, rfl⟩) (nomark _)) pa_nil))))))))), ?_⟩
    have s16 := sl16
    have e62 : ((">" : Str)) = tx [62] := rfl
    have e60 : (("<" : Str)) = tx [60] := rfl
    simp only [rAll, rIntT, rSplit, e62, e60]
    have ec : ∀ c : Nat, c = (if 62 ∈ p then 62 else 60) → ∀ {a b : List Nat}, splitL c p = [a, b] → Dec a → Dec b → StepIs p (NumText.digitsVal a : Nat) (NumText.digitsVal b : Nat) (decide (c = 62)) := fun c hc a b hs ha hb => by
      have := (join_splitL c p).1
      rw [hs] at this
      refine ⟨a, b, ?_, ha, hb, rfl, rfl⟩
      have e : (if decide (c = 62) = true then 62 else 60) = c := by
        by_cases h : 62 ∈ p
        · rw [if_pos h] at hc
          rw [hc]
          rfl
        · rw [if_neg h] at hc
          rw [hc]
          rfl
      rw [e]
      exact this.symm
    have en : ∀ c : Nat, c = (if 62 ∈ p then 62 else 60) → ∀ n m f, StepIs p n m f → ∃ a b, splitL c p = [a, b] ∧ Dec a ∧ Dec b := fun c hc n m f hst => by
      obtain ⟨d1, d2, hp1, h1, h2, _, _⟩ := hst
      have fr : ∀ (d : List Nat), Dec d → ∀ y, 58 ≤ y → y ∉ d := fun d hd y hy hm => by have := (hd.2.2.2 y hm).2; omega
      have e : c = (if f = true then 62 else 60) := by
        cases f with
        | true =>
          rw [if_pos (by rw [hp1]; simp)] at hc
          exact hc
        | false =>
          rw [if_neg (fun hm => ?_)] at hc
          · exact hc
          · rw [hp1] at hm
            rcases List.mem_append.mp hm with z | z
            · exact fr d1 h1 62 (by decide) z
            · rcases List.mem_cons.mp z with z | z
              · exact absurd z (by decide)
              · exact fr d2 h2 62 (by decide) z
      have hc58 : 58 ≤ c := by rw [e]; cases f <;> decide
      rw [← e] at hp1
      refine ⟨d1, d2, ?_, h1, h2⟩
      rw [hp1, splitL_app (fr d1 h1 c hc58), splitL_free (fr d2 h2 c hc58)]
    generalize hcc : (if 62 ∈ p then 62 else 60 : Nat) = c at ec en
    have hc2 : c = 62 ∨ c = 60 := by
      by_cases h : 62 ∈ p
      · rw [if_pos h] at hcc; exact .inl hcc.symm
      · rw [if_neg h] at hcc; exact .inr hcc.symm
    refine cut_by (fun σ H' => H' = H ∧ σ = [some (.str (tx p)), some (.str (tx [c])), none]) ?_ ?_
    · rfl'
      refine ite2 (fun h => ?_) fun h => ?_
      · rw [← hcc, if_pos h]
      · rw [← hcc, if_neg h]
    rintro σ' H' ⟨rfl, rfl⟩
    refine cut_by (fun σ H2 => ∃ D, Same H' H2 ∧ H2 D = some (.lst ((splitL c p).map fun y => V.str (tx y))) ∧ σ = [some (.str (tx p)), some (.str (tx [c])), some (.ref D)]) ?_ ?_
    · rfl'
      exact ⟨p, c, rfl, rfl, by omega, fun D hD => ⟨same_upd hD, D, upd_same, rfl⟩⟩
    rintro σ' H2 ⟨D, hs, hD, rfl⟩
    rfl'
    refine ⟨_, .inl ⟨_, SqL.of hD, rfl⟩, ?_⟩
    rw [List.length_map]
    refine ite2 (fun h => ⟨by omega, q2 (fun n m f hst => ?_) H2 hs⟩) fun h => ?_
    · obtain ⟨a, b, e, _⟩ := en c rfl n m f hst
      rw [e] at h
      exact h rfl
    have h2 : (splitL c p).length = 2 := by omega
    match hsp : splitL c p, h2 with
    | [a, b], _ =>
      rw [hsp] at hD
      have ha : a.length ≤ 1000 := by
        have := (join_splitL c p).1
        rw [hsp] at this
        have := congrArg List.length this
        simp only [joinL, List.length_append, List.length_cons] at this
        omega
      have hb : b.length ≤ 1000 := by
        have := (join_splitL c p).1
        rw [hsp] at this
        have := congrArg List.length this
        simp only [joinL, List.length_append, List.length_cons] at this
        omega
      have bad : (¬ Dec a ∨ ¬ Dec b) → ∀ H3, Same H' H3 → E (Value.ref C) none H3 := fun hn H3 h3 => q2 (fun n m f hst => by
        obtain ⟨a', b', e, h1, h2⟩ := en c rfl n m f hst
        rw [hsp] at e
        cases e
        rcases hn with z | z
        · exact z h1
        · exact z h2) H3 h3
      have hDl : H2 D = some (.lst ([a, b].map fun y => V.str (tx y))) := hD
      refine ⟨⟨_, SqL.of hD⟩, fun D' hD' => CompL.by (xs := [a, b].map fun y => V.str (tx y)) (fun i acc H3 => acc = ([a, b].take i).map (fun y => V.bl (decide (Dec y))) ∧ Same H2 H3 ∧ H3 D' = some (.lst acc)) ⟨rfl, same_upd hD', upd_same⟩ (fun i acc H3 _ h => SqL.of (h.2.1 _ _ hDl)) ?_ ?_⟩
      · rintro i v acc H3 hv ⟨rfl, hs3, hD3⟩
        rw [List.getElem?_map] at hv
        obtain ⟨y, hy, rfl⟩ := Option.map_eq_some_iff.mp hv
        have hyl : y.length ≤ 1000 := by
          have hm := List.mem_of_getElem? hy
          rcases List.mem_cons.mp hm with rfl | hm
          · exact ha
          · rcases List.mem_cons.mp hm with rfl | hm
            · exact hb
            · exact (nomatch hm)
        have hi := (List.getElem?_eq_some_iff.mp hy).1
        simp only [tYes]
        rfl'
        refine ⟨keeps0, use_is_number hyl fun H4 hs4 => ⟨hs4 _ _ hD3, by rw [List.length_map, List.length_take]; omega, CNx.mk (by simpa using hi) ⟨?_, same_over (hs3.trans hs4) hD', upd_same⟩⟩⟩
        rw [take_one hy, List.map_append]
        rfl
      · rintro acc H3 ⟨rfl, hs3, hD3⟩
        refine ⟨D', [decide (Dec a), decide (Dec b)], rfl, SqL.of (by rw [hD3]; rfl), ?_⟩
        have hD4 := hs3 _ _ hD
        by_cases da : Dec a
        · by_cases db : Dec b
          · rw [decide_eq_true da, decide_eq_true db]
            rfl'
            exact (.inl ⟨_, SqL.of hD4, _, rfl, use_intT da (.inl ⟨_, SqL.of hD4, _, rfl, use_intT db ⟨by omega, fun t ht => q1 _ _ _ (ec c rfl hsp da db) t _ ((hs.trans hs3).trans (same_upd ht)) upd_same⟩⟩)⟩)
          · rw [decide_eq_true da, decide_eq_false db]
            rfl'
            exact ⟨by omega, bad (.inr db) H3 (hs.trans hs3)⟩
        · rw [decide_eq_false da]
          rfl'
          exact ⟨by omega, bad (.inl da) H3 (hs.trans hs3)⟩
def dec (n : Nat) : List Nat := (Nat.toDigits 10 n).map Char.toNat
theorem dec_txt (n : Nat) : Str.ofString (toString ((n : Nat) : Int)) = tx (dec n) := by
  rw [← tx_cs (Str.ofString _)]
  exact congrArg tx (PySem.W.KIN.signs_num n)
theorem fig_is : ∀ d : Nat, d < 10 → (Nat.digitChar d).toNat = 48 + d := by decide
theorem dec_small {n : Nat} (h : n < 10) : dec n = [48 + n] := by
  unfold dec
  rw [Nat.toDigits_of_lt_base h]
  simp [fig_is n h]
theorem dec_big {n : Nat} (h : 10 ≤ n) : dec n = dec (n / 10) ++ [48 + n % 10] := by
  have hm : n % 10 < 10 := Nat.mod_lt n (by decide)
  have t : Nat.toDigits 10 (n / 10) ++ Nat.toDigits 10 (n % 10) = Nat.toDigits 10 (10 * (n / 10) + n % 10) := Nat.toDigits_append_toDigits (by decide) (by omega) hm
  rw [Nat.div_add_mod] at t
  unfold dec
  rw [← t, List.map_append, Nat.toDigits_of_lt_base hm]
  simp [fig_is _ hm]
theorem dec_ok {n : Nat} (h : n < 10000) : Dec (dec n) := by
  have fin : ∀ (m : Nat) (l : List Nat), m < 10 → (∀ c ∈ l, 48 ≤ c ∧ c ≤ 57) → l.length ≤ 3 → (m = 0 → l = []) → Dec ((48 + m) :: l) := fun m l hm hl h3 h0 => by
    refine ⟨by simp, by simp; omega, fun e => ?_, fun c hc => ?_⟩
    · have : m = 0 := by simp at e; omega
      rw [h0 this, this]
    · rcases List.mem_cons.mp hc with z | z
      · omega
      · exact hl c z
  by_cases h1 : n < 10
  · rw [dec_small h1]
    exact fin _ _ h1 (fun _ h => nomatch h) (by simp) fun _ => rfl
  rw [dec_big (by omega)]
  by_cases h2 : n / 10 < 10
  · rw [dec_small h2]
    exact fin _ _ h2 (by simp; omega) (by simp) fun z => absurd z (by omega)
  rw [dec_big (by omega)]
  by_cases h3 : n / 10 / 10 < 10
  · rw [dec_small h3]
    exact fin _ _ h3 (by simp; omega) (by simp) fun z => absurd z (by omega)
  rw [dec_big (by omega), dec_small (n := n / 10 / 10 / 10) (by omega)]
  exact fin _ _ (by omega) (by simp; omega) (by simp) fun z => absurd z (by omega)
theorem use_strI {n : Nat} {H : Hp} {Q : VK} (hn : n < 10000) (h : Q (.str (tx (dec n))) H) : rStrI [.int (n : Nat)] H Q := by
  refine ⟨_, rfl, ?_, ?_⟩
  · show Nat.log2 n < 1920
    by_cases z : n = 0
    · subst z
      decide
    · exact Nat.lt_trans ((Nat.log2_lt (k := 14) z).mpr (by omega)) (by decide)
  · rw [dec_txt]
    exact h
structure TSh (mg : Str → Option Value) : Prop where
  em : ∃ t, mg "EMPTY" = some (.str "." t)
  fo : ∃ t, mg "FORTH" = some (.str ">" t)
  ba : ∃ t, mg "BACK" = some (.str "<" t)
def shS (n m : Nat) (f : Bool) : List Nat := dec n ++ [if f = true then 62 else 60] ++ dec m
def sp_shown_step : Sp := fun vs H Q _ => ∃ (p : Addr) (n m : Nat) (f : Bool), vs = [.ref p] ∧ H p = some (.tup [.int n, .int m, .bl f]) ∧ n < 10000 ∧ m < 10000 ∧ ∀ H', Same H H' → Q (.str (tx (shS n m f))) H'
theorem sc_shown_step : FnScope ["step", "sign"] ["step"] (defScope s_shown_step) := ⟨rfl, rfl, rfl, by decide +kernel, rfl, by decide +kernel, by decide +kernel⟩
theorem ok_shown_step {f : Addr} {fd : FuncData} (B : Bt mg) (T : TSh mg) (F : Fun K "shown_step" "shown_step" s_shown_step f fd) : FnOk P w K mg base CX0 1 f fd ["step"] sp_shown_step := by
  obtain ⟨tF, gF⟩ := T.fo
  obtain ⟨tB, gB⟩ := T.ba
  refine F.ok sc_shown_step (fun vs H Q E h => ?_) (fun cdv A outer s H vs Q E hr h => ?_)
  · obtain ⟨p, n, m, f, rfl, _⟩ := h
    rfl
  · obtain ⟨p, n, m, f, rfl, hp, hn, hm, q⟩ := h
    refine ⟨_, (pss_cut (ps_set (i := 1) sc_shown_step.nd rfl (Or.inl rfl) (pe_ifExp (pt_truth (pe_ix ix_seq (pv 0) pe_int (fun _ _ => rfl)) (fun _ => rfl)) (pe_glob (v := .str ">") rfl gF ⟨tF, rfl⟩) (pe_glob (v := .str "<") rfl gB ⟨tB, rfl⟩)))
      (pss_one (ps_ret (pe_op op_addA (pe_op op_addA (pe_callTy c_strI rfl B.str PySem.Pv.boot_str (pa_cons (pe_ix ix_seq (pv 0) pe_int (fun _ _ => rfl)) pa_nil)) (pv 1)) (pe_callTy c_strI rfl B.str PySem.Pv.boot_str (pa_cons (pe_ix ix_seq (pv 0) pe_int (fun _ _ => rfl)) pa_nil)))))), ?_⟩
    have s16 := sl16
    have e62 : ((">" : Str)) = tx [62] := rfl
    have e60 : (("<" : Str)) = tx [60] := rfl
    simp only [e62, e60]
    refine cut_by (fun σ H' => H' = H ∧ σ = [some (.ref p), some (.str (tx [if f = true then 62 else 60]))]) ?_ ?_
    · rfl'
      refine .inr ⟨_, SqT.of hp, _, rfl, _, rfl, ?_⟩
      cases f <;> rfl
    rintro σ' H' ⟨rfl, rfl⟩
    have ln := (dec_ok hn).2.1
    have lm := (dec_ok hm).2.1
    rfl'
    refine .inr ⟨_, SqT.of hp, _, rfl, use_strI hn ⟨_, rfl, ?_, .inr ⟨_, SqT.of hp, _, rfl, use_strI hm ⟨_, rfl, ?_, ?_⟩⟩⟩⟩
    · rw [len_tx]
      omega
    · rw [tx_append, len_tx, len_tx]
      simp only [List.length_append, List.length_cons, List.length_nil]
      omega
    · rw [tx_append, tx_append]
      exact q _ (.refl _)
theorem use_shown_step {p : Addr} {n m : Nat} {f : Bool} {H : Hp} {Q : VK} {E : XK} (hp : H p = some (.tup [.int (n : Nat), .int (m : Nat), .bl f])) (hn : n < 10000) (hm : m < 10000) (h : ∀ H', Same H H' → Q (.str (tx (shS n m f))) H') : sp_shown_step [.ref p] H Q E := ⟨p, n, m, f, rfl, hp, hn, hm, h⟩
theorem join_tx (c : Nat) (ys : List (List Nat)) : Txt.join (tx [c]) (ys.map tx) = tx (joinL c ys) := by
  have e : Txt.join (tx [c]) (ys.map tx) = Str.join (tx [c]) (ys.map tx) := StrLaws.glued_eq_join _ _
  rw [e, ← tx_cs (Str.join _ _), cs_join, List.map_map]
  congr 2
  exact List.map_id _
theorem foldl_le (b : Nat) : ∀ (ys : List Str) (n : Nat), (∀ y ∈ ys, y.length ≤ b) → ys.foldl (fun a y => a + y.length + 1) n ≤ n + ys.length * (b + 1)
  | [], n, _ => by simp
  | y :: r, n, h => by
    have ih := foldl_le b r (n + y.length + 1) fun z hz => h z (List.mem_cons_of_mem _ hz)
    have hy := h y (by simp)
    rw [List.foldl_cons, List.length_cons, Nat.succ_mul]
    omega
theorem join_ok {c b : Nat} {ys : List (List Nat)} (hb : ∀ y ∈ ys, y.length ≤ b) (hn : ys.length * (b + 1) ≤ 16777216) : JoinOk (tx [c]) (ys.map tx) = true := by
  have s16 := sl16
  have h := foldl_le b (ys.map tx) 0 fun y hy => by
    obtain ⟨z, hz, rfl⟩ := List.mem_map.mp hy
    rw [len_tx]
    exact hb z hz
  rw [List.length_map] at h
  have e : JoinOk (tx [c]) (ys.map tx) = !PySem.Builtin.Str.tooLong ((ys.map tx).foldl (fun a y => a + y.length + 1) 0) := by
    unfold JoinOk
    rw [List.foldl_toArray]
    rfl
  rw [e]
  unfold PySem.Builtin.Str.tooLong
  simp only [Bool.not_eq_true', decide_eq_false_iff_not]
  omega
abbrev St3 := Nat × Nat × Bool
def StA (H : Hp) (xs : List V) (ss : List St3) : Prop := xs.length = ss.length ∧ ∀ (i : Nat) (x : V), xs[i]? = some x → ∃ r n m f, x = .ref r ∧ ss[i]? = some (n, m, f) ∧ H r = some (.tup [.int (n : Nat), .int (m : Nat), .bl f]) ∧ n < 10000 ∧ m < 10000
theorem StA.same {H H' : Hp} {xs : List V} {ss : List St3} (h : StA H xs ss) (e : Same H H') : StA H' xs ss := ⟨h.1, fun i x hx => by
  obtain ⟨r, n, m, f, a, b, c, d⟩ := h.2 i x hx
  exact ⟨r, n, m, f, a, b, e _ _ c, d⟩⟩
def sh3 (s : St3) : List Nat := shS s.1 s.2.1 s.2.2
def shSs (ss : List St3) : List Nat := if ss = [] then [46] else joinL 32 (ss.map sh3)
theorem sh3_len {s : St3} (h : s.1 < 10000) (h' : s.2.1 < 10000) : (sh3 s).length ≤ 9 := by
  unfold sh3 shS
  have := (dec_ok h).2.1
  have := (dec_ok h').2.1
  simp only [List.length_append, List.length_cons, List.length_nil]
  omega
def sp_shown_steps : Sp := fun vs H Q _ => ∃ (p : Addr) (xs : List V) (ss : List St3), vs = [.ref p] ∧ H p = some (.lst xs) ∧ StA H xs ss ∧ ss.length ≤ 1000 ∧ ∀ H', Same H H' → Q (.str (tx (shSs ss))) H'
theorem sc_shown_steps : FnScope ["steps"] ["steps"] (defScope s_shown_steps) := ⟨rfl, rfl, rfl, by decide +kernel, rfl, by decide +kernel, by decide +kernel⟩
theorem ok_shown_steps {f : Addr} {fd : FuncData} (B : Bt mg) (T : TSh mg) (F : Fun K "shown_steps" "shown_steps" s_shown_steps f fd) (D_shown_step : Df P w K mg base CX0 1 "shown_step" ["step"] [] sp_shown_step) : FnOk P w K mg base CX0 3 f fd ["steps"] sp_shown_steps := by
  obtain ⟨tE, gE⟩ := T.em
  refine F.ok sc_shown_steps (fun vs H Q E h => ?_) (fun cdv A outer s H vs Q E hr h => ?_)
  · obtain ⟨p, xs, ss, rfl, _⟩ := h
    rfl
  · obtain ⟨p, xs, ss, rfl, hp, hst, hss, q⟩ := h
    refine ⟨_, (pss_cons (ps_if (pt_cmpR op_eq (pe_callB c_len rfl B.len PySem.boot_len (pa_cons (pv 0) pa_nil)) pe_int (nomark _))
        (pss_one (ps_ret (pe_glob (v := .str ".") rfl gE ⟨tE, rfl⟩)))
        pss_nil)
      (pss_one (ps_ret (pe_bm PySem.F.plainAttrs_str PySem.F.slot_str_join PySem.F.type_str_join m_join pe_str (pa_cons (pe_comp (own := ["step"]) (caps := []) (ix := []) (tt := tYes) (te := tCall sp_shown_step [] E0 (tCons (tVar 0) tNil)) rfl (compOk_of (sc := defScope s_shown_steps) rfl (by decide +kernel) (by decide +kernel) (by decide +kernel) rfl (by decide +kernel) (by decide +kernel) rfl) (pi_list (pv 0)) (fun _ _ _ _ _ _ => pg_name (i := 0) (show List.Nodup [_] by decide) rfl (Or.inl rfl)) (fun _ _ _ _ _ _ => pts_nil) (fun _ _ _ _ _ _ => (cl0 D_shown_step hr .nil rfl (pa_cons (pv 0) pa_nil)))) pa_nil))))), ?_⟩
    have s16 := sl16
    have e46 : (("." : Str)) = tx [46] := rfl
    have e32 : ((" " : Str)) = tx [32] := rfl
    simp only [rJoin, e46, e32]
    rfl'
    refine ⟨_, .inl ⟨_, SqL.of hp, rfl⟩, ite2 (fun h => ?_) fun h => ⟨⟨_, SqL.of hp⟩, fun D hD => ?_⟩⟩
    · have e : ss = [] := List.eq_nil_of_length_eq_zero (by have := hst.1; omega)
      have := q H (.refl _)
      unfold shSs at this
      rw [if_pos e] at this
      exact this
    · have hl := hst.1
      have hne : ss ≠ [] := fun z => h (by rw [hl, z]; rfl)
      refine CompL.by (xs := xs) (fun i acc H' => acc = ((ss.take i).map sh3).map (fun y => V.str (tx y)) ∧ Same H H' ∧ H' D = some (.lst acc)) ⟨rfl, same_upd hD, upd_same⟩ (fun i acc H' _ h => h.2.1.seq (SqL.of hp)) ?_ ?_
      · rintro i x acc H' hx ⟨rfl, hs, hH⟩
        obtain ⟨r, n, m, f, rfl, hsi, hr2, hn, hm⟩ := hst.2 i x hx
        simp only [tYes]
        rfl'
        refine ⟨keeps0, use_shown_step (hs _ _ hr2) hn hm fun H2 h2 => ⟨h2 _ _ hH, ?_, CNx.mk (List.getElem?_eq_some_iff.mp hx).1 ⟨?_, same_over (hs.trans h2) hD, upd_same⟩⟩⟩
        · rw [List.length_map, List.length_map, List.length_take]
          omega
        · rw [take_one hsi, List.map_append, List.map_append]
          rfl
      · rintro acc H' ⟨rfl, hs, hH⟩
        rw [hl, List.take_length] at hH
        have hb : ∀ y ∈ ss.map sh3, y.length ≤ 9 := fun y hy => by
          obtain ⟨z, hz, rfl⟩ := List.mem_map.mp hy
          obtain ⟨i, hi, hzi⟩ := List.mem_iff_getElem.mp hz
          obtain ⟨r, n, m, f, _, hsi, _, hn, hm⟩ := hst.2 i (xs[i]'(by omega)) (by simp)
          have e : z = (n, m, f) := by
            rw [List.getElem?_eq_getElem hi, hzi] at hsi
            exact Option.some.inj hsi
          rw [e]
          exact sh3_len hn hm
        refine ⟨_, D, (ss.map sh3).map tx, rfl, rfl, SqL.of (by rw [hH]; simp [List.map_map, Function.comp_def]), join_ok hb ?_, ?_⟩
        · rw [List.length_map]
          omega
        · rw [join_tx]
          have := q H' hs
          unfold shSs at this
          rw [if_neg hne] at this
          exact this
def PsOk (l : List Nat) (ss : List St3) : Prop := (splitL 32 l).length = ss.length ∧ ∀ (i : Nat) (y : List Nat), (splitL 32 l)[i]? = some y → ∃ n m f, ss[i]? = some (n, m, f) ∧ StepIs y (n : Nat) (m : Nat) f
def sp_read_steps (C : Addr) : Sp := fun vs H Q E => ∃ l : List Nat, vs = [.str (tx l)] ∧ l.length ≤ 1000 ∧ (l = [46] → ∀ D H', H D = none → Same H H' → H' D = some (.lst []) → Q (.ref D) H')
  ∧ (l ≠ [46] → (∀ D xs ss H', H D = none → PsOk l ss → Same H H' → H' D = some (.lst xs) → StA H' xs ss → Q (.ref D) H') ∧ ∀ y ∈ splitL 32 l, (∀ n m f, ¬ StepIs y n m f) → ∀ H', Same H H' → E (.ref C) none H')
theorem use_read_step {C : Addr} {p : List Nat} {H : Hp} {Q : VK} {E : XK} (hp : p.length ≤ 1000) (h1 : ∀ n m f, StepIs p n m f → ∀ t H', Same H H' → H' t = some (.tup [.int n, .int m, .bl f]) → Q (.ref t) H') (h2 : (∀ n m f, ¬ StepIs p n m f) → ∀ H', Same H H' → E (.ref C) none H') : sp_read_step C [.str (tx p)] H Q E := ⟨p, rfl, hp, h1, h2⟩
theorem StA.snoc {H : Hp} {xs : List V} {ss : List St3} {r : Addr} {n m : Nat} {f : Bool} (h : StA H xs ss) (hr : H r = some (.tup [.int (n : Nat), .int (m : Nat), .bl f])) (hn : n < 10000) (hm : m < 10000) : StA H (xs ++ [.ref r]) (ss ++ [(n, m, f)]) := by
  obtain ⟨hl, ha⟩ := h
  refine ⟨by simp [hl], fun i x hx => ?_⟩
  by_cases c : i < xs.length
  · rw [List.getElem?_append_left c] at hx
    obtain ⟨r', n', m', f', e1, e2, e3⟩ := ha i x hx
    exact ⟨r', n', m', f', e1, by rw [List.getElem?_append_left (by omega)]; exact e2, e3⟩
  · have : i = xs.length := by
      have := (List.getElem?_eq_some_iff.mp hx).1
      rw [List.length_append] at this
      simp at this
      omega
    subst this
    rw [List.getElem?_append_right (Nat.le_refl _)] at hx
    simp at hx
    subst hx
    exact ⟨r, n, m, f, rfl, by rw [List.getElem?_append_right (by omega), hl]; simp, hr, hn, hm⟩
theorem StA.upd {H : Hp} {D : Addr} {o : HO} {ys xs : List V} {ss : List St3} (h : StA H xs ss) (hD : H D = some (.lst ys)) : StA (L2.upd H D o) xs ss := ⟨h.1, fun i x hx => by
  obtain ⟨r, n, m, f, a, b, c, d⟩ := h.2 i x hx
  have ne : r ≠ D := fun z => by rw [z, hD] at c; cases c
  exact ⟨r, n, m, f, a, b, (upd_ne ne).trans c, d⟩⟩
theorem dec_lt {d : List Nat} (h : Dec d) : NumText.digitsVal d < 10000 := by
  obtain ⟨h1, h4, _, hc⟩ := h
  match d, h1, h4, hc with
  | [a], _, _, hc =>
    have := hc a (by simp)
    simp only [NumText.digitsVal, List.foldl]
    omega
  | [a, b], _, _, hc =>
    have := hc a (by simp)
    have := hc b (by simp)
    simp only [NumText.digitsVal, List.foldl]
    omega
  | [a, b, c], _, _, hc =>
    have := hc a (by simp)
    have := hc b (by simp)
    have := hc c (by simp)
    simp only [NumText.digitsVal, List.foldl]
    omega
  | [a, b, c, e], _, _, hc =>
    have := hc a (by simp)
    have := hc b (by simp)
    have := hc c (by simp)
    have := hc e (by simp)
    simp only [NumText.digitsVal, List.foldl]
    omega
  | _ :: _ :: _ :: _ :: _ :: _, _, h4, _ => exact absurd h4 (by simp)
theorem joinL_piece {c : Nat} : ∀ {ys : List (List Nat)} {y : List Nat}, y ∈ ys → y.length ≤ (joinL c ys).length
  | [x], y, h => by
    rw [List.mem_singleton.mp h]
    exact Nat.le_refl _
  | x :: z :: r, y, h => by
    have e : joinL c (x :: z :: r) = x ++ c :: joinL c (z :: r) := rfl
    rw [e, List.length_append, List.length_cons]
    rcases List.mem_cons.mp h with h | h
    · rw [h]
      omega
    · have := joinL_piece (c := c) h
      omega
theorem splitL_piece {c : Nat} {l y : List Nat} (h : y ∈ splitL c l) : y.length ≤ l.length := by
  have := joinL_piece (c := c) h
  rw [(join_splitL c l).1] at this
  exact this
theorem sc_read_steps : FnScope ["text"] ["text"] (defScope s_read_steps) := ⟨rfl, rfl, rfl, by decide +kernel, rfl, by decide +kernel, by decide +kernel⟩
theorem ok_read_steps {f C : Addr} {fd : FuncData} (T : TSh mg) (F : Fun K "read_steps" "read_steps" s_read_steps f fd) (D_read_step : Df P w K mg base (CXx P w) 3 "read_step" ["text"] [] (sp_read_step C)) : FnOk P w K mg base (CXx P w) 5 f fd ["text"] (sp_read_steps C) := by
  obtain ⟨tE, gE⟩ := T.em
  refine Fun.okX F sc_read_steps (fun vs H Q E h => ?_) (fun cdv A outer s H vs Q E hr hx h => ?_)
  · obtain ⟨l, rfl, _⟩ := h
    rfl
  · obtain ⟨l, rfl, hl, q1, q2⟩ := h
    refine ⟨_, (pss_cons (ps_if (pt_cmpR op_eq (pv 0) (pe_glob (v := .str ".") rfl gE ⟨tE, rfl⟩) (nomark _))
        (pss_one (ps_ret (pe_lst pa_nil)))
        pss_nil)
      (pss_one (ps_ret (pe_compX (EX := E) (own := ["piece"]) (caps := []) (ix := []) (tt := tYes) (te := tCall (sp_read_step C) [] E (tCons (tVar 0) tNil)) rfl (compOk_of (sc := defScope s_read_steps) rfl (by decide +kernel) (by decide +kernel) (by decide +kernel) rfl (by decide +kernel) (by decide +kernel) rfl) ⟨rfl, rfl⟩ hx (pi_list (pe_bm PySem.F.plainAttrs_str PySem.F.slot_str_split PySem.F.type_str_split m_split (pv 0) (pa_cons pe_str pa_nil))) (fun _ _ _ _ _ _ => pg_name (i := 0) (show List.Nodup [_] by decide) rfl (Or.inl rfl)) (fun _ _ _ _ _ _ => pts_nil) (fun _ _ _ _ _ _ _ hx' => (clP hx' D_read_step hr .nil rfl (pa_cons (pv 0) pa_nil))))))), ?_⟩
    have s16 := sl16
    have e46 : (("." : Str)) = tx [46] := rfl
    have e32 : ((" " : Str)) = tx [32] := rfl
    simp only [e46, e32]
    rfl'
    refine ite2 (fun h => ⟨by omega, fun D hD => q1 h D _ hD (same_upd hD) upd_same⟩) fun h => ?_
    obtain ⟨q2, q3⟩ := q2 h
    refine ⟨l, 32, rfl, rfl, by omega, fun a ha => ⟨a, rfl, ⟨_, SqL.of upd_same⟩, fun D hD => ?_⟩⟩
    have haD := same_upd (o := HO.lst ((splitL 32 l).map fun y => V.str (tx y))) ha
    refine CompL.by (xs := (splitL 32 l).map fun y => V.str (tx y)) (fun i acc H' => ∃ ss : List St3, ss.length = i ∧ (∀ (j : Nat) (y : List Nat), j < i → (splitL 32 l)[j]? = some y → ∃ n m f, ss[j]? = some (n, m, f) ∧ StepIs y (n : Nat) (m : Nat) f) ∧ StA H' acc ss ∧ Same (upd H a (HO.lst ((splitL 32 l).map fun y => V.str (tx y)))) H' ∧ H' D = some (.lst acc)) ⟨[], rfl, fun j y hj => absurd hj (Nat.not_lt_zero _), ⟨rfl, fun i x hx => by simp at hx⟩, same_upd hD, upd_same⟩ (fun i acc H' _ h => by obtain ⟨_, _, _, _, hs, _⟩ := h; exact hs.seq (SqL.of upd_same)) ?_ ?_
    · rintro i x acc H' hx ⟨ss, hi, hps, hsta, hs, hH⟩
      rw [List.getElem?_map] at hx
      obtain ⟨y, hy, rfl⟩ := Option.map_eq_some_iff.mp hx
      have hyl : y.length ≤ 1000 := Nat.le_trans (splitL_piece (List.mem_of_getElem? hy)) hl
      have hil : i < (splitL 32 l).length := (List.getElem?_eq_some_iff.mp hy).1
      have hsl := splitL_len 32 l
      simp only [tYes]
      rfl'
      refine ⟨keeps0, use_read_step hyl (fun n m f hst t H2 h2 ht => ⟨h2 _ _ hH, ?_, CNx.mk (by rw [List.length_map]; exact hil) ?_⟩) fun hno H2 h2 => q3 y (List.mem_of_getElem? hy) hno H2 ((haD.trans hs).trans h2)⟩
      · rw [hsta.1]
        omega
      · obtain ⟨d1, d2, e, hd1, hd2, rfl, rfl⟩ := id hst
        refine ⟨ss ++ [(NumText.digitsVal d1, NumText.digitsVal d2, f)], by rw [List.length_append]; simp [hi], fun j z hj hz => ?_, ((hsta.same h2).snoc ht (dec_lt hd1) (dec_lt hd2)).upd (h2 _ _ hH), same_over (hs.trans h2) hD, upd_same⟩
        by_cases c : j < i
        · obtain ⟨n, m, f, e1, e2⟩ := hps j z c hz
          exact ⟨n, m, f, by rw [List.getElem?_append_left (by omega)]; exact e1, e2⟩
        · have : j = i := by omega
          subst this
          rw [hy] at hz
          cases hz
          exact ⟨_, _, _, by rw [List.getElem?_append_right (by omega), hi]; simp, hst⟩
    · rintro acc H' ⟨ss, hi, hps, hsta, hs, hH⟩
      rw [List.length_map] at hi hps
      exact q2 D acc ss H' (haD.free hD) ⟨hi.symm, fun j y hy => hps j y (List.getElem?_eq_some_iff.mp hy).1 hy⟩ (haD.trans hs) hH hsta
def cellAt (ns : List Int) (k : Int) : Int := ns.getD k.toNat 0
def sp_cell_at (K : PySem.W.Frag) : Sp := fun vs H Q _ => ∃ a ns k, vs = [.ref a, .int k] ∧ SqL K H a (ns.map V.int) ∧ 0 ≤ k ∧ Q (.int (cellAt ns k)) H
theorem sc_cell_at : FnScope ["_law_script", "_law_k"] ["_law_script", "_law_k"] (defScope s_cell_at) := ⟨rfl, rfl, rfl, by decide +kernel, rfl, by decide +kernel, by decide +kernel⟩
theorem ok_cell_at {f : Addr} {fd : FuncData} (B : Bt mg) (F : Fun K "_law_cell_at" "_law_cell_at" s_cell_at f fd) : FnOk P w K mg base CX0 1 f fd ["_law_script", "_law_k"] (sp_cell_at K) := by
  refine F.ok sc_cell_at (fun vs H Q E h => ?_) (fun cdv A outer s H vs Q E hr h => ?_)
  · obtain ⟨a, ns, k, rfl, _⟩ := h
    rfl
  · obtain ⟨a, ns, k, rfl, hS, hk, q⟩ := h
    refine ⟨_, (pss_cons (ps_if (pt_cmpR op_ltA (pv 1) (pe_callB c_len rfl B.len PySem.boot_len (pa_cons (pv 0) pa_nil)) (nomark _))
        (pss_one (ps_ret (pe_ix ix_seq (pv 0) (pv 1) (fun _ _ => rfl))))
        pss_nil)
      (pss_one (ps_ret pe_int))), ?_⟩
    rfl'
    refine ⟨_, .inl ⟨_, hS, rfl⟩, ite2 (fun c => ?_) (fun c => ?_)⟩
    · obtain ⟨v, h1, h2⟩ := atI_of hk c
      refine .inl ⟨_, hS, _, h1, ?_⟩
      rw [List.getElem?_map] at h2
      unfold cellAt at q
      rw [List.getD_eq_getElem?_getD] at q
      cases e : ns[k.toNat]? with
      | none => rw [e] at h2; cases h2
      | some z => rw [e] at h2 q; cases h2; exact q
    · rw [List.length_map] at c
      unfold cellAt at q
      rw [List.getD_eq_getElem?_getD, List.getElem?_eq_none (by omega)] at q
      exact q
structure TInt (K : PySem.W.Frag) : Prop where
  ii : PySem.W.kitOne K (.type "int") (.type "int") = some true
  ib : PySem.W.kitOne K (.type "int") (.type "bool") = some false
def sp_whole : Sp := fun vs H Q _ => ∃ i : Int, vs = [.int i] ∧ Q (.bl true) H
theorem use_whole {i : Int} {H : Hp} {Q : VK} {E : XK} (h : Q (.bl true) H) : sp_whole [.int i] H Q E := ⟨i, rfl, h⟩
theorem sc_whole : FnScope ["_law_found"] ["_law_found"] (defScope s_whole) := ⟨rfl, rfl, rfl, by decide +kernel, rfl, by decide +kernel, by decide +kernel⟩
theorem ok_whole {f : Addr} {fd : FuncData} (B : Bt mg) (T : TInt K) (F : Fun K "_law_whole" "_law_whole" s_whole f fd) : FnOk P w K mg base CX0 1 f fd ["_law_found"] sp_whole := by
  refine F.ok sc_whole (fun vs H Q E h => ?_) (fun cdv A outer s H vs Q E hr h => ?_)
  · obtain ⟨a, rfl, _⟩ := h
    rfl
  · obtain ⟨i, rfl, q⟩ := h
    refine ⟨_, (pss_one (ps_ret (pe_and (pe_isiB rfl B.isi (pv 0) rfl B.int PySem.Pv.boot_int) (pe_one (pe_not (pe_isiB rfl B.isi (pv 0) rfl B.bool PySem.Pv.boot_bool)))))), ?_⟩
    rfl'
    exact ⟨_, .inl (.int _), true, T.ii, iteT ⟨_, .inl (.int _), false, T.ib, q⟩⟩
theorem part_at {x x' : Nat} : ∀ {a a' b b' : List Nat}, (∀ c ∈ a, c < 58) → (∀ c ∈ a', c < 58) → 58 ≤ x → 58 ≤ x' → a ++ x :: b = a' ++ x' :: b' → a = a' ∧ x = x' ∧ b = b'
  | [], [], b, b', _, _, _, _, e => by
    simp at e
    exact ⟨rfl, e.1, e.2⟩
  | [], c :: r, b, b', _, h2, h3, _, e => by
    simp at e
    have := h2 c (by simp)
    omega
  | c :: r, [], b, b', h1, _, _, h4, e => by
    simp at e
    have := h1 c (by simp)
    omega
  | c :: r, c' :: r', b, b', h1, h2, h3, h4, e => by
    simp only [List.cons_append, List.cons.injEq] at e
    obtain ⟨p, q, t⟩ := part_at (fun z hz => h1 z (List.mem_cons_of_mem _ hz)) (fun z hz => h2 z (List.mem_cons_of_mem _ hz)) h3 h4 e.2
    exact ⟨by rw [e.1, p], q, t⟩
def d3 (s : St3) : D := .tup [.int (s.1 : Nat), .int (s.2.1 : Nat), .bl s.2.2]
theorem step_uniq {p : List Nat} {n m n' m' : Int} {f f' : Bool} (h : StepIs p n m f) (h' : StepIs p n' m' f') : n = n' ∧ m = m' ∧ f = f' := by
  obtain ⟨d1, d2, e, k1, k2, e1, e2⟩ := h
  obtain ⟨c1, c2, e', k1', k2', e1', e2'⟩ := h'
  have s58 : ∀ u : Bool, 58 ≤ (if u = true then 62 else 60 : Nat) := fun u => by cases u <;> decide
  obtain ⟨a, b, c⟩ := part_at (fun c hc => by have := (k1.2.2.2 c hc).2; omega) (fun c hc => by have := (k1'.2.2.2 c hc).2; omega) (s58 f) (s58 f') (e.symm.trans e')
  refine ⟨by rw [e1, e1', a], by rw [e2, e2', c], ?_⟩
  cases f <;> cases f' <;> simp_all
theorem val_snoc (a : List Nat) (c : Nat) : NumText.digitsVal (a ++ [c]) = NumText.digitsVal a * 10 + (c - 48) := by
  simp [NumText.digitsVal]
theorem dec_snoc {m c : Nat} (hm : 1 ≤ m) (h1 : 48 ≤ c) (h2 : c ≤ 57) : dec (m * 10 + (c - 48)) = dec m ++ [c] := by
  rw [dec_big (by omega), show (m * 10 + (c - 48)) / 10 = m by omega, show 48 + (m * 10 + (c - 48)) % 10 = c by omega]
theorem val_pos : ∀ {d : List Nat}, d ≠ [] → d[0]? ≠ some 48 → (∀ c ∈ d, 48 ≤ c ∧ c ≤ 57) → 1 ≤ NumText.digitsVal d := by
  intro d
  induction h : d.length generalizing d with
  | zero => intro hn; exact absurd (List.eq_nil_of_length_eq_zero h) hn
  | succ n ih =>
    intro hn h0 hc
    obtain ⟨e, c, rfl⟩ : ∃ e c, d = e ++ [c] := ⟨d.dropLast, d.getLast hn, (List.dropLast_concat_getLast hn).symm⟩
    rw [val_snoc]
    by_cases he : e = []
    · subst he
      have := hc c (by simp)
      have : c ≠ 48 := fun z => h0 (by rw [z]; rfl)
      omega
    · have hl : e.length = n := by simpa using h
      have := ih hl he (fun z => h0 (by rw [List.getElem?_append_left (by rw [hl]; have := (List.length_pos_iff.mpr he); omega)]; exact z)) fun c hc' => hc c (List.mem_append_left _ hc')
      omega
theorem dec_back {d : List Nat} (h : Dec d) : dec (NumText.digitsVal d) = d := by
  obtain ⟨h1, _, h0, hc⟩ := h
  have key : ∀ (n : Nat) (d : List Nat), d.length = n → d ≠ [] → (d[0]? = some 48 → d = [48]) → (∀ c ∈ d, 48 ≤ c ∧ c ≤ 57) → dec (NumText.digitsVal d) = d := by
    intro n
    induction n with
    | zero => intro d h hn; exact absurd (List.eq_nil_of_length_eq_zero h) hn
    | succ n ih =>
      intro d h hn h0 hc
      obtain ⟨e, c, rfl⟩ : ∃ e c, d = e ++ [c] := ⟨d.dropLast, d.getLast hn, (List.dropLast_concat_getLast hn).symm⟩
      have hcc := hc c (by simp)
      rw [val_snoc]
      by_cases he : e = []
      · subst he
        have : NumText.digitsVal [] * 10 + (c - 48) = c - 48 := by simp [NumText.digitsVal]
        rw [this, dec_small (by omega), show 48 + (c - 48) = c by omega]
        rfl
      · have hl : e.length = n := by simpa using h
        have hp := (List.length_pos_iff.mpr he)
        have ne : e[0]? ≠ some 48 := fun z => by
          have := h0 (by rw [List.getElem?_append_left hp]; exact z)
          have := congrArg List.length this
          simp at this
          exact he this
        have hc' : ∀ c ∈ e, 48 ≤ c ∧ c ≤ 57 := fun c hc' => hc c (List.mem_append_left _ hc')
        rw [dec_snoc (val_pos he ne hc') hcc.1 hcc.2, ih e hl he (fun z => absurd z ne) hc']
  exact key _ d rfl (fun z => by rw [z] at h1; exact absurd h1 (by decide)) h0 hc
theorem splitL_app2 (c : Nat) : ∀ a b : List Nat, splitL c (a ++ c :: b) = splitL c a ++ splitL c b
  | [], b => by simp [splitL]
  | x :: r, b => by
    have ih := splitL_app2 c r b
    have hne := (join_splitL c r).2.1
    simp only [List.cons_append, splitL]
    split
    · rw [ih]; rfl
    · rw [ih]
      cases h : splitL c r with
      | nil => exact absurd h hne
      | cons p ps => rfl
theorem splitL_snoc {c s : Nat} (hs : s ≠ c) : ∀ {l : List Nat} {done : List (List Nat)} {part : List Nat}, splitL c l = done ++ [part] → splitL c (l ++ [s]) = done ++ [part ++ [s]]
  | [], done, part, e => by
    have e' : [[]] = done ++ [part] := e
    match done, e' with
    | [], e' =>
      simp at e'
      subst e'
      simp [splitL, hs]
    | x :: r, e' => simp at e'
  | x :: r, done, part, e => by
    have hne := (join_splitL c r).2.1
    simp only [List.cons_append, splitL] at e ⊢
    by_cases hx : x = c
    · rw [if_pos hx] at e ⊢
      match done, e with
      | [], e => simp at e; exact absurd e.2 hne
      | y :: d', e =>
        simp only [List.cons_append, List.cons.injEq] at e
        rw [splitL_snoc hs e.2, ← e.1]
        rfl
    · rw [if_neg hx] at e ⊢
      cases h : splitL c r with
      | nil => exact absurd h hne
      | cons p ps =>
        rw [h] at e
        simp only at e
        match done, e with
        | [], e =>
          simp at e
          rw [splitL_snoc hs (done := []) (part := p) (by rw [h, e.2]; rfl), ← e.1]
          rfl
        | y :: d', e =>
          simp only [List.cons_append, List.cons.injEq] at e
          rw [splitL_snoc hs (done := p :: d') (part := part) (by rw [h, e.2]; rfl), ← e.1]
          rfl
def OkS (l : List Nat) (ss : List St3) : Prop := (l = [46] ∧ ss = []) ∨ (l ≠ [46] ∧ PsOk l ss)
def BadS (l : List Nat) : Prop := l ≠ [46] ∧ ∃ y ∈ splitL 32 l, ∀ n m f, ¬ StepIs y n m f
theorem okS_bad {l : List Nat} {ss : List St3} (h : OkS l ss) (h' : BadS l) : False := by
  obtain ⟨ne, y, hy, hn⟩ := h'
  rcases h with ⟨e, _⟩ | ⟨_, h⟩
  · exact ne e
  · obtain ⟨i, hi, e⟩ := List.mem_iff_getElem.mp hy
    obtain ⟨n, m, f, _, hs⟩ := h.2 i y (by rw [List.getElem?_eq_getElem hi, e])
    exact hn _ _ _ hs
theorem psok_uniq {l : List Nat} {ss ss' : List St3} (h : PsOk l ss) (h' : PsOk l ss') : ss = ss' := by
  apply List.ext_getElem? 
  intro i
  by_cases hi : i < (splitL 32 l).length
  · obtain ⟨n, m, f, e, s⟩ := h.2 i _ (List.getElem?_eq_getElem hi)
    obtain ⟨n', m', f', e', s'⟩ := h'.2 i _ (List.getElem?_eq_getElem hi)
    obtain ⟨a, b, c⟩ := step_uniq s s'
    rw [e, e', show n = n' by omega, show m = m' by omega, c]
  · have := h.1
    have := h'.1
    rw [List.getElem?_eq_none (by omega), List.getElem?_eq_none (by omega)]
theorem okS_uniq {l : List Nat} {ss ss' : List St3} (h : OkS l ss) (h' : OkS l ss') : ss = ss' := by
  rcases h with ⟨e, rfl⟩ | ⟨e, h⟩ <;> rcases h' with ⟨e', rfl⟩ | ⟨e', h'⟩
  · rfl
  · exact absurd e e'
  · exact absurd e' e
  · exact psok_uniq h h'
theorem step_sh {y : List Nat} {n m : Nat} {f : Bool} (h : StepIs y (n : Nat) (m : Nat) f) : sh3 (n, m, f) = y := by
  obtain ⟨d1, d2, e, k1, k2, e1, e2⟩ := h
  have a : n = NumText.digitsVal d1 := by omega
  have b : m = NumText.digitsVal d2 := by omega
  show dec n ++ [if f = true then 62 else 60] ++ dec m = y
  rw [a, b, dec_back k1, dec_back k2, e]
  simp
theorem okS_shown {l : List Nat} {ss : List St3} (h : OkS l ss) : shSs ss = l := by
  rcases h with ⟨e, rfl⟩ | ⟨e, h⟩
  · rw [e]; rfl
  · have hne := (join_splitL 32 l).2.1
    have : ss ≠ [] := fun z => by
      have := h.1
      rw [z] at this
      exact hne (List.eq_nil_of_length_eq_zero this)
    unfold shSs
    rw [if_neg this]
    have : ss.map sh3 = splitL 32 l := by
      apply List.ext_getElem?
      intro i
      by_cases hi : i < (splitL 32 l).length
      · obtain ⟨n, m, f, e, s⟩ := h.2 i _ (List.getElem?_eq_getElem hi)
        rw [List.getElem?_map, e, List.getElem?_eq_getElem hi]
        exact congrArg some (step_sh s)
      · have := h.1
        rw [List.getElem?_eq_none (by rw [List.length_map]; omega), List.getElem?_eq_none (by omega)]
    rw [this]
    exact (join_splitL 32 l).1
theorem split_last {c : Nat} {a b l : List Nat} {done : List (List Nat)} {part : List Nat} (e : splitL c a = done ++ [part]) (h : a ++ c :: b = l ++ [c]) : part ∈ splitL c l := by
  have h1 := splitL_app2 c a b
  rw [h] at h1
  have h2 := splitL_app2 c l []
  rw [h1, e] at h2
  have hb := (join_splitL c b).2.1
  have h3 : splitL c l ++ [[]] = done ++ [part] ++ ((splitL c b).dropLast ++ [(splitL c b).getLast hb]) := by
    rw [List.dropLast_concat_getLast hb]
    exact h2.symm
  rw [← List.append_assoc] at h3
  have h4 := List.append_inj_left' h3 rfl
  rw [h4]
  simp
theorem at_c (l : List Nat) (c e : Nat) : StrLaws.At (tx l) (tx [c]) (tx l).length e ↔ l[e]? = some c := by
  unfold StrLaws.At Builtin.Str.subAt
  rw [len_tx, len_tx]
  have h1 : [c].length = 1 := rfl
  rw [h1, beq_iff_eq]
  have e1 : ((tx l).cps.extract e (e + 1)).toList = (l.drop e).take 1 := by
    show (l.toArray.extract e (e + 1)).toList = _
    simp [List.extract_eq_drop_take]
  have e2 : ((tx l).cps.extract e (e + 1) = (tx [c]).cps) ↔ (l.drop e).take 1 = [c] := by
    constructor
    · intro h
      rw [← e1, h]
    · intro h
      apply Array.toList_inj.mp
      rw [e1, h]
  constructor
  · rintro ⟨h2, h3⟩
    have := e2.mp h3
    rw [List.drop_eq_getElem_cons (by omega), List.take_succ_cons, List.take_zero] at this
    rw [List.getElem?_eq_getElem (by omega)]
    injection this with h _
    rw [h]
  · intro h
    obtain ⟨he, hx⟩ := List.getElem?_eq_some_iff.mp h
    refine ⟨by omega, e2.mpr ?_⟩
    rw [List.drop_eq_getElem_cons he, List.take_succ_cons, List.take_zero, hx]
theorem find_c {l : List Nat} {c : Nat} (h : c ∈ l) : Txt.find (tx l) (tx [c]) = ((l.idxOf c : Nat) : Int) := by
  have hlt := List.idxOf_lt_length_of_mem h
  have hg : l[l.idxOf c]? = some c := by rw [List.getElem?_eq_getElem hlt, List.getElem_idxOf]
  rcases PyProof.Rows.find_whole (tx l) (tx [c]) with ⟨h1, h2⟩ | ⟨e, h1, h2, h3⟩
  · exact absurd ((at_c l c _).mpr hg) (h2 _)
  · have he := (at_c l c e).mp h2
    have : e = l.idxOf c := by
      rcases Nat.lt_trichotomy e (l.idxOf c) with q | q | q
      · have := List.not_of_lt_findIdx (p := (· == c)) q
        obtain ⟨h4, h5⟩ := List.getElem?_eq_some_iff.mp he
        simp [h5] at this
      · exact q
      · exact absurd ((at_c l c _).mpr hg) (h3 _ q)
    rw [h1, this]
theorem find_no {l : List Nat} {c : Nat} (h : c ∉ l) : Txt.find (tx l) (tx [c]) = -1 := by
  rcases PyProof.Rows.find_whole (tx l) (tx [c]) with ⟨h1, h2⟩ | ⟨e, h1, h2, h3⟩
  · exact h1
  · exact absurd (List.mem_of_getElem? ((at_c l c e).mp h2)) h
theorem find_fig {c : Nat} (h : 48 ≤ c ∧ c ≤ 57) : Txt.find (tx figs) (tx [c]) = ((c - 48 : Nat) : Int) := by
  rw [find_c ((figs_iff c).mpr h)]
  have : ∀ c : Fin 10, figs.idxOf (48 + c.val) = c.val := by decide
  have e := this ⟨c - 48, by omega⟩
  simp only at e
  rw [show 48 + (c - 48) = c by omega] at e
  rw [e]
theorem dec_lt2 {d : List Nat} (hc : ∀ c ∈ d, 48 ≤ c ∧ c ≤ 57) (h4 : d.length ≤ 4) : NumText.digitsVal d < 10000 := by
  match d, h4, hc with
  | [], _, _ => decide
  | [a], _, hc =>
    have := hc a (by simp)
    simp only [NumText.digitsVal, List.foldl]
    omega
  | [a, b], _, hc =>
    have := hc a (by simp)
    have := hc b (by simp)
    simp only [NumText.digitsVal, List.foldl]
    omega
  | [a, b, c], _, hc =>
    have := hc a (by simp)
    have := hc b (by simp)
    have := hc c (by simp)
    simp only [NumText.digitsVal, List.foldl]
    omega
  | [a, b, c, e], _, hc =>
    have := hc a (by simp)
    have := hc b (by simp)
    have := hc c (by simp)
    have := hc e (by simp)
    simp only [NumText.digitsVal, List.foldl]
    omega
  | _ :: _ :: _ :: _ :: _ :: _, h4, _ => exact absurd h4 (by simp)
def numI (d : List Nat) : Int := if Dec d then ((NumText.digitsVal d : Nat) : Int) else -1
def sp_number : Sp := fun vs H Q _ => ∃ d : List Nat, vs = [.str (tx d)] ∧ d.length ≤ 1000 ∧ Q (.int (numI d)) H
theorem use_number {d : List Nat} {H : Hp} {Q : VK} {E : XK} (hd : d.length ≤ 1000) (h : Q (.int (numI d)) H) : sp_number [.str (tx d)] H Q E := ⟨d, rfl, hd, h⟩
theorem sc_number : FnScope ["_law_figures", "_law_number_here", "_law_sign", "_law_at"] ["_law_figures"] (defScope s_number) := ⟨rfl, rfl, rfl, by decide +kernel, rfl, by decide +kernel, by decide +kernel⟩
theorem ok_number {f : Addr} {fd : FuncData} (B : Bt mg) (F : Fun K "_law_number" "_law_number" s_number f fd) : FnOk P w K mg base CX0 1 f fd ["_law_figures"] sp_number := by
  refine F.ok sc_number (fun vs H Q E h => ?_) (fun cdv A outer s H vs Q E hr h => ?_)
  · obtain ⟨a, rfl, _⟩ := h
    rfl
  · obtain ⟨d, rfl, hd, q⟩ := h
    refine ⟨_, (pss_cons (ps_if (PW.pt (pw_or (pt_cmpR op_ltA (pe_callB c_len rfl B.len PySem.boot_len (pa_cons (pv 0) pa_nil)) pe_int (nomark _)) (pw_or (pt_cmpR op_gtA (pe_callB c_len rfl B.len PySem.boot_len (pa_cons (pv 0) pa_nil)) pe_int (nomark _)) (pw_or1 (PW.pt (pw_and (pt_cmpR op_gtA (pe_callB c_len rfl B.len PySem.boot_len (pa_cons (pv 0) pa_nil)) pe_int (nomark _)) (pw_and1 (pt_cmpR op_eq (pe_ix ix_seq (pv 0) pe_int (fun _ _ => rfl)) pe_str (nomark _)))))))))
        (pss_one (ps_ret (pe_un un_neg pe_int)))
        pss_nil)
      (pss_cons (ps_set (i := 1) sc_number.nd rfl (Or.inl rfl) pe_int)
      (pss_cons (ps_for PassesOwn.never rfl (pi_str (pv 0)) (pg_name (i := 2) sc_number.nd rfl (Or.inl rfl))
        (pss_cons (ps_set (i := 3) sc_number.nd rfl (Or.inl rfl) (pe_bm PySem.F.plainAttrs_str PySem.F.slot_str_find PySem.F.type_str_find m_find pe_str (pa_cons (pv 2) pa_nil)))
        (pss_cons (ps_if (pt_cmpR op_ltA (pv 3) pe_int (nomark _))
          (pss_one (ps_ret (pe_un un_neg pe_int)))
          pss_nil)
        (pss_one (ps_set (i := 1) sc_number.nd rfl (Or.inl rfl) (pe_op op_addA (pe_op op_mulA pe_int (pv 1)) (pv 3)))))))
      (pss_one (ps_ret (pv 1)))))), ?_⟩
    have s16 := sl16
    have e48 : (("0" : Str)) = tx [48] := rfl
    simp only [figs_txt, e48]
    rfl'
    have no : ¬ Dec d → Q (.int (-1)) H := fun h => by
      unfold numI at q
      rw [if_neg h] at q
      exact q
    have tail : ∀ (D : Ends), D.rt = Q → D.nx = tRet (tVar 1) { nx := fun x H' => Q V.non H', rt := Q } → 1 ≤ d.length → d.length ≤ 4 → (d[0]? = some 48 → d = [48]) → ForS (tx d) (gName 2)
                        (tSeq (tAsg (tBM K "str" rFind (tC (V.str (tx figs))) (tCons (tVar 2) tNil)) (gName 3))
                          (tSeq
                            (tIfS (tTest (tOp rLtA (tVar 3) (tC (V.int 0))))
                              (tRet (tUn (rU fun i => V.int (-i)) (tC (V.int 1)))) tNext)
                            (tAsg (tOp rAddA (tOp rMulA (tC (V.int 10)) (tVar 1)) (tVar 3)) (gName 1))))
                        D [some (V.str (tx d)), some (V.int 0), none, none] H := fun D hrt hnx h1 h4 h0 => by
      refine ForS.by (fun i σ H' => H' = H ∧ (∀ c ∈ d.take i, 48 ≤ c ∧ c ≤ 57) ∧ ∃ v2 v3, σ = [some (.str (tx d)), some (.int (NumText.digitsVal (d.take i) : Nat)), v2, v3]) ⟨rfl, by simp, none, none, rfl⟩ ?_ ?_
      · rintro i c σ H' hc ⟨rfl, hf, v2, v3, rfl⟩
        simp only [gName]
        rfl'
        by_cases hcf : 48 ≤ c ∧ c ≤ 57
        · rw [find_fig hcf]
          have hlt := dec_lt2 hf (by rw [List.length_take]; omega)
          refine ite2 (fun h => absurd h (by omega)) fun _ => ⟨.inr (by omega), ?_, ?_⟩
          · rw [take_one hc]
            intro x hx
            rcases List.mem_append.mp hx with z | z
            · exact hf x z
            · rw [List.mem_singleton.mp z]; exact hcf
          · rw [take_one hc, val_snoc]
            push_cast
            omega
        · rw [find_no fun z => hcf ((figs_iff c).mp z), hrt]
          exact ite2 (fun _ => no fun z => hcf (z.2.2.2 c (List.mem_of_getElem? hc))) fun h => absurd (by decide) h
      · rintro σ H' ⟨rfl, hf, v2, v3, rfl⟩
        rw [List.take_length] at hf ⊢
        rw [hnx]
        rfl'
        unfold numI at q
        rw [if_pos ⟨h1, h4, h0, hf⟩] at q
        exact q
    refine ⟨by omega, ite2 (fun h => no fun z => by have := z.1; omega) fun h1 => ⟨by omega, ite2 (fun h => no fun z => by have := z.2.1; omega) fun h4 => ⟨by omega, ite2 (fun h2 => ⟨by omega, ?_⟩) fun h2 => tail _ rfl rfl (by omega) (by omega) fun e => ?_⟩⟩⟩
    · obtain ⟨v, e1, e2⟩ := atI_of (xs := d) (i := 0) (by decide) (by omega)
      have e2' : d[0]? = some v := e2
      refine ⟨v, e1, ite2 (fun hv => no fun z => ?_) fun hv => tail _ rfl rfl (by omega) (by omega) fun z => ?_⟩
      · have := z.2.2.1 (by rw [e2', hv])
        rw [this] at h2
        exact absurd h2 (by decide)
      · rw [e2'] at z
        exact absurd (Option.some.inj z) hv
    · match d, h1, h2, e with
      | [a], _, _, e => simpa using e
      | [], h1, _, _ => exact absurd h1 (by decide)
      | a :: b :: r, _, h2, _ => exfalso; simp at h2; omega
theorem first_at {x x' : Nat} : ∀ {a a' b b' : List Nat}, (∀ c ∈ a, c ≠ 60 ∧ c ≠ 62) → (∀ c ∈ a', c ≠ 60 ∧ c ≠ 62) → (x = 60 ∨ x = 62) → (x' = 60 ∨ x' = 62) → a ++ x :: b = a' ++ x' :: b' → a = a' ∧ x = x' ∧ b = b'
  | [], [], b, b', _, _, _, _, e => by
    simp at e
    exact ⟨rfl, e.1, e.2⟩
  | [], c :: r, b, b', _, h2, h3, _, e => by
    simp at e
    have := h2 c (by simp)
    omega
  | c :: r, [], b, b', h1, _, _, h4, e => by
    simp at e
    have := h1 c (by simp)
    omega
  | c :: r, c' :: r', b, b', h1, h2, h3, h4, e => by
    simp only [List.cons_append, List.cons.injEq] at e
    obtain ⟨p, q, t⟩ := first_at (fun z hz => h1 z (List.mem_cons_of_mem _ hz)) (fun z hz => h2 z (List.mem_cons_of_mem _ hz)) h3 h4 e.2
    exact ⟨by rw [e.1, p], q, t⟩
def sp_step7 : Sp := fun vs H Q _ => ∃ p : List Nat, vs = [.str (tx p)] ∧ p.length ≤ 1000 ∧ (∀ n m f, StepIs p n m f → ∀ t H', Same H H' → H' t = some (.tup [.int n, .int m, .bl f]) → Q (.ref t) H') ∧ ((∀ n m f, ¬ StepIs p n m f) → Q .non H)
theorem use_step7 {p : List Nat} {H : Hp} {Q : VK} {E : XK} (hp : p.length ≤ 1000) (h1 : ∀ n m f, StepIs p n m f → ∀ t H', Same H H' → H' t = some (.tup [.int n, .int m, .bl f]) → Q (.ref t) H') (h2 : (∀ n m f, ¬ StepIs p n m f) → Q .non H) : sp_step7 [.str (tx p)] H Q E := ⟨p, rfl, hp, h1, h2⟩
theorem sc_step : FnScope ["_law_text_here", "_law_k", "_law_number_here", "_law_place"] ["_law_text_here"] (defScope s_step) := ⟨rfl, rfl, rfl, by decide +kernel, rfl, by decide +kernel, by decide +kernel⟩
theorem ok_step7 {f : Addr} {fd : FuncData} (B : Bt mg) (F : Fun K "_law_step" "_law_step" s_step f fd) (D_number : Df P w K mg base CX0 1 "_law_number" ["_law_figures"] [] sp_number) : FnOk P w K mg base CX0 2 f fd ["_law_text_here"] sp_step7 := by
  refine F.ok sc_step (fun vs H Q E h => ?_) (fun cdv A outer s H vs Q E hr h => ?_)
  · obtain ⟨a, rfl, _⟩ := h
    rfl
  · obtain ⟨p, rfl, hp, q1, q2⟩ := h
    refine ⟨_, (pss_cons (ps_for PassesOwn.never rfl (pi_range1 rfl B.range (pa_cons (pe_callB c_len rfl B.len PySem.boot_len (pa_cons (pv 0) pa_nil)) pa_nil)) (pg_name (i := 1) sc_step.nd rfl (Or.inl rfl))
        (pss_one (ps_if (PW.pt (pw_or (pt_cmpR op_eq (pe_ix ix_seq (pv 0) (pv 1) (fun _ _ => rfl)) pe_str (nomark _)) (pw_or1 (pt_cmpR op_eq (pe_ix ix_seq (pv 0) (pv 1) (fun _ _ => rfl)) pe_str (nomark _)))))
          (pss_cons (ps_set (i := 2) sc_step.nd rfl (Or.inl rfl) (cl0 D_number hr .nil rfl (pa_cons (pe_slice sl_any (pv 0) po_none (po_some (pv 1))) pa_nil)))
          (pss_cons (ps_set (i := 3) sc_step.nd rfl (Or.inl rfl) (cl0 D_number hr .nil rfl (pa_cons (pe_slice sl_any (pv 0) (po_some (pe_op op_addA (pv 1) pe_int)) po_none) pa_nil)))
          (pss_cons (ps_if (PW.pt (pw_or (pt_cmpR op_ltA (pv 2) pe_int (nomark _)) (pw_or1 (pt_cmpR op_ltA (pv 3) pe_int (nomark _)))))
            (pss_one (ps_ret pe_non))
            pss_nil)
          (pss_one (ps_ret (pe_tup (pa_cons (pv 2) (pa_cons (pv 3) (pa_cons (pe_cmpR op_eq (pe_ix ix_seq (pv 0) (pv 1) (fun _ _ => rfl)) pe_str (nomark _)) pa_nil)))))))))
          pss_nil)))
      (pss_one (ps_ret pe_non))), ?_⟩
    have s16 := sl16
    have e62 : ((">" : Str)) = tx [62] := rfl
    have e60 : (("<" : Str)) = tx [60] := rfl
    simp only [e62, e60]
    rfl'
    refine ⟨by omega, by omega, by omega, ?_⟩
    rw [show ((p.length : Nat) : Int).toNat = p.length from rfl]
    refine ForR.by (fun i σ H' => H' = H ∧ (∀ c ∈ p.take i, c ≠ 60 ∧ c ≠ 62) ∧ ∃ v1 v2 v3, σ = [some (.str (tx p)), v1, v2, v3]) ?_ ?_ ?_
    · exact ⟨rfl, by simp, none, none, none, rfl⟩
    · rintro i σ H' hl ⟨rfl, hf, v1, v2, v3, rfl⟩
      simp only [gName]
      rfl'
      obtain ⟨c, e1, e2⟩ := atI_of (xs := p) (i := 0 + (i : Int)) (by omega) (by omega)
      have e2' : p[i]? = some c := by rw [← e2]; congr 1; omega
      have ep : p = p.take i ++ c :: p.drop (i + 1) := by
        obtain ⟨hi, hx⟩ := List.getElem?_eq_some_iff.mp e2'
        rw [← hx, List.getElem_cons_drop, List.take_append_drop]
      have c1 : cut p none (some (0 + (i : Int))) = p.take i := by rw [Int.zero_add, cut_to _ (by omega)]; rfl
      have c2 : cut p (some (0 + (i : Int) + 1)) none = p.drop (i + 1) := by rw [Int.zero_add, cut_from _ (by omega)]; congr 1
      have un : (c = 60 ∨ c = 62) → ∀ n m f, StepIs p n m f → Dec (p.take i) ∧ Dec (p.drop (i + 1)) := fun hc n m f hst => by
        obtain ⟨d1, d2, e, k1, k2, _, _⟩ := hst
        have hx : ∀ f : Bool, (if f = true then 62 else 60 : Nat) = 60 ∨ (if f = true then 62 else 60 : Nat) = 62 := fun f => by cases f <;> simp
        obtain ⟨a, _, b⟩ := first_at (a := p.take i) (a' := d1) (fun c hc => hf c hc) (fun c hc => ⟨fun z => by have := (k1.2.2.2 c hc).2; omega, fun z => by have := (k1.2.2.2 c hc).2; omega⟩) hc (hx f) (ep.symm.trans e)
        rw [a, b]
        exact ⟨k1, k2⟩
      have core : (c = 60 ∨ c = 62) → ∀ x y : Int, x = numI (p.take i) → y = numI (p.drop (i + 1)) → if x < 0 then Q V.non H' else if y < 0 then Q V.non H' else ∀ (a : Addr), H' a = none → Q (V.ref a) (upd H' a (HO.tup [V.int x, V.int y, V.bl (decide (c = 62))])) := fun hc x y hx hy => by
        subst hx hy
        by_cases d1 : Dec (p.take i)
        · by_cases d2 : Dec (p.drop (i + 1))
          · have n1 : numI (p.take i) = (NumText.digitsVal (p.take i) : Nat) := if_pos d1
            have n2 : numI (p.drop (i + 1)) = (NumText.digitsVal (p.drop (i + 1)) : Nat) := if_pos d2
            rw [n1, n2]
            refine ite2 (fun h => absurd h (by omega)) fun _ => ite2 (fun h => absurd h (by omega)) fun _ a ha => q1 _ _ _ ⟨_, _, ?_, d1, d2, rfl, rfl⟩ a _ (same_upd ha) upd_same
            have : (if decide (c = 62) = true then 62 else 60) = c := by rcases hc with z | z <;> subst z <;> rfl
            rw [this]
            exact ep
          · have n2 : numI (p.drop (i + 1)) = -1 := if_neg d2
            have := q2 fun n m f h => d2 (un hc n m f h).2
            rw [n2]
            exact ite2 (fun _ => this) fun _ => ite2 (fun _ => this) fun h => absurd (by decide) h
        · have n1 : numI (p.take i) = -1 := if_neg d1
          have := q2 fun n m f h => d1 (un hc n m f h).1
          rw [n1]
          exact ite2 (fun _ => this) fun h => absurd (by decide) h
      have l1 : (p.take i).length ≤ 1000 := by rw [List.length_take]; omega
      have l2 : (p.drop (i + 1)).length ≤ 1000 := by rw [List.length_drop]; omega
      rw [c1, c2]
      have fin : (c = 60 ∨ c = 62) → p.length ≤ sizeLine ∧ sp_number [V.str (tx (p.take i))] H' (fun x H1 => p.length ≤ sizeLine ∧ sp_number [V.str (tx (p.drop (i + 1)))] H1 (fun x_1 H1 => ∃ i_1, x = V.int i_1 ∧ if i_1 < 0 then Q V.non H1 else ∃ i_2, x_1 = V.int i_2 ∧ if i_2 < 0 then Q V.non H1 else p.length ≤ sizeLine ∧ ∃ x_2, atI p (0 + (i : Int)) = some x_2 ∧ 3 ≤ sizeLine ∧ ∀ (p : Addr), H1 p = none → Q (V.ref p) (upd H1 p (HO.tup [x, x_1, V.bl (decide (x_2 = 62))]))) E0) E0 := fun hc => by
        refine ⟨by omega, use_number l1 ⟨by omega, use_number l2 ⟨_, rfl, ?_⟩⟩⟩
        have := core hc _ _ rfl rfl
        by_cases z1 : numI (p.take i) < 0
        · rw [if_pos z1] at this ⊢
          exact this
        · rw [if_neg z1] at this ⊢
          refine ⟨_, rfl, ?_⟩
          by_cases z2 : numI (p.drop (i + 1)) < 0
          · rw [if_pos z2] at this ⊢
            exact this
          · rw [if_neg z2] at this ⊢
            exact ⟨by omega, c, e1, by omega, this⟩
      refine ⟨by omega, c, e1, ite2 (fun h => fin (.inl h)) fun h => ⟨by omega, c, e1, ite2 (fun h => fin (.inr h)) fun h' => ?_⟩⟩
      rw [take_one e2']
      intro x hx
      rcases List.mem_append.mp hx with z | z
      · exact hf x z
      · rw [List.mem_singleton.mp z]; exact ⟨h, h'⟩
    · rintro σ H' ⟨rfl, hf, v1, v2, v3, rfl⟩
      rfl'
      rw [List.take_length] at hf
      refine q2 fun n m f hst => ?_
      obtain ⟨d1, d2, e, k1, k2, _, _⟩ := hst
      have := hf (if f = true then 62 else 60) (by rw [e]; simp)
      cases f
      · exact this.1 rfl
      · exact this.2 rfl
def DuI (H : Hp) (D : Addr) (l : List Nat) (i : Nat) (σ : L2.St) (H' : Hp) : Prop := ∃ (done : List (List Nat)) (part : List Nat) (ss : List St3) (xs : List V) (v3 v4 : Option V), splitL 32 ((l ++ [32]).take i) = done ++ [part] ∧ done.length = ss.length ∧ (∀ (j : Nat) (y : List Nat), done[j]? = some y → ∃ n m f, ss[j]? = some (n, m, f) ∧ StepIs y (n : Nat) (m : Nat) f) ∧ StA H' xs ss ∧ Same H H' ∧ H' D = some (.lst xs) ∧ σ = [some (V.str (tx l)), some (V.ref D), some (V.str (tx part)), v3, v4]
def sp_due7 : Sp := fun vs H Q _ => ∃ l : List Nat, vs = [.str (tx l)] ∧ l.length ≤ 900 ∧ (∀ D xs ss H', H D = none → OkS l ss → Same H H' → H' D = some (.lst xs) → StA H' xs ss → Q (.ref D) H') ∧ (BadS l → ∀ H', Same H H' → Q .non H')
theorem use_due7 {l : List Nat} {H : Hp} {Q : VK} {E : XK} (hl : l.length ≤ 900) (h1 : ∀ D xs ss H', H D = none → OkS l ss → Same H H' → H' D = some (.lst xs) → StA H' xs ss → Q (.ref D) H') (h2 : BadS l → ∀ H', Same H H' → Q .non H') : sp_due7 [.str (tx l)] H Q E := ⟨l, rfl, hl, h1, h2⟩
theorem sc_due : FnScope ["_law_text_here", "_law_steps", "_law_part", "_law_sign", "_law_step_here"] ["_law_text_here"] (defScope s_due) := ⟨rfl, rfl, rfl, by decide +kernel, rfl, by decide +kernel, by decide +kernel⟩
theorem ok_due7 {f : Addr} {fd : FuncData} (B : Bt mg) (F : Fun K "_law_due" "_law_due" s_due f fd) (D_step : Df P w K mg base CX0 2 "_law_step" ["_law_text_here"] [] sp_step7) : FnOk P w K mg base CX0 3 f fd ["_law_text_here"] sp_due7 := by
  refine F.ok sc_due (fun vs H Q E h => ?_) (fun cdv A outer s H vs Q E hr h => ?_)
  · obtain ⟨a, rfl, _⟩ := h
    rfl
  · obtain ⟨l, rfl, hl, q1, q2⟩ := h
    refine ⟨_, (pss_cons (ps_set (i := 1) sc_due.nd rfl (Or.inl rfl) (pe_lst pa_nil))
      (pss_cons (ps_if (pt_cmpR op_eq (pv 0) pe_str (nomark _))
        (pss_one (ps_ret (pv 1)))
        pss_nil)
      (pss_cons (ps_set (i := 2) sc_due.nd rfl (Or.inl rfl) pe_str)
      (pss_cons (ps_for PassesOwn.never rfl (pi_str (pe_op op_addA (pv 0) pe_str)) (pg_name (i := 3) sc_due.nd rfl (Or.inl rfl))
        (pss_one (ps_if (pt_cmpR op_ne (pv 3) pe_str (nomark _))
          (pss_one (ps_set (i := 2) sc_due.nd rfl (Or.inl rfl) (pe_op op_addA (pv 2) (pv 3))))
          (pss_cons (ps_set (i := 4) sc_due.nd rfl (Or.inl rfl) (cl0 D_step hr .nil rfl (pa_cons (pv 2) pa_nil)))
          (pss_cons (ps_if (pt_cmpR op_isN' (pv 4) pe_non (nomark _))
            (pss_one (ps_ret pe_non))
            pss_nil)
          (pss_cons (ps_expr (pe_bm PySem.F.plainAttrs_list PySem.F.slot_list_append PySem.F.type_list_append mt_append (pv 1) (pa_cons (pv 4) pa_nil)))
          (pss_one (ps_set (i := 2) sc_due.nd rfl (Or.inl rfl) pe_str))))))))
      (pss_one (ps_ret (pv 1))))))), ?_⟩
    have s16 := sl16
    have e46 : (("." : Str)) = tx [46] := rfl
    have e32 : ((" " : Str)) = tx [32] := rfl
    have e0 : (("" : Str)) = tx [] := rfl
    simp only [e46, e32, e0]
    rfl'
    refine ⟨by omega, fun D hD => ite2 (fun h => ?_) fun h => ?_⟩
    · exact q1 D [] [] _ hD (.inl ⟨h, rfl⟩) (same_upd hD) upd_same ⟨rfl, fun i x hx => by simp at hx⟩
    refine ⟨by omega, ForS.by (DuI H D l) ⟨[], [], [], [], none, none, rfl, rfl, fun j y hy => by simp at hy, ⟨rfl, fun i x hx => by simp at hx⟩, same_upd hD, upd_same, rfl⟩ ?_ ?_⟩
    · rintro i c σ H' hc ⟨done, part, ss, xs, v3, v4, e, hlen, hps, hst, hs, hH, rfl⟩
      have hi := (List.getElem?_eq_some_iff.mp hc).1
      rw [List.length_append] at hi
      simp only [List.length_cons, List.length_nil] at hi
      have hpl : part.length ≤ i := by
        have := splitL_piece (c := 32) (l := (l ++ [32]).take i) (y := part) (by rw [e]; simp)
        rw [List.length_take] at this
        omega
      have hdl : done.length ≤ i := by
        have := splitL_len 32 ((l ++ [32]).take i)
        rw [e, List.length_append, List.length_take] at this
        simp only [List.length_cons, List.length_nil] at this
        omega
      simp only [gName]
      rfl'
      have ht : (l ++ [32]).take (i + 1) = (l ++ [32]).take i ++ [c] := take_one hc
      refine ite2 (fun hne => ⟨by omega, ⟨done, part ++ [c], ss, xs, _, _, by rw [ht]; exact splitL_snoc hne e, hlen, hps, hst, hs, hH, rfl⟩⟩) fun he => ?_
      have he : c = 32 := Classical.not_not.mp he
      subst he
      refine use_step7 (by omega) (fun n m f hst2 t H2 h2 ht2 => ?_) fun hno => ?_
      · have hD2 := h2 _ _ hH
        obtain ⟨d1, d2, e1, k1, k2, rfl, rfl⟩ := id hst2
        refine ite2 (fun z => nomatch z) fun _ => ⟨.inl ⟨_, SqL.of hD2⟩, xs, hD2, by have := hst.1; omega, done ++ [part], [], ss ++ [(NumText.digitsVal d1, NumText.digitsVal d2, f)], xs ++ [V.ref t], _, _, ?_, by simp [hlen], ?_, ((hst.same h2).snoc ht2 (dec_lt k1) (dec_lt k2)).upd hD2, same_over (hs.trans h2) hD, upd_same, rfl⟩
        · rw [ht, splitL_app2, e]
          rfl
        · intro j y hy
          by_cases c : j < done.length
          · rw [List.getElem?_append_left c] at hy
            obtain ⟨n, m, f, a, b⟩ := hps j y hy
            exact ⟨n, m, f, by rw [List.getElem?_append_left (by omega)]; exact a, b⟩
          · have hj := (List.getElem?_eq_some_iff.mp hy).1
            rw [List.length_append] at hj
            simp only [List.length_cons, List.length_nil] at hj
            have : j = done.length := by omega
            subst this
            rw [List.getElem?_append_right (Nat.le_refl _)] at hy
            simp at hy
            subst hy
            exact ⟨_, _, _, by rw [List.getElem?_append_right (by omega), hlen]; simp, hst2⟩
      · refine ite2 (fun _ => q2 ⟨h, part, split_last (b := (l ++ [32]).drop (i + 1)) e ?_, hno⟩ H' hs) fun z => absurd rfl z
        obtain ⟨hi', hx⟩ := List.getElem?_eq_some_iff.mp hc
        have z : 32 :: (l ++ [32]).drop (i + 1) = (l ++ [32]).drop i := by
          have := List.getElem_cons_drop (h := hi')
          rw [hx] at this
          exact this
        rw [z, List.take_append_drop]
    · rintro σ H' ⟨done, part, ss, xs, v3, v4, e, hlen, hps, hst, hs, hH, rfl⟩
      rw [List.take_length, splitL_app2] at e
      have e' := List.append_inj e (by have := congrArg List.length e; simp only [List.length_append] at this; simpa [splitL] using this)
      rfl'
      refine q1 D xs ss H' hD (.inr ⟨h, ?_, ?_⟩) hs hH hst
      · rw [e'.1]; exact hlen
      · rw [e'.1]; exact hps
structure TAn (K : PySem.W.Frag) (mg : Str → Option Value) (C d1 d2 d3 d4 L : Addr) : Prop where
  g1 : mg "NoPact" = some (.ref d1)
  g2 : mg "NoWord" = some (.ref d2)
  g3 : mg "NoUse" = some (.ref d3)
  g4 : mg "NoRow" = some (.ref d4)
  gL : mg "LetterError" = some (.ref L)
  n1 : PySem.W.kitOne K (.ref C) (.ref d1) = some false
  n2 : PySem.W.kitOne K (.ref C) (.ref d2) = some false
  n3 : PySem.W.kitOne K (.ref C) (.ref d3) = some false
  n4 : PySem.W.kitOne K (.ref C) (.ref d4) = some false
  nL : PySem.W.kitOne K (.ref C) (.ref L) = some true
  nV : PySem.W.kitOne K (.ref C) (.type "ValueError") = some true
theorem boot_ve : bootBuiltins "ValueError" = some (.type "ValueError") := by decide +kernel
def sp_another (C : Addr) : Sp := fun vs H Q _ => ∃ x dx fs, vs = [.ref x] ∧ XAt H x C dx fs ∧ Q (.bl false) H
theorem sc_another : FnScope ["_law_e"] ["_law_e"] (defScope s_another) := ⟨rfl, rfl, rfl, by decide +kernel, rfl, by decide +kernel, by decide +kernel⟩
theorem ok_another {f C d1 d2 d3 d4 L : Addr} {fd : FuncData} (B : Bt mg) (XC : XI K C) (T : TAn K mg C d1 d2 d3 d4 L) (F : Fun K "_law_another" "_law_another" s_another f fd) : FnOkH P w K mg base 1 f fd ["_law_e"] (sp_another C) := by
  refine Fun.okH F sc_another (fun vs H Q E h => ?_) (fun cdv A outer s H vs Q hr h => ?_)
  · obtain ⟨x, dx, fs, rfl, _⟩ := h
    rfl
  · obtain ⟨x, dx, fs, rfl, ha, q⟩ := h
    refine ⟨_, (pss_cons (ps_if (PW.pt (pw_or (pt_truth (pe_isi rfl B.isi (pv 0) rfl T.g1) (fun _ => rfl)) (pw_or (pt_truth (pe_isi rfl B.isi (pv 0) rfl T.g2) (fun _ => rfl)) (pw_or (pt_truth (pe_isi rfl B.isi (pv 0) rfl T.g3) (fun _ => rfl)) (pw_or1 (pt_truth (pe_isi rfl B.isi (pv 0) rfl T.g4) (fun _ => rfl)))))))
        (pss_one (ps_ret pe_bl))
        pss_nil)
      (pss_one (ps_ret (pe_or (pe_not (pe_isi rfl B.isi (pv 0) rfl T.gL)) (pe_one (pe_not (pe_isiB rfl B.isi (pv 0) rfl B.verr boot_ve))))))), ?_⟩
    rfl'
    have ty : TyX K H (.ref x) (.ref C) := .inr (.inl ⟨x, C, dx, fs, rfl, rfl, ha, XC⟩)
    exact ⟨_, ty, false, T.n1, iteF ⟨_, ty, false, T.n2, iteF ⟨_, ty, false, T.n3, iteF ⟨_, ty, false, T.n4, iteF ⟨_, ty, true, T.nL, (by first | exact iteF ⟨_, ty, true, T.nV, q⟩ | exact iteM ⟨_, ty, true, T.nV, q⟩ | exact iteT ⟨_, ty, true, T.nV, q⟩ | exact ⟨_, ty, true, T.nV, q⟩)⟩⟩⟩⟩⟩
def sp_asked7 : Sp := fun vs H Q _ => ∃ l : List Nat, vs = [.str (tx l)] ∧ l.length ≤ 1000 ∧ (∀ D xs ss p H', H D = none → OkS l ss → Same H H' → H' D = some (.lst xs) → StA H' xs ss → H' p = some (.tup [.ref D, .bl false]) → Q (.ref p) H') ∧ (BadS l → ∀ p H', Same H H' → H' p = some (.tup [.non, .bl true]) → Q (.ref p) H')
theorem use_asked7 {l : List Nat} {H : Hp} {Q : VK} {E : XK} (hl : l.length ≤ 1000) (h1 : ∀ D xs ss p H', H D = none → OkS l ss → Same H H' → H' D = some (.lst xs) → StA H' xs ss → H' p = some (.tup [.ref D, .bl false]) → Q (.ref p) H') (h2 : BadS l → ∀ p H', Same H H' → H' p = some (.tup [.non, .bl true]) → Q (.ref p) H') : sp_asked7 [.str (tx l)] H Q E := ⟨l, rfl, hl, h1, h2⟩
theorem sc_asked : FnScope ["_law_text_here", "_law_found", "_law_refused", "_law_e"] ["_law_text_here"] (defScope s_asked) := ⟨rfl, rfl, rfl, by decide +kernel, rfl, by decide +kernel, by decide +kernel⟩
theorem ok_asked7 {f C : Addr} {fd : FuncData} (B : Bt mg) (T : TNS K mg C) (hsub : PySem.W.subIn K (.ref C) (.ref C) = some true) (F : Fun K "_law_asked" "_law_asked" s_asked f fd) (Dl : Df P w K mg base (CXx P w) 5 "read_steps" ["text"] [] (sp_read_steps C)) (Da : DfH P w K mg base 1 "_law_another" ["_law_e"] (sp_another C)) :
    FnOk P w K mg base CX0 6 f fd ["_law_text_here"] sp_asked7 := by
  refine F.ok sc_asked (fun vs H Q E h => ?_) (fun cdv A outer s H vs Q E hr h => ?_)
  · obtain ⟨a, rfl, _⟩ := h
    rfl
  · obtain ⟨l, rfl, hl, q1, q2⟩ := h
    have hrH : RoomH 1 _ := RoomH.of (hr.mono (by decide))
    refine ⟨_, (pss_cons (ps_set (i := 1) sc_asked.nd rfl (Or.inl rfl) pe_non)
      (pss_cons (ps_set (i := 2) sc_asked.nd rfl (Or.inl rfl) pe_bl)
      (pss_cons (ps_try (i := 1) sc_asked.nd rfl (Or.inl rfl) (.inl rfl) ⟨rfl, rfl⟩ (clX Dl hr .nil rfl (pa_cons (pv 0) pa_nil))
        (hd_cons (ts := tAsg (tNotV (tCall (sp_another C) [] E0 (tCons (tVar 3) tNil))) (gName 2)) 3 (fun e => (pss_one (ps_set (i := 2) sc_asked.nd rfl (Or.inl rfl) (pe_not (clH Da (hrH.mark _) rfl (pa_cons (pv 3) pa_nil))))))
          rfl T.g rfl rfl T.xi.ok .nil))
      (pss_one (ps_ret (pe_tup (pa_cons (pv 1) (pa_cons (pv 2) pa_nil)))))))), ?_⟩
    rfl'
    simp only [sp_read_steps, sp_another]
    rfl'
    have s16 := sl16
    refine ⟨hl, fun e D H' hD hs hH => ⟨by omega, fun p hp => q1 D [] [] p _ hD (.inl ⟨e, rfl⟩) (hs.trans (same_upd hp)) (same_upd hp _ _ hH) ⟨rfl, fun i x hx => by simp at hx⟩ upd_same⟩, fun ne => ⟨fun D xs ss H' hD ok hs hH hst => ⟨by omega, fun p hp => q1 D xs ss p _ hD (.inr ⟨ne, ok⟩) (hs.trans (same_upd hp)) (same_upd hp _ _ hH) (hst.same (same_upd hp)) upd_same⟩, fun y hy hno H' hs x hx => ⟨true, hsub, iteT ⟨⟨none, [], upd_same, .inl ⟨rfl, rfl⟩⟩, by omega, fun p hp => q2 ⟨ne, y, hy, hno⟩ p _ ((hs.trans (same_upd hx)).trans (same_upd hp)) upd_same⟩⟩⟩⟩
structure TK7 (K : PySem.W.Frag) : Prop where
  kt : PySem.W.kitOne K (.type "tuple") (.type "tuple") = some true
  kbb : PySem.W.kitOne K (.type "bool") (.type "bool") = some true
  kl : PySem.W.kitOne K (.type "list") (.type "list") = some true
def sp_alike7 : Sp := fun vs H Q _ => ∃ (D1 D2 : Addr) (xs1 xs2 : List V) (ss : List St3), vs = [.ref D1, .ref D2] ∧ H D1 = some (.lst xs1) ∧ StA H xs1 ss ∧ H D2 = some (.lst xs2) ∧ StA H xs2 ss ∧ ss.length ≤ 1001 ∧ Q (.bl true) H
theorem use_alike7 {D1 D2 : Addr} {xs1 xs2 : List V} {ss : List St3} {H : Hp} {Q : VK} {E : XK} (h1 : H D1 = some (.lst xs1)) (s1 : StA H xs1 ss) (h2 : H D2 = some (.lst xs2)) (s2 : StA H xs2 ss) (hl : ss.length ≤ 1001) (h : Q (.bl true) H) : sp_alike7 [.ref D1, .ref D2] H Q E := ⟨D1, D2, xs1, xs2, ss, rfl, h1, s1, h2, s2, hl, h⟩
theorem sc_alike : FnScope ["_law_found", "_law_due_here", "_law_k", "_law_step_here"] ["_law_found", "_law_due_here"] (defScope s_alike) := ⟨rfl, rfl, rfl, by decide +kernel, rfl, by decide +kernel, by decide +kernel⟩
theorem ok_alike7 {f : Addr} {fd : FuncData} (B : Bt mg) (T : TK7 K) (F : Fun K "_law_alike" "_law_alike" s_alike f fd) (D_whole : Df P w K mg base CX0 1 "_law_whole" ["_law_found"] [] sp_whole) : FnOk P w K mg base CX0 2 f fd ["_law_found", "_law_due_here"] sp_alike7 := by
  refine F.ok sc_alike (fun vs H Q E h => ?_) (fun cdv A outer s H vs Q E hr h => ?_)
  · obtain ⟨a, b, c, d, e, rfl, _⟩ := h
    rfl
  · obtain ⟨D1, D2, xs1, xs2, ss, rfl, h1, t1, h2, t2, hl, q⟩ := h
    refine ⟨_, (pss_cons (ps_if (PW.pt (pw_or (pt_not (pt_truth (pe_isiB rfl B.isi (pv 0) rfl B.list PySem.Pv.boot_list) (fun _ => rfl))) (pw_or1 (pt_cmpR op_ne (pe_callB c_len rfl B.len PySem.boot_len (pa_cons (pv 0) pa_nil)) (pe_callB c_len rfl B.len PySem.boot_len (pa_cons (pv 1) pa_nil)) (nomark _)))))
        (pss_one (ps_ret pe_bl))
        pss_nil)
      (pss_cons (ps_for PassesOwn.never rfl (pi_range1 rfl B.range (pa_cons (pe_callB c_len rfl B.len PySem.boot_len (pa_cons (pv 1) pa_nil)) pa_nil)) (pg_name (i := 2) sc_alike.nd rfl (Or.inl rfl))
        (pss_cons (ps_set (i := 3) sc_alike.nd rfl (Or.inl rfl) (pe_ix ix_list (pv 0) (pv 2) (fun _ _ => rfl)))
        (pss_cons (ps_if (PW.pt (pw_or (pt_not (pt_truth (pe_isiB rfl B.isi (pv 3) rfl B.tuple PySem.Pv.boot_tuple) (fun _ => rfl))) (pw_or (pt_cmpR op_ne (pe_callB c_len rfl B.len PySem.boot_len (pa_cons (pv 3) pa_nil)) pe_int (nomark _)) (pw_or1 (pt_not (pt_truth (pe_isiB rfl B.isi (pe_ix ix_tup (pv 3) pe_int (fun _ _ => rfl)) rfl B.bool PySem.Pv.boot_bool) (fun _ => rfl)))))))
          (pss_one (ps_ret pe_bl))
          pss_nil)
        (pss_one (ps_if (PW.pt (pw_or (pt_not (pt_truth (cl0 D_whole hr .nil rfl (pa_cons (pe_ix ix_tup (pv 3) pe_int (fun _ _ => rfl)) pa_nil)) (fun _ => rfl))) (pw_or (pt_not (pt_truth (cl0 D_whole hr .nil rfl (pa_cons (pe_ix ix_tup (pv 3) pe_int (fun _ _ => rfl)) pa_nil)) (fun _ => rfl))) (pw_or1 (pt_cmpR (op_neL (room100 hr)) (pv 3) (pe_ix ix_list (pv 1) (pv 2) (fun _ _ => rfl)) (nomark _))))))
          (pss_one (ps_ret pe_bl))
          pss_nil)))))
      (pss_one (ps_ret pe_bl)))), ?_⟩
    have s16 := sl16
    have l1 := t1.1
    have l2 := t2.1
    rfl'
    refine ⟨_, .inl (.lst h1), true, T.kl, iteM ⟨_, .inl ⟨_, SqL.of h1, rfl⟩, _, .inl ⟨_, SqL.of h2, rfl⟩, ite2 (fun h => absurd (by omega) h) fun _ => ⟨_, .inl ⟨_, SqL.of h2, rfl⟩, by omega, by omega, ?_⟩⟩⟩
    rw [show ((xs2.length : Nat) : Int).toNat = xs2.length from rfl]
    refine ForR.by (fun i σ H' => H' = H ∧ ∃ v2 v3, σ = [some (.ref D1), some (.ref D2), v2, v3]) ⟨rfl, none, none, rfl⟩ ?_ ?_
    · rintro i σ H' hi ⟨rfl, v2, v3, rfl⟩
      obtain ⟨x1, a1, b1⟩ := atI_of (xs := xs1) (i := 0 + (i : Int)) (by omega) (by omega)
      obtain ⟨x2, a2, b2⟩ := atI_of (xs := xs2) (i := 0 + (i : Int)) (by omega) (by omega)
      obtain ⟨r1, n, m, f, rfl, e1, k1, hn, hm⟩ := t1.2 _ _ b1
      obtain ⟨r2, n', m', f', rfl, e2, k2, _, _⟩ := t2.2 _ _ b2
      rw [e1] at e2
      cases e2
      have i1 : Is K H' (.tup [.int (n : Nat), .int (m : Nat), .bl f]) (V.ref r1) := by
        simp only [Is]
        exact ⟨r1, _, rfl, SqT.of k1, by simp [Iss, Is]⟩
      have i2 : Is K H' (.tup [.int (n : Nat), .int (m : Nat), .bl f]) (V.ref r2) := by
        simp only [Is]
        exact ⟨r2, _, rfl, SqT.of k2, by simp [Iss, Is]⟩
      simp only [gName]
      rfl'
      refine ⟨_, SqL.of h1, _, a1, ?_⟩
      refine ⟨_, .inl (.tup k1), true, T.kt, iteM ⟨3, .inr ⟨_, SqT.of k1, rfl⟩, ite2 (fun h => absurd rfl h) fun _ => ⟨r1, rfl, _, SqT.of k1, _, rfl, _, .inl (.bl _), true, T.kbb, iteM ⟨r1, rfl, _, SqT.of k1, _, rfl, use_whole ⟨true, rfl, iteM ⟨r1, rfl, _, SqT.of k1, _, rfl, use_whole ⟨true, rfl, iteM ?_⟩⟩⟩⟩⟩⟩⟩
      refine ⟨_, SqL.of h2, _, a2, _, _, .inr ⟨i1, i2⟩, by simp [dpDs, dpD], ?_⟩
      rw [eqDs_refl]
      exact ⟨false, rfl, ite2 (fun h => absurd h (by decide)) fun _ => rfl⟩
    · rintro σ H' ⟨rfl, v2, v3, rfl⟩
      rfl'
      exact q
def sp_written7 : Sp := fun vs H Q _ => ∃ c : Int, vs = [.int c] ∧ ∀ (l : List Nat) (H' : Hp), l.length ≤ 9 → Same H H' → Q (.str (tx l)) H'
theorem use_written7 {c : Int} {H : Hp} {Q : VK} {E : XK} (h : ∀ (l : List Nat) (H' : Hp), l.length ≤ 9 → Same H H' → Q (.str (tx l)) H') : sp_written7 [.int c] H Q E := ⟨c, rfl, h⟩
theorem sc_written : FnScope ["_law_cell", "_law_number_here", "_law_place", "_law_size"] ["_law_cell"] (defScope s_written) := ⟨rfl, rfl, rfl, by decide +kernel, rfl, by decide +kernel, by decide +kernel⟩
theorem ok_written7 {f : Addr} {fd : FuncData} (B : Bt mg) (F : Fun K "_law_written" "_law_written" s_written f fd) : FnOk P w K mg base CX0 1 f fd ["_law_cell"] sp_written7 := by
  refine F.ok sc_written (fun vs H Q E h => ?_) (fun cdv A outer s H vs Q E hr h => ?_)
  · obtain ⟨a, rfl, _⟩ := h
    rfl
  · obtain ⟨c, rfl, q⟩ := h
    refine ⟨_, (pss_cons (ps_set (i := 1) sc_written.nd rfl (Or.inl rfl) (pe_op op_mod (pe_op op_mulA (pe_op op_addA (pe_op op_mod (pv 0) pe_int) pe_int) pe_int) pe_int))
      (pss_cons (ps_set (i := 2) sc_written.nd rfl (Or.inl rfl) (pe_op op_mod (pe_op op_mulA (pv 1) pe_int) pe_int))
      (pss_cut (ps_set (i := 3) sc_written.nd rfl (Or.inl rfl) (pe_ix ix_list (pe_lst (pa_cons pe_int (pa_cons pe_int (pa_cons pe_int (pa_cons pe_int pa_nil))))) (pe_op op_mod (pe_op op_fdiv (pv 1) pe_int) pe_int) (fun _ _ => rfl)))
      (pss_one (ps_ret (pe_op op_addA (pe_op op_addA (pe_callTy c_strI rfl B.str PySem.Pv.boot_str (pa_cons (pe_op op_mod (pe_op op_fdiv (pv 1) pe_int) (pv 3)) pa_nil)) (pe_ix ix_list (pe_lst (pa_cons pe_str (pa_cons pe_str pa_nil))) (pe_op op_mod (pv 2) pe_int) (fun _ _ => rfl))) (pe_callTy c_strI rfl B.str PySem.Pv.boot_str (pa_cons (pe_op op_mod (pe_op op_fdiv (pv 2) pe_int) (pv 3)) pa_nil)))))))), ?_⟩
    have s16 := sl16
    have e62 : ((">" : Str)) = tx [62] := rfl
    have e60 : (("<" : Str)) = tx [60] := rfl
    simp only [e62, e60]
    rfl'
    have pick : ∀ k : Int, ∃ z : Int, atI [V.int 10, V.int 100, V.int 1000, V.int 10000] (k % 4) = some (.int z) ∧ (z = 10 ∨ z = 100 ∨ z = 1000 ∨ z = 10000) := fun k => by
      have : k % 4 = 0 ∨ k % 4 = 1 ∨ k % 4 = 2 ∨ k % 4 = 3 := by omega
      rcases this with e | e | e | e <;> rw [e]
      · exact ⟨10, rfl, by decide⟩
      · exact ⟨100, rfl, by decide⟩
      · exact ⟨1000, rfl, by decide⟩
      · exact ⟨10000, rfl, by decide⟩
    have two : ∀ k : Int, ∃ x : Nat, atI [V.str (tx [60]), V.str (tx [62])] (k % 2) = some (.str (tx [x])) := fun k => by
      have : k % 2 = 0 ∨ k % 2 = 1 := by omega
      rcases this with e | e <;> rw [e]
      · exact ⟨60, rfl⟩
      · exact ⟨62, rfl⟩
    have nat : ∀ (a z : Int), (z = 10 ∨ z = 100 ∨ z = 1000 ∨ z = 10000) → ∃ n : Nat, a % z = (n : Int) ∧ n < 10000 := fun a z hz => by
      have a0 := Int.emod_nonneg a (b := z) (by omega)
      have a1 := Int.emod_lt_of_pos a (b := z) (by omega)
      exact ⟨(a % z).toNat, by omega, by omega⟩
    refine ⟨by decide, .inr (by omega), by decide, .inr (by omega), by decide, ?_⟩
    refine cut_by (fun σ H' => ∃ (z n k : Int), Same H H' ∧ (z = 10 ∨ z = 100 ∨ z = 1000 ∨ z = 10000) ∧ σ = [some (.int c), some (.int n), some (.int k), some (.int z)]) ?_ ?_
    · rfl'
      refine ⟨by omega, fun p hp => ⟨⟨by decide, by decide⟩, by decide, ?_⟩⟩
      obtain ⟨z, e, hz⟩ := pick ((c % 2147483646 + 1) * 48271 % 2147483647 / 3)
      exact ⟨_, SqL.of upd_same, _, e, same_upd hp, z, hz, rfl⟩
    rintro σ H' ⟨z, n, k, hs, hz, rfl⟩
    rfl'
    obtain ⟨a, ea, ha⟩ := nat (n / 16) z hz
    obtain ⟨b, eb, hb⟩ := nat (k / 16) z hz
    obtain ⟨x, ex⟩ := two k
    have la := (dec_ok ha).2.1
    have lb := (dec_ok hb).2.1
    rw [ea, eb]
    refine ⟨⟨by decide, by decide⟩, by omega, use_strI ha ⟨by omega, fun p hp => ⟨by decide, _, SqL.of upd_same, _, ex, .inr (.inl ⟨_, rfl, _, rfl, ?_, ⟨by decide, by decide⟩, by omega, use_strI hb ⟨_, rfl, ?_, ?_⟩⟩)⟩⟩⟩
    · rw [len_tx, len_tx]
      simp only [List.length_cons, List.length_nil]
      omega
    · rw [tx_append, len_tx, len_tx]
      simp only [List.length_append, List.length_cons, List.length_nil]
      omega
    · rw [tx_append, tx_append]
      refine q _ _ ?_ (hs.trans (same_upd hp))
      simp only [List.length_append, List.length_cons, List.length_nil]
      omega
def sp_odd7 : Sp := fun vs H Q _ => ∃ c : Int, vs = [.int c] ∧ ∀ (l : List Nat) (H' : Hp), l.length ≤ 9 → Same H H' → Q (.str (tx l)) H'
theorem use_odd7 {c : Int} {H : Hp} {Q : VK} {E : XK} (h : ∀ (l : List Nat) (H' : Hp), l.length ≤ 9 → Same H H' → Q (.str (tx l)) H') : sp_odd7 [.int c] H Q E := ⟨c, rfl, h⟩
theorem sc_odd_text : FnScope ["_law_cell", "_law_some"] ["_law_cell"] (defScope s_odd_text) := ⟨rfl, rfl, rfl, by decide +kernel, rfl, by decide +kernel, by decide +kernel⟩
def odds : List Str := ["", " ", ". ", " .", "..", ">", "<", "1>", ">1", "1 > 2", "00>1", "1>00", "10000>1", "1>10000", "-1>0", "1>-0", "+1>0", "1_0>1", "1>0 ", " 1>0", "1>0  2<1", "1>0, 2<1"]
theorem odds_len : ∀ k : Fin 22, (odds.getD k.val "").length ≤ 9 := by decide +kernel
theorem ok_odd7 {f : Addr} {fd : FuncData} (B : Bt mg) (F : Fun K "_law_odd_text" "_law_odd_text" s_odd_text f fd) : FnOk P w K mg base CX0 1 f fd ["_law_cell"] sp_odd7 := by
  refine F.ok sc_odd_text (fun vs H Q E h => ?_) (fun cdv A outer s H vs Q E hr h => ?_)
  · obtain ⟨a, rfl, _⟩ := h
    rfl
  · obtain ⟨c, rfl, q⟩ := h
    refine ⟨_, (pss_cut (ps_set (i := 1) sc_odd_text.nd rfl (Or.inl rfl) (pe_lst (pa_cons pe_str (pa_cons pe_str (pa_cons pe_str (pa_cons pe_str (pa_cons pe_str (pa_cons pe_str (pa_cons pe_str (pa_cons pe_str (pa_cons pe_str (pa_cons pe_str (pa_cons pe_str (pa_cons pe_str (pa_cons pe_str (pa_cons pe_str pa_nil))))))))))))))))
      (pss_cut (ps_set (i := 1) sc_odd_text.nd rfl (Or.inl rfl) (pe_op op_addA (pv 1) (pe_lst (pa_cons pe_str (pa_cons pe_str (pa_cons pe_str (pa_cons pe_str (pa_cons pe_str (pa_cons pe_str (pa_cons pe_str (pa_cons pe_str pa_nil)))))))))))
      (pss_one (ps_ret (pe_ix ix_list (pv 1) (pe_op op_mod (pv 0) pe_int) (fun _ _ => rfl)))))), ?_⟩
    have s16 := sl16
    refine cut_by (fun σ H' => ∃ D, Same H H' ∧ H' D = some (.lst ((odds.take 14).map V.str)) ∧ σ = [some (.int c), some (.ref D)]) ?_ ?_
    · rfl'
      refine ⟨by omega, fun p hp => ?_⟩
      exact ⟨same_upd hp, upd_same⟩
    rintro σ H1 ⟨D, s1, hD, rfl⟩
    refine cut_by (fun σ H' => ∃ D, Same H H' ∧ H' D = some (.lst (odds.map V.str)) ∧ σ = [some (.int c), some (.ref D)]) ?_ ?_
    · rfl'
      refine ⟨by omega, fun p hp => ⟨_, same_upd hp _ _ hD, _, upd_same, ?_, fun p1 hp1 => ⟨(s1.trans (same_upd hp)).trans (same_upd hp1), upd_same⟩⟩⟩
      rw [List.length_map, List.length_take, s16]
      exact Nat.le_trans (Nat.add_le_add_right (Nat.min_le_left _ _) _) (by decide)
    rintro σ H2 ⟨D2, s2, hD2, rfl⟩
    rfl'
    obtain ⟨v, e1, e2⟩ := atI_of (xs := odds.map V.str) (i := c % 22) (by omega) (by rw [List.length_map]; show c % 22 < 22; omega)
    refine ⟨by decide, _, SqL.of hD2, v, e1, ?_⟩
    rw [List.getElem?_map] at e2
    obtain ⟨y, hy, rfl⟩ := Option.map_eq_some_iff.mp e2
    have hl := odds_len ⟨(c % 22).toNat, by omega⟩
    rw [List.getD_eq_getElem?_getD] at hl
    simp only [hy, Option.getD_some] at hl
    have := q (cs y) H2 (by rw [← len_tx, tx_cs]; exact hl) s2
    rw [tx_cs] at this
    exact this
def pSum (ys : List (List Nat)) : Nat := (ys.map fun y => y.length + 1).sum
theorem pSum_le {b : Nat} : ∀ {ys : List (List Nat)}, (∀ y ∈ ys, y.length ≤ b) → pSum ys ≤ (b + 1) * ys.length
  | [], _ => Nat.zero_le _
  | y :: r, h => by
    have ih := pSum_le (b := b) (ys := r) fun z hz => h z (List.mem_cons_of_mem _ hz)
    have := h y (by simp)
    unfold pSum at ih ⊢
    rw [List.map_cons, List.sum_cons, List.length_cons, Nat.mul_succ]
    omega
theorem pSum_set : ∀ (ys : List (List Nat)) (k : Nat) (y : List Nat), pSum (ys.set k y) ≤ pSum ys + (y.length + 1)
  | [], _, _ => Nat.zero_le _
  | x :: r, 0, y => by
    unfold pSum
    simp only [List.set_cons_zero, List.map_cons, List.sum_cons]
    omega
  | x :: r, k + 1, y => by
    have ih := pSum_set r k y
    unfold pSum at ih ⊢
    simp only [List.set_cons_succ, List.map_cons, List.sum_cons]
    omega
theorem pSum_mem : ∀ {ys : List (List Nat)} {y : List Nat}, y ∈ ys → y.length + 1 ≤ pSum ys
  | x :: r, y, h => by
    unfold pSum
    rw [List.map_cons, List.sum_cons]
    rcases List.mem_cons.mp h with z | z
    · rw [z]; omega
    · have := pSum_mem z
      unfold pSum at this
      omega
theorem join_sum {c : Nat} : ∀ ys : List (List Nat), (joinL c ys).length ≤ pSum ys
  | [] => Nat.zero_le _
  | [x] => by
    show x.length ≤ _
    have := pSum_mem (ys := [x]) (y := x) (by simp)
    omega
  | x :: z :: r => by
    have ih := join_sum (c := c) (z :: r)
    have e : joinL c (x :: z :: r) = x ++ c :: joinL c (z :: r) := rfl
    rw [e, List.length_append, List.length_cons]
    have : pSum (x :: z :: r) = (x.length + 1) + pSum (z :: r) := rfl
    omega
def sp_text7 (K : PySem.W.Frag) : Sp := fun vs H Q _ => ∃ (a : Addr) (ns : List Int), vs = [.ref a] ∧ SqL K H a (ns.map V.int) ∧ ∀ (l : List Nat) (H' : Hp), l.length ≤ 900 → Same H H' → Q (.str (tx l)) H'
theorem use_text7 {a : Addr} {ns : List Int} {H : Hp} {Q : VK} {E : XK} (hS : SqL K H a (ns.map V.int)) (h : ∀ (l : List Nat) (H' : Hp), l.length ≤ 900 → Same H H' → Q (.str (tx l)) H') : sp_text7 K [.ref a] H Q E := ⟨a, ns, rfl, hS, h⟩
theorem use_cell7 {a : Addr} {ns : List Int} {k : Int} {H : Hp} {Q : VK} {E : XK} (hS : SqL K H a (ns.map V.int)) (hk : 0 ≤ k) (h : ∀ c : Int, Q (.int c) H) : sp_cell_at K [.ref a, .int k] H Q E := ⟨a, ns, k, rfl, hS, hk, h _⟩
theorem sc_text : FnScope ["_law_script", "_law_pieces", "_law_way", "_law_k", "_law_text_here", "_law_at", "_law_sign"] ["_law_script"] (defScope s_text) := ⟨rfl, rfl, rfl, by decide +kernel, rfl, by decide +kernel, by decide +kernel⟩
def PcI (H : Hp) (a : Addr) (σ : L2.St) (H' : Hp) : Prop := ∃ (D : Addr) (ys : List (List Nat)) (way : Int) (v3 : Option V), Same H H' ∧ H' D = some (.lst (ys.map fun y => V.str (tx y))) ∧ ys.length ≤ 63 ∧ pSum ys ≤ 720 ∧ σ = [some (.ref a), some (.ref D), some (.int way), v3, none, none, none]
theorem ok_text7 {f : Addr} {fd : FuncData} (B : Bt mg) (F : Fun K "_law_text" "_law_text" s_text f fd) (D_written : Df P w K mg base CX0 1 "_law_written" ["_law_cell"] [] sp_written7) (D_cell_at : Df P w K mg base CX0 1 "_law_cell_at" ["_law_script", "_law_k"] [] (sp_cell_at K)) (D_odd_text : Df P w K mg base CX0 1 "_law_odd_text" ["_law_cell"] [] sp_odd7) : FnOk P w K mg base CX0 2 f fd ["_law_script"] (sp_text7 K) := by
  refine F.ok sc_text (fun vs H Q E h => ?_) (fun cdv A outer s H vs Q E hr h => ?_)
  · obtain ⟨a, ns, rfl, _⟩ := h
    rfl
  · obtain ⟨a, ns, rfl, hS, q⟩ := h
    refine ⟨_, (pss_cut (ps_set_comp (i := 1) sc_text.nd rfl (Or.inl rfl) (Or.inl rfl) (own := ["_law_cell"]) (caps := []) (ix := []) (tt := tYes) (te := tCall sp_written7 [] E0 (tCons (tVar 0) tNil)) rfl (compOk_of (sc := defScope s_text) rfl (by decide +kernel) (by decide +kernel) (by decide +kernel) rfl (by decide +kernel) (by decide +kernel) rfl) (pi_list (pe_slice sl_any (pv 0) (po_some pe_int) (po_some pe_int))) (fun _ _ _ _ _ _ => pg_name (i := 0) (show List.Nodup [_] by decide) rfl (Or.inl rfl)) (fun _ _ _ _ _ _ => pts_nil) (fun _ _ _ _ _ _ => (cl0 D_written hr .nil rfl (pa_cons (pv 0) pa_nil))))
      (pss_cut (ps_set (i := 2) sc_text.nd rfl (Or.inl rfl) (pe_op op_mod (cl0 D_cell_at hr .nil rfl (pa_cons (pv 0) (pa_cons pe_int pa_nil))) pe_int))
      (pss_cut (ps_if (PW.pt (pw_and (pt_cmpR op_gtA (pv 2) pe_int (nomark _)) (pw_and1 (pt_cmpR op_gtA (pe_callB c_len rfl B.len PySem.boot_len (pa_cons (pv 1) pa_nil)) pe_int (nomark _)))))
        (pss_cut (ps_set (i := 3) sc_text.nd rfl (Or.inl rfl) (pe_op op_mod (cl0 D_cell_at hr .nil rfl (pa_cons (pv 0) (pa_cons pe_int pa_nil))) (pe_callB c_len rfl B.len PySem.boot_len (pa_cons (pv 1) pa_nil))))
        (pss_one (ps_ifp op_eq (pv 2)
          (pss_one (ps_asg (pe_op op_addA pe_str (pe_ix ix_list (pv 1) (pv 3) (fun _ _ => rfl))) (pg_sub (pv 1) (pv 3) set_list)))
          (pssp_asg (pep_repl (pep_repl (PE.pep (pe_ix ix_list (pv 1) (pv 3) (fun _ _ => rfl))) rfl (by decide)) rfl (by decide)) (pg_sub (pv 1) (pv 3) set_list)) (nomark _))))
        pss_nil)
      (pss_cut (ps_set (i := 4) sc_text.nd rfl (Or.inl rfl) (pe_bm PySem.F.plainAttrs_str PySem.F.slot_str_join PySem.F.type_str_join m_join pe_str (pa_cons (pv 1) pa_nil)))
      (pss_cut (ps_if (pt_cmpR op_eq (pv 4) pe_str (nomark _))
        (pss_one (ps_set (i := 4) sc_text.nd rfl (Or.inl rfl) pe_str))
        pss_nil)
      (pss_cut (ps_set (i := 5) sc_text.nd rfl (Or.inl rfl) (pe_op op_mod (cl0 D_cell_at hr .nil rfl (pa_cons (pv 0) (pa_cons pe_int pa_nil))) (pe_callB c_len rfl B.len PySem.boot_len (pa_cons (pv 4) pa_nil))))
      (pss_cut (ps_set (i := 6) sc_text.nd rfl (Or.inl rfl) (pe_ix ix_str pe_str (pe_op op_mod (cl0 D_cell_at hr .nil rfl (pa_cons (pv 0) (pa_cons pe_int pa_nil))) pe_int) (fun _ _ => rfl)))
      (pss_cons (ps_if (PW.pt (pw_or (pt_cmpR op_eq (pv 2) pe_int (nomark _)) (pw_or1 (pt_cmpR op_eq (pv 2) pe_int (nomark _)))))
        (pss_one (ps_ret (pe_op op_addA (pe_op op_addA (pe_slice sl_any (pv 4) po_none (po_some (pv 5))) (pv 6)) (pe_slice sl_any (pv 4) (po_some (pv 5)) po_none))))
        pss_nil)
      (pss_cons (ps_if (pt_cmpR op_eq (pv 2) pe_int (nomark _))
        (pss_one (ps_ret (pe_op op_addA (pe_slice sl_any (pv 4) po_none (po_some (pv 5))) (pe_slice sl_any (pv 4) (po_some (pe_op op_addA (pv 5) pe_int)) po_none))))
        pss_nil)
      (pss_cons (ps_if (pt_cmpR op_eq (pv 2) pe_int (nomark _))
        (pss_one (ps_ret (pe_op op_addA (pe_op op_addA (pe_slice sl_any (pv 4) po_none (po_some (pv 5))) (pv 6)) (pe_slice sl_any (pv 4) (po_some (pe_op op_addA (pv 5) pe_int)) po_none))))
        pss_nil)
      (pss_cons (ps_if (pt_cmpR op_eq (pv 2) pe_int (nomark _))
        (pss_one (ps_ret (cl0 D_odd_text hr .nil rfl (pa_cons (cl0 D_cell_at hr .nil rfl (pa_cons (pv 0) (pa_cons pe_int pa_nil))) pa_nil))))
        pss_nil)
      (pss_one (ps_ret (pv 4)))))))))))))), ?_⟩
    have s16 := sl16
    have e46 : (("." : Str)) = tx [46] := rfl
    have e32 : ((" " : Str)) = tx [32] := rfl
    have e0 : (("" : Str)) = tx [] := rfl
    have e48 : (("0" : Str)) = tx [48] := rfl
    have e17 : (("0123456789<> .-=a" : Str)) = tx [48, 49, 50, 51, 52, 53, 54, 55, 56, 57, 60, 62, 32, 46, 45, 61, 97] := rfl
    simp only [rJoin, rRepl, e46, e32, e0, e48, e17]
    refine cut_by (fun σ H' => ∃ (D : Addr) (ys : List (List Nat)), H D = none ∧ Same H H' ∧ H' D = some (.lst (ys.map fun y => V.str (tx y))) ∧ ys.length ≤ 63 ∧ (∀ y ∈ ys, y.length ≤ 9) ∧ σ = [some (.ref a), some (.ref D), none, none, none, none, none]) ?_ ?_
    · rfl'
      refine ⟨_, hS, fun p hp => ⟨⟨_, SqL.of upd_same⟩, fun D hD => ?_⟩⟩
      have ec : cutV (ns.map V.int) (some 5) (some 68) = ((ns.map V.int).drop (5 : Int).toNat).take (68 - 5 : Int).toNat := cut_an _ (by decide) (by decide)
      have hcl : (cutV (ns.map V.int) (some 5) (some 68)).length ≤ 63 := by
        rw [ec, List.length_take]
        exact Nat.le_trans (Nat.min_le_left _ _) (by decide)
      have hci : ∀ v ∈ cutV (ns.map V.int) (some 5) (some 68), ∃ c : Int, v = V.int c := fun v hv => by
        rw [ec] at hv
        obtain ⟨c, _, rfl⟩ := List.mem_map.mp (List.mem_of_mem_drop (List.mem_of_mem_take hv))
        exact ⟨c, rfl⟩
      generalize cutV (ns.map V.int) (some 5) (some 68) = zs at hcl hci hD ⊢
      have hs0 : Same H (upd H p (HO.lst zs)) := same_upd hp
      refine CompL.by (xs := zs) (fun i acc H' => ∃ ys : List (List Nat), ys.length = i ∧ acc = ys.map (fun y => V.str (tx y)) ∧ (∀ y ∈ ys, y.length ≤ 9) ∧ Same (upd H p (HO.lst zs)) H' ∧ H' D = some (.lst acc)) ⟨[], rfl, rfl, by simp, same_upd hD, upd_same⟩ (fun i acc H' _ h => by obtain ⟨_, _, _, _, hs, _⟩ := h; exact hs.seq (SqL.of upd_same)) ?_ ?_
      · rintro i v acc H' hv ⟨ys, hl, rfl, h9, hs, hH⟩
        obtain ⟨c, rfl⟩ := hci v (List.mem_of_getElem? hv)
        have hi := (List.getElem?_eq_some_iff.mp hv).1
        simp only [tYes]
        rfl'
        refine ⟨keeps0, use_written7 fun l H2 hl9 h2 => ⟨h2 _ _ hH, by rw [List.length_map]; omega, CNx.mk hi ⟨ys ++ [l], by simp [hl], by simp, ?_, same_over (hs.trans h2) hD, upd_same⟩⟩⟩
        intro y hy
        rcases List.mem_append.mp hy with z | z
        · exact h9 y z
        · rw [List.mem_singleton.mp z]; exact hl9
      · rintro acc H' ⟨ys, hl, rfl, h9, hs, hH⟩
        first | exact ⟨hs0.trans hs, D, hs0.free hD, ys, hH, by omega, h9, rfl⟩ | exact ⟨D, hs0.free hD, hs0.trans hs, ys, hH, by omega, h9, rfl⟩ | exact ⟨D, ys, hs0.free hD, hs0.trans hs, hH, by omega, h9, rfl⟩
    rintro σ H1 ⟨D, ys, hD0, s1, hD, hy, hy9, rfl⟩
    refine cut_by (fun σ H' => ∃ way : Int, H' = H1 ∧ σ = [some (.ref a), some (.ref D), some (.int way), none, none, none, none]) ?_ ?_
    · rfl'
      exact use_cell7 (s1.seq hS) (by decide) fun c => ⟨⟨_, rfl⟩, by decide, rfl⟩
    rintro σ H2 ⟨way, rfl, rfl⟩
    refine cut_by (PcI H a) ?_ ?_
    · have base : ∀ v3, PcI H a [some (V.ref a), some (V.ref D), some (V.int way), v3, none, none, none] H2 := fun v3 => ⟨D, ys, way, v3, s1, hD, hy, by have := pSum_le hy9; omega, rfl⟩
      have upd1 : ∀ (k : Nat) (y : List Nat) (v3 : Option V), y.length ≤ 89 → PcI H a [some (V.ref a), some (V.ref D), some (V.int way), v3, none, none, none] (upd H2 D (.lst ((ys.map fun y => V.str (tx y)).set k (V.str (tx y))))) := fun k y v3 h => by
        refine ⟨D, ys.set k y, way, v3, same_over s1 hD0, ?_, by rw [List.length_set]; exact hy, ?_, rfl⟩
        · rw [upd_same, List.map_set]
        · have := pSum_le hy9
          have := pSum_set ys k y
          omega
      rfl'
      refine ite2 (fun _ => ⟨_, .inl ⟨_, SqL.of hD, rfl⟩, ite2 (fun hpos => ?_) fun _ => base none⟩) fun _ => base none
      rw [List.length_map] at hpos
      refine cut_by (fun σ H' => ∃ k : Nat, k < ys.length ∧ H' = H2 ∧ σ = [some (.ref a), some (.ref D), some (.int way), some (.int k), none, none, none]) ?_ ?_
      · rfl'
        refine use_cell7 (s1.seq hS) (by decide) fun c => ⟨_, .inl ⟨_, SqL.of hD, rfl⟩, c, rfl, ?_, (c % (ys.length : Int)).toNat, ?_, rfl, ?_⟩
        · rw [List.length_map]; omega
        · have := Int.emod_lt_of_pos c (b := (ys.length : Int)) (by omega)
          have := Int.emod_nonneg c (b := (ys.length : Int)) (by omega)
          omega
        · rw [List.length_map]
          have := Int.emod_nonneg c (b := (ys.length : Int)) (by omega)
          omega
      rintro σ H3 ⟨k, hk, rfl, rfl⟩
      obtain ⟨v, a1, a2⟩ := atI_of (xs := ys.map fun y => V.str (tx y)) (i := (k : Int)) (by omega) (by rw [List.length_map]; omega)
      rw [List.getElem?_map] at a2
      obtain ⟨y, hyk, rfl⟩ := Option.map_eq_some_iff.mp a2
      have h9 := hy9 y (List.mem_of_getElem? hyk)
      have ex : ixN (ys.map fun y => V.str (tx y)).length (k : Int) = some k := by
        unfold ixN
        rw [if_pos (by omega), if_pos (by rw [List.length_map]; omega)]
        rfl
      have hset : ∀ v : List Nat, v.length ≤ 89 → gSub (tVar 1) (tVar 3) rSetL (V.str (tx v)) [some (V.ref a), some (V.ref D), some (V.int way), some (V.int (k : Nat)), none, none, none] H3 (PcI H a) := fun v hv => ⟨_, rfl, _, rfl, D, _, _, k, rfl, rfl, hD, ex, upd1 k v _ hv⟩
      rfl'
      refine ite2 (fun _ => ?_) fun _ => ?_
      · refine ⟨_, SqL.of hD, _, a1, _, rfl, by rw [len_tx]; omega, ?_⟩
        rw [tx_append]
        exact hset _ (by simp only [List.length_append, List.length_cons, List.length_nil]; omega)
      · have z1 : (("<0" : Str)).length = 2 := rfl
        have z2 : ((">0" : Str)).length = 2 := rfl
        refine ⟨_, SqL.of hD, _, a1, trivial, ?_⟩
        refine ⟨y, rfl, by omega, fun l1 h1 => ?_⟩
        rw [z1] at h1
        refine ⟨trivial, l1, rfl, by omega, fun l2 h2 => ?_⟩
        rw [z2] at h2
        exact hset l2 (by omega)
    rintro σ H3 ⟨D, ys, way, v3, s3, hD, hy, hsum, rfl⟩
    refine cut_by (fun σ H' => ∃ t : List Nat, t.length ≤ 720 ∧ H' = H3 ∧ σ = [some (.ref a), some (.ref D), some (.int way), v3, some (.str (tx t)), none, none]) ?_ ?_
    · rfl'
      refine ⟨_, D, ys.map tx, rfl, rfl, SqL.of (by rw [hD, List.map_map]; rfl), join_ok (b := 720) (fun y hy' => by have := pSum_mem hy'; omega) (by omega), ?_⟩
      rw [join_tx]
      exact ⟨_, Nat.le_trans (join_sum ys) hsum, rfl, rfl⟩
    rintro σ H4 ⟨t, ht, rfl, rfl⟩
    refine cut_by (fun σ H' => ∃ t : List Nat, 1 ≤ t.length ∧ t.length ≤ 720 ∧ H' = H4 ∧ σ = [some (.ref a), some (.ref D), some (.int way), v3, some (.str (tx t)), none, none]) ?_ ?_
    · rfl'
      refine ite2 (fun _ => ⟨[46], by decide, by decide, rfl⟩) fun h => ⟨t, ?_, ht, rfl⟩
      cases t with
      | nil => exact absurd rfl h
      | cons x r => exact Nat.succ_le_succ (Nat.zero_le _)
    rintro σ H5 ⟨t, ht1, ht, rfl, rfl⟩
    refine cut_by (fun σ H' => ∃ k : Int, 0 ≤ k ∧ k < t.length ∧ H' = H5 ∧ σ = [some (.ref a), some (.ref D), some (.int way), v3, some (.str (tx t)), some (.int k), none]) ?_ ?_
    · rfl'
      exact use_cell7 (s3.seq hS) (by decide) fun c => ⟨by omega, c, rfl, by omega, _, Int.emod_nonneg c (by omega), Int.emod_lt_of_pos c (by omega), rfl, rfl⟩
    rintro σ H6 ⟨k, hk0, hk, rfl, rfl⟩
    refine cut_by (fun σ H' => ∃ x : Nat, H' = H6 ∧ σ = [some (.ref a), some (.ref D), some (.int way), v3, some (.str (tx t)), some (.int k), some (.str (tx [x]))]) ?_ ?_
    · rfl'
      refine use_cell7 (s3.seq hS) (by decide) fun c => ⟨c, rfl, by decide, by omega, ?_, rfl⟩
      obtain ⟨v, e1, _⟩ := atI_of (xs := [48, 49, 50, 51, 52, 53, 54, 55, 56, 57, 60, 62, 32, 46, 45, 61, 97]) (i := c % 17) (by omega) (by show c % 17 < 17; omega)
      exact ⟨v, e1⟩
    rintro σ H7 ⟨x, rfl, rfl⟩
    rfl'
    have c1 : (cut t none (some k)).length = k.toNat := by rw [cut_to _ hk0, List.length_take]; omega
    have c2 : (cut t (some k) none).length = t.length - k.toNat := by rw [cut_from _ hk0, List.length_drop]
    have c3 : (cut t (some (k + 1)) none).length = t.length - (k + 1).toNat := by rw [cut_from _ (by omega), List.length_drop]
    have l1 : (cut t none (some k) ++ [x]).length = k.toNat + 1 := by rw [List.length_append, c1]; rfl
    have ins : t.length ≤ sizeLine ∧ (cut t none (some k)).length + 1 ≤ sizeLine ∧ t.length ≤ sizeLine ∧ (cut t none (some k) ++ [x]).length + (cut t (some k) none).length ≤ sizeLine ∧ Q (V.str (tx (cut t none (some k) ++ [x] ++ cut t (some k) none))) H7 :=
      ⟨by omega, by omega, by omega, by omega, q _ _ (by rw [List.length_append, l1, c2]; omega) s3⟩
    refine ite2 (fun _ => ins) fun _ => ite2 (fun _ => ins) fun _ => ite2 (fun _ => ⟨by omega, by omega, by omega, q _ _ (by rw [List.length_append, c1, c3]; omega) s3⟩) fun _ => ite2 (fun _ => ⟨by omega, by omega, by omega, by omega, q _ _ (by rw [List.length_append, l1, c3]; omega) s3⟩) fun _ => ite2 (fun _ => ?_) fun _ => q _ _ (by omega) s3
    exact use_cell7 (s3.seq hS) (by decide) fun c => use_odd7 fun l H' hl h' => q _ _ (by omega) (s3.trans h')
theorem use_shown_steps7 {p : Addr} {xs : List V} {ss : List St3} {H : Hp} {Q : VK} {E : XK} (hp : H p = some (.lst xs)) (hs : StA H xs ss) (hl : ss.length ≤ 1000) (h : ∀ H', Same H H' → Q (.str (tx (shSs ss))) H') : sp_shown_steps [.ref p] H Q E := ⟨p, xs, ss, rfl, hp, hs, hl, h⟩
def sp_law (K : PySem.W.Frag) : Sp := fun vs H Q _ => ∃ (a : Addr) (ns : List Int), vs = [.ref a] ∧ SqL K H a (ns.map V.int) ∧ ∀ H', Q (.bl true) H'
theorem okS_len {l : List Nat} {ss : List St3} (hl : l.length ≤ 900) (h : OkS l ss) : ss.length ≤ 901 := by
  rcases h with ⟨_, rfl⟩ | ⟨_, h⟩
  · decide
  · have := h.1
    have := splitL_len 32 l
    omega
theorem sc_law : FnScope ["_law_script", "_law_text_here", "_law_due_here", "_law_turn", "_law_found", "_law_refused"] ["_law_script"] (defScope s_law) := ⟨rfl, rfl, rfl, by decide +kernel, rfl, by decide +kernel, by decide +kernel⟩
def LwI (l : List Nat) (a : Addr) (d : V) (H0 : Hp) (σ : L2.St) (H' : Hp) : Prop := ∃ v3 v4 v5, Same H0 H' ∧ σ = [some (.ref a), some (.str (tx l)), some d, v3, v4, v5]
def DdI (l : List Nat) (a : Addr) (σ : L2.St) (H' : Hp) : Prop := ∃ d : V, ((d = .non ∧ BadS l) ∨ ∃ D xs ss, d = .ref D ∧ OkS l ss ∧ H' D = some (.lst xs) ∧ StA H' xs ss) ∧ σ = [some (.ref a), some (.str (tx l)), some d, none, none, none]
def AkI (l : List Nat) (a : Addr) (d : V) (H0 : Hp) (σ : L2.St) (H' : Hp) : Prop := ∃ v3 x b, Same H0 H' ∧ ((x = .non ∧ b = true ∧ BadS l) ∨ ∃ D xs ss, x = .ref D ∧ b = false ∧ OkS l ss ∧ H0 D = none ∧ H' D = some (.lst xs) ∧ StA H' xs ss) ∧ σ = [some (.ref a), some (.str (tx l)), some d, v3, some x, some (.bl b)]
theorem ok_law {f : Addr} {fd : FuncData} (B : Bt mg) (F : Fun K "law" "law" s_law f fd) (D_text : Df P w K mg base CX0 2 "_law_text" ["_law_script"] [] (sp_text7 K)) (D_due : Df P w K mg base CX0 3 "_law_due" ["_law_text_here"] [] sp_due7) (D_asked : Df P w K mg base CX0 6 "_law_asked" ["_law_text_here"] [] sp_asked7) (D_alike : Df P w K mg base CX0 2 "_law_alike" ["_law_found", "_law_due_here"] [] sp_alike7) (D_shown_steps : Df P w K mg base CX0 3 "shown_steps" ["steps"] [] sp_shown_steps) : FnOk P w K mg base CX0 7 f fd ["_law_script"] (sp_law K) := by
  refine F.ok sc_law (fun vs H Q E h => ?_) (fun cdv A outer s H vs Q E hr h => ?_)
  · obtain ⟨a, ns, rfl, _⟩ := h
    rfl
  · obtain ⟨a, ns, rfl, hS, q⟩ := h
    refine ⟨_, (pss_cut (ps_set (i := 1) sc_law.nd rfl (Or.inl rfl) (cl0 D_text hr .nil rfl (pa_cons (pv 0) pa_nil)))
      (pss_cut (ps_set (i := 2) sc_law.nd rfl (Or.inl rfl) (cl0 D_due hr .nil rfl (pa_cons (pv 1) pa_nil)))
      (pss_cons (ps_for PassesOwn.never rfl (pi_range1 rfl B.range (pa_cons pe_int pa_nil)) (pg_name (i := 3) sc_law.nd rfl (Or.inl rfl))
        (pss_cut (ps_asg (cl0 D_asked hr .nil rfl (pa_cons (pv 1) pa_nil)) (pg_tup (n := 2) rfl (pgs_cons (pg_name (i := 4) sc_law.nd rfl (Or.inl rfl)) (pgs_cons (pg_name (i := 5) sc_law.nd rfl (Or.inl rfl)) pgs_nil))))
        (pss_one (ps_if (pt_cmpR op_isN' (pv 2) pe_non (nomark _))
          (pss_one (ps_if (PW.pt (pw_or (pt_cmpR op_notN' (pv 4) pe_non (nomark _)) (pw_or1 (pt_not (pt_truth (pv 5) (fun _ => rfl))))))
            (pss_one (ps_ret pe_bl))
            pss_nil))
          (pss_cons (ps_if (PW.pt (pw_or (pt_truth (pv 5) (fun _ => rfl)) (pw_or (pt_not (pt_truth (cl0 D_alike hr .nil rfl (pa_cons (pv 4) (pa_cons (pv 2) pa_nil))) (fun _ => rfl))) (pw_or1 (pt_cmpR op_ne (cl0 D_shown_steps hr .nil rfl (pa_cons (pv 4) pa_nil)) (pv 1) (nomark _))))))
            (pss_one (ps_ret pe_bl))
            pss_nil)
          (pss_one (ps_expr (pe_bm PySem.F.plainAttrs_list PySem.F.slot_list_append PySem.F.type_list_append mt_append (pv 4) (pa_cons (pe_tup (pa_cons pe_int (pa_cons pe_int (pa_cons pe_bl pa_nil)))) pa_nil)))))))))
      (pss_one (ps_ret pe_bl))))), ?_⟩
    have s16 := sl16
    refine cut_by (fun σ H' => ∃ l : List Nat, l.length ≤ 900 ∧ Same H H' ∧ σ = [some (.ref a), some (.str (tx l)), none, none, none, none]) ?_ ?_
    · rfl'
      exact use_text7 hS fun l H' hl h' => ⟨l, hl, h', rfl⟩
    rintro σ H1 ⟨l, hl, s1, rfl⟩
    refine cut_by (DdI l a) ?_ ?_
    · rfl'
      exact use_due7 hl (fun D xs ss H' _ ok hs hH hst => ⟨_, .inr ⟨D, xs, ss, rfl, ok, hH, hst⟩, rfl⟩) fun bad H' hs => ⟨_, .inl ⟨rfl, bad⟩, rfl⟩
    rintro σ H2 ⟨d, hd, rfl⟩
    rfl'
    refine ⟨by decide, by decide, ?_⟩
    refine ForR.by (fun i σ H' => LwI l a d H2 σ H') ⟨none, none, none, .refl _, rfl⟩ ?_ ?_
    · rintro i σ H' hi ⟨v3, v4, v5, hs, rfl⟩
      simp only [gName]
      refine cut_by (AkI l a d H') ?_ ?_
      · rfl'
        refine use_asked7 (by omega) (fun D xs ss p H3 hD ok h3 hH hst hp => ?_) fun bad p H3 h3 hp => ?_
        · exact ⟨p, rfl, _, SqT.of hp, rfl, _, _, rfl, _, _, rfl, rfl, _, _, _, h3, .inr ⟨D, xs, ss, rfl, rfl, ok, hD, hH, hst⟩, rfl⟩
        · exact ⟨p, rfl, _, SqT.of hp, rfl, _, _, rfl, _, _, rfl, rfl, _, _, _, h3, .inl ⟨rfl, rfl, bad⟩, rfl⟩
      rintro σ H3 ⟨v3', x, b, h3, hx, rfl⟩
      rcases hd with ⟨rfl, bad⟩ | ⟨D, xs, ss, rfl, ok, hH, hst⟩
      · rcases hx with ⟨rfl, rfl, _⟩ | ⟨D', xs', ss', rfl, rfl, ok', _⟩
        · rfl'
          exact ite2 (fun h => absurd trivial h) fun _ => ⟨_, _, _, hs.trans h3, rfl⟩
        · exact (okS_bad ok' bad).elim
      · rcases hx with ⟨rfl, rfl, bad⟩ | ⟨D', xs', ss', rfl, rfl, ok', hD', hH', hst'⟩
        · exact (okS_bad ok bad).elim
        · have es := okS_uniq ok' ok
          subst es
          rfl'
          have hn := okS_len hl ok
          have s23 := hs.trans h3
          have hl' := hst'.1
          refine use_alike7 hH' hst' (s23 _ _ hH) (hst.same s23) (by omega) ⟨true, rfl, iteM (use_shown_steps7 hH' hst' (by omega) fun H4 h4 => ?_)⟩
          rw [okS_shown ok]
          have hH4 := h4 _ _ hH'
          refine ⟨rfl, ite2 (fun h => absurd rfl h) fun _ => ⟨.inl ⟨_, SqL.of hH4⟩, by omega, fun p hp => ⟨_, same_upd hp _ _ hH4, by omega, _, _, _, ?_, rfl⟩⟩⟩
          exact same_over ((s23.trans h4).trans (same_upd hp)) (hs.free hD')
    · rintro σ H' ⟨v3, v4, v5, hs, rfl⟩
      rfl'
      exact q _
end
theorem len1 {us : List Value} (h : us.length = 1) : ∃ a, us = [a] := List.length_eq_one_iff.mp h
theorem len2 {us : List Value} (h : us.length = 2) : ∃ a0 a1, us = [a0, a1] := by
  cases us with
  | nil => cases h
  | cons a r =>
    obtain ⟨a1, rfl⟩ := len1 (Nat.succ.inj h)
    exact ⟨a, a1, rfl⟩
theorem len3 {us : List Value} (h : us.length = 3) : ∃ a0 a1 a2, us = [a0, a1, a2] := by
  cases us with
  | nil => cases h
  | cons a r =>
    obtain ⟨a1, a2, rfl⟩ := len2 (Nat.succ.inj h)
    exact ⟨a, a1, a2, rfl⟩
theorem len4 {us : List Value} (h : us.length = 4) : ∃ a0 a1 a2 a3, us = [a0, a1, a2, a3] := by
  cases us with
  | nil => cases h
  | cons a r =>
    obtain ⟨a1, a2, a3, rfl⟩ := len3 (Nat.succ.inj h)
    exact ⟨a, a1, a2, a3, rfl⟩
theorem len5 {us : List Value} (h : us.length = 5) : ∃ a0 a1 a2 a3 a4, us = [a0, a1, a2, a3, a4] := by
  cases us with
  | nil => cases h
  | cons a r =>
    obtain ⟨a1, a2, a3, a4, rfl⟩ := len4 (Nat.succ.inj h)
    exact ⟨a, a1, a2, a3, a4, rfl⟩
theorem len6 {us : List Value} (h : us.length = 6) : ∃ a0 a1 a2 a3 a4 a5, us = [a0, a1, a2, a3, a4, a5] := by
  cases us with
  | nil => cases h
  | cons a r =>
    obtain ⟨a1, a2, a3, a4, a5, rfl⟩ := len5 (Nat.succ.inj h)
    exact ⟨a, a1, a2, a3, a4, a5, rfl⟩
theorem len7 {us : List Value} (h : us.length = 7) : ∃ a0 a1 a2 a3 a4 a5 a6, us = [a0, a1, a2, a3, a4, a5, a6] := by
  cases us with
  | nil => cases h
  | cons a r =>
    obtain ⟨a1, a2, a3, a4, a5, a6, rfl⟩ := len6 (Nat.succ.inj h)
    exact ⟨a, a1, a2, a3, a4, a5, a6, rfl⟩
theorem all_mk {l : PySem.W.OpenLaw} {w : World} {K : PySem.W.Frag} {h : Heap} {mg : Str → Option Value} {fa f0 f1 f2 f3 f4 f5 f6 f7 f8 f9 f10 f11 f12 f13 f14 f15 f16 c_LetterError c_NoWord c_NoPact c_NoStep c_NoUse c_NoRow : Addr} (X : K.In h) (G : h.Ns mainGlobals mg) (hfa : mg "law" = some (.ref fa))
    {od0 an0 : Option Addr} {sl0 : Array (Option Value)} {oc0 kV0 dc0 pm0 cd0 ct0 : Value}
    {od1 an1 : Option Addr} {sl1 : Array (Option Value)} {oc1 kV1 dc1 pm1 cd1 ct1 : Value}
    {od2 an2 : Option Addr} {sl2 : Array (Option Value)} {oc2 kV2 dc2 pm2 cd2 ct2 : Value}
    {od3 an3 : Option Addr} {sl3 : Array (Option Value)} {oc3 kV3 dc3 pm3 cd3 ct3 : Value}
    {od4 an4 : Option Addr} {sl4 : Array (Option Value)} {oc4 kV4 dc4 pm4 cd4 ct4 : Value}
    {od5 an5 : Option Addr} {sl5 : Array (Option Value)} {oc5 kV5 dc5 pm5 cd5 ct5 : Value}
    {od6 an6 : Option Addr} {sl6 : Array (Option Value)} {oc6 kV6 dc6 pm6 cd6 ct6 : Value}
    {od7 an7 : Option Addr} {sl7 : Array (Option Value)} {oc7 kV7 dc7 pm7 cd7 ct7 : Value}
    {od8 an8 : Option Addr} {sl8 : Array (Option Value)} {oc8 kV8 dc8 pm8 cd8 ct8 : Value}
    {od9 an9 : Option Addr} {sl9 : Array (Option Value)} {oc9 kV9 dc9 pm9 cd9 ct9 : Value}
    {od10 an10 : Option Addr} {sl10 : Array (Option Value)} {oc10 kV10 dc10 pm10 cd10 ct10 : Value}
    {od11 an11 : Option Addr} {sl11 : Array (Option Value)} {oc11 kV11 dc11 pm11 cd11 ct11 : Value}
    {od12 an12 : Option Addr} {sl12 : Array (Option Value)} {oc12 kV12 dc12 pm12 cd12 ct12 : Value}
    {od13 an13 : Option Addr} {sl13 : Array (Option Value)} {oc13 kV13 dc13 pm13 cd13 ct13 : Value}
    {od14 an14 : Option Addr} {sl14 : Array (Option Value)} {oc14 kV14 dc14 pm14 cd14 ct14 : Value}
    {od15 an15 : Option Addr} {sl15 : Array (Option Value)} {oc15 kV15 dc15 pm15 cd15 ct15 : Value}
    {od16 an16 : Option Addr} {sl16 : Array (Option Value)} {oc16 kV16 dc16 pm16 cd16 ct16 : Value}
    {tE tFo tBa tMf tFi : Tok}
    (a0 : PySem.W.nsIn K mainGlobals "shown_step" = some (some (.ref f0))) (l0 : K.lookup f0 = some ⟨oc0, od0, .func (PySem.W.fnOf "shown_step" "shown_step" (defArgs s_shown_step) (defBody s_shown_step) (defScope s_shown_step) .none kV0 dc0 pm0 an0 cd0 ct0), sl0⟩) (k0 : PySem.W.codeIn K cd0 "shown_step" = true) (p0 : PySem.W.keepIn K (.ref f0) = true)
    (a1 : PySem.W.nsIn K mainGlobals "shown_steps" = some (some (.ref f1))) (l1 : K.lookup f1 = some ⟨oc1, od1, .func (PySem.W.fnOf "shown_steps" "shown_steps" (defArgs s_shown_steps) (defBody s_shown_steps) (defScope s_shown_steps) .none kV1 dc1 pm1 an1 cd1 ct1), sl1⟩) (k1 : PySem.W.codeIn K cd1 "shown_steps" = true) (p1 : PySem.W.keepIn K (.ref f1) = true)
    (a2 : PySem.W.nsIn K mainGlobals "is_number" = some (some (.ref f2))) (l2 : K.lookup f2 = some ⟨oc2, od2, .func (PySem.W.fnOf "is_number" "is_number" (defArgs s_is_number) (defBody s_is_number) (defScope s_is_number) .none kV2 dc2 pm2 an2 cd2 ct2), sl2⟩) (k2 : PySem.W.codeIn K cd2 "is_number" = true) (p2 : PySem.W.keepIn K (.ref f2) = true)
    (a3 : PySem.W.nsIn K mainGlobals "read_step" = some (some (.ref f3))) (l3 : K.lookup f3 = some ⟨oc3, od3, .func (PySem.W.fnOf "read_step" "read_step" (defArgs s_read_step) (defBody s_read_step) (defScope s_read_step) .none kV3 dc3 pm3 an3 cd3 ct3), sl3⟩) (k3 : PySem.W.codeIn K cd3 "read_step" = true) (p3 : PySem.W.keepIn K (.ref f3) = true)
    (a4 : PySem.W.nsIn K mainGlobals "read_steps" = some (some (.ref f4))) (l4 : K.lookup f4 = some ⟨oc4, od4, .func (PySem.W.fnOf "read_steps" "read_steps" (defArgs s_read_steps) (defBody s_read_steps) (defScope s_read_steps) .none kV4 dc4 pm4 an4 cd4 ct4), sl4⟩) (k4 : PySem.W.codeIn K cd4 "read_steps" = true) (p4 : PySem.W.keepIn K (.ref f4) = true)
    (a5 : PySem.W.nsIn K mainGlobals "_law_cell_at" = some (some (.ref f5))) (l5 : K.lookup f5 = some ⟨oc5, od5, .func (PySem.W.fnOf "_law_cell_at" "_law_cell_at" (defArgs s_cell_at) (defBody s_cell_at) (defScope s_cell_at) .none kV5 dc5 pm5 an5 cd5 ct5), sl5⟩) (k5 : PySem.W.codeIn K cd5 "_law_cell_at" = true) (p5 : PySem.W.keepIn K (.ref f5) = true)
    (a6 : PySem.W.nsIn K mainGlobals "_law_whole" = some (some (.ref f6))) (l6 : K.lookup f6 = some ⟨oc6, od6, .func (PySem.W.fnOf "_law_whole" "_law_whole" (defArgs s_whole) (defBody s_whole) (defScope s_whole) .none kV6 dc6 pm6 an6 cd6 ct6), sl6⟩) (k6 : PySem.W.codeIn K cd6 "_law_whole" = true) (p6 : PySem.W.keepIn K (.ref f6) = true)
    (a7 : PySem.W.nsIn K mainGlobals "_law_written" = some (some (.ref f7))) (l7 : K.lookup f7 = some ⟨oc7, od7, .func (PySem.W.fnOf "_law_written" "_law_written" (defArgs s_written) (defBody s_written) (defScope s_written) .none kV7 dc7 pm7 an7 cd7 ct7), sl7⟩) (k7 : PySem.W.codeIn K cd7 "_law_written" = true) (p7 : PySem.W.keepIn K (.ref f7) = true)
    (a8 : PySem.W.nsIn K mainGlobals "_law_odd_text" = some (some (.ref f8))) (l8 : K.lookup f8 = some ⟨oc8, od8, .func (PySem.W.fnOf "_law_odd_text" "_law_odd_text" (defArgs s_odd_text) (defBody s_odd_text) (defScope s_odd_text) .none kV8 dc8 pm8 an8 cd8 ct8), sl8⟩) (k8 : PySem.W.codeIn K cd8 "_law_odd_text" = true) (p8 : PySem.W.keepIn K (.ref f8) = true)
    (a9 : PySem.W.nsIn K mainGlobals "_law_text" = some (some (.ref f9))) (l9 : K.lookup f9 = some ⟨oc9, od9, .func (PySem.W.fnOf "_law_text" "_law_text" (defArgs s_text) (defBody s_text) (defScope s_text) .none kV9 dc9 pm9 an9 cd9 ct9), sl9⟩) (k9 : PySem.W.codeIn K cd9 "_law_text" = true) (p9 : PySem.W.keepIn K (.ref f9) = true)
    (a10 : PySem.W.nsIn K mainGlobals "_law_number" = some (some (.ref f10))) (l10 : K.lookup f10 = some ⟨oc10, od10, .func (PySem.W.fnOf "_law_number" "_law_number" (defArgs s_number) (defBody s_number) (defScope s_number) .none kV10 dc10 pm10 an10 cd10 ct10), sl10⟩) (k10 : PySem.W.codeIn K cd10 "_law_number" = true) (p10 : PySem.W.keepIn K (.ref f10) = true)
    (a11 : PySem.W.nsIn K mainGlobals "_law_step" = some (some (.ref f11))) (l11 : K.lookup f11 = some ⟨oc11, od11, .func (PySem.W.fnOf "_law_step" "_law_step" (defArgs s_step) (defBody s_step) (defScope s_step) .none kV11 dc11 pm11 an11 cd11 ct11), sl11⟩) (k11 : PySem.W.codeIn K cd11 "_law_step" = true) (p11 : PySem.W.keepIn K (.ref f11) = true)
    (a12 : PySem.W.nsIn K mainGlobals "_law_due" = some (some (.ref f12))) (l12 : K.lookup f12 = some ⟨oc12, od12, .func (PySem.W.fnOf "_law_due" "_law_due" (defArgs s_due) (defBody s_due) (defScope s_due) .none kV12 dc12 pm12 an12 cd12 ct12), sl12⟩) (k12 : PySem.W.codeIn K cd12 "_law_due" = true) (p12 : PySem.W.keepIn K (.ref f12) = true)
    (a13 : PySem.W.nsIn K mainGlobals "_law_another" = some (some (.ref f13))) (l13 : K.lookup f13 = some ⟨oc13, od13, .func (PySem.W.fnOf "_law_another" "_law_another" (defArgs s_another) (defBody s_another) (defScope s_another) .none kV13 dc13 pm13 an13 cd13 ct13), sl13⟩) (k13 : PySem.W.codeIn K cd13 "_law_another" = true) (p13 : PySem.W.keepIn K (.ref f13) = true)
    (a14 : PySem.W.nsIn K mainGlobals "_law_asked" = some (some (.ref f14))) (l14 : K.lookup f14 = some ⟨oc14, od14, .func (PySem.W.fnOf "_law_asked" "_law_asked" (defArgs s_asked) (defBody s_asked) (defScope s_asked) .none kV14 dc14 pm14 an14 cd14 ct14), sl14⟩) (k14 : PySem.W.codeIn K cd14 "_law_asked" = true) (p14 : PySem.W.keepIn K (.ref f14) = true)
    (a15 : PySem.W.nsIn K mainGlobals "_law_alike" = some (some (.ref f15))) (l15 : K.lookup f15 = some ⟨oc15, od15, .func (PySem.W.fnOf "_law_alike" "_law_alike" (defArgs s_alike) (defBody s_alike) (defScope s_alike) .none kV15 dc15 pm15 an15 cd15 ct15), sl15⟩) (k15 : PySem.W.codeIn K cd15 "_law_alike" = true) (p15 : PySem.W.keepIn K (.ref f15) = true)
    (a16 : PySem.W.nsIn K mainGlobals "law" = some (some (.ref f16))) (l16 : K.lookup f16 = some ⟨oc16, od16, .func (PySem.W.fnOf "law" "law" (defArgs s_law) (defBody s_law) (defScope s_law) .none kV16 dc16 pm16 an16 cd16 ct16), sl16⟩) (k16 : PySem.W.codeIn K cd16 "law" = true) (p16 : PySem.W.keepIn K (.ref f16) = true)
    (g_LetterError : PySem.W.nsIn K mainGlobals "LetterError" = some (some (.ref c_LetterError)))
    (g_NoWord : PySem.W.nsIn K mainGlobals "NoWord" = some (some (.ref c_NoWord)))
    (g_NoPact : PySem.W.nsIn K mainGlobals "NoPact" = some (some (.ref c_NoPact)))
    (g_NoStep : PySem.W.nsIn K mainGlobals "NoStep" = some (some (.ref c_NoStep)))
    (g_NoUse : PySem.W.nsIn K mainGlobals "NoUse" = some (some (.ref c_NoUse)))
    (g_NoRow : PySem.W.nsIn K mainGlobals "NoRow" = some (some (.ref c_NoRow)))
    (z1 : xcIn K c_NoStep = true)
    (z2 : PySem.W.findIn K (.ref c_NoStep) "__setattr__" = some (some (.builtin "object.__setattr__")))
    (z3 : PySem.W.findIn K (.ref c_NoStep) "__getattribute__" = some (some (.builtin "BaseException.__getattribute__")))
    (z4 : PySem.W.findIn K (.ref c_NoStep) "__getattr__" = some none)
    (z5 : PySem.W.keepIn K (.ref c_NoStep) = true)
    (z6 : PySem.W.findIn K (.ref c_NoStep) "__class__" = some (some (.builtin "object.__class__")))
    (x7 : PySem.W.specialIn K (.builtin "object.__class__") "__get__" = some (some (.builtin "getset_descriptor.__get__")))
    (x8 : PySem.W.takesIn K (.builtin "object.__class__") = some true)
    (z9 : PySem.W.mroIn K c_NoStep (.type "object") = some true)
    (zi : PySem.W.findIn K (.ref c_NoStep) "__init__" = some (some (.builtin "ValueError.__init__")))
    (gE : PySem.W.nsIn K mainGlobals "EMPTY" = some (some (.str "." tE)))
    (gFo : PySem.W.nsIn K mainGlobals "FORTH" = some (some (.str ">" tFo)))
    (gBa : PySem.W.nsIn K mainGlobals "BACK" = some (some (.str "<" tBa)))
    (gMf : PySem.W.nsIn K mainGlobals "MOST_FIGURES" = some (some (.int 4 tMf)))
    (gFi : PySem.W.nsIn K mainGlobals "FIGURES" = some (some (.str "0123456789" tFi)))
    (n1 : PySem.W.kitOne K (.ref c_NoStep) (.ref c_NoPact) = some false)
    (n2 : PySem.W.kitOne K (.ref c_NoStep) (.ref c_NoWord) = some false)
    (n3 : PySem.W.kitOne K (.ref c_NoStep) (.ref c_NoUse) = some false)
    (n4 : PySem.W.kitOne K (.ref c_NoStep) (.ref c_NoRow) = some false)
    (nL : PySem.W.kitOne K (.ref c_NoStep) (.ref c_LetterError) = some true)
    (nV : PySem.W.kitOne K (.ref c_NoStep) (.type "ValueError") = some true)
    (sub : PySem.W.subIn K (.ref c_NoStep) (.ref c_NoStep) = some true)
    (kbb : PySem.W.kitOne K (.type "bool") (.type "bool") = some true)
    (kl : PySem.W.kitOne K (.type "list") (.type "list") = some true)
    (kt : PySem.W.kitOne K (.type "tuple") (.type "tuple") = some true)
    (ki : PySem.W.kitOne K (.type "int") (.type "int") = some true)
    (kb : PySem.W.kitOne K (.type "int") (.type "bool") = some false)
    (b0 : PySem.W.nsIn K mainGlobals "len" = some none)
    (b1 : PySem.W.nsIn K mainGlobals "range" = some none)
    (b2 : PySem.W.nsIn K mainGlobals "isinstance" = some none)
    (b3 : PySem.W.nsIn K mainGlobals "str" = some none)
    (b4 : PySem.W.nsIn K mainGlobals "int" = some none)
    (b5 : PySem.W.nsIn K mainGlobals "tuple" = some none)
    (b6 : PySem.W.nsIn K mainGlobals "list" = some none)
    (b7 : PySem.W.nsIn K mainGlobals "bool" = some none)
    (b8 : PySem.W.nsIn K mainGlobals "enumerate" = some none)
    (b9 : PySem.W.nsIn K mainGlobals "all" = some none)
    (b10 : PySem.W.nsIn K mainGlobals "ValueError" = some none)
    (b11 : PySem.W.nsIn K mainGlobals "max" = some none)
    (b12 : PySem.W.nsIn K mainGlobals "reversed" = some none)
    (b13 : PySem.W.nsIn K mainGlobals "zip" = some none)
    (b14 : PySem.W.nsIn K mainGlobals "sum" = some none)
    (b15 : PySem.W.nsIn K mainGlobals "sorted" = some none)
    : ∃ fd : FuncData, (∀ (s : Shared) (v : Value), BindsTo s fd ⟨[v], []⟩ [("_law_script", v)]) ∧ ∀ base : Heap, K.In base → base.Ns mainGlobals mg → FnOk l.prog w K mg base CX0 7 fa fd ["_law_script"] (sp_law K) := by
  have e := hfa.symm.trans (PySem.W.mg_of X G a16)
  cases e
  have B : Bt mg := ⟨PySem.W.mg_none_of X G b0, PySem.W.mg_none_of X G b1, PySem.W.mg_none_of X G b2, PySem.W.mg_none_of X G b3, PySem.W.mg_none_of X G b4, PySem.W.mg_none_of X G b5, PySem.W.mg_none_of X G b6, PySem.W.mg_none_of X G b7, PySem.W.mg_none_of X G b8, PySem.W.mg_none_of X G b9, PySem.W.mg_none_of X G b10, PySem.W.mg_none_of X G b11, PySem.W.mg_none_of X G b12, PySem.W.mg_none_of X G b13, PySem.W.mg_none_of X G b14, PySem.W.mg_none_of X G b15⟩
  have F0 := fun_mk (st := s_shown_step) l0 k0 p0
  have B0 := F0.binds (ps := ["step"]) fun _ _ _ _ _ _ us hl => by obtain ⟨_, rfl⟩ := len1 hl; rfl
  have M0 := PySem.W.mg_of X G a0
  have F1 := fun_mk (st := s_shown_steps) l1 k1 p1
  have B1 := F1.binds (ps := ["steps"]) fun _ _ _ _ _ _ us hl => by obtain ⟨_, rfl⟩ := len1 hl; rfl
  have M1 := PySem.W.mg_of X G a1
  have F2 := fun_mk (st := s_is_number) l2 k2 p2
  have B2 := F2.binds (ps := ["text", "most"]) fun _ _ _ _ _ _ us hl => by obtain ⟨_, _, rfl⟩ := len2 hl; rfl
  have M2 := PySem.W.mg_of X G a2
  have F3 := fun_mk (st := s_read_step) l3 k3 p3
  have B3 := F3.binds (ps := ["text"]) fun _ _ _ _ _ _ us hl => by obtain ⟨_, rfl⟩ := len1 hl; rfl
  have M3 := PySem.W.mg_of X G a3
  have F4 := fun_mk (st := s_read_steps) l4 k4 p4
  have B4 := F4.binds (ps := ["text"]) fun _ _ _ _ _ _ us hl => by obtain ⟨_, rfl⟩ := len1 hl; rfl
  have M4 := PySem.W.mg_of X G a4
  have F5 := fun_mk (st := s_cell_at) l5 k5 p5
  have B5 := F5.binds (ps := ["_law_script", "_law_k"]) fun _ _ _ _ _ _ us hl => by obtain ⟨_, _, rfl⟩ := len2 hl; rfl
  have M5 := PySem.W.mg_of X G a5
  have F6 := fun_mk (st := s_whole) l6 k6 p6
  have B6 := F6.binds (ps := ["_law_found"]) fun _ _ _ _ _ _ us hl => by obtain ⟨_, rfl⟩ := len1 hl; rfl
  have M6 := PySem.W.mg_of X G a6
  have F7 := fun_mk (st := s_written) l7 k7 p7
  have B7 := F7.binds (ps := ["_law_cell"]) fun _ _ _ _ _ _ us hl => by obtain ⟨_, rfl⟩ := len1 hl; rfl
  have M7 := PySem.W.mg_of X G a7
  have F8 := fun_mk (st := s_odd_text) l8 k8 p8
  have B8 := F8.binds (ps := ["_law_cell"]) fun _ _ _ _ _ _ us hl => by obtain ⟨_, rfl⟩ := len1 hl; rfl
  have M8 := PySem.W.mg_of X G a8
  have F9 := fun_mk (st := s_text) l9 k9 p9
  have B9 := F9.binds (ps := ["_law_script"]) fun _ _ _ _ _ _ us hl => by obtain ⟨_, rfl⟩ := len1 hl; rfl
  have M9 := PySem.W.mg_of X G a9
  have F10 := fun_mk (st := s_number) l10 k10 p10
  have B10 := F10.binds (ps := ["_law_figures"]) fun _ _ _ _ _ _ us hl => by obtain ⟨_, rfl⟩ := len1 hl; rfl
  have M10 := PySem.W.mg_of X G a10
  have F11 := fun_mk (st := s_step) l11 k11 p11
  have B11 := F11.binds (ps := ["_law_text_here"]) fun _ _ _ _ _ _ us hl => by obtain ⟨_, rfl⟩ := len1 hl; rfl
  have M11 := PySem.W.mg_of X G a11
  have F12 := fun_mk (st := s_due) l12 k12 p12
  have B12 := F12.binds (ps := ["_law_text_here"]) fun _ _ _ _ _ _ us hl => by obtain ⟨_, rfl⟩ := len1 hl; rfl
  have M12 := PySem.W.mg_of X G a12
  have F13 := fun_mk (st := s_another) l13 k13 p13
  have B13 := F13.binds (ps := ["_law_e"]) fun _ _ _ _ _ _ us hl => by obtain ⟨_, rfl⟩ := len1 hl; rfl
  have M13 := PySem.W.mg_of X G a13
  have F14 := fun_mk (st := s_asked) l14 k14 p14
  have B14 := F14.binds (ps := ["_law_text_here"]) fun _ _ _ _ _ _ us hl => by obtain ⟨_, rfl⟩ := len1 hl; rfl
  have M14 := PySem.W.mg_of X G a14
  have F15 := fun_mk (st := s_alike) l15 k15 p15
  have B15 := F15.binds (ps := ["_law_found", "_law_due_here"]) fun _ _ _ _ _ _ us hl => by obtain ⟨_, _, rfl⟩ := len2 hl; rfl
  have M15 := PySem.W.mg_of X G a15
  have F16 := fun_mk (st := s_law) l16 k16 p16
  have B16 := F16.binds (ps := ["_law_script"]) fun _ _ _ _ _ _ us hl => by obtain ⟨_, rfl⟩ := len1 hl; rfl
  have M16 := PySem.W.mg_of X G a16
  refine ⟨PySem.W.fnOf "law" "law" (defArgs s_law) (defBody s_law) (defScope s_law) .none kV16 dc16 pm16 an16 cd16 ct16, fun s v => .of_eq rfl, fun base _ _ => ?_⟩
  have XI3 : XI K c_NoStep := ⟨⟨z1, z2, z3, z4, z5⟩, z6, x7, x8, z9⟩
  have T3 : TNS K mg c_NoStep := ⟨XI3, PySem.W.mg_of X G g_NoStep, zi, ⟨_, PySem.W.mg_of X G gFo⟩, ⟨_, PySem.W.mg_of X G gBa⟩⟩
  have TS : TSh mg := ⟨⟨_, PySem.W.mg_of X G gE⟩, ⟨_, PySem.W.mg_of X G gFo⟩, ⟨_, PySem.W.mg_of X G gBa⟩⟩
  have TN : TNum mg := ⟨⟨_, PySem.W.mg_of X G gMf⟩, ⟨_, PySem.W.mg_of X G gFi⟩⟩
  have TK : TK7 K := ⟨kt, kbb, kl⟩
  have TA : TAn K mg c_NoStep c_NoPact c_NoWord c_NoUse c_NoRow c_LetterError := ⟨PySem.W.mg_of X G g_NoPact, PySem.W.mg_of X G g_NoWord, PySem.W.mg_of X G g_NoUse, PySem.W.mg_of X G g_NoRow, PySem.W.mg_of X G g_LetterError, n1, n2, n3, n4, nL, nV⟩
  have D0 : Df l.prog w K mg base CX0 1 "shown_step" ["step"] [] sp_shown_step := ⟨_, _, ok_shown_step B TS F0, M0, p0, B0⟩
  have D1 : Df l.prog w K mg base CX0 3 "shown_steps" ["steps"] [] sp_shown_steps := ⟨_, _, ok_shown_steps B TS F1 D0, M1, p1, B1⟩
  have D2 : Df l.prog w K mg base CX0 1 "is_number" ["text", "most"] [] sp_is_number := ⟨_, _, ok_is_number B TN F2, M2, p2, B2⟩
  have D3 : Df l.prog w K mg base (CXx l.prog w) 3 "read_step" ["text"] [] (sp_read_step c_NoStep) := ⟨_, _, ok_read_step B T3 TN F3 D2, M3, p3, B3⟩
  have D4 : Df l.prog w K mg base (CXx l.prog w) 5 "read_steps" ["text"] [] (sp_read_steps c_NoStep) := ⟨_, _, ok_read_steps TS F4 D3, M4, p4, B4⟩
  have D5 : Df l.prog w K mg base CX0 1 "_law_cell_at" ["_law_script", "_law_k"] [] (sp_cell_at K) := ⟨_, _, ok_cell_at B F5, M5, p5, B5⟩
  have D6 : Df l.prog w K mg base CX0 1 "_law_whole" ["_law_found"] [] sp_whole := ⟨_, _, ok_whole B ⟨ki, kb⟩ F6, M6, p6, B6⟩
  have D7 : Df l.prog w K mg base CX0 1 "_law_written" ["_law_cell"] [] sp_written7 := ⟨_, _, ok_written7 B F7, M7, p7, B7⟩
  have D8 : Df l.prog w K mg base CX0 1 "_law_odd_text" ["_law_cell"] [] sp_odd7 := ⟨_, _, ok_odd7 B F8, M8, p8, B8⟩
  have D9 : Df l.prog w K mg base CX0 2 "_law_text" ["_law_script"] [] (sp_text7 K) := ⟨_, _, ok_text7 B F9 D7 D5 D8, M9, p9, B9⟩
  have D10 : Df l.prog w K mg base CX0 1 "_law_number" ["_law_figures"] [] sp_number := ⟨_, _, ok_number B F10, M10, p10, B10⟩
  have D11 : Df l.prog w K mg base CX0 2 "_law_step" ["_law_text_here"] [] sp_step7 := ⟨_, _, ok_step7 B F11 D10, M11, p11, B11⟩
  have D12 : Df l.prog w K mg base CX0 3 "_law_due" ["_law_text_here"] [] sp_due7 := ⟨_, _, ok_due7 B F12 D11, M12, p12, B12⟩
  have D13 : DfH l.prog w K mg base 1 "_law_another" ["_law_e"] (sp_another c_NoStep) := ⟨_, _, ok_another B XI3 TA F13, M13, p13, B13⟩
  have D14 : Df l.prog w K mg base CX0 6 "_law_asked" ["_law_text_here"] [] sp_asked7 := ⟨_, _, ok_asked7 B T3 sub F14 D4 D13, M14, p14, B14⟩
  have D15 : Df l.prog w K mg base CX0 2 "_law_alike" ["_law_found", "_law_due_here"] [] sp_alike7 := ⟨_, _, ok_alike7 B TK F15 D6, M15, p15, B15⟩
  exact ok_law B F16 D9 D12 D14 D15 D1
theorem walk {l : PySem.W.OpenLaw} {q : Program} {loose : List Str} {XP : (Str → Option Value) → Heap → Prop} {YP : World → Heap → Prop} {d : DefRec} {K : Params → PySem.W.Frag} (hn : l.most = some 63) (hdf : d.params.defaults = [])
    (hY : ∀ (w : World) (h : Heap), YP w h → (K w.params).In h)
    (F : ∀ (w : World) (mg : Str → Option Value) (fa : Addr) (h : Heap), (K w.params).In h → h.Ns mainGlobals mg → mg d.name = some (.ref fa) →
      ∃ fd : FuncData, (∀ (s : Shared) (u : Value), BindsTo s fd ⟨[u], []⟩ [("_law_script", u)]) ∧ ∀ base : Heap, (K w.params).In base → base.Ns mainGlobals mg → FnOk l.prog w (K w.params) mg base CX0 7 fa fd ["_law_script"] (sp_law (K w.params))) :
    PySem.W.WalkO q loose XP YP l.row.toRowW d [] (fun f vs => PySem.call f vs) :=
  L2.walk_of (n := 63) (k := 7) (x := "_law_script") (CX := fun _ => CX0) (sp := fun w => sp_law (K w.params)) hn (by decide) hdf ⟨rfl, by decide, by decide⟩ hY F (fun _ _ a ns hl hB hS => ⟨a, ns, rfl, hS, fun _ => rfl⟩) fun _ _ _ _ _ z => z
end LL
open PySem PySem.W PyProof.Rows
set_option maxRecDepth 100000 in
set_option maxHeartbeats 0 in
theorem PySem.Challenge.cw_letterlaw_k07_steps_read_holds : PySem.Challenge.rw_letterlaw_k07_steps_read.Holds := by
  w_on; o_law; k_head; (case hw => w_witness2)
  k_fill
  refine LL.walk (l := PySem.Challenge.rw_letterlaw_k07_steps_read) rfl rfl (fun w h Y => PySem.W.kIn_of Y) ?F
  case F =>
    intro w mg fa h KX G hmg
    refine' LL.all_mk KX G hmg ?a0 ?l0 ?k0 ?p0 ?a1 ?l1 ?k1 ?p1 ?a2 ?l2 ?k2 ?p2 ?a3 ?l3 ?k3 ?p3 ?a4 ?l4 ?k4 ?p4 ?a5 ?l5 ?k5 ?p5 ?a6 ?l6 ?k6 ?p6 ?a7 ?l7 ?k7 ?p7 ?a8 ?l8 ?k8 ?p8 ?a9 ?l9 ?k9 ?p9 ?a10 ?l10 ?k10 ?p10 ?a11 ?l11 ?k11 ?p11 ?a12 ?l12 ?k12 ?p12 ?a13 ?l13 ?k13 ?p13 ?a14 ?l14 ?k14 ?p14 ?a15 ?l15 ?k15 ?p15 ?a16 ?l16 ?k16 ?p16 ?g_LetterError ?g_NoWord ?g_NoPact ?g_NoStep ?g_NoUse ?g_NoRow ?z1 ?z2 ?z3 ?z4 ?z5 ?z6 ?x7 ?x8 ?z9 ?zi ?gE ?gFo ?gBa ?gMf ?gFi ?n1 ?n2 ?n3 ?n4 ?nL ?nV ?sub ?kbb ?kl ?kt ?ki ?kb ?b0 ?b1 ?b2 ?b3 ?b4 ?b5 ?b6 ?b7 ?b8 ?b9 ?b10 ?b11 ?b12 ?b13 ?b14 ?b15
    (case a0 => k_is)
    (case l0 => k_is)
    (case k0 => k_is)
    (case p0 => k_is)
    (case a1 => k_is)
    (case l1 => k_is)
    (case k1 => k_is)
    (case p1 => k_is)
    (case a2 => k_is)
    (case l2 => k_is)
    (case k2 => k_is)
    (case p2 => k_is)
    (case a3 => k_is)
    (case l3 => k_is)
    (case k3 => k_is)
    (case p3 => k_is)
    (case a4 => k_is)
    (case l4 => k_is)
    (case k4 => k_is)
    (case p4 => k_is)
    (case a5 => k_is)
    (case l5 => k_is)
    (case k5 => k_is)
    (case p5 => k_is)
    (case a6 => k_is)
    (case l6 => k_is)
    (case k6 => k_is)
    (case p6 => k_is)
    (case a7 => k_is)
    (case l7 => k_is)
    (case k7 => k_is)
    (case p7 => k_is)
    (case a8 => k_is)
    (case l8 => k_is)
    (case k8 => k_is)
    (case p8 => k_is)
    (case a9 => k_is)
    (case l9 => k_is)
    (case k9 => k_is)
    (case p9 => k_is)
    (case a10 => k_is)
    (case l10 => k_is)
    (case k10 => k_is)
    (case p10 => k_is)
    (case a11 => k_is)
    (case l11 => k_is)
    (case k11 => k_is)
    (case p11 => k_is)
    (case a12 => k_is)
    (case l12 => k_is)
    (case k12 => k_is)
    (case p12 => k_is)
    (case a13 => k_is)
    (case l13 => k_is)
    (case k13 => k_is)
    (case p13 => k_is)
    (case a14 => k_is)
    (case l14 => k_is)
    (case k14 => k_is)
    (case p14 => k_is)
    (case a15 => k_is)
    (case l15 => k_is)
    (case k15 => k_is)
    (case p15 => k_is)
    (case a16 => k_is)
    (case l16 => k_is)
    (case k16 => k_is)
    (case p16 => k_is)
    (case g_LetterError => k_is)
    (case g_NoWord => k_is)
    (case g_NoPact => k_is)
    (case g_NoStep => k_is)
    (case g_NoUse => k_is)
    (case g_NoRow => k_is)
    (case z1 => first | kernel_rfl | rfl | decide +kernel)
    (case z2 => k_is)
    (case z3 => k_is)
    (case z4 => k_is)
    (case z5 => k_is)
    (case z6 => k_is)
    (case x7 => k_is)
    (case x8 => k_is)
    (case z9 => k_is)
    (case zi => k_is)
    (case gE => k_is)
    (case gFo => k_is)
    (case gBa => k_is)
    (case gMf => k_is)
    (case gFi => k_is)
    (case n1 => first | kernel_rfl | rfl)
    (case n2 => first | kernel_rfl | rfl)
    (case n3 => first | kernel_rfl | rfl)
    (case n4 => first | kernel_rfl | rfl)
    (case nL => first | kernel_rfl | rfl)
    (case nV => first | kernel_rfl | rfl)
    (case sub => k_is)
    (case kbb => first | kernel_rfl | rfl)
    (case kl => first | kernel_rfl | rfl)
    (case kt => first | kernel_rfl | rfl)
    (case ki => first | kernel_rfl | rfl)
    (case kb => first | kernel_rfl | rfl)
    (case b0 => k_is)
    (case b1 => k_is)
    (case b2 => k_is)
    (case b3 => k_is)
    (case b4 => k_is)
    (case b5 => k_is)
    (case b6 => k_is)
    (case b7 => k_is)
    (case b8 => k_is)
    (case b9 => k_is)
    (case b10 => k_is)
    (case b11 => k_is)
    (case b12 => k_is)
    (case b13 => k_is)
    (case b14 => k_is)
    (case b15 => k_is)
#print axioms PySem.Challenge.cw_letterlaw_k07_steps_read_holds
