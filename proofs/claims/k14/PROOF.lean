import PyProof.Rows.All
import Wide.All
import OpenK.AllK
import Wide.FinOn
import PyProof.EqAt
import PyProof.EqKinds
import PyProof.NeKinds
import PyProof.TupleCall
import KE.KRevIter
import PyProof.ZipIter
import PyProof.Rows.SetFrom
import PyProof.StrWalks
import PyProof.DictStraight
import PyProof.StrLawsFrom
import PyProof.Rows.StrNews2
import KE.KMinBuiltin
import PyProof.Rows.CallKwBuiltin
import PyProof.Rows.SortShell
import KE.KSortTup
import KE.KBoundM
import Lean
import PySem.Challenge.RW_letterlaw_k14_ranked
-- CHANGE: your row's module here, as the last of these rows
set_option Elab.async false
set_option linter.all false
set_option maxRecDepth 100000
/-! THE HAND LAYER, for ints, bools, texts, own classes, LISTS and tuples (index, slices, in, append, pop ..), calls, loops. Paste it whole ahead of your own text; what your proof does not reach may be deleted. -/
namespace L2
open PySem PySem.Spec PyProof.Rows

/-- a key: an int or a str -/
abbrev Key := Sum Int Str
def keyIs : Key → Value → Bool
  | .inl k, v => Value.isInt k v
  | .inr x, v => Value.isStrOf x v
def keyH (w : World) : Key → Int
  | .inl k => hashInt k
  | .inr x => hashStr w x
theorem keyIs_shape : ∀ {k : Key} {v : Value}, keyIs k v = true → (∃ i t, k = Sum.inl i ∧ v = Value.int i t) ∨ (∃ x t, k = Sum.inr x ∧ v = Value.str x t)
  | .inl i, v, h => by
    obtain ⟨t, e⟩ := Value.isInt_shape (k := i) (v := v) h
    exact .inl ⟨i, t, rfl, e⟩
  | .inr x, v, h => by
    obtain ⟨t, e⟩ := Value.isStrOf_shape (x := x) (v := v) h
    exact .inr ⟨x, t, rfl, e⟩
theorem key_ll (a b : Int) : decide ((Sum.inl a : Key) = Sum.inl b) = (a == b) := by
  by_cases e : a = b
  · subst e; simp
  · have h : ¬ (Sum.inl a : Key) = Sum.inl b := fun q => e (Sum.inl.inj q)
    rw [decide_eq_false h]
    exact (beq_eq_false_iff_ne.mpr e).symm
theorem key_rr (a b : Str) : decide ((Sum.inr a : Key) = Sum.inr b) = decide (a = b) := by
  by_cases e : a = b
  · subst e; simp
  · have h : ¬ (Sum.inr a : Key) = Sum.inr b := fun q => e (Sum.inr.inj q)
    rw [decide_eq_false h, decide_eq_false e]
theorem key_lr (a : Int) (b : Str) : decide ((Sum.inl a : Key) = Sum.inr b) = false := decide_eq_false (fun q => nomatch q)
theorem key_rl (a : Str) (b : Int) : decide ((Sum.inr a : Key) = Sum.inl b) = false := decide_eq_false (fun q => nomatch q)

def mixKind (prog : Program) (w : World) : PySem.KeyKind prog w Key where
  is := keyIs
  hash := keyH w
  inj := fun v a b ha hb => by
    rcases keyIs_shape ha with ⟨i, t, rfl, rfl⟩ | ⟨x, t, rfl, rfl⟩
    · rcases keyIs_shape hb with ⟨j, u, rfl, e⟩ | ⟨y, u, rfl, e⟩
      · injection e with e1 _; rw [e1]
      · exact nomatch e
    · rcases keyIs_shape hb with ⟨j, u, rfl, e⟩ | ⟨y, u, rfl, e⟩
      · exact nomatch e
      · injection e with e1 _; rw [e1]
  byValue := fun k v h => by
    rcases keyIs_shape h with ⟨i, t, rfl, rfl⟩ | ⟨x, t, rfl, rfl⟩ <;> rfl
  pyHash := fun hv h => by
    rcases keyIs_shape hv with ⟨i, t, rfl, rfl⟩ | ⟨x, t, rfl, rfl⟩
    · exact wpAny_pyHash_int h
    · exact wpAny_pyHash_str h
  eqBool := fun hu hv h => by
    rcases keyIs_shape hu with ⟨i, t, rfl, rfl⟩ | ⟨x, t, rfl, rfl⟩
    · rcases keyIs_shape hv with ⟨j, u, rfl, rfl⟩ | ⟨y, u, rfl, rfl⟩
      · rw [key_ll] at h; exact wpAny_eqBool_int h
      · rw [key_lr] at h; exact SeqAt.EqAt.int_str i t y u _ _ _ _ h
    · rcases keyIs_shape hv with ⟨j, u, rfl, rfl⟩ | ⟨y, u, rfl, rfl⟩
      · rw [key_rl] at h; exact SeqAt.EqAt.str_int x t j u _ _ _ _ h
      · rw [key_rr] at h; exact wpAny_eqBool_str h
  «strs» := fun k x t v h => by
    rcases keyIs_shape h with ⟨i, u, rfl, e⟩ | ⟨y, u, rfl, e⟩
    · exact nomatch e
    · injection e with e1 _
      subst e1
      cases v <;> rfl

end L2

namespace L2
open PySem PySem.Spec PyProof.Rows

/-- a value, without the heap -/
inductive V where
  | non | bl (b : Bool) | int (i : Int) | str (x : Str) | byt (b : Array UInt8) | flt (b : UInt64) | ref (a : Addr) | ty (n : String)
  deriving DecidableEq

def RelV : V → Value → Prop
  | .non, u => u = Value.none
  | .bl b, u => u = Value.bool b
  | .int i, u => ∃ t, u = Value.int i t
  | .str x, u => ∃ t, u = Value.str x t
  | .byt b, u => ∃ t, u = Value.bytes b t
  | .flt b, u => ∃ t, u = Value.float b t
  | .ref a, u => u = Value.ref a
  | .ty n, u => u = Value.type n

abbrev Vals : List V → List Value → Prop := Paired RelV
theorem Vals.length {xs : List V} {us : List Value} (r : Vals xs us) : xs.length = us.length := Paired.length r
theorem Vals.get : ∀ {xs : List V} {us : List Value} {i : Nat} {x : V}, Vals xs us → xs[i]? = some x → ∃ u, us[i]? = some u ∧ RelV x u
  | _, _, _, _, .nil, e => by simp at e
  | _, _, 0, _, .cons r _, e => by simp at e; subst e; exact ⟨_, rfl, r⟩
  | _, _, i + 1, x, .cons _ t, e => by
    obtain ⟨u, h1, h2⟩ := Vals.get (i := i) (x := x) t (by simpa using e)
    exact ⟨u, by simpa using h1, h2⟩
theorem Vals.set {x : V} {u : Value} (r : RelV x u) : ∀ {xs : List V} {us : List Value} (i : Nat), Vals xs us → Vals (xs.set i x) (us.set i u)
  | _, _, _, .nil => .nil
  | _, _, 0, .cons _ t => .cons r t
  | _, _, i + 1, .cons q t => .cons q (Vals.set r i t)
theorem Vals.append : ∀ {xs ys : List V} {us ws : List Value}, Vals xs us → Vals ys ws → Vals (xs ++ ys) (us ++ ws)
  | _, _, _, _, .nil, s => s
  | _, _, _, _, .cons r t, s => .cons r (Vals.append t s)
theorem Vals.take : ∀ {xs : List V} {us : List Value} (n : Nat), Vals xs us → Vals (xs.take n) (us.take n)
  | _, _, 0, _ => .nil
  | _, _, _ + 1, .nil => .nil
  | _, _, n + 1, .cons r t => .cons r (Vals.take n t)
theorem Vals.drop : ∀ {xs : List V} {us : List Value} (n : Nat), Vals xs us → Vals (xs.drop n) (us.drop n)
  | _, _, 0, r => r
  | _, _, _ + 1, .nil => .nil
  | _, _, n + 1, .cons _ t => Vals.drop n t
def RelO : Option V → Option Value → Prop
  | some v, some u => RelV v u
  | none, none => True
  | _, _ => False
def KV {κ : Type} : List (κ × V) → List (κ × Value) → Prop := Paired fun (p : κ × V) (q : κ × Value) => p.1 = q.1 ∧ RelV p.2 q.2

/-- a key of a dict (00_mix): an int or a text -/
def kV : Key → V
  | .inl i => .int i
  | .inr x => .str x

/-- what stands at a tracked address -/
inductive HO where
  /-- a list -/
  | lst (xs : List V)
  /-- a tuple (never changes) -/
  | tup (xs : List V)
  /-- a dict whose keys are ints and texts; one whose keys are tuples of ints and texts (the empty one is both) -/
  | dK (kvs : List (Key × V)) | dT (kvs : List (List Key × V))
  /-- a set of ints: its members, its size -/
  | set (S : Int → Bool) (n : Nat)
  /-- an instance of the class at C, its dict at dx, its attributes -/
  | ins (C dx : Addr) (fs : List (Str × V))
  /-- the dict of the instance at x -/
  | own (x : Addr)
  /-- the dict of an exception -/
  | xd (fs : List (Str × V))
  /-- a bound method, f of x -/
  | met (f x : Addr)
  /-- a range object lo, lo + 1, .. below hi -/
  | rng (lo hi : Int)
  /-- a thing that is known to the object (the script; a dict while a loop walks it): read, never written while it is so -/
  | frz (o : Obj) (u : HO)
  /-- a code object's table -/
  | tbl (ps : Array Value)
  /-- any other thing, by what is true of its one object (a def of one's own: SetO a S n := HO.ext fun h => ..) -/
  | ext (φ : Heap → Prop)

abbrev Hp := Addr → Option HO
def upd (H : Hp) (a : Addr) (o : HO) : Hp := fun b => if b = a then some o else H b
theorem upd_same {H : Hp} {a : Addr} {o : HO} : upd H a o a = some o := by unfold upd; rw [if_pos rfl]
theorem upd_ne {H : Hp} {a b : Addr} {o : HO} (h : b ≠ a) : upd H a o b = H b := by unfold upd; rw [if_neg h]
theorem ne_of_none {H : Hp} {a b : Addr} {o : HO} (h : H a = some o) (h' : H b = none) : a ≠ b := by
  intro e; subst e; rw [h] at h'; cases h'

section
variable (P : Program) (w : World)
def ObjOk (H : Hp) (h : Heap) (a : Addr) : HO → Prop
  | .lst xs => xs.length ≤ sizeLine ∧ ∃ (its : List Value) (n : Nat), Vals xs its ∧ h.get? a = some { cls := .type "list", data := .seq its.toArray n }
  | .tup xs => xs.length ≤ sizeLine ∧ ∃ its : List Value, Vals xs its ∧ IsTup h a its.toArray
  | .dK kvs => kvs.length ≤ sizeLine ∧ (a == sysModules) = false ∧ ∃ vs, KV kvs vs ∧ h.DictOf (mixKind P w) a vs
  | .dT kvs => kvs.length ≤ sizeLine ∧ (a == sysModules) = false ∧ ∃ xs : List (List Key × Addr × Value),
      Paired (fun (p : List Key × V) (q : List Key × Addr × Value) => p.1 = q.1 ∧ H q.2.1 = some (.tup (p.1.map kV)) ∧ RelV p.2 q.2.2) kvs xs ∧
      ∃ o es ep, h.get? a = some o ∧ o.ExactDict ∧ o.data = .dict es ep ∧ es.toList = xs.map (entryOfKey (tupleKind (mixKind P w))) ∧ (xs.map (·.1)).Nodup
  | .set S n => h.SetOf (intKind P w) a S n
  | .ins C dx fs => H dx = some (.own a) ∧ fs.length ≤ 1000 ∧ dx ≠ a ∧ h.get? a = some (PySem.W.instObj C dx) ∧
      ∃ mA, h.Ns1 dx mA ∧ (∀ f, RelO (fs.lookup f) (mA f)) ∧ PySem.Within mA (fs.map (·.1))
  | .own _ => ∃ o, h.get? a = some o
  | .xd fs => ∃ mA, h.Ns1 a mA ∧ ∀ f, RelO (fs.lookup f) (mA f)
  | .rng lo hi => ∃ t u v, h.get? a = some { cls := .type "range", data := .fields #[.int lo t, .int hi u, .int 1 v] }
  | .frz o u => h.get? a = some o ∧ ObjOk H h a u
  | .tbl ps => h.get? a = some { cls := .none, data := .fields ps }
  | .met f x => h.get? a = some (PySem.W.methodObj (.ref f) (.ref x))
  | .ext φ => φ h ∧ (∃ o, h.get? a = some o) ∧ ∀ h1 h2 : Heap, φ h1 → (∀ o, h1.get? a = some o → h2.get? a = some o) → φ h2
/-- the abstract heap is held -/
def HOk (H : Hp) (h : Heap) : Prop := ∀ a o, H a = some o → ObjOk P w H h a o
end

section
variable {P : Program} {w : World} {H H' : Hp} {h h' : Heap} {a : Addr} {o : HO}
theorem ObjOk.lt (x : ObjOk P w H h a o) : a < h.objs.size := by
  cases o with
  | lst xs => obtain ⟨_, _, _, _, e⟩ := x; exact Heap.lt_size e
  | tup xs => obtain ⟨_, _, _, p⟩ := x; exact p.lt
  | dK kvs => obtain ⟨_, _, _, _, o, _, _, e, _⟩ := x; exact Heap.lt_size e
  | dT kvs => obtain ⟨_, _, _, _, o, _, _, e, _⟩ := x; exact Heap.lt_size e
  | set S n => obtain ⟨o, _, _, _, e, _⟩ := x; exact Heap.lt_size e
  | ins C dx fs => obtain ⟨_, _, _, e, _⟩ := x; exact Heap.lt_size e
  | own y => obtain ⟨_, e⟩ := x; exact Heap.lt_size e
  | xd fs => obtain ⟨_, ⟨_, _, _, e, _⟩, _⟩ := x; exact Heap.lt_size e
  | rng lo hi => obtain ⟨_, _, _, e⟩ := x; exact Heap.lt_size e
  | frz ob u => obtain ⟨e, _⟩ := x; exact Heap.lt_size e
  | tbl ps => exact Heap.lt_size (show h.get? a = some _ from x)
  | met f y => exact Heap.lt_size (show h.get? a = some _ from x)
  | ext φ => obtain ⟨_, ⟨_, e⟩, _⟩ := x; exact Heap.lt_size e
theorem Paired.mapP {α β : Type} {F G : α → β → Prop} : ∀ {l₁ : List α} {l₂ : List β}, Paired F l₁ l₂ → (∀ a b, F a b → G a b) → Paired G l₁ l₂
  | _, _, .nil, _ => .nil
  | _, _, .cons r t, f => .cons (f _ _ r) (Paired.mapP t f)
/-- what an object's description leans on: its own object, its own dict, the tuples -/
theorem ObjOk.stay (x : ObjOk P w H h a o) (k : ∀ b u, (b = a ∨ H b = some (.own a)) → h.get? b = some u → h'.get? b = some u)
    (ho : ∀ b, H b = some (.own a) → H' b = some (.own a)) (ht : ∀ b xs, H b = some (.tup xs) → H' b = some (.tup xs)) : ObjOk P w H' h' a o := by
  induction o with
  | lst xs => obtain ⟨z, its, n, r, e⟩ := x; exact ⟨z, its, n, r, k _ _ (.inl rfl) e⟩
  | tup xs => obtain ⟨z, its, r, ob, e, c⟩ := x; exact ⟨z, its, r, ob, k _ _ (.inl rfl) e, c⟩
  | dK kvs => obtain ⟨z, y, vs, r, ob, es, ep, e, c⟩ := x; exact ⟨z, y, vs, r, ob, es, ep, k _ _ (.inl rfl) e, c⟩
  | dT kvs =>
    obtain ⟨z, y, xs, r, ob, es, ep, e, c⟩ := x
    exact ⟨z, y, xs, Paired.mapP r fun p q z => ⟨z.1, ht _ _ z.2.1, z.2.2⟩, ob, es, ep, k _ _ (.inl rfl) e, c⟩
  | set S n => obtain ⟨ob, es, ep, t, e, c⟩ := x; exact ⟨ob, es, ep, t, k _ _ (.inl rfl) e, c⟩
  | ins C dx fs =>
    obtain ⟨d, z, ne, e, mA, ⟨od, es, ep, e2, c⟩, r⟩ := x
    exact ⟨ho _ d, z, ne, k _ _ (.inl rfl) e, mA, ⟨od, es, ep, k _ _ (.inr d) e2, c⟩, r⟩
  | own y => obtain ⟨ob, e⟩ := x; exact ⟨ob, k _ _ (.inl rfl) e⟩
  | xd fs => obtain ⟨mA, ⟨od, es, ep, e, c⟩, r⟩ := x; exact ⟨mA, ⟨od, es, ep, k _ _ (.inl rfl) e, c⟩, r⟩
  | rng lo hi => obtain ⟨t, u, v, e⟩ := x; exact ⟨t, u, v, k _ _ (.inl rfl) e⟩
  | frz ob u ih => obtain ⟨e, q⟩ := x; exact ⟨k _ _ (.inl rfl) e, ih q⟩
  | tbl ps =>
    have e : h.get? a = some { cls := .none, data := .fields ps } := x
    show h'.get? a = some { cls := .none, data := .fields ps }
    exact k a _ (.inl rfl) e
  | met f y =>
    have e : h.get? a = some (PySem.W.methodObj (.ref f) (.ref y)) := x
    show h'.get? a = some (PySem.W.methodObj (.ref f) (.ref y))
    exact k a _ (.inl rfl) e
  | ext φ => obtain ⟨p, ⟨o, e⟩, st⟩ := x; exact ⟨st _ _ p fun o q => k _ _ (.inl rfl) q, ⟨o, k _ _ (.inl rfl) e⟩, st⟩
theorem HOk.lt (x : HOk P w H h) (e : H a = some o) : a < h.objs.size := (x a o e).lt
theorem HOk.fresh (x : HOk P w H h) (e : h.objs.size ≤ a) : H a = none := by
  cases q : H a with
  | none => rfl
  | some u => exact absurd (Nat.lt_of_lt_of_le (x.lt q) e) (Nat.lt_irrefl _)
/-- every object of the heap is kept -/
theorem HOk.kept (x : HOk P w H h) (k : ∀ b u, h.get? b = some u → h'.get? b = some u) : HOk P w H h' := fun a o e =>
  (x a o e).stay (fun b u _ q => k b u q) (fun _ q => q) fun _ _ q => q
/-- a new object is laid and tracked -/
theorem HOk.laid (x : HOk P w H h) (k : ∀ b u, h.get? b = some u → h'.get? b = some u) (hp : h.objs.size ≤ a) (new : ObjOk P w (upd H a o) h' a o) : HOk P w (upd H a o) h' := fun b u e => by
  have hn := x.fresh hp
  by_cases hb : b = a
  · subst hb; rw [upd_same] at e; cases e; exact new
  · rw [upd_ne hb] at e
    exact (x b u e).stay (fun c v _ q => k c v q) (fun c q => by rw [upd_ne (ne_of_none q hn)]; exact q) fun c xs q => by rw [upd_ne (ne_of_none q hn)]; exact q
end

/-- what may be read as u: it is u, or a known u -/
def Rd (H : Hp) (a : Addr) (u : HO) : Prop := H a = some u ∨ ∃ o, H a = some (.frz o u)
theorem Rd.ok {P : Program} {w : World} {H : Hp} {h : Heap} {a : Addr} {u : HO} (r : Rd H a u) (x : HOk P w H h) : ObjOk P w H h a u := by
  rcases r with r | ⟨o, r⟩
  · exact x a u r
  · obtain ⟨_, q⟩ := x a _ r
    exact q
/-- what may be written -/
def Mut : Option HO → Prop
  | some (.lst _) => True
  | some (.dK _) => True
  | some (.dT _) => True
  | some (.set _ _) => True
  | some (.ins _ _ _) => True
  | some (.ext _) => True
  | _ => False
section
variable {P : Program} {w : World} {H : Hp} {h h' : Heap} {x e : Addr} {o' : HO}
/-- the object at e is changed: x itself, or the dict of the instance x -/
theorem HOk.write (ok : HOk P w H h) (mu : Mut (H x)) (he : e = x ∨ H e = some (.own x)) (k : ∀ b u, b ≠ e → h.get? b = some u → h'.get? b = some u) (heo : ∃ u, h'.get? e = some u)
    (new : ObjOk P w (upd H x o') h' x o') : HOk P w (upd H x o') h' := fun b u q => by
  have nown : ∀ c y, H c = some (.own y) → c ≠ x := fun c y r z => by subst z; rw [r] at mu; exact mu
  have ntup : ∀ c xs, H c = some (.tup xs) → c ≠ x := fun c xs r z => by subst z; rw [r] at mu; exact mu
  by_cases hb : b = x
  · subst hb; rw [upd_same] at q; cases q; exact new
  · rw [upd_ne hb] at q
    by_cases hbe : b = e
    · have q' : H b = some (.own x) := by
        rcases he with z | z
        · exact absurd (hbe.trans z) hb
        · rw [hbe]; exact z
      rw [q] at q'; cases q'
      obtain ⟨v, hv⟩ := heo
      exact ⟨v, by rw [hbe]; exact hv⟩
    · refine (ok b u q).stay (fun c v hc r => k c v ?_ r) (fun c r => by rw [upd_ne (nown c b r)]; exact r) fun c xs r => by rw [upd_ne (ntup c xs r)]; exact r
      rcases hc with rfl | hc
      · exact hbe
      · rintro rfl
        rcases he with z | z
        · exact nown c b hc z
        · rw [hc] at z; cases z; exact hb rfl
end

/-! ### kept unless tracked; of the frames at fs (the callers') the slots may change (an exception that passes writes there); of the records at ex (iterators) nothing is said -/
structure Un (fs ex : List Addr) (H H' : Hp) (h h' : Heap) : Prop where
  keep : ∀ b o, h.get? b = some o → H b = none → b ∉ fs → b ∉ ex → h'.get? b = some o
  slot : ∀ b o, h.get? b = some o → H b = none → b ∈ fs → b ∉ ex → ∃ sl, h'.get? b = some { o with slots := sl }
  free : ∀ b o, h.get? b = some o → H b = none → b ∉ ex → H' b = none
  there : ∀ b o, h.get? b = some o → b ∉ ex → ∃ o', h'.get? b = some o'
  tups : ∀ b xs, H b = some (.tup xs) → H' b = some (.tup xs)
  frzs : ∀ b o u, H b = some (.frz o u) → H' b = some (.frz o u)
  tbls : ∀ b ps, H b = some (.tbl ps) → ∃ more, H' b = some (.tbl (ps ++ more))
section
variable {fs fs' ex ex' : List Addr} {H H1 H2 : Hp} {h h1 h2 h' : Heap} {a x e : Addr} {o : HO}
theorem Un.any (u : Un fs ex H H1 h h1) {b : Addr} {ob : Obj} (q : h.get? b = some ob) (n : H b = none) (hx : b ∉ ex) : ∃ sl, h1.get? b = some { ob with slots := sl } := by
  by_cases hb : b ∈ fs
  · exact u.slot b ob q n hb hx
  · exact ⟨ob.slots, u.keep b ob q n hb hx⟩
theorem Un.kept (k : ∀ b u, h.get? b = some u → h'.get? b = some u) : Un fs ex H H h h' :=
  ⟨fun b ob q _ _ _ => k b ob q, fun b ob q _ _ _ => ⟨ob.slots, k b ob q⟩, fun _ _ _ n _ => n, fun b ob q _ => ⟨ob, k b ob q⟩, fun _ _ q => q, fun _ _ _ q => q, fun _ ps q => ⟨#[], by rw [q]; simp⟩⟩
theorem Un.refl : Un fs ex H H h h := Un.kept fun _ _ q => q
theorem Un.laid (k : ∀ b u, h.get? b = some u → h'.get? b = some u) (hp : h.objs.size ≤ a) (hn : H a = none) : Un fs ex H (upd H a o) h h' where
  keep := fun b u q _ _ _ => k b u q
  slot := fun b u q _ _ _ => ⟨u.slots, k b u q⟩
  free := fun b u q n _ => by rw [upd_ne (Nat.ne_of_lt (Nat.lt_of_lt_of_le (Heap.lt_size q) hp))]; exact n
  there := fun b u q _ => ⟨u, k b u q⟩
  tups := fun b xs q => by rw [upd_ne (ne_of_none q hn)]; exact q
  frzs := fun b u xs q => by rw [upd_ne (ne_of_none q hn)]; exact q
  tbls := fun b ps q => ⟨#[], by rw [upd_ne (ne_of_none q hn), q]; simp⟩
theorem Un.write (mu : Mut (H x)) (he : e = x ∨ H e = some (.own x)) (k : ∀ b u, b ≠ e → h.get? b = some u → h'.get? b = some u) (heo : ∃ u, h'.get? e = some u) : Un fs ex H (upd H x o) h h' := by
  have hx : ∀ b, H b = none → b ≠ x := fun b n z => by subst z; rw [n] at mu; exact mu
  have hb : ∀ b, H b = none → b ≠ e := fun b n z => by
    subst z
    rcases he with r | r
    · exact hx b n r
    · rw [n] at r; cases r
  have hm : ∀ b u, H b = some u → ¬ Mut (some u) → b ≠ x := fun b u q nm z => by subst z; rw [q] at mu; exact nm mu
  refine ⟨fun b u q n _ _ => k b u (hb b n) q, fun b u q n _ _ => ⟨u.slots, k b u (hb b n) q⟩, fun b u q n _ => by rw [upd_ne (hx b n)]; exact n, fun b u q _ => ?_,
    fun b xs q => by rw [upd_ne (hm b _ q fun z => z)]; exact q, fun b u xs q => by rw [upd_ne (hm b _ q fun z => z)]; exact q, fun b ps q => ⟨#[], by rw [upd_ne (hm b _ q fun z => z), q]; simp⟩⟩
  by_cases hbe : b = e
  · subst hbe; exact heo
  · exact ⟨u, k b u hbe q⟩
end

/-! ### the heap without what is tracked -/
def trk (h : Heap) (H : Hp) : List Addr := (List.range h.objs.size).filter fun a => (H a).isSome
def hidT (h : Heap) (H : Hp) : Heap := PySem.W.hideAll h (trk h H)
theorem hidT_size (h : Heap) (H : Hp) : (hidT h H).objs.size = h.objs.size := PySem.W.hideAll_size _ _
theorem hidT_get {h : Heap} {H : Hp} {b : Addr} {o : Obj} (e : h.get? b = some o) (n : H b = none) : (hidT h H).get? b = some o :=
  PySem.W.hideAll_get _ e fun hm => by
    have q : (H b).isSome = true := (List.mem_filter.mp hm).2
    rw [n] at q; simp at q
theorem of_hidT {h : Heap} {H : Hp} {b : Addr} {o : Obj} (e : (hidT h H).get? b = some o) : h.get? b = some o ∧ H b = none := by
  have e' : h.get? b = some o := PySem.W.of_hideAll (trk h H) e
  refine ⟨e', ?_⟩
  cases q : H b with
  | none => rfl
  | some x =>
    have hm : b ∈ trk h H := List.mem_filter.mpr ⟨List.mem_range.mpr (Heap.lt_size e'), by simp [q]⟩
    have z : (hidT h H).get? b = none := PySem.W.hideAll_none (trk h H) hm
    rw [z] at e; cases e

/-! ### OpenK's ledger, filled with every new object but one -/
def allNews (g h : Heap) (L : Addr) : List (Addr × Obj) := (List.range h.objs.size).filterMap fun a => if a = L ∨ (g.get? a).isSome = true then none else (h.get? a).map fun o => (a, o)
def rest (g h : Heap) (L d : Addr) : List (Addr × Obj) := (allNews g h L).filter fun p => decide (p.1 ≠ d)
end L2

namespace L2
open PySem PySem.Spec PyProof.Rows

/-- the module's facts, over the base: the heap at the law's entry without what is tracked there -/
structure Mod (K : PySem.W.Frag) (mg : Str → Option Value) (base : Heap) : Prop where
  kin : K.In base
  glob : base.Ns mainGlobals mg
  blt : ∃ mb, base.Ns builtinsNs mb ∧ ∀ x : Str, x ≠ "__name__" → mb x = bootBuiltins x
  nolimit : base.NoLimit

/-- the context: a def's body (or a comprehension's block) running. base: fixed through the whole law; s₀, H₀: the entry; outer: the frames whose slots others may change (a def's callers); stack: all frames that run;
   ex: iterators that were made ahead of the entry and are walked here (a comprehension's); fn: the names whose cells were made at the entry (a def: all; a comprehension's block: its own); calm: not within an except suite; pn: pins that every state bears; xe: what is wanted of an exception that leaves the code -/
structure Cx where
  prog : Program
  w : World
  K : PySem.W.Frag
  mg : Str → Option Value
  base : Heap
  A : Around
  N : List Str
  s₀ : Shared
  H₀ : Hp
  env : Env
  outer : List Env
  stack : List Env
  ex : List Addr
  fn : Str → Bool
  calm : Bool
  pn : List (Addr × Obj)
  xe : Value → Shared → Prop
/-- the callers' frames -/
def frs (l : List Env) : List Addr := l.filterMap (·.frame)
abbrev Cx.fs (X : Cx) : List Addr := frs X.outer

def Vis (sc : Scope) (x : Str) : Prop := sc.names.lookup x = some .local ∨ sc.names.lookup x = some .cell ∨ sc.names.lookup x = some .free
def Loc (sc : Scope) (x : Str) : Prop := sc.names.lookup x = some .local ∨ sc.names.lookup x = some .cell
def Look (env : Env) (h : Heap) (m : Str → Option Value) (x : Str) (u : Value) : Prop :=
  (env.kindOf x = some .local ∧ m x = some u) ∨ ((env.kindOf x = some .cell ∨ env.kindOf x = some .free) ∧ ∃ c, env.cells.lookup x = some c ∧ h.IsCell c (some u))

structure Cx.Ok (X : Cx) : Prop where
  mod : Mod X.K X.mg X.base
  kind : X.env.scope.kind = .function
  glob : X.env.globals = mainGlobals
  blt : X.env.builtins = builtinsNs
  above : X.s₀.heap.objs.size ≤ X.env.locals
  inj : ∀ x y c, X.env.cells.lookup x = some c → X.env.cells.lookup y = some c → x = y
  has : ∀ x, (X.env.kindOf x = some .cell ∨ X.env.kindOf x = some .free) → ∃ c, X.env.cells.lookup x = some c
  cab : ∀ x c, X.fn x = true → X.env.cells.lookup x = some c → X.s₀.heap.objs.size ≤ c
  hd : X.calm = true → X.A.handled = none
  frames : X.A.frames = some X.stack
  stk : X.stack = X.outer ∨ (X.stack = X.env :: X.outer ∧ X.env.frame = some X.env.locals)
  exf : ∀ b ∈ X.ex, b ≠ X.env.locals ∧ ∀ x c, X.env.cells.lookup x = some c → c ≠ b
  bs : ∀ b o, X.base.get? b = some o → X.s₀.heap.get? b = some o ∧ X.H₀ b = none
  bsz : X.base.objs.size ≤ X.s₀.heap.objs.size
  noex : ∀ b o, X.base.get? b = some o → b ∉ X.ex
  exfs : ∀ b ∈ X.ex, b ∉ X.fs
  funs : X.s₀.heap.FunFrames X.base X.outer
  frf : ∀ b ∈ X.fs, X.H₀ b = none

structure Inv (X : Cx) (pins : List (Addr × Obj)) (σ : List (Option V)) (H : Hp) (s : Shared) : Prop where
  ok : X.Ok
  os : s.os = X.s₀.os
  bare : AllBare s.gens
  base : Un X.fs X.ex X.H₀ H X.s₀.heap s.heap
  loc : ∃ m, s.heap.Ns X.env.locals m ∧ ∀ (i : Nat) (x : Str) (v : V), X.N[i]? = some x → σ[i]? = some (some v) → Vis X.env.scope x → ∃ u, RelV v u ∧ Look X.env s.heap m x u
  cell : ∀ x c, X.env.cells.lookup x = some c → ∃ v, s.heap.IsCell c v
  free : H X.env.locals = none
  freeC : ∀ x c, X.env.cells.lookup x = some c → H c = none
  pin : ∀ p ∈ X.pn ++ pins, s.heap.get? p.1 = some p.2 ∧ H p.1 = none ∧ p.1 ≠ X.env.locals ∧ p.1 ∉ X.fs ∧ ∀ v, p.2.data ≠ .cell v
  hok : HOk X.prog X.w H s.heap
  len : σ.length = X.N.length

section
variable {X : Cx} {pins : List (Addr × Obj)} {σ : List (Option V)} {H H' : Hp} {s : Shared} {h' : Heap}

theorem Cx.Ok.nofr (ok : X.Ok) {b : Addr} {o : Obj} (e : X.base.get? b = some o) : b ∉ X.fs := fun hb => by
  have := (ok.funs.mem hb).1
  rw [e] at this; cases this
theorem Inv.bs (I : Inv X pins σ H s) : ∀ b o, X.base.get? b = some o → s.heap.get? b = some o ∧ H b = none := fun b o e =>
  ⟨I.base.keep b o (I.ok.bs b o e).1 (I.ok.bs b o e).2 (I.ok.nofr e) (I.ok.noex b o e), I.base.free b o (I.ok.bs b o e).1 (I.ok.bs b o e).2 (I.ok.noex b o e)⟩
theorem Inv.bk (I : Inv X pins σ H s) : ∀ b o, X.base.get? b = some o → s.heap.get? b = some o := fun b o e => (I.bs b o e).1
theorem Inv.mod (I : Inv X pins σ H s) : Mod X.K X.mg X.base := I.ok.mod
theorem Inv.kIn (I : Inv X pins σ H s) : X.K.In s.heap := I.ok.mod.kin.keeps I.bk
theorem Inv.nolimit (I : Inv X pins σ H s) : s.heap.NoLimit := I.ok.mod.nolimit.keeps I.bk
/-- the frame over the base: for OpenK's rules (K.In X.base is I.mod.kin) -/
theorem Inv.fr (I : Inv X pins σ H s) : ∃ m, Fr X.base X.env.locals s.heap m :=
  let ⟨m, hn, _⟩ := I.loc
  ⟨m, hn, I.bk, Nat.le_trans I.ok.bsz I.ok.above⟩
theorem Inv.lt (I : Inv X pins σ H s) : X.env.locals < s.heap.objs.size := let ⟨_, hn, _⟩ := I.loc; hn.lt
theorem Inv.sz (I : Inv X pins σ H s) : X.s₀.heap.objs.size ≤ s.heap.objs.size := Nat.le_trans I.ok.above (Nat.le_of_lt I.lt)
theorem Inv.nofs (I : Inv X pins σ H s) {a : Addr} (h : s.heap.objs.size ≤ a) : a ∉ X.fs := fun hb => by
  obtain ⟨_, o, ho, _⟩ := I.ok.funs.mem hb
  exact absurd (Nat.lt_of_lt_of_le (Heap.lt_size ho) (Nat.le_trans I.sz h)) (Nat.lt_irrefl _)
theorem Inv.cne (I : Inv X pins σ H s) : ∀ x c, X.env.cells.lookup x = some c → c ≠ X.env.locals := fun x c e z => by
  obtain ⟨v, o, ho, hd⟩ := I.cell x c e
  obtain ⟨m, ⟨o', es, ep, ho', hd', _⟩, _⟩ := I.loc
  rw [z, ho'] at ho; cases ho; rw [hd'] at hd; cases hd
theorem Inv.funs (I : Inv X pins σ H s) : s.heap.FunFrames X.base X.outer := by
  have all : ∀ (l : List Env), (∀ b ∈ frs l, b ∈ X.fs) → X.s₀.heap.FunFrames X.base l → s.heap.FunFrames X.base l := by
    intro l
    induction l with
    | nil => intro _ _; trivial
    | cons env r ih =>
      intro hs hl
      obtain ⟨hk, ⟨L, o, hf, hn, ho, hd⟩, hr⟩ := hl
      have hL : L ∈ X.fs := hs L (by unfold frs; rw [List.filterMap_cons, hf]; exact List.mem_cons_self)
      obtain ⟨sl, e⟩ := I.base.slot L o ho (I.ok.frf L hL) hL fun z => I.ok.exfs L z hL
      exact ⟨hk, ⟨L, _, hf, hn, e, hd⟩, ih (fun b hb => hs b (by unfold frs; rw [List.filterMap_cons, hf]; exact List.mem_cons_of_mem _ hb)) hr⟩
  exact all X.outer (fun _ hb => hb) I.ok.funs

/-- the frames that run, for a call -/
theorem Inv.stack (I : Inv X pins σ H s) : s.heap.FunFrames X.base X.stack := by
  rcases I.ok.stk with e | ⟨e, hf⟩
  · rw [e]; exact I.funs
  · rw [e]
    obtain ⟨m, hn, _⟩ := I.loc
    refine .cons (by rw [I.ok.kind]; decide) hf hn ?_ I.funs
    exact Heap.get?_none_of_le (Nat.le_trans I.ok.bsz I.ok.above)
theorem Inv.stkSub (I : Inv X pins σ H s) : ∀ b ∈ frs X.stack, b ∈ X.env.locals :: X.fs := fun b hb => by
  rcases I.ok.stk with e | ⟨e, hf⟩
  · rw [e] at hb; exact List.mem_cons_of_mem _ hb
  · rw [e] at hb
    unfold frs at hb
    rw [List.filterMap_cons, hf] at hb
    exact hb
theorem Inv.stkFree (I : Inv X pins σ H s) : ∀ b ∈ frs X.stack, H b = none := fun b hb => by
  rcases List.mem_cons.mp (I.stkSub b hb) with e | hb
  · rw [e]; exact I.free
  · obtain ⟨_, o, ho, _⟩ := I.ok.funs.mem hb
    exact I.base.free b o ho (I.ok.frf b hb) fun z => I.ok.exfs b z hb

/-- THE STEP: the untracked objects but the frame and the records at ch are kept (the callers' frames up to slots), the frame's map is kept, the new abstract heap is held -/
theorem Inv.step {g' : Array GenState} {t' : Nat} {d' : Drawn} {ch : List Addr} (I : Inv X pins σ H s)
    (hch : ∀ b ∈ ch, (b ∈ X.ex ∨ X.s₀.heap.objs.size ≤ b) ∧ b ≠ X.env.locals ∧ (∀ x c, X.env.cells.lookup x = some c → c ≠ b) ∧ ∀ p ∈ X.pn ++ pins, p.1 ≠ b)
    (keep : ∀ b o, b ≠ X.env.locals → b ∉ X.fs → b ∉ ch → s.heap.get? b = some o → H b = none → h'.get? b = some o)
    (slot : ∀ b o, b ≠ X.env.locals → b ∈ X.fs → b ∉ ch → s.heap.get? b = some o → H b = none → ∃ sl, h'.get? b = some { o with slots := sl }) (free : ∀ b o, b ∉ ch → s.heap.get? b = some o → H b = none → H' b = none)
    (there : ∀ b o, b ∉ ch → s.heap.get? b = some o → ∃ o', h'.get? b = some o')
    (tups : ∀ b xs, H b = some (.tup xs) → H' b = some (.tup xs)) (frzs : ∀ b o u, H b = some (.frz o u) → H' b = some (.frz o u)) (tbls : ∀ b ps, H b = some (.tbl ps) → ∃ more, H' b = some (.tbl (ps ++ more)))
    (ns : ∀ m, s.heap.Ns X.env.locals m → h'.Ns X.env.locals m) (hok : HOk X.prog X.w H' h') (hg : AllBare g') :
    Inv X pins σ H' { s with heap := h', gens := g', drawn := d', toks := t' } := by
  have neL : ∀ b o, X.s₀.heap.get? b = some o → b ≠ X.env.locals := fun b o e => Nat.ne_of_lt (Nat.lt_of_lt_of_le (Heap.lt_size e) I.ok.above)
  have neC : ∀ b o, X.s₀.heap.get? b = some o → b ∉ X.ex → b ∉ ch := fun b o e hx hb => by
    rcases (hch b hb).1 with z | z
    · exact hx z
    · exact absurd (Nat.lt_of_lt_of_le (Heap.lt_size e) z) (Nat.lt_irrefl _)
  have cellK : ∀ x c, X.env.cells.lookup x = some c → ∀ v, s.heap.IsCell c v → h'.IsCell c v := fun x c e v ⟨o, ho, hd⟩ => by
    have nch : c ∉ ch := fun z => (hch c z).2.2.1 x c e rfl
    by_cases hc : c ∈ X.fs
    · obtain ⟨sl, q⟩ := slot c o (I.cne x c e) hc nch ho (I.freeC x c e)
      exact ⟨_, q, hd⟩
    · exact ⟨o, keep c o (I.cne x c e) hc nch ho (I.freeC x c e), hd⟩
  refine ⟨I.ok, I.os, hg, ⟨fun b o e n hb hx => ?_, fun b o e n hb hx => ?_, fun b o e n hx => ?_, fun b o e hx => ?_, fun b xs e => tups b xs (I.base.tups b xs e), fun b o xs e => frzs b o xs (I.base.frzs b o xs e), fun b ps e => ?_⟩, ?_, fun x c e => ?_, ?_, fun x c e => ?_, fun p hp => ?_, hok, I.len⟩
  · exact keep b o (neL b o e) hb (neC b o e hx) (I.base.keep b o e n hb hx) (I.base.free b o e n hx)
  · obtain ⟨sl, e1⟩ := I.base.slot b o e n hb hx
    obtain ⟨sl', e2⟩ := slot b _ (neL b o e) hb (neC b o e hx) e1 (I.base.free b o e n hx)
    exact ⟨sl', e2⟩
  · obtain ⟨o', e1⟩ := I.base.there b o e hx
    exact free b o' (neC b o e hx) e1 (I.base.free b o e n hx)
  · obtain ⟨o', e1⟩ := I.base.there b o e hx
    exact there b o' (neC b o e hx) e1
  · obtain ⟨m1, e1⟩ := I.base.tbls b ps e
    obtain ⟨m2, e2⟩ := tbls b _ e1
    exact ⟨m1 ++ m2, by rw [e2, Array.append_assoc]⟩
  · obtain ⟨m, hn, hl⟩ := I.loc
    refine ⟨m, ns m hn, fun i x v e1 e2 e3 => ?_⟩
    obtain ⟨u, r, l⟩ := hl i x v e1 e2 e3
    refine ⟨u, r, ?_⟩
    rcases l with l | ⟨k, c, e, z⟩
    · exact .inl l
    · exact .inr ⟨k, c, e, cellK x c e _ z⟩
  · obtain ⟨v, z⟩ := I.cell x c e
    exact ⟨v, cellK x c e v z⟩
  · obtain ⟨m, ⟨o, _, _, ho, _⟩, _⟩ := I.loc
    exact free _ o (fun z => (hch _ z).2.1 rfl) ho I.free
  · obtain ⟨v, o, ho, hd⟩ := I.cell x c e
    exact free c o (fun z => (hch c z).2.2.1 x c e rfl) ho (I.freeC x c e)
  · obtain ⟨e, n, ne, nf, d⟩ := I.pin p hp
    have nch : p.1 ∉ ch := fun z => (hch p.1 z).2.2.2 p hp rfl
    exact ⟨keep p.1 p.2 ne nf nch e n, free p.1 p.2 nch e n, ne, nf, d⟩
/-- .. where the frame's own object is kept too -/
theorem Inv.un {t' : Nat} (I : Inv X pins σ H s) (u : Un X.fs [] H H' s.heap h') (hok : HOk X.prog X.w H' h') : Inv X pins σ H' { s with heap := h', toks := t' } := by
  obtain ⟨m, ⟨o, es, ep, ho, r⟩, _⟩ := id I.loc
  obtain ⟨sl, hL⟩ := u.any ho I.free (by simp)
  exact I.step (g' := s.gens) (d' := s.drawn) (ch := []) (fun _ z => nomatch z) (fun b o _ hb _ e n => u.keep b o e n hb (by simp)) (fun b o _ hb _ e n => u.slot b o e n hb (by simp)) (fun b o _ e n => u.free b o e n (by simp)) (fun b o _ e => u.there b o e (by simp)) u.tups u.frzs u.tbls (fun m' hm => by
    obtain ⟨o', es', ep', ho', r'⟩ := hm
    rw [ho] at ho'; cases ho'
    exact ⟨_, es', ep', hL, r'⟩) hok I.bare
/-- behind a call (or a comprehension's block): the slots of this frame may have changed too, the records at ch may have turned -/
theorem Inv.call {g' : Array GenState} {t' : Nat} {d' : Drawn} {ch : List Addr} (I : Inv X pins σ H s) (u : Un (frs X.stack) ch H H' s.heap h') (hok : HOk X.prog X.w H' h') (hg : AllBare g')
    (hch : ∀ b ∈ ch, (b ∈ X.ex ∨ X.s₀.heap.objs.size ≤ b) ∧ b ≠ X.env.locals ∧ (∀ x c, X.env.cells.lookup x = some c → c ≠ b) ∧ ∀ p ∈ X.pn ++ pins, p.1 ≠ b) :
    Inv X pins σ H' { s with heap := h', gens := g', drawn := d', toks := t' } := by
  obtain ⟨m, ⟨o, es, ep, ho, r⟩, _⟩ := id I.loc
  obtain ⟨sl, hL⟩ := u.any ho I.free fun z => (hch _ z).2.1 rfl
  exact I.step (ch := ch) hch (fun b o hL hb hc e n => u.keep b o e n (fun z => (List.mem_cons.mp (I.stkSub b z)).elim hL hb) hc) (fun b o _ _ hc e n => u.any e n hc) (fun b o hc e n => u.free b o e n hc) (fun b o hc e => u.there b o e hc) u.tups u.frzs u.tbls (fun m' hm => by
    obtain ⟨o', es', ep', ho', r'⟩ := hm
    rw [ho] at ho'; cases ho'
    exact ⟨_, es', ep', hL, r'⟩) hok hg
/-- an untracked record of ours (an iterator) has turned -/
theorem Inv.turned {t' : Nat} {it : Addr} (I : Inv X pins σ H s) (k : ∀ b o, b ≠ it → s.heap.get? b = some o → h'.get? b = some o) (hn : H it = none) (hL : it ≠ X.env.locals)
    (h1 : it ∈ X.ex ∨ X.s₀.heap.objs.size ≤ it) (h2 : ∀ x c, X.env.cells.lookup x = some c → c ≠ it) (h3 : ∀ p ∈ X.pn ++ pins, p.1 ≠ it) : Inv X pins σ H { s with heap := h', toks := t' } := by
  have nit : ∀ b u, H b = some u → b ≠ it := fun b u e z => by rw [z, hn] at e; cases e
  refine I.step (g' := s.gens) (d' := s.drawn) (ch := [it]) (fun b hb => ?_) (fun b o _ _ hc e _ => k b o (fun z => hc (by simp [z])) e) (fun b o _ _ hc e _ => ⟨o.slots, k b o (fun z => hc (by simp [z])) e⟩) (fun _ _ _ _ n => n)
    (fun b o hc e => ⟨o, k b o (fun z => hc (by simp [z])) e⟩) (fun _ _ e => e) (fun _ _ _ e => e) (fun b ps e => ⟨#[], by rw [e]; simp⟩) (fun m hm => ?_) (fun b u e => ?_) I.bare
  · have e : b = it := by simpa using hb
    subst e
    exact ⟨h1, hL, h2, h3⟩
  · obtain ⟨o, es, ep, ho, r⟩ := hm
    exact ⟨o, es, ep, k _ o (Ne.symm hL) ho, r⟩
  · refine (I.hok b u e).stay (fun c v hc q => k c v ?_ q) (fun _ q => q) fun _ _ q => q
    rcases hc with z | z
    · rw [z]; exact nit b u e
    · exact nit c _ z
theorem Inv.tok (I : Inv X pins σ H s) (t : Nat) : Inv X pins σ H { s with toks := t } := I.un (h' := s.heap) (t' := t) Un.refl I.hok
/-- all objects kept -/
theorem Inv.kept {t' : Nat} (I : Inv X pins σ H s) (k : ∀ b u, s.heap.get? b = some u → h'.get? b = some u) : Inv X pins σ H { s with heap := h', toks := t' } := I.un (Un.kept k) (I.hok.kept k)
/-- a new object laid and tracked -/
theorem Inv.laid {a : Addr} {o : HO} {t' : Nat} (I : Inv X pins σ H s) (k : ∀ b u, s.heap.get? b = some u → h'.get? b = some u) (hp : s.heap.objs.size ≤ a) (new : ObjOk X.prog X.w (upd H a o) h' a o) :
    Inv X pins σ (upd H a o) { s with heap := h', toks := t' } := I.un (Un.laid k hp (I.hok.fresh hp)) (I.hok.laid k hp new)
/-- an object written -/
theorem Inv.write {x e : Addr} {o : HO} {t' : Nat} (I : Inv X pins σ H s) (mu : Mut (H x)) (he : e = x ∨ H e = some (.own x)) (k : ∀ b u, b ≠ e → s.heap.get? b = some u → h'.get? b = some u) (heo : ∃ u, h'.get? e = some u)
    (new : ObjOk X.prog X.w (upd H x o) h' x o) : Inv X pins σ (upd H x o) { s with heap := h', toks := t' } := I.un (Un.write mu he k heo) (I.hok.write mu he k heo new)
/-- forgetting slots, pins -/
theorem Inv.weak {σ' : List (Option V)} (I : Inv X pins σ H s) (hl : σ'.length = σ.length) (w : ∀ (i : Nat) v, σ'[i]? = some (some v) → σ[i]? = some (some v)) : Inv X pins σ' H s :=
  ⟨I.ok, I.os, I.bare, I.base, let ⟨m, hn, hl'⟩ := I.loc; ⟨m, hn, fun i x v e1 e2 e3 => hl' i x v e1 (w i v e2) e3⟩, I.cell, I.free, I.freeC, I.pin, I.hok, hl.trans I.len⟩
theorem Inv.pins_of {pins' : List (Addr × Obj)} (I : Inv X pins σ H s) (h : ∀ p ∈ pins', s.heap.get? p.1 = some p.2 ∧ H p.1 = none ∧ p.1 ≠ X.env.locals ∧ p.1 ∉ X.fs ∧ ∀ v, p.2.data ≠ .cell v) : Inv X pins' σ H s :=
  ⟨I.ok, I.os, I.bare, I.base, I.loc, I.cell, I.free, I.freeC, fun p hp => (List.mem_append.mp hp).elim (fun z => I.pin p (List.mem_append_left _ z)) (h p), I.hok, I.len⟩

theorem nodup_ix {N : List Str} (hN : N.Nodup) {i j : Nat} {x : Str} (a : N[i]? = some x) (b : N[j]? = some x) : i = j := by
  obtain ⟨h1, e1⟩ := List.getElem?_eq_some_iff.mp a
  obtain ⟨h2, e2⟩ := List.getElem?_eq_some_iff.mp b
  exact (List.getElem_inj hN).mp (e1.trans e2.symm)

/-- a name is stored; what changed -/
theorem store_ok2 {M : Model} {A : Around} {E : Value → Shared → Prop} {i : Nat} {x : Str} {v : V} {u : Value} {Q : Unit → Shared → Prop} (I : Inv X pins σ H s) (hN : X.N.Nodup) (hi : X.N[i]? = some x) (hx : Loc X.env.scope x) (r : RelV v u)
    (h : ∀ s', Inv X pins (σ.set i (some v)) H s' → (∃ a, Heap.SameBut a s.heap s'.heap ∧ (a = X.env.locals ∨ X.env.cells.lookup x = some a)) → Q () s') (hf : X.fn x = true ∨ X.env.scope.names.lookup x = some .local := by first | exact .inl rfl | exact .inr rfl | assumption) : wpAny M A (storeName X.env x u) Q E s := by
  obtain ⟨m, hn, hl⟩ := id I.loc
  have hcls : (X.env.scope.kind == .class || (X.env.scope.kind == .module && X.env.locals != X.env.globals)) = false := by rw [I.ok.kind]; rfl
  have hiσ : i < σ.length := by rw [I.len]; exact (List.getElem?_eq_some_iff.mp hi).1
  have cne := I.cne
  have tracked : ∀ {a : Addr} {h' : Heap}, (∃ o, s.heap.get? a = some o ∧ H a = none) → Heap.SameBut a s.heap h' → HOk X.prog X.w H h' := fun {a h'} ha hs b ob e => by
    obtain ⟨_, _, hfree⟩ := ha
    refine (I.hok b ob e).stay (fun c w' hc q => (hs.2 c ?_).trans q) (fun _ q => q) fun _ _ q => q
    rintro rfl
    rcases hc with rfl | hc
    · rw [hfree] at e; cases e
    · rw [hfree] at hc; cases hc
  rcases hx with hk | hk
  · refine wpAny_storeName_local hk hn (fun h' hn' hs => ?_) hcls
    obtain ⟨oL, _, _, hoL, _⟩ := id hn
    refine h _ ⟨I.ok, I.os, I.bare, ⟨fun b o e n hb hx => ?_, fun b o e n hb hx => ?_, I.base.free, fun b o e hx => ?_, I.base.tups, I.base.frzs, I.base.tbls⟩, ⟨_, hn', fun j y v' e1 e2 e3 => ?_⟩, fun y c e => ?_, I.free, I.freeC, fun p hp => ?_, tracked ⟨oL, hoL, I.free⟩ hs, by simpa using I.len⟩ ⟨_, hs, .inl rfl⟩
    · exact (hs.2 b (Nat.ne_of_lt (Nat.lt_of_lt_of_le (Heap.lt_size e) I.ok.above))).trans (I.base.keep b o e n hb hx)
    · obtain ⟨sl, e1⟩ := I.base.slot b o e n hb hx
      exact ⟨sl, (hs.2 b (Nat.ne_of_lt (Nat.lt_of_lt_of_le (Heap.lt_size e) I.ok.above))).trans e1⟩
    · obtain ⟨o', e1⟩ := I.base.there b o e hx
      exact ⟨o', (hs.2 b (Nat.ne_of_lt (Nat.lt_of_lt_of_le (Heap.lt_size e) I.ok.above))).trans e1⟩
    · by_cases hj : j = i
      · subst hj
        rw [hi] at e1; cases e1
        rw [List.getElem?_set_self hiσ] at e2
        cases e2
        exact ⟨u, r, .inl ⟨hk, by simp⟩⟩
      · rw [List.getElem?_set_ne (Ne.symm hj)] at e2
        obtain ⟨u', r', q⟩ := hl j y v' e1 e2 e3
        refine ⟨u', r', ?_⟩
        rcases q with ⟨k, e⟩ | ⟨k, c, e, z⟩
        · refine .inl ⟨k, ?_⟩
          have : y ≠ x := fun e => hj (nodup_ix hN e1 (e ▸ hi))
          simp [this, e]
        · exact .inr ⟨k, c, e, z.sameBut hs (cne y c e)⟩
    · obtain ⟨w', z⟩ := I.cell y c e
      exact ⟨w', z.sameBut hs (cne y c e)⟩
    · obtain ⟨e, n, ne, nf, d⟩ := I.pin p hp
      exact ⟨(hs.2 p.1 ne).trans e, n, ne, nf, d⟩
  · have hfn : X.fn x = true := by
      rcases hf with z | z
      · exact z
      · rw [z] at hk; cases hk
    obtain ⟨c, hc⟩ := I.ok.has x (.inl hk)
    obtain ⟨w', z⟩ := I.cell x c hc
    refine wpAny_storeName_cell I.ok.kind hk hc z (fun h' hc' hs => ?_)
    obtain ⟨oc, hoc, hocd⟩ := id z
    refine h { s with heap := h' } ⟨I.ok, I.os, I.bare, ⟨fun b o e n hb hx => ?_, fun b o e n hb hx => ?_, I.base.free, fun b o e hx => ?_, I.base.tups, I.base.frzs, I.base.tbls⟩, ⟨m, hn.sameBut hs (Ne.symm (cne x c hc)), fun j y v' e1 e2 e3 => ?_⟩, fun y c' e => ?_, I.free, I.freeC, fun p hp => ?_, tracked ⟨oc, hoc, I.freeC x c hc⟩ hs, by simpa using I.len⟩ ⟨c, hs, .inr hc⟩
    · exact (hs.2 b (Nat.ne_of_lt (Nat.lt_of_lt_of_le (Heap.lt_size e) (I.ok.cab x c hfn hc)))).trans (I.base.keep b o e n hb hx)
    · obtain ⟨sl, e1⟩ := I.base.slot b o e n hb hx
      exact ⟨sl, (hs.2 b (Nat.ne_of_lt (Nat.lt_of_lt_of_le (Heap.lt_size e) (I.ok.cab x c hfn hc)))).trans e1⟩
    · obtain ⟨o', e1⟩ := I.base.there b o e hx
      exact ⟨o', (hs.2 b (Nat.ne_of_lt (Nat.lt_of_lt_of_le (Heap.lt_size e) (I.ok.cab x c hfn hc)))).trans e1⟩
    · by_cases hj : j = i
      · subst hj
        rw [hi] at e1; cases e1
        rw [List.getElem?_set_self hiσ] at e2
        cases e2
        exact ⟨u, r, .inr ⟨.inl hk, c, hc, hc'⟩⟩
      · rw [List.getElem?_set_ne (Ne.symm hj)] at e2
        obtain ⟨u', r', q⟩ := hl j y v' e1 e2 e3
        refine ⟨u', r', ?_⟩
        rcases q with q | ⟨k, c', e, z'⟩
        · exact .inl q
        · refine .inr ⟨k, c', e, z'.sameBut hs ?_⟩
          rintro rfl
          exact hj (nodup_ix hN e1 (I.ok.inj _ _ _ e hc ▸ hi))
    · by_cases hcc : c' = c
      · subst hcc; exact ⟨_, hc'⟩
      · obtain ⟨w2, z2⟩ := I.cell y c' e
        exact ⟨w2, z2.sameBut hs hcc⟩
    · obtain ⟨e, n, ne, nf, d⟩ := I.pin p hp
      refine ⟨(hs.2 p.1 ?_).trans e, n, ne, nf, d⟩
      intro q
      rw [q, hoc] at e
      have q' : oc = p.2 := Option.some.inj e
      exact d w' (by rw [← q']; exact hocd)
theorem store_ok {M : Model} {A : Around} {E : Value → Shared → Prop} {i : Nat} {x : Str} {v : V} {u : Value} {Q : Unit → Shared → Prop} (I : Inv X pins σ H s) (hN : X.N.Nodup) (hi : X.N[i]? = some x) (hx : Loc X.env.scope x) (r : RelV v u)
    (h : ∀ s', Inv X pins (σ.set i (some v)) H s' → Q () s') (hf : X.fn x = true ∨ X.env.scope.names.lookup x = some .local := by first | exact .inl rfl | exact .inr rfl | assumption) : wpAny M A (storeName X.env x u) Q E s :=
  store_ok2 I hN hi hx r (fun s' I' _ => h s' I') hf
/-- behind a call or a block, the state as it is -/
theorem Inv.call' {s' : Shared} {ch : List Addr} (I : Inv X pins σ H s) (ho : s'.os = s.os) (u : Un (frs X.stack) ch H H' s.heap s'.heap) (hok : HOk X.prog X.w H' s'.heap) (hg : AllBare s'.gens)
    (hch : ∀ b ∈ ch, (b ∈ X.ex ∨ X.s₀.heap.objs.size ≤ b) ∧ b ≠ X.env.locals ∧ (∀ x c, X.env.cells.lookup x = some c → c ≠ b) ∧ ∀ p ∈ X.pn ++ pins, p.1 ≠ b) : Inv X pins σ H' s' := by
  obtain ⟨h', g', d', t', o'⟩ := s'
  have e : o' = s.os := ho
  subst e
  exact I.call (g' := g') (t' := t') (d' := d') u hok hg hch
end

/-! ### the judgements -/
/-- an exception: its class, its own dict's address (where it has one), the abstract heap behind it -/
abbrev XK := Value → Option Addr → Hp → Prop
abbrev St := List (Option V)
abbrev VK := V → Hp → Prop
/-- an expression's reading; a test's; an argument list's -/
abbrev TE := St → Hp → VK → Prop
abbrev TT := St → Hp → (Bool → Hp → Prop) → Prop
abbrev TA := St → Hp → (List V → Hp → Prop) → Prop
/-- what is wanted behind a statement -/
structure Ends where
  nx : St → Hp → Prop
  rt : VK
  bk : St → Hp → Prop := fun _ _ => False
  ct : St → Hp → Prop := fun _ _ => False
abbrev TS := Ends → St → Hp → Prop

def EP (X : Cx) (pins : List (Addr × Obj)) (σ : St) (Q : VK) (u : Value) (s' : Shared) : Prop := ∃ v H', Inv X pins σ H' s' ∧ RelV v u ∧ Q v H'
def TP (X : Cx) (pins : List (Addr × Obj)) (σ : St) (Q : Bool → Hp → Prop) (b : Bool) (s' : Shared) : Prop := ∃ H', Inv X pins σ H' s' ∧ Q b H'
def AP (X : Cx) (pins : List (Addr × Obj)) (σ : St) (Q : List V → Hp → Prop) (us : List Value) (s' : Shared) : Prop := ∃ vs H', Inv X pins σ H' s' ∧ Vals vs us ∧ Q vs H'
def SP (X : Cx) (pins : List (Addr × Obj)) (D : Ends) (f : Flow) (s' : Shared) : Prop :=
  match f with
  | .next => ∃ σ' H', Inv X pins σ' H' s' ∧ D.nx σ' H'
  | .brk => ∃ σ' H', Inv X pins σ' H' s' ∧ D.bk σ' H'
  | .cont => ∃ σ' H', Inv X pins σ' H' s' ∧ D.ct σ' H'
  | .ret u => ∃ v σ' H', Inv X pins σ' H' s' ∧ RelV v u ∧ D.rt v H'

def PE (X : Cx) (e : Expr) (t : TE) : Prop :=
  ∀ (pins : List (Addr × Obj)) (s : Shared) (σ : St) (H : Hp) (Q : VK), Inv X pins σ H s → t σ H Q → wpAny (model X.prog X.w) X.A (eval e X.env) (EP X pins σ Q) X.xe s
def PT (X : Cx) (e : Expr) (t : TT) : Prop :=
  ∀ (pins : List (Addr × Obj)) (s : Shared) (σ : St) (H : Hp) (Q : Bool → Hp → Prop), Inv X pins σ H s → t σ H Q → wpAny (model X.prog X.w) X.A (isTrue e X.env (eval e X.env)) (TP X pins σ Q) X.xe s
/-- a test whatever its 'whole' is (and, or) -/
def PW (X : Cx) (e : Expr) (t : TT) : Prop :=
  ∀ (whole : Sem Value) (pins : List (Addr × Obj)) (s : Shared) (σ : St) (H : Hp) (Q : Bool → Hp → Prop), Inv X pins σ H s → t σ H Q → wpAny (model X.prog X.w) X.A (isTrue e X.env whole) (TP X pins σ Q) X.xe s
theorem PW.pt {X : Cx} {e : Expr} {t : TT} (h : PW X e t) : PT X e t := h _
/-- an argument list (no star), from the left -/
def PA (X : Cx) (es : List Expr) (t : TA) : Prop :=
  ∀ (pos : Pos) (pins : List (Addr × Obj)) (s : Shared) (σ : St) (H : Hp) (Q : List V → Hp → Prop), Inv X pins σ H s → t σ H Q → wpAny (model X.prog X.w) X.A (spliced (backTo pos (starEach es X.env))) (AP X pins σ Q) X.xe s
def PS (X : Cx) (st : Stmt) (t : TS) : Prop :=
  ∀ (pins : List (Addr × Obj)) (s : Shared) (σ : St) (H : Hp) (D : Ends), Inv X pins σ H s → t D σ H → wpAny (model X.prog X.w) X.A (exec st X.env) (SP X pins D) X.xe s
def PSs (X : Cx) (st : List Stmt) (t : TS) : Prop :=
  ∀ (pins : List (Addr × Obj)) (s : Shared) (σ : St) (H : Hp) (D : Ends), Inv X pins σ H s → t D σ H → wpAny (model X.prog X.w) X.A (execs st X.env) (SP X pins D) X.xe s
/-- weaken the end -/
theorem thn {α : Type} {t : Sem α} {Q Q' : α → Shared → Prop} {M : Model} {A : Around} {E : Value → Shared → Prop} {s : Shared} (h : wpAny M A t Q E s) (hQ : ∀ a s, Q a s → Q' a s) : wpAny M A t Q' E s := wpAny_mono h hQ fun _ _ x => x
end L2

namespace L2
open PySem PySem.Spec PyProof.Rows
section
variable {X : Cx}

/-- two expressions in a row -/
theorem bin {a b : Expr} {ta tb : TE} (ha : PE X a ta) (hb : PE X b tb) {pins : List (Addr × Obj)} {s : Shared} {σ : St} {H : Hp} {R : V → V → Hp → Prop} (I : Inv X pins σ H s) (h : ta σ H fun x H1 => tb σ H1 fun y H2 => R x y H2)
    {α : Type} {Q : α → Shared → Prop} {f : Value → Value → Sem α}
    (hf : ∀ v u s2 x y H2, Inv X pins σ H2 s2 → RelV x v → RelV y u → R x y H2 → wpAny (model X.prog X.w) X.A (f v u) Q X.xe s2) :
    wpAny (model X.prog X.w) X.A (eval a X.env) (fun v s₁ => wpAny (model X.prog X.w) X.A (eval b X.env) (fun u s₂ => wpAny (model X.prog X.w) X.A (f v u) Q X.xe s₂) X.xe s₁) X.xe s := by
  refine thn (ha pins s σ H _ I h) fun v s1 ⟨x, H1, I1, r1, q1⟩ => ?_
  refine thn (hb pins s1 σ H1 _ I1 q1) fun u s2 ⟨y, H2, I2, r2, q2⟩ => ?_
  exact hf v u s2 x y H2 I2 r1 r2 q2

/-! ### names and constants -/
def tVar (i : Nat) : TE := fun σ H Q => ∃ v, σ[i]? = some (some v) ∧ Q v H
def tC (v : V) : TE := fun _ H Q => Q v H
theorem pe_var {i : Nat} {x : Str} {pos : Pos} (hN : X.N[i]? = some x) (hv : Vis X.env.scope x) (hd : (x == ("__debug__" : Str)) = false := by decide) (hcd : (x == ("__classdict__" : Str)) = false := by decide) : PE X (.Name x pos) (tVar i) := by
  intro pins s σ H Q I h
  obtain ⟨v, e, h⟩ := h
  obtain ⟨m, hn, hl⟩ := I.loc
  obtain ⟨u, r, l⟩ := hl i x v hN e hv
  have fin : EP X pins σ Q u s := ⟨v, H, I, r, h⟩
  rcases l with ⟨hk, hm⟩ | ⟨hk, c, hc, hcell⟩
  · exact wpAny_Name (wpAny_loadName_local I.ok.kind hk hn hm fin) hd
  · rcases hk with hk | hk
    · exact wpAny_Name (wpAny_loadName_cell I.ok.kind hk hc hcell fin) hd
    · exact wpAny_Name (wpAny_loadName_free I.ok.kind hk hc hcell fin hcd) hd
theorem pe_int {i j pos} : PE X (.Constant (.int i) j pos) (tC (.int i)) := fun _ _ _ H _ I h => wpAny_Constant_int ⟨.int i, H, I.tok _, ⟨_, rfl⟩, h⟩
theorem pe_bl {b j pos} : PE X (.Constant (.bool b) j pos) (tC (.bl b)) := fun _ _ _ H _ I h => Constant_bool ⟨.bl b, H, I, rfl, h⟩
theorem pe_str {x j pos} : PE X (.Constant (.str x) j pos) (tC (.str x)) := fun _ _ _ H _ I h => Calls.Constant_str ⟨.str x, H, I.tok _, ⟨_, rfl⟩, h⟩

/-- a global name of the def -/
def Gl (X : Cx) (x : Str) : Prop := X.env.kindOf x = some .globalImplicit
theorem ld_glob {E : Value → Shared → Prop} {pins : List (Addr × Obj)} {s : Shared} {σ : St} {H : Hp} {x : Str} {u : Value} {pos : Pos} {Q : Value → Shared → Prop} (I : Inv X pins σ H s) (hg : Gl X x) (hm : X.mg x = some u) (h : Q u s)
    (hd : (x == ("__debug__" : Str)) = false := by decide) : wpAny (model X.prog X.w) X.A (eval (.Name x pos) X.env) Q E s :=
  Calls.Name_function_global I.ok.kind hg (Calls.loadGlobal_global (by rw [I.ok.glob]; exact I.mod.glob.keeps I.bk) hm h) hd
theorem ld_blt {E : Value → Shared → Prop} {pins : List (Addr × Obj)} {s : Shared} {σ : St} {H : Hp} {x : Str} {u : Value} {pos : Pos} {Q : Value → Shared → Prop} (I : Inv X pins σ H s) (hg : Gl X x) (hm : X.mg x = none) (hv : bootBuiltins x = some u) (h : Q u s)
    (hn : x ≠ "__name__" := by decide) (hd : (x == ("__debug__" : Str)) = false := by decide) : wpAny (model X.prog X.w) X.A (eval (.Name x pos) X.env) Q E s := by
  obtain ⟨mb, h1, h2⟩ := I.mod.blt
  exact Calls.Name_function_global I.ok.kind hg (Calls.loadGlobal_builtin (by rw [I.ok.glob]; exact I.mod.glob.keeps I.bk) hm (by rw [I.ok.blt]; exact h1.keeps I.bk) ((h2 x hn).trans hv) h) hd
/-- a module's constant, a class, a function, as a value -/
theorem pe_glob {x : Str} {v : V} {u : Value} {pos : Pos} (hg : Gl X x) (hm : X.mg x = some u) (r : RelV v u) (hd : (x == ("__debug__" : Str)) = false := by decide) : PE X (.Name x pos) (tC v) :=
  fun _ _ _ H _ I h => ld_glob I hg hm ⟨v, H, I, r, h⟩ hd
theorem pe_bltn {x : Str} {v : V} {u : Value} {pos : Pos} (hg : Gl X x) (hm : X.mg x = none) (hv : bootBuiltins x = some u) (r : RelV v u) (hn : x ≠ "__name__" := by decide) (hd : (x == ("__debug__" : Str)) = false := by decide) : PE X (.Name x pos) (tC v) :=
  fun _ _ _ H _ I h => ld_blt I hg hm hv ⟨v, H, I, r, h⟩ hn hd

/-! ### arithmetic -/
variable {a b : Expr} {ta tb : TE} {pos : Pos}
/-! ### comparisons -/
/-! ### and, or, not -/
variable {tA tB' : TT} {rest : List Expr}
def tAnd (t u : TT) : TT := fun σ H Q => t σ H fun c H1 => if c = true then u σ H1 Q else Q false H1
def tOr (t u : TT) : TT := fun σ H Q => t σ H fun c H1 => if c = true then Q true H1 else u σ H1 Q
def tNot (t : TT) : TT := fun σ H Q => t σ H fun c H1 => Q (!c) H1
theorem pw_and1 (ha : PT X a tA) : PW X (.BoolOp .And [a] pos) tA := by
  intro wh pins s σ H Q I h
  refine isTrue_and (thn (ha pins s σ H Q I h) fun c s1 e => ?_)
  cases c with
  | true => exact isTrue_and_nil e
  | false => exact e
theorem pw_or1 (ha : PT X a tA) : PW X (.BoolOp .Or [a] pos) tA := by
  intro wh pins s σ H Q I h
  refine isTrue_or (thn (ha pins s σ H Q I h) fun c s1 e => ?_)
  cases c with
  | false => exact isTrue_or_nil e
  | true => exact e
theorem pw_and (ha : PT X a tA) (hb : PW X (.BoolOp .And (b :: rest) pos) tB') : PW X (.BoolOp .And (a :: b :: rest) pos) (tAnd tA tB') := by
  intro wh pins s σ H Q I h
  refine isTrue_and (thn (ha pins s σ H _ I h) fun c s1 ⟨H1, I1, q1⟩ => ?_)
  cases c with
  | true => exact hb wh pins s1 σ H1 Q I1 q1
  | false => exact ⟨H1, I1, q1⟩
theorem pw_or (ha : PT X a tA) (hb : PW X (.BoolOp .Or (b :: rest) pos) tB') : PW X (.BoolOp .Or (a :: b :: rest) pos) (tOr tA tB') := by
  intro wh pins s σ H Q I h
  refine isTrue_or (thn (ha pins s σ H _ I h) fun c s1 ⟨H1, I1, q1⟩ => ?_)
  cases c with
  | true => exact ⟨H1, I1, q1⟩
  | false => exact hb wh pins s1 σ H1 Q I1 q1
theorem pt_not (ha : PT X a tA) : PT X (.UnaryOp .Not a pos) (tNot tA) := by
  intro pins s σ H Q I h
  exact isTrue_not (ha pins s σ H (fun c H1 => Q (!c) H1) I h)
/-- .. as values (bools) -/
def tAndV (ta tb : TE) : TE := fun σ H Q => ta σ H fun x H1 => ∃ c, x = .bl c ∧ if c = true then tb σ H1 Q else Q (.bl false) H1
def tOrV (ta tb : TE) : TE := fun σ H Q => ta σ H fun x H1 => ∃ c, x = .bl c ∧ if c = true then Q (.bl true) H1 else tb σ H1 Q
def tNotV (ta : TE) : TE := fun σ H Q => ta σ H fun x H1 => ∃ c, x = .bl c ∧ Q (.bl (!c)) H1
theorem pe_one {op} {t : TE} (h : PE X a t) : PE X (.BoolOp op [a] pos) t := fun pins s σ H Q I hw => BoolOp_one (h pins s σ H Q I hw)
theorem pe_and (ha : PE X a ta) (hb : PE X (.BoolOp .And (b :: rest) pos) tb) : PE X (.BoolOp .And (a :: b :: rest) pos) (tAndV ta tb) := by
  intro pins s σ H Q I h
  refine BoolOp_and (thn (ha pins s σ H _ I h) fun v s1 ⟨x, H1, I1, r1, q1⟩ => ?_)
  obtain ⟨c, rfl, q1⟩ := q1
  cases r1
  refine wpAny_truthy_bool ?_
  cases c with
  | true => exact hb pins s1 σ H1 Q I1 q1
  | false => exact ⟨.bl false, H1, I1, rfl, q1⟩
/-- a if t else b -/
def tIf (t : TT) (ta tb : TE) : TE := fun σ H Q => t σ H fun c H1 => if c = true then ta σ H1 Q else tb σ H1 Q
theorem pe_ifExp {c : Expr} (hc : PT X c tA) (ha : PE X a ta) (hb : PE X b tb) : PE X (.IfExp c a b pos) (tIf tA ta tb) := by
  intro pins s σ H Q I h
  refine wpAny_IfExp (thn (hc pins s σ H _ I h) fun d s1 ⟨H1, I1, q1⟩ => ?_)
  cases d with
  | true => exact ha pins s1 σ H1 Q I1 q1
  | false => exact hb pins s1 σ H1 Q I1 q1
end
end L2

namespace L2
open PySem PySem.Spec PyProof.Rows

/-! ### a list, a tuple that is read: tracked, frozen, or an object of the module -/
def SqL (K : PySem.W.Frag) (H : Hp) (a : Addr) (xs : List V) : Prop :=
  Rd H a (.lst xs) ∨
    ∃ (o : Obj) (its : Array Value) (n : Nat), K.lookup a = some o ∧ o.cls = .type "list" ∧ o.dict = none ∧ o.data = .seq its n ∧ its.size ≤ sizeLine ∧ Vals xs its.toList
def SqT (K : PySem.W.Frag) (H : Hp) (a : Addr) (xs : List V) : Prop :=
  Rd H a (.tup xs) ∨
    ∃ (o : Obj) (its : Array Value) (n : Nat), K.lookup a = some o ∧ o.cls = .type "tuple" ∧ o.data = .seq its n ∧ its.size ≤ sizeLine ∧ Vals xs its.toList
def absV : Value → Option V
  | .none => some .non
  | .bool b => some (.bl b)
  | .int i _ => some (.int i)
  | .str x _ => some (.str x)
  | .bytes b _ => some (.byt b)
  | .float b _ => some (.flt b)
  | .ref a => some (.ref a)
  | .type n => some (.ty n)
  | _ => none
theorem RelV.abs {x : V} {u : Value} (r : RelV x u) : absV u = some x := by
  cases x with
  | non => cases r; rfl
  | bl _ => cases r; rfl
  | int _ => obtain ⟨t, rfl⟩ := r; rfl
  | str _ => obtain ⟨t, rfl⟩ := r; rfl
  | byt _ => obtain ⟨t, rfl⟩ := r; rfl
  | flt _ => obtain ⟨t, rfl⟩ := r; rfl
  | ref _ => cases r; rfl
  | ty _ => cases r; rfl
theorem RelV.inj {x y : V} {u : Value} (r : RelV x u) (q : RelV y u) : x = y := Option.some.inj (r.abs.symm.trans q.abs)
theorem Vals.inj : ∀ {xs ys : List V} {us : List Value}, Vals xs us → Vals ys us → xs = ys
  | _, _, _, .nil, .nil => rfl
  | _, _, _, .cons r t, .cons r' t' => by rw [r.inj r', Vals.inj t t']
section
variable {X : Cx} {pins : List (Addr × Obj)} {σ : St} {H : Hp} {s : Shared} {a : Addr} {xs ys : List V}
theorem SqL.of {K : PySem.W.Frag} (h : H a = some (.lst xs)) : SqL K H a xs := .inl (.inl h)
theorem SqT.of {K : PySem.W.Frag} (h : H a = some (.tup xs)) : SqT K H a xs := .inl (.inl h)
theorem Inv.list (I : Inv X pins σ H s) (h : SqL X.K H a xs) : ∃ its : List Value, Vals xs its ∧ PlainL s.heap a its.toArray ∧ xs.length ≤ sizeLine := by
  rcases h with h | ⟨o, its, n, hk, hc, hd, hs, hz, r⟩
  · obtain ⟨z, its, n, r, e⟩ := h.ok I.hok
    exact ⟨its, r, ⟨_, n, e, rfl, rfl, rfl⟩, z⟩
  · refine ⟨its.toList, r, ⟨o, n, I.kIn a o hk, hc, hd, by simpa using hs⟩, ?_⟩
    have e := r.length
    simp only [Array.length_toList] at e
    omega
theorem Inv.tuple (I : Inv X pins σ H s) (h : SqT X.K H a xs) : ∃ its : List Value, Vals xs its ∧ IsTup s.heap a its.toArray ∧ xs.length ≤ sizeLine := by
  rcases h with h | ⟨o, its, n, hk, hc, hs, hz, r⟩
  · obtain ⟨z, its, r, p⟩ := h.ok I.hok
    exact ⟨its, r, p, z⟩
  · refine ⟨its.toList, r, ⟨o, I.kIn a o hk, hc, n, by simpa using hs⟩, ?_⟩
    have e := r.length
    simp only [Array.length_toList] at e
    omega
theorem Inv.list_inj (I : Inv X pins σ H s) (h : SqL X.K H a xs) (h' : SqL X.K H a ys) : xs = ys := by
  obtain ⟨its, r, ⟨o, n, e, _, _, d⟩, _⟩ := I.list h
  obtain ⟨its', r', ⟨o', n', e', _, _, d'⟩, _⟩ := I.list h'
  rw [e] at e'; cases e'
  rw [d] at d'
  injection d' with d1 _
  have : its = its' := by simpa using congrArg Array.toList d1
  subst this
  exact r.inj r'
theorem Inv.tuple_inj (I : Inv X pins σ H s) (h : SqT X.K H a xs) (h' : SqT X.K H a ys) : xs = ys := by
  obtain ⟨its, r, ⟨o, e, _, n, d⟩, _⟩ := I.tuple h
  obtain ⟨its', r', ⟨o', e', _, n', d'⟩, _⟩ := I.tuple h'
  rw [e] at e'; cases e'
  rw [d] at d'
  injection d' with d1 _
  have : its = its' := by simpa using congrArg Array.toList d1
  subst this
  exact r.inj r'
end

/-! ### another wish about exceptions -/
abbrev Cx.wish (X : Cx) (E : Value → Shared → Prop) : Cx := { X with xe := E }
/-- no exception leaves -/
abbrev Cx.nox (X : Cx) : Cx := X.wish fun _ _ => False
theorem Cx.Ok.wish {X : Cx} (ok : X.Ok) (E : Value → Shared → Prop) : (X.wish E).Ok :=
  ⟨ok.mod, ok.kind, ok.glob, ok.blt, ok.above, ok.inj, ok.has, ok.cab, ok.hd, ok.frames, ok.stk, ok.exf, ok.bs, ok.bsz, ok.noex, ok.exfs, ok.funs, ok.frf⟩
theorem Cx.Ok.unwish {X : Cx} {E : Value → Shared → Prop} (ok : (X.wish E).Ok) : X.Ok :=
  ⟨ok.mod, ok.kind, ok.glob, ok.blt, ok.above, ok.inj, ok.has, ok.cab, ok.hd, ok.frames, ok.stk, ok.exf, ok.bs, ok.bsz, ok.noex, ok.exfs, ok.funs, ok.frf⟩
section
variable {X : Cx} {pins : List (Addr × Obj)} {σ : St} {H : Hp} {s : Shared} {E : Value → Shared → Prop}
theorem Inv.wish (I : Inv X pins σ H s) (E : Value → Shared → Prop) : Inv (X.wish E) pins σ H s := ⟨I.ok.wish E, I.os, I.bare, I.base, I.loc, I.cell, I.free, I.freeC, I.pin, I.hok, I.len⟩
theorem Inv.unwish (I : Inv (X.wish E) pins σ H s) : Inv X pins σ H s := ⟨I.ok.unwish, I.os, I.bare, I.base, I.loc, I.cell, I.free, I.freeC, I.pin, I.hok, I.len⟩
theorem SP.unwish {D : Ends} {f : Flow} {s' : Shared} (h : SP (X.wish E) pins D f s') : SP X pins D f s' := by
  cases f with
  | next => obtain ⟨σ', H', I, q⟩ := h; exact ⟨σ', H', I.unwish, q⟩
  | brk => obtain ⟨σ', H', I, q⟩ := h; exact ⟨σ', H', I.unwish, q⟩
  | cont => obtain ⟨σ', H', I, q⟩ := h; exact ⟨σ', H', I.unwish, q⟩
  | ret u => obtain ⟨v, σ', H', I, r, q⟩ := h; exact ⟨v, σ', H', I.unwish, r, q⟩
theorem PSs.nox {st : List Stmt} {t : TS} (h : PSs X.nox st t) : PSs X st t := fun pins s σ H D I hw =>
  wpAny_mono (h pins s σ H D (I.wish _) hw) (fun _ _ q => q.unwish) fun _ _ z => False.elim z
end

/-! ### blocks and small statements -/
section
variable {X : Cx} {st : Stmt} {rest : List Stmt} {t u : TS} {e : Expr} {te : TE} {pos : Pos}
def tNext : TS := fun D σ H => D.nx σ H
def tSeq (t u : TS) : TS := fun D σ H => t { D with nx := u D } σ H
theorem pss_nil : PSs X [] tNext := fun _ _ σ H _ I h => wpAny_execs_nil ⟨σ, H, I, h⟩
theorem pss_cons (h1 : PS X st t) (h2 : PSs X rest u) : PSs X (st :: rest) (tSeq t u) := by
  intro pins s σ H D I h
  refine wpAny_execs_cons (thn (h1 pins s σ H { D with nx := u D } I h) fun f s1 q => ?_)
  cases f with
  | next =>
    obtain ⟨σ', H', I', q⟩ := q
    exact h2 pins s1 σ' H' D I' q
  | ret v => exact q
  | brk => exact q
  | cont => exact q
theorem pss_one (h1 : PS X st t) : PSs X [st] t := by
  intro pins s σ H D I h
  refine wpAny_execs_cons (thn (h1 pins s σ H D I h) fun f s1 q => ?_)
  cases f with
  | next => exact wpAny_execs_nil q
  | ret v => exact q
  | brk => exact q
  | cont => exact q
def tBreak : TS := fun D σ H => D.bk σ H
def tCont : TS := fun D σ H => D.ct σ H
/-- in a def's body nothing is shown -/
theorem Inv.quiet {pins : List (Addr × Obj)} {σ : St} {H : Hp} {s : Shared} (I : Inv X pins σ H s) : interactive X.env = false := by simp [interactive, I.ok.kind]
/-- an expression whose value is dropped -/
def tDrop (te : TE) : TS := fun D σ H => te σ H fun _ H1 => D.nx σ H1
theorem ps_expr (he : PE X e te) (hs : swapsWith e none pos.line X.env = pure false := by rfl) : PS X (.Expr e pos) (tDrop te) := by
  intro pins s σ H D I h
  exact wpAny_Expr_any (thn (he pins s σ H _ I h) fun v s1 ⟨x, H1, I1, r1, q1⟩ => ⟨σ, H1, I1, q1⟩) I.quiet hs
def tRet (te : TE) : TS := fun D σ H => te σ H D.rt
theorem ps_ret (he : PE X e te) : PS X (.Return (some e) pos) (tRet te) := by
  intro pins s σ H D I h
  exact wpAny_Return_some (thn (he pins s σ H _ I h) fun v s1 ⟨x, H1, I1, r1, q1⟩ => ⟨x, σ, H1, I1, r1, q1⟩)
def tRetN : TS := fun D _ H => D.rt .non H
def tIfS (c : TT) (t u : TS) : TS := fun D σ H => c σ H fun b H1 => if b = true then t D σ H1 else u D σ H1
theorem ps_if {c : Expr} {a b : List Stmt} {tc : TT} (hc : PT X c tc) (ha : PSs X a t) (hb : PSs X b u) : PS X (.If c a b pos) (tIfS tc t u) := by
  intro pins s σ H D I h
  refine wpAny_If (thn (hc pins s σ H _ I h) fun d s1 ⟨H1, I1, q1⟩ => ?_)
  cases d with
  | true => exact ha pins s1 σ H1 D I1 q1
  | false => exact hb pins s1 σ H1 D I1 q1
end

/-! ### targets -/
abbrev TG := V → St → Hp → (St → Hp → Prop) → Prop
abbrev TGs := List V → St → Hp → (St → Hp → Prop) → Prop
def PG (X : Cx) (target : Expr) (t : TG) : Prop :=
  ∀ (pins : List (Addr × Obj)) (s : Shared) (σ : St) (H : Hp) (v : V) (u : Value) (Q : St → Hp → Prop), Inv X pins σ H s → RelV v u → t v σ H Q →
    wpAny (model X.prog X.w) X.A (assign target X.env u) (fun _ s' => ∃ σ' H', Inv X pins σ' H' s' ∧ Q σ' H') X.xe s
/-- several targets, one after another -/
def PGs (X : Cx) (ts : List Expr) (t : TGs) : Prop :=
  ∀ (pins : List (Addr × Obj)) (s : Shared) (σ : St) (H : Hp) (vs : List V) (us : List Value) (Q : St → Hp → Prop), Inv X pins σ H s → Vals vs us → t vs σ H Q →
    wpAny (model X.prog X.w) X.A (assignInOrder ((assignEach ts X.env).map (·.2)) us) (fun _ s' => ∃ σ' H', Inv X pins σ' H' s' ∧ Q σ' H') X.xe s
section
variable {X : Cx} {pos : Pos}
def gName (i : Nat) : TG := fun v σ H Q => Q (σ.set i (some v)) H
theorem pg_name {i : Nat} {x : Str} (hN : X.N.Nodup) (hi : X.N[i]? = some x) (hx : Loc X.env.scope x) (hf : X.fn x = true ∨ X.env.scope.names.lookup x = some .local := by first | exact .inl rfl | exact .inr rfl | assumption) : PG X (.Name x pos) (gName i) := by
  intro pins s σ H v u Q I r h
  exact wpAny_assign_Name (store_ok I hN hi hx r (fun s' I' => ⟨_, H, I', h⟩) hf)
def gNil : TGs := fun vs σ H Q => vs = [] ∧ Q σ H
def gCons (t : TG) (u : TGs) : TGs := fun vs σ H Q => ∃ v r, vs = v :: r ∧ t v σ H fun σ' H' => u r σ' H' Q
theorem pgs_nil : PGs X [] gNil := by
  intro pins s σ H vs us Q I r h
  obtain ⟨e, h⟩ := h
  subst e
  cases r
  exact assignInOrder_nil ⟨σ, H, I, h⟩
theorem pgs_cons {e : Expr} {es : List Expr} {t : TG} {u : TGs} (h1 : PG X e t) (h2 : PGs X es u)
    (hs : (assignEach (e :: es) X.env).map (·.2) = assign e X.env :: (assignEach es X.env).map (·.2) := by rfl) : PGs X (e :: es) (gCons t u) := by
  intro pins s σ H vs us Q I r h
  obtain ⟨v, vr, e1, h⟩ := h
  subst e1
  cases r with
  | cons r rr =>
    rw [hs]
    refine assignInOrder_cons (thn (h1 pins s σ H _ _ _ I r h) fun _ s1 ⟨σ1, H1, I1, q1⟩ => ?_)
    exact h2 pins s1 σ1 H1 _ _ Q I1 rr q1
/-- (a, b, ..) = a tuple of that length -/
def gTup (K : PySem.W.Frag) (n : Nat) (t : TGs) : TG := fun v σ H Q => ∃ a xs, v = .ref a ∧ SqT K H a xs ∧ xs.length = n ∧ t xs σ H Q
theorem pg_tup {es : List Expr} {k : Nat} {t : TGs} {n : Nat} (hc : X.calm = true) (h : PGs X es t)
    (hn : (assignEach es X.env).length = n := by rfl) (hst : (assignEach es X.env).findIdx? (·.1) = none := by rfl) : PG X (.Tuple es k pos) (gTup X.K n t) := by
  intro pins s σ H v u Q I r hw
  obtain ⟨a, xs, e1, hq, hl, hw⟩ := hw
  subst e1
  cases r
  obtain ⟨its, rv, ht, hz⟩ := I.tuple hq
  refine assign_Tuple_tuple (I.ok.hd hc) ht (by simp [hn, ← hl, rv.length]) hst fun h' hx => ?_
  have I1 : Inv X pins σ H { s with heap := h' } := I.kept (t' := s.toks) fun b o e => hx b o (Nat.ne_of_lt (Heap.lt_size e)) e
  exact h pins _ σ H xs _ Q I1 (by simpa using rv) hw
/-- target = value -/
def tAsg (te : TE) (g : TG) : TS := fun D σ H => te σ H fun x H1 => g x σ H1 D.nx
/-- name = value -/
theorem ps_set {i : Nat} {x : Str} {e : Expr} {te : TE} {pos' : Pos} (hN : X.N.Nodup) (hi : X.N[i]? = some x) (hx : Loc X.env.scope x) (he : PE X e te) (hs : swapsWith e (some (.Name x pos')) pos.line X.env = pure false := by rfl) (hf : X.fn x = true ∨ X.env.scope.names.lookup x = some .local := by first | exact .inl rfl | exact .inr rfl | assumption) :
    PS X (.Assign [.Name x pos'] e pos) (tAsg te (gName i)) := by
  intro pins s σ H D I h
  refine wpAny_Assign_Name (thn (he pins s σ H _ I h) fun v s1 ⟨y, H1, I1, r1, q1⟩ => ?_) hs
  exact store_ok I1 hN hi hx r1 (fun s2 I2 => ⟨_, H1, I2, q1⟩) hf
/-- a, b = x, y with plain local names: stored from the right; the pair itself is not tracked (the opening rows as in PyProof/Rows/TupAssign.lean:23) -/
def tPar (i j : Nat) (ta : TA) : TS := fun D σ H => ta σ H fun vs H1 => ∃ v w, vs = [v, w] ∧ D.nx ((σ.set i (some v)).set j (some w)) H1
end

/-! ### while -/
section
variable {X : Cx} {pos : Pos}
end

/-! ### what a loop or a comprehension walks -/
/-- at turn i: it yields x (the heap may grow), or it stops -/
structure It where
  go : Nat → Hp → Prop
  yld : Nat → Hp → V → Hp → Prop
  stop : Nat → Hp → Prop
/-- the iterator's own objects may turn: they are not the frame's, not pinned, younger than the entry (or a comprehension's own) -/
def FpOk (X : Cx) (pins : List (Addr × Obj)) (H : Hp) (b : Addr) : Prop :=
  H b = none ∧ b ≠ X.env.locals ∧ b ∉ X.fs ∧ (b ∈ X.ex ∨ X.s₀.heap.objs.size ≤ b) ∧ (∀ x c, X.env.cells.lookup x = some c → c ≠ b) ∧ ∀ p ∈ X.pn ++ pins, p.1 ≠ b
theorem Inv.fpOk {X : Cx} {pins : List (Addr × Obj)} {σ : St} {H H' : Hp} {s : Shared} {b : Addr} (I : Inv X pins σ H s) (hb : s.heap.objs.size ≤ b) (hn : H' b = none) : FpOk X pins H' b := by
  refine ⟨hn, Nat.ne_of_gt (Nat.lt_of_lt_of_le I.lt hb), I.nofs hb, .inr (Nat.le_trans I.sz hb), fun x c e z => ?_, fun p hp z => ?_⟩
  · obtain ⟨v, q⟩ := I.cell x c e
    exact absurd (Nat.lt_of_lt_of_le q.lt (by rw [z]; exact hb)) (Nat.lt_irrefl _)
  · exact absurd (Nat.lt_of_lt_of_le (Heap.lt_size (I.pin p hp).1) (by rw [z]; exact hb)) (Nat.lt_irrefl _)
structure Turn (P : Program) (w : World) (K : PySem.W.Frag) (tg : Expr) (J : It) (fp : List Addr) (it : Addr) (tn : Nat → Heap → Prop) : Prop where
  mem : it ∈ fp
  obj : ∀ i h, tn i h → ∀ b ∈ fp, ∃ o, h.get? b = some o ∧ ∀ v, o.data ≠ .cell v
  keep : ∀ i h h', tn i h → (∀ b ∈ fp, ∀ o, h.get? b = some o → h'.get? b = some o) → tn i h'
  item : ∀ (X : Cx), X.prog = P → X.w = w → X.K = K → X.calm = true → ∀ (i : Nat) (pins : List (Addr × Obj)) (s : Shared) (σ : St) (H : Hp) (E : Value → Shared → Prop), Inv X pins σ H s → (∀ b ∈ fp, FpOk X pins H b) → tn i s.heap → J.go i H →
    wpAny (model P w) X.A (pyNext (.ref it)) (fun r s1 => ∃ u, r = some u ∧
      wpAny (model P w) X.A (letOwnedTupleGo tg (.ref it) u) (fun _ s2 => ∃ x H', Inv X pins σ H' s2 ∧ RelV x u ∧ J.yld i H x H' ∧ tn (i + 1) s2.heap ∧ ∀ b ∈ fp, H' b = none) E s1) E s
  done : ∀ (X : Cx), X.prog = P → X.w = w → X.K = K → X.calm = true → ∀ (i : Nat) (pins : List (Addr × Obj)) (s : Shared) (σ : St) (H : Hp) (E : Value → Shared → Prop), Inv X pins σ H s → (∀ b ∈ fp, FpOk X pins H b) → tn i s.heap → J.stop i H →
    wpAny (model P w) X.A (pyNext (.ref it)) (fun r s1 => r = none ∧ Inv X pins σ H s1) E s
  self : ∀ (A : Around) (i : Nat) (s : Shared) (Q : Value → Shared → Prop) (E : Value → Shared → Prop), tn i s.heap → Q (.ref it) s → wpAny (model P w) A (pyIter (.ref it)) Q E s
abbrev TI := St → Hp → (It → Hp → Prop) → Prop
/-- an iterator has come -/
def PIE (X : Cx) (pins : List (Addr × Obj)) (σ : St) (tg : Expr) (R : It → Hp → Prop) (itv : Value) (s2 : Shared) : Prop :=
  ∃ (it : Addr) (fp : List Addr) (tn : Nat → Heap → Prop) (J : It) (H' : Hp), itv = .ref it ∧ Inv X pins σ H' s2 ∧ Turn X.prog X.w X.K tg J fp it tn ∧ tn 0 s2.heap ∧ (∀ b ∈ fp, FpOk X pins H' b) ∧ R J H'
def PI (X : Cx) (tg iter : Expr) (wi : TI) : Prop :=
  ∀ (pins : List (Addr × Obj)) (s : Shared) (σ : St) (H : Hp) (R : It → Hp → Prop), Inv X pins σ H s → wi σ H R →
    wpAny (model X.prog X.w) X.A (eval iter X.env) (fun v s1 => wpAny (model X.prog X.w) X.A (pyIter v) (PIE X pins σ tg R) X.xe s1) X.xe s

/-- the step ahead of the store is nothing for an iterator that keeps no tuple -/
theorem go_of {M : Model} {A : Around} {E : Value → Shared → Prop} {s : Shared} {tg : Expr} {it : Addr} {u : Value} {o : Obj} {n : String} {vs : Array Value} {Q : Unit → Shared → Prop} (ho : s.heap.get? it = some o) (hc : o.cls = .type n) (hd : o.data = .fields vs)
    (hn : ["enumerate", "zip", "dict_itemiterator", "dict_reverseitemiterator", "odict_iterator", "itertools.zip_longest", "itertools.pairwise"].contains n = false) (hQ : Q () s) : wpAny M A (letOwnedTupleGo tg (.ref it) u) Q E s := by
  unfold letOwnedTupleGo
  cases tg <;> first
    | exact wpAny_pure hQ
    | (cases u <;> first
        | exact wpAny_pure hQ
        | (refine wpAny_bind (wpAny_load ho ?_)
           rw [hc, hd]
           show wpAny M A (if (["enumerate", "zip", "dict_itemiterator", "dict_reverseitemiterator", "odict_iterator", "itertools.zip_longest", "itertools.pairwise"].contains n && vs[0]? == some (rawInt _)) = true then _ else _) Q E s
           rw [if_neg (by intro h; rw [hn, Bool.false_and] at h; cases h)]
           exact wpAny_pure hQ))

/-- the list at a, as it stands at each turn (a loop may append to it) -/
def Itl (K : PySem.W.Frag) (a : Addr) : It :=
  ⟨fun i H => ∃ xs x, SqL K H a xs ∧ xs[i]? = some x, fun i H x H' => H' = H ∧ ∀ xs, SqL K H a xs → xs[i]? = some x, fun i H => ∃ xs, SqL K H a xs ∧ xs.length ≤ i⟩
def Itt (K : PySem.W.Frag) (a : Addr) : It :=
  ⟨fun i H => ∃ xs x, SqT K H a xs ∧ xs[i]? = some x, fun i H x H' => H' = H ∧ ∀ xs, SqT K H a xs → xs[i]? = some x, fun i H => ∃ xs, SqT K H a xs ∧ xs.length ≤ i⟩
/-- lo, lo + 1, .. (n of them) -/
def Itr (lo : Int) (n : Nat) : It := ⟨fun i _ => i < n, fun i H x H' => H' = H ∧ x = .int (lo + i), fun i _ => n ≤ i⟩
theorem turn_list {P : Program} {w : World} {K : PySem.W.Frag} {tg : Expr} (a it : Addr) : Turn P w K tg (Itl K a) [it] it (fun i h => h.IsListIter it a i) where
  mem := by simp
  obj := fun i h st b hb => by
    have e : b = it := by simpa using hb
    subst e
    obtain ⟨o, e, c, d⟩ := st
    exact ⟨o, e, fun v z => by rw [d] at z; cases z⟩
  keep := fun i h h' st k => st.at fun o e => k it (by simp) o e
  item := by
    intro X hP hw hK hc i pins s σ H E I hf st hg
    subst hP hw hK
    obtain ⟨xs, x, hq, hx⟩ := hg
    obtain ⟨its, rv, p, hz⟩ := I.list hq
    obtain ⟨u, hu, ru⟩ := rv.get hx
    obtain ⟨f0, f1, f2, f3, f4, f5⟩ := hf it (by simp)
    refine wpAny_pyNext_list_item st p.isList (x := u) (by simpa using hu) fun h' st' sb => ?_
    have I1 : Inv X pins σ H { s with heap := h' } := I.turned (t' := s.toks) (fun b o hb e => (sb.2 b hb).trans e) f0 f1 f3 f4 f5
    obtain ⟨o, e, c, d⟩ := id st'
    exact ⟨u, rfl, go_of (s := { s with heap := h' }) e c d (by decide) ⟨x, H, I1, ru, ⟨rfl, fun ys hy => by rw [I.list_inj hy hq]; exact hx⟩, st', fun b hb => (hf b hb).1⟩⟩
  done := by
    intro X hP hw hK hc i pins s σ H E I hf st hg
    subst hP hw hK
    obtain ⟨xs, hq, hx⟩ := hg
    obtain ⟨its, rv, p, hz⟩ := I.list hq
    obtain ⟨f0, f1, f2, f3, f4, f5⟩ := hf it (by simp)
    have hl := rv.length
    exact wpAny_pyNext_list_end (I.ok.hd hc) st p.isList (by simp; omega) fun h' eb => ⟨rfl, I.turned (t' := s.toks) (fun b o hb e => eb b o hb e) f0 f1 f3 f4 f5⟩
  self := fun _ _ _ _ _ st h => wpAny_pyIter_listiter st h
theorem turn_range {P : Program} {w : World} {K : PySem.W.Frag} {tg : Expr} (it : Addr) (lo : Int) (n : Nat) : Turn P w K tg (Itr lo n) [it] it (fun i h => IsRangeIter h it (lo + (i : Nat) * 1) ((n : Int) - (i : Nat)) 1) where
  mem := by simp
  obj := fun i h st b hb => by
    have e : b = it := by simpa using hb
    subst e
    exact ⟨_, st, fun v z => by
      have z' : Data.fields _ = Data.cell v := z
      cases z'⟩
  keep := fun i h h' st k => k it (by simp) _ st
  item := by
    intro X hP hw hK hc i pins s σ H E I hf st hg
    subst hP hw hK
    obtain ⟨f0, f1, f2, f3, f4, f5⟩ := hf it (by simp)
    have W := Walks.range (prog := X.prog) (w := X.w) (I.ok.hd hc) it lo 1 n
    refine W.item i s _ _ hg st fun v h' tk hv st' kk => ?_
    obtain ⟨t, rfl⟩ := hv
    have I1 : Inv X pins σ H { s with heap := h', toks := tk } := I.turned (fun b o hb e => kk b o (by simpa using hb) e) f0 f1 f3 f4 f5
    refine ⟨_, rfl, go_of (s := { s with heap := h', toks := tk }) (n := "range_iterator") st' rfl rfl (by decide) ⟨.int (lo + i), H, I1, ⟨t, ?_⟩, ⟨rfl, rfl⟩, st', fun b hb => (hf b hb).1⟩⟩
    rw [Int.mul_one]
  done := by
    intro X hP hw hK hc i pins s σ H E I hf st hg
    subst hP hw hK
    obtain ⟨f0, f1, f2, f3, f4, f5⟩ := hf it (by simp)
    exact wpAny_pyNext_range_end (I.ok.hd hc) st (by have : n ≤ i := hg; omega) fun h' eb => ⟨rfl, I.turned (t' := s.toks) (fun b o hb e => eb b o hb e) f0 f1 f3 f4 f5⟩
  self := fun _ _ _ _ _ st h => wpAny_pyIter_rangeiter st h
end L2

namespace L2
open PySem PySem.Spec PyProof.Rows
section
variable {X : Cx} {tg : Expr}
def iList (K : PySem.W.Frag) (tl : TE) : TI := fun σ H R => tl σ H fun x H1 => ∃ a, x = .ref a ∧ (∃ xs, SqL K H1 a xs) ∧ R (Itl K a) H1
def iTup (K : PySem.W.Frag) (tl : TE) : TI := fun σ H R => tl σ H fun x H1 => ∃ a, x = .ref a ∧ (∃ xs, SqT K H1 a xs) ∧ R (Itt K a) H1
theorem pi_list {l : Expr} {tl : TE} (hl : PE X l tl) : PI X tg l (iList X.K tl) := by
  intro pins s σ H R I h
  refine thn (hl pins s σ H _ I h) fun v s1 ⟨x, H1, I1, r1, q1⟩ => ?_
  obtain ⟨a, e, ⟨xs, hq⟩, q⟩ := q1
  subst e
  cases r1
  obtain ⟨its, rv, p, hz⟩ := I1.list hq
  refine wpAny_pyIter_list p.isList ?_
  refine ⟨s1.heap.objs.size, [s1.heap.objs.size], _, _, H1, rfl, I1.kept (t' := s1.toks) fun b o e => Heap.get?_push_of_some _ e, turn_list a _, ⟨_, Heap.get?_push_size _ rfl, rfl, rfl⟩, fun b hb => ?_, q⟩
  have e : b = s1.heap.objs.size := by simpa using hb
  subst e
  exact I1.fpOk (Nat.le_refl _) (I1.hok.fresh (Nat.le_refl _))
/-- a range object just made, walked -/
theorem range_it {pins : List (Addr × Obj)} {σ : St} {H : Hp} {s : Shared} {R : It → Hp → Prop} {E : Value → Shared → Prop} {lo hi : Int} {t u v : Tok} {tk : Nat} (I : Inv X pins σ H s) (h1 : -(2 ^ 62) ≤ lo) (h2 : lo < 2 ^ 62) (h3 : -(2 ^ 62) ≤ hi) (h4 : hi < 2 ^ 62)
    (q : R (Itr lo (hi - lo).toNat) H) : wpAny (model X.prog X.w) X.A (pyIter (.ref s.heap.objs.size)) (PIE X pins σ tg R) E { s with heap := s.heap.push { cls := .type "range", data := .fields #[.int lo t, .int hi u, .int 1 v] }, toks := tk } := by
  refine wpAny_pyIter_range (IsRange.new ..) (small_one h1 h2 h3 h4) ?_
  have I1 : Inv X pins σ H { s with heap := s.heap.push { cls := .type "range", data := .fields #[.int lo t, .int hi u, .int 1 v] }, toks := tk } := I.kept fun b o e => Heap.get?_push_of_some _ e
  refine ⟨(s.heap.push { cls := .type "range", data := .fields #[.int lo t, .int hi u, .int 1 v] }).objs.size, [(s.heap.push { cls := .type "range", data := .fields #[.int lo t, .int hi u, .int 1 v] }).objs.size], _, _, H, rfl,
    I1.kept (t' := tk) fun b o e => Heap.get?_push_of_some _ e, turn_range _ lo (hi - lo).toNat, ?_, fun b hb => ?_, q⟩
  · have e1 : lo + ((0 : Nat) : Int) * 1 = lo := by simp
    have e2 : (((hi - lo).toNat : Nat) : Int) - ((0 : Nat) : Int) = Builtin.Range.rangeSize lo hi 1 := by rw [rangeSize_one]; split <;> omega
    show IsRangeIter _ _ (lo + ((0 : Nat) : Int) * 1) ((((hi - lo).toNat : Nat) : Int) - ((0 : Nat) : Int)) 1
    rw [e1, e2]
    exact Heap.get?_push_size _ rfl
  · have e : b = (s.heap.push { cls := .type "range", data := .fields #[.int lo t, .int hi u, .int 1 v] }).objs.size := by simpa using hb
    subst e
    exact I1.fpOk (Nat.le_refl _) (I1.hok.fresh (Nat.le_refl _))
def iRng1 (ta : TA) : TI := fun σ H R => ta σ H fun vs H1 => ∃ j : Int, vs = [.int j] ∧ -(2 ^ 62) ≤ j ∧ j < 2 ^ 62 ∧ R (Itr 0 j.toNat) H1
def iRng2 (ta : TA) : TI := fun σ H R => ta σ H fun vs H1 => ∃ i j : Int, vs = [.int i, .int j] ∧ (-(2 ^ 62) ≤ i ∧ i < 2 ^ 62 ∧ -(2 ^ 62) ≤ j ∧ j < 2 ^ 62) ∧ R (Itr i (j - i).toNat) H1
theorem pi_range1 {a : Expr} {ta : TA} {p pos : Pos} (hg : Gl X "range") (hm : X.mg "range" = none) (ha : PA X [a] ta) (hs : starEach [a] X.env = [(false, eval a X.env)] := by rfl) : PI X tg (.Call (.Name "range" p) [a] [] pos) (iRng1 ta) := by
  intro pins s σ H R I h
  refine Call_ (ld_blt I hg hm boot_range (PyProof.Rows.callWith_type1 (thn (ha pos pins s σ H _ I h) fun us s1 ⟨vs, H1, I1, r1, q1⟩ => ?_) hs rfl))
  obtain ⟨j, e, q1, q2, q⟩ := q1
  subst e
  cases r1 with
  | cons r rr =>
    cases rr
    obtain ⟨t, rfl⟩ := r
    exact call_range_1 (range_it I1 (by omega) (by omega) q1 q2 (by simpa using q))
/-! ### for -/
/-- W: the invariant by the turn and a measure; N: what the body is to reach -/
def tFor (wi : TI) (g : TG) (tb : TS) : TS := fun D σ H => wi σ H fun J H1 => ∃ W : Nat → Nat → St → Hp → Prop, (∃ m, W 0 m σ H1) ∧ ∀ i m σ H, W i m σ H →
  (J.stop i H ∧ D.nx σ H) ∨ (J.go i H ∧ ∃ N : St → Hp → Prop, (∀ σ' H', N σ' H' → ∃ m', m' < m ∧ W (i + 1) m' σ' H') ∧ ∀ x H', J.yld i H x H' → g x σ H' fun σ2 H2 => tb { D with nx := N, ct := N, bk := D.nx } σ2 H2)
/-- the records at fp as they stand -/
def pinsAt (fp : List Addr) (h : Heap) : List (Addr × Obj) := fp.filterMap fun b => (h.get? b).map fun o => (b, o)
theorem mem_pinsAt {fp : List Addr} {h : Heap} {b : Addr} {o : Obj} (hb : b ∈ fp) (e : h.get? b = some o) : (b, o) ∈ pinsAt fp h := List.mem_filterMap.mpr ⟨b, hb, by rw [e]; rfl⟩
theorem of_pinsAt {fp : List Addr} {h : Heap} {p : Addr × Obj} (hp : p ∈ pinsAt fp h) : p.1 ∈ fp ∧ h.get? p.1 = some p.2 := by
  obtain ⟨b, hb, e⟩ := List.mem_filterMap.mp hp
  cases q : h.get? b with
  | none => rw [q] at e; cases e
  | some o =>
    rw [q] at e
    have e' : (b, o) = p := Option.some.inj e
    subst e'
    exact ⟨hb, q⟩
theorem Inv.pinned {pins : List (Addr × Obj)} {σ : St} {H : Hp} {s : Shared} {fp : List Addr} (I : Inv X pins σ H s) (hf : ∀ b ∈ fp, FpOk X pins H b) (ho : ∀ b ∈ fp, ∃ o, s.heap.get? b = some o ∧ ∀ v, o.data ≠ .cell v) : Inv X (pins ++ pinsAt fp s.heap) σ H s :=
  I.pins_of fun p hp => (List.mem_append.mp hp).elim (fun z => I.pin p (List.mem_append_right _ z)) fun z => by
    obtain ⟨hb, e⟩ := of_pinsAt z
    obtain ⟨f0, f1, f2, _⟩ := hf p.1 hb
    obtain ⟨o, e', d⟩ := ho p.1 hb
    rw [e] at e'; cases e'
    exact ⟨e, f0, f1, f2, d⟩
theorem Inv.unpinned {pins pl : List (Addr × Obj)} {σ : St} {H : Hp} {s : Shared} (I : Inv X (pins ++ pl) σ H s) : Inv X pins σ H s := I.pins_of fun p hp => I.pin p (List.mem_append_right _ (List.mem_append_left _ hp))
theorem ps_for {iter : Expr} {body : List Stmt} {wi : TI} {g : TG} {tb : TS} {pos : Pos} (hp : PassesOwn (model X.prog X.w) X.A X.env X.xe) (hc : X.calm = true) (hi : PI X tg iter wi) (hg : PG X tg g) (hb : PSs X body tb)
    (hs : ∀ x, foldedSetIterable iter X.env x = pure x := by intro _; rfl) : PS X (.For tg iter body [] pos) (tFor wi g tb) := by
  intro pins s σ H D I h
  refine wpAny_For (thn (hi pins s σ H _ I h) fun v s1 h1 => thn h1 fun itv s2 h2 => ?_) hs
  obtain ⟨it, fp, tn, J, H2, e, I2, T, st2, f2, W, ⟨m0, w0⟩, turn⟩ := h2
  subst e
  -- what stays true of the iterator's objects through the loop
  have stat : ∀ {H' : Hp}, (∀ b ∈ fp, H' b = none) → ∀ b ∈ fp, FpOk X pins H' b := fun hn b hb => ⟨hn b hb, (f2 b hb).2⟩
  refine codeAny_forLoop_any (fun n s' => ∃ i σ' H', Inv X pins σ' H' s' ∧ tn i s'.heap ∧ (∀ b ∈ fp, H' b = none) ∧ W i n σ' H') ?_ m0 ⟨0, σ, H2, I2, st2, fun b hb => (f2 b hb).1, w0⟩
  rintro n s3 ⟨i, σ3, H3, I3, st3, fr3, w3⟩
  rcases turn i n σ3 H3 w3 with ⟨stop, qn⟩ | ⟨go, N, hN, step⟩
  · refine wpAny_passesOwn hp (thn (T.done X rfl rfl rfl hc i pins s3 σ3 H3 X.xe I3 (stat fr3) st3 stop) fun r s4 ⟨hr, I4⟩ => ?_)
    subst hr
    exact wpAny_execs_nil ⟨σ3, H3, I4, qn⟩
  · refine wpAny_passesOwn hp (thn (T.item X rfl rfl rfl hc i pins s3 σ3 H3 X.xe I3 (stat fr3) st3 go) fun r s4 ⟨u, hr, h4⟩ => ?_)
    subst hr
    refine wpAny_passesOwn hp (thn h4 fun _ s5 ⟨x, H5, I5, r5, y5, st5, fr5⟩ => ?_)
    have I5' := I5.pinned (stat fr5) (T.obj _ _ st5)
    refine wpAny_passesOwn hp (thn (hg _ s5 σ3 H5 x u _ I5' r5 (step x H5 y5)) fun _ s6 ⟨σ6, H6, I6, q6⟩ => ?_)
    refine wpAny_passesOwn hp (thn (hb _ s6 σ6 H6 _ I6 q6) fun f s7 q7 => ?_)
    have again : ∀ {σ7 : St} {H7 : Hp}, Inv X (pins ++ pinsAt fp s5.heap) σ7 H7 s7 → N σ7 H7 → ∃ m, m < n ∧ ∃ i σ' H', Inv X pins σ' H' s7 ∧ tn i s7.heap ∧ (∀ b ∈ fp, H' b = none) ∧ W i m σ' H' := fun {σ7 H7} I7 n7 => by
      obtain ⟨m', hm, w7⟩ := hN σ7 H7 n7
      refine ⟨m', hm, i + 1, σ7, H7, I7.unpinned, T.keep _ _ _ st5 fun b hb o e => (I7.pin (b, o) (List.mem_append_right _ (List.mem_append_right _ (mem_pinsAt hb e)))).1, fun b hb => ?_, w7⟩
      obtain ⟨o, e, d⟩ := T.obj _ _ st5 b hb
      exact (I7.pin (b, o) (List.mem_append_right _ (List.mem_append_right _ (mem_pinsAt hb e)))).2.1
    cases f with
    | next => obtain ⟨σ7, H7, I7, n7⟩ := q7; exact again I7 n7
    | cont => obtain ⟨σ7, H7, I7, n7⟩ := q7; exact again I7 n7
    | brk => obtain ⟨σ7, H7, I7, q7⟩ := q7; exact ⟨σ7, H7, I7.unpinned, q7⟩
    | ret v => obtain ⟨x7, σ7, H7, I7, r7, q7⟩ := q7; exact ⟨x7, σ7, H7, I7.unpinned, r7, q7⟩
end

/-! ### the forms one uses -/
/-- over a list that the body leaves as it is -/
theorem for_list {K : PySem.W.Frag} {a : Addr} {xs : List V} {g : TG} {tb : TS} {D : Ends} {σ : St} {H : Hp} (Pv : Nat → St → Hp → Prop) (h0 : Pv 0 σ H) (hl : ∀ i σ H, i ≤ xs.length → Pv i σ H → SqL K H a xs)
    (hs : ∀ i x σ H, xs[i]? = some x → Pv i σ H → g x σ H fun σ2 H2 => tb { D with nx := Pv (i + 1), ct := Pv (i + 1), bk := D.nx } σ2 H2) (hd : ∀ σ H, Pv xs.length σ H → D.nx σ H) :
    ∃ W : Nat → Nat → St → Hp → Prop, (∃ m, W 0 m σ H) ∧ ∀ i m σ H, W i m σ H →
      ((Itl K a).stop i H ∧ D.nx σ H) ∨ ((Itl K a).go i H ∧ ∃ N : St → Hp → Prop, (∀ σ' H', N σ' H' → ∃ m', m' < m ∧ W (i + 1) m' σ' H') ∧ ∀ x H', (Itl K a).yld i H x H' → g x σ H' fun σ2 H2 => tb { D with nx := N, ct := N, bk := D.nx } σ2 H2) := by
  refine ⟨fun i m σ H => m = xs.length - i ∧ i ≤ xs.length ∧ Pv i σ H, ⟨xs.length, by simp, Nat.zero_le _, h0⟩, ?_⟩
  rintro i m σ H ⟨rfl, hi, p⟩
  have q := hl i σ H hi p
  by_cases hlt : i < xs.length
  · refine .inr ⟨⟨xs, xs[i], q, by simp [hlt]⟩, Pv (i + 1), fun σ' H' p' => ⟨xs.length - (i + 1), by omega, rfl, hlt, p'⟩, fun x H' y => ?_⟩
    obtain ⟨e, y⟩ := y
    subst e
    exact hs i x σ _ (y xs q) p
  · have e : i = xs.length := by omega
    subst e
    exact .inl ⟨⟨xs, q, Nat.le_refl _⟩, hd σ H p⟩
theorem for_range {lo : Int} {n : Nat} {g : TG} {tb : TS} {D : Ends} {σ : St} {H : Hp} (Pv : Nat → St → Hp → Prop) (h0 : Pv 0 σ H)
    (hs : ∀ i σ H, i < n → Pv i σ H → g (.int (lo + i)) σ H fun σ2 H2 => tb { D with nx := Pv (i + 1), ct := Pv (i + 1), bk := D.nx } σ2 H2) (hd : ∀ σ H, Pv n σ H → D.nx σ H) :
    ∃ W : Nat → Nat → St → Hp → Prop, (∃ m, W 0 m σ H) ∧ ∀ i m σ H, W i m σ H →
      ((Itr lo n).stop i H ∧ D.nx σ H) ∨ ((Itr lo n).go i H ∧ ∃ N : St → Hp → Prop, (∀ σ' H', N σ' H' → ∃ m', m' < m ∧ W (i + 1) m' σ' H') ∧ ∀ x H', (Itr lo n).yld i H x H' → g x σ H' fun σ2 H2 => tb { D with nx := N, ct := N, bk := D.nx } σ2 H2) := by
  refine ⟨fun i m σ H => m = n - i ∧ i ≤ n ∧ Pv i σ H, ⟨n, by simp, Nat.zero_le _, h0⟩, ?_⟩
  rintro i m σ H ⟨rfl, hi, p⟩
  by_cases hlt : i < n
  · refine .inr ⟨hlt, Pv (i + 1), fun σ' H' p' => ⟨n - (i + 1), by omega, rfl, hlt, p'⟩, fun x H' y => ?_⟩
    obtain ⟨e, y⟩ := y
    subst e y
    exact hs i σ _ hlt p
  · have e : i = n := by omega
    subst e
    exact .inl ⟨Nat.le_refl _, hd σ H p⟩
end L2

namespace L2
open PySem PySem.Spec PyProof.Rows

abbrev R2 := V → V → Hp → VK → Prop
/-- a two-place operation on values: f is binaryOp op, inplaceOp op or compareOp op -/
def OpR (X : Cx) (f : Value → Value → Sem Value) (r : R2) : Prop :=
  ∀ (pins : List (Addr × Obj)) (s : Shared) (σ : St) (H : Hp) (x y : V) (v u : Value) (Q : VK), Inv X pins σ H s → RelV x v → RelV y u → r x y H Q →
    wpAny (model X.prog X.w) X.A (f v u) (EP X pins σ Q) X.xe s
/-- a one-place operation -/
def UnR (X : Cx) (f : Value → Sem Value) (r : V → Hp → VK → Prop) : Prop :=
  ∀ (pins : List (Addr × Obj)) (s : Shared) (σ : St) (H : Hp) (x : V) (v : Value) (Q : VK), Inv X pins σ H s → RelV x v → r x H Q →
    wpAny (model X.prog X.w) X.A (f v) (EP X pins σ Q) X.xe s
/-- a call of a value that is known (a builtin, a type) with values -/
def CallR (X : Cx) (f : Value) (r : List V → Hp → VK → Prop) : Prop :=
  ∀ (pins : List (Addr × Obj)) (s : Shared) (σ : St) (H : Hp) (xs : List V) (us : List Value) (Q : VK), Inv X pins σ H s → Vals xs us → r xs H Q →
    wpAny (model X.prog X.w) X.A (call f us) (EP X pins σ Q) X.xe s
/-- a value's truth -/
def TruR (X : Cx) (r : V → Hp → (Bool → Hp → Prop) → Prop) : Prop :=
  ∀ (pins : List (Addr × Obj)) (s : Shared) (σ : St) (H : Hp) (x : V) (v : Value) (Q : Bool → Hp → Prop), Inv X pins σ H s → RelV x v → r x H Q →
    wpAny (model X.prog X.w) X.A (truthy v) (TP X pins σ Q) X.xe s

def tOp (r : R2) (ta tb : TE) : TE := fun σ H Q => ta σ H fun x H1 => tb σ H1 fun y H2 => r x y H2 Q
def tUn (r : V → Hp → VK → Prop) (ta : TE) : TE := fun σ H Q => ta σ H fun x H1 => r x H1 Q
/-- ints in, under C, and a value out -/
def rI (C : Int → Int → Prop) (g : Int → Int → V) : R2 := fun x y H Q => ∃ i j, x = .int i ∧ y = .int j ∧ C i j ∧ Q (g i j) H
def rI0 (g : Int → Int → V) : R2 := fun x y H Q => ∃ i j, x = .int i ∧ y = .int j ∧ Q (g i j) H
def rU (g : Int → V) : V → Hp → VK → Prop := fun x H Q => ∃ i, x = .int i ∧ Q (g i) H

section
variable {X : Cx} {a b c : Expr} {ta tb tc : TE} {pos : Pos}

theorem binT (ha : PE X a ta) (hb : PE X b tb) {pins : List (Addr × Obj)} {s : Shared} {σ : St} {H : Hp} {R : V → V → Hp → Prop} (I : Inv X pins σ H s)
    (h : ta σ H fun x H1 => tb σ H1 fun y H2 => R x y H2) {Q : Value → Shared → Prop} {f : Value → Value → Sem Value}
    (hf : ∀ v u s2 x y H2, Inv X pins σ H2 s2 → RelV x v → RelV y u → R x y H2 → wpAny (model X.prog X.w) X.A (f v u) Q X.xe s2) :
    wpAny (model X.prog X.w) X.A (eval a X.env) (fun v s₁ => wpAny (model X.prog X.w) X.A (eval b X.env) (fun u s₂ => wpAny (model X.prog X.w) X.A (f v u) Q X.xe s₂) X.xe s₁) X.xe s := by
  refine thn (ha pins s σ H _ I h) fun v s1 ⟨x, H1, I1, r1, q1⟩ => ?_
  refine thn (hb pins s1 σ H1 _ I1 q1) fun u s2 ⟨y, H2, I2, r2, q2⟩ => ?_
  exact hf v u s2 x y H2 I2 r1 r2 q2

theorem pe_op {op : Operator} {r : R2} (ho : OpR X (binaryOp op) r) (ha : PE X a ta) (hb : PE X b tb) : PE X (.BinOp a op b pos) (tOp r ta tb) := by
  intro pins s σ H Q I h
  exact wpAny_BinOp (binT ha hb I h fun v u s2 x y H2 I2 rx ry q => ho pins s2 σ H2 x y v u Q I2 rx ry q)
theorem pe_un {op : UnaryOp} {r : V → Hp → VK → Prop} (ho : UnR X (unaryOp op) r) (ha : PE X a ta) : PE X (.UnaryOp op a pos) (tUn r ta) := by
  intro pins s σ H Q I h
  exact UnaryOp_ (thn (ha pins s σ H _ I h) fun v s1 ⟨x, H1, I1, r1, q1⟩ => ho pins s1 σ H1 x v Q I1 r1 q1)
/-! ### ints -/
theorem opI {f : Value → Value → Sem Value} {C : Int → Int → Prop} {g : Int → Int → Int}
    (rule : ∀ (i j : Int) (t u : Tok) (s : Shared) (Q : Value → Shared → Prop) (E : Value → Shared → Prop), C i j → Q (.int (g i j) s.toks) { s with toks := s.toks + 1 } → wpAny (model X.prog X.w) X.A (f (.int i t) (.int j u)) Q E s) :
    OpR X f (rI C fun i j => .int (g i j)) := by
  intro pins s σ H x y v u Q I rx ry h
  obtain ⟨i, j, rfl, rfl, hc, q⟩ := h
  obtain ⟨t, rfl⟩ := rx
  obtain ⟨t', rfl⟩ := ry
  exact rule i j t t' s _ _ hc ⟨.int (g i j), H, I.tok _, ⟨_, rfl⟩, q⟩
theorem opI0 {f : Value → Value → Sem Value} {g : Int → Int → Int}
    (rule : ∀ (i j : Int) (t u : Tok) (s : Shared) (Q : Value → Shared → Prop) (E : Value → Shared → Prop), Q (.int (g i j) s.toks) { s with toks := s.toks + 1 } → wpAny (model X.prog X.w) X.A (f (.int i t) (.int j u)) Q E s) :
    OpR X f (rI0 fun i j => .int (g i j)) := by
  intro pins s σ H x y v u Q I rx ry h
  obtain ⟨i, j, rfl, rfl, q⟩ := h
  obtain ⟨t, rfl⟩ := rx
  obtain ⟨t', rfl⟩ := ry
  exact rule i j t t' s _ _ ⟨.int (g i j), H, I.tok _, ⟨_, rfl⟩, q⟩
theorem opB0 {f : Value → Value → Sem Value} {g : Int → Int → Bool}
    (rule : ∀ (i j : Int) (t u : Tok) (s : Shared) (Q : Value → Shared → Prop) (E : Value → Shared → Prop), Q (.bool (g i j)) s → wpAny (model X.prog X.w) X.A (f (.int i t) (.int j u)) Q E s) :
    OpR X f (rI0 fun i j => .bl (g i j)) := by
  intro pins s σ H x y v u Q I rx ry h
  obtain ⟨i, j, rfl, rfl, q⟩ := h
  obtain ⟨t, rfl⟩ := rx
  obtain ⟨t', rfl⟩ := ry
  exact rule i j t t' s _ _ ⟨.bl (g i j), H, I, rfl, q⟩

def CDiv (i j : Int) : Prop := 0 < j ∧ j < 1073741824
def CMul (i j : Int) : Prop := (-(2 ^ 64) < i ∧ i < 2 ^ 64) ∨ (-(2 ^ 64) < j ∧ j < 2 ^ 64)
theorem CMul.ok {i j : Int} (h : CMul i j) : IntMulOk i j := by
  rcases h with ⟨h1, h2⟩ | ⟨h1, h2⟩
  · exact .of_left (intBits_le_64 h1 h2)
  · exact .of_right (intBits_le_64 h1 h2)
theorem op_add : OpR X (binaryOp .Add) (rI0 fun i j => .int (i + j)) := opI0 fun _ _ _ _ _ _ _ q => add_int q
theorem op_sub : OpR X (binaryOp .Sub) (rI0 fun i j => .int (i - j)) := opI0 fun _ _ _ _ _ _ _ q => sub_int q
theorem op_mul : OpR X (binaryOp .Mult) (rI CMul fun i j => .int (i * j)) := opI fun _ _ _ _ _ _ _ hc q => mul_int q hc.ok
/-- // by a positive divisor -/
theorem op_fdiv : OpR X (binaryOp .FloorDiv) (rI CDiv fun i j => .int (i / j)) := opI fun i j _ _ _ _ _ hc q => by
  have h1 : (0 : Int) < j := hc.1
  have h2 : j < 1073741824 := hc.2
  exact floordiv_int (by omega) (by rw [Int.fdiv_eq_ediv_of_nonneg i (by omega)]; exact q) (.inl (PyProof.noPylong_small (by omega)))
/-- % by a positive divisor of any size -/
theorem op_mod : OpR X (binaryOp .Mod) (rI (fun _ j => 0 < j) fun i j => .int (i % j)) := opI fun i j _ _ _ _ _ hc q => by
  have h1 : (0 : Int) < j := hc
  exact mod_int' (by omega) (by rw [Int.fmod_eq_emod_of_nonneg i (by omega)]; exact q)
theorem unI {f : Value → Sem Value} {g : Int → Int}
    (rule : ∀ (i : Int) (t : Tok) (s : Shared) (Q : Value → Shared → Prop) (E : Value → Shared → Prop), Q (.int (g i) s.toks) { s with toks := s.toks + 1 } → wpAny (model X.prog X.w) X.A (f (.int i t)) Q E s) :
    UnR X f (rU fun i => .int (g i)) := by
  intro pins s σ H x v Q I rx h
  obtain ⟨i, rfl, q⟩ := h
  obtain ⟨t, rfl⟩ := rx
  exact rule i t s _ _ ⟨.int (g i), H, I.tok _, ⟨_, rfl⟩, q⟩
theorem un_neg : UnR X (unaryOp .USub) (rU fun i => .int (-i)) := unI fun _ _ _ _ _ q => neg_int q
/-! ### bools among ints: n += (a < b) -/
end

/-! ### comparisons -/
/-- the scalars that == tells apart as data does -/
def scal : V → V → Bool
  | .non, .non => true | .non, .int _ => true | .int _, .non => true | .non, .bl _ => true | .bl _, .non => true | .non, .str _ => true | .str _, .non => true
  | .int _, .int _ => true | .bl _, .bl _ => true | .str _, .str _ => true | .byt _, .byt _ => true
  | .int _, .str _ => true | .str _, .int _ => true | .bl _, .str _ => true | .str _, .bl _ => true
  | _, _ => false
def rEq : R2 := fun x y H Q => scal x y = true ∧ Q (.bl (decide (x = y))) H
def rNe : R2 := fun x y H Q => scal x y = true ∧ Q (.bl (!decide (x = y))) H

theorem dec_int {i j : Int} : decide (V.int i = V.int j) = (i == j) := by
  rw [Bool.eq_iff_iff]
  simp
theorem dec_bl {i j : Bool} : decide (V.bl i = V.bl j) = (i == j) := by
  rw [Bool.eq_iff_iff]
  simp
theorem dec_str {i j : Str} : decide (V.str i = V.str j) = (i == j) := by
  rw [Bool.eq_iff_iff]
  simp
theorem dec_byt {i j : Array UInt8} : decide (V.byt i = V.byt j) = (i.toList == j.toList) := by
  rw [Bool.eq_iff_iff]
  cases i
  cases j
  simp

section
variable {X : Cx} {a b c : Expr} {ta tb tc : TE} {pos : Pos}
theorem fin_bl {pins : List (Addr × Obj)} {σ : St} {H : Hp} {s : Shared} {Q : VK} {k k' : Bool} (I : Inv X pins σ H s) (q : Q (.bl k) H) (e : k = k') : EP X pins σ Q (.bool k') s := by
  subst e
  exact ⟨.bl k, H, I, rfl, q⟩
theorem op_eq : OpR X (compareOp .Eq) rEq := by
  intro pins s σ H x y v u Q I rx ry h
  obtain ⟨hs, q⟩ := h
  cases x with
  | non =>
    cases rx
    cases y with
    | non => cases ry; exact PySem.EqNone.eq_none_none (fin_bl I q (by simp))
    | bl j => cases ry; exact PySem.EqNone.eq_none_bool (fin_bl I q (by simp))
    | int j => obtain ⟨t', rfl⟩ := ry; exact PySem.EqNone.eq_none_int (fin_bl I q (by simp))
    | str j => obtain ⟨t', rfl⟩ := ry; exact PySem.EqNone.eq_none_str (fin_bl I q (by simp))
    | _ => exact absurd (show false = true from hs) Bool.false_ne_true
  | bl i =>
    cases rx
    cases y with
    | non => cases ry; exact PySem.EqNone.eq_bool_none (fin_bl I q (by simp))
    | bl j => cases ry; exact eq_bool (fin_bl I q dec_bl)
    | str j => obtain ⟨t', rfl⟩ := ry; exact PySem.EqMixed.eq_bool_str (fin_bl I q (by simp))
    | _ => exact absurd (show false = true from hs) Bool.false_ne_true
  | int i =>
    obtain ⟨t, rfl⟩ := rx
    cases y with
    | non => cases ry; exact PySem.EqNone.eq_int_none (fin_bl I q (by simp))
    | int j => obtain ⟨t', rfl⟩ := ry; exact eq_int (fin_bl I q dec_int)
    | str j => obtain ⟨t', rfl⟩ := ry; exact PySem.EqMixed.eq_int_str (fin_bl I q (by simp))
    | _ => exact absurd (show false = true from hs) Bool.false_ne_true
  | str i =>
    obtain ⟨t, rfl⟩ := rx
    cases y with
    | non => cases ry; exact PySem.EqNone.eq_str_none (fin_bl I q (by simp))
    | bl j => cases ry; exact PySem.EqMixed.eq_str_bool (fin_bl I q (by simp))
    | int j => obtain ⟨t', rfl⟩ := ry; exact PySem.EqMixed.eq_str_int (fin_bl I q (by simp))
    | str j => obtain ⟨t', rfl⟩ := ry; exact eq_str (fin_bl I q dec_str)
    | _ => exact absurd (show false = true from hs) Bool.false_ne_true
  | byt i =>
    obtain ⟨t, rfl⟩ := rx
    cases y with
    | byt j => obtain ⟨t', rfl⟩ := ry; exact PySem.W.eq_bytes (fin_bl I q dec_byt)
    | _ => exact absurd (show false = true from hs) Bool.false_ne_true
  | _ => cases y <;> exact absurd (show false = true from hs) Bool.false_ne_true
theorem op_ne : OpR X (compareOp .NotEq) rNe := by
  intro pins s σ H x y v u Q I rx ry h
  obtain ⟨hs, q⟩ := h
  cases x with
  | non =>
    cases rx
    cases y with
    | non => cases ry; exact PySem.EqNone.ne_none_none (fin_bl I q (by simp))
    | bl j => cases ry; exact PySem.EqNone.ne_none_bool (fin_bl I q (by simp))
    | int j => obtain ⟨t', rfl⟩ := ry; exact PySem.EqNone.ne_none_int (fin_bl I q (by simp))
    | str j => obtain ⟨t', rfl⟩ := ry; exact PySem.EqNone.ne_none_str (fin_bl I q (by simp))
    | _ => exact absurd (show false = true from hs) Bool.false_ne_true
  | bl i =>
    cases rx
    cases y with
    | non => cases ry; exact PySem.EqNone.ne_bool_none (fin_bl I q (by simp))
    | bl j => cases ry; exact ne_bool (fin_bl I q (congrArg not dec_bl))
    | str j => obtain ⟨t', rfl⟩ := ry; exact PySem.EqMixed.ne_bool_str (fin_bl I q (by simp))
    | _ => exact absurd (show false = true from hs) Bool.false_ne_true
  | int i =>
    obtain ⟨t, rfl⟩ := rx
    cases y with
    | non => cases ry; exact PySem.EqNone.ne_int_none (fin_bl I q (by simp))
    | int j => obtain ⟨t', rfl⟩ := ry; exact ne_int (fin_bl I q (congrArg not dec_int))
    | str j => obtain ⟨t', rfl⟩ := ry; exact PySem.EqMixed.ne_int_str (fin_bl I q (by simp))
    | _ => exact absurd (show false = true from hs) Bool.false_ne_true
  | str i =>
    obtain ⟨t, rfl⟩ := rx
    cases y with
    | non => cases ry; exact PySem.EqNone.ne_str_none (fin_bl I q (by simp))
    | bl j => cases ry; exact PySem.EqMixed.ne_str_bool (fin_bl I q (by simp))
    | int j => obtain ⟨t', rfl⟩ := ry; exact PySem.EqMixed.ne_str_int (fin_bl I q (by simp))
    | str j => obtain ⟨t', rfl⟩ := ry; exact ne_str (fin_bl I q (congrArg not dec_str))
    | _ => exact absurd (show false = true from hs) Bool.false_ne_true
  | byt i =>
    obtain ⟨t, rfl⟩ := rx
    cases y with
    | byt j => obtain ⟨t', rfl⟩ := ry; exact PySem.W.ne_bytes (fin_bl I q (congrArg not dec_byt))
    | _ => exact absurd (show false = true from hs) Bool.false_ne_true
  | _ => cases y <;> exact absurd (show false = true from hs) Bool.false_ne_true

theorem op_lt : OpR X (compareOp .Lt) (rI0 fun i j => .bl (decide (i < j))) := opB0 fun _ _ _ _ _ _ _ q => lt_int q
theorem op_le : OpR X (compareOp .LtE) (rI0 fun i j => .bl (decide (i ≤ j))) := opB0 fun _ _ _ _ _ _ _ q => le_int q
theorem op_gt : OpR X (compareOp .Gt) (rI0 fun i j => .bl (decide (j < i))) := opB0 fun _ _ _ _ _ _ _ q => gt_int q
theorem op_lt_str : OpR X (compareOp .Lt) (fun x y H Q => ∃ i j, x = .str i ∧ y = .str j ∧ Q (.bl (decide (i.cps.toList < j.cps.toList))) H) := by
  intro pins s σ H x y v u Q I rx ry h
  obtain ⟨i, j, rfl, rfl, q⟩ := h
  obtain ⟨t, rfl⟩ := rx
  obtain ⟨t', rfl⟩ := ry
  exact lt_str (fin_bl I q rfl)
/-- two rules for one operation: by cases -/
theorem OpR.or {f : Value → Value → Sem Value} {r r' : R2} (h : OpR X f r) (h' : OpR X f r') : OpR X f (fun x y H Q => r x y H Q ∨ r' x y H Q) := by
  intro pins s σ H x y v u Q I rx ry q
  rcases q with q | q
  · exact h pins s σ H x y v u Q I rx ry q
  · exact h' pins s σ H x y v u Q I rx ry q

theorem nomark (b : Expr) {op : CmpOp} (h : op ≠ .In := by decide) (h2 : op ≠ .NotIn := by decide) : behindInMarks op b = false := by
  have e1 : (op == CmpOp.In) = false := by cases op <;> first | rfl | exact absurd rfl h
  have e2 : (op == CmpOp.NotIn) = false := by cases op <;> first | rfl | exact absurd rfl h2
  cases b <;> simp [behindInMarks, e1, e2]
/-- a comparison as a value; hm: nomark b, or (for in, not in) by with_unfolding_all rfl -/
theorem pe_cmpR {op : CmpOp} {r : R2} (ho : OpR X (compareOp op) r) (ha : PE X a ta) (hb : PE X b tb) (hm : behindInMarks op b = false) : PE X (.Compare a [op] [b] pos) (tOp r ta tb) := by
  intro pins s σ H Q I h
  exact wpAny_Compare1 (binT ha hb I h fun v u s2 x y H2 I2 rx ry q => ho pins s2 σ H2 x y v u Q I2 rx ry q) hm
/-- a reading of a value as a test -/
def tTest (t : TE) : TT := fun σ H Q => t σ H fun x H' => ∃ k, x = .bl k ∧ Q k H'
theorem pt_cmpR {op : CmpOp} {r : R2} (ho : OpR X (compareOp op) r) (ha : PE X a ta) (hb : PE X b tb) (hm : behindInMarks op b = false) : PT X (.Compare a [op] [b] pos) (tTest (tOp r ta tb)) := by
  intro pins s σ H Q I h
  refine wpAny_isTrue_Compare1 (thn (ha pins s σ H _ I h) fun v s1 ⟨x, H1, I1, r1, q1⟩ => thn (hb pins s1 σ H1 _ I1 q1) fun u s2 ⟨y, H2, I2, r2, q2⟩ =>
    thn (ho pins s2 σ H2 x y v u _ I2 r1 r2 q2) fun c s3 ⟨z, H3, I3, r3, k, e, q3⟩ => ?_) hm
  subst e
  cases r3
  exact wpAny_truthy_bool ⟨H3, I3, q3⟩
/-- a op1 b op2 c -/
def tChain (r r' : R2) (ta tb tc : TE) : TE := fun σ H Q => ta σ H fun x H1 => tb σ H1 fun y H2 => r x y H2 fun z H3 => ∃ k, z = .bl k ∧
  (if k = true then tc σ H3 fun w' H4 => r' y w' H4 Q else Q (.bl false) H3)
theorem pe_chain {op op' : CmpOp} {r r' : R2} (ho : OpR X (compareOp op) r) (ho' : OpR X (compareOp op') r') (ha : PE X a ta) (hb : PE X b tb) (hc : PE X c tc)
    (hm : lastMarks [op, op'] [b, c] = false := by with_unfolding_all rfl) : PE X (.Compare a [op, op'] [b, c] pos) (tChain r r' ta tb tc) := by
  intro pins s σ H Q I h
  refine Compare_chain (thn (ha pins s σ H _ I h) fun v s1 ⟨x, H1, I1, r1, q1⟩ => chain_link (thn (hb pins s1 σ H1 _ I1 q1) fun u s2 ⟨y, H2, I2, r2, q2⟩ =>
    thn (ho pins s2 σ H2 x y v u _ I2 r1 r2 q2) fun d s3 ⟨z, H3, I3, r3, k, e, q3⟩ => ?_)) hm
  subst e
  cases r3
  refine wpAny_truthy_bool ?_
  cases k with
  | false => exact ite_ff ⟨.bl false, H3, I3, rfl, q3⟩
  | true => exact ite_tt (chain_last (thn (hc pins s3 σ H3 _ I3 q3) fun w' s4 ⟨z', H4, I4, r4, q4⟩ => ho' pins s4 σ H4 y z' u w' Q I4 r2 r4 q4))
theorem pt_chain {op op' : CmpOp} {r r' : R2} (ho : OpR X (compareOp op) r) (ho' : OpR X (compareOp op') r') (ha : PE X a ta) (hb : PE X b tb) (hc : PE X c tc)
    (hm : lastMarks [op, op'] [b, c] = false := by with_unfolding_all rfl) : PT X (.Compare a [op, op'] [b, c] pos) (tTest (tChain r r' ta tb tc)) := by
  intro pins s σ H Q I h
  refine isTrue_chain (thn (ha pins s σ H _ I h) fun v s1 ⟨x, H1, I1, r1, q1⟩ => test_link (thn (hb pins s1 σ H1 _ I1 q1) fun u s2 ⟨y, H2, I2, r2, q2⟩ =>
    thn (ho pins s2 σ H2 x y v u _ I2 r1 r2 q2) fun d s3 ⟨z, H3, I3, r3, k, e, q3⟩ => ?_)) hm
  subst e
  cases r3
  refine wpAny_truthy_bool ?_
  cases k with
  | false =>
    obtain ⟨k', e', q'⟩ := q3
    cases e'
    exact ite_ff ⟨H3, I3, q'⟩
  | true =>
    refine ite_tt (test_last (thn (hc pins s3 σ H3 _ I3 q3) fun w' s4 ⟨z', H4, I4, r4, q4⟩ => thn (ho' pins s4 σ H4 y z' u w' _ I4 r2 r4 q4) fun d' s5 ⟨z2, H5, I5, r5, k2, e2, q5⟩ => ?_))
    subst e2
    cases r5
    exact wpAny_truthy_bool ⟨H5, I5, q5⟩

/-! ### truth -/
/-- a value's truth by the abstract heap -/
def TruV (K : PySem.W.Frag) (x : V) (H : Hp) (k : Bool) : Prop :=
  match x with
  | .non => k = false
  | .bl b => k = b
  | .int i => k = (i != 0)
  | .str y => y.length ≤ sizeLine ∧ k = ((y.length : Int) != 0)
  | .byt y => y.size ≤ sizeLine ∧ k = ((y.size : Int) != 0)
  | .ref p => (∃ xs, SqL K H p xs ∧ k = !xs.isEmpty) ∨ (∃ xs, SqT K H p xs ∧ k = !xs.isEmpty) ∨ ∃ kvs, H p = some (.dK kvs) ∧ k = !kvs.isEmpty
  | _ => False
theorem isEmpty_kv {κ : Type} {kvs : List (κ × V)} {vs : List (κ × Value)} (r : KV kvs vs) : (!vs.isEmpty) = !kvs.isEmpty := by
  cases r <;> rfl
theorem isEmpty_of {xs : List V} {its : List Value} (r : Vals xs its) : (!its.toArray.isEmpty) = !xs.isEmpty := by
  cases r <;> simp
theorem line63 : (sizeLine : Nat) < 2 ^ 63 := by rw [sizeLine_eq]; decide
theorem tru_ok : TruR X (fun x H Q => ∃ k, TruV X.K x H k ∧ Q k H) := by
  intro pins s σ H x v Q I rx h
  obtain ⟨k, e, q⟩ := h
  have hl := line63
  have hs : sizeLine = 16777216 := sizeLine_eq
  cases x with
  | non =>
    cases rx
    have e' : k = false := e
    subst e'
    exact truthy_none ⟨H, I, q⟩
  | bl b =>
    cases rx
    have e' : k = b := e
    subst e'
    exact wpAny_truthy_bool ⟨H, I, q⟩
  | int i =>
    obtain ⟨t, rfl⟩ := rx
    have e' : k = (i != 0) := e
    subst e'
    exact PySem.P.truthy_int ⟨H, I, q⟩
  | str y =>
    obtain ⟨t, rfl⟩ := rx
    obtain ⟨hy, e'⟩ : y.length ≤ sizeLine ∧ k = ((y.length : Int) != 0) := e
    subst e'
    exact PySem.P.truthy_str (by omega) ⟨H, I.tok _, q⟩
  | byt y =>
    obtain ⟨t, rfl⟩ := rx
    obtain ⟨hy, e'⟩ : y.size ≤ sizeLine ∧ k = ((y.size : Int) != 0) := e
    subst e'
    exact PySem.W.truthy_bytes (by omega) ⟨H, I.tok _, q⟩
  | ref p =>
    cases rx
    have e' : (∃ xs, SqL X.K H p xs ∧ k = !xs.isEmpty) ∨ (∃ xs, SqT X.K H p xs ∧ k = !xs.isEmpty) ∨ ∃ kvs, H p = some (.dK kvs) ∧ k = !kvs.isEmpty := e
    rcases e' with ⟨xs, hx, e'⟩ | ⟨xs, hx, e'⟩ | ⟨kvs, hx, e'⟩
    · subst e'
      obtain ⟨its, r, pl, hz⟩ := I.list hx
      have hlen := r.length
      exact wpAny_truthy_list pl.isList (by simp only [List.size_toArray]; omega) ⟨H, I.tok _, by rw [isEmpty_of r]; exact q⟩
    · subst e'
      obtain ⟨its, r, pl, hz⟩ := I.tuple hx
      have hlen := r.length
      exact truthy_tuple pl (by simp only [List.size_toArray]; omega) ⟨H, I.tok _, by rw [isEmpty_of r]; exact q⟩
    · subst e'
      obtain ⟨hz, hS, vs, r, m⟩ : kvs.length ≤ sizeLine ∧ (p == sysModules) = false ∧ ∃ vs, KV kvs vs ∧ s.heap.DictOf (mixKind X.prog X.w) p vs := I.hok p _ hx
      have hlen : kvs.length = vs.length := Paired.length r
      exact wpAny_truthy_dict hS m (by omega) ⟨H, I.tok _, by rw [isEmpty_kv r]; exact q⟩
  | _ => exact (show False from e).elim
/-- any expression whose test is its value's truth (a name, a call, a subscript, a field ..: he by fun _ => rfl) -/
theorem pt_truth (ha : PE X a ta) (he : ∀ whole, isTrue a X.env whole = (do let v ← whole; standAt a.pos; holding [v] (truthy v))) :
    PT X a (fun σ H Q => ta σ H fun x H' => ∃ k, TruV X.K x H' k ∧ Q k H') := by
  intro pins s σ H Q I h
  exact isTrue_plain (thn (ha pins s σ H _ I h) fun v s1 ⟨x, H1, I1, r1, q1⟩ => tru_ok pins s1 σ H1 x v Q I1 r1 q1) (he _)

/-! ### strs and bytes -/
theorem op_add_str : OpR X (binaryOp .Add) (fun x y H Q => ∃ i j, x = .str i ∧ y = .str j ∧ i.length + j.length ≤ sizeLine ∧ Q (.str (i ++ j)) H) := by
  intro pins s σ H x y v u Q I rx ry h
  obtain ⟨i, j, rfl, rfl, hz, q⟩ := h
  obtain ⟨t, rfl⟩ := rx
  obtain ⟨t', rfl⟩ := ry
  exact add_str (fun t' tk => ⟨.str (i ++ j), H, I.tok _, ⟨_, rfl⟩, q⟩) hz
/-! ### scalar builtins, by CallR -/
theorem vals1 {x : V} {us : List Value} (r : Vals [x] us) : ∃ u, us = [u] ∧ RelV x u := by
  cases r with
  | cons r1 r2 => cases r2; exact ⟨_, rfl, r1⟩
theorem vals2 {x y : V} {us : List Value} (r : Vals [x, y] us) : ∃ u w', us = [u, w'] ∧ RelV x u ∧ RelV y w' := by
  cases r with
  | cons r1 r2 =>
    cases r2 with
    | cons r3 r4 => cases r4; exact ⟨_, _, rfl, r1, r3⟩
theorem call_min2 (hc : X.calm = true) : CallR X (.builtin "min") (fun xs H Q => ∃ i j, xs = [.int i, .int j] ∧ Q (.int (if j < i then j else i)) H) := by
  intro pins s σ H xs us Q I r h
  obtain ⟨i, j, rfl, q⟩ := h
  obtain ⟨u, w', rfl, ⟨t, rfl⟩, ⟨t', rfl⟩⟩ := vals2 r
  refine min_two_ints (I.ok.hd hc) fun h' tk k => ⟨_, H, I.kept k, ?_, q⟩
  by_cases hj : j < i
  · rw [if_pos hj, if_pos hj]; exact ⟨_, rfl⟩
  · rw [if_neg hj, if_neg hj]; exact ⟨_, rfl⟩
/-- len of a str, a bytes, a list, a tuple -/
def LenV (K : PySem.W.Frag) (x : V) (H : Hp) (n : Nat) : Prop :=
  match x with
  | .str y => y.length ≤ sizeLine ∧ n = y.length
  | .byt y => y.size ≤ sizeLine ∧ n = y.size
  | .ref p => (∃ xs, SqL K H p xs ∧ n = xs.length) ∨ ∃ xs, SqT K H p xs ∧ n = xs.length
  | _ => False
theorem call_len : CallR X (.builtin "len") (fun xs H Q => ∃ x n, xs = [x] ∧ LenV X.K x H n ∧ Q (.int n) H) := by
  intro pins s σ H xs us Q I r h
  obtain ⟨x, n, rfl, e, q⟩ := h
  obtain ⟨u, rfl, rx⟩ := vals1 r
  have hl := line63
  have hs : sizeLine = 16777216 := sizeLine_eq
  cases x with
  | str y =>
    obtain ⟨t, rfl⟩ := rx
    obtain ⟨hy, e'⟩ : y.length ≤ sizeLine ∧ n = y.length := e
    subst e'
    exact len_str (by omega) ⟨.int _, H, I.tok _, ⟨_, rfl⟩, q⟩
  | byt y =>
    obtain ⟨t, rfl⟩ := rx
    obtain ⟨hy, e'⟩ : y.size ≤ sizeLine ∧ n = y.size := e
    subst e'
    exact PySem.W.len_bytes (by omega) ⟨.int _, H, I.tok _, ⟨_, rfl⟩, q⟩
  | ref p =>
    cases rx
    have e' : (∃ xs, SqL X.K H p xs ∧ n = xs.length) ∨ ∃ xs, SqT X.K H p xs ∧ n = xs.length := e
    rcases e' with ⟨xs, hx, e'⟩ | ⟨xs, hx, e'⟩
    · subst e'
      obtain ⟨its, r', pl, hz⟩ := I.list hx
      have hlen := r'.length
      exact Calls.call_len_list pl.isList (by simp only [List.size_toArray]; omega) ⟨.int xs.length, H, I.tok _, ⟨_, by simp only [List.size_toArray]; rw [hlen]⟩, q⟩
    · subst e'
      obtain ⟨its, r', pl, hz⟩ := I.tuple hx
      have hlen := r'.length
      exact len_tuple pl (by simp only [List.size_toArray]; omega) ⟨.int xs.length, H, I.tok _, ⟨_, by simp only [List.size_toArray]; rw [hlen]⟩, q⟩
  | _ => exact (show False from e).elim
end
end L2

namespace L2
open PySem PySem.Spec PyProof.Rows

/-! ### an instance, its attributes a map -/
structure ObjM (h : Heap) (x dx C : Addr) (mA : Str → Option Value) : Prop where
  obj : h.get? x = some (PySem.W.instObj C dx)
  ns : h.Ns1 dx mA
  ne : dx ≠ x

theorem lookIn_ns {h : Heap} {dx : Addr} {mA : Str → Option Value} (n : h.Ns1 dx mA) : ∃ od, h.get? dx = some od ∧ ∀ name, PySem.W.lookIn name od = some (mA name) := by
  obtain ⟨o, es, ep, ho, hd, hk, _, hm⟩ := n
  refine ⟨o, ho, fun name => ?_⟩
  have e := hm name
  unfold nsFind findBy at e
  rw [← Array.find?_toList] at e
  unfold PySem.W.lookIn
  rw [hd]
  dsimp only
  split
  · rename_i y q
    rw [q] at e
    exact congrArg some e
  · rename_i q
    rw [q] at e
    have a : es.toList.any (·.refKey) = false := by
      rw [List.any_eq_false]
      intro y hy
      obtain ⟨z, t, hkey⟩ := hk y (Array.mem_toList_iff.mp hy)
      simp [DictEntry.refKey, hkey]
    have a' : ¬ es.toList.any (·.refKey) = true := by rw [a]; exact Bool.false_ne_true
    rw [if_neg a']
    exact congrArg some e

theorem ObjM.look {h : Heap} {x dx C : Addr} {mA : Str → Option Value} (I : ObjM h x dx C mA) : ∃ od, PySem.W.InstAt h x (PySem.W.instObj C dx) C (some od) ∧ ∀ name, PySem.W.lookIn name od = some (mA name) :=
  let ⟨od, ho, hl⟩ := lookIn_ns I.ns
  ⟨od, ⟨I.obj, rfl, rfl, ho⟩, hl⟩

section
variable {prog : Program} {w : World} {A : Around} {E : Value → Shared → Prop} {s : Shared} {K : PySem.W.Frag} {x dx C f : Addr} {mA : Str → Option Value} {name : Str} {v : Value}

theorem get_map {expr : Bool} {Q : Value → Shared → Prop} (X : K.In s.heap) (I : ObjM s.heap x dx C mA) (hg : PySem.W.plainGet K C name = true) (hh : PySem.W.hasDictIn K C = true)
    (ha : PySem.W.findIn K (.ref C) name = some none) (hv : mA name = some v) (hv' : PySem.W.handedIn v = true) (h : Q v { s with toks := s.toks + 1 }) :
    wpAny (model prog w) A (getAttr (.ref x) name expr) Q E s := by
  obtain ⟨od, J, hl⟩ := I.look
  exact PySem.W.get_value X J (PySem.W.plainGet_of hg).1 (PySem.W.findObj_own hh ha rfl (by rw [hl, hv])) hv' h

theorem get_meth {pl : Sem Bool} {Q : Value × List Value → Shared → Prop} (X : K.In s.heap) (I : ObjM s.heap x dx C mA) (hg : PySem.W.plainGet K C name = true)
    (hf : PySem.W.findIn K (.ref C) name = some (some (.ref f))) (ht : PySem.W.isFn K (.ref f) = true) (hv : mA name = none) (h : Q (.ref f, [.ref x]) s) :
    wpAny (model prog w) A (getMethod (.ref x) name pl) Q E s := by
  obtain ⟨od, J, hl⟩ := I.look
  exact PySem.W.method_fn X J (PySem.W.plainGet_of hg).1 (PySem.W.plainGet_of hg).2 hf (beq_iff_eq.mp ht) (by show (PySem.W.lookIn name od).map (·.isSome) = some false; rw [hl, hv]; rfl) h

theorem set_map {ns : List Str} {Q : Unit → Shared → Prop} (X : K.In s.heap) (I : ObjM s.heap x dx C mA)
    (hs : PySem.W.findIn K (.ref C) "__setattr__" = some (some (.builtin "object.__setattr__"))) (hp : PySem.W.plainOver K C = true) (ht : PySem.W.takerIn K C name = some none) (hh : PySem.W.hasDictIn K C = true)
    (hw : PySem.Within mA ns) (hsz : ns.length ≤ sizeLine)
    (h : ∀ h', ObjM h' x dx C (fun y => if y = name then some v else mA y) → Heap.SameBut dx s.heap h' → Q () { s with heap := h', toks := s.toks + 2 }) :
    wpAny (model prog w) A (setAttr (.ref x) name v) Q E s := by
  obtain ⟨od, J, hl⟩ := I.look
  refine PySem.W.set_plain X J hs (PySem.W.osa_open (s := { s with toks := s.toks + 1 }) (r := none) X J hp ht fun b => ?_)
  obtain ⟨cd, hc, hd'⟩ := PySem.W.any_some hh
  have hx : s.heap.get? x = some ⟨.ref C, some dx, .plain, #[]⟩ := I.obj
  refine wpAny_bind (wpAny_pure (wpAny_bind (wpAny_bind (wpAny_loadPart hx (wpAny_bind (PySem.W.Looks.here (s := { s with toks := s.toks + 1 }) (PySem.W.looks_clsIn X hc) ?_))))))
  rw [hd']
  refine wpAny_pure (a := some dx) (wpAny_bind (wpAny_pure (wpAny_bind ?_)))
  refine wpAny_nsSet1 (s := { s with toks := s.toks + 1 }) I.ns fun h' hn2 hs2 => ?_
  obtain ⟨oD, esD, epD, hoD, hdD, hcD⟩ := hn2.count (PySem.Within.cons name v hw)
  refine wpAny_bind (wpAny_lookBehind hoD (by rw [hdD]; exact pastItsLine_dict (Nat.le_trans hcD (by rw [List.length_cons]; omega))) ?_)
  exact wpAny_pure (h _ ⟨(hs2.2 _ (Ne.symm I.ne)).trans I.obj, hn2, I.ne⟩ hs2)

/-- C(..): the dict at the heap's end, the instance behind it; then its __init__ -/
theorem make_map {R : Result → Shared → Prop} {vs : List Value} {kw : List (Str × Value)} (X : K.In s.heap) (hm : PySem.W.makesIn K C = true)
    (hi : PySem.W.findIn K (.ref C) "__init__" = some (some (.ref f))) (hf : PySem.W.typeIn K (.ref f) = some (.type "function"))
    (h : codeAny (model prog w) (A.under (.builtin "type.__call__" ⟨.ref C :: vs, kw⟩)) (.call (.ref f) ⟨.ref (s.heap.objs.size + 1) :: vs, kw⟩) (PySem.W.InitBack (s.heap.objs.size + 1) R)
      { s with heap := (s.heap.push PySem.W.emptyDict).push (PySem.W.instObj C s.heap.objs.size) }) :
    codeAny (model prog w) A (.call (.ref C) ⟨vs, kw⟩) R s := by
  obtain ⟨hh, g, d, t, os⟩ := s
  exact PySem.W.make_core (PySem.W.makes_of X hm) (PySem.W.looks_findIn X hi) (fun self => PySem.W.bind_fn X self hf) (.inl rfl) h
end

/-! ### the attributes as a list of pairs -/
def putF (f : Str) (v : V) : List (Str × V) → List (Str × V)
  | [] => [(f, v)]
  | (g, x) :: r => if g = f then (g, v) :: r else (g, x) :: putF f v r
theorem lookup_putF (f g : Str) (v : V) : ∀ fs : List (Str × V), (putF f v fs).lookup g = if g = f then some v else fs.lookup g
  | [] => by
    show List.lookup g [(f, v)] = _
    by_cases h : g = f
    · have hb : (g == f) = true := beq_iff_eq.mpr h
      simp only [List.lookup, hb, if_pos h]
    · have hb : (g == f) = false := beq_eq_false_iff_ne.mpr h
      simp only [List.lookup, hb, if_neg h]
  | (k, x) :: r => by
    have ih := lookup_putF f g v r
    rw [show putF f v ((k, x) :: r) = (if k = f then (k, v) :: r else (k, x) :: putF f v r) from rfl]
    by_cases hk : k = f
    · rw [if_pos hk]
      by_cases h : g = k
      · have hb : (g == k) = true := beq_iff_eq.mpr h
        simp only [List.lookup, hb, if_pos (h.trans hk)]
      · have hb : (g == k) = false := beq_eq_false_iff_ne.mpr h
        simp only [List.lookup, hb, if_neg (fun e : g = f => h (e.trans hk.symm))]
    · rw [if_neg hk]
      by_cases h : g = k
      · have hb : (g == k) = true := beq_iff_eq.mpr h
        simp only [List.lookup, hb, if_neg (fun e : g = f => hk (h.symm.trans e))]
      · have hb : (g == k) = false := beq_eq_false_iff_ne.mpr h
        simp only [List.lookup, hb]
        exact ih
theorem keys_putF (f : Str) (v : V) : ∀ fs : List (Str × V), f ∈ (putF f v fs).map (·.1) ∧ ∀ g, g ∈ fs.map (·.1) → g ∈ (putF f v fs).map (·.1)
  | [] => ⟨by simp [putF], fun g h => by simp at h⟩
  | (k, x) :: r => by
    obtain ⟨i1, i2⟩ := keys_putF f v r
    rw [show putF f v ((k, x) :: r) = (if k = f then (k, v) :: r else (k, x) :: putF f v r) from rfl]
    by_cases hk : k = f
    · rw [if_pos hk]
      subst hk
      exact ⟨by simp, fun g h => by simpa using h⟩
    · rw [if_neg hk]
      refine ⟨?_, fun g h => ?_⟩
      · rw [List.map_cons]
        exact List.mem_cons_of_mem _ i1
      · rw [List.map_cons] at h ⊢
        rcases List.mem_cons.mp h with e | e
        · exact List.mem_cons.mpr (.inl e)
        · exact List.mem_cons_of_mem _ (i2 g e)
theorem length_putF (f : Str) (v : V) : ∀ fs : List (Str × V), (putF f v fs).length ≤ fs.length + 1
  | [] => by simp [putF]
  | (k, x) :: r => by
    have ih := length_putF f v r
    rw [show putF f v ((k, x) :: r) = (if k = f then (k, v) :: r else (k, x) :: putF f v r) from rfl]
    by_cases hk : k = f
    · rw [if_pos hk, List.length_cons, List.length_cons]; omega
    · rw [if_neg hk, List.length_cons, List.length_cons]; omega

theorem RelO.some_of {v : V} {o : Option Value} (r : RelO (some v) o) : ∃ u, o = some u ∧ RelV v u := by
  cases o with
  | none => exact (show False from r).elim
  | some u => exact ⟨u, rfl, r⟩
theorem RelO.none_of {o : Option Value} (r : RelO none o) : o = none := by
  cases o with
  | none => rfl
  | some u => exact (show False from r).elim
theorem handed_of {v : V} {u : Value} (r : RelV v u) : PySem.W.handedIn u = true := by
  cases v with
  | non => cases (show u = Value.none from r); rfl
  | bl b => cases (show u = Value.bool b from r); rfl
  | int i => obtain ⟨t, e⟩ := (show ∃ t, u = Value.int i t from r); cases e; rfl
  | str x => obtain ⟨t, e⟩ := (show ∃ t, u = Value.str x t from r); cases e; rfl
  | byt b => obtain ⟨t, e⟩ := (show ∃ t, u = Value.bytes b t from r); cases e; rfl
  | flt b => obtain ⟨t, e⟩ := (show ∃ t, u = Value.float b t from r); cases e; rfl
  | ref a => cases (show u = Value.ref a from r); rfl
  | ty n => cases (show u = Value.type n from r); rfl

section
variable {P : Program} {w : World} {H H' : Hp} {h h' : Heap} {a C dx : Addr} {fs fs' : List (Str × V)}
theorem ins_get (hok : HOk P w H h) (e : H a = some (.ins C dx fs)) : ∃ mA, ObjM h a dx C mA ∧ (∀ f, RelO (fs.lookup f) (mA f)) ∧ PySem.Within mA (fs.map (·.1)) ∧ fs.length ≤ 1000 ∧ H dx = some (.own a) := by
  obtain ⟨d, z, ne, ob, mA, n, r, q⟩ := (show ObjOk P w H h a (.ins C dx fs) from hok a _ e)
  exact ⟨mA, ⟨ob, n, ne⟩, r, q, z, d⟩
end

/-! ### what of the text a class must have -/
structure Cls (K : PySem.W.Frag) (C : Addr) : Prop where
  pg : PySem.W.plainGet K C Str.empty = true
  hd : PySem.W.hasDictIn K C = true
  po : PySem.W.plainOver K C = true
  sa : PySem.W.findIn K (.ref C) "__setattr__" = some (some (.builtin "object.__setattr__"))
theorem Cls.get {K : PySem.W.Frag} {C : Addr} (c : Cls K C) (f : Str) : PySem.W.plainGet K C f = true := c.pg
/-- no class of it has the name -/
def NoAttr (K : PySem.W.Frag) (C : Addr) (f : Str) : Prop := PySem.W.findIn K (.ref C) f = some none
theorem NoAttr.taker {K : PySem.W.Frag} {C : Addr} {f : Str} (n : NoAttr K C f) : PySem.W.takerIn K C f = some none := by
  unfold PySem.W.takerIn
  rw [show PySem.W.findIn K (.ref C) f = some none from n]
  rfl
/-- a method: a plain def of the class or of one above it -/
structure Meth (K : PySem.W.Frag) (C : Addr) (m : Str) (f : Addr) : Prop where
  at_ : PySem.W.findIn K (.ref C) m = some (some (.ref f))
  fn : PySem.W.isFn K (.ref f) = true
  kp : PySem.W.keepIn K (.ref f) = true

section
variable {X : Cx} {pins : List (Addr × Obj)} {σ : St} {H : Hp} {s : Shared} {a C dx : Addr} {fs : List (Str × V)} {f : Str} {v : V} {A : Around} {E : Value → Shared → Prop}

theorem getattr_ok {b : Bool} {Q : Value → Shared → Prop} (I : Inv X pins σ H s) (e : H a = some (.ins C dx fs)) (c : Cls X.K C) (n : NoAttr X.K C f) (l : fs.lookup f = some v)
    (h : ∀ u s', Inv X pins σ H s' → RelV v u → Q u s') : wpAny (model X.prog X.w) A (getAttr (.ref a) f b) Q E s := by
  obtain ⟨mA, O, r, _, _, _⟩ := ins_get I.hok e
  obtain ⟨u, hu, ru⟩ := RelO.some_of (v := v) (o := mA f) (by rw [← l]; exact r f)
  exact get_map I.kIn O (c.get f) c.hd n hu (handed_of ru) (h u _ (I.tok _) ru)

theorem getmeth_ok {m : Str} {g : Addr} {pl : Sem Bool} {Q : Value × List Value → Shared → Prop} (I : Inv X pins σ H s) (e : H a = some (.ins C dx fs)) (c : Cls X.K C) (k : Meth X.K C m g) (l : fs.lookup m = none)
    (h : Q (.ref g, [.ref a]) s) : wpAny (model X.prog X.w) A (getMethod (.ref a) m pl) Q E s := by
  obtain ⟨mA, O, r, _, _, _⟩ := ins_get I.hok e
  have hn : mA m = none := RelO.none_of (by rw [← l]; exact r m)
  exact get_meth I.kIn O (c.get m) k.at_ k.fn hn h

theorem setattr_ok {y : V} {u : Value} {Q : Unit → Shared → Prop} (I : Inv X pins σ H s) (e : H a = some (.ins C dx fs)) (c : Cls X.K C) (n : NoAttr X.K C f) (hl : fs.length < 1000) (ry : RelV y u)
    (h : ∀ s', Inv X pins σ (upd H a (.ins C dx (putF f y fs))) s' → Q () s') : wpAny (model X.prog X.w) A (setAttr (.ref a) f u) Q E s := by
  obtain ⟨mA, O, r, wi, _, ho⟩ := ins_get I.hok e
  have hz : (fs.map (·.1)).length ≤ sizeLine := by rw [List.length_map, sizeLine_eq]; omega
  refine set_map I.kIn O c.sa c.po n.taker c.hd wi hz fun h' O' sb => h _ ?_
  have hd : ∃ o, h'.get? dx = some o := let ⟨o, _, _, e', _⟩ := O'.ns; ⟨o, e'⟩
  refine I.write (x := a) (e := dx) (by rw [e]; exact True.intro) (.inr ho) (fun b q hb z => (sb.2 b hb).trans z) hd ?_
  refine ⟨by rw [upd_ne O.ne]; exact ho, ?_, O.ne, O'.obj, _, O'.ns, fun g => ?_, fun g hg => ?_⟩
  · have := length_putF f y fs; omega
  · show RelO ((putF f y fs).lookup g) (if g = f then some u else mA g)
    rw [lookup_putF]
    by_cases q : g = f
    · rw [if_pos q, if_pos q]; exact ry
    · rw [if_neg q, if_neg q]; exact r g
  · by_cases q : g = f
    · rw [q]; exact (keys_putF f y fs).1
    · refine (keys_putF f y fs).2 g (wi g fun z => hg ?_)
      show (if g = f then some u else mA g) = none
      rw [if_neg q]; exact z

/-- a new instance, tracked, without attributes -/
theorem Inv.made (I : Inv X pins σ H s) : Inv X pins σ (upd (upd H s.heap.objs.size (.own (s.heap.objs.size + 1))) (s.heap.objs.size + 1) (.ins C s.heap.objs.size []))
    { s with heap := (s.heap.push PySem.W.emptyDict).push (PySem.W.instObj C s.heap.objs.size) } := by
  have e1 : (s.heap.push PySem.W.emptyDict).get? s.heap.objs.size = some PySem.W.emptyDict := Heap.get?_push_size s.heap rfl
  have e2 : ((s.heap.push PySem.W.emptyDict).push (PySem.W.instObj C s.heap.objs.size)).get? (s.heap.objs.size + 1) = some (PySem.W.instObj C s.heap.objs.size) := by
    have := Heap.get?_push_size (s.heap.push PySem.W.emptyDict) (o := PySem.W.instObj C s.heap.objs.size) rfl
    rwa [Heap.size_push] at this
  have e3 : (s.heap.push PySem.W.emptyDict).Ns s.heap.objs.size (fun _ => none) := ⟨PySem.W.emptyDict, #[], _, e1, rfl, (fun e he => absurd he (by simp)), fun _ => rfl⟩
  have I1 := I.laid (a := s.heap.objs.size) (o := .own (s.heap.objs.size + 1)) (h' := s.heap.push PySem.W.emptyDict) (t' := s.toks) (fun b u q => Heap.get?_push_of_some _ q) (Nat.le_refl _) ⟨_, e1⟩
  refine I1.laid (a := s.heap.objs.size + 1) (o := .ins C s.heap.objs.size []) (t' := s.toks) (fun b u q => Heap.get?_push_of_some _ q) (Nat.le_of_eq (Heap.size_push _ _)) ?_
  have ne : s.heap.objs.size ≠ s.heap.objs.size + 1 := Nat.ne_of_lt (Nat.lt_succ_self _)
  refine ⟨by rw [upd_ne ne, upd_same], Nat.zero_le _, ne, e2, fun _ => none, (Heap.Ns1.of_empty e3).at fun o q => Heap.get?_push_of_some _ q, fun _ => True.intro, fun y hy => absurd rfl hy⟩

/-- e.f where nothing but the object is asked: through attributeBase (super) and the last hold -/
theorem attr_of {prog : Program} {w : World} {env : Env} {e : Expr} {f : Str} {pos : Pos} {s : Shared} {Q : Value → Shared → Prop} (hb : attributeBase e f env (eval e env) = eval e env)
    (h : wpAny (model prog w) A (eval e env) (fun o s₁ => wpAny (model prog w) A (getAttr o f true) Q E s₁) E s) : wpAny (model prog w) A (eval (.Attribute e f pos) env) Q E s :=
  Attribute_any_ h (by rw [arm_eval_Attribute, hb])
end

/-! ### readings and rules -/
/-- e.f, an attribute of the instance -/
def tFld (K : PySem.W.Frag) (ta : TE) (f : Str) : TE := fun σ H Q => ta σ H fun x H1 => ∃ a C dx fs v, x = .ref a ∧ H1 a = some (.ins C dx fs) ∧ Cls K C ∧ NoAttr K C f ∧ fs.lookup f = some v ∧ Q v H1
/-- e.f = value -/
def sFld (K : PySem.W.Frag) (ta tv : TE) (f : Str) : TS := fun D σ H => tv σ H fun y H1 => ta σ H1 fun x H2 => ∃ a C dx fs, x = .ref a ∧ H2 a = some (.ins C dx fs) ∧ Cls K C ∧ NoAttr K C f ∧ fs.length < 1000 ∧
  D.nx σ (upd H2 a (.ins C dx (putF f y fs)))
section
variable {X : Cx} {o e value : Expr} {f : Str} {pos pos' tpos : Pos} {ta tv : TE}
theorem pe_fld (he : PE X e ta) (hb : attributeBase e f X.env (eval e X.env) = eval e X.env) : PE X (.Attribute e f pos) (tFld X.K ta f) := by
  intro pins s σ H Q I h
  refine attr_of hb (thn (he pins s σ H _ I h) fun u s1 ⟨x, H1, I1, rx, a, C, dx, fs, v, ex, ea, c, n, l, q⟩ => ?_)
  subst ex
  obtain rfl : u = Value.ref a := rx
  exact getattr_ok I1 ea c n l fun u' s2 I2 ru => ⟨v, H1, I2, ru, q⟩
theorem ps_fld (ha : PE X o ta) (hv : PE X value tv) (hs : swapsWith value (some (.Attribute o f pos')) pos.line X.env = pure false) : PS X (.Assign [.Attribute o f pos'] value pos) (sFld X.K ta tv f) := by
  intro pins s σ H D I h
  refine plainObj_wpAny_Assign_Attribute (thn (hv pins s σ H _ I h) fun u s1 ⟨y, H1, I1, ry, q⟩ => thn (ha pins s1 σ H1 _ I1 q) fun ov s2 ⟨x, H2, I2, rx, a, C, dx, fs, ex, ea, c, n, l, q2⟩ => ?_) hs
  subst ex
  obtain rfl : ov = Value.ref a := rx
  exact setattr_ok I2 ea c n l ry fun s3 I3 => ⟨σ, _, I3, q2⟩
/-- what is between an instance and its method: the tree of a method call -/
theorem methcall_of {pl : Sem Bool} {m : Str} {apos : Pos} {args : List Expr} {pins : List (Addr × Obj)} {s : Shared} {σ : St} {H : Hp} {Q : Value → Shared → Prop} {te : TE} (he : PE X e te) (I : Inv X pins σ H s)
    (h : te σ H fun x H1 => ∃ a C dx fs g, x = .ref a ∧ H1 a = some (.ins C dx fs) ∧ Cls X.K C ∧ Meth X.K C m g ∧ fs.lookup m = none ∧
      ∀ s1, Inv X pins σ H1 s1 → wpAny (model X.prog X.w) X.A (callWith pos (.ref g) [.ref a] (backTo pos (starEach args X.env)) (backToKw pos (keywordEach [] X.env))) Q X.xe s1)
    (ht : eval (.Call (.Attribute e m apos) args [] pos) X.env = (do
      let ov ← eval e X.env
      standAt apos.atName
      let (f, first) ← holding [ov] (getMethod ov m pl)
      callWith pos f first (backTo pos (starEach args X.env)) (backToKw pos (keywordEach [] X.env)))) :
    wpAny (model X.prog X.w) X.A (eval (.Call (.Attribute e m apos) args [] pos) X.env) Q X.xe s := by
  refine PySem.W.methodCall_KW (pl := pl) (thn (he pins s σ H _ I h) fun u s1 ⟨x, H1, I1, rx, a, C, dx, fs, g, ex, ea, c, k, l, q⟩ => ?_) ht
  subst ex
  obtain rfl : u = Value.ref a := rx
  exact getmeth_ok I1 ea c k l (q s1 I1)
end

/-! ### isinstance -/
section
variable {X : Cx} {pins : List (Addr × Obj)} {σ : St} {H : Hp} {s : Shared} {A : Around} {E : Value → Shared → Prop} {Q : Value → Shared → Prop} {c : Value} {b : Bool}
/-- the type of a value, as the fragment's deciders take it; for an instance its class -/
inductive TyOf (K : PySem.W.Frag) (H : Hp) : V → Value → Prop where
  | non : TyOf K H .non (.type "NoneType")
  | bl (x : Bool) : TyOf K H (.bl x) (.type "bool")
  | int (i : Int) : TyOf K H (.int i) (.type "int")
  | str (x : Str) : TyOf K H (.str x) (.type "str")
  | flt (x : UInt64) : TyOf K H (.flt x) (.type "float")
  | lst {a : Addr} {xs : List V} (e : H a = some (.lst xs)) : TyOf K H (.ref a) (.type "list")
  | frz {a : Addr} {o : Obj} {xs : List V} (e : H a = some (.frz o (.lst xs))) : TyOf K H (.ref a) (.type "list")
  | tup {a : Addr} {xs : List V} (e : H a = some (.tup xs)) : TyOf K H (.ref a) (.type "tuple")
  | dK {a : Addr} {kvs : List (Key × V)} (e : H a = some (.dK kvs)) : TyOf K H (.ref a) (.type "dict")
  | dT {a : Addr} {kvs : List (List Key × V)} (e : H a = some (.dT kvs)) : TyOf K H (.ref a) (.type "dict")
  | ins {a C dx : Addr} {fs : List (Str × V)} (e : H a = some (.ins C dx fs)) (cl : Cls K C) (ha : PySem.W.findIn K (.ref C) "__class__" = some (some (.builtin "object.__class__")))
      (hn : PySem.W.specialIn K (.builtin "object.__class__") "__get__" = some (some (.builtin "getset_descriptor.__get__"))) (htk : PySem.W.takesIn K (.builtin "object.__class__") = some true)
      (hm : PySem.W.mroIn K C (.type "object") = some true) : TyOf K H (.ref a) (.ref C)
/-- isinstance(x, c) for one class c, a built-in or an own one: kitOne's answer -/
theorem isinst_ok {x : V} {u t : Value} (I : Inv X pins σ H s) (rx : RelV x u) (ty : TyOf X.K H x t) (e : PySem.W.kitOne X.K t c = some b) (h : ∀ tk, Q (.bool b) { s with toks := tk }) :
    wpAny (model X.prog X.w) A (call (.builtin "isinstance") [u, c]) Q E s := by
  cases ty with
  | non => cases (show u = Value.none from rx); exact PySem.W.kia_one PySem.W.kitx_none I.kIn True.intro e (fun z => nomatch z) h
  | bl y => cases (show u = Value.bool y from rx); exact PySem.W.kia_one PySem.W.kitx_bool I.kIn True.intro e (fun z => nomatch z) h
  | int i => obtain ⟨t, q⟩ := (show ∃ t, u = Value.int i t from rx); cases q; exact PySem.W.kia_one PySem.W.kitx_int I.kIn True.intro e (fun z => nomatch z) h
  | str y => obtain ⟨t, q⟩ := (show ∃ t, u = Value.str y t from rx); cases q; exact PySem.W.kia_one PySem.W.kitx_str I.kIn True.intro e (fun z => nomatch z) h
  | flt y => obtain ⟨t, q⟩ := (show ∃ t, u = Value.float y t from rx); cases q; exact PySem.W.kia_one PySem.W.kitx_float I.kIn True.intro e (fun z => nomatch z) h
  | @lst a xs ea =>
    cases (show u = Value.ref a from rx)
    obtain ⟨_, _, n, _, h1⟩ := (show ObjOk X.prog X.w H s.heap a (.lst xs) from I.hok a _ ea)
    exact PySem.W.kia_one PySem.W.kitx_list I.kIn ⟨_, h1, rfl⟩ e (fun z => nomatch z) h
  | @frz a ob xs ea =>
    cases (show u = Value.ref a from rx)
    obtain ⟨_, _, _, n, _, h1⟩ := (show ObjOk X.prog X.w H s.heap a (.frz ob (.lst xs)) from I.hok a _ ea)
    exact PySem.W.kia_one PySem.W.kitx_list I.kIn ⟨_, h1, rfl⟩ e (fun z => nomatch z) h
  | @tup a xs ea =>
    cases (show u = Value.ref a from rx)
    obtain ⟨_, _, _, p⟩ := (show ObjOk X.prog X.w H s.heap a (.tup xs) from I.hok a _ ea)
    obtain ⟨o, h1, h2, _⟩ := p
    exact PySem.W.kia_one PySem.W.kitx_tuple I.kIn ⟨o, h1, h2⟩ e (fun z => nomatch z) h
  | @dK a kvs ea =>
    cases (show u = Value.ref a from rx)
    obtain ⟨_, _, vs, _, p⟩ := (show ObjOk X.prog X.w H s.heap a (.dK kvs) from I.hok a _ ea)
    obtain ⟨o, es, ep, h1, h2, _⟩ := p
    exact PySem.W.kia_one PySem.W.kitx_dict I.kIn ⟨o, h1, h2.1⟩ e (fun z => nomatch z) h
  | @dT a kvs ea =>
    cases (show u = Value.ref a from rx)
    obtain ⟨_, _, xs, _, o, es, ep, h1, h2, _⟩ := (show ObjOk X.prog X.w H s.heap a (.dT kvs) from I.hok a _ ea)
    exact PySem.W.kia_one PySem.W.kitx_dict I.kIn ⟨o, h1, h2.1⟩ e (fun z => nomatch z) h
  | @ins a C dx fs ea cl ha hn htk hm =>
    cases (show u = Value.ref a from rx)
    obtain ⟨mA, O, _⟩ := ins_get I.hok ea
    obtain ⟨od, J, _⟩ := O.look
    exact PySem.W.kia_one (PySem.W.kitx_own (cl.get _) cl.hd ha hn htk hm) I.kIn J e (fun z => nomatch z) h
end
end L2

namespace L2
open PySem PySem.Spec PyProof.Rows

/-! ### room -/
structure Room (k : Nat) (A : Around) : Prop where
  hd : A.handled = none
  dp : A.depth + 3 * k + 5 < recursionLimit
  un : A.units + 16 * k + 200 < cLine
theorem Room.mono {j k : Nat} {A : Around} (r : Room k A) (h : j ≤ k) : Room j A := ⟨r.hd, by have := r.dp; omega, by have := r.un; omega⟩
theorem Room.deeper {k : Nat} {A : Around} (r : Room (k + 1) A) (env : Env) : Room k (A.deeper env) :=
  ⟨r.hd, by have := r.dp; show A.depth + 1 + 3 * k + 5 < _; omega, by have := r.un; show A.units + 3 + 16 * k + 200 < _; omega⟩
theorem Room.in1 {k : Nat} {A : Around} (r : Room (k + 1) A) : Room k A.in1 :=
  ⟨r.hd, by have := r.dp; show A.depth + 3 * k + 5 < _; omega, by have := r.un; show A.units + 1 + 16 * k + 200 < _; omega⟩
theorem make_depth {A : Around} {C : Addr} {us : List Value} {kw : List (Str × Value)} : (A.under (.builtin "type.__call__" ⟨.ref C :: us, kw⟩)).depth = A.depth + 1 := by
  first | rfl | simp [Around.under, Code.weight, Code.isCreation, Code.isGuard, Code.isCaller, Code.frames, Code.isFrame, guardIds]
theorem make_units {A : Around} {C : Addr} {us : List Value} {kw : List (Str × Value)} : (A.under (.builtin "type.__call__" ⟨.ref C :: us, kw⟩)).units = A.units + 1 := by
  first | rfl | simp [Around.under, Code.cUnits, Code.frames, Code.isFrame]
theorem Room.make {k : Nat} {A : Around} (r : Room (k + 1) A) (C : Addr) (us : List Value) (kw : List (Str × Value)) : Room k (A.under (.builtin "type.__call__" ⟨.ref C :: us, kw⟩)) :=
  ⟨r.hd, by have := r.dp; rw [make_depth]; omega, by have := r.un; rw [make_units]; omega⟩
theorem Room.depth {k : Nat} {A : Around} (r : Room k A) : A.depth < recursionLimit := by have := r.dp; omega
theorem Room.units {k : Nat} {A : Around} (r : Room k A) : A.units + 64 < cLine := by have := r.un; omega
/-! ### argument lists and displays -/
def tNil : TA := fun _ H Q => Q [] H
def tCons (ta : TE) (tr : TA) : TA := fun σ H Q => ta σ H fun x H1 => tr σ H1 fun xs H2 => Q (x :: xs) H2
section
variable {X : Cx} {e : Expr} {es : List Expr} {te : TE} {t : TA} {pos : Pos}
theorem pa_nil : PA X [] tNil := fun _ _ _ _ H Q I h => Calls.spliced_nil ⟨[], H, I, .nil, h⟩
theorem pa_cons (ha : PE X e te) (hr : PA X es t) (hs : starEach (e :: es) X.env = (false, eval e X.env) :: starEach es X.env := by rfl) : PA X (e :: es) (tCons te t) := by
  intro pos pins s σ H Q I h
  rw [hs]
  show wpAny _ _ (spliced ((false, eval e X.env) :: backTo pos (starEach es X.env))) _ _ s
  refine Calls.spliced_cons (thn (ha pins s σ H _ I h) fun u s1 ⟨x, H1, I1, r1, q1⟩ => ?_)
  exact thn (hr pos pins s1 σ H1 _ I1 q1) fun us s2 ⟨xs, H2, I2, r2, q2⟩ => ⟨x :: xs, H2, I2, .cons r1 r2, q2⟩

/-- a tuple, a list of written items -/
def tTup (t : TA) : TE := fun σ H Q => t σ H fun xs H1 => xs.length ≤ sizeLine ∧ ∀ p, H1 p = none → Q (.ref p) (upd H1 p (.tup xs))
def tLst (t : TA) : TE := fun σ H Q => t σ H fun xs H1 => xs.length ≤ sizeLine ∧ ∀ p, H1 p = none → Q (.ref p) (upd H1 p (.lst xs))
theorem pe_tup {x1} (h : PA X es t) : PE X (.Tuple es x1 pos) (tTup t) := by
  intro pins s σ H Q I hq
  refine wpAny_Tuple_spliced (thn (h pos pins s σ H _ I hq) fun us s1 ⟨xs, H1, I1, r, z, q⟩ => ⟨by rw [← r.length]; exact z, ?_⟩)
  have hf : H1 s1.heap.objs.size = none := I1.hok.fresh (Nat.le_refl _)
  refine ⟨.ref s1.heap.objs.size, upd H1 s1.heap.objs.size (.tup xs), I1.laid (t' := s1.toks) (fun b u e => Heap.get?_push_of_some _ e) (Nat.le_refl _) ?_, rfl, q _ hf⟩
  exact ⟨z, us, r, ⟨_, Heap.get?_push_size _ rfl, rfl, _, rfl⟩⟩
theorem pe_lst (h : PA X es t) : PE X (.List es pos) (tLst t) := by
  intro pins s σ H Q I hq
  refine wpAny_List_spliced (thn (h pos pins s σ H _ I hq) fun us s1 ⟨xs, H1, I1, r, z, q⟩ => ⟨by rw [← r.length]; exact z, ?_⟩)
  have hf : H1 s1.heap.objs.size = none := I1.hok.fresh (Nat.le_refl _)
  refine ⟨.ref s1.heap.objs.size, upd H1 s1.heap.objs.size (.lst xs), I1.laid (t' := s1.toks) (fun b u e => Heap.get?_push_of_some _ e) (Nat.le_refl _) ?_, rfl, q _ hf⟩
  exact ⟨z, us, 0, r, Heap.get?_push_size _ rfl⟩
end

/-! ### what a def promises -/
/-- a def's promise: the bound arguments in the parameters' order, the heap, the wanted end, the wanted exception -/
abbrev Sp := List V → Hp → VK → XK → Prop
/-- how an exception lies behind a call (file 08 gives it): the callers' frames, abstract heap and state ahead of the call, the wish, the exception, the state -/
abbrev CXT := List Env → Hp → Shared → XK → Value → Shared → Prop

/-- the state at a call -/
structure Env0 (P : Program) (w : World) (K : PySem.W.Frag) (mg : Str → Option Value) (base : Heap) (A : Around) (outer : List Env) (s : Shared) (H : Hp) : Prop where
  frames : A.frames = some outer
  mod : Mod K mg base
  bs : ∀ b o, base.get? b = some o → s.heap.get? b = some o ∧ H b = none
  bsz : base.objs.size ≤ s.heap.objs.size
  funs : s.heap.FunFrames base outer
  frf : ∀ b ∈ frs outer, H b = none
  hok : HOk P w H s.heap
  bare : AllBare s.gens
/-- a call's end -/
def CE (outer : List Env) (P : Program) (w : World) (H : Hp) (s : Shared) (Q : VK) (u : Value) (s' : Shared) : Prop :=
  ∃ v H', s'.os = s.os ∧ AllBare s'.gens ∧ Un (frs outer) [] H H' s.heap s'.heap ∧ HOk P w H' s'.heap ∧ RelV v u ∧ Q v H'
def CR (CX : CXT) (outer : List Env) (P : Program) (w : World) (H : Hp) (s : Shared) (Q : VK) (E : XK) (r : Result) (s' : Shared) : Prop :=
  match r with
  | .ok (.ret u) => CE outer P w H s Q u s'
  | .ok _ => False
  | .error e => CX outer H s E e s'
structure FnOk (P : Program) (w : World) (K : PySem.W.Frag) (mg : Str → Option Value) (base : Heap) (CX : CXT) (k : Nat) (f : Addr) (fd : FuncData) (ps : List Str) (sp : Sp) : Prop where
  len : ∀ vs H Q E, sp vs H Q E → vs.length = ps.length
  run : ∀ (A : Around) (outer : List Env) (s : Shared) (H : Hp) (args : Args) (us : List Value) (vs : List V) (Q : VK) (E : XK), Room k A → Env0 P w K mg base A outer s H → BindsTo s fd args (ps.zip us) → Vals vs us → sp vs H Q E →
    codeAny (model P w) A (.call (.ref f) args) (CR CX outer P w H s Q E) s
theorem Env0.make {P : Program} {w : World} {K : PySem.W.Frag} {mg : Str → Option Value} {base : Heap} {A : Around} {outer : List Env} {s : Shared} {H : Hp} (e : Env0 P w K mg base A outer s H) (C : Addr) (us : List Value) (kw : List (Str × Value)) :
    Env0 P w K mg base (A.under (.builtin "type.__call__" ⟨.ref C :: us, kw⟩)) outer s H := ⟨by first | exact e.frames | (simpa [Around.under, Code.envs, Code.isFrame, pushEnvs] using e.frames), e.mod, e.bs, e.bsz, e.funs, e.frf, e.hok, e.bare⟩
theorem Env0.in1 {P : Program} {w : World} {K : PySem.W.Frag} {mg : Str → Option Value} {base : Heap} {A : Around} {outer : List Env} {s : Shared} {H : Hp} (e : Env0 P w K mg base A outer s H) :
    Env0 P w K mg base A.in1 outer s H := ⟨e.frames, e.mod, e.bs, e.bsz, e.funs, e.frf, e.hok, e.bare⟩

section
variable {X : Cx} {pins : List (Addr × Obj)} {σ : St} {H : Hp} {s s' : Shared}
/-- from a body: what a callee wants -/
theorem Inv.env0 (I : Inv X pins σ H s) : Env0 X.prog X.w X.K X.mg X.base X.A X.stack s H :=
  ⟨I.ok.frames, I.ok.mod, I.bs, Nat.le_trans I.ok.bsz I.sz, I.stack, I.stkFree, I.hok, I.bare⟩
/-- behind a call -/
theorem Inv.after {Q : VK} {u : Value} (I : Inv X pins σ H s) (h : CE X.stack X.prog X.w H s Q u s') : EP X pins σ Q u s' := by
  obtain ⟨v, H', os, bare, un, hok, r, q⟩ := h
  obtain ⟨hh, g, d, t, os'⟩ := s'
  obtain rfl : os' = s.os := os
  exact ⟨v, H', I.call (h' := hh) (g' := g) (d' := d) (t' := t) (ch := []) un hok bare (fun b z => absurd z (by simp)), r, q⟩
end

/-! ### calls -/
/-- f(..): the written arguments, then the defaults dvs; E: what is wanted of an exception -/
def tCall (sp : Sp) (dvs : List V) (E : XK) (t : TA) : TE := fun σ H Q => t σ H fun vs H1 => sp (vs ++ dvs) H1 Q E
/-- o.m(..) of an instance of the class at C -/
def tMeth (C : Addr) (m : Str) (sp : Sp) (dvs : List V) (E : XK) (ta : TE) (t : TA) : TE := fun σ H Q => ta σ H fun x H1 => ∃ a dx fs, x = .ref a ∧ H1 a = some (.ins C dx fs) ∧ fs.lookup m = none ∧
  t σ H1 fun vs H2 => sp (x :: (vs ++ dvs)) H2 Q E
/-- C(..): a new instance and its dict, then __init__ -/
def tMake (C : Addr) (sp : Sp) (dvs : List V) (E : XK) (t : TA) : TE := fun σ H Q => t σ H fun vs H1 => ∀ x dx, H1 x = none → H1 dx = none → dx ≠ x →
  sp (.ref x :: (vs ++ dvs)) (upd (upd H1 dx (.own x)) x (.ins C dx [])) (fun v H2 => v = .non ∧ Q (.ref x) H2) E

/-- how the parameters are bound: us the positional arguments, kw the keywords' values by name, ds the defaults that fill up -/
def Binds (K : PySem.W.Frag) (fd : FuncData) (ps : List Str) (ds : List Value) : Prop :=
  ∀ (s : Shared) (us : List Value), K.In s.heap → (us ++ ds).length = ps.length → BindsTo s fd ⟨us, []⟩ (ps.zip (us ++ ds))
/-- every parameter is given -/
theorem Binds.all {K : PySem.W.Frag} {fd : FuncData} {ps : List Str} (h : ∀ us : List Value, us.length = ps.length → bindArgs fd ⟨us, []⟩ = pure (ps.zip us)) : Binds K fd ps [] := fun s us _ hl => by
  rw [List.append_nil] at hl ⊢
  exact .of_eq (h us hl)

/-- an exception of a callee reaches what this body wants of exceptions -/
def Passes (CX : CXT) (X : Cx) (E : XK) : Prop := ∀ (pins : List (Addr × Obj)) (σ : St) (H : Hp) (s : Shared) (e : Value) (s' : Shared), Inv X pins σ H s → CX X.stack H s E e s' → X.xe e s'

section
variable {X : Cx} {CX : CXT} {k : Nat} {f C : Addr} {fd : FuncData} {ps : List Str} {sp : Sp} {dvs : List V} {ds : List Value} {E : XK} {x m : Str} {p pos apos : Pos} {e o : Expr} {es : List Expr} {ta : TE} {t : TA}

/-- the callee runs -/
theorem run_fn {pins : List (Addr × Obj)} {σ : St} {H : Hp} {s : Shared} {Q : VK} {us : List Value} {vs : List V} (F : FnOk X.prog X.w X.K X.mg X.base CX k f fd ps sp) (hr : Room k X.A) (hb : Binds X.K fd ps ds) (hd : Vals dvs ds) (hx : Passes CX X E)
    (I : Inv X pins σ H s) (r : Vals vs us) (h : sp (vs ++ dvs) H Q E) : wpAny (model X.prog X.w) X.A (call (.ref f) us) (EP X pins σ Q) X.xe s := by
  have r2 : Vals (vs ++ dvs) (us ++ ds) := r.append hd
  have hl : (us ++ ds).length = ps.length := by rw [← r2.length]; exact F.len _ _ _ _ h
  refine wpAny_call (codeAny_mono (F.run X.A X.stack s H ⟨us, []⟩ (us ++ ds) (vs ++ dvs) Q E hr I.env0 (hb s us I.kIn hl) r2 h) fun r s' hq => ?_)
  cases r with
  | error e => exact hx pins σ H s e s' I hq
  | ok fl =>
    cases fl with
    | ret u => exact I.after hq
    | next => exact False.elim hq
    | brk => exact False.elim hq
    | cont => exact False.elim hq

theorem pe_call (F : FnOk X.prog X.w X.K X.mg X.base CX k f fd ps sp) (hr : Room k X.A) (hg : Gl X x) (hm : X.mg x = some (.ref f)) (hk : PySem.W.keepIn X.K (.ref f) = true) (hb : Binds X.K fd ps ds) (hd : Vals dvs ds) (hx : Passes CX X E)
    (ha : PA X (e :: es) t) (hdb : (x == ("__debug__" : Str)) = false := by decide) (he : starEach (e :: es) X.env = (false, eval e X.env) :: starEach es X.env := by rfl) (hpl : (backTo pos (starEach es X.env)).any (·.1) = false := by rfl) :
    PE X (.Call (.Name x p) (e :: es) [] pos) (tCall sp dvs E t) := by
  intro pins s σ H Q I h
  refine wpAny_Call_Name_kw (ld_glob I hg hm ?_ hdb)
  refine PySem.W.callWith_K (h₀ := X.base) I.ok.mod.kin hk (thn (ha pos pins s σ H _ I h) fun us s1 ⟨vs, H1, I1, r, q⟩ => ⟨I1.kIn, ?_⟩) he hpl
  exact run_fn F hr hb hd hx I1 r q
/-- o.m(e, ..) -/
theorem pe_meth {pl : Sem Bool} (he : PE X o ta) (c : Cls X.K C) (hm : Meth X.K C m f) (F : FnOk X.prog X.w X.K X.mg X.base CX k f fd ps sp) (hr : Room k X.A) (hb : Binds X.K fd ps ds) (hd : Vals dvs ds) (hx : Passes CX X E) (ha : PA X (e :: es) t)
    (hst : starEach (e :: es) X.env = (false, eval e X.env) :: starEach es X.env := by rfl) (hpl : (backTo pos (starEach es X.env)).any (·.1) = false := by rfl)
    (ht : eval (.Call (.Attribute o m apos) (e :: es) [] pos) X.env = (do
      let ov ← eval o X.env
      standAt apos.atName
      let (f, first) ← holding [ov] (getMethod ov m pl)
      callWith pos f first (backTo pos (starEach (e :: es) X.env)) (backToKw pos (keywordEach [] X.env))) := by rfl) :
    PE X (.Call (.Attribute o m apos) (e :: es) [] pos) (tMeth C m sp dvs E ta t) := by
  intro pins s σ H Q I h
  refine PySem.W.methodCall_KW (pl := pl) (thn (he pins s σ H _ I h) fun u s1 ⟨x, H1, I1, rx, a, dx, fs, ex, ea, l, q⟩ => ?_) ht
  subst ex
  obtain rfl : u = Value.ref a := rx
  refine getmeth_ok I1 ea c hm l ?_
  refine PySem.W.callWith_K (first := [.ref a]) (h₀ := X.base) I.ok.mod.kin hm.kp (thn (ha pos pins s1 σ H1 _ I1 q) fun us s2 ⟨vs, H2, I2, r, q2⟩ => ⟨I2.kIn, ?_⟩) hst hpl
  exact run_fn (us := .ref a :: us) (vs := .ref a :: vs) F hr hb hd hx I2 (.cons rfl r) q2
/-- o.m() -/
theorem pe_meth0 {pl : Sem Bool} (he : PE X o ta) (c : Cls X.K C) (hm : Meth X.K C m f) (F : FnOk X.prog X.w X.K X.mg X.base CX k f fd ps sp) (hr : Room k X.A) (hb : Binds X.K fd ps ds) (hd : Vals dvs ds) (hx : Passes CX X E)
    (ht : eval (.Call (.Attribute o m apos) [] [] pos) X.env = (do
      let ov ← eval o X.env
      standAt apos.atName
      let (f, first) ← holding [ov] (getMethod ov m pl)
      callWith pos f first (backTo pos (starEach [] X.env)) (backToKw pos (keywordEach [] X.env))) := by rfl) :
    PE X (.Call (.Attribute o m apos) [] [] pos) (tMeth C m sp dvs E ta tNil) := by
  intro pins s σ H Q I h
  refine PySem.W.methodCall_KW (pl := pl) (thn (he pins s σ H _ I h) fun u s1 ⟨x, H1, I1, rx, a, dx, fs, ex, ea, l, q⟩ => ?_) ht
  subst ex
  obtain rfl : u = Value.ref a := rx
  refine getmeth_ok I1 ea c hm l ?_
  exact PySem.W.callWith_K0 (first := [.ref a]) I1.kIn hm.kp (run_fn (us := [.ref a]) (vs := [.ref a]) F hr hb hd hx I1 (.cons rfl .nil) q)

/-- what a class must have to be made -/
structure Mk (K : PySem.W.Frag) (C f : Addr) : Prop where
  makes : PySem.W.makesIn K C = true
  init : PySem.W.findIn K (.ref C) "__init__" = some (some (.ref f))
  fn : PySem.W.isFn K (.ref f) = true
  kp : PySem.W.keepIn K (.ref C) = true

theorem run_make {pins : List (Addr × Obj)} {σ : St} {H : Hp} {s : Shared} {Q : VK} {us : List Value} {vs : List V} (M : Mk X.K C f) (F : FnOk X.prog X.w X.K X.mg X.base CX k f fd ps sp) (hr : Room (k + 1) X.A) (hb : Binds X.K fd ps ds) (hd : Vals dvs ds)
    (hx : Passes CX X E) (I : Inv X pins σ H s) (r : Vals vs us)
    (h : ∀ x dx, H x = none → H dx = none → dx ≠ x → sp (.ref x :: (vs ++ dvs)) (upd (upd H dx (.own x)) x (.ins C dx [])) (fun v H2 => v = .non ∧ Q (.ref x) H2) E) :
    wpAny (model X.prog X.w) X.A (call (.ref C) us) (EP X pins σ Q) X.xe s := by
  have hq := h (s.heap.objs.size + 1) s.heap.objs.size (I.hok.fresh (Nat.le_succ _)) (I.hok.fresh (Nat.le_refl _)) (Nat.ne_of_lt (Nat.lt_succ_self _))
  have I2 := Inv.made (C := C) I
  have r2 : Vals (V.ref (s.heap.objs.size + 1) :: (vs ++ dvs)) (Value.ref (s.heap.objs.size + 1) :: (us ++ ds)) := .cons rfl (r.append hd)
  have hl : (Value.ref (s.heap.objs.size + 1) :: us ++ ds).length = ps.length := by
    have e := r2.length
    rw [F.len _ _ _ _ hq] at e
    exact e.symm
  refine wpAny_call (make_map (f := f) I.kIn M.makes M.init (beq_iff_eq.mp M.fn) (codeAny_mono (F.run _ X.stack _ _ ⟨Value.ref (s.heap.objs.size + 1) :: us, []⟩ (Value.ref (s.heap.objs.size + 1) :: (us ++ ds)) _ _ E (hr.make C us [])
    (I2.env0.make C us []) (hb _ (Value.ref (s.heap.objs.size + 1) :: us) I2.kIn hl) r2 hq) fun r s' hq' => ?_))
  cases r with
  | error e => exact hx pins σ _ _ e s' I2 hq'
  | ok fl =>
    cases fl with
    | ret u =>
      obtain ⟨v, H', I3, rv, ev, q3⟩ := I2.after hq'
      subst ev
      exact ⟨rv, ⟨V.ref (s.heap.objs.size + 1), H', I3, rfl, q3⟩⟩
    | next => exact False.elim hq'
    | brk => exact False.elim hq'
    | cont => exact False.elim hq'
theorem pe_make (M : Mk X.K C f) (F : FnOk X.prog X.w X.K X.mg X.base CX k f fd ps sp) (hr : Room (k + 1) X.A) (hg : Gl X x) (hm : X.mg x = some (.ref C)) (hb : Binds X.K fd ps ds) (hd : Vals dvs ds) (hx : Passes CX X E)
    (ha : PA X (e :: es) t) (hdb : (x == ("__debug__" : Str)) = false := by decide) (he : starEach (e :: es) X.env = (false, eval e X.env) :: starEach es X.env := by rfl) (hpl : (backTo pos (starEach es X.env)).any (·.1) = false := by rfl) :
    PE X (.Call (.Name x p) (e :: es) [] pos) (tMake C sp dvs E t) := by
  intro pins s σ H Q I h
  refine wpAny_Call_Name_kw (ld_glob I hg hm ?_ hdb)
  refine PySem.W.callWith_K (h₀ := X.base) I.ok.mod.kin M.kp (thn (ha pos pins s σ H _ I h) fun us s1 ⟨vs, H1, I1, r, q⟩ => ⟨I1.kIn, ?_⟩) he hpl
  exact run_make M F hr hb hd hx I1 r q
end

/-! ### keywords -/
/-- the values of the keywords, from the left -/
def PK (X : Cx) (kws : List Keyword) (t : TA) : Prop :=
  ∀ (pos : Pos) (pins : List (Addr × Obj)) (s : Shared) (σ : St) (H : Hp) (Q : List V → Hp → Prop), Inv X pins σ H s → t σ H Q → wpAny (model X.prog X.w) X.A (evalAll ((backToKw pos (keywordEach kws X.env)).map (·.2))) (AP X pins σ Q) X.xe s
section
variable {X : Cx} {CX : CXT} {k : Nat} {f C : Addr} {fd : FuncData} {ps ks : List Str} {sp : Sp} {E : XK} {x m : Str} {p pos apos kpos : Pos} {e o : Expr} {es : List Expr} {kws : List Keyword} {te ta : TE} {t tk : TA} {nm : Option Str}
theorem pk_nil : PK X [] tNil := fun _ _ _ _ H Q I h => wpAny_evalAll_nil ⟨[], H, I, .nil, h⟩
theorem pk_cons (ha : PE X e te) (hr : PK X kws t) : PK X (⟨nm, e, kpos⟩ :: kws) (tCons te t) := by
  intro pos pins s σ H Q I h
  show wpAny _ _ (evalAll ((do let v ← eval e X.env; standAt pos; pure v) :: (backToKw pos (keywordEach kws X.env)).map (·.2))) _ _ s
  refine wpAny_evalAll_cons (wpAny_bind (thn (ha pins s σ H _ I h) fun u s1 ⟨x, H1, I1, r1, q1⟩ => wpAny_bind (wpAny_standAt (wpAny_pure ?_))))
  exact thn (hr pos pins s1 σ H1 _ I1 q1) fun us s2 ⟨xs, H2, I2, r2, q2⟩ => ⟨x :: xs, H2, I2, .cons r1 r2, q2⟩

variable {g : List Value → List Value → List Value} {gV : List V → List V → List V}
end

/-! ### a def's body keeps its promise -/
/-- names: the parameters first -/
structure FnScope (N P : List Str) (sc : Scope) : Prop where
  kind : sc.kind = .function
  co : sc.isCoroutine = false
  gen : sc.isGenerator = false
  nd : N.Nodup
  pre : N.take P.length = P
  par : ∀ x ∈ P, sc.names.lookup x = some .local ∨ sc.names.lookup x = some .cell
  nofree : ∀ y ∈ sc.names, y.2 ≠ .free

theorem bindL_out {kindOf : Str → Option NameKind} {x : Str} : ∀ {binds : List (Str × Value)} {m : Str → Option Value}, (∀ v, (x, v) ∉ binds) → bindL kindOf binds m x = m x
  | [], _, _ => rfl
  | (n, v) :: r, m, h => by
    unfold bindL
    rw [bindL_out fun w hw => h w (List.mem_cons_of_mem _ hw)]
    split
    · have : x ≠ n := by rintro rfl; exact h v List.mem_cons_self
      simp [this]
    · rfl
theorem bindC_out {kindOf : Str → Option NameKind} {x : Str} : ∀ {binds : List (Str × Value)} {m : Str → Option Value}, (∀ v, (x, v) ∉ binds) → bindC kindOf binds m x = m x
  | [], _, _ => rfl
  | (n, v) :: r, m, h => by
    unfold bindC
    rw [bindC_out fun w hw => h w (List.mem_cons_of_mem _ hw)]
    split
    · rfl
    · have : x ≠ n := by rintro rfl; exact h v List.mem_cons_self
      simp [this]
theorem bindL_get {kindOf : Str → Option NameKind} {x : Str} {v : Value} : ∀ {P : List Str} {vs : List Value} {i : Nat} {m : Str → Option Value}, P.Nodup → P[i]? = some x → vs[i]? = some v → kindOf x = some .local →
    bindL kindOf (P.zip vs) m x = some v
  | [], _, _, _, _, h, _, _ => by simp at h
  | _ :: _, [], _, _, _, _, h, _ => by simp at h
  | p :: P, w :: vs, 0, m, nd, h1, h2, hk => by
    simp at h1 h2; subst h1; subst h2
    show bindL kindOf ((p, w) :: P.zip vs) m p = _
    unfold bindL
    rw [bindL_out fun v hv => (List.nodup_cons.mp nd).1 (List.of_mem_zip hv).1, if_pos hk]
    simp
  | p :: P, w :: vs, i + 1, m, nd, h1, h2, hk => by
    show bindL kindOf ((p, w) :: P.zip vs) m x = _
    unfold bindL
    exact bindL_get (i := i) (List.nodup_cons.mp nd).2 (by simpa using h1) (by simpa using h2) hk
theorem bindC_get {kindOf : Str → Option NameKind} {x : Str} {v : Value} : ∀ {P : List Str} {vs : List Value} {i : Nat} {m : Str → Option Value}, P.Nodup → P[i]? = some x → vs[i]? = some v → kindOf x ≠ some .local →
    bindC kindOf (P.zip vs) m x = some v
  | [], _, _, _, _, h, _, _ => by simp at h
  | _ :: _, [], _, _, _, _, h, _ => by simp at h
  | p :: P, w :: vs, 0, m, nd, h1, h2, hk => by
    simp at h1 h2; subst h1; subst h2
    show bindC kindOf ((p, w) :: P.zip vs) m p = _
    unfold bindC
    rw [bindC_out fun v hv => (List.nodup_cons.mp nd).1 (List.of_mem_zip hv).1, if_neg hk]
    simp
  | p :: P, w :: vs, i + 1, m, nd, h1, h2, hk => by
    show bindC kindOf ((p, w) :: P.zip vs) m x = _
    unfold bindC
    exact bindC_get (i := i) (List.nodup_cons.mp nd).2 (by simpa using h1) (by simpa using h2) hk

/-- the names' values at the entry -/
def start (N : List Str) (vs : List V) : St := vs.map some ++ List.replicate (N.length - vs.length) none

/-- the context of a def's body, at its entry; an exception leaves the frame, then lies as CX says -/
def cxOf (CX : CXT) (P : Program) (w : World) (K : PySem.W.Frag) (mg : Str → Option Value) (base : Heap) (N : List Str) (qual : Str) (scope : Scope) (f : Addr) (cd : Value) (A : Around) (outer : List Env) (s : Shared) (H : Hp) (E : XK) : Cx where
  prog := P
  w := w
  K := K
  mg := mg
  base := base
  A := A.deeper (envOfC qual scope s.heap.objs.size f cd)
  N := N
  s₀ := s
  H₀ := H
  env := envOfC qual scope s.heap.objs.size f cd
  outer := outer
  stack := envOfC qual scope s.heap.objs.size f cd :: outer
  ex := []
  calm := true
  fn := fun _ => true
  pn := []
  xe := fun e s' => wpAny (model P w) (A.deeper (envOfC qual scope s.heap.objs.size f cd)) (leaving (envOfC qual scope s.heap.objs.size f cd) e) (fun _ s'' => CX outer H s E e s'') (fun e' s'' => CX outer H s E e' s'') s'

theorem cell_has {sc : Scope} {n : Nat} {x : Str} (h : sc.names.lookup x = some .cell) : ∃ c, (cellsFrom n sc.names []).lookup x = some c := by
  have q := PySem.W.cellsFrom_some sc.names n [] (.inl h)
  exact Option.isSome_iff_exists.mp q

theorem inv_start {CX : CXT} {P : Program} {w : World} {K : PySem.W.Frag} {mg : Str → Option Value} {base : Heap} {N ps : List Str} {qual : Str} {scope : Scope} {f : Addr} {cd : Value} {A : Around} {outer : List Env} {s s1 : Shared} {H : Hp} {E : XK} {us : List Value} {vs : List V}
    (S : FnScope N ps scope) (hd : A.handled = none) (e0 : Env0 P w K mg base A outer s H) (hl : vs.length = ps.length) (r : Vals vs us)
    (x : InCallC s s.heap.objs.size (bindL (envOfC qual scope s.heap.objs.size f cd).kindOf (ps.zip us) fun _ => none) (cellsFrom (s.heap.objs.size + 1) scope.names []) (bindC (envOfC qual scope s.heap.objs.size f cd).kindOf (ps.zip us) fun _ => none) s1) :
    Inv (cxOf CX P w K mg base N qual scope f cd A outer s H E) [] (start N vs) H s1 := by
  have hpl : ps.length ≤ N.length := by have := congrArg List.length S.pre; rw [List.length_take] at this; omega
  obtain ⟨h1, tk, rfl, hk⟩ := x.done
  have noA : ∀ b : Addr, b ∉ (cxOf CX P w K mg base N qual scope f cd A outer s H E).ex := fun b z => absurd (show b ∈ ([] : List Addr) from z) (by simp)
  refine ⟨⟨e0.mod, S.kind, rfl, rfl, Nat.le_refl _, fun y z c h1 h2 => ?_, fun y hy => ?_, fun y c _ h => ?_, fun _ => hd, Around.frames_deeper e0.frames, .inr ⟨rfl, rfl⟩, fun b z => absurd z (noA b), e0.bs, e0.bsz, fun b _ _ => noA b, fun b z => absurd z (noA b), e0.funs, e0.frf⟩,
    rfl, e0.bare, Un.kept hk, ⟨_, x.toInCall.ns, fun i y v h1 h2 h3 => ?_⟩, fun y c h => ⟨_, x.cell y c h⟩, e0.hok.fresh (Nat.le_refl _), fun y c h => ?_, fun p hp => absurd (show p ∈ ([] : List (Addr × Obj)) from hp) (by simp), e0.hok.kept hk, ?_⟩
  · exact name_of_addr x.apart (PySem.mem_of_lookup h1) (PySem.mem_of_lookup h2)
  · have hy : scope.names.lookup y = some .cell ∨ scope.names.lookup y = some .free := hy
    rcases hy with hy | hy
    · exact cell_has hy
    · exact absurd rfl (S.nofree _ (PySem.mem_of_lookup hy))
  · exact Nat.le_of_lt (x.above y c (PySem.mem_of_lookup h))
  · have hi : i < vs.length := by
      unfold start at h2
      by_cases hi : i < vs.length
      · exact hi
      · rw [List.getElem?_append_right (by simpa using hi)] at h2
        rw [List.getElem?_replicate] at h2
        split at h2 <;> cases h2
    have ha : vs[i]? = some v := by
      unfold start at h2
      rw [List.getElem?_append_left (by simpa using hi), List.getElem?_map] at h2
      cases e : vs[i]? with
      | none => rw [e] at h2; cases h2
      | some a => rw [e] at h2; cases h2; rfl
    obtain ⟨u, hu, rv⟩ := r.get ha
    have hp : ps[i]? = some y := by
      rw [← S.pre, List.getElem?_take_of_lt (by omega)]; exact h1
    have ndP : ps.Nodup := by rw [← S.pre]; exact S.nd.sublist (List.take_sublist _ _)
    refine ⟨u, rv, ?_⟩
    rcases S.par y (List.mem_of_getElem? hp) with k | k
    · exact .inl ⟨k, bindL_get ndP hp hu k⟩
    · obtain ⟨c, e⟩ := cell_has (n := s.heap.objs.size + 1) k
      refine .inr ⟨.inl k, c, e, ?_⟩
      have q := x.cell y c e
      rw [bindC_get ndP hp hu (by show scope.names.lookup y ≠ _; rw [k]; decide)] at q
      exact q
  · exact e0.hok.fresh (Nat.le_of_lt (x.above y c (PySem.mem_of_lookup h)))
  · unfold start
    show _ = N.length
    rw [List.length_append, List.length_map, List.length_replicate]
    omega

/-- THE RULE: a def (or a method) of the text, by its body. The body's reading t is chosen for each entry; it is run at the parameters' values -/
theorem fn_of {CX : CXT} {P : Program} {w : World} {K : PySem.W.Frag} {mg : Str → Option Value} {base : Heap} {k : Nat} {f : Addr} {name qual : Str} {params : Arguments} {body : List Stmt} {scope : Scope} {dV kV doc pm cdv ct oc : Value} {an od : Option Addr}
    {osl : Array (Option Value)} {N ps : List Str} {sp : Sp} (lk : K.lookup f = some ⟨oc, od, .func (PySem.W.fnOf name qual params body scope dV kV doc pm an cdv ct), osl⟩) (hcd : PySem.W.codeIn K cdv qual = true) (S : FnScope N ps scope)
    (len : ∀ vs H Q E, sp vs H Q E → vs.length = ps.length)
    (hbody : ∀ (A : Around) (outer : List Env) (s : Shared) (H : Hp) (vs : List V) (Q : VK) (E : XK), Room k (A.deeper (envOfC qual scope s.heap.objs.size f cdv)) → sp vs H Q E →
      ∃ t, PSs (cxOf CX P w K mg base N qual scope f cdv A outer s H E) body t ∧ t { nx := fun _ H' => Q .non H', rt := Q } (start N vs) H) :
    FnOk P w K mg base CX (k + 1) f (PySem.W.fnOf name qual params body scope dV kV doc pm an cdv ct) ps sp := by
  refine ⟨len, fun A outer s H args us vs Q E hr e0 hb r hsp => ?_⟩
  have hl := len _ _ _ _ hsp
  have KX : K.In s.heap := e0.mod.kin.keeps fun b o e => (e0.bs b o e).1
  have lim : s.heap.NoLimit := e0.mod.nolimit.keeps fun b o e => (e0.bs b o e).1
  have hkind : ∀ y ∈ ps.zip us, scope.names.lookup y.1 = some .local ∨ (scope.names.lookup y.1 = some .cell ∧ ((cellsFrom (s.heap.objs.size + 1) scope.names []).lookup y.1).isSome = true) := fun ⟨n, v⟩ hy => by
    rcases S.par n (List.of_mem_zip hy).1 with q | q
    · exact .inl q
    · exact .inr ⟨q, PySem.W.cellsFrom_some _ _ _ (.inl q)⟩
  refine codeAny_call_function hr.depth (KX _ _ lk) rfl S.co S.gen rfl (PySem.W.codeRec_of KX hcd) (hb _ _ _ _ ?_)
  refine wpAny_newFunctionEnv_cells S.kind hkind fun env he s1 x => ?_
  subst he
  refine ⟨lim.keeps x.toInCall.keep, codeAny_func ?_⟩
  obtain ⟨t, ht, hq⟩ := hbody A outer s H vs Q E (hr.deeper _) hsp
  have I : Inv (cxOf CX P w K mg base N qual scope f cdv A outer s H E) [] (start N vs) H s1 := inv_start S hr.hd e0 hl r x
  refine wpAny_mono (ht [] s1 (start N vs) H _ I hq) (fun fl s' hs => ?_) fun e s' hs => hs
  have fin : ∀ {σ' : St} {H' : Hp} {v : V} {u : Value}, Inv (cxOf CX P w K mg base N qual scope f cdv A outer s H E) [] σ' H' s' → RelV v u → Q v H' → CE outer P w H s Q u s' :=
    fun {σ' H' v u} J rv q => ⟨v, H', J.os, J.bare, J.base, J.hok, rv, q⟩
  cases fl with
  | ret u =>
    obtain ⟨v, σ', H', J, rv, q⟩ := hs
    exact fin J rv q
  | next =>
    obtain ⟨σ', H', J, q⟩ := hs
    exact fin (v := V.non) (u := Value.none) J rfl q
  | brk =>
    obtain ⟨_, _, _, q⟩ := hs
    exact False.elim q
  | cont =>
    obtain ⟨_, _, _, q⟩ := hs
    exact False.elim q
end L2

namespace L2
open PySem PySem.Spec PyProof.Rows
section
variable {X : Cx} {x : Str} {p pos : Pos} {e : Expr} {es : List Expr} {t : TA} {id T : String} {r : List V → Hp → VK → Prop}

def tCB (r : List V → Hp → VK → Prop) (t : TA) : TE := fun σ H Q => t σ H fun vs H1 => r vs H1 Q
/-- f(e, ..), f a built-in function -/
theorem pe_callB (hc : CallR X (.builtin id) r) (hg : Gl X x) (hm : X.mg x = none) (hv : bootBuiltins x = some (.builtin id)) (ha : PA X (e :: es) t) (hn : x ≠ "__name__" := by decide) (hdb : (x == ("__debug__" : Str)) = false := by decide)
    (he : starEach (e :: es) X.env = (false, eval e X.env) :: starEach es X.env := by rfl) (hpl : (backTo pos (starEach es X.env)).any (·.1) = false := by rfl) : PE X (.Call (.Name x p) (e :: es) [] pos) (tCB r t) := by
  intro pins s σ H Q I h
  refine wpAny_Call_Name_kw (ld_blt I hg hm hv ?_ hn hdb)
  exact PyProof.Rows.callWith_builtin1 (thn (ha pos pins s σ H _ I h) fun us s1 ⟨vs, H1, I1, r1, q1⟩ => hc pins s1 σ H1 vs us Q I1 r1 q1) he hpl
/-- T(e, ..), T a built-in type -/
theorem pe_callTy (hc : CallR X (.type T) r) (hg : Gl X x) (hm : X.mg x = none) (hv : bootBuiltins x = some (.type T)) (ha : PA X (e :: es) t) (hn : x ≠ "__name__" := by decide) (hdb : (x == ("__debug__" : Str)) = false := by decide)
    (he : starEach (e :: es) X.env = (false, eval e X.env) :: starEach es X.env := by rfl) (hpl : (backTo pos (starEach es X.env)).any (·.1) = false := by rfl) : PE X (.Call (.Name x p) (e :: es) [] pos) (tCB r t) := by
  intro pins s σ H Q I h
  refine wpAny_Call_Name_kw (ld_blt I hg hm hv ?_ hn hdb)
  exact PyProof.Rows.callWith_type1 (thn (ha pos pins s σ H _ I h) fun us s1 ⟨vs, H1, I1, r1, q1⟩ => hc pins s1 σ H1 vs us Q I1 r1 q1) he hpl
end
end L2

namespace HT
open PySem PyProof.Rows

section
open PySem.SeqAt
open PySem.AutoSeq1 (wpAny_loadPart')
open PySem.MeetsSeq PySem.MeetsSeq2 PySem.MeetsSeq3

end

section
variable {prog : Program} {w : World} {A : Around} {E : Value → Shared → Prop} {s : Shared}

/-! ### t[a:b], not the whole -/
/-- a slice's bound as a place among n (d where it is left out) -/
def sIx (n d : Nat) : Option Int → Nat
  | none => d
  | some v => if v < 0 then (v + (n : Int)).toNat else min v.toNat n
theorem sIx_none (n d : Nat) : sIx n d none = d := rfl
theorem sIx_nat (n d k : Nat) : sIx n d (some (k : Int)) = min k n := by
  show (if (k : Int) < 0 then ((k : Int) + (n : Int)).toNat else min (k : Int).toNat n) = min k n
  rw [if_neg (by omega), Int.toNat_natCast]
theorem sIx_le (n d : Nat) (hd : d ≤ n) (o : Option Int) : sIx n d o ≤ n := by
  cases o with
  | none => exact hd
  | some v =>
    show (if v < 0 then (v + (n : Int)).toNat else min v.toNat n) ≤ n
    by_cases hv : v < 0
    · rw [if_pos hv]; omega
    · rw [if_neg hv]; exact Nat.min_le_right _ _
end
end HT

namespace L2
open PySem PySem.Spec PyProof.Rows

/-! ### the parts of a slice -/
abbrev TO := St → Hp → (Option Int → Hp → Prop) → Prop
/-- a slice's part (left out, or an int) -/
def PO (X : Cx) (e : Option Expr) (t : TO) : Prop :=
  ∀ (pins : List (Addr × Obj)) (s : Shared) (σ : St) (H : Hp) (Q : Option Int → Hp → Prop), Inv X pins σ H s → t σ H Q →
    wpAny (model X.prog X.w) X.A (evalPart e X.env) (fun u s' => ∃ o H', Inv X pins σ H' s' ∧ IsPart u o ∧ Q o H') X.xe s
def tNoPart : TO := fun _ H Q => Q none H
def tPart (t : TE) : TO := fun σ H Q => t σ H fun x H1 => ∃ i, x = .int i ∧ Q (some i) H1

section
variable {X : Cx} {e : Expr} {te : TE} {lo hi : Option Expr} {tl th : TO} {pos p2 : Pos}

theorem po_none : PO X none tNoPart := by
  intro pins s σ H Q I h
  rw [evalPart_none]
  exact wpAny_pure ⟨none, H, I, .none, h⟩
theorem po_some (h : PE X e te) : PO X (some e) (tPart te) := by
  intro pins s σ H Q I hw
  rw [evalPart_some]
  refine thn (h pins s σ H _ I hw) fun u s1 ⟨x, H1, I1, r1, q1⟩ => ?_
  obtain ⟨i, rfl, q⟩ := q1
  obtain ⟨t, rfl⟩ := r1
  exact ⟨some i, H1, I1, .int i t, q⟩

/-- what a slice of a value is, by values: the slice object stands at sl -/
def SlR (X : Cx) (r : V → Option Int → Option Int → Hp → VK → Prop) : Prop :=
  ∀ (pins : List (Addr × Obj)) (s : Shared) (σ : St) (H : Hp) (x : V) (v vl vu : Value) (lo hi : Option Int) (sl : Addr) (Q : VK), Inv X pins σ H s → RelV x v → s.heap.IsSliceOf sl vl vu .none → IsPart vl lo → IsPart vu hi → r x lo hi H Q →
    ∃ T id, typeLookup (.type T) "__getitem__" = pure (some (.builtin id)) ∧ s.TypeIs v T ∧ wpAny (model X.prog X.w) X.A (getItem v (.ref sl)) (EP X pins σ Q) X.xe s
theorem SlR.or {r r' : V → Option Int → Option Int → Hp → VK → Prop} (h : SlR X r) (h' : SlR X r') : SlR X (fun x lo hi H Q => r x lo hi H Q ∨ r' x lo hi H Q) := by
  intro pins s σ H x v vl vu lo hi sl Q I rx hs pl pu q
  rcases q with q | q
  · exact h pins s σ H x v vl vu lo hi sl Q I rx hs pl pu q
  · exact h' pins s σ H x v vl vu lo hi sl Q I rx hs pl pu q
def tSl (r : V → Option Int → Option Int → Hp → VK → Prop) (te : TE) (tl th : TO) : TE := fun σ H Q => te σ H fun x H1 => tl σ H1 fun l H2 => th σ H2 fun u H3 => r x l u H3 Q
/-- a[lo:hi], any a -/
theorem pe_slice {r : V → Option Int → Option Int → Hp → VK → Prop} (hr : SlR X r) (he : PE X e te) (hl : PO X lo tl) (hu : PO X hi th) : PE X (.Subscript e (.Slice lo hi none p2) pos) (tSl r te tl th) := by
  intro pins s σ H Q I h
  refine Subscript_ (thn (he pins s σ H _ I h) fun v s1 ⟨x, H1, I1, r1, q1⟩ => ?_)
  refine wpAny_Slice (thn (hl pins s1 σ H1 _ I1 q1) fun vl s2 ⟨l, H2, I2, pl, q2⟩ => thn (hu pins s2 σ H2 _ I2 q2) fun vu s3 ⟨u, H3, I3, pu, q3⟩ => ?_)
  rw [evalPart_none]
  refine wpAny_pure ?_
  have I4 : Inv X pins σ H3 { s3 with heap := s3.heap.push { cls := .type "slice", data := .fields #[vl, vu, .none] } } := I3.kept (t' := s3.toks) fun b ob q => Heap.get?_push_of_some _ q
  obtain ⟨T, id, hT, ht, hg⟩ := hr pins { s3 with heap := s3.heap.push { cls := .type "slice", data := .fields #[vl, vu, .none] } } σ H3 x v vl vu l u s3.heap.objs.size Q I4 r1 (Heap.IsSliceOf.new ..) pl pu q3
  show wpAny (model X.prog X.w) X.A (subscriptTail e (.Slice lo hi none p2) v (.ref s3.heap.objs.size)) (EP X pins σ Q) X.xe { s3 with heap := s3.heap.push { cls := .type "slice", data := .fields #[vl, vu, .none] } }
  exact tail_any (ops := [.ref s3.heap.objs.size, v]) ht hT hg (by with_unfolding_all rfl)

/-- the items of xs[lo:hi] -/
def cutV (xs : List V) (lo hi : Option Int) : List V := (xs.drop (HT.sIx xs.length 0 lo)).take (HT.sIx xs.length xs.length hi - HT.sIx xs.length 0 lo)
theorem cutV_length (xs : List V) (lo hi : Option Int) : (cutV xs lo hi).length ≤ xs.length := by
  unfold cutV
  rw [List.length_take, List.length_drop]
  omega
/-! ### t < u, t + u -/
end
end L2

namespace L2
open PySem PySem.Spec PyProof.Rows

/-! ### places -/
/-- the place that an index of any sign means -/
def ixN (n : Nat) (i : Int) : Option Nat := if 0 ≤ i then (if i < n then some i.toNat else none) else if -(n : Int) ≤ i then some (i + n).toNat else none
def atI {α : Type} (xs : List α) (i : Int) : Option α := (ixN xs.length i).bind fun j => xs[j]?
theorem ixN_seq {n : Nat} {i : Int} {j : Nat} (h : ixN n i = some j) : seqIndex? i n = some j ∧ j < n ∧ -(n : Int) ≤ i ∧ i < n := by
  unfold ixN at h
  by_cases h0 : 0 ≤ i
  · rw [if_pos h0] at h
    by_cases h1 : i < n
    · rw [if_pos h1] at h
      have e : i.toNat = j := Option.some.inj h
      exact ⟨by rw [seqIndex_of h0 h1, e], by omega, by omega, h1⟩
    · rw [if_neg h1] at h; cases h
  · rw [if_neg h0] at h
    by_cases h1 : -(n : Int) ≤ i
    · rw [if_pos h1] at h
      have e : (i + n).toNat = j := Option.some.inj h
      exact ⟨by rw [seqIndex_neg (by omega) h1, e], by omega, h1, by omega⟩
    · rw [if_neg h1] at h; cases h
theorem atI_get {α : Type} {xs : List α} {i : Int} {v : α} (h : atI xs i = some v) : ∃ j, seqIndex? i xs.length = some j ∧ xs[j]? = some v ∧ j < xs.length ∧ -(xs.length : Int) ≤ i ∧ i < xs.length := by
  unfold atI at h
  cases e : ixN xs.length i with
  | none => rw [e] at h; cases h
  | some j =>
    rw [e] at h
    obtain ⟨h1, h2, h3, h4⟩ := ixN_seq e
    exact ⟨j, h1, h, h2, h3, h4⟩
theorem atI_nat {α : Type} {xs : List α} {j : Nat} {v : α} (h : xs[j]? = some v) : atI xs (j : Int) = some v := by
  have hj : j < xs.length := (List.getElem?_eq_some_iff.mp h).1
  have e : ixN xs.length (j : Int) = some j := by
    unfold ixN
    rw [if_pos (by omega), if_pos (by omega)]; simp
  unfold atI; rw [e]; exact h
/-! ### what may be subscripted -/
/-- what stands as an index of a plain subscript -/
def PlainIx (b : Expr) : Prop := ∀ o i, subscripted b false o i = operate [o, i] (getItem o i)
/-- a subscript by values -/
def IxR (X : Cx) (r : R2) : Prop :=
  ∀ (value slice : Expr) (pins : List (Addr × Obj)) (s : Shared) (σ : St) (H : Hp) (x y : V) (v u : Value) (Q : VK), Inv X pins σ H s → RelV x v → RelV y u → r x y H Q →
    subscripted slice false v u = operate [v, u] (getItem v u) → wpAny (model X.prog X.w) X.A (subscriptTail value slice v u) (EP X pins σ Q) X.xe s
/-- a call of a builtin's method by values: the receiver, the arguments -/
def MtR (X : Cx) (id : String) (r : V → List V → Hp → VK → Prop) : Prop :=
  ∀ (pins : List (Addr × Obj)) (s : Shared) (σ : St) (H : Hp) (x : V) (xs : List V) (v : Value) (us : List Value) (Q : VK), Inv X pins σ H s → RelV x v → Vals xs us → r x xs H Q →
    wpAny (model X.prog X.w) X.A (call (.builtin id) (v :: us)) (EP X pins σ Q) X.xe s
section
variable {X : Cx} {a b : Expr} {ta tb : TE} {pos : Pos}
theorem IxR.or {r r' : R2} (h : IxR X r) (h' : IxR X r') : IxR X (fun x y H Q => r x y H Q ∨ r' x y H Q) := by
  intro value slice pins s σ H x y v u Q I rx ry q hs
  rcases q with q | q
  · exact h value slice pins s σ H x y v u Q I rx ry q hs
  · exact h' value slice pins s σ H x y v u Q I rx ry q hs
/-- a[b] -/
theorem pe_ix {r : R2} (hr : IxR X r) (ha : PE X a ta) (hb : PE X b tb) (hs : PlainIx b) : PE X (.Subscript a b pos) (tOp r ta tb) := by
  intro pins s σ H Q I h
  exact Subscript_ (binT ha hb I h fun v u s2 x y H2 I2 rx ry q => hr a b pins s2 σ H2 x y v u Q I2 rx ry q (hs _ _))

def rIxL (K : PySem.W.Frag) : R2 := fun x y H Q => ∃ p xs i v, x = .ref p ∧ y = .int i ∧ SqL K H p xs ∧ atI xs i = some v ∧ Q v H
def rIxT (K : PySem.W.Frag) : R2 := fun x y H Q => ∃ p xs i v, x = .ref p ∧ y = .int i ∧ SqT K H p xs ∧ atI xs i = some v ∧ Q v H
def rIxS : R2 := fun x y H Q => ∃ z i c, x = .str z ∧ y = .int i ∧ z.length ≤ sizeLine ∧ atI z.cps.toList i = some c ∧ Q (.str ⟨#[c]⟩) H
theorem ix_list : IxR X (rIxL X.K) := by
  intro value slice pins s σ H x y v u Q I rx ry h hs
  obtain ⟨p, xs, i, z, rfl, rfl, hq, he, q⟩ := h
  cases rx
  obtain ⟨t, rfl⟩ := ry
  obtain ⟨its, r, pl, hz⟩ := I.list hq
  obtain ⟨j, h1, h2, h3, h4, h5⟩ := atI_get he
  obtain ⟨w, ew, rw'⟩ := r.get h2
  have hl := r.length
  have hn := line63
  have fin : EP X pins σ Q w s := ⟨z, H, I, rw', q⟩
  by_cases h0 : 0 ≤ i
  · have hj : i.toNat = j := by
      rw [seqIndex_of h0 h5] at h1
      exact Option.some.inj h1
    exact item_listR pl.isList h0 (by omega) (by rw [hj]; simpa using ew) fin hs
  · have hj : (i + (its.toArray.size : Int)).toNat = j := by
      rw [seqIndex_neg (by omega) h4] at h1
      rw [List.size_toArray, ← hl]
      exact Option.some.inj h1
    exact subscriptTail_builtinR (x := w) pl.isList.typeIs slot_list_getitem.lookup
      (wpAny_getItem_list_neg (Q := fun r s' => r = w ∧ EP X pins σ Q r s') pl.isList (by omega) (by rw [List.size_toArray] <;> omega) (by omega) (by rw [hj]; simpa using ew) ⟨rfl, fin⟩) hs
theorem ix_tup : IxR X (rIxT X.K) := by
  intro value slice pins s σ H x y v u Q I rx ry h hs
  obtain ⟨p, xs, i, z, rfl, rfl, hq, he, q⟩ := h
  cases rx
  obtain ⟨t, rfl⟩ := ry
  obtain ⟨its, r, pl, hz⟩ := I.tuple hq
  obtain ⟨j, h1, h2, h3, h4, h5⟩ := atI_get he
  obtain ⟨w, ew, rw'⟩ := r.get h2
  have hl := r.length
  have hn := line63
  have fin : EP X pins σ Q w s := ⟨z, H, I, rw', q⟩
  exact subscriptTail_builtinR (x := w) pl.typeIs slot_tuple_getitem.lookup
    (getItem_tuple (j := j) (Q := fun r s' => r = w ∧ EP X pins σ Q r s') pl (by omega) (by omega) (by rw [List.size_toArray, ← hl]; exact h1) (by simpa using ew) ⟨rfl, fin⟩) hs
theorem ix_str : IxR X rIxS := by
  intro value slice pins s σ H x y v u Q I rx ry h hs
  obtain ⟨z, i, c, rfl, rfl, hz, he, q⟩ := h
  obtain ⟨t, rfl⟩ := rx
  obtain ⟨t', rfl⟩ := ry
  obtain ⟨j, h1, h2, h3, h4, h5⟩ := atI_get he
  have hl : z.cps.toList.length = z.length := by simp [Str.length]
  rw [hl] at h1 h4 h5
  have hn := line63
  exact tail_any (typeIs_str s z t) slot_str_getitem.lookup (getItem_str (c := c) (by
    have e1 : decide (i < -(2 ^ 63 : Int)) = false := decide_eq_false (by omega)
    have e2 : decide (i ≥ 2 ^ 63) = false := decide_eq_false (by omega)
    rw [e1, e2, Bool.or_false]) (by rw [h1]; simpa using h2) ⟨.str ⟨#[c]⟩, H, I.tok _, ⟨_, rfl⟩, q⟩) hs
/-- list, tuple or str -/
def rIx (K : PySem.W.Frag) : R2 := fun x y H Q => rIxL K x y H Q ∨ rIxT K x y H Q ∨ rIxS x y H Q
theorem ix_seq : IxR X (rIx X.K) := ix_list.or (ix_tup.or ix_str)

/-! ### xs[i] = v, any sign -/
theorem Inv.lst {pins : List (Addr × Obj)} {σ : St} {H : Hp} {s : Shared} {p : Addr} {xs : List V} (I : Inv X pins σ H s) (h : H p = some (.lst xs)) :
    ∃ (its : List Value) (n : Nat), Vals xs its ∧ s.heap.get? p = some { cls := .type "list", data := .seq its.toArray n } ∧ xs.length ≤ sizeLine := by
  obtain ⟨z, its, n, r, e⟩ := I.hok p _ h
  exact ⟨its, n, r, e, z⟩
/-! ### slices -/
theorem slice_bounds (lo hi : Option Int) (n : Nat) : (sliceBounds lo hi none n).1 = ((HT.sIx n 0 lo : Nat) : Int) ∧ (sliceBounds lo hi none n).2.1 = ((HT.sIx n n hi : Nat) : Int) ∧ (sliceBounds lo hi none n).2.2 = 1 := by
  refine ⟨?_, ?_, rfl⟩
  · cases lo with
    | none => simp [sliceBounds, HT.sIx]
    | some i =>
      simp only [sliceBounds, HT.sIx, Option.getD_none, show (1 : Int) > 0 by decide, if_true]
      by_cases h : i < 0
      · simp only [h, if_true] <;> omega
      · simp only [h, if_false] <;> omega
  · cases hi with
    | none => simp [sliceBounds, HT.sIx]
    | some i =>
      simp only [sliceBounds, HT.sIx, Option.getD_none, show (1 : Int) > 0 by decide, if_true]
      by_cases h : i < 0
      · simp only [h, if_true] <;> omega
      · simp only [h, if_false] <;> omega
theorem slicePick_cut (its : List Value) (lo hi : Option Int) : slicePick its.toArray lo hi none = ((its.drop (HT.sIx its.length 0 lo)).take (HT.sIx its.length its.length hi - HT.sIx its.length 0 lo)).toArray := by
  obtain ⟨h1, h2, h3⟩ := slice_bounds lo hi its.toArray.size
  unfold slicePick
  rw [h1, h2, h3]
  simp only [sliceRange_one, pick_run, List.size_toArray] <;> rfl
/-- xs[lo:hi] of a list: a new list -/
def rSlL (K : PySem.W.Frag) : V → Option Int → Option Int → Hp → VK → Prop := fun x lo hi H Q => ∃ a xs, x = .ref a ∧ SqL K H a xs ∧ ∀ p, H p = none → Q (.ref p) (upd H p (.lst (cutV xs lo hi)))
theorem sl_list : SlR X (rSlL X.K) := by
  intro pins s σ H x v vl vu lo hi sl Q I rx hs pl pu h
  obtain ⟨a, xs, rfl, hx, q⟩ := h
  cases rx
  obtain ⟨its, r, ht, hz⟩ := I.list hx
  have hlen := r.length
  refine ⟨"list", _, slot_list_getitem.lookup, ht.isList.typeIs, ?_⟩
  refine wpAny_getItem_list_slice ht.isList hs pl pu .none (by simp) ?_ (by rw [List.size_toArray] <;> omega)
  rw [slicePick_cut, ← hlen]
  refine ⟨.ref s.heap.objs.size, _, I.laid (t' := s.toks) (o := .lst (cutV xs lo hi)) (fun b ob q => Heap.get?_push_of_some _ q) (Nat.le_refl _) ?_, rfl, q _ (I.hok.fresh (Nat.le_refl _))⟩
  exact ⟨Nat.le_trans (cutV_length xs lo hi) hz, _, 0, (r.drop (HT.sIx xs.length 0 lo)).take (HT.sIx xs.length xs.length hi - HT.sIx xs.length 0 lo), Heap.get?_push_size _ rfl⟩

/-! ### in, not in: flat items -/
def flatV : V → Bool
  | .non => true
  | .bl _ => true
  | .int _ => true
  | .str _ => true
  | _ => false
/-- == of flat values -/
def eqV : V → V → Bool
  | .non, .non => true
  | .bl a, .bl b => a == b
  | .bl a, .int b => (if a then 1 else 0) == b
  | .int a, .bl b => a == (if b then 1 else 0)
  | .int a, .int b => a == b
  | .str a, .str b => a == b
  | _, _ => false
theorem eqAt_V {A : Around} {s : Shared} {y x : V} {u v : Value} (ry : RelV y u) (rx : RelV x v) (fy : flatV y = true) (fx : flatV x = true) : SeqAt.EqAt A s u v (eqV y x) := by
  cases y with
  | non =>
    cases ry
    cases x with
    | non => cases rx; exact SeqAt.EqAt.same _
    | bl b => cases rx; exact SeqAt.EqAt.none_bool b
    | int b => obtain ⟨t, rfl⟩ := rx; exact SeqAt.EqAt.none_int b t
    | str b => obtain ⟨t, rfl⟩ := rx; exact SeqAt.EqAt.none_str b t
    | _ => exact absurd (show false = true from fx) Bool.false_ne_true
  | bl a =>
    cases ry
    cases x with
    | non => cases rx; exact SeqAt.EqAt.bool_none a
    | bl b => cases rx; exact SeqAt.EqAt.bool_bool a b
    | int b => obtain ⟨t, rfl⟩ := rx; exact SeqAt.EqAt.bool_int a b t
    | str b => obtain ⟨t, rfl⟩ := rx; exact SeqAt.EqAt.bool_str a b t
    | _ => exact absurd (show false = true from fx) Bool.false_ne_true
  | int a =>
    obtain ⟨t', rfl⟩ := ry
    cases x with
    | non => cases rx; exact SeqAt.EqAt.int_none a t'
    | bl b => cases rx; exact SeqAt.EqAt.int_bool a t' b
    | int b => obtain ⟨t, rfl⟩ := rx; exact SeqAt.EqAt.int_int a t' b t
    | str b => obtain ⟨t, rfl⟩ := rx; exact SeqAt.EqAt.int_str a t' b t
    | _ => exact absurd (show false = true from fx) Bool.false_ne_true
  | str a =>
    obtain ⟨t', rfl⟩ := ry
    cases x with
    | non => cases rx; exact SeqAt.EqAt.str_none a t'
    | bl b => cases rx; exact SeqAt.EqAt.str_bool a t' b
    | int b => obtain ⟨t, rfl⟩ := rx; exact SeqAt.EqAt.str_int a t' b t
    | str b => obtain ⟨t, rfl⟩ := rx; exact SeqAt.EqAt.str_str a t' b t
    | _ => exact absurd (show false = true from fx) Bool.false_ne_true
  | _ => exact absurd (show false = true from fy) Bool.false_ne_true
/-! ### len, list(x), tuple(x) of any list or tuple that is read -/
theorem call_list_of : CallR X (.type "list") (fun xs H Q => ∃ p ys, xs = [.ref p] ∧ (SqL X.K H p ys ∨ SqT X.K H p ys) ∧ ∀ l, H l = none → Q (.ref l) (upd H l (.lst ys))) := by
  intro pins s σ H xs us Q I r h
  obtain ⟨p, ys, rfl, hq, q⟩ := h
  obtain ⟨u, rfl, rx⟩ := vals1 r
  cases rx
  have fin : ∀ (its : List Value), Vals ys its → ys.length ≤ sizeLine → ∀ (h' : Heap) (c' : Nat), (∀ b o', s.heap.get? b = some o' → h'.get? b = some o') →
      h'.get? s.heap.objs.size = some { cls := .type "list", dict := none, data := .seq its.toArray c', slots := #[] } → EP X pins σ Q (.ref s.heap.objs.size) { s with heap := h' } := fun its r' hz h' c' kp e =>
    ⟨.ref s.heap.objs.size, _, I.laid (t' := s.toks) kp (Nat.le_refl _) (show ObjOk X.prog X.w _ h' _ (.lst ys) from ⟨hz, its, c', r', e⟩), rfl, q _ (I.hok.fresh (Nat.le_refl _))⟩
  rcases hq with hq | hq
  · obtain ⟨its, r', pl, hz⟩ := I.list hq
    have hlen := r'.length
    obtain ⟨o, ho, hc, n, hd⟩ := pl.isList
    exact call_list_seq p (.inl rfl) ho hc hd (fun h' c' kp e => fin its r' hz h' c' kp e) (by simp only [List.size_toArray] <;> omega)
  · obtain ⟨its, r', pl, hz⟩ := I.tuple hq
    have hlen := r'.length
    obtain ⟨o, ho, hc, n, hd⟩ := pl
    exact call_list_seq p (.inr rfl) ho hc hd (fun h' c' kp e => fin its r' hz h' c' kp e) (by simp only [List.size_toArray] <;> omega)
theorem call_tuple_of : CallR X (.type "tuple") (fun xs H Q => ∃ p ys, xs = [.ref p] ∧ ((SqL X.K H p ys ∧ ∀ l, H l = none → Q (.ref l) (upd H l (.tup ys))) ∨ (SqT X.K H p ys ∧ Q (.ref p) H))) := by
  intro pins s σ H xs us Q I r h
  obtain ⟨p, ys, rfl, h⟩ := h
  obtain ⟨u, rfl, rx⟩ := vals1 r
  cases rx
  rcases h with ⟨hq, q⟩ | ⟨hq, q⟩
  · obtain ⟨its, r', pl, hz⟩ := I.list hq
    have hlen := r'.length
    refine call_tuple_list pl.isList (fun h' kp => ?_) (by simp only [List.size_toArray] <;> omega)
    have I1 : Inv X pins σ H { s with heap := h' } := I.kept (t' := s.toks) kp
    have I2 : Inv X pins σ (upd H h'.objs.size (.tup ys)) { s with heap := h'.push { cls := .type "tuple", data := .seq its.toArray } } :=
      I1.laid (t' := s.toks) (fun b o e => Heap.get?_push_of_some _ e) (Nat.le_refl _) (show ObjOk X.prog X.w _ _ _ (.tup ys) from ⟨hz, its, r', IsTup.new _ _⟩)
    exact ⟨.ref h'.objs.size, _, I2, rfl, q _ (I1.hok.fresh (Nat.le_refl _))⟩
  · obtain ⟨its, r', pl, hz⟩ := I.tuple hq
    exact call_tuple_same pl ⟨.ref p, H, I, rfl, q⟩

/-! ### the call of a builtin's method: o.m(..) -/
/-- the value is of that builtin type -/
def tyV (K : PySem.W.Frag) (T : String) (x : V) (H : Hp) : Prop := match x with
  | .str _ => T = "str"
  | .int _ => T = "int"
  | .ref p => (T = "list" ∧ ∃ xs, SqL K H p xs) ∨ (T = "tuple" ∧ ∃ o, K.lookup p = some o ∧ o.cls = .type "tuple" ∧ o.dict = none) ∨
      (T = "dict" ∧ ((∃ kvs, H p = some (.dK kvs)) ∨ ∃ kvs, H p = some (.dT kvs))) ∨ (T = "set" ∧ ∃ S n, H p = some (.set S n))
  | _ => False
theorem tyV_is {pins : List (Addr × Obj)} {σ : St} {H : Hp} {s : Shared} {T : String} {x : V} {v : Value} (I : Inv X pins σ H s) (r : RelV x v) (ty : tyV X.K T x H) :
    s.TypeIs v T ∧ ∀ a, v = .ref a → ∃ ob, s.heap.get? a = some ob ∧ ob.dict = none := by
  cases x with
  | str z =>
    obtain ⟨t, rfl⟩ := r
    cases (show T = "str" from ty)
    exact ⟨typeIs_str s z t, fun _ e => nomatch e⟩
  | int i =>
    obtain ⟨t, rfl⟩ := r
    cases (show T = "int" from ty)
    exact ⟨typeIs_int s i t, fun _ e => nomatch e⟩
  | ref p =>
    cases r
    rcases ty with ⟨rfl, xs, hq⟩ | ⟨rfl, o, hk, hc, hd⟩ | ⟨rfl, hk⟩ | ⟨rfl, S, n, hk⟩
    · obtain ⟨its, _, pl, _⟩ := I.list hq
      refine ⟨pl.isList.typeIs, fun a e => ?_⟩
      cases e
      obtain ⟨o, n, e, c, hd, _⟩ := pl
      exact ⟨o, e, hd⟩
    · refine ⟨⟨o, I.kIn p o hk, hc⟩, fun a e => ?_⟩
      cases e
      exact ⟨o, I.kIn _ o hk, hd⟩
    · have z : ∃ o, s.heap.get? p = some o ∧ o.ExactDict := by
        rcases hk with ⟨kvs, hk⟩ | ⟨kvs, hk⟩
        · obtain ⟨_, _, _, _, o, _, _, e, ex, _⟩ := I.hok p _ hk
          exact ⟨o, e, ex⟩
        · obtain ⟨_, _, _, _, o, _, _, e, ex, _⟩ := I.hok p _ hk
          exact ⟨o, e, ex⟩
      obtain ⟨o, e, ex⟩ := z
      refine ⟨⟨o, e, ex.1⟩, fun a e2 => ?_⟩
      cases e2
      exact ⟨o, e, ex.2.1⟩
    · obtain ⟨o, _, _, _, e, ex, _⟩ := I.hok p _ hk
      refine ⟨⟨o, e, ex.1⟩, fun a e2 => ?_⟩
      cases e2
      exact ⟨o, e, ex.2.1⟩
  | _ => exact False.elim ty
def tBM0 (K : PySem.W.Frag) (T : String) (r : V → List V → Hp → VK → Prop) (to : TE) : TE := fun σ H Q => to σ H fun x H1 => tyV K T x H1 ∧ r x [] H1 Q
def tBM (K : PySem.W.Frag) (T : String) (r : V → List V → Hp → VK → Prop) (to : TE) (t : TA) : TE := fun σ H Q => to σ H fun x H1 => tyV K T x H1 ∧ t σ H1 fun xs H2 => r x xs H2 Q
variable {o e : Expr} {es : List Expr} {to : TE} {t : TA} {name : Str} {apos cpos : Pos} {T id : String} {r : V → List V → Hp → VK → Prop}
theorem pe_bm (pa : PlainAttrs T) (slot : Slot T name id) (hty : typeOf (.builtin id) = pure (.type "method_descriptor")) (hm : MtR X id r) (ho : PE X o to) (ha : PA X (e :: es) t)
    (hbase : attributeBase o name X.env (eval o X.env) = eval o X.env := by rfl)
    (hfew : ((backTo cpos (starEach (e :: es) X.env)).all (fun x => !x.1) && (backToKw cpos (keywordEach [] X.env)).all (fun x => x.1.isSome)
      && decide ((e :: es).length + ([] : List Keyword).length + (if ([] : List Keyword).isEmpty then 0 else 1) < 30)) = true := by rfl)
    (hline : (apos.endLine == cpos.line) = true := by rfl) (hs : starEach (e :: es) X.env = (false, eval e X.env) :: starEach es X.env := by rfl) (hplain : (backTo cpos (starEach es X.env)).any (·.1) = false := by rfl) :
    PE X (.Call (.Attribute o name apos) (e :: es) [] cpos) (tBM X.K T r to t) := by
  intro pins s σ H Q I h
  refine wpAny_Call_method_late hbase hfew hline rfl (thn (ho pins s σ H _ I h) fun v s1 ⟨x, H1, I1, r1, ty, q1⟩ => ?_)
  obtain ⟨h1, h2⟩ := tyV_is I1 r1 ty
  refine ⟨T, id, pa, slot, hty, h1, h2, ?_⟩
  have hA := ha cpos pins s1 σ H1 _ I1 q1
  rw [hs] at hA ⊢
  refine Calls.callWith_builtin (by show (false || (backTo cpos (starEach es X.env)).any (·.1)) = false; rw [hplain] <;> rfl) (Calls.evalArgs_plain ?_)
  exact thn hA fun us s2 ⟨vs, H2, I2, r2, q2⟩ => hm pins s2 σ H2 x vs v us Q I2 r1 r2 q2
/- xs.append(e), list.index on a module's tuple .. are MtR facts of 06m -/
end
end L2

namespace L2
open PySem PySem.Spec PyProof.Rows

def MtM (X : Cx) (id : String) (r : V → List V → Hp → VK → Prop) : Prop :=
  ∀ (pins : List (Addr × Obj)) (s : Shared) (σ : St) (H : Hp) (x : V) (xs : List V) (v : Value) (us : List Value) (Q : VK), Inv X pins σ H s → RelV x v → Vals xs us → r x xs H Q →
    wpAny (model X.prog X.w) X.A (call (.builtin id) (v :: us)) (EP X pins σ Q) X.xe s

/-! ### lists of values -/
theorem Vals.one : ∀ {x : V} {us : List Value}, Vals [x] us → ∃ u, us = [u] ∧ RelV x u
  | _, _, .cons r .nil => ⟨_, rfl, r⟩
theorem Vals.two : ∀ {x y : V} {us : List Value}, Vals [x, y] us → ∃ u v, us = [u, v] ∧ RelV x u ∧ RelV y v
  | _, _, _, .cons r (.cons q .nil) => ⟨_, _, rfl, r, q⟩
theorem Vals.zero : ∀ {us : List Value}, Vals [] us → us = []
  | _, .nil => rfl
theorem Vals.eraseIdx : ∀ {xs : List V} {us : List Value} (i : Nat), Vals xs us → Vals (xs.eraseIdx i) (us.eraseIdx i)
  | _, _, _, .nil => .nil
  | _, _, 0, .cons _ t => t
  | _, _, i + 1, .cons r t => .cons r (Vals.eraseIdx i t)
theorem Vals.reverse {xs : List V} {us : List Value} (h : Vals xs us) : Vals xs.reverse us.reverse := by
  induction h with
  | nil => exact .nil
  | cons r t ih => rw [List.reverse_cons, List.reverse_cons]; exact Vals.append ih (.cons r .nil)
section
variable {X : Cx} {pins : List (Addr × Obj)} {σ : St} {H : Hp} {s : Shared} {l b : Addr} {xs ys zs : List V}

/-! ### the two steps: a tracked list is rewritten, a new list is laid -/
theorem Inv.lset {its its' : List Value} {n : Nat} {f : Array Value → Array Value} {t' : Nat} (I : Inv X pins σ H s) (hH : H l = some (.lst xs))
    (e : s.heap.get? l = some { cls := .type "list", data := .seq its.toArray n }) (hf : f its.toArray = its'.toArray) (hv : Vals ys its') (hz : ys.length ≤ sizeLine) :
    Inv X pins σ (upd H l (.lst ys)) { s with heap := s.heap.update l (Obj.mapSeq f), toks := t' } := by
  have q := PySem.IsL.update e f
  rw [hf] at q
  refine I.write (x := l) (e := l) (by rw [hH]; exact trivial) (.inl rfl) (fun b' u hb hu => (Heap.get?_update_other s.heap (Obj.mapSeq f) (Ne.symm hb)).trans hu) ⟨_, q⟩ ?_
  exact ⟨hz, its', _, hv, q⟩
theorem Inv.lnew {its : List Value} {t' : Nat} (I : Inv X pins σ H s) (hv : Vals ys its) (hz : ys.length ≤ sizeLine) :
    Inv X pins σ (upd H s.heap.objs.size (.lst ys)) { s with heap := s.heap.push { cls := .type "list", data := .seq its.toArray }, toks := t' } :=
  I.laid (fun _ _ q => Heap.get?_push_of_some _ q) (Nat.le_refl _) ⟨hz, its, 0, hv, Heap.get?_push_size _ rfl⟩
theorem Inv.fresh (I : Inv X pins σ H s) : H s.heap.objs.size = none := I.hok.fresh (Nat.le_refl _)
theorem Inv.lstM (I : Inv X pins σ H s) (hH : H l = some (.lst xs)) : xs.length ≤ sizeLine ∧ ∃ (its : List Value) (n : Nat), Vals xs its ∧ xs.length = its.length ∧ s.heap.get? l = some { cls := .type "list", data := .seq its.toArray n } := by
  obtain ⟨z, its, n, r, e⟩ := I.hok l _ hH
  exact ⟨z, its, n, r, r.length, e⟩

theorem notLongL {n : Nat} (h : n ≤ sizeLine) : Builtin.List.listTooLong n = false := by
  unfold Builtin.List.listTooLong
  exact decide_eq_false (by omega)
end

section
variable {X : Cx}

/-! ### methods -/
def rAppend : V → List V → Hp → VK → Prop := fun x vs H Q => ∃ l xs y, x = .ref l ∧ vs = [y] ∧ H l = some (.lst xs) ∧ xs.length < sizeLine ∧ Q .non (upd H l (.lst (xs ++ [y])))
theorem mt_append : MtM X "list.append" rAppend := by
  intro pins s σ H x vs v us Q I rx rv h
  obtain ⟨l, xs, y, rfl, rfl, hH, hz, q⟩ := h
  cases rx
  obtain ⟨u, rfl, ru⟩ := rv.one
  obtain ⟨z, its, n, r, hl, e⟩ := I.lstM hH
  refine call_meets F.slot_list_append ⟨_, e, rfl⟩ F.entry_list_append (F.args_list_append_2 _ _) (PySem.list_append l its.toArray n u (by rw [List.size_toArray]; omega)) ⟨e, ?_⟩
  refine ⟨.non, _, I.lset (its' := its ++ [u]) hH e (by simp) (r.append (.cons ru .nil)) ?_, rfl, q⟩
  rw [List.length_append, List.length_singleton]
  omega

def rExtend : V → List V → Hp → VK → Prop := fun x vs H Q => ∃ l b xs zs, x = .ref l ∧ vs = [.ref b] ∧ H l = some (.lst xs) ∧ H b = some (.lst zs) ∧ xs.length + zs.length ≤ sizeLine ∧ Q .non (upd H l (.lst (xs ++ zs)))
theorem mt_extend : MtM X "list.extend" rExtend := by
  intro pins s σ H x vs v us Q I rx rv h
  obtain ⟨l, b, xs, zs, rfl, rfl, hH, hB, hz, q⟩ := h
  cases rx
  obtain ⟨u, rfl, ru⟩ := rv.one
  cases ru
  obtain ⟨z, its, n, r, hl, e⟩ := I.lstM hH
  obtain ⟨z2, its2, n2, r2, hl2, e2⟩ := I.lstM hB
  have hsz : its.toArray.size + its2.toArray.size ≤ sizeLine := by rw [List.size_toArray, List.size_toArray]; omega
  have hlong : ¬ (!its.toArray.isEmpty && Builtin.List.listTooLong (its.toArray.size + its2.toArray.size)) = true := by
    rw [notLongL hsz, Bool.and_false]
    exact Bool.false_ne_true
  refine call_meets F.slot_list_extend ⟨_, e, rfl⟩ F.entry_list_extend (F.args_list_extend_2 _ _)
    (AutoSeq1.list_extend_list_list_0 l its.toArray n b its2.toArray n2 hlong (by rw [List.size_toArray]; omega) (by omega)) ⟨e, e2, ?_⟩
  refine ⟨.non, _, I.lset (its' := its ++ its2) hH e (by simp) (r.append r2) ?_, rfl, q⟩
  rw [List.length_append]
  omega

/-! ### list + list, list += list, list * int -/
def rCat : R2 := fun x y H Q => ∃ l b xs zs, x = .ref l ∧ y = .ref b ∧ H l = some (.lst xs) ∧ H b = some (.lst zs) ∧ xs.length + zs.length ≤ sizeLine ∧ ∀ p, H p = none → Q (.ref p) (upd H p (.lst (xs ++ zs)))
theorem op_cat : OpR X (binaryOp .Add) rCat := by
  intro pins s σ H x y v u Q I rx ry h
  obtain ⟨l, b, xs, zs, rfl, rfl, hH, hB, hz, q⟩ := h
  cases rx
  cases ry
  obtain ⟨z, its, n, r, hl, e⟩ := I.lstM hH
  obtain ⟨z2, its2, n2, r2, hl2, e2⟩ := I.lstM hB
  refine PySem.P.add_list e e2 ?_ (by rw [List.size_toArray, List.size_toArray]; omega)
  have ea : its.toArray ++ its2.toArray = (its ++ its2).toArray := by simp
  rw [ea]
  exact ⟨.ref _, _, I.lnew (t' := s.toks) (r.append r2) (by rw [List.length_append]; omega), rfl, q _ I.fresh⟩
theorem len_rep {α : Type} (xs : List α) (k : Nat) : (List.replicate k xs).flatten.length = k * xs.length := by
  induction k with
  | zero => simp
  | succ k ih => rw [List.replicate_succ, List.flatten_cons, List.length_append, ih, Nat.succ_mul, Nat.add_comm]
/-! ### del xs[i] -/
end

/-! ### xs[a:b] = ys -/
section
variable {prog : Program} {w : World} {A : Around} {E : Value → Shared → Prop} {s : Shared}
end

section
variable {X : Cx}
end
end L2

namespace Att
open PySem PySem.W PySem.Calls PyProof.Rows

/-! ### the script -/
theorem ints_of_wellAll {P : Params} {h : Heap} : ∀ (ns : List Int) (vs : List Value), WellAll P h vs (ns.map WData.int) → IntsAre vs ns := by
  intro ns
  induction ns with
  | nil =>
    intro vs w
    rw [List.map_nil] at w
    cases w
    exact .nil
  | cons n ns ih =>
    intro vs w
    rw [List.map_cons] at w
    cases w with
    | cons a b =>
      cases a
      exact .cons _ _ (ih _ b)

theorem script_of {l : OpenLaw} {n : Nat} (hn : l.most = some n) {P : Params} {h : Heap} {args : List WData} {vals : List Value}
    (hpre : l.row.toRowW.claim.pre args = true) (hwl : WellAll P h vals args) :
    ∃ a vs ns, vals = [Value.ref a] ∧ args = [WData.list (ns.map WData.int)] ∧ h.get? a = some { cls := .type "list", data := .seq vs.toArray } ∧ IntsAre vs ns ∧ ns.length ≤ n := by
  have hsh : WShape.hasAll [] args [.list .int] = true := (pre_splitW hpre).1
  have hc : l.pre.holds [] { args := args } = true := (pre_splitW hpre).2
  obtain ⟨d, r, rfl, h1, h2⟩ := hasAllW_cons hsh
  obtain rfl := hasAllW_nil h2
  obtain ⟨xs, rfl, h3⟩ := hasW_list h1
  obtain ⟨ns, rfl⟩ := items_int h3
  have hlen : ns.length ≤ n := by
    unfold OpenLaw.pre at hc
    have h4 : (WTm.not (.lt (.lit (.int (n : Int))) (.len (.arg 0)))).holds [] { args := [.list (ns.map .int)] } = true := by
      have h4 := (holds_andW hc).1
      rw [hn] at h4
      exact h4
    have h5 := condW_of h4 (w_not (w_lt w_lit (w_len_list (w_arg rfl))))
    rw [List.length_map] at h5
    refine Nat.le_of_not_lt fun q => ?_
    have q' : (n : Int) < ((ns.length : Nat) : Int) := by omega
    first
      | (rw [decide_eq_true q'] at h5; exact absurd h5 (by decide))
      | (simp at h5; omega)
  cases hwl with
  | cons w1 w2 =>
    cases w2
    cases w1 with
    | list ho hall => exact ⟨_, _, ns, rfl, rfl, ho, ints_of_wellAll ns _ hall, hlen⟩

theorem post_true (l : OpenLaw) (args : List WData) : l.row.toRowW.claim.post args (.bool true) args = true :=
  postW_of (r := l.row.toRowW) (X := (true == true))
    (show WShape.has [] (.bool true) .bool = true by first | rfl | decide | simp [WShape.has, WShape.arms, WShape.armsAll])
    (show (WTm.eq .res (.lit (.bool true))).value [] { args := args, res := some (.bool true), after := args } = some (.bool (true == true)) from w_eq_bool (w_res rfl) w_lit) rfl

/-! ### the attachment: holds_open's last premise (the goal 'hc' behind k_head) from a wpAny of the law's body -/
/-- the same from a codeAny of the CALL (for a layer whose function contracts speak of calls) -/
theorem attach_call {l : OpenLaw} {n : Nat} {q : Program} {loose : List Str} {XP : (Str → Option Value) → Heap → Prop} {YP : World → Heap → Prop} {d : DefRec}
    (hn : l.most = some n) (hdf : d.params.defaults = [])
    (call : ∀ (w : World) (s₀ s₁ : Shared) (mg mb : Str → Option Value) (fa : Addr) (o : Obj) (pm cd doc : Value) (a : Addr) (vs : List Value) (ns : List Int),
      Ground q loose [] XP w s₀ mg mb s₁.heap → YP w s₁.heap →
      s₁.heap.get? fa = some o → o.data = .func (docDef d.name d.params d.body d.scope pm cd doc) → s₁.heap.CodeRec cd d.name → mg d.name = some (.ref fa) →
      s₁.heap.get? a = some { cls := .type "list", data := .seq vs.toArray } → IntsAre vs ns → ns.length ≤ n → s₁.gens = #[] →
      codeAny (model l.prog w) callerA (.call (.ref fa) ⟨[.ref a], []⟩) (fun r s' => r = .ok (.ret (.bool true)) ∧ OldK s₁.heap s'.heap ∧ s'.os = s₁.os ∧ AllBare s'.gens) s₁) :
    WalkO q loose XP YP l.row.toRowW d [] (fun f vs => PySem.call f vs) := by
  intro w s₀ s₁ mg mb G Y fa o pm cd doc dV kV ho hd hcd hD hmg hg args vals as hpre hlay hrd hwl hlo
  obtain rfl : dV = .none := Dflts.none hD hdf
  obtain rfl : kV = .none := Dflts.noKw hD
  obtain ⟨a, vs, ns, rfl, rfl, hobj, hints, hlen⟩ := script_of hn hpre hwl
  refine enter_call (codeAny_mono (call w s₀ s₁ mg mb fa o pm cd doc a vs ns G Y ho (fd_plain hd) hcd hmg hobj hints hlen hg) fun r s' hq => ?_)
  obtain ⟨rfl, h2, h3, h4⟩ := hq
  exact ⟨.inl ⟨.bool true, .bool true, [], rfl, fun _ => rfl, .bool true, post_true l _, fun _ => ⟨List.Pairwise.nil, fun _ hm => (nomatch hm)⟩⟩, h2, h3, h4⟩

/-! ### rules over ANY heap (no ledger) from facts about the written part K: the library's own take a ledger (News) for what they write -/
section
variable {prog : Program} {w : World} {A : Around} {E : Value → Shared → Prop} {s : Shared} {K : Frag}

/-! the whole heap as the ledger: makes every rule that writes through a ledger a rule over any heap -/
def ledger (h : Heap) (L d : Addr) : List (Addr × Obj) := (List.range h.objs.size).filterMap fun a => if a = L ∨ a = d then none else (h.get? a).map fun o => (a, o)
end
end Att

namespace L2
open PySem PySem.Spec PyProof.Rows

theorem vals_ints : ∀ {vs : List Value} {ns : List Int}, IntsAre vs ns → Vals (ns.map V.int) vs
  | _, _, .nil => .nil
  | _, _, .cons n t h => .cons ⟨t, rfl⟩ (vals_ints h)

/-- nothing is tracked but the script, known to the object (or it is an object of the module) -/
def Only (H : Hp) : Prop := ∀ b, H b = none ∨ ∃ o xs, H b = some (.frz o (.lst xs))

/-- THE HEAD: the law's promise, at the heap behind the top. F, the promise of the law's def, may use that base is part of the heap (so K.In base, base.Ns mainGlobals mg stand in Mod) -/
theorem law_call {P : Program} {w : World} {K : PySem.W.Frag} {mg mb : Str → Option Value} {CX : CXT} {k : Nat} {fa a : Addr} {fd : FuncData} {x : Str} {sp : Sp} {s₁ : Shared} {vs : List Value} {ns : List Int}
    (KX : K.In s₁.heap) (hns : s₁.heap.Ns mainGlobals mg) (hb : s₁.heap.Ns builtinsNs mb) (hbb : ∀ x : Str, x ≠ "__name__" → mb x = bootBuiltins x) (hlim : s₁.heap.NoLimit) (hg : s₁.gens = #[])
    (ha : s₁.heap.get? a = some { cls := .type "list", data := .seq vs.toArray }) (hi : IntsAre vs ns) (hl : ns.length ≤ sizeLine) (hr : Room k callerA)
    (F : ∀ base : Heap, K.In base → base.Ns mainGlobals mg → FnOk P w K mg base CX k fa fd [x] sp) (hbind : ∀ (s : Shared) (u : Value), BindsTo s fd ⟨[u], []⟩ [(x, u)])
    (hsp : ∀ H : Hp, Only H → SqL K H a (ns.map V.int) → sp [.ref a] H (fun v _ => v = .bl true) fun _ _ _ => False)
    (hCX : ∀ H e s', CX [] H s₁ (fun _ _ _ => False) e s' → False) :
    codeAny (model P w) callerA (.call (.ref fa) ⟨[.ref a], []⟩) (fun r s' => r = .ok (.ret (.bool true)) ∧ OldK s₁.heap s'.heap ∧ s'.os = s₁.os ∧ AllBare s'.gens) s₁ := by
  have rv := vals_ints hi
  have lenV := hi.length
  -- from an abstract heap in which nothing but the script may be tracked
  have core : ∀ H : Hp, Only H → SqL K H a (ns.map V.int) → HOk P w H s₁.heap → (∀ b, H b ≠ none → b = a) → (H a ≠ none → K.lookup a = none) →
      codeAny (model P w) callerA (.call (.ref fa) ⟨[.ref a], []⟩) (fun r s' => r = .ok (.ret (.bool true)) ∧ OldK s₁.heap s'.heap ∧ s'.os = s₁.os ∧ AllBare s'.gens) s₁ := by
    intro H hO hS hok hA hK
    have base_of : ∀ {b : Addr} {o : Obj}, s₁.heap.get? b = some o → H b = none → (hidT s₁.heap H).get? b = some o := fun e n => hidT_get e n
    have noA : ∀ {b : Addr} {o : Obj} {es : Array DictEntry} {ep : Nat}, s₁.heap.get? b = some o → o.data = .dict es ep → H b = none := fun {b o es ep} e d => by
      cases q : H b with
      | none => rfl
      | some u =>
        have e' : b = a := hA b (by rw [q]; simp)
        subst e'
        rw [ha] at e; cases e
        have d' : Data.seq vs.toArray _ = Data.dict es ep := d
        cases d'
    have nsK : ∀ {b : Addr} {m : Str → Option Value}, s₁.heap.Ns b m → (hidT s₁.heap H).Ns b m := fun {b m} ⟨o, es, ep, e, d, r⟩ => ⟨o, es, ep, base_of e (noA e d), d, r⟩
    have hKb : K.In (hidT s₁.heap H) := fun b o e => base_of (KX b o e) (by
      cases q : H b with
      | none => rfl
      | some u =>
        have e' : b = a := hA b (by rw [q]; simp)
        subst e'
        rw [hK (by rw [q]; simp)] at e; cases e)
    have hM : Mod K mg (hidT s₁.heap H) := ⟨hKb, nsK hns, ⟨mb, nsK hb, hbb⟩, let ⟨mc, h1, h2⟩ := hlim; ⟨mc, nsK h1, h2⟩⟩
    have e0 : Env0 P w K mg (hidT s₁.heap H) callerA [] s₁ H := ⟨rfl, hM, fun b o e => of_hidT e, Nat.le_of_eq (hidT_size _ _), trivial, fun b hb => absurd (show b ∈ ([] : List Addr) from hb) (by simp), hok, .of_eq hg⟩
    refine codeAny_mono ((F _ hKb (nsK hns)).run callerA [] s₁ H ⟨[.ref a], []⟩ [.ref a] [.ref a] _ _ hr e0 (hbind s₁ (.ref a)) (.cons rfl .nil) (hsp H hO hS)) fun r s' h => ?_
    cases r with
    | error e => exact (hCX H e s' h).elim
    | ok fl =>
      cases fl with
      | next => exact False.elim h
      | brk => exact False.elim h
      | cont => exact False.elim h
      | ret u =>
        obtain ⟨v, H', os, bare, un, hok', r', q⟩ := h
        have q' : v = .bl true := q
        subst q'
        obtain rfl : u = Value.bool true := r'
        refine ⟨rfl, OldK.of_keep fun b o e => ?_, os, bare⟩
        cases q : H b with
        | none => exact un.keep b o e q (by intro z; exact absurd (show b ∈ ([] : List Addr) from z) (by simp)) (by simp)
        | some u =>
          rcases hO b with z | ⟨ob, xs, z⟩
          · rw [q] at z; cases z
          · have z2 := un.frzs b ob _ z
            obtain ⟨e1, _⟩ := hok b _ z
            obtain ⟨e2, _⟩ := hok' b _ z2
            rw [e] at e1; cases e1
            exact e2
  cases hk : K.lookup a with
  | some o =>
    -- the script is one of the module's own objects
    have e := KX a o hk
    rw [ha] at e
    cases e
    refine core (fun _ => none) (fun _ => .inl rfl) (.inr ⟨_, vs.toArray, _, hk, rfl, rfl, rfl, by rw [List.size_toArray, lenV]; exact hl, by simpa using rv⟩) (fun b u z => by have z' : (none : Option HO) = some u := z; cases z') (fun b z => absurd rfl z) fun z => absurd rfl z
  | none =>
    refine core (fun b => if b = a then some (.frz { cls := .type "list", data := .seq vs.toArray } (.lst (ns.map V.int))) else none) (fun b => ?_) (.inl (.inr ⟨{ cls := .type "list", data := .seq vs.toArray }, if_pos rfl⟩)) (fun b u z => ?_) (fun b z => ?_) fun _ => hk
    · by_cases hb : b = a
      · exact .inr ⟨_, _, if_pos hb⟩
      · exact .inl (if_neg hb)
    · by_cases hb : b = a
      · have z' := (if_pos hb).symm.trans z
        cases z'
        subst hb
        exact ⟨ha, by rw [List.length_map]; exact hl, vs, _, rv, ha⟩
      · have z' := (if_neg hb).symm.trans z
        cases z'
    · by_cases hb : b = a
      · exact hb
      · exact absurd (if_neg hb) z
end L2

namespace L2
open PySem PySem.Spec PyProof.Rows

/-- the goal that k_head leaves (case hc), from the law's promise. F gives the function object fd (K's own) once, then the promise over every base -/
theorem walk_of {l : PySem.W.OpenLaw} {n k : Nat} {q : Program} {loose : List Str} {XP : (Str → Option Value) → Heap → Prop} {YP : World → Heap → Prop} {d : DefRec} {K : Params → PySem.W.Frag} {CX : World → CXT} {sp : World → Sp} {x : Str}
    (hn : l.most = some n) (hn2 : n ≤ sizeLine) (hdf : d.params.defaults = []) (hr : Room k callerA)
    (hY : ∀ (w : World) (h : Heap), YP w h → (K w.params).In h)
    (F : ∀ (w : World) (mg : Str → Option Value) (fa : Addr) (h : Heap), (K w.params).In h → h.Ns mainGlobals mg → mg d.name = some (.ref fa) →
      ∃ fd : FuncData, (∀ (s : Shared) (u : Value), BindsTo s fd ⟨[u], []⟩ [(x, u)]) ∧
        ∀ base : Heap, (K w.params).In base → base.Ns mainGlobals mg → FnOk l.prog w (K w.params) mg base (CX w) k fa fd [x] (sp w))
    (hsp : ∀ (w : World) (H : Hp) (a : Addr) (ns : List Int), ns.length ≤ n → Only H → SqL (K w.params) H a (ns.map V.int) → sp w [.ref a] H (fun v _ => v = .bl true) fun _ _ _ => False)
    (hCX : ∀ (w : World) (H : Hp) (s : Shared) (e : Value) (s' : Shared), CX w [] H s (fun _ _ _ => False) e s' → False) :
    PySem.W.WalkO q loose XP YP l.row.toRowW d [] (fun f vs => PySem.call f vs) := by
  refine Att.attach_call hn hdf fun w s₀ s₁ mg mb fa o pm cd doc a vs ns G Y ho hd hcd hmg hobj hints hlen hg => ?_
  have KX := hY w _ Y
  obtain ⟨fd, hb, hF⟩ := F w mg fa _ KX G.T.g hmg
  exact law_call KX G.T.g G.T.b G.T.builtins G.T.nolimit hg hobj hints (Nat.le_trans hlen hn2) hr hF hb (fun H hO hS => hsp w H a ns hlen hO hS) fun H e s' => hCX w H s₁ e s'
end L2

/-! SHORT WORDS over the layer: a def of the text, its body, what a loop and a test want. -/
namespace L2
open PySem PySem.Spec PyProof.Rows

/-! ### the text by places -/
/-- the j-th statement of a class's body -/
def inClass (s : Stmt) (j : Nat) : Stmt := match s with
  | .ClassDef _ _ _ body _ _ _ _ _ _ _ => body.getD j (.Pass ⟨0, 0, 0, 0⟩)
  | _ => .Pass ⟨0, 0, 0, 0⟩
def defArgs (s : Stmt) : Arguments := match s with
  | .FunctionDef _ a _ _ _ _ _ _ _ _ => a
  | _ => { posonlyargs := [], args := [], vararg := none, kwonlyargs := [], kw_defaults := [], kwarg := none, defaults := [] }
def defBody (s : Stmt) : List Stmt := match s with
  | .FunctionDef _ _ b _ _ _ _ _ _ _ => b
  | _ => []
def defScope (s : Stmt) : Scope := match s with
  | .FunctionDef _ _ _ _ _ _ sc _ _ _ => sc
  | _ => { kind := .function, names := [], isGenerator := false, isCoroutine := false }

/-! ### no exception leaves a def -/
abbrev CX0 : CXT := fun _ _ _ _ _ _ => False
abbrev E0 : XK := fun _ _ _ => False
theorem pass0 {X : Cx} : Passes CX0 X E0 := fun _ _ _ _ _ _ _ h => h.elim

/-! ### a def (or method) of the text as it stands behind the top -/
structure Fun (K : PySem.W.Frag) (x qual : Str) (st : Stmt) (f : Addr) (fd : FuncData) : Prop where
  ex : ∃ (oc : Value) (od : Option Addr) (kV doc pm : Value) (an : Option Addr) (cdv ct : Value) (osl : Array (Option Value)),
    fd = PySem.W.fnOf x qual (defArgs st) (defBody st) (defScope st) .none kV doc pm an cdv ct ∧ K.lookup f = some ⟨oc, od, .func fd, osl⟩ ∧ PySem.W.codeIn K cdv qual = true
  kp : PySem.W.keepIn K (.ref f) = true
section
variable {P : Program} {w : World} {K : PySem.W.Frag} {mg : Str → Option Value} {base : Heap}
/-- THE RULE for a def: its body as a term of rules, and the reading of that term -/
theorem Fun.ok {x qual : Str} {st : Stmt} {f : Addr} {fd : FuncData} {N ps : List Str} {k : Nat} {sp : Sp} (F : Fun K x qual st f fd) (S : FnScope N ps (defScope st)) (len : ∀ vs H Q E, sp vs H Q E → vs.length = ps.length)
    (hbody : ∀ (cdv : Value) (A : Around) (outer : List Env) (s : Shared) (H : Hp) (vs : List V) (Q : VK) (E : XK), Room k (A.deeper (envOfC qual (defScope st) s.heap.objs.size f cdv)) → sp vs H Q E →
      ∃ t, PSs (cxOf CX0 P w K mg base N qual (defScope st) f cdv A outer s H E).nox (defBody st) t ∧ t { nx := fun _ H' => Q .non H', rt := Q } (start N vs) H) : FnOk P w K mg base CX0 (k + 1) f fd ps sp := by
  obtain ⟨oc, od, kV, doc, pm, an, cdv, ct, osl, rfl, lk, hcd⟩ := F.ex
  refine fn_of lk hcd S len fun A outer s H vs Q E hr hsp => ?_
  obtain ⟨t, h, q⟩ := hbody cdv A outer s H vs Q E hr hsp
  exact ⟨t, h.nox, q⟩
/-- how its arguments bind (no defaults): h is «fun _ _ _ _ _ _ us hl => match us, hl with | [_, _], _ => rfl», one _ a parameter -/
theorem Fun.binds {x qual : Str} {st : Stmt} {f : Addr} {fd : FuncData} {ps : List Str} (F : Fun K x qual st f fd)
    (h : ∀ (kV doc pm : Value) (an : Option Addr) (cdv ct : Value) (us : List Value), us.length = ps.length → bindArgs (PySem.W.fnOf x qual (defArgs st) (defBody st) (defScope st) .none kV doc pm an cdv ct) ⟨us, []⟩ = pure (ps.zip us)) : Binds K fd ps [] := by
  obtain ⟨oc, od, kV, doc, pm, an, cdv, ct, osl, rfl, lk, hcd⟩ := F.ex
  exact .all (h kV doc pm an cdv ct)
theorem fun_mk {x qual : Str} {st : Stmt} {f : Addr} {oc : Value} {od an : Option Addr} {osl : Array (Option Value)} {kV doc pm cdv ct : Value} (l : K.lookup f = some ⟨oc, od, .func (PySem.W.fnOf x qual (defArgs st) (defBody st) (defScope st) .none kV doc pm an cdv ct), osl⟩)
    (c : PySem.W.codeIn K cdv qual = true) (k : PySem.W.keepIn K (.ref f) = true) : Fun K x qual st f (PySem.W.fnOf x qual (defArgs st) (defBody st) (defScope st) .none kV doc pm an cdv ct) := ⟨⟨oc, od, kV, doc, pm, an, cdv, ct, osl, rfl, l, c⟩, k⟩
end
/-! ### expressions in short: the name that stands in the i-th slot -/
section
variable {X : Cx}
theorem pv (i : Nat) {x : Str} {pos : Pos} (hN : X.N[i]? = some x := by rfl) (hv : Vis X.env.scope x := by first | exact Or.inl rfl | exact Or.inr (Or.inl rfl) | exact Or.inr (Or.inr rfl)) (hd : (x == ("__debug__" : Str)) = false := by decide)
    (hcd : (x == ("__classdict__" : Str)) = false := by decide) : PE X (.Name x pos) (tVar i) := pe_var hN hv hd hcd
end

/-! ### tests -/
theorem ite2 {c A B : Prop} [Decidable c] (h1 : c → A) (h2 : ¬ c → B) : if c then A else B := by
  by_cases h : c
  · rw [if_pos h]
    exact h1 h
  · rw [if_neg h]
    exact h2 h
/-! ### heaps -/
/-- all that was tracked is as it was -/
def Same (H H' : Hp) : Prop := ∀ b o, H b = some o → H' b = some o
theorem Same.refl (H : Hp) : Same H H := fun _ _ h => h
theorem Same.trans {H H1 H2 : Hp} (a : Same H H1) (b : Same H1 H2) : Same H H2 := fun c o h => b c o (a c o h)
theorem Same.free {H H' : Hp} (e : Same H H') {l : Addr} (h : H' l = Option.none) : H l = Option.none := by
  cases q : H l with
  | none => rfl
  | some o =>
    rw [e l o q] at h
    cases h
theorem Same.seq {K : PySem.W.Frag} {H H' : Hp} {a : Addr} {xs : List V} (e : Same H H') (h : SqL K H a xs) : SqL K H' a xs := by
  rcases h with (h | ⟨o, h⟩) | h
  · exact .inl (.inl (e _ _ h))
  · exact .inl (.inr ⟨o, e _ _ h⟩)
  · exact .inr h

end L2

set_option Elab.async false
set_option linter.all false
set_option maxRecDepth 100000
set_option maxHeartbeats 4000000
namespace L3
open PySem PySem.Spec PyProof.Rows L2

abbrev St := L2.St
/-! ### texts as lists of codes -/
abbrev cs (x : Str) : List Nat := x.cps.toList
abbrev tx (l : List Nat) : Str := ⟨l.toArray⟩
theorem tx_cs (x : Str) : tx (cs x) = x := by cases x; rfl
theorem cs_tx (l : List Nat) : cs (tx l) = l := rfl
theorem len_cs (x : Str) : x.length = (cs x).length := by simp [Str.length, cs]
theorem len_tx (l : List Nat) : (tx l).length = l.length := by simp [Str.length, tx]
theorem cs_inj {x y : Str} (h : cs x = cs y) : x = y := by rw [← tx_cs x, ← tx_cs y, h]
theorem tx_inj {l m : List Nat} (h : tx l = tx m) : l = m := by rw [← cs_tx l, ← cs_tx m, h]
theorem tx_eq {l m : List Nat} : tx l = tx m ↔ l = m := ⟨tx_inj, fun h => by rw [h]⟩
theorem tx_append (l m : List Nat) : tx l ++ tx m = tx (l ++ m) := by
  apply cs_inj
  show (tx l ++ tx m).cps.toList = l ++ m
  rw [Str.cps_append]
  simp
/-! ### slices -/
def cut {α : Type} (l : List α) (lo hi : Option Int) : List α := (l.drop (HT.sIx l.length 0 lo)).take (HT.sIx l.length l.length hi - HT.sIx l.length 0 lo)
theorem cut_len {α : Type} (l : List α) (lo hi : Option Int) : (cut l lo hi).length ≤ l.length := by
  unfold cut
  rw [List.length_take, List.length_drop]
  omega
theorem range_nat (a b : Nat) : sliceRange (a : Int) (b : Int) 1 = (List.range (b - a)).map (fun k => a + k) := by
  unfold sliceRange
  have e : (if (1 : Int) > 0 then (if (a : Int) < b then ((b : Int) - a + 1 - 1) / 1 else 0) else (if (a : Int) > b then ((a : Int) - b - 1 - 1) / (-1) else 0)).toNat = b - a := by
    rw [if_pos (by decide)]
    by_cases h : (a : Int) < b
    · rw [if_pos h, Int.ediv_one]; omega
    · rw [if_neg h]; omega
  show (List.range ((if (1 : Int) > 0 then (if (a : Int) < b then ((b : Int) - a + 1 - 1) / 1 else 0) else (if (a : Int) > b then ((a : Int) - b - 1 - 1) / (-1) else 0)).toNat)).map _ = _
  rw [e]
  refine List.map_congr_left fun k _ => ?_
  omega
theorem idx_cut (lo hi : Option Int) (n : Nat) : Builtin.Str.strSliceIndices lo hi 1 n = (List.range (HT.sIx n n hi - HT.sIx n 0 lo)).map (fun k => HT.sIx n 0 lo + k) := by
  rw [← range_nat]
  have clip : ∀ (v : Int) (d : Nat), max 0 (min (if v < 0 then v + (n : Int) else v) (n : Int)) = ((HT.sIx n d (some v) : Nat) : Int) := fun v d => by
    show _ = (((if v < 0 then (v + (n : Int)).toNat else min v.toNat n) : Nat) : Int)
    by_cases hv : v < 0
    · simp only [if_pos hv]; omega
    · simp only [if_neg hv]; omega
  have h1 : ((1 : Int) > 0) = True := by simp
  unfold Builtin.Str.strSliceIndices
  cases lo with
  | none =>
    cases hi with
    | none => simp only [h1, if_true]; rfl
    | some j => simp only [h1, if_true, clip j n]; rfl
  | some i =>
    cases hi with
    | none => simp only [h1, if_true, clip i 0]; rfl
    | some j => simp only [h1, if_true, clip i 0, clip j n]
theorem slice_cut (x : Str) (lo hi : Option Int) : Txt.slice x lo hi = tx (cut (cs x) lo hi) := by
  have hn : x.length = x.cps.toList.length := len_cs x
  have hj : HT.sIx x.length x.length hi ≤ x.length := HT.sIx_le _ _ (Nat.le_refl _) hi
  have hi0 : HT.sIx x.length 0 lo ≤ x.length := HT.sIx_le _ _ (Nat.zero_le _) lo
  unfold Txt.slice
  rw [idx_cut]
  split
  · rename_i h
    have h' : HT.sIx x.length x.length hi - HT.sIx x.length 0 lo = x.length := by simpa using h
    apply cs_inj
    show x.cps.toList = cut x.cps.toList lo hi
    unfold cut
    rw [← hn]
    by_cases z : x.length = 0
    · have : x.cps.toList = [] := List.eq_nil_of_length_eq_zero (by omega)
      rw [this]; simp
    · have e0 : HT.sIx x.length 0 lo = 0 := by omega
      rw [e0] at h' ⊢
      rw [h', List.drop_zero, hn, List.take_length]
  · apply cs_inj
    have h := StrLaws.picks x.cps.toList (HT.sIx x.length x.length hi - HT.sIx x.length 0 lo) (HT.sIx x.length 0 lo) (by omega)
    show (List.filterMap (fun k => x.cps[k]?) _).toArray.toList = cut x.cps.toList lo hi
    unfold cut
    rw [← hn]
    simpa using h

section
variable {X : Cx}
theorem part_of {v : Value} {o : Option Int} (p : IsPart v o) : ∃ l : Option (Int × Tok), v = partValue l ∧ l.map (·.1) = o := by
  cases p with
  | none => exact ⟨none, rfl, rfl⟩
  | int i t => exact ⟨some (i, t), rfl, rfl⟩
/-- text[lo:hi] -/
def rSlS : V → Option Int → Option Int → Hp → VK → Prop := fun x lo hi H Q => ∃ z, x = .str z ∧ z.length ≤ sizeLine ∧ Q (.str (tx (cut (cs z) lo hi))) H
theorem sl_str : SlR X rSlS := by
  intro pins s σ H x v vl vu lo hi sl Q I rx hs pl pu h
  obtain ⟨z, rfl, hz, q⟩ := h
  obtain ⟨t, rfl⟩ := rx
  obtain ⟨l, rfl, el⟩ := part_of pl
  obtain ⟨u, rfl, eu⟩ := part_of pu
  refine ⟨"str", _, slot_str_getitem.lookup, typeIs_str s z t, ?_⟩
  refine wpAny_getItem_str_slice (l := l) (u := u) (st := none) hs rfl ?_
  have e : Txt.slice z lo hi = tx (cut (cs z) lo hi) := slice_cut z lo hi
  have hl : (tx (cut (cs z) lo hi)).length ≤ sizeLine := by rw [len_tx]; have := cut_len (cs z) lo hi; rw [← len_cs] at this; omega
  unfold sliceMade slicePicked
  rw [el, eu]
  unfold Txt.slice at e
  by_cases hc : ((1 : Int) == 1 && (Builtin.Str.strSliceIndices lo hi 1 z.length).length == z.length) = true
  · rw [if_pos hc] at e
    have hc' : (((none : Option (Int × Tok)).map (·.1)).getD 1 == 1 && (Builtin.Str.strSliceIndices lo hi (((none : Option (Int × Tok)).map (·.1)).getD 1) z.length).length == z.length) = true := hc
    rw [if_pos hc']
    exact ⟨.str (tx (cut (cs z) lo hi)), H, I, ⟨t, by rw [← e]⟩, q⟩
  · rw [if_neg hc] at e
    have hc' : ¬ (((none : Option (Int × Tok)).map (·.1)).getD 1 == 1 && (Builtin.Str.strSliceIndices lo hi (((none : Option (Int × Tok)).map (·.1)).getD 1) z.length).length == z.length) = true := hc
    rw [if_neg hc']
    show (Str.mk ((Builtin.Str.strSliceIndices lo hi 1 z.length).filterMap (z.cps[·]?)).toArray).length ≤ sizeLine ∧ _
    rw [e]
    refine ⟨hl, ?_⟩
    exact ⟨.str (tx (cut (cs z) lo hi)), H, I.tok _, ⟨_, by
      show Value.str (Str.mk ((Builtin.Str.strSliceIndices lo hi 1 z.length).filterMap (z.cps[·]?)).toArray) _ = _
      rw [e]⟩, q⟩

/-! ### text * n -/
theorem fold_rep (l : List Nat) : ∀ (k : Nat) (acc : Array Nat), ((List.replicate k l.toArray).foldl (· ++ ·) acc).toList = acc.toList ++ (List.replicate k l).flatten
  | 0, acc => by simp
  | k + 1, acc => by
    rw [List.replicate_succ, List.foldl_cons, fold_rep l k, List.replicate_succ, List.flatten_cons]
    simp
theorem op_mul_str : OpR X (binaryOp .Mult) (fun x y H Q => ∃ z n, x = .str z ∧ y = .int n ∧ 0 ≤ n ∧ n ≤ 1000 ∧ z.length ≤ 1000 ∧ Q (.str (tx (List.replicate n.toNat (cs z)).flatten)) H) := by
  intro pins s σ H x y v u Q I rx ry h
  obtain ⟨z, n, rfl, rfl, h0, h1, hz, q⟩ := h
  obtain ⟨t, rfl⟩ := rx
  obtain ⟨t', rfl⟩ := ry
  have hs : sizeLine = 16777216 := sizeLine_eq
  have hmul : z.length * n.toNat ≤ 1000 * 1000 := Nat.mul_le_mul hz (by omega)
  have fl : ((List.replicate n.toNat (cs z)).flatten).length = n.toNat * z.length := by rw [L2.len_rep, ← len_cs]
  refine PySem.P.mul_str ?_ (fun _ _ => ?_) (fun _ _ => ?_) ?_
  · rw [decide_eq_false (by omega), decide_eq_false (by omega)]; rfl
  · have : (1000 : Int) ≤ (2 ^ 63 - 1) / n := by
      apply Int.le_ediv_of_mul_le (by omega)
      omega
    omega
  · unfold Builtin.Str.tooLong
    exact decide_eq_false (by omega)
  · by_cases c1 : n < 1
    · rw [if_pos c1]
      have e : n.toNat = 0 := by omega
      rw [e] at q
      exact ⟨by decide, .str (tx []), H, I.tok _, ⟨_, rfl⟩, q⟩
    · rw [if_neg c1]
      by_cases c2 : (n == 1 || z.length == 0) = true
      · rw [if_pos c2]
        have e : tx (List.replicate n.toNat (cs z)).flatten = z := by
          rw [Bool.or_eq_true] at c2
          rcases c2 with c | c
          · have : n.toNat = 1 := by have := eq_of_beq c; omega
            rw [this]
            simp only [List.replicate_one, List.flatten_singleton]
          · have c0 : z.length = 0 := eq_of_beq c
            have : cs z = [] := List.eq_nil_of_length_eq_zero (by rw [← len_cs]; exact c0)
            apply cs_inj
            rw [this]
            show (List.replicate n.toNat ([] : List Nat)).flatten = []
            simp only [List.flatten_replicate_nil]
        rw [e] at q
        exact ⟨.str z, H, I, ⟨_, rfl⟩, q⟩
      · rw [if_neg c2]
        have e : (⟨(List.replicate n.toNat z.cps).foldl (· ++ ·) #[]⟩ : Str) = tx (List.replicate n.toNat (cs z)).flatten := by
          apply cs_inj
          have := fold_rep (cs z) n.toNat #[]
          have e2 : (cs z).toArray = z.cps := by cases z; rfl
          rw [e2] at this
          show (List.foldl (· ++ ·) #[] (List.replicate n.toNat z.cps)).toList = (List.replicate n.toNat (cs z)).flatten
          rw [this]
          rfl
        rw [e]
        refine ⟨by rw [len_tx, fl, Nat.mul_comm]; omega, .str _, H, I.tok _, ⟨_, rfl⟩, q⟩

/-! ### comparisons of texts -/
theorem op_le_str : OpR X (compareOp .LtE) (fun x y H Q => ∃ i j, x = .str i ∧ y = .str j ∧ Q (.bl (!(decide (cs j < cs i)))) H) := by
  intro pins s σ H x y v u Q I rx ry h
  obtain ⟨i, j, rfl, rfl, q⟩ := h
  obtain ⟨t, rfl⟩ := rx
  obtain ⟨t', rfl⟩ := ry
  exact PySem.P.le_str ⟨.bl _, H, I, rfl, q⟩
theorem op_lt_str' : OpR X (compareOp .Lt) (fun x y H Q => ∃ i j, x = .str i ∧ y = .str j ∧ Q (.bl (decide (cs i < cs j))) H) := op_lt_str

/-! ### one sign of a text in another -/
/-! ### count, find -/
theorem mt_count : MtR X "str.count" (fun x xs H Q => ∃ z y, x = .str z ∧ xs = [.str y] ∧ Q (.int (Txt.count z y)) H) := by
  intro pins s σ H x xs v us Q I rx rv h
  obtain ⟨z, y, rfl, rfl, q⟩ := h
  obtain ⟨t, rfl⟩ := rx
  obtain ⟨u, rfl, t', rfl⟩ := vals1 rv
  exact PySem.SC.count ⟨.int _, H, I.tok _, ⟨_, rfl⟩, q⟩
theorem mt_find : MtR X "str.find" (fun x xs H Q => ∃ z y, x = .str z ∧ xs = [.str y] ∧ Q (.int (Txt.find z y)) H) := by
  intro pins s σ H x xs v us Q I rx rv h
  obtain ⟨z, y, rfl, rfl, q⟩ := h
  obtain ⟨t, rfl⟩ := rx
  obtain ⟨u, rfl, t', rfl⟩ := vals1 rv
  exact PySem.SC.find ⟨.int _, H, I.tok _, ⟨_, rfl⟩, q⟩
end
end L3

set_option Elab.async false
set_option linter.all false
set_option maxRecDepth 100000
set_option maxHeartbeats 4000000
namespace L3
open PySem PySem.Spec PyProof.Rows L2

section
variable {X : Cx} {pins : List (Addr × Obj)} {σ : St} {H : Hp} {s : Shared} {fp : List Addr} {h' : Heap} {t' : Nat}
/-- untracked records of ours have turned -/
theorem Inv.turns (I : Inv X pins σ H s) (k : ∀ b o, b ∉ fp → s.heap.get? b = some o → h'.get? b = some o) (hf : ∀ b ∈ fp, FpOk X pins H b) : Inv X pins σ H { s with heap := h', toks := t' } := by
  have nit : ∀ b u, H b = some u → b ∉ fp := fun b u e z => by rw [(hf b z).1] at e; cases e
  refine I.step (g' := s.gens) (d' := s.drawn) (ch := fp) (fun b hb => ?_) (fun b o _ _ hc e _ => k b o hc e) (fun b o _ _ hc e _ => ⟨o.slots, k b o hc e⟩) (fun _ _ _ _ n => n)
    (fun b o hc e => ⟨o, k b o hc e⟩) (fun _ _ e => e) (fun _ _ _ e => e) (fun b ps e => ⟨#[], by rw [e]; simp⟩) (fun m hm => ?_) (fun b u e => ?_) I.bare
  · obtain ⟨_, a1, _, a3, a4, a5⟩ := hf b hb
    exact ⟨a3, a1, a4, a5⟩
  · obtain ⟨o, es, ep, ho, r⟩ := hm
    exact ⟨o, es, ep, k _ o (fun z => (hf _ z).2.1 rfl) ho, r⟩
  · refine (I.hok b u e).stay (fun c v hc q => k c v ?_ q) (fun _ q => q) fun _ _ q => q
    rcases hc with z | z
    · rw [z]; exact nit b u e
    · exact nit c _ z
/-- an object that stands there, untracked till now -/
theorem Inv.track {a : Addr} {o : HO} (I : Inv X pins σ H s) (fa : FpOk X pins H a) (new : ObjOk X.prog X.w (upd H a o) s.heap a o) : Inv X pins σ (upd H a o) s := by
  obtain ⟨a0, a1, a2, a3, a4, a5⟩ := fa
  have e : s = { s with heap := s.heap, gens := s.gens, drawn := s.drawn, toks := s.toks } := rfl
  rw [e]
  refine I.step (g' := s.gens) (d' := s.drawn) (ch := [a]) (fun b hb => ?_) (fun b o _ _ _ e _ => e) (fun b o _ _ _ e _ => ⟨o.slots, e⟩) (fun b o hc _ n => ?_)
    (fun b o _ e => ⟨o, e⟩) (fun b xs e => ?_) (fun b u xs e => ?_) (fun b ps e => ?_) (fun m hm => hm) (fun b u e => ?_) I.bare
  · have eb : b = a := by simpa using hb
    subst eb
    exact ⟨a3, a1, a4, a5⟩
  · rw [upd_ne (by simpa using hc)]; exact n
  · rw [upd_ne (ne_of_none e a0)]; exact e
  · rw [upd_ne (ne_of_none e a0)]; exact e
  · exact ⟨#[], by rw [upd_ne (ne_of_none e a0), e]; simp⟩
  · by_cases hb : b = a
    · subst hb; rw [upd_same] at e; cases e; exact new
    · rw [upd_ne hb] at e
      exact (I.hok b u e).stay (fun c v _ q => q) (fun c q => by rw [upd_ne (ne_of_none q a0)]; exact q) fun c xs q => by rw [upd_ne (ne_of_none q a0)]; exact q
end

/-! ### for c in text -/
def Its (x : Str) : It := ⟨fun i _ => i < (cs x).length, fun i H v H' => H' = H ∧ ∃ c, (cs x)[i]? = some c ∧ v = .str (tx [c]), fun i _ => i = (cs x).length⟩
theorem turn_str {P : Program} {w : World} {K : PySem.W.Frag} {tg : Expr} {ty : String} (hty : ["enumerate", "zip", "dict_itemiterator", "dict_reverseitemiterator", "odict_iterator", "itertools.zip_longest", "itertools.pairwise"].contains ty = false) (it : Addr) (x : Str) (t : Tok)
    (W : ∀ A : Around, A.handled = none → Walks P w A it [it] [it] x.cps.size (SignAt x) fun i h => h.IsStrIter it ty x t i)
    (S : ∀ (A : Around) (i : Nat) (s : Shared) (Q : Value → Shared → Prop) (E : Value → Shared → Prop), s.heap.IsStrIter it ty x t i → Q (.ref it) s → wpAny (model P w) A (pyIter (.ref it)) Q E s) :
    Turn P w K tg (Its x) [it] it (fun i h => h.IsStrIter it ty x t i) where
  mem := by simp
  obj := fun i h st b hb => by
    have e : b = it := by simpa using hb
    subst e
    obtain ⟨o, e, c, d⟩ := st
    exact ⟨o, e, fun v z => by rw [d] at z; cases z⟩
  keep := fun i h h' st k => let ⟨o, e, r⟩ := st; ⟨o, k it (by simp) o e, r⟩
  item := by
    intro X hP hw hK hc i pins s σ H E I hf st hg
    subst hP hw hK
    obtain ⟨f0, f1, f2, f3, f4, f5⟩ := hf it (by simp)
    have hg' : i < x.cps.size := by have : i < x.cps.toList.length := hg; simpa using this
    refine (W X.A (I.ok.hd hc)).item i s _ _ hg' st fun v h' tk hv st' kk => ?_
    obtain ⟨c, u, hcc, rfl⟩ := hv
    have I1 : Inv X pins σ H { s with heap := h', toks := tk } := I.turned (fun b o hb e => kk b o (by simpa using hb) e) f0 f1 f3 f4 f5
    obtain ⟨o, e, cl, d⟩ := id st'
    refine ⟨_, rfl, go_of (s := { s with heap := h', toks := tk }) e cl d hty ⟨.str (tx [c]), H, I1, ⟨u, rfl⟩, ⟨rfl, c, ?_, rfl⟩, st', fun b hb => (hf b hb).1⟩⟩
    show x.cps.toList[i]? = some c
    simpa using hcc
  done := by
    intro X hP hw hK hc i pins s σ H E I hf st hg
    subst hP hw hK
    obtain ⟨f0, f1, f2, f3, f4, f5⟩ := hf it (by simp)
    have hi : i = x.cps.size := by have : i = x.cps.toList.length := hg; simpa using this
    rw [hi] at st
    exact (W X.A (I.ok.hd hc)).done s _ _ st fun h' tk kk => ⟨rfl, I.turned (fun b o hb e => kk b o (by simpa using hb) e) f0 f1 f3 f4 f5⟩
  self := fun A i s Q E st h => S A i s Q E st h

section
variable {X : Cx} {tg : Expr}
def iStr (tl : TE) : TI := fun σ H R => tl σ H fun v H1 => ∃ x, v = .str x ∧ R (Its x) H1
theorem pi_str {l : Expr} {tl : TE} (hl : PE X l tl) : PI X tg l (iStr tl) := by
  intro pins s σ H R I h
  refine thn (hl pins s σ H _ I h) fun v s1 ⟨y, H1, I1, r1, q1⟩ => ?_
  obtain ⟨x, e, q⟩ := q1
  subst e
  obtain ⟨t, rfl⟩ := r1
  have fin : ∀ (ty : String) (hty : ["enumerate", "zip", "dict_itemiterator", "dict_reverseitemiterator", "odict_iterator", "itertools.zip_longest", "itertools.pairwise"].contains ty = false)
      (W : ∀ A : Around, A.handled = none → Walks X.prog X.w A s1.heap.objs.size [s1.heap.objs.size] [s1.heap.objs.size] x.cps.size (SignAt x) fun i h => h.IsStrIter s1.heap.objs.size ty x t i)
      (S : ∀ (A : Around) (i : Nat) (s : Shared) (Q : Value → Shared → Prop) (E : Value → Shared → Prop), s.heap.IsStrIter s1.heap.objs.size ty x t i → Q (.ref s1.heap.objs.size) s → wpAny (model X.prog X.w) A (pyIter (.ref s1.heap.objs.size)) Q E s),
      PIE X pins σ tg R (.ref s1.heap.objs.size) { s1 with heap := s1.heap.push { cls := .type ty, data := .fields #[.str x t, .int 0 0] } } := fun ty hty W S => by
    refine ⟨s1.heap.objs.size, [s1.heap.objs.size], _, _, H1, rfl, I1.kept (t' := s1.toks) fun b o e => Heap.get?_push_of_some _ e, turn_str hty _ x t W S, ⟨_, Heap.get?_push_size _ rfl, rfl, rfl⟩, fun b hb => ?_, q⟩
    have e : b = s1.heap.objs.size := by simpa using hb
    subst e
    exact I1.fpOk (Nat.le_refl _) (I1.hok.fresh (Nat.le_refl _))
  cases ha : x.cps.all (· < 128)
  · exact wpAny_pyIter_wide ha (fin "str_iterator" (by decide) (fun A hA => Walks.strWide hA _ x t) fun A i s Q E st h => wpAny_pyIter_striter_wide st h)
  · exact wpAny_pyIter_ascii ha (fin "str_ascii_iterator" (by decide) (fun A hA => Walks.strAscii hA _ x t) fun A i s Q E st h => wpAny_pyIter_striter_ascii st h)
end
theorem for_str {x : Str} {g : TG} {tb : TS} {D : Ends} {σ : St} {H : Hp} (Pv : Nat → St → Hp → Prop) (h0 : Pv 0 σ H)
    (hs : ∀ i c σ H, (cs x)[i]? = some c → Pv i σ H → g (.str (tx [c])) σ H fun σ2 H2 => tb { D with nx := Pv (i + 1), ct := Pv (i + 1), bk := D.nx } σ2 H2) (hd : ∀ σ H, Pv (cs x).length σ H → D.nx σ H) :
    ∃ W : Nat → Nat → St → Hp → Prop, (∃ m, W 0 m σ H) ∧ ∀ i m σ H, W i m σ H →
      ((Its x).stop i H ∧ D.nx σ H) ∨ ((Its x).go i H ∧ ∃ N : St → Hp → Prop, (∀ σ' H', N σ' H' → ∃ m', m' < m ∧ W (i + 1) m' σ' H') ∧ ∀ v H', (Its x).yld i H v H' → g v σ H' fun σ2 H2 => tb { D with nx := N, ct := N, bk := D.nx } σ2 H2) := by
  refine ⟨fun i m σ H => m = (cs x).length - i ∧ i ≤ (cs x).length ∧ Pv i σ H, ⟨(cs x).length, by simp, Nat.zero_le _, h0⟩, ?_⟩
  rintro i m σ H ⟨rfl, hi, p⟩
  by_cases hlt : i < (cs x).length
  · refine .inr ⟨hlt, Pv (i + 1), fun σ' H' p' => ⟨(cs x).length - (i + 1), by omega, rfl, hlt, p'⟩, fun v H' y => ?_⟩
    obtain ⟨e, c, hc, ev⟩ := y
    subst e ev
    exact hs i c σ _ hc p
  · have e : i = (cs x).length := by omega
    subst e
    exact .inl ⟨rfl, hd σ H p⟩

/-! ### for i, c in enumerate(text) -/
def Ite (x : Str) : It := ⟨fun i _ => i < (cs x).length, fun i H v H' => ∃ p c, H p = none ∧ (cs x)[i]? = some c ∧ v = .ref p ∧ H' = upd H p (.tup [.int (i : Nat), .str (tx [c])]), fun i _ => i = (cs x).length⟩
section
variable {X : Cx}
def iEnum (ta : TA) : TI := fun σ H R => ta σ H fun vs H1 => ∃ x, vs = [.str x] ∧ R (Ite x) H1
end
end L3

set_option Elab.async false
set_option linter.all false
set_option maxRecDepth 100000
set_option maxHeartbeats 4000000
namespace L3
open PySem PySem.Spec PyProof.Rows L2

/-! ### a comprehension -/
theorem closure_is {env : Env} : ∀ (names : List (Str × NameKind)) (acc : List (Str × Addr)),
    (∀ y, (y, NameKind.free) ∈ names → ∃ c, env.cells.lookup y = some c) → (∀ y c, acc.lookup y = some c → env.cells.lookup y = some c) →
    ∃ cl, (forIn names acc fun (x : Str × NameKind) (cs : List (Str × Addr)) => if (x.2 == NameKind.free) = true then (do let a ← cellOf env x.1; pure (ForInStep.yield ((x.1, a) :: cs))) else pure (ForInStep.yield cs) : Sem (List (Str × Addr))) = pure cl ∧
      (∀ y c, cl.lookup y = some c → env.cells.lookup y = some c) ∧ (∀ y, (y, NameKind.free) ∈ names ∨ (acc.lookup y).isSome = true → ∃ c, cl.lookup y = some c)
  | [], acc, _, ha => ⟨acc, rfl, ha, fun y h => by
      rcases h with h | h
      · cases h
      · exact Option.isSome_iff_exists.mp h⟩
  | (n, k) :: r, acc, hn, ha => by
    by_cases hk : k = NameKind.free
    · subst hk
      obtain ⟨c, hc⟩ := hn n (by simp)
      have ha' : ∀ y d, ((n, c) :: acc).lookup y = some d → env.cells.lookup y = some d := fun y d e => by
        rw [List.lookup_cons] at e
        by_cases hy : (y == n) = true
        · rw [hy] at e
          have : y = n := eq_of_beq hy
          subst this
          cases e
          exact hc
        · have hy' : (y == n) = false := by simpa using hy
          rw [hy'] at e
          exact ha y d e
      obtain ⟨cl, e, h1, h2⟩ := closure_is r ((n, c) :: acc) (fun y hy => hn y (List.mem_cons_of_mem _ hy)) ha'
      refine ⟨cl, ?_, h1, fun y hy => h2 y ?_⟩
      · rw [List.forIn_cons]
        have ec : cellOf env n = pure c := by unfold cellOf; rw [hc]
        simp only [beq_self_eq_true, if_true, ec, pure_bind]
        exact e
      · rcases hy with hy | hy
        · rcases List.mem_cons.mp hy with q | q
          · cases q
            exact .inr (by simp)
          · exact .inl q
        · refine .inr ?_
          rw [List.lookup_cons]
          by_cases hyn : (y == n) = true
          · rw [hyn]; rfl
          · have hy' : (y == n) = false := by simpa using hyn
            rw [hy']; exact hy
    · obtain ⟨cl, e, h1, h2⟩ := closure_is r acc (fun y hy => hn y (List.mem_cons_of_mem _ hy)) ha
      refine ⟨cl, ?_, h1, fun y hy => h2 y ?_⟩
      · rw [List.forIn_cons]
        have ek : (k == NameKind.free) = false := by simpa using hk
        simp only [ek, Bool.false_eq_true, if_false, pure_bind]
        exact e
      · rcases hy with hy | hy
        · rcases List.mem_cons.mp hy with q | q
          · cases q; exact absurd rfl hk
          · exact .inl q
        · exact .inr hy
theorem closureFor_is {scope : Scope} {env : Env} (hn : ∀ y, (y, NameKind.free) ∈ scope.names → ∃ c, env.cells.lookup y = some c) :
    ∃ cl, closureFor scope env = pure cl ∧ (∀ y c, cl.lookup y = some c → env.cells.lookup y = some c) ∧ (∀ y, (y, NameKind.free) ∈ scope.names → ∃ c, cl.lookup y = some c) := by
  obtain ⟨cl, e, h1, h2⟩ := closure_is scope.names [] hn (fun y c h => by cases h)
  refine ⟨cl, ?_, h1, fun y hy => h2 y (.inl hy)⟩
  unfold closureFor
  simp only [bind_pure]
  exact e

/-- the tests of a comprehension, in a row -/
abbrev testsOf (ifs : List Expr) (env : Env) : Sem Bool :=
  forIn ifs true fun c r => if r = true then (do let ok ← isTrue c env (eval c env); pure (ForInStep.yield ok)) else pure (ForInStep.yield r)

theorem comp_loop {prog : Program} {w : World} {A : Around} {R : Result → Shared → Prop} {s : Shared} {elt tg iter : Expr} {ifs : List Expr} {scope : Scope} {pos : Pos} {it acc : Value} {env : Env}
    (I : Nat → Shared → Prop) {EE : Value → Shared → Prop} (hEE : EE = notedBy (model prog w) A env fun e s' => R (.error e) s')
    (turn : ∀ n s, I n s → wpAny (model prog w) A (pyNext it) (fun r s1 => match r with
      | none => R (.ok .next) s1
      | some v => wpAny (model prog w) A (letOwnedTupleGo tg it v) (fun _ s2 => wpAny (model prog w) A (assign tg env v) (fun _ s3 =>
          wpAny (model prog w) A (testsOf ifs env) (fun ok s4 => if ok = true then
            wpAny (model prog w) A (eval elt env) (fun x s5 => wpAny (model prog w) A (call (.builtin "list.append") [acc, x]) (fun _ s6 => ∃ m, m < n ∧ I m s6) EE s5) EE s4
            else ∃ m, m < n ∧ I m s4) EE s3) EE s2) EE s1) EE s) (n : Nat) (h : I n s) :
    codeAny (model prog w) A (.compLoop (.ListComp elt [⟨tg, iter, ifs, 0⟩] scope pos) 0 it acc env) R s := by
  subst hEE
  refine codeAny_loop rfl I (fun n s hI => ?_) n h
  show wpAny _ A ((compTurn (.ListComp elt [⟨tg, iter, ifs, 0⟩] scope pos) 0 it acc env).onRaise (fun x => do noteFrame x env; theTreesLotGoes x)) _ _ s
  refine wpAny_noted ?_
  rw [compTurn_list]
  refine wpAny_bind (wpAny_standAt (wpAny_bind (thn (turn n s hI) fun r s1 h1 => ?_)))
  cases r with
  | none => exact wpAny_pure h1
  | some v =>
    refine wpAny_bind (thn h1 fun _ s2 h2 => wpAny_bind (thn h2 fun _ s3 h3 => wpAny_bind (thn h3 fun ok s4 h4 => ?_)))
    cases ok with
    | false => exact wpAny_pure ⟨rfl, h4⟩
    | true => exact wpAny_bind (wpAny_bind (thn h4 fun x s5 h5 => wpAny_bind (thn h5 fun _ s6 h6 => wpAny_pure (wpAny_pure ⟨rfl, h6⟩))))

/-- the context of a comprehension's block -/
def compCx (X : Cx) (scope : Scope) (cl : List (Str × Addr)) (C : Addr) (N : List Str) (pins : List (Addr × Obj)) (s3 : Shared) (H3 : Hp) (fp : List Addr) (E : Value → Shared → Prop) : Cx :=
  { X with N := N, s₀ := s3, H₀ := H3, env := compEnvC scope cl C X.env, outer := X.stack, ex := fp, fn := fun _ => false, pn := X.pn ++ pins, xe := E }

/-- what the block sees: the names N (its own first ones, then those that it takes from the def), where those stand in the def -/
def seen (σ : St) (own : Nat) (ix : List Nat) : St := List.replicate own none ++ ix.map fun i => (σ[i]?).join

structure CompOk (X : Cx) (scope : Scope) (own caps : List Str) (ix : List Nat) : Prop where
  kind : scope.kind = .function
  nocell : ∀ y ∈ scope.names, y.2 ≠ .cell
  names : ∀ y ∈ scope.names, y.2 = .local → scope.names.lookup y.1 = some .local
  free : ∀ y, (y, NameKind.free) ∈ scope.names → X.env.kindOf y = some .cell
  hown : ∀ y ∈ own, scope.names.lookup y = some .local
  hcaps : ∀ y ∈ caps, scope.names.lookup y = some .free
  hix : ix.map (fun i => X.N[i]?) = caps.map some

theorem lookup_mem {α β : Type} [BEq α] [LawfulBEq α] {l : List (α × β)} {a : α} {b : β} (h : l.lookup a = some b) : (a, b) ∈ l := by
  induction l with
  | nil => cases h
  | cons p r ih =>
    obtain ⟨c, d⟩ := p
    rw [List.lookup_cons] at h
    by_cases e : (a == c) = true
    · rw [e] at h
      cases h
      rw [eq_of_beq e]
      exact List.mem_cons_self
    · have e' : (a == c) = false := by simpa using e
      rw [e'] at h
      exact List.mem_cons_of_mem _ (ih h)
theorem lookup_relabel {scope : Scope} {env : Env} (hf : env.scope.kind = .function) : ∀ {names : List (Str × NameKind)} {x : Str} {k : NameKind}, names.lookup x = some k →
    (names.map fun (n, k) => if (k == NameKind.free && env.scope.kind == .function && env.kindOf n == some .cell) then (n, NameKind.cell) else (n, k)).lookup x = some (if (k == NameKind.free && env.scope.kind == .function && env.kindOf x == some .cell) = true then .cell else k)
  | [], _, _, h => by simp at h
  | (n, k') :: r, x, k, h => by
    have ih := @lookup_relabel scope env hf r x k
    show List.lookup x ((if (k' == NameKind.free && env.scope.kind == .function && env.kindOf n == some .cell) = true then (n, NameKind.cell) else (n, k')) :: _) = _
    by_cases hx : (x == n) = true
    · have hxn : x = n := eq_of_beq hx
      subst hxn
      rw [List.lookup_cons, hx] at h
      cases h
      by_cases c : (k' == NameKind.free && env.scope.kind == .function && env.kindOf x == some .cell) = true
      · rw [if_pos c, if_pos c, List.lookup_cons, hx]
      · rw [if_neg c, if_neg c, List.lookup_cons, hx]
    · have hx' : (x == n) = false := by simpa using hx
      rw [List.lookup_cons, hx'] at h
      by_cases c : (k' == NameKind.free && env.scope.kind == .function && env.kindOf n == some .cell) = true
      · rw [if_pos c, List.lookup_cons, hx']; exact ih h
      · rw [if_neg c, List.lookup_cons, hx']; exact ih h
theorem relabel_none {scope : Scope} {env : Env} : ∀ {names : List (Str × NameKind)} {x : Str}, names.lookup x = none →
    (names.map fun (n, k) => if (k == NameKind.free && env.scope.kind == .function && env.kindOf n == some .cell) then (n, NameKind.cell) else (n, k)).lookup x = none
  | [], _, _ => rfl
  | (n, k') :: r, x, h => by
    have ih := @relabel_none scope env r x
    show List.lookup x ((if (k' == NameKind.free && env.scope.kind == .function && env.kindOf n == some .cell) = true then (n, NameKind.cell) else (n, k')) :: _) = _
    by_cases hx : (x == n) = true
    · rw [List.lookup_cons, hx] at h; cases h
    · have hx' : (x == n) = false := by simpa using hx
      rw [List.lookup_cons, hx'] at h
      by_cases c : (k' == NameKind.free && env.scope.kind == .function && env.kindOf n == some .cell) = true
      · rw [if_pos c, List.lookup_cons, hx']; exact ih h
      · rw [if_neg c, List.lookup_cons, hx']; exact ih h

section
variable {X : Cx} {scope : Scope} {own caps : List Str} {ix : List Nat} {cl : List (Str × Addr)} {pins : List (Addr × Obj)} {σ : St} {H : Hp} {s : Shared} {fp : List Addr} {E : Value → Shared → Prop}

/-- the block's state at its start -/
theorem comp_start (S : CompOk X scope own caps ix) (hcl1 : ∀ y c, cl.lookup y = some c → X.env.cells.lookup y = some c) (hcl2 : ∀ y, (y, NameKind.free) ∈ scope.names → ∃ c, cl.lookup y = some c)
    (I : Inv X pins σ H s) (hfp : ∀ b ∈ fp, FpOk X pins H b) (hlt : ∀ b ∈ fp, b < s.heap.objs.size) {h4 : Heap} {t4 : Nat} (hn : h4.Ns s.heap.objs.size fun _ => none) (hk : ∀ b o, s.heap.get? b = some o → h4.get? b = some o) :
    Inv (compCx X scope cl s.heap.objs.size (own ++ caps) pins s H fp E) [] (seen σ own.length ix) H { s with heap := h4, toks := t4 } := by
  have kf : X.env.scope.kind = .function := I.ok.kind
  have nofp : ∀ b ∈ fp, b ≠ s.heap.objs.size := fun b hb => Nat.ne_of_lt (hlt b hb)
  have cellLt : ∀ x c, X.env.cells.lookup x = some c → c < s.heap.objs.size := fun x c e => by
    obtain ⟨v, o, ho, _⟩ := I.cell x c e
    exact Heap.lt_size ho
  have kinds : ∀ y k, scope.names.lookup y = some k → (relabel scope X.env).names.lookup y = some (if (k == NameKind.free && X.env.scope.kind == .function && X.env.kindOf y == some .cell) = true then .cell else k) := fun y k e => lookup_relabel (scope := scope) kf e
  have back : ∀ y k, (relabel scope X.env).names.lookup y = some k → ∃ k', scope.names.lookup y = some k' ∧ k = (if (k' == NameKind.free && X.env.scope.kind == .function && X.env.kindOf y == some .cell) = true then .cell else k') := fun y k e => by
    cases q : scope.names.lookup y with
    | none =>
      have := relabel_none (scope := scope) (env := X.env) q
      have e' : (scope.names.map fun (n, k) => if (k == NameKind.free && X.env.scope.kind == .function && X.env.kindOf n == some .cell) then (n, NameKind.cell) else (n, k)).lookup y = some k := e
      rw [this] at e'; cases e'
    | some k' =>
      refine ⟨k', rfl, ?_⟩
      have := kinds y k' q
      rw [e] at this
      exact Option.some.inj this
  have isCell : ∀ y, scope.names.lookup y = some .free → (relabel scope X.env).names.lookup y = some .cell := fun y e => by
    have := kinds y _ e
    rw [this, if_pos]
    rw [S.free y (lookup_mem e), kf]
    rfl
  refine ⟨⟨I.ok.mod, ?_, I.ok.glob, I.ok.blt, Nat.le_refl _, ?_, ?_, ?_, I.ok.hd, I.ok.frames, .inl rfl, ?_, I.bs, Nat.le_trans I.ok.bsz I.sz, ?_, ?_, I.stack, I.stkFree⟩, rfl, I.bare, Un.kept hk, ⟨_, hn, ?_⟩, ?_, ?_, ?_, ?_, I.hok.kept hk, ?_⟩
  · show (relabel scope X.env).kind = .function
    exact S.kind
  · intro x y c h1 h2
    exact I.ok.inj x y c (hcl1 x c h1) (hcl1 y c h2)
  · intro y hy
    have hy' : (relabel scope X.env).names.lookup y = some .cell ∨ (relabel scope X.env).names.lookup y = some .free := hy
    have : scope.names.lookup y = some .free := by
      rcases hy' with q | q
      · obtain ⟨k', e, ek⟩ := back y _ q
        by_cases c : (k' == NameKind.free && X.env.scope.kind == .function && X.env.kindOf y == some .cell) = true
        · rw [Bool.and_eq_true, Bool.and_eq_true] at c
          rw [e, eq_of_beq c.1.1]
        · rw [if_neg c] at ek
          exact absurd ek.symm (S.nocell _ (lookup_mem e))
      · obtain ⟨k', e, ek⟩ := back y _ q
        by_cases c : (k' == NameKind.free && X.env.scope.kind == .function && X.env.kindOf y == some .cell) = true
        · rw [if_pos c] at ek; cases ek
        · rw [if_neg c] at ek
          rw [e, ← ek]
    exact hcl2 y (lookup_mem this)
  · intro x c h _
    exact absurd h (by simp [compCx])
  · intro b hb
    refine ⟨nofp b hb, fun x c e => ?_⟩
    exact (hfp b hb).2.2.2.2.1 x c (hcl1 x c e)
  · intro b o e hb
    obtain ⟨_, _, _, q, _⟩ := hfp b hb
    rcases q with q | q
    · exact I.ok.noex b o e q
    · exact absurd (Nat.lt_of_lt_of_le (Heap.lt_size e) (Nat.le_trans I.ok.bsz q)) (Nat.lt_irrefl _)
  · intro b hb z
    rcases List.mem_cons.mp (I.stkSub b z) with e | e
    · exact (hfp b hb).2.1 e
    · exact (hfp b hb).2.2.1 e
  · intro i y v h1 h2 h3
    -- a name with a value is one of the taken ones
    have hi : own.length ≤ i := by
      refine Nat.le_of_not_lt fun hlt' => ?_
      unfold seen at h2
      rw [List.getElem?_append_left (by rw [List.length_replicate]; exact hlt'), List.getElem?_replicate, if_pos hlt'] at h2
      cases h2
    have h1' : caps[i - own.length]? = some y := by
      have : (own ++ caps)[i]? = some y := h1
      rw [List.getElem?_append_right hi] at this
      exact this
    have h2' : (ix.map fun i => (σ[i]?).join)[i - own.length]? = some (some v) := by
      unfold seen at h2
      rw [List.getElem?_append_right (by rw [List.length_replicate]; exact hi), List.length_replicate] at h2
      exact h2
    rw [List.getElem?_map] at h2'
    have hx := congrArg (fun l => l[i - own.length]?) S.hix
    simp only [List.getElem?_map, h1', Option.map_some] at hx
    cases q : ix[i - own.length]? with
    | none => rw [q] at h2'; cases h2'
    | some j =>
      rw [q] at h2' hx
      have hj : X.N[j]? = some y := Option.some.inj hx
      have hv : (σ[j]?).join = some v := Option.some.inj h2'
      have hσ : σ[j]? = some (some v) := by
        cases r : σ[j]? with
        | none => rw [r] at hv; cases hv
        | some z => rw [r] at hv; cases z with
          | none => cases hv
          | some z => cases hv; rfl
      have hfree : scope.names.lookup y = some .free := S.hcaps y (List.mem_of_getElem? h1')
      have hkc := S.free y (lookup_mem hfree)
      obtain ⟨m, hm, hl⟩ := I.loc
      obtain ⟨u, ru, l⟩ := hl j y v hj hσ (.inr (.inl hkc))
      refine ⟨u, ru, .inr ⟨.inl (isCell y hfree), ?_⟩⟩
      rcases l with ⟨k, _⟩ | ⟨_, c, e, z⟩
      · have : X.env.kindOf y = some .local := k
        rw [hkc] at this; cases this
      · obtain ⟨c', e'⟩ := hcl2 y (lookup_mem hfree)
        have := hcl1 y c' e'
        rw [e] at this
        cases this
        obtain ⟨o, ho, hd⟩ := z
        exact ⟨c, e', o, hk c o ho, hd⟩
  · intro x c e
    obtain ⟨v, o, ho, hd⟩ := I.cell x c (hcl1 x c e)
    exact ⟨v, o, hk c o ho, hd⟩
  · exact I.hok.fresh (Nat.le_refl _)
  · intro x c e
    exact I.freeC x c (hcl1 x c e)
  · intro p hp
    have hp' : p ∈ X.pn ++ pins := by
      have : p ∈ (X.pn ++ pins) ++ [] := hp
      rwa [List.append_nil] at this
    obtain ⟨e, n, ne, nf, d⟩ := I.pin p hp'
    refine ⟨hk _ _ e, n, ?_, fun z => ?_, d⟩
    · exact Nat.ne_of_lt (Heap.lt_size e)
    · rcases List.mem_cons.mp (I.stkSub p.1 z) with q | q
      · exact ne q
      · exact nf q
  · show (seen σ own.length ix).length = (own ++ caps).length
    have := congrArg List.length S.hix
    rw [List.length_map, List.length_map] at this
    unfold seen
    rw [List.length_append, List.length_replicate, List.length_map, List.length_append, this]
end
end L3

set_option Elab.async false
set_option linter.all false
set_option maxRecDepth 100000
set_option maxHeartbeats 4000000
namespace L3
open PySem PySem.Spec PyProof.Rows L2

/-- what was known of the names is known still -/
def KeepsSt (σ σ' : St) : Prop := σ.length = σ'.length ∧ ∀ (i : Nat) v, σ[i]? = some (some v) → σ'[i]? = some (some v)

def PTs (X : Cx) (ifs : List Expr) (t : TT) : Prop :=
  ∀ (pins : List (Addr × Obj)) (s : Shared) (σ : St) (H : Hp) (Q : Bool → Hp → Prop), Inv X pins σ H s → t σ H Q → wpAny (model X.prog X.w) X.A (testsOf ifs X.env) (TP X pins σ Q) X.xe s
def tYes : TT := fun _ H Q => Q true H
theorem pts_nil {X : Cx} : PTs X [] tYes := fun _ _ _ H _ I h => wpAny_pure ⟨H, I, h⟩
/-- [elt for tg in iter if tests]: W by the turn, a measure, the items so far -/
def tComp (wi : TI) (g : TG) (tt : TT) (te : TE) (own : Nat) (ix : List Nat) : TE := fun σ H Q => wi σ H fun J H1 => ∀ D, H1 D = none → ∃ W : Nat → Nat → List V → Hp → Prop, (∃ m, W 0 m [] (upd H1 D (.lst []))) ∧
  ∀ i m acc H', W i m acc H' → (J.stop i H' ∧ Q (.ref D) H') ∨ (J.go i H' ∧ ∀ x H2, J.yld i H' x H2 → g x (seen σ own ix) H2 fun σ3 H3 => KeepsSt (seen σ own ix) σ3 ∧ tt σ3 H3 fun b H4 => if b = true then
    te σ3 H4 fun v H5 => H5 D = some (.lst acc) ∧ acc.length < sizeLine ∧ ∃ m', m' < m ∧ W (i + 1) m' (acc ++ [v]) (upd H5 D (.lst (acc ++ [v])))
    else ∃ m', m' < m ∧ W (i + 1) m' acc H4)

theorem Un.but {fs ex : List Addr} {H H' : Hp} {h h1 h2 : Heap} {a : Addr} (u : Un fs ex H H' h h1) (sb : Heap.SameBut a h1 h2) (ha : h.get? a = none) : Un fs ex H H' h h2 := by
  have ne : ∀ b o, h.get? b = some o → b ≠ a := fun b o e z => by subst z; rw [ha] at e; cases e
  refine ⟨fun b o e n hb hx => (sb.2 b (ne b o e)).trans (u.keep b o e n hb hx), fun b o e n hb hx => ?_, u.free, fun b o e hx => ?_, u.tups, u.frzs, u.tbls⟩
  · obtain ⟨sl, q⟩ := u.slot b o e n hb hx
    exact ⟨sl, (sb.2 b (ne b o e)).trans q⟩
  · obtain ⟨o', q⟩ := u.there b o e hx
    exact ⟨o', (sb.2 b (ne b o e)).trans q⟩
theorem HOk.but {P : Program} {w : World} {H : Hp} {h1 h2 : Heap} {a : Addr} (ok : HOk P w H h1) (sb : Heap.SameBut a h1 h2) (ha : H a = none) : HOk P w H h2 := fun b ob e => by
  refine (ok b ob e).stay (fun c u hc q => (sb.2 c ?_).trans q) (fun _ q => q) fun _ _ q => q
  rintro rfl
  rcases hc with rfl | hc
  · rw [ha] at e; cases e
  · rw [ha] at hc; cases hc

section
variable {X : Cx} {scope : Scope} {own caps : List Str} {ix : List Nat} {elt tg iter : Expr} {ifs : List Expr} {pos : Pos} {wi : TI} {g : TG} {tt : TT} {te : TE}

/-- the block, from the iterator on; what follows it: K -/
theorem comp_block (hc : X.calm = true) (S : CompOk X scope own caps ix)
    (hg : ∀ cl C pins s3 H3 fp, PG (compCx X scope cl C (own ++ caps) pins s3 H3 fp fun _ _ => False) tg g)
    (ht : ∀ cl C pins s3 H3 fp, PTs (compCx X scope cl C (own ++ caps) pins s3 H3 fp fun _ _ => False) ifs tt)
    (he : ∀ cl C pins s3 H3 fp, PE (compCx X scope cl C (own ++ caps) pins s3 H3 fp fun _ _ => False) elt te)
    {cl : List (Str × Addr)} (hc1 : ∀ y c, cl.lookup y = some c → X.env.cells.lookup y = some c) (hc2 : ∀ y, (y, NameKind.free) ∈ scope.names → ∃ c, cl.lookup y = some c)
    {pins : List (Addr × Obj)} {σ : St} {H2 : Hp} {s2 : Shared} {Q : VK} {it : Addr} {fp : List Addr} {tn : Nat → Heap → Prop} {J : It} (I2 : Inv X pins σ H2 s2) (T : Turn X.prog X.w X.K tg J fp it tn) (st2 : tn 0 s2.heap) (f2 : ∀ b ∈ fp, FpOk X pins H2 b)
    (q : ∀ D, H2 D = none → ∃ W : Nat → Nat → List V → Hp → Prop, (∃ m, W 0 m [] (upd H2 D (.lst []))) ∧
      ∀ i m acc H', W i m acc H' → (J.stop i H' ∧ Q (.ref D) H') ∨ (J.go i H' ∧ ∀ x H2, J.yld i H' x H2 → g x (seen σ own.length ix) H2 fun σ3 H3 => KeepsSt (seen σ own.length ix) σ3 ∧ tt σ3 H3 fun b H4 => if b = true then
        te σ3 H4 fun v H5 => H5 D = some (.lst acc) ∧ acc.length < sizeLine ∧ ∃ m', m' < m ∧ W (i + 1) m' (acc ++ [v]) (upd H5 D (.lst (acc ++ [v])))
        else ∃ m', m' < m ∧ W (i + 1) m' acc H4))
    {RR : Value → Addr → Result → Shared → Prop} {E : Value → Shared → Prop}
    (hRR : ∀ D C m s' H', H2 D = none → s'.heap.Ns C m → FpOk X pins H' C → Inv X pins σ H' s' → Q (.ref D) H' → RR (.ref D) C (.ok .next) s') :
    wpAny (model X.prog X.w) X.A (newList []) (fun acc s3 => wpAny (model X.prog X.w) X.A (newFunctionEnv scope X.env.globals cl [] X.env.qual none .none (some X.env)) (fun cenv s4 =>
      codeAny (model X.prog X.w) X.A (.compStart (.ListComp elt [⟨tg, iter, ifs, 0⟩] scope pos) 0 (.ref it) acc { cenv with scope := relabel scope X.env }) (RR acc cenv.locals) s4) E s3) E s2 := by
  have hD : H2 s2.heap.objs.size = none := I2.hok.fresh (Nat.le_refl _)
  obtain ⟨W, ⟨m0, w0⟩, turn⟩ := q _ hD
  refine wpAny_newObj_type (wpAny_newFunctionEnv S.nocell (by intro y hy; simp at hy) (fun h1 hns1 hsb1 => ?_) S.kind)
  dsimp only at hns1 hsb1 ⊢
  have I3 : Inv X pins σ (upd H2 s2.heap.objs.size (.lst [])) { s2 with heap := s2.heap.push { cls := .type "list", dict := none, data := .seq ([] : List Value).toArray } } :=
    I2.lnew (its := []) (t' := s2.toks) .nil (Nat.zero_le _)
  generalize hs3 : ({ s2 with heap := s2.heap.push { cls := .type "list", dict := none, data := .seq ([] : List Value).toArray } } : Shared) = s3 at I3
  have e3 : s2.heap.push { cls := .type "list", dict := none, data := .seq ([] : List Value).toArray } = s3.heap := by rw [← hs3]
  rw [e3] at hns1 hsb1 ⊢
  have k1 : ∀ b o, s3.heap.get? b = some o → h1.get? b = some o := fun b o e => (hsb1.2 b (Nat.ne_of_lt (Heap.lt_size e))).trans (Heap.get?_push_of_some _ e)
  have k23 : ∀ b o, s2.heap.get? b = some o → s3.heap.get? b = some o := fun b o e => by rw [← e3]; exact Heap.get?_push_of_some _ e
  have hz : s3.heap.objs.size = s2.heap.objs.size + 1 := by rw [← e3, Heap.size_push]
  have fpObj : ∀ b ∈ fp, ∃ o, s2.heap.get? b = some o := fun b hb => let ⟨o, e, _⟩ := T.obj 0 _ st2 b hb; ⟨o, e⟩
  have fplt : ∀ b ∈ fp, b < s2.heap.objs.size := fun b hb => let ⟨o, e⟩ := fpObj b hb; Heap.lt_size e
  have f3 : ∀ b ∈ fp, FpOk X pins (upd H2 s2.heap.objs.size (.lst [])) b := fun b hb => ⟨by rw [upd_ne (Nat.ne_of_lt (fplt b hb))]; exact (f2 b hb).1, (f2 b hb).2⟩
  have I4 : Inv (compCx X scope cl s3.heap.objs.size (own ++ caps) pins s3 (upd H2 s2.heap.objs.size (.lst [])) fp fun _ _ => False) [] (seen σ own.length ix) (upd H2 s2.heap.objs.size (.lst [])) { s3 with heap := h1, toks := s3.toks + ([] : List (Str × Value)).length } :=
    comp_start S hc1 hc2 I3 f3 (fun b hb => by rw [hz]; exact Nat.lt_succ_of_lt (fplt b hb)) hns1 k1
  have st4 : tn 0 h1 := T.keep 0 _ _ st2 fun b hb o e => k1 b o (k23 b o e)
  generalize hs4 : ({ s3 with heap := h1, toks := s3.toks + ([] : List (Str × Value)).length } : Shared) = s4 at I4
  have es4 : ({ s2 with heap := h1, toks := s2.toks + ([] : List (Str × Value)).length } : Shared) = s4 := by rw [← hs4, ← hs3]
  have e4 : h1 = s4.heap := by rw [← hs4]
  have loop : codeAny (model X.prog X.w) X.A (.compLoop (.ListComp elt [⟨tg, iter, ifs, 0⟩] scope pos) 0 (.ref it) (.ref s2.heap.objs.size) (compEnvC scope cl s3.heap.objs.size X.env)) (RR (.ref s2.heap.objs.size) s3.heap.objs.size) s4 := by
    let X' := compCx X scope cl s3.heap.objs.size (own ++ caps) pins s3 (upd H2 s2.heap.objs.size (.lst [])) fp fun _ _ => False
    have fp' : ∀ {H' : Hp}, (∀ b ∈ fp, H' b = none) → ∀ b ∈ fp, FpOk X' [] H' b := fun {H'} hn b hb => by
      obtain ⟨_, a1, a2, a3, a4, a5⟩ := f3 b hb
      refine ⟨hn b hb, Nat.ne_of_lt (show b < s3.heap.objs.size from by rw [hz]; exact Nat.lt_succ_of_lt (fplt b hb)), fun z => ?_, .inl hb, fun x c e => a4 x c (hc1 x c e), fun p hp => ?_⟩
      · rcases List.mem_cons.mp (I3.stkSub b z) with e | e
        · exact a1 e
        · exact a2 e
      · have : p ∈ (X.pn ++ pins) ++ [] := hp
        rw [List.append_nil] at this
        exact a5 p this
    refine comp_loop (fun n s' => ∃ i acc H', Inv X' [] (seen σ own.length ix) H' s' ∧ tn i s'.heap ∧ (∀ b ∈ fp, H' b = none) ∧ W i n acc H') rfl ?_ m0 ⟨0, [], _, I4, by rw [← e4]; exact st4, fun b hb => (f3 b hb).1, w0⟩
    rintro n s5 ⟨i, acc, H5, I5, st5, fr5, w5⟩
    refine wpAny_noRaise ?_
    rcases turn i n acc H5 w5 with ⟨stop, qn⟩ | ⟨go, step⟩
    · refine thn (T.done X' rfl rfl rfl hc i [] s5 _ H5 _ I5 (fp' fr5) st5 stop) fun r s6 ⟨hr, I6⟩ => ?_
      subst hr
      obtain ⟨m, hm, _⟩ := I6.loc
      refine hRR _ _ m s6 H5 hD hm (I3.fpOk (Nat.le_refl _) I6.free) (I3.call' (s' := s6) I6.os I6.base I6.hok I6.bare fun b hb => ?_) qn
      obtain ⟨_, a1, a2, a3, a4, a5⟩ := f3 b hb
      exact ⟨a3, a1, a4, a5⟩
    · refine thn (T.item X' rfl rfl rfl hc i [] s5 _ H5 (fun _ _ => False) I5 (fp' fr5) st5 go) fun r s6 ⟨u, hr, h6⟩ => ?_
      subst hr
      refine wpAny_noRaise (thn h6 fun _ s7 ⟨x, H7, I7, r7, y7, st7, fr7⟩ => ?_)
      have I7' := I7.pinned (fp' fr7) (T.obj _ _ st7)
      refine wpAny_noRaise (thn (hg _ _ _ _ _ _ _ s7 _ H7 x u _ I7' r7 (step x H7 y7)) fun _ s8 ⟨σ8, H8, I8, ks, q8⟩ => ?_)
      refine wpAny_noRaise (thn (ht _ _ _ _ _ _ _ s8 σ8 H8 _ I8 q8) fun b s9 ⟨H9, I9, q9⟩ => ?_)
      have back : ∀ {s' : Shared} {H' : Hp} {acc' : List V} {m' : Nat}, Inv X' ([] ++ pinsAt fp s7.heap) σ8 H' s' → m' < n → W (i + 1) m' acc' H' → ∃ m, m < n ∧ ∃ i acc H', Inv X' [] (seen σ own.length ix) H' s' ∧ tn i s'.heap ∧ (∀ b ∈ fp, H' b = none) ∧ W i m acc H' := fun {s' H' acc' m'} J' hm w' => by
        refine ⟨m', hm, i + 1, acc', H', (J'.unpinned).weak ks.1 ks.2, T.keep _ _ _ st7 fun b hb o e => (J'.pin (b, o) (List.mem_append_right _ (List.mem_append_right _ (mem_pinsAt hb e)))).1, fun b hb => ?_, w'⟩
        obtain ⟨o, e, d⟩ := T.obj _ _ st7 b hb
        exact (J'.pin (b, o) (List.mem_append_right _ (List.mem_append_right _ (mem_pinsAt hb e)))).2.1
      cases b with
      | false =>
        rw [if_neg Bool.false_ne_true] at q9 ⊢
        obtain ⟨m', hm, w'⟩ := q9
        exact back I9 hm w'
      | true =>
        rw [if_pos rfl] at q9 ⊢
        refine wpAny_noRaise (thn (he _ _ _ _ _ _ _ s9 σ8 H9 _ I9 q9) fun v s10 ⟨y, H10, I10, r10, hD10, hsz, m', hm, w'⟩ => ?_)
        refine wpAny_noRaise ?_
        have := mt_append (X := X') _ s10 σ8 H10 (.ref s2.heap.objs.size) [y] (.ref s2.heap.objs.size) [v] (fun _ H' => H' = upd H10 s2.heap.objs.size (.lst (acc ++ [y]))) I10 rfl (.cons r10 .nil) ⟨_, acc, y, rfl, rfl, hD10, hsz, rfl⟩
        refine thn this fun _ s11 ⟨_, H11, I11, _, eH⟩ => ?_
        subst eH
        exact back I11 hm w'
  have goal : codeAny (model X.prog X.w) X.A (.compStart (.ListComp elt [⟨tg, iter, ifs, 0⟩] scope pos) 0 (.ref it) (.ref s2.heap.objs.size) (compEnvC scope cl s3.heap.objs.size X.env)) (RR (.ref s2.heap.objs.size) s3.heap.objs.size) s4 :=
    codeAny_compStart_list loop (T.self _ 0 s4 _ _ (by rw [← e4]; exact st4) loop)
  rw [← es4] at goal
  exact goal

theorem pe_comp (hc : X.calm = true) (S : CompOk X scope own caps ix) (hi : PI X tg iter wi)
    (hg : ∀ cl C pins s3 H3 fp, PG (compCx X scope cl C (own ++ caps) pins s3 H3 fp fun _ _ => False) tg g)
    (ht : ∀ cl C pins s3 H3 fp, PTs (compCx X scope cl C (own ++ caps) pins s3 H3 fp fun _ _ => False) ifs tt)
    (he : ∀ cl C pins s3 H3 fp, PE (compCx X scope cl C (own ++ caps) pins s3 H3 fp fun _ _ => False) elt te)
    (hs : ∀ x, foldedSetIterable iter X.env x = pure x := by intro _; rfl) :
    PE X (.ListComp elt [⟨tg, iter, ifs, 0⟩] scope pos) (tComp wi g tt te own.length ix) := by
  intro pins s σ H Q I h
  obtain ⟨cl, hclos, hc1, hc2⟩ := closureFor_is (scope := scope) (env := X.env) fun y hy => I.ok.has y (.inl (S.free y hy))
  rw [eval_ListComp]
  refine wpAny_comprehension_free (use := none) rfl hs hclos S.kind S.names (thn (hi pins s σ H _ I h) fun v s1 h1 => thn h1 fun itv s2 h2 => ?_)
  obtain ⟨it, fp, tn, J, H2, e, I2, T, st2, f2, q⟩ := h2
  subst e
  refine comp_block (RR := fun acc C => compPost (model X.prog X.w) X.A X.xe none (EP X pins σ Q) acc C) hc S hg ht he hc1 hc2 I2 T st2 f2 q ?_
  intro D C m s' H' _ hn fc I' qn
  obtain ⟨a0, a1, a2, a3, a4, a5⟩ := fc
  exact ⟨m, hn, fun h' sb => ⟨.ref D, H', I'.turned (t' := s'.toks) (fun b o hb e => (sb.2 b hb).trans e) a0 a1 a3 a4 a5, rfl, qn⟩⟩

/-- y = [elt for tg in iter if tests] -/
def tSetComp (i : Nat) (t : TE) : TS := fun D σ H => t σ H fun x H1 => D.nx (σ.set i (some x)) H1
theorem ps_set_comp {i : Nat} {y : Str} {py spos : Pos} (hN : X.N.Nodup) (hy : X.N[i]? = some y) (hly : Loc X.env.scope y) (hf : X.fn y = true ∨ X.env.scope.names.lookup y = some .local) (hc : X.calm = true) (S : CompOk X scope own caps ix) (hi : PI X tg iter wi)
    (hg : ∀ cl C pins s3 H3 fp, PG (compCx X scope cl C (own ++ caps) pins s3 H3 fp fun _ _ => False) tg g)
    (ht : ∀ cl C pins s3 H3 fp, PTs (compCx X scope cl C (own ++ caps) pins s3 H3 fp fun _ _ => False) ifs tt)
    (he : ∀ cl C pins s3 H3 fp, PE (compCx X scope cl C (own ++ caps) pins s3 H3 fp fun _ _ => False) elt te)
    (hsw : swapsWith (.ListComp elt [⟨tg, iter, ifs, 0⟩] scope pos) (some (.Name y py)) spos.line X.env = pure true := by rfl)
    (hs : ∀ x, foldedSetIterable iter X.env x = pure x := by intro _; rfl) :
    PS X (.Assign [.Name y py] (.ListComp elt [⟨tg, iter, ifs, 0⟩] scope pos) spos) (tSetComp i (tComp wi g tt te own.length ix)) := by
  intro pins s σ H D I h
  obtain ⟨cl, hclos, hc1, hc2⟩ := closureFor_is (scope := scope) (env := X.env) fun y hy => I.ok.has y (.inl (S.free y hy))
  rw [exec_Assign_Name_used _ _ _ _ hsw]
  refine wpAny_bind (wpAny_standAt (wpAny_bind ?_))
  show wpAny _ X.A (do let _ ← comprehension (.ListComp elt [⟨tg, iter, ifs, 0⟩] scope pos) scope X.env _ (newList []) false (eval iter X.env) (some (assign (.Name y py) X.env))) _ _ s
  refine wpAny_bind (thn (wpAny_comprehension_free (use := some (assign (.Name y py) X.env)) (Q := fun _ s' => SP X pins D .next s') rfl hs hclos S.kind S.names (thn (hi pins s σ H _ I h) fun v s1 h1 => thn h1 fun itv s2 h2 => ?_)) fun _ s' hq => wpAny_pure (wpAny_pure hq))
  obtain ⟨it, fp, tn, J, H2, e, I2, T, st2, f2, q⟩ := h2
  subst e
  refine comp_block (Q := fun x H1 => D.nx (σ.set i (some x)) H1) (RR := fun acc C => compPost (model X.prog X.w) X.A X.xe (some (assign (.Name y py) X.env)) (fun _ s' => SP X pins D .next s') acc C) hc S hg ht he hc1 hc2 I2 T st2 f2 q ?_
  intro D' C m s' H1 hD' hn fc I1 nx
  obtain ⟨a0, a1, a2, a3, a4, a5⟩ := fc
  show wpAny _ X.A (assign (.Name y py) X.env (.ref D')) _ _ s'
  refine wpAny_assign_Name (store_ok2 I1 hN hy hly (v := .ref D') rfl (fun s'' I2' ⟨a, sb, ha⟩ => ?_) hf)
  have hCa : C ≠ a := by
    rcases ha with e | e
    · rw [e]; exact a1
    · exact fun z => a4 _ _ e z.symm
  refine ⟨m, hn.sameBut sb hCa, fun h' sb' => ⟨_, H1, I2'.turned (t' := s''.toks) (fun b o hb e => (sb'.2 b hb).trans e) a0 a1 a3 a4 a5, nx⟩⟩
end
end L3

set_option Elab.async false
set_option linter.all false
set_option maxRecDepth 100000
set_option maxHeartbeats 4000000
namespace L3
open PySem PySem.Spec PyProof.Rows L2

/-! ### operators by the kinds of their operands -/
section
variable {X : Cx} {a b : Expr} {ta tb : TE} {pos : Pos}
def rAddA : R2 := fun x y H Q => (∃ i j, x = .int i ∧ y = .int j ∧ Q (.int (i + j)) H) ∨ (∃ i j, x = .str i ∧ y = .str j ∧ i.length + j.length ≤ sizeLine ∧ Q (.str (i ++ j)) H) ∨ rCat x y H Q
theorem op_addA : OpR X (binaryOp .Add) rAddA := op_add.or (op_add_str.or op_cat)
def rMulA : R2 := fun x y H Q => (∃ i j, x = .int i ∧ y = .int j ∧ CMul i j ∧ Q (.int (i * j)) H) ∨ ∃ z n, x = .str z ∧ y = .int n ∧ 0 ≤ n ∧ n ≤ 1000 ∧ z.length ≤ 1000 ∧ Q (.str (tx (List.replicate n.toNat (cs z)).flatten)) H
theorem op_mulA : OpR X (binaryOp .Mult) rMulA := op_mul.or op_mul_str
def rLtA : R2 := fun x y H Q => (∃ i j, x = .int i ∧ y = .int j ∧ Q (.bl (decide (i < j))) H) ∨ ∃ i j, x = .str i ∧ y = .str j ∧ Q (.bl (decide (cs i < cs j))) H
theorem op_ltA : OpR X (compareOp .Lt) rLtA := op_lt.or op_lt_str'
def rLeA : R2 := fun x y H Q => (∃ i j, x = .int i ∧ y = .int j ∧ Q (.bl (decide (i ≤ j))) H) ∨ ∃ i j, x = .str i ∧ y = .str j ∧ Q (.bl (!(decide (cs j < cs i)))) H
theorem op_leA : OpR X (compareOp .LtE) rLeA := op_le.or op_le_str
theorem op_gt_str : OpR X (compareOp .Gt) (fun x y H Q => ∃ i j, x = .str i ∧ y = .str j ∧ Q (.bl (decide (cs j < cs i))) H) := by
  intro pins s σ H x y v u Q I rx ry h
  obtain ⟨i, j, rfl, rfl, q⟩ := h
  obtain ⟨t, rfl⟩ := rx
  obtain ⟨t', rfl⟩ := ry
  exact PySem.P.gt_str ⟨.bl _, H, I, rfl, q⟩
def rGtA : R2 := fun x y H Q => (∃ i j, x = .int i ∧ y = .int j ∧ Q (.bl (decide (j < i))) H) ∨ ∃ i j, x = .str i ∧ y = .str j ∧ Q (.bl (decide (cs j < cs i))) H
theorem op_gtA : OpR X (compareOp .Gt) rGtA := op_gt.or op_gt_str
def rSlA (K : PySem.W.Frag) : V → Option Int → Option Int → Hp → VK → Prop := fun x lo hi H Q => rSlL K x lo hi H Q ∨ rSlS x lo hi H Q
theorem sl_any : SlR X (rSlA X.K) := sl_list.or sl_str
/-! ### == and != of two lists of ints, of flat tuples -/
/-! ### isinstance -/
def cV : V → Option Value
  | .ty n => some (.type n)
  | .ref a => some (.ref a)
  | _ => none
theorem call_isi : CallR X (.builtin "isinstance") (fun xs H Q => ∃ x c u t b, xs = [x, c] ∧ cV c = some u ∧ TyOf X.K H x t ∧ PySem.W.kitOne X.K t u = some b ∧ Q (.bl b) H) := by
  intro pins s σ H xs us Q I r h
  obtain ⟨x, c, u, t, b, rfl, hc, ty, e, q⟩ := h
  obtain ⟨v, w', rfl, rx, rc⟩ := vals2 r
  have : w' = u := by
    cases c with
    | ty n => cases hc; exact rc
    | ref a => cases hc; exact rc
    | _ => cases hc
  subst this
  exact isinst_ok I rx ty e fun tk => ⟨.bl b, H, I.tok tk, rfl, q⟩
end
end L3

set_option Elab.async false
set_option linter.all false
set_option maxRecDepth 100000
set_option maxHeartbeats 4000000
namespace L3
open PySem PySem.Spec PyProof.Rows L2

/-! ### for i, x in enumerate(list) -/
def Iel (K : PySem.W.Frag) (a : Addr) : It := ⟨fun i H => ∃ xs x, SqL K H a xs ∧ xs[i]? = some x, fun i H v H' => ∃ p x, H p = none ∧ (∀ xs, SqL K H a xs → xs[i]? = some x) ∧ v = .ref p ∧ H' = upd H p (.tup [.int (i : Nat), x]), fun i H => ∃ xs, SqL K H a xs ∧ i = xs.length⟩
section
variable {X : Cx}
def iEnumL (K : PySem.W.Frag) (ta : TA) : TI := fun σ H R => ta σ H fun vs H1 => ∃ a, vs = [.ref a] ∧ (∃ xs, SqL K H1 a xs) ∧ R (Iel K a) H1
end
def ForEL (K : PySem.W.Frag) (a : Addr) (g : TG) (tb : TS) (D : Ends) (σ : St) (H : Hp) : Prop := ∃ W : Nat → Nat → St → Hp → Prop, (∃ m, W 0 m σ H) ∧ ∀ i m σ H, W i m σ H →
  ((Iel K a).stop i H ∧ D.nx σ H) ∨ ((Iel K a).go i H ∧ ∃ N : St → Hp → Prop, (∀ σ' H', N σ' H' → ∃ m', m' < m ∧ W (i + 1) m' σ' H') ∧ ∀ x H', (Iel K a).yld i H x H' → g x σ H' fun σ2 H2 => tb { D with nx := N, ct := N, bk := D.nx } σ2 H2)
theorem rd_el {K : PySem.W.Frag} {ta : TA} {g : TG} {tb : TS} {D : Ends} {σ : St} {H : Hp} : tFor (iEnumL K ta) g tb D σ H = ta σ H fun vs H1 => ∃ a, vs = [.ref a] ∧ (∃ xs, SqL K H1 a xs) ∧ ForEL K a g tb D σ H1 := rfl
def ForT (K : PySem.W.Frag) (a : Addr) (g : TG) (tb : TS) (D : Ends) (σ : St) (H : Hp) : Prop := ∃ W : Nat → Nat → St → Hp → Prop, (∃ m, W 0 m σ H) ∧ ∀ i m σ H, W i m σ H →
  ((Itt K a).stop i H ∧ D.nx σ H) ∨ ((Itt K a).go i H ∧ ∃ N : St → Hp → Prop, (∀ σ' H', N σ' H' → ∃ m', m' < m ∧ W (i + 1) m' σ' H') ∧ ∀ x H', (Itt K a).yld i H x H' → g x σ H' fun σ2 H2 => tb { D with nx := N, ct := N, bk := D.nx } σ2 H2)
theorem rd_t {K : PySem.W.Frag} {tl : TE} {g : TG} {tb : TS} {D : Ends} {σ : St} {H : Hp} : tFor (iTup K tl) g tb D σ H = tl σ H fun x H1 => ∃ a, x = .ref a ∧ (∃ xs, SqT K H1 a xs) ∧ ForT K a g tb D σ H1 := rfl
/-! ### a test that is a truth -/
def tTr (K : PySem.W.Frag) (ta : TE) : TT := fun σ H Q => ta σ H fun x H' => ∃ k, TruV K x H' k ∧ Q k H'
theorem rd_tr {K : PySem.W.Frag} {ta : TE} {σ : L2.St} {H : Hp} {Q : Bool → Hp → Prop} : tTr K ta σ H Q = ta σ H fun x H' => ∃ k, TruV K x H' k ∧ Q k H' := rfl
def tBl (ta : TE) : TT := fun σ H Q => ta σ H fun x H' => ∃ k, x = .bl k ∧ Q k H'
theorem rd_bl {ta : TE} {σ : L2.St} {H : Hp} {Q : Bool → Hp → Prop} : tBl ta σ H Q = ta σ H fun x H' => ∃ k, x = .bl k ∧ Q k H' := rfl
section
variable {X : Cx} {a : Expr} {ta : TE}
theorem pt_bl (ha : PE X a ta) (he : ∀ whole, isTrue a X.env whole = (do let v ← whole; standAt a.pos; holding [v] (truthy v))) : PT X a (tBl ta) := by
  intro pins s σ H Q I h
  refine isTrue_plain (thn (ha pins s σ H _ I h) fun v s1 ⟨x, H1, I1, r1, k, e, q1⟩ => ?_) (he _)
  subst e
  exact tru_ok pins s1 σ H1 (.bl k) v Q I1 r1 ⟨k, rfl, q1⟩
end
end L3

set_option Elab.async false
set_option linter.all false
set_option maxRecDepth 100000
set_option maxHeartbeats 4000000
namespace L3
open PySem PySem.Spec PyProof.Rows L2
/-! ### for x in reversed(list) -/
def Irv (K : PySem.W.Frag) (a : Addr) (n : Nat) : It := ⟨fun i H => ∃ xs, SqL K H a xs ∧ xs.length = n ∧ i < n, fun i H v H' => H' = H ∧ ∀ xs, SqL K H a xs → xs.length = n → xs[n - 1 - i]? = some v, fun i H => i = n⟩
theorem boot_rev : bootBuiltins "reversed" = some (.type "reversed") := PyProof.Rows.boot_reversed
section
variable {X : Cx} {tg : Expr}
def iRev (K : PySem.W.Frag) (ta : TA) : TI := fun σ H R => ta σ H fun vs H1 => ∃ a xs, vs = [.ref a] ∧ SqL K H1 a xs ∧ R (Irv K a xs.length) H1
end
/-! ### list(reversed(list)) -/
section
variable {prog : Program} {w : World} {A : Around} {E : Value → Shared → Prop} {s : Shared}
end
section
variable {X : Cx}
def tRevL (K : PySem.W.Frag) (ta : TA) : TE := fun σ H Q => ta σ H fun vs H1 => ∃ a xs, vs = [.ref a] ∧ SqL K H1 a xs ∧ ∀ l, H1 l = none → Q (.ref l) (upd H1 l (.lst xs.reverse))
theorem rd_revl {K : PySem.W.Frag} {ta : TA} {σ : L2.St} {H : Hp} {Q : VK} : tRevL K ta σ H Q = ta σ H fun vs H1 => ∃ a xs, vs = [.ref a] ∧ SqL K H1 a xs ∧ ∀ l, H1 l = none → Q (.ref l) (upd H1 l (.lst xs.reverse)) := rfl
end
/-! ### for x, y in zip(list, list) -/
def Izp (K : PySem.W.Frag) (a b : Addr) : It := ⟨fun i H => ∃ xs ys x y, SqL K H a xs ∧ SqL K H b ys ∧ xs[i]? = some x ∧ ys[i]? = some y, fun i H v H' => ∃ p x y, H p = none ∧ (∀ xs, SqL K H a xs → xs[i]? = some x) ∧ (∀ ys, SqL K H b ys → ys[i]? = some y) ∧ v = .ref p ∧ H' = upd H p (.tup [x, y]), fun i H => ∃ xs ys, SqL K H a xs ∧ SqL K H b ys ∧ (xs.length = i ∨ ys.length = i) ∧ i ≤ xs.length ∧ i ≤ ys.length⟩
theorem kind_ne {h : Heap} {a b : Addr} {o1 o2 : Obj} {t u : String} (h1 : h.get? a = some o1) (c1 : o1.cls = .type t) (h2 : h.get? b = some o2) (c2 : o2.cls = .type u) (hne : t ≠ u) : a ≠ b := fun z => by
  rw [z, h2] at h1
  cases h1
  rw [c2] at c1
  exact hne (Value.type.inj c1).symm
structure Apart5 (z TI TO i1 i2 : Addr) : Prop where
  TIz : TI ≠ z
  TOz : TO ≠ z
  i1z : i1 ≠ z
  i2z : i2 ≠ z
  TITO : TI ≠ TO
  TIi1 : TI ≠ i1
  TIi2 : TI ≠ i2
  TOi1 : TO ≠ i1
  TOi2 : TO ≠ i2
  i12 : i1 ≠ i2
def ZipAt (z TI TO i1 i2 l1 l2 : Addr) (i : Nat) (h : Heap) : Prop := IsZip h z TI TO .none ∧ IsPair h TI (.ref i1) (.ref i2) ∧ (∃ a b, IsPair h TO a b) ∧ h.IsListIter i1 l1 i ∧ h.IsListIter i2 l2 i
theorem ZipAt.apart {z TI TO i1 i2 l1 l2 : Addr} {i : Nat} {h : Heap} {xs ys : Array Value} (D : Apart5 z TI TO i1 i2) (st : ZipAt z TI TO i1 i2 l1 l2 i h) (h1 : h.IsList l1 xs) (h2 : h.IsList l2 ys) : ZipApart z TI TO i1 i2 l1 l2 := by
  obtain ⟨hz, hTI, ⟨a, b, hTO⟩, ⟨o1, e1, c1, _⟩, ⟨o2, e2, c2, _⟩⟩ := st
  obtain ⟨p1, q1, k1, _⟩ := h1
  obtain ⟨p2, q2, k2, _⟩ := h2
  exact ⟨D.TIz, D.TOz, D.i1z, D.i2z, D.TITO, D.TIi1, D.TIi2, D.TOi1, D.TOi2, D.i12, kind_ne q1 k1 hz rfl (by decide), kind_ne q1 k1 hTO rfl (by decide), kind_ne q1 k1 e1 c1 (by decide), kind_ne q1 k1 e2 c2 (by decide), kind_ne q2 k2 hz rfl (by decide), kind_ne q2 k2 hTO rfl (by decide), kind_ne q2 k2 e1 c1 (by decide), kind_ne q2 k2 e2 c2 (by decide)⟩
section
variable {X : Cx}
def iZip (K : PySem.W.Frag) (ta : TA) : TI := fun σ H R => ta σ H fun vs H1 => ∃ a b, vs = [.ref a, .ref b] ∧ (∃ xs, SqL K H1 a xs) ∧ (∃ ys, SqL K H1 b ys) ∧ R (Izp K a b) H1
end
def ForZ (K : PySem.W.Frag) (a b : Addr) (g : TG) (tb : TS) (D : Ends) (σ : L2.St) (H : Hp) : Prop := ∃ W : Nat → Nat → L2.St → Hp → Prop, (∃ m, W 0 m σ H) ∧ ∀ i m σ H, W i m σ H →
  ((Izp K a b).stop i H ∧ D.nx σ H) ∨ ((Izp K a b).go i H ∧ ∃ N : L2.St → Hp → Prop, (∀ σ' H', N σ' H' → ∃ m', m' < m ∧ W (i + 1) m' σ' H') ∧ ∀ x H', (Izp K a b).yld i H x H' → g x σ H' fun σ2 H2 => tb { D with nx := N, ct := N, bk := D.nx } σ2 H2)
theorem rd_z {K : PySem.W.Frag} {ta : TA} {g : TG} {tb : TS} {D : Ends} {σ : L2.St} {H : Hp} : tFor (iZip K ta) g tb D σ H = ta σ H fun vs H1 => ∃ a b, vs = [.ref a, .ref b] ∧ (∃ xs, SqL K H1 a xs) ∧ (∃ ys, SqL K H1 b ys) ∧ ForZ K a b g tb D σ H1 := rfl
end L3

set_option Elab.async false
set_option linter.all false
set_option maxRecDepth 100000
set_option maxHeartbeats 4000000
namespace L3
open PySem PySem.Spec PyProof.Rows L2

/-! ### an exception in flight -/
/-- its object: class, dict, arguments, traceback -/
abbrev xob (C : Addr) (dx : Option Addr) (t : Addr) (tb : Value) : Obj := { cls := .ref C, dict := dx, data := .fields #[.ref t, tb, .none, .none, .bool false, .none] }
/-- the same with what was handled when it was raised -/
abbrev xog (C : Addr) (dx : Option Addr) (t : Addr) (tb c : Value) (k : Bool) : Obj := { cls := .ref C, dict := dx, data := .fields #[.ref t, tb, c, .none, .bool k, .none] }
def TbOk (h : Heap) (x : Addr) (tb : Value) : Prop := tb = .none ∨ ∃ T oT ts, tb = .ref T ∧ T ≠ x ∧ h.get? T = some oT ∧ oT.data = .fields ts ∧ 3 < ts.size

section
variable {M : Model} {A : Around} {E : Value → Shared → Prop} {s : Shared} {base : Heap} {env env0 : Env} {outer : List Env} {L x t C : Addr} {dx : Option Addr} {cx : Value} {kx : Bool}
theorem frameOf_same (h : env.frame = env0.frame) : PySem.frameOf env = PySem.frameOf env0 := by unfold PySem.frameOf; rw [h]

/-- a new entry of the traceback -/
theorem entry_x {tb head : Value} {hadNext : Bool} {Q : Unit → Shared → Prop} (hfr : A.frames = some (env0 :: outer)) (hl : s.heap.FunFrames base (env0 :: outer)) (hf : env0.frame = some L) (he : env.frame = some L)
    (hx : s.heap.get? x = some (xog C dx t tb cx kx))
    (h : ∀ h' oT ts, h'.get? x = some (xog C dx t (.ref s.heap.objs.size) cx kx) → s.heap.objs.size ≠ x → h'.get? s.heap.objs.size = some oT → oT.data = .fields ts → 3 < ts.size →
      (∀ b o, b ≠ x → b ∉ frs (env0 :: outer) → s.heap.get? b = some o → h'.get? b = some o) → (∀ b o, b ≠ x → s.heap.get? b = some o → ∃ sl, h'.get? b = some { o with slots := sl }) → Q () { s with heap := h' }) :
    wpAny M A (do let a ← PySem.frameOf env; let pl ← entryPlaceOf L hadNext; let b ← EntryCells.newEntry head a .none (rawInt L) .none pl; setField (.ref x) 1 b) Q E s := by
  have hxf : x ∉ frs (env0 :: outer) := fun hm => by
    obtain ⟨_, o, ho, hnf⟩ := hl.mem hm
    rw [hx] at ho
    cases ho
    exact hnf _ rfl
  rw [frameOf_same (he.trans hf.symm)]
  refine wpAny_bind (wpAny_frameOf_fun hfr hl hf fun h1 hs1 => wpAny_bind (wpAny_entryPlaceOf fun pl hpl => ?_))
  unfold EntryCells.newEntry newFields
  refine wpAny_bind (wpAny_newObj_type ?_ (hpl.sizeOk5 _ _ _ _ _))
  have hz : h1.objs.size = s.heap.objs.size := hs1.1
  have hx1 : h1.get? x = some (xog C dx t tb cx kx) := (hs1.2.1 x hxf).trans hx
  generalize ho : ({ cls := .type "traceback", dict := none, data := .fields ([head, .ref L, .none, rawInt L, .none] ++ (if pl.isEmpty then List.replicate 6 Value.none else pl)).toArray } : Obj) = ob
  have hx2 : (h1.push ob).get? x = some (xog C dx t tb cx kx) := Heap.get?_push_of_some _ hx1
  refine wpAny_setField hx2 rfl (by show 1 < 6; decide) ?_
  have hne : h1.objs.size ≠ x := Nat.ne_of_gt (Heap.lt_size hx1)
  have hx3 : ((h1.push ob).update x (Obj.mapFields (·.setIfInBounds 1 (Value.ref h1.objs.size)))).get? x = some (xog C dx t (.ref h1.objs.size) cx kx) :=
    Heap.get?_update_self (Obj.mapFields (·.setIfInBounds 1 (Value.ref h1.objs.size))) hx2 rfl
  have hT : ((h1.push ob).update x (Obj.mapFields (·.setIfInBounds 1 (Value.ref h1.objs.size)))).get? h1.objs.size = some ob :=
    (Heap.get?_update_other _ _ (Ne.symm hne)).trans (Heap.get?_push_size h1 (by rw [← ho]; rfl))
  rw [hz] at hx3 hT hne
  have kp : ∀ b o, b ≠ x → h1.get? b = some o → ((h1.push ob).update x (Obj.mapFields (·.setIfInBounds 1 (Value.ref h1.objs.size)))).get? b = some o := fun b o hb e =>
    (Heap.get?_update_other _ _ (Ne.symm hb)).trans (Heap.get?_push_of_some _ e)
  rw [hz] at kp ⊢
  refine h _ ob _ hx3 hne hT (by rw [← ho]) (by simp only [List.size_toArray, List.length_append, List.length_cons, List.length_nil] <;> omega) (fun b o hb hbf e => kp b o hb ((hs1.2.1 b hbf).trans e)) fun b o hb e => ?_
  obtain ⟨sl, q⟩ := hs1.2.2 b o e
  exact ⟨sl, kp b _ hb q⟩

/-- the frame is noted, the flight ends: x has a traceback then -/
theorem settle_x {tb : Value} {Q : Unit → Shared → Prop} (hfr : A.frames = some (env0 :: outer)) (hl : s.heap.FunFrames base (env0 :: outer)) (hf : env0.frame = some L) (he : env.frame = some L)
    (hx : s.heap.get? x = some (xog C dx t tb cx kx)) (htb : TbOk s.heap x tb)
    (h : ∀ h' T oT ts, h'.get? x = some (xog C dx t (.ref T) cx kx) → T ≠ x → (tb = .ref T ∨ s.heap.objs.size ≤ T) → h'.get? T = some oT → oT.data = .fields ts → 3 < ts.size →
      (∀ b o, b ≠ x → tb ≠ .ref b → b ∉ frs (env0 :: outer) → s.heap.get? b = some o → h'.get? b = some o) → (∀ b o, b ≠ x → tb ≠ .ref b → s.heap.get? b = some o → ∃ sl, h'.get? b = some { o with slots := sl }) → Q () { s with heap := h' }) :
    wpAny M A (noteFrame (.ref x) env) (fun _ s1 => wpAny M A (setFlight (.ref x) none) Q E s1) E s := by
  -- the end of the flight, from any heap that bears the traceback
  have land : ∀ (h1 : Heap) (T : Addr) (oT : Obj) (ts : Array Value), h1.get? x = some (xog C dx t (.ref T) cx kx) → T ≠ x → (tb = .ref T ∨ s.heap.objs.size ≤ T) → h1.get? T = some oT → oT.data = .fields ts → 3 < ts.size →
      (∀ b o, b ≠ x → tb ≠ .ref b → b ∉ frs (env0 :: outer) → s.heap.get? b = some o → h1.get? b = some o) → (∀ b o, b ≠ x → tb ≠ .ref b → s.heap.get? b = some o → ∃ sl, h1.get? b = some { o with slots := sl }) →
      wpAny M A (setFlight (.ref x) none) Q E { s with heap := h1 } := fun h1 T oT ts e1 nT oldT e2 d2 z2 k1 k2 => by
    unfold setFlight
    refine wpAny_bind (wpAny_field (s := { s with heap := h1 }) e1 rfl (x := .ref T) rfl ?_)
    rw [if_pos (show (Value.ref T != Value.none) = true from by simp)]
    refine wpAny_setField (s := { s with heap := h1 }) e2 d2 z2 ?_
    have d3 := Obj.data_mapFields d2 (·.setIfInBounds 3 ((none : Option Addr).elim Value.none fun f => rawInt f))
    have nb : ∀ b, b ≠ x → tb ≠ .ref b → (∃ o, s.heap.get? b = some o) → b ≠ T := fun b hb hbt ⟨o, eo⟩ z => by
      subst z
      rcases oldT with q | q
      · exact hbt q
      · exact absurd (Heap.lt_size eo) (Nat.not_lt.mpr q)
    refine h _ T _ _ ((Heap.get?_update_other _ _ nT).trans e1) nT oldT (Heap.get?_update_self _ e2 (Obj.isFreed_of_fields d3)) d3 (by simpa using z2) (fun b o hb hbt hbf e => ?_) fun b o hb hbt e => ?_
    · exact (Heap.get?_update_other _ _ (Ne.symm (nb b hb hbt ⟨o, e⟩))).trans (k1 b o hb hbt hbf e)
    · obtain ⟨sl, q⟩ := k2 b o hb hbt e
      exact ⟨sl, (Heap.get?_update_other _ _ (Ne.symm (nb b hb hbt ⟨o, e⟩))).trans q⟩
  unfold noteFrame
  simp only [he]
  refine wpAny_bind (wpAny_field hx rfl (x := tb) rfl ?_)
  rcases htb with rfl | ⟨T, oT, ts, rfl, nT, e2, d2, z2⟩
  · rw [if_neg (by decide)]
    refine entry_x hfr hl hf he hx fun h' oT ts e1 ne e2 d2 z2 k1 k2 => land h' _ oT ts e1 ne (.inr (Nat.le_refl _)) e2 d2 z2 (fun b o hb _ hbf e => k1 b o hb hbf e) fun b o hb _ e => k2 b o hb e
  · rw [if_pos (show (Value.ref T != Value.none) = true from by simp)]
    obtain ⟨y, hy⟩ : ∃ y, ts[3]? = some y := ⟨ts[3], by simp [z2]⟩
    refine wpAny_bind (wpAny_field e2 d2 (x := y) hy ?_)
    by_cases c : (y == rawInt L) = true
    · rw [if_pos c]
      exact wpAny_pure (land s.heap T oT ts hx nT (.inl rfl) e2 d2 z2 (fun b o _ _ _ e => e) fun b o _ _ e => ⟨o.slots, e⟩)
    · rw [if_neg c]
      refine wpAny_bind (wpAny_setField e2 d2 z2 ?_)
      have oth : ∀ b, b ≠ T → (s.heap.update T (Obj.mapFields (·.setIfInBounds 3 Value.none))).get? b = s.heap.get? b := fun b hb => Heap.get?_update_other _ _ (Ne.symm hb)
      have hl1 : (s.heap.update T (Obj.mapFields (·.setIfInBounds 3 Value.none))).FunFrames base (env0 :: outer) := hl.of_keeps fun b o hb hnf => ⟨o, (oth b fun q => by rw [q, e2] at hb; cases hb; exact hnf ts d2).trans hb, rfl⟩
      have hsz : (s.heap.update T (Obj.mapFields (·.setIfInBounds 3 Value.none))).objs.size = s.heap.objs.size := Heap.size_update ..
      refine entry_x (s := { s with heap := s.heap.update T (Obj.mapFields (·.setIfInBounds 3 Value.none)) }) hfr hl1 hf he ((oth x (Ne.symm nT)).trans hx) fun h' oT' ts' e1 ne e2' d2' z2' k1 k2 => ?_
      refine land h' _ oT' ts' e1 ne (.inr (by rw [hsz]; exact Nat.le_refl _)) e2' d2' z2' (fun b o hb hbt hbf e => k1 b o hb hbf ((oth b fun q => hbt (by rw [q])).trans e)) fun b o hb hbt e => k2 b o hb ((oth b fun q => hbt (by rw [q])).trans e)
theorem leave_x {tb : Value} {Q : Unit → Shared → Prop} (hfr : A.frames = some (env0 :: outer)) (hl : s.heap.FunFrames base (env0 :: outer)) (hf : env0.frame = some L) (he : env.frame = some L)
    (hx : s.heap.get? x = some (xog C dx t tb cx kx)) (htb : TbOk s.heap x tb)
    (h : ∀ h' T oT ts, h'.get? x = some (xog C dx t (.ref T) cx kx) → T ≠ x → (tb = .ref T ∨ s.heap.objs.size ≤ T) → h'.get? T = some oT → oT.data = .fields ts → 3 < ts.size →
      (∀ b o, b ≠ x → tb ≠ .ref b → b ∉ frs (env0 :: outer) → s.heap.get? b = some o → h'.get? b = some o) → (∀ b o, b ≠ x → tb ≠ .ref b → s.heap.get? b = some o → ∃ sl, h'.get? b = some { o with slots := sl }) → Q () { s with heap := h' }) :
    wpAny M A (leaving env (.ref x)) Q E s := wpAny_bind (settle_x hfr hl hf he hx htb h)
end

/-! ### how it lies -/
/-- an exception behind a call of the program's own -/
def CXx (P : Program) (w : World) : CXT := fun outer H s E e s' => ∃ (x C t : Addr) (dx : Option Addr) (tb : Value) (H' : Hp), e = .ref x ∧ s'.os = s.os ∧ AllBare s'.gens ∧ Un (frs outer) [] H H' s.heap s'.heap ∧ HOk P w H' s'.heap ∧
  s'.heap.get? x = some (xob C dx t tb) ∧ TbOk s'.heap x tb ∧ H' x = none ∧ s.heap.objs.size ≤ x ∧ (∀ T, tb = .ref T → H' T = none ∧ s.heap.objs.size ≤ T) ∧ E (.ref C) dx H'
/-- an exception where a body stands -/
def Flies (X : Cx) (E : XK) (e : Value) (s : Shared) : Prop := ∃ (pins : List (Addr × Obj)) (σ : St) (H : Hp) (x C t : Addr) (dx : Option Addr) (tb : Value), e = .ref x ∧ Inv X pins σ H s ∧
  s.heap.get? x = some (xob C dx t tb) ∧ TbOk s.heap x tb ∧ FpOk X pins H x ∧ (∀ T, tb = .ref T → FpOk X pins H T) ∧ E (.ref C) dx H
/-- the body's wish takes it -/
def XE (X : Cx) (E : XK) : Prop := ∀ e s, Flies X E e s → X.xe e s

theorem passes_x {X : Cx} {E : XK} (hx : XE X E) : Passes (CXx X.prog X.w) X E := by
  intro pins σ H s e s' I h
  obtain ⟨x, C, t, dx, tb, H', rfl, os, bare, un, hok, ob, tr, hn, hsz, hT, q⟩ := h
  have I' : Inv X pins σ H' s' := I.call' os un hok bare fun b z => absurd z (by simp)
  exact hx _ _ ⟨pins, σ, H', x, C, t, dx, tb, rfl, I', ob, tr, I.fpOk hsz hn, fun T e => I.fpOk (hT T e).2 (hT T e).1, q⟩

/-- behind the def's own frame -/
theorem xe_cx {P : Program} {w : World} {K : PySem.W.Frag} {mg : Str → Option Value} {base : Heap} {N : List Str} {qual : Str} {scope : Scope} {f : Addr} {cd : Value} {A : Around} {outer : List Env} {s : Shared} {H : Hp} {E : XK} :
    XE (cxOf (CXx P w) P w K mg base N qual scope f cd A outer s H E) E := by
  intro e s1 h
  obtain ⟨pins, σ, H1, x, C, t, dx, tb, rfl, I, ob, tr, fx, fT, q⟩ := h
  show wpAny _ _ (leaving _ (.ref x)) _ _ s1
  have ff := I.stack
  refine leave_x (A := (cxOf (CXx P w) P w K mg base N qual scope f cd A outer s H E).A) (env0 := envOfC qual scope s.heap.objs.size f cd) (outer := outer) I.ok.frames ff rfl rfl ob tr fun h' T oT ts e1 nT oldT e2 d2 z2 k1 k2 => ?_
  have szs : s.heap.objs.size ≤ s1.heap.objs.size := I.sz
  have hxs : s.heap.objs.size ≤ x := by
    rcases fx.2.2.2.1 with z | z
    · exact absurd z (by simp [cxOf])
    · exact z
  have hTs : s.heap.objs.size ≤ T ∧ H1 T = none := by
    rcases oldT with z | z
    · obtain ⟨a0, _, _, a3, _⟩ := fT T z
      rcases a3 with y | y
      · exact absurd y (by simp [cxOf])
      · exact ⟨y, a0⟩
    · exact ⟨Nat.le_trans szs z, I.hok.fresh z⟩
  have tbs : ∀ b, tb = .ref b → s.heap.objs.size ≤ b ∧ H1 b = none := fun b hb => by
    obtain ⟨a0, _, _, a3, _⟩ := fT b hb
    rcases a3 with y | y
    · exact absurd y (by simp [cxOf])
    · exact ⟨y, a0⟩
  have old : ∀ b o, s.heap.get? b = some o → b ≠ x ∧ tb ≠ .ref b := fun b o e => by
    have hb := Heap.lt_size e
    refine ⟨Nat.ne_of_lt (Nat.lt_of_lt_of_le hb hxs), fun z => ?_⟩
    exact absurd (Nat.lt_of_lt_of_le hb (tbs b z).1) (Nat.lt_irrefl _)
  have un : Un (frs outer) [] H H1 s.heap h' := by
    have B := I.base
    refine ⟨fun b o e n hb _ => ?_, fun b o e n hb _ => ?_, fun b o e n _ => B.free b o e n (by simp [cxOf]), fun b o e _ => ?_, B.tups, B.frzs, B.tbls⟩
    · have e1 := B.keep b o e n hb (by simp [cxOf])
      refine k1 b o (old b o e).1 (old b o e).2 (fun z => ?_) e1
      have z' := I.stkSub b z
      rcases List.mem_cons.mp z' with q | q
      · exact absurd q (Nat.ne_of_lt (Nat.lt_of_lt_of_le (Heap.lt_size e) I.ok.above))
      · exact hb q
    · obtain ⟨sl, e1⟩ := B.slot b o e n hb (by simp [cxOf])
      obtain ⟨sl', e2⟩ := k2 b _ (old b o e).1 (old b o e).2 e1
      exact ⟨sl', e2⟩
    · obtain ⟨o', e1⟩ := B.there b o e (by simp [cxOf])
      obtain ⟨sl', e2⟩ := k2 b _ (old b o e).1 (old b o e).2 e1
      exact ⟨_, e2⟩
  have hok : HOk P w H1 h' := fun b u e => by
    refine (I.hok b u e).stay (fun c v hc q => k1 c v ?_ ?_ ?_ q) (fun _ q => q) fun _ _ q => q
    · rintro rfl
      rcases hc with rfl | hc
      · rw [fx.1] at e; cases e
      · rw [fx.1] at hc; cases hc
    · intro z
      have := (tbs c z).2
      rcases hc with rfl | hc
      · rw [this] at e; cases e
      · rw [this] at hc; cases hc
    · intro z
      have := I.stkFree c z
      rcases hc with rfl | hc
      · rw [this] at e; cases e
      · rw [this] at hc; cases hc
  exact ⟨x, C, t, dx, .ref T, H1, rfl, I.os, I.bare, un, hok, e1, .inr ⟨T, oT, ts, rfl, nT, e2, d2, z2⟩, fx.1, hxs, fun T' z => by cases z; exact ⟨hTs.2, hTs.1⟩, q⟩

/-- THE RULE for a def that may raise -/
theorem Fun.okX {P : Program} {w : World} {K : PySem.W.Frag} {mg : Str → Option Value} {base : Heap} {x qual : Str} {st : Stmt} {f : Addr} {fd : FuncData} {N ps : List Str} {k : Nat} {sp : Sp} (F : Fun K x qual st f fd) (S : FnScope N ps (defScope st)) (len : ∀ vs H Q E, sp vs H Q E → vs.length = ps.length)
    (hbody : ∀ (cdv : Value) (A : Around) (outer : List Env) (s : Shared) (H : Hp) (vs : List V) (Q : VK) (E : XK), Room k (A.deeper (envOfC qual (defScope st) s.heap.objs.size f cdv)) → XE (cxOf (CXx P w) P w K mg base N qual (defScope st) f cdv A outer s H E) E → sp vs H Q E →
      ∃ t, PSs (cxOf (CXx P w) P w K mg base N qual (defScope st) f cdv A outer s H E) (defBody st) t ∧ t { nx := fun _ H' => Q .non H', rt := Q } (start N vs) H) : FnOk P w K mg base (CXx P w) (k + 1) f fd ps sp := by
  obtain ⟨oc, od, kV, doc, pm, an, cdv, ct, osl, rfl, lk, hcd⟩ := F.ex
  exact fn_of lk hcd S len fun A outer s H vs Q E hr hsp => hbody cdv A outer s H vs Q E hr xe_cx hsp
/-! ### raised while another one was handled -/
/-- an exception where a body stands -/
def FliesG (X : Cx) (E : XK) (e : Value) (s : Shared) : Prop := ∃ (cx : Value) (kx : Bool) (pins : List (Addr × Obj)) (σ : St) (H : Hp) (x C t : Addr) (dx : Option Addr) (tb : Value), e = .ref x ∧ Inv X pins σ H s ∧
  s.heap.get? x = some (xog C dx t tb cx kx) ∧ TbOk s.heap x tb ∧ FpOk X pins H x ∧ (∀ T, tb = .ref T → FpOk X pins H T) ∧ E (.ref C) dx H
/-- the body's wish takes it -/
def XEg (X : Cx) (E : XK) : Prop := ∀ e s, FliesG X E e s → X.xe e s

end L3

set_option Elab.async false
set_option linter.all false
set_option maxRecDepth 100000
set_option maxHeartbeats 4000000
namespace L3
open PySem PySem.Spec PyProof.Rows L2

/-! ### a def that may be called within an except suite: no loop, no raise in it -/
structure RoomH (k : Nat) (A : Around) : Prop where
  dp : A.depth + 3 * k + 5 < recursionLimit
  un : A.units + 16 * k + 200 < cLine
theorem RoomH.mark {k : Nat} {A : Around} (r : RoomH k A) (e : Option Value) : RoomH k (A.mark e) := ⟨r.dp, r.un⟩
def cxH (P : Program) (w : World) (K : PySem.W.Frag) (mg : Str → Option Value) (base : Heap) (N : List Str) (qual : Str) (scope : Scope) (f : Addr) (cd : Value) (A : Around) (outer : List Env) (s : Shared) (H : Hp) : Cx :=
  { cxOf CX0 P w K mg base N qual scope f cd A outer s H E0 with calm := false, xe := fun _ _ => False }

section
variable {X : Cx} {k : Nat} {f : Addr} {fd : FuncData} {ps : List Str} {sp : Sp} {x : Str} {p pos : Pos} {e : Expr} {es : List Expr} {t : TA}
end
end L3

set_option Elab.async false
set_option linter.all false
set_option maxRecDepth 100000
set_option maxHeartbeats 4000000
namespace L3
open PySem PySem.Spec PyProof.Rows L2

/-! ### an exception class of the program: under ValueError -/
abbrev bmV : List Value := [.type "ValueError", .type "Exception", .type "BaseException", .type "object"]
def xcIn (K : PySem.W.Frag) (C : Addr) : Bool := match K.lookup C with
  | some ⟨.type "type", _, .cls cd, sl⟩ => (match cd.mro, sl.toList with
    | .ref C' :: bm, [_, _, _, _, some (.builtin n), _] => C' == C && (n == "ValueError.__new__" && (!cd.hasDel && (cd.hasDict && PySem.W.tailIn K bmV bm)))
    | _, _ => false)
  | _ => false
theorem xc_obj {K : PySem.W.Frag} {C : Addr} (q : xcIn K C = true) : ∃ bm N nm qn bs sn sub ab col dd k0 k1 k2 k3 k5, K.lookup C = some (excClassObj nm qn C N bs bm true sn sub ab col dd k0 k1 k2 k3 k5 "ValueError.__new__") ∧ ∀ h : Heap, K.In h → OwnTail h bmV bm := by
  unfold xcIn at q
  split at q
  · rename_i dd cd sl ho
    split at q
    · rename_i C' bm k0 k1 k2 k3 n k5 hm hs
      simp only [Bool.and_eq_true, beq_iff_eq, Bool.not_eq_true'] at q
      obtain ⟨rfl, rfl, hdel, hdct, ht⟩ := q
      obtain ⟨nm, bs, mro, ns, qn, hd, sn, sub, ab, col, del⟩ := cd
      dsimp only at hm hdel hdct
      subst hm hdel hdct
      have hsl : sl = #[k0, k1, k2, k3, some (.builtin "ValueError.__new__"), k5] := by
        obtain ⟨l⟩ := sl
        simp only at hs
        rw [hs]
      subst hsl
      exact ⟨bm, ns, nm, qn, bs, sn, sub, ab, col, dd, k0, k1, k2, k3, k5, ho, fun h X => PySem.W.tail_of_in X ht⟩
    · cases q
  · cases q

structure XC (K : PySem.W.Frag) (C : Addr) : Prop where
  ok : xcIn K C = true
  sa : PySem.W.findIn K (.ref C) "__setattr__" = some (some (.builtin "object.__setattr__"))
  ga : PySem.W.findIn K (.ref C) "__getattribute__" = some (some (.builtin "BaseException.__getattribute__"))
  gt : PySem.W.findIn K (.ref C) "__getattr__" = some none
  kp : PySem.W.keepIn K (.ref C) = true

section
variable {prog : Program} {w : World} {A : Around} {R : Result → Shared → Prop} {h : Heap} {g : Array GenState} {d : Drawn} {t : Nat} {os : OsState} {K : PySem.W.Frag} {C : Addr}
/-- C(..): the exception is made, then its __init__ -/
theorem exc_call {init : Value} {rest : List Value} (X : K.In h) (q : xcIn K C = true) (hi : PySem.W.findIn K (.ref C) "__init__" = some (some init))
    (hb : ∀ self, PySem.W.Looks (model prog w) h (bindSpecial init self) (init, [self])) (hrest : rest.length ≤ sizeLine)
    (hq : codeAny (model prog w) (A.under (.builtin "type.__call__" ⟨.ref C :: rest, []⟩)) (.call init ⟨.ref (h.objs.size + 1) :: rest, []⟩) (PySem.W.InitBack (h.objs.size + 1) R) ⟨(h.push { cls := .type "tuple", data := .seq rest.toArray }).push (xob C none h.objs.size .none), g, d, t, os⟩) :
    codeAny (model prog w) A (.call (.ref C) ⟨rest, []⟩) R ⟨h, g, d, t, os⟩ := by
  obtain ⟨bm, N, nm, qn, bs, sn, sub, ab, col, dd, k0, k1, k2, k3, k5, lk, tl⟩ := xc_obj q
  have hC := X _ _ lk
  have T := tl h X
  have F := PySem.F.excBase_ValueError
  have f1 := tc_lookup
  have f2 := tc_bind (.ref C)
  have hT : (⟨h, g, d, t, os⟩ : Shared).TypeIs (.ref C) "type" := ⟨_, hC, rfl⟩
  refine codeAny_of_tree ?_
  show wpAny _ _ (callAny (.ref C) _) _ _ _
  repeat (any_goals (first | assumption | with_reducible refine wpAny_loadPart_at hC ?_ | wp_step))
  refine ⟨rfl, ?_⟩
  refine codeAny_call_builtin_at (Code.quiet_builtin _ (by decide +kernel)) entry_typeCall (wpAny_check_type_call_sub hC ?_)
  repeat (first | with_reducible refine wpAny_loadPart_at hC ?_ | with_reducible refine wpAny_madeBy_exc hC ?_ | wp_step)
  refine codeAny_call_builtin_code (Code.quiet_builtin _ F.quiet) (wpAny_check_new_subT F T hC ?_)
  refine codeAny_exc_new_subT F T hC ?_ hrest
  show wpAny _ _ _ _ _ _
  have k : ∀ b o, h.get? b = some o → ((h.push { cls := .type "tuple", data := .seq rest.toArray }).push (xob C none h.objs.size .none)).get? b = some o := fun b o e => Heap.get?_push_of_some _ (Heap.get?_push_of_some _ e)
  have hC1 := k _ _ hC
  have hget : ((h.push { cls := .type "tuple", data := .seq rest.toArray }).push (xob C none h.objs.size .none)).get? (h.objs.size + 1) = some (xob C none h.objs.size .none) := by heap_get
  have hcC : (Value.ref C :: bm).contains (.ref C) = true := by simp
  unfold isInstance
  repeat (first | with_reducible refine wpAny_loadPart_at hget ?_ | wp_step)
  refine wpAny_isSubtype_exc (C := C) hC1 ?_
  rw [hcC]
  repeat wp_step
  show wpAny _ _ (typeLookup (.ref C) _) _ _ _
  refine ((PySem.W.looks_findIn X hi).keeps k).at ?_
  refine wpAny_holding (wpAny_bind (((hb _).keeps k).at ?_))
  refine wpAny_bind (wpAny_call (codeAny_mono hq fun r s' z => ?_))
  rcases r with e | (v | _ | _ | _) <;> first | exact z | exact z.elim | skip
  obtain ⟨rfl, z⟩ := z
  exact wpAny_pure (wpAny_pure z)
end
end L3

set_option Elab.async false
set_option linter.all false
set_option maxRecDepth 100000
set_option maxHeartbeats 4000000
namespace L3
open PySem PySem.Spec PyProof.Rows L2

/-- an exception that was made and not raised yet; one that was caught -/
def XN (x C : Addr) (dx : Option Addr) : HO := .ext fun h => ∃ t, h.get? x = some (xob C dx t .none)
def XT (x C : Addr) (dx : Option Addr) : HO := .ext fun h => ∃ t tb c k, h.get? x = some (xog C dx t tb c k)
/-- one that was caught, and that was raised while none was handled -/
def XP (x C : Addr) (dx : Option Addr) : HO := .ext fun h => ∃ t tb, h.get? x = some (xob C dx t tb)
theorem xt_at {P : Program} {w : World} {H : Hp} {h : Heap} {x C : Addr} {dx : Option Addr} (o : ObjOk P w H h x (XT x C dx)) : ∃ t tb c k, h.get? x = some (xog C dx t tb c k) := o.1
section
variable {nm q : Str} {C N : Addr} {bs bm : List Value} {hdct : Bool} {sn : List Str} {sub : List Value} {ab : Bool} {col : Option Bool} {dd : Option Addr} {k0 k1 k2 k3 k5 : Option Value} {newId : String} {h : Heap} {M : Model}
theorem sub_looks (hC : h.get? C = some (excClassObj nm q C N bs bm hdct sn sub ab col dd k0 k1 k2 k3 k5 newId)) (base : Value) : PySem.W.Looks M h (isSubtype (.ref C) base) ((Value.ref C :: bm).contains base) := fun A Q E s k z => by
  obtain ⟨hp, g, d, t, os⟩ := s
  exact wpAny_isSubtype_exc (k _ _ hC) z
end

section
variable {X : Cx} {pins : List (Addr × Obj)} {σ : St} {H : Hp} {s : Shared} {A : Around} {E : Value → Shared → Prop} {x C : Addr} {f : Str} {y : V} {u : Value}
end
end L3

set_option Elab.async false
set_option linter.all false
set_option maxRecDepth 100000
set_option maxHeartbeats 4000000
namespace L3
open PySem PySem.Spec PyProof.Rows L2

/-! ### self.f = value in an exception's __init__ -/
section
variable {X : Cx} {o value : Expr} {f : Str} {pos pos' : Pos} {ta tv : TE}
end

/-! ### raise C(..) -/
section
variable {M : Model} {A : Around} {E : Value → Shared → Prop} {s : Shared} {env : Env}
theorem raise_x {K : PySem.W.Frag} {x : Sem Value} {Q : Flow → Shared → Prop} (hh : A.handled = none)
    (h : wpAny M A x (fun v s1 => ∃ e C t dx, v = .ref e ∧ K.In s1.heap ∧ xcIn K C = true ∧ s1.heap.get? e = some (xob C dx t .none) ∧ E (.ref e) s1) E s) : wpAny M A (raiseStmt env (some x) none) Q E s := by
  unfold raiseStmt
  refine wpAny_bind (thn h fun v s1 h1 => ?_)
  obtain ⟨e, C, t, dx, rfl, X, hC, he, hE⟩ := h1
  obtain ⟨bm, N, nm, qn, bs, sn, sub, ab, col, dd, k0, k1, k2, k3, k5, lk, tl⟩ := xc_obj hC
  have hCo := X _ _ lk
  have T := tl _ X
  have hcB : (Value.ref C :: bm).contains (.type "BaseException") = true := by rw [List.contains_cons, T.hasType (show bmV.contains (.type "BaseException") = true by decide +kernel), Bool.or_true]
  obtain ⟨hp, g, d, tk, os⟩ := s1
  repeat (first | with_reducible refine wpAny_loadPart_at he ?_ | with_reducible refine wpAny_loadPart_at hCo ?_ | (with_reducible refine wpAny_isSubtype_exc hCo ?_; rw [hcB]) | wp_step)
  exact wpAny_raiseNew_none hh hE
theorem Raise_x {K : PySem.W.Frag} {e : Expr} {pos : Pos} {Q : Flow → Shared → Prop} (hh : A.handled = none)
    (h : wpAny M A (eval e env) (fun v s1 => ∃ a C t dx, v = .ref a ∧ K.In s1.heap ∧ xcIn K C = true ∧ s1.heap.get? a = some (xob C dx t .none) ∧ E (.ref a) s1) E s) : wpAny M A (exec (.Raise (some e) none pos) env) Q E s := by
  rw [arm_exec_Raise]
  first
    | exact wpAny_bind (wpAny_standAt (raise_x hh (wpAny_bind (thn h fun v s1 h1 => wpAny_bind (wpAny_standAt (wpAny_pure h1))))))
    | (simp only [evalOpt, Option.map]; exact wpAny_bind (wpAny_standAt (raise_x hh (wpAny_bind (thn h fun v s1 h1 => wpAny_bind (wpAny_standAt (wpAny_pure h1)))))))
end

def del (H : Hp) (x : Addr) : Hp := fun b => if b = x then none else H b
section
variable {X : Cx} {pins : List (Addr × Obj)} {σ : St} {H : Hp} {s : Shared}
theorem run_xmake0 {C : Addr} {us : List Value} {E : Value → Shared → Prop} {Q : Value → Shared → Prop} (I : Inv X pins σ H s) (xc : xcIn X.K C = true) (hi : PySem.W.findIn X.K (.ref C) "__init__" = some (some (.builtin "ValueError.__init__"))) (hl : us.length ≤ sizeLine)
    (h : ∀ s' x t, s.heap.objs.size ≤ x → Inv X pins σ H s' → s'.heap.get? x = some (xob C none t .none) → Q (.ref x) s') : wpAny (model X.prog X.w) X.A (call (.ref C) us) Q E s := by
  have F := PySem.F.excBase_ValueError
  obtain ⟨bm, N, nm, qn, bs, sn, sub, ab, col, dd, k0, k1, k2, k3, k5, lk, tl⟩ := xc_obj xc
  have hC := I.kIn _ _ lk
  have T := tl _ I.kIn
  obtain ⟨hp, g, d, t, os⟩ := s
  have k : ∀ b o, hp.get? b = some o → ((hp.push { cls := .type "tuple", data := .seq us.toArray }).push (xob C none hp.objs.size .none)).get? b = some o := fun b o e => Heap.get?_push_of_some _ (Heap.get?_push_of_some _ e)
  refine wpAny_call (exc_call I.kIn xc hi (fun self => PySem.W.Looks.of_pure (F.init.bind self)) hl ?_)
  have hget : ((hp.push { cls := .type "tuple", data := .seq us.toArray }).push (xob C none hp.objs.size .none)).get? (hp.objs.size + 1) = some (xob C none hp.objs.size .none) := by heap_get
  refine codeAny_call_builtin F.init.plain F.initEntry (wpAny_check_init_subT F (T.keeps k) (k _ _ hC) hget rfl ?_)
  wp_walk
  refine ⟨rfl, h _ (hp.objs.size + 1) ((hp.push { cls := .type "tuple", data := .seq us.toArray }).push (xob C none hp.objs.size .none)).objs.size (Nat.le_succ _) (I.kept (t' := t) fun b o e => ?_) ?_⟩
  · exact (Heap.get?_update_other _ _ (Nat.ne_of_gt (Nat.lt_succ_of_lt (Heap.lt_size e)))).trans (Heap.get?_push_of_some _ (k b o e))
  · exact Heap.get?_update_self (Obj.mapFields fun x => x.setIfInBounds 0 (Value.ref ((hp.push { cls := .type "tuple", data := .seq us.toArray }).push (xob C none hp.objs.size .none)).objs.size)) (Heap.get?_push_of_some _ hget) rfl

/-- raise C(..), C without an __init__ of its own -/
def tRaise0 (E : XK) (C : Addr) (t : TA) : TS := fun _ σ H => t σ H fun vs H1 => vs.length ≤ sizeLine ∧ E (.ref C) none H1
theorem ps_raise0 {E : XK} {C : Addr} {cn : Str} {np cpos pos : Pos} {e : Expr} {es : List Expr} {t : TA} (hx : XE X E) (hc : X.calm = true) (xc : XC X.K C) (hi : PySem.W.findIn X.K (.ref C) "__init__" = some (some (.builtin "ValueError.__init__"))) (hg : Gl X cn) (hm : X.mg cn = some (.ref C)) (ha : PA X (e :: es) t)
    (hdb : (cn == ("__debug__" : Str)) = false := by decide) (he : starEach (e :: es) X.env = (false, eval e X.env) :: starEach es X.env := by rfl) (hpl : (backTo cpos (starEach es X.env)).any (·.1) = false := by rfl) :
    PS X (.Raise (some (.Call (.Name cn np) (e :: es) [] cpos)) none pos) (tRaise0 E C t) := by
  intro pins s σ H D I h
  refine Raise_x (K := X.K) (I.ok.hd hc) (wpAny_Call_Name_kw (ld_glob I hg hm ?_ hdb))
  refine PySem.W.callWith_K (h₀ := X.base) I.ok.mod.kin xc.kp (thn (ha cpos pins s σ H _ I h) fun us s1 ⟨vs, H1, I1, r, z, q⟩ => ⟨I1.kIn, ?_⟩) he hpl
  refine run_xmake0 (us := [] ++ us) I1 xc.ok hi (by show us.length ≤ sizeLine; rw [← r.length]; exact z) fun s2 x t hz I2 ob => ⟨x, C, t, none, rfl, I2.kIn, xc.ok, ob, ?_⟩
  exact hx _ _ ⟨pins, σ, H1, x, C, t, none, .none, rfl, I2, ob, .inl rfl, I1.fpOk hz (I1.hok.fresh hz), fun T z => (by cases z), q⟩

/-- raise C(..), C with an __init__ of its own -/
def tRaise1 (E : XK) (C : Addr) (sp : Sp) (t : TA) : TS := fun _ σ H => t σ H fun vs H1 => vs.length ≤ sizeLine ∧ ∀ x, H1 x = none → sp (.ref x :: vs) (upd H1 x (XN x C none)) (fun v H2 => v = .non ∧ ∃ dx, H2 x = some (XN x C dx) ∧ E (.ref C) dx (del H2 x)) E0
end
end L3

set_option Elab.async false
set_option linter.all false
set_option maxRecDepth 100000
set_option maxHeartbeats 4000000
namespace L3
open PySem PySem.Spec PyProof.Rows L2

/-! ### expressions that may raise, the names kept -/
abbrev TX := St → Hp → VK → XK → Prop
section
variable {X : Cx}
variable {k : Nat} {f : Addr} {fd : FuncData} {ps : List Str} {sp : Sp} {dvs : List V} {ds : List Value} {x : Str} {p pos : Pos} {e : Expr} {es : List Expr} {t : TA}
end

/-! ### within an except suite -/
abbrev Cx.suite (X : Cx) (e : Value) : Cx := { X with A := X.A.mark (some e), calm := false, xe := fun _ _ => False }
theorem Inv.suite {X : Cx} {pins : List (Addr × Obj)} {σ : St} {H : Hp} {s : Shared} (I : Inv X pins σ H s) (e : Value) : Inv (Cx.suite X e) pins σ H s :=
  ⟨⟨I.ok.mod, I.ok.kind, I.ok.glob, I.ok.blt, I.ok.above, I.ok.inj, I.ok.has, I.ok.cab, fun z => absurd z (by simp [Cx.suite]), I.ok.frames, I.ok.stk, I.ok.exf, I.ok.bs, I.ok.bsz, I.ok.noex, I.ok.exfs, I.ok.funs, I.ok.frf⟩,
    I.os, I.bare, I.base, I.loc, I.cell, I.free, I.freeC, I.pin, I.hok, I.len⟩
/-- what a handler wants: its class, the slot of its name, its suite -/
structure Hd where
  D : Addr
  i : Nat
  ts : TS
/-- the handlers in a row; behind the last one nothing is caught -/
def tHs (K : PySem.W.Frag) (C : Addr) (dx : Option Addr) (x : Addr) (Dd : Ends) (σ : St) (H : Hp) : List Hd → Prop
  | [] => False
  | h :: r => ∃ b, PySem.W.subIn K (.ref C) (.ref h.D) = some b ∧ if b = true then h.ts { Dd with nx := fun σ' H' => Dd.nx (σ'.set h.i none) H', bk := fun σ' H' => Dd.bk (σ'.set h.i none) H', ct := fun σ' H' => Dd.ct (σ'.set h.i none) H' } (σ.set h.i (some (.ref x))) H else tHs K C dx x Dd σ H r

section
variable {X : Cx} {pins : List (Addr × Obj)} {σ : St} {H : Hp} {s : Shared}
end

section
variable {X : Cx}
def tbL : Value → List Addr
  | .ref b => [b]
  | _ => []
/-- try: y = e except .. as ..: .. -/
def tTry (K : PySem.W.Frag) (i : Nat) (te : TX) (hds : List Hd) : TS := fun D σ H => te σ H (fun v H1 => D.nx (σ.set i (some v)) H1) fun cls dx H1 => ∃ C, cls = .ref C ∧ ∀ x, H1 x = none → tHs K C dx x D σ (upd H1 x (XT x C dx)) hds
end
end L3

set_option Elab.async false
set_option linter.all false
set_option maxRecDepth 100000
set_option maxHeartbeats 4000000
namespace L3
open PySem PySem.Spec PyProof.Rows L2

/-! ### attributes of an exception -/
section
variable {prog : Program} {w : World} {A : Around} {E : Value → Shared → Prop} {s : Shared} {K : PySem.W.Frag} {x C : Addr} {ox : Obj} {od : Option Obj} {name : Str} {tk : Tok}
theorem xga_by {fill expr : Bool} {Q : Value → Shared → Prop} (X : K.In s.heap) (xc : XC K C) (J : PySem.W.InstAt s.heap x ox C od)
    (h : wpAny (model prog w) A.in1 (Builtin.«object.__getattribute__» ⟨[.ref x, .str name tk], []⟩) (fun fin s' => match fin with | .done (.ret v) => wpAny (model prog w) A (handedOut v) Q E s' | _ => False) (fun _ _ => False) s) :
    wpAny (model prog w) A (getAttrBy (.ref x) (.str name tk) fill expr) Q E s := by
  obtain ⟨bm, N, nm, qn, bs, sn, sub, ab, col, dd, k0, k1, k2, k3, k5, lk, tl⟩ := xc_obj xc.ok
  have hC := X _ _ lk
  have T := tl _ X
  have FB := PySem.F.attrBase_ValueError
  have L0 := J.type (M := model prog w)
  have L1 := PySem.W.looks_findIn (M := model prog w) X xc.ga
  have L2 := PySem.W.looks_findIn (M := model prog w) X xc.gt
  have hcB : (Value.ref C :: bm).contains (.type "BaseException") = true := by rw [List.contains_cons, T.hasType (show bmV.contains (.type "BaseException") = true by decide +kernel), Bool.or_true]
  have isB : PySem.W.Looks (model prog w) s.heap (isInstance (.ref x) (.type "BaseException")) true := L0.andThen (by have := sub_looks (M := model prog w) hC (.type "BaseException"); rw [hcB] at this; exact this)
  have f3 := FB.ga.bind (.ref x)
  have hx0 : (expr && onTheHeap (Value.builtin "BaseException.__getattribute__")) = false := by cases expr <;> rfl
  have hx2 : (Value.builtin "BaseException.__getattribute__" == Value.builtin "object.__getattribute__") = false := by decide +kernel
  have hx1 : (onTheHeap (Value.ref C) && Value.builtin "BaseException.__getattribute__" == Value.builtin "object.__getattribute__") = false := by rw [hx2]; rfl
  unfold getAttrBy
  refine wpAny_holding (wpAny_bind (L0.here (wpAny_bind (L1.here ?_))))
  show wpAny _ _ (if (onTheHeap (Value.ref C) && Value.builtin "BaseException.__getattribute__" == Value.builtin "object.__getattribute__") = true then _ else _) _ _ _
  rw [hx1, if_neg Bool.false_ne_true]
  unfold getAttrByItsOwn hookBefore
  rw [if_pos (by rfl)]
  refine wpAny_bind (L2.here (wpAny_bind (wpAny_attempt (wpAny_holding ?_))))
  unfold callGetattribute
  rw [hx0, if_neg Bool.false_ne_true]
  unfold boundAndCalled
  rw [f3]
  refine wpAny_bind (wpAny_pure ?_)
  show wpAny (model prog w) A (call (.builtin "BaseException.__getattribute__") [.ref x, .str name tk]) _ _ s
  refine wpAny_call (codeAny_call_builtin FB.ga.plain PySem.F.entry_bexc_ga (@PySem.W.check_slot (model prog w) _ _ s "BaseException.__getattribute__" "BaseException" "__getattribute__" (.ref x) [.str name tk] [] _ (by decide +kernel) (by decide +kernel) isB (PySem.F.args_bexc_ga _ _) ?_))
  refine wpAny_mono h (fun fin s' z => ?_) fun _ _ z => z.elim
  rcases fin with (_ | _ | _ | v) | _ <;> first | exact z | exact z.elim
/-- e.__class__ -/
theorem xclass {Q : Option Value → Shared → Prop} (X : K.In s.heap) (xc : XC K C) (J : PySem.W.InstAt s.heap x ox C od) (ha : PySem.W.findIn K (.ref C) "__class__" = some (some (.builtin "object.__class__")))
    (hn : PySem.W.specialIn K (.builtin "object.__class__") "__get__" = some (some (.builtin "getset_descriptor.__get__"))) (htk : PySem.W.takesIn K (.builtin "object.__class__") = some true) (hm : PySem.W.mroIn K C (.type "object") = some true)
    (h : Q (some (.ref C)) { s with toks := s.toks + 1 }) : wpAny (model prog w) A (getAttr? (.ref x) "__class__") Q E s := by
  have hf : PySem.W.findObj K C od "__class__" = some (.bind (.builtin "getset_descriptor.__get__") (.builtin "object.__class__")) := by
    obtain ⟨bm, N, nm, qn, bs, sn, sub, ab, col, dd, k0, k1, k2, k3, k5, lk, tl⟩ := xc_obj xc.ok
    have hcl : (PySem.W.clsIn K C).isSome = true := by unfold PySem.W.clsIn; rw [lk]; rfl
    obtain ⟨cd, hc⟩ := Option.isSome_iff_exists.mp hcl
    unfold PySem.W.findObj
    rw [hc, Option.bind_some, ha, Option.bind_some]
    simp [hn, htk]
  unfold getAttr? getAttrBy?
  refine wpAny_bind (wpAny_mkText (wpAny_bind (wpAny_attempt (xga_by (s := { s with toks := s.toks + 1 }) X xc J ?_))))
  have L0 := J.type (M := model prog w)
  have L1 := PySem.W.looks_find (M := model prog w) X J hf
  unfold Builtin.«object.__getattribute__»
  refine wpAny_bind (wpAny_pure (wpAny_bind (wpAny_pure (wpAny_bind (L0.here (s := { s with toks := s.toks + 1 }) (wpAny_bind (L1.here (s := { s with toks := s.toks + 1 }) ?_)))))))
  show wpAny _ _ (holding [.builtin "object.__class__"] (call (.builtin "getset_descriptor.__get__") [.builtin "object.__class__", .ref x, .ref C]) >>= ret) _ _ _
  refine wpAny_bind (wpAny_holding (wpAny_call (PySem.W.class_get (s := { s with toks := s.toks + 1 }) X J hm ?_)))
  refine wpAny_pure ?_
  show wpAny _ _ (handedOut (.ref C)) _ _ _
  rw [PySem.W.handedOut_of rfl]
  exact wpAny_pure (wpAny_pure h)
end

/-! ### isinstance of an exception -/
structure XI (K : PySem.W.Frag) (C : Addr) : Prop extends XC K C where
  ca : PySem.W.findIn K (.ref C) "__class__" = some (some (.builtin "object.__class__"))
  cg : PySem.W.specialIn K (.builtin "object.__class__") "__get__" = some (some (.builtin "getset_descriptor.__get__"))
  ct : PySem.W.takesIn K (.builtin "object.__class__") = some true
  mo : PySem.W.mroIn K C (.type "object") = some true
theorem inst_x {h : Heap} {x C t : Addr} {tb c : Value} {k : Bool} (ob : h.get? x = some (xog C none t tb c k)) : PySem.W.InstAt h x (xog C none t tb c k) C none := ⟨ob, rfl, rfl, trivial⟩
theorem kit_x {K : PySem.W.Frag} {x C : Addr} {dx : Option Addr} (xi : XI K C) : PySem.W.KitX K (.ref x) (.ref C) (fun h => (∃ t tb c k, h.get? x = some (xog C dx t tb c k)) ∧ ∀ d, dx = some d → ∃ o, h.get? d = some o) where
  ty := fun M h X ⟨⟨t, tb, c, k', ob⟩, _⟩ => (PySem.W.Looks.ld ob).andThen .now
  it := fun M h X _ => by
    obtain ⟨bm, N, nm, qn, bs, sn, sub, ab, col, dd, k0, k1, k2, k3, k5, lk, tl⟩ := xc_obj xi.ok
    intro A' Q' E' s' k q
    unfold isType loadHead
    exact wpAny_bind (wpAny_loadPart (k _ _ (X _ _ lk)) (wpAny_pure q))
  ne := fun h tp dd its n sl X htp => by
    obtain ⟨bm, N, nm, qn, bs, sn, sub, ab, col, dd, k0, k1, k2, k3, k5, lk, tl⟩ := xc_obj xi.ok
    refine Bool.eq_false_iff.mpr fun q => ?_
    have e : C = tp := Value.ref.inj (beq_iff_eq.mp q)
    subst e
    have z := congrArg (fun o : Option Obj => o.map fun o => match o.data with | .cls _ => true | _ => false) ((X _ _ lk).symm.trans htp)
    exact absurd (show true = false from Option.some.inj z) (by decide)
  ca := fun {prog w A E Q s} X ⟨⟨t, tb, c, k', ob⟩, hd⟩ k => by
    cases dx with
    | none => exact xclass X xi.toXC (inst_x ob) xi.ca xi.cg xi.ct xi.mo k
    | some d =>
      obtain ⟨o, e⟩ := hd d rfl
      exact xclass (od := some o) X xi.toXC ⟨ob, rfl, rfl, e⟩ xi.ca xi.cg xi.ct xi.mo k

section
variable {X : Cx}
/-- what is known of an exception that was caught: its object, its dict -/
def XAt (H : Hp) (x C : Addr) (dx : Option Addr) (fs : List (Str × V)) : Prop := H x = some (XT x C dx) ∧ ((dx = none ∧ fs = []) ∨ ∃ d, dx = some d ∧ H d = some (.xd fs))
theorem call_isiX : CallR X (.builtin "isinstance") (fun xs H Q => ∃ x C dx fs c u b, xs = [.ref x, c] ∧ cV c = some u ∧ XAt H x C dx fs ∧ XI X.K C ∧ PySem.W.kitOne X.K (.ref C) u = some b ∧ Q (.bl b) H) := by
  intro pins s σ H xs us Q I r h
  obtain ⟨x, C, dx, fs, c, u, b, rfl, hc, ⟨hx, hd⟩, xi, e, q⟩ := h
  obtain ⟨v, w', rfl, rx, rc⟩ := vals2 r
  cases rx
  have : w' = u := by
    cases c with
    | ty n => cases hc; exact rc
    | ref a => cases hc; exact rc
    | _ => cases hc
  subst this
  refine PySem.W.kia_one (kit_x (dx := dx) xi) I.kIn ⟨xt_at (I.hok _ _ hx), fun d z => ?_⟩ e (fun z => nomatch z) fun tk => ⟨.bl b, H, I.tok tk, rfl, q⟩
  rcases hd with ⟨z', _⟩ | ⟨d', z', hd'⟩
  · rw [z'] at z; cases z
  · rw [z'] at z; cases z
    obtain ⟨mA, ⟨o, es, ep, ho, _⟩, _⟩ := I.hok _ _ hd'
    exact ⟨o, ho⟩
/-- e.f of a caught exception -/
def tXget (K : PySem.W.Frag) (ta : TE) (f : Str) : TE := fun σ H Q => ta σ H fun y H1 => ∃ x C dx fs v, y = .ref x ∧ XAt H1 x C dx fs ∧ XC K C ∧ PySem.W.hasDictIn K C = true ∧ NoAttr K C f ∧ fs.lookup f = some v ∧ Q v H1
end
end L3

set_option Elab.async false
set_option linter.all false
set_option maxRecDepth 100000
set_option maxHeartbeats 4000000
namespace L3
open PySem PySem.Spec PyProof.Rows L2

/-! ### a def of the program's, by its name -/
structure Df (P : Program) (w : World) (K : PySem.W.Frag) (mg : Str → Option Value) (base : Heap) (CX : CXT) (k : Nat) (nm : Str) (ps : List Str) (ds : List Value) (sp : Sp) : Prop where
  ex : ∃ f fd, FnOk P w K mg base CX k f fd ps sp ∧ mg nm = some (.ref f) ∧ PySem.W.keepIn K (.ref f) = true ∧ Binds K fd ps ds
/-- the names of Python's own that stand unshadowed -/
structure Bt (mg : Str → Option Value) : Prop where
  len : mg "len" = none
  range : mg "range" = none
  isi : mg "isinstance" = none
  str : mg "str" = none
  int : mg "int" = none
  tuple : mg "tuple" = none
  list : mg "list" = none
  bool : mg "bool" = none
  enum : mg "enumerate" = none
  all : mg "all" = none
  verr : mg "ValueError" = none
  max : mg "max" = none
  rev : mg "reversed" = none
  zip : mg "zip" = none
  sum : mg "sum" = none
  sorted : mg "sorted" = none
section
variable {X : Cx} {CX : CXT} {k : Nat} {ps : List Str} {sp : Sp} {ds : List Value} {dvs : List V} {E : XK} {x : Str} {p pos : Pos} {e : Expr} {es : List Expr} {t : TA}
theorem cl0 {j : Nat} (D : Df X.prog X.w X.K X.mg X.base CX0 k x ps ds sp) (hr : Room j X.A) (hd : Vals dvs ds) (hg : Gl X x) (ha : PA X (e :: es) t) (hdb : (x == ("__debug__" : Str)) = false := by decide) (he : starEach (e :: es) X.env = (false, eval e X.env) :: starEach es X.env := by rfl)
    (hpl : (backTo pos (starEach es X.env)).any (·.1) = false := by rfl) (hj : k ≤ j := by decide) : PE X (.Call (.Name x p) (e :: es) [] pos) (tCall sp dvs E0 t) := by
  obtain ⟨f, fd, F, hm, hk, hb⟩ := D.ex
  exact pe_call F (hr.mono hj) hg hm hk hb hd pass0 ha hdb he hpl
theorem clP {j : Nat} (hx : XE X E) (D : Df X.prog X.w X.K X.mg X.base (CXx X.prog X.w) k x ps ds sp) (hr : Room j X.A) (hd : Vals dvs ds) (hg : Gl X x) (ha : PA X (e :: es) t) (hdb : (x == ("__debug__" : Str)) = false := by decide) (he : starEach (e :: es) X.env = (false, eval e X.env) :: starEach es X.env := by rfl)
    (hpl : (backTo pos (starEach es X.env)).any (·.1) = false := by rfl) (hj : k ≤ j := by decide) : PE X (.Call (.Name x p) (e :: es) [] pos) (tCall sp dvs E t) := by
  obtain ⟨f, fd, F, hm, hk, hb⟩ := D.ex
  exact pe_call F (hr.mono hj) hg hm hk hb hd (passes_x hx) ha hdb he hpl
end
def TyX (K : PySem.W.Frag) (H : Hp) (x : V) (t : Value) : Prop := TyOf K H x t ∨ (∃ a C dx fs, x = .ref a ∧ t = .ref C ∧ XAt H a C dx fs ∧ XI K C) ∨ (∃ a xs, x = .ref a ∧ t = .type "list" ∧ SqL K H a xs) ∨ ∃ a xs, x = .ref a ∧ t = .type "tuple" ∧ SqT K H a xs
def rIsi (K : PySem.W.Frag) : List V → Hp → VK → Prop := fun xs H Q => ∃ x c u t b, xs = [x, c] ∧ cV c = some u ∧ TyX K H x t ∧ PySem.W.kitOne K t u = some b ∧ Q (.bl b) H
theorem c_isi {X : Cx} : CallR X (.builtin "isinstance") (rIsi X.K) := by
  intro pins s σ H xs us Q I r h
  obtain ⟨x, c, u, t, b, rfl, hc, ty, e, q⟩ := h
  rcases ty with ty | ⟨a, C, dx, fs, rfl, rfl, ha, xi⟩ | ⟨a, ys, rfl, rfl, hq⟩ | ⟨a, ys, rfl, rfl, hq⟩
  · exact call_isi pins s σ H _ us Q I r ⟨x, c, u, t, b, rfl, hc, ty, e, q⟩
  · exact call_isiX pins s σ H _ us Q I r ⟨a, C, dx, fs, c, u, b, rfl, hc, ha, xi, e, q⟩
  all_goals
    obtain ⟨v, w', rfl, rx, rc⟩ := vals2 r
    have : w' = u := by
      cases c with
      | ty n => cases hc; exact rc
      | ref a => cases hc; exact rc
      | _ => cases hc
    subst this
    cases rx
  · obtain ⟨its, _, p, _⟩ := I.list hq
    obtain ⟨o, h1, h2, _⟩ := p.isList
    exact PySem.W.kia_one PySem.W.kitx_list I.kIn ⟨o, h1, h2⟩ e (fun z => nomatch z) fun tk => ⟨.bl b, H, I.tok tk, rfl, q⟩
  · obtain ⟨its, _, p, _⟩ := I.tuple hq
    obtain ⟨o, h1, h2, _⟩ := p
    exact PySem.W.kia_one PySem.W.kitx_tuple I.kIn ⟨o, h1, h2⟩ e (fun z => nomatch z) fun tk => ⟨.bl b, H, I.tok tk, rfl, q⟩
theorem pe_isiB {X : Cx} {e : Expr} {te : TE} {c : Str} {n : String} {p q pos : Pos} (h1 : Gl X "isinstance") (h2 : X.mg "isinstance" = none) (he : PE X e te) (hg : Gl X c) (hm : X.mg c = none) (hv : bootBuiltins c = some (.type n)) (hn : c ≠ "__name__" := by decide) (hd : (c == ("__debug__" : Str)) = false := by decide)
    (hs1 : starEach [e, .Name c q] X.env = (false, eval e X.env) :: starEach [.Name c q] X.env := by rfl) (hs3 : starEach [.Name c q] X.env = (false, eval (.Name c q) X.env) :: starEach [] X.env := by rfl) (hs2 : (backTo pos (starEach [.Name c q] X.env)).any (·.1) = false := by rfl) : PE X (.Call (.Name "isinstance" p) [e, .Name c q] [] pos) (tCB (rIsi X.K) (tCons te (tCons (tC (.ty n)) tNil))) :=
  pe_callB c_isi h1 h2 boot_isinstance (pa_cons he (pa_cons (pe_bltn hg hm hv rfl hn hd) pa_nil hs3) hs1) (he := hs1) (hpl := hs2)
theorem cV_ref {a : Addr} : cV (.ref a) = some (.ref a) := rfl
theorem cV_ty {n : String} : cV (.ty n) = some (.type n) := rfl
theorem cxHK {P w K mg base N q sc f cd A o s H} : (cxH P w K mg base N q sc f cd A o s H).K = K := rfl
def rCount : V → List V → Hp → VK → Prop := fun x xs H Q => ∃ z y, x = .str z ∧ xs = [.str y] ∧ Q (.int (Txt.count z y)) H
theorem m_count {X : Cx} : MtR X "str.count" rCount := mt_count
def rFind : V → List V → Hp → VK → Prop := fun x xs H Q => ∃ z y, x = .str z ∧ xs = [.str y] ∧ Q (.int (Txt.find z y)) H
theorem m_find {X : Cx} : MtR X "str.find" rFind := mt_find
theorem count_l (l : List Nat) (c : Nat) : Txt.count (tx l) (tx [c]) = (l.count c : Int) := by
  have h : ∀ l : List Nat, cnt c l = (l.count c : Int) := fun l => by
    induction l with
    | nil => rfl
    | cons n r ih =>
      rw [cnt_cons, ih, List.count_cons]
      by_cases e : n = c
      · subst e; simp; omega
      · have : (n == c) = false := by simpa using e
        simp [e, this]
  exact (PyProof.Rows.count_is (tx l) c).trans (h l)
theorem lt1 {a b : Nat} : ([a] : List Nat) < [b] ↔ a < b := by rw [List.cons_lt_cons_iff]; exact ⟨fun h => h.elim id fun ⟨_, q⟩ => absurd q (List.not_lt_nil _), .inl⟩
theorem pick_perm {l : List Nat} {k v : Nat} (h : l[k]? = some v) : (v :: (l.take k ++ l.drop (k + 1))).Perm l := by
  obtain ⟨hk, e⟩ := List.getElem?_eq_some_iff.mp h
  have e2 : l.take k ++ (v :: l.drop (k + 1)) = l := by
    rw [← e, ← List.drop_eq_getElem_cons hk, List.take_append_drop]
  exact (List.perm_middle.symm.trans (by rw [e2]))
def rLen (K : PySem.W.Frag) : List V → Hp → VK → Prop := fun xs H Q => ∃ x n, xs = [x] ∧ LenV K x H n ∧ Q (.int n) H
theorem c_len {X : Cx} : CallR X (.builtin "len") (rLen X.K) := call_len

/-- loops, kept shut till an invariant is told -/
def ForR (lo : Int) (n : Nat) (g : TG) (tb : TS) (D : Ends) (σ : St) (H : Hp) : Prop := ∃ W : Nat → Nat → St → Hp → Prop, (∃ m, W 0 m σ H) ∧ ∀ i m σ H, W i m σ H →
  ((Itr lo n).stop i H ∧ D.nx σ H) ∨ ((Itr lo n).go i H ∧ ∃ N : St → Hp → Prop, (∀ σ' H', N σ' H' → ∃ m', m' < m ∧ W (i + 1) m' σ' H') ∧ ∀ x H', (Itr lo n).yld i H x H' → g x σ H' fun σ2 H2 => tb { D with nx := N, ct := N, bk := D.nx } σ2 H2)
theorem rd_r1 {ta : TA} {g : TG} {tb : TS} {D : Ends} {σ : St} {H : Hp} : tFor (iRng1 ta) g tb D σ H = ta σ H fun vs H1 => ∃ j : Int, vs = [.int j] ∧ -(2 ^ 62) ≤ j ∧ j < 2 ^ 62 ∧ ForR 0 j.toNat g tb D σ H1 := rfl
theorem rd_r2 {ta : TA} {g : TG} {tb : TS} {D : Ends} {σ : St} {H : Hp} : tFor (iRng2 ta) g tb D σ H = ta σ H fun vs H1 => ∃ i j : Int, vs = [.int i, .int j] ∧ (-(2 ^ 62) ≤ i ∧ i < 2 ^ 62 ∧ -(2 ^ 62) ≤ j ∧ j < 2 ^ 62) ∧ ForR i (j - i).toNat g tb D σ H1 := rfl
theorem ForR.by {lo : Int} {n : Nat} {g : TG} {tb : TS} {D : Ends} {σ : St} {H : Hp} (Pv : Nat → St → Hp → Prop) (h0 : Pv 0 σ H)
    (hs : ∀ i σ H, i < n → Pv i σ H → g (.int (lo + i)) σ H fun σ2 H2 => tb { D with nx := Pv (i + 1), ct := Pv (i + 1), bk := D.nx } σ2 H2) (hd : ∀ σ H, Pv n σ H → D.nx σ H) : ForR lo n g tb D σ H := for_range Pv h0 hs hd
def ForL (K : PySem.W.Frag) (a : Addr) (g : TG) (tb : TS) (D : Ends) (σ : St) (H : Hp) : Prop := ∃ W : Nat → Nat → St → Hp → Prop, (∃ m, W 0 m σ H) ∧ ∀ i m σ H, W i m σ H →
  ((Itl K a).stop i H ∧ D.nx σ H) ∨ ((Itl K a).go i H ∧ ∃ N : St → Hp → Prop, (∀ σ' H', N σ' H' → ∃ m', m' < m ∧ W (i + 1) m' σ' H') ∧ ∀ x H', (Itl K a).yld i H x H' → g x σ H' fun σ2 H2 => tb { D with nx := N, ct := N, bk := D.nx } σ2 H2)
theorem rd_l {K : PySem.W.Frag} {tl : TE} {g : TG} {tb : TS} {D : Ends} {σ : St} {H : Hp} : tFor (iList K tl) g tb D σ H = tl σ H fun x H1 => ∃ a, x = .ref a ∧ (∃ xs, SqL K H1 a xs) ∧ ForL K a g tb D σ H1 := rfl
def ForS (x : Str) (g : TG) (tb : TS) (D : Ends) (σ : St) (H : Hp) : Prop := ∃ W : Nat → Nat → St → Hp → Prop, (∃ m, W 0 m σ H) ∧ ∀ i m σ H, W i m σ H →
  ((Its x).stop i H ∧ D.nx σ H) ∨ ((Its x).go i H ∧ ∃ N : St → Hp → Prop, (∀ σ' H', N σ' H' → ∃ m', m' < m ∧ W (i + 1) m' σ' H') ∧ ∀ v H', (Its x).yld i H v H' → g v σ H' fun σ2 H2 => tb { D with nx := N, ct := N, bk := D.nx } σ2 H2)
theorem rd_s {tl : TE} {g : TG} {tb : TS} {D : Ends} {σ : St} {H : Hp} : tFor (iStr tl) g tb D σ H = tl σ H fun v H1 => ∃ x, v = .str x ∧ ForS x g tb D σ H1 := rfl
theorem ForS.by {l : List Nat} {g : TG} {tb : TS} {D : Ends} {σ : St} {H : Hp} (Pv : Nat → St → Hp → Prop) (h0 : Pv 0 σ H)
    (hs : ∀ i c σ H, l[i]? = some c → Pv i σ H → g (.str (tx [c])) σ H fun σ2 H2 => tb { D with nx := Pv (i + 1), ct := Pv (i + 1), bk := D.nx } σ2 H2) (hd : ∀ σ H, Pv l.length σ H → D.nx σ H) : ForS (tx l) g tb D σ H := for_str Pv h0 hs hd
def ForE (x : Str) (g : TG) (tb : TS) (D : Ends) (σ : St) (H : Hp) : Prop := ∃ W : Nat → Nat → St → Hp → Prop, (∃ m, W 0 m σ H) ∧ ∀ i m σ H, W i m σ H →
  ((Ite x).stop i H ∧ D.nx σ H) ∨ ((Ite x).go i H ∧ ∃ N : St → Hp → Prop, (∀ σ' H', N σ' H' → ∃ m', m' < m ∧ W (i + 1) m' σ' H') ∧ ∀ v H', (Ite x).yld i H v H' → g v σ H' fun σ2 H2 => tb { D with nx := N, ct := N, bk := D.nx } σ2 H2)
theorem rd_e {ta : TA} {g : TG} {tb : TS} {D : Ends} {σ : St} {H : Hp} : tFor (iEnum ta) g tb D σ H = ta σ H fun vs H1 => ∃ x, vs = [.str x] ∧ ForE x g tb D σ H1 := rfl
/-! ### data -/
theorem cut_to {α : Type} (l : List α) {k : Int} (h : 0 ≤ k) : cut l none (some k) = l.take k.toNat := by
  obtain ⟨n, rfl⟩ := Int.eq_ofNat_of_zero_le h
  unfold cut
  rw [HT.sIx_none, HT.sIx_nat, List.drop_zero, Nat.sub_zero]
  by_cases q : n ≤ l.length
  · rw [Nat.min_eq_left q]; rfl
  · rw [Nat.min_eq_right (by omega), List.take_length, List.take_of_length_le (by simp; omega)]
theorem cut_from {α : Type} (l : List α) {k : Int} (h : 0 ≤ k) : cut l (some k) none = l.drop k.toNat := by
  obtain ⟨n, rfl⟩ := Int.eq_ofNat_of_zero_le h
  unfold cut
  rw [HT.sIx_none, HT.sIx_nat]
  by_cases q : n ≤ l.length
  · rw [Nat.min_eq_left q]
    rw [List.take_of_length_le (by rw [List.length_drop] <;> omega)]
    rfl
  · rw [Nat.min_eq_right (by omega), List.drop_length, List.drop_of_length_le (by simp; omega)]
    simp
theorem atI_of {α : Type} {xs : List α} {i : Int} (h0 : 0 ≤ i) (h1 : i < xs.length) : ∃ v, atI xs i = some v ∧ xs[i.toNat]? = some v := by
  obtain ⟨n, rfl⟩ := Int.eq_ofNat_of_zero_le h0
  have hn : n < xs.length := by omega
  exact ⟨xs[n], atI_nat (List.getElem?_eq_getElem hn), List.getElem?_eq_getElem hn⟩
def alpha : List Nat := [97, 98, 99, 100, 101, 102, 103, 104, 105, 106, 107, 108, 109, 110, 111, 112, 113, 114, 115, 116, 117, 118, 119, 120, 121, 122]
theorem alpha_txt : (("abcdefghijklmnopqrstuvwxyz" : Str)) = tx alpha := by decide +kernel
theorem sl16 : (sizeLine : Nat) = 16777216 := sizeLine_eq

theorem cxK {CX P w K mg base N q sc f cd A o s H E} : (cxOf CX P w K mg base N q sc f cd A o s H E).K = K := rfl
theorem cxP {CX P w K mg base N q sc f cd A o s H E} : (cxOf CX P w K mg base N q sc f cd A o s H E).prog = P := rfl
theorem cxW {CX P w K mg base N q sc f cd A o s H E} : (cxOf CX P w K mg base N q sc f cd A o s H E).w = w := rfl
theorem sc_ii {a b : Int} : scal (.int a) (.int b) = true := rfl
theorem sc_ss {a b : Str} : scal (.str a) (.str b) = true := rfl
theorem sc_bb {a b : Bool} : scal (.bl a) (.bl b) = true := rfl
theorem sc_ns {b : Str} : scal .non (.str b) = true := rfl
theorem sc_sn {b : Str} : scal (.str b) .non = true := rfl
theorem same_upd {H : Hp} {p : Addr} {o : HO} (h : H p = none) : Same H (upd H p o) := fun b u e => by
  rw [upd_ne (ne_of_none e h)]
  exact e
theorem take_one {α : Type} {l : List α} {i : Nat} {c : α} (h : l[i]? = some c) : l.take (i + 1) = l.take i ++ [c] := by
  rw [List.take_add_one, h]; rfl
end L3

set_option Elab.async false
set_option linter.all false
set_option maxRecDepth 100000
set_option maxHeartbeats 4000000
namespace L3
open PySem PySem.Spec PyProof.Rows L2

/-! ### a def with values for what is left out -/
/-! ### an exception with one value -/
section
variable {X : Cx}
def rNin : R2 := fun x y H Q => ∃ c l, x = .str (tx [c]) ∧ y = .str (tx l) ∧ Q (.bl (!decide (c ∈ l))) H
def rIn1 : R2 := fun x y H Q => ∃ c l, x = .str (tx [c]) ∧ y = .str (tx l) ∧ Q (.bl (decide (c ∈ l))) H
def rIsN : R2 := fun x y H Q => y = .non ∧ Q (.bl (decide (x = .non))) H
def rNotN : R2 := fun x y H Q => y = .non ∧ Q (.bl (!decide (x = .non))) H
def rMax2 : List V → Hp → VK → Prop := fun xs H Q => ∃ i j, xs = [.int i, .int j] ∧ Q (.int (if j > i then j else i)) H
def rGe : R2 := fun x y H Q => ∃ i j, x = .int i ∧ y = .int j ∧ Q (.bl (decide (j ≤ i))) H
def tTru (K : PySem.W.Frag) (ta : TE) : TT := fun σ H Q => ta σ H fun x H' => ∃ k, TruV K x H' k ∧ Q k H'
end
/-! ### the first place that is wrong -/
def BadAt (ls l : List Nat) (m : Int) (k : Nat) : Prop := ∃ c, l[k]? = some c ∧ (m ≤ k ∨ c ∉ ls)
def FB (ls l : List Nat) (m : Int) (k : Nat) : Prop := BadAt ls l m k ∧ ∀ j < k, ¬ BadAt ls l m j
def NB (ls l : List Nat) (m : Int) : Prop := ∀ j, ¬ BadAt ls l m j
theorem FB.nb {ls l : List Nat} {m : Int} {k : Nat} (h : FB ls l m k) (n : NB ls l m) : False := n k h.1
end L3

set_option Elab.async false
set_option linter.all false
set_option maxRecDepth 100000
set_option maxHeartbeats 4000000
namespace L3
open PySem PySem.Spec PyProof.Rows L2

/-! ### data: what a value is, with all that lies below it -/
inductive D where
  | non | bl (b : Bool) | int (i : Int) | str (x : Str) | lst (l : List D) | tup (l : List D)
mutual
def Is (K : PySem.W.Frag) (H : Hp) : D → V → Prop
  | .non, v => v = .non
  | .bl b, v => v = .bl b
  | .int i, v => v = .int i
  | .str x, v => v = .str x
  | .lst l, v => ∃ a xs, v = .ref a ∧ SqL K H a xs ∧ Iss K H l xs
  | .tup l, v => ∃ a xs, v = .ref a ∧ SqT K H a xs ∧ Iss K H l xs
def Iss (K : PySem.W.Frag) (H : Hp) : List D → List V → Prop
  | [], vs => vs = []
  | d :: l, vs => ∃ v r, vs = v :: r ∧ Is K H d v ∧ Iss K H l r
end
mutual
def eqD : D → D → Bool
  | .non, .non => true
  | .bl a, .bl b => a == b
  | .bl a, .int b => (if a then 1 else 0) == b
  | .int a, .bl b => a == (if b then 1 else 0)
  | .int a, .int b => a == b
  | .str a, .str b => a == b
  | .lst l, .lst m => eqDs l m
  | .tup l, .tup m => eqDs l m
  | _, _ => false
def eqDs : List D → List D → Bool
  | [], [] => true
  | d :: l, e :: m => eqD d e && eqDs l m
  | _, _ => false
end
mutual
def dpD : D → Nat
  | .lst l => dpDs l + 1
  | .tup l => dpDs l + 1
  | _ => 0
def dpDs : List D → Nat
  | [] => 0
  | d :: l => max (dpD d) (dpDs l)
end
theorem dp_at : ∀ {l : List D} {j : Nat} {d : D}, l[j]? = some d → dpD d ≤ dpDs l
  | d :: l, 0, _, h => by
    cases h
    simp only [dpDs]
    omega
  | d :: l, j + 1, e, h => by
    have := dp_at (l := l) (j := j) (d := e) h
    simp only [dpDs]
    omega
mutual
theorem eqD_refl : ∀ d : D, eqD d d = true
  | .non => rfl
  | .bl b => by simp [eqD]
  | .int i => by simp [eqD]
  | .str x => by simp [eqD]
  | .lst l => by simp only [eqD]; exact eqDs_refl l
  | .tup l => by simp only [eqD]; exact eqDs_refl l
theorem eqDs_refl : ∀ l : List D, eqDs l l = true
  | [] => rfl
  | d :: l => by simp only [eqDs, eqD_refl d, eqDs_refl l, Bool.and_self]
end
theorem Iss.len {K : PySem.W.Frag} {H : Hp} : ∀ {l : List D} {vs : List V}, Iss K H l vs → vs.length = l.length
  | [], vs, h => by simp only [Iss] at h; rw [h]; rfl
  | d :: l, vs, h => by
    simp only [Iss] at h
    obtain ⟨v, r, rfl, _, h2⟩ := h
    simp only [List.length_cons, Iss.len h2]
theorem Iss.at {K : PySem.W.Frag} {H : Hp} : ∀ {l : List D} {vs : List V} {j : Nat} {d : D}, Iss K H l vs → l[j]? = some d → ∃ v, vs[j]? = some v ∧ Is K H d v
  | d :: l, vs, 0, _, h, q => by
    cases q
    simp only [Iss] at h
    obtain ⟨v, r, rfl, h1, _⟩ := h
    exact ⟨v, rfl, h1⟩
  | d :: l, vs, j + 1, e, h, q => by
    simp only [Iss] at h
    obtain ⟨v, r, rfl, _, h2⟩ := h
    exact Iss.at (j := j) h2 q
theorem Iss.ints {K : PySem.W.Frag} {H : Hp} : ∀ (l : List Int), Iss K H (l.map D.int) (l.map V.int)
  | [] => by simp only [List.map_nil, Iss]
  | i :: l => by
    simp only [List.map_cons, Iss, Is]
    exact ⟨_, _, rfl, rfl, Iss.ints l⟩
theorem seqT_same {K : PySem.W.Frag} {H H' : Hp} {a : Addr} {xs : List V} (e : Same H H') (h : SqT K H a xs) : SqT K H' a xs := by
  rcases h with (h | ⟨o, h⟩) | h
  · exact .inl (.inl (e _ _ h))
  · exact .inl (.inr ⟨o, e _ _ h⟩)
  · exact .inr h
mutual
theorem Is.same {K : PySem.W.Frag} {H H' : Hp} (e : Same H H') : ∀ (d : D) (v : V), Is K H d v → Is K H' d v
  | .non, v, h => by simp only [Is] at h ⊢; exact h
  | .bl b, v, h => by simp only [Is] at h ⊢; exact h
  | .int b, v, h => by simp only [Is] at h ⊢; exact h
  | .str b, v, h => by simp only [Is] at h ⊢; exact h
  | .lst l, v, h => by
    simp only [Is] at h ⊢
    obtain ⟨a, xs, e1, e2, e3⟩ := h
    exact ⟨a, xs, e1, e.seq e2, Iss.same e l xs e3⟩
  | .tup l, v, h => by
    simp only [Is] at h ⊢
    obtain ⟨a, xs, e1, e2, e3⟩ := h
    exact ⟨a, xs, e1, seqT_same e e2, Iss.same e l xs e3⟩
theorem Iss.same {K : PySem.W.Frag} {H H' : Hp} (e : Same H H') : ∀ (l : List D) (vs : List V), Iss K H l vs → Iss K H' l vs
  | [], vs, h => by simp only [Iss] at h ⊢; exact h
  | d :: l, vs, h => by
    simp only [Iss] at h ⊢
    obtain ⟨v, r, e1, e2, e3⟩ := h
    exact ⟨v, r, e1, Is.same e d v e2, Iss.same e l r e3⟩
end
/-- how the library counts it -/
theorem eqDs_is : ∀ (l m : List D), eqDs l m = ((List.range (min l.length m.length)).all (fun j => eqD (l.getD j .non) (m.getD j .non)) && l.length == m.length)
  | [], [] => rfl
  | [], e :: m => by simp [eqDs]
  | d :: l, [] => by simp [eqDs]
  | d :: l, e :: m => by
    simp only [eqDs, eqDs_is l m, List.length_cons]
    have h1 : min (l.length + 1) (m.length + 1) = min l.length m.length + 1 := by omega
    rw [h1, List.range_succ_eq_map, List.all_cons, List.all_map]
    have h2 : (l.length + 1 == m.length + 1) = (l.length == m.length) := by
      rw [Bool.eq_iff_iff, beq_iff_eq, beq_iff_eq]; omega
    rw [h2]
    simp only [List.getD_cons_zero, Bool.and_assoc]
    rfl
section
variable {X : Cx} {pins : List (Addr × Obj)} {σ : St} {H : Hp} {s : Shared}
theorem seq_kinds {a : Addr} {xs ys : List V} (I : Inv X pins σ H s) (h : SqL X.K H a xs) (g : SqT X.K H a ys) : False := by
  obtain ⟨its, r, ⟨o, n, e, c, _, d⟩, _⟩ := I.list h
  obtain ⟨its', r', ⟨o', e', c', n', d'⟩, _⟩ := I.tuple g
  rw [e] at e'
  cases e'
  rw [c] at c'
  exact absurd (Value.type.inj c') (by decide)
mutual
theorem is_det (I : Inv X pins σ H s) : ∀ (d e : D) (v : V), Is X.K H d v → Is X.K H e v → d = e
  | .lst l, .lst m, v, h, g => by
    simp only [Is] at h g
    obtain ⟨a, xs, rfl, h1, h2⟩ := h
    obtain ⟨b, ys, e, g1, g2⟩ := g
    cases e
    have := I.list_inj h1 g1
    subst this
    rw [iss_det I l m xs h2 g2]
  | .tup l, .tup m, v, h, g => by
    simp only [Is] at h g
    obtain ⟨a, xs, rfl, h1, h2⟩ := h
    obtain ⟨b, ys, e, g1, g2⟩ := g
    cases e
    have := I.tuple_inj h1 g1
    subst this
    rw [iss_det I l m xs h2 g2]
  | .lst l, .tup m, v, h, g => by
    simp only [Is] at h g
    obtain ⟨a, xs, rfl, h1, h2⟩ := h
    obtain ⟨b, ys, e, g1, g2⟩ := g
    cases e
    exact (seq_kinds I h1 g1).elim
  | .tup l, .lst m, v, h, g => by
    simp only [Is] at h g
    obtain ⟨a, xs, rfl, h1, h2⟩ := h
    obtain ⟨b, ys, e, g1, g2⟩ := g
    cases e
    exact (seq_kinds I g1 h1).elim
  | .lst l, .non, v, h, g => by simp only [Is] at h g; obtain ⟨a, xs, rfl, _⟩ := h; cases g
  | .lst l, .bl _, v, h, g => by simp only [Is] at h g; obtain ⟨a, xs, rfl, _⟩ := h; cases g
  | .lst l, .int _, v, h, g => by simp only [Is] at h g; obtain ⟨a, xs, rfl, _⟩ := h; cases g
  | .lst l, .str _, v, h, g => by simp only [Is] at h g; obtain ⟨a, xs, rfl, _⟩ := h; cases g
  | .tup l, .non, v, h, g => by simp only [Is] at h g; obtain ⟨a, xs, rfl, _⟩ := h; cases g
  | .tup l, .bl _, v, h, g => by simp only [Is] at h g; obtain ⟨a, xs, rfl, _⟩ := h; cases g
  | .tup l, .int _, v, h, g => by simp only [Is] at h g; obtain ⟨a, xs, rfl, _⟩ := h; cases g
  | .tup l, .str _, v, h, g => by simp only [Is] at h g; obtain ⟨a, xs, rfl, _⟩ := h; cases g
  | .non, e, v, h, g => by
    simp only [Is] at h
    subst h
    cases e <;> simp only [Is] at g
    all_goals first | rfl | (obtain ⟨a, xs, q, _⟩ := g; cases q) | cases g
  | .bl _, e, v, h, g => by
    simp only [Is] at h
    subst h
    cases e <;> simp only [Is] at g
    all_goals first | (cases g; rfl) | (obtain ⟨a, xs, q, _⟩ := g; cases q) | cases g
  | .int _, e, v, h, g => by
    simp only [Is] at h
    subst h
    cases e <;> simp only [Is] at g
    all_goals first | (cases g; rfl) | (obtain ⟨a, xs, q, _⟩ := g; cases q) | cases g
  | .str _, e, v, h, g => by
    simp only [Is] at h
    subst h
    cases e <;> simp only [Is] at g
    all_goals first | (cases g; rfl) | (obtain ⟨a, xs, q, _⟩ := g; cases q) | cases g
theorem iss_det (I : Inv X pins σ H s) : ∀ (l m : List D) (vs : List V), Iss X.K H l vs → Iss X.K H m vs → l = m
  | [], [], _, _, _ => rfl
  | [], e :: m, vs, h, g => by
    simp only [Iss] at h g
    subst h
    obtain ⟨_, _, q, _⟩ := g
    cases q
  | d :: l, [], vs, h, g => by
    simp only [Iss] at h g
    subst g
    obtain ⟨_, _, q, _⟩ := h
    cases q
  | d :: l, e :: m, vs, h, g => by
    simp only [Iss] at h g
    obtain ⟨v, r, rfl, h1, h2⟩ := h
    obtain ⟨v', r', q, g1, g2⟩ := g
    cases q
    rw [is_det I d e v h1 g1, iss_det I l m r h2 g2]
end
theorem vals_at : ∀ {xs : List V} {us : List Value} {j : Nat} {x : V}, Vals xs us → xs[j]? = some x → ∃ u, us[j]? = some u ∧ RelV x u
  | _, _, 0, _, .cons r t, h => by cases h; exact ⟨_, rfl, r⟩
  | _, _, j + 1, _, .cons r t, h => vals_at (j := j) t h
theorem items_at {l m : List D} {xs ys : List V} {its its' : List Value} {A : Around} {n : Nat} (hl : Iss X.K H l xs) (hm : Iss X.K H m ys) (r : Vals xs its) (r' : Vals ys its') (hn : dpDs l < n)
    (ih : ∀ (d e : D) (x y : V) (u v : Value), dpD d < n → Is X.K H d x → Is X.K H e y → RelV x u → RelV y v → SeqAt.EqAt A s u v (eqD d e)) :
    ∀ j (h1 : j < its.toArray.size) (h2 : j < its'.toArray.size), SeqAt.EqAt A s its.toArray[j] its'.toArray[j] (eqD (l.getD j .non) (m.getD j .non)) := by
  intro j h1 h2
  rw [List.size_toArray] at h1 h2
  have e1 := hl.len
  have e2 := hm.len
  have e3 := r.length
  have e4 := r'.length
  have g1 : l[j]? = some l[j] := List.getElem?_eq_getElem (by omega)
  have g2 : m[j]? = some m[j] := List.getElem?_eq_getElem (by omega)
  generalize l[j] = d at g1
  generalize m[j] = e at g2
  obtain ⟨x, hx, ix⟩ := hl.at g1
  obtain ⟨y, hy, iy⟩ := hm.at g2
  obtain ⟨u, hu, ru⟩ := vals_at r hx
  obtain ⟨v, hv, rv⟩ := vals_at r' hy
  have q1 : its.toArray[j] = u := by
    have := (List.getElem?_eq_some_iff.mp hu).2
    simpa using this
  have q2 : its'.toArray[j] = v := by
    have := (List.getElem?_eq_some_iff.mp hv).2
    simpa using this
  rw [q1, q2, List.getD_eq_getElem?_getD, List.getD_eq_getElem?_getD, g1, g2]
  exact ih d e x y u v (Nat.lt_of_le_of_lt (dp_at g1) hn) ix iy ru rv
theorem eqAt_D (I : Inv X pins σ H s) : ∀ (n : Nat) (A : Around) (d e : D) (x y : V) (u v : Value), A.units + n < cLine → dpD d < n → Is X.K H d x → Is X.K H e y → RelV x u → RelV y v → SeqAt.EqAt A s u v (eqD d e) := by
  intro n
  induction n with
  | zero => intro A d e x y u v _ h; exact absurd h (Nat.not_lt_zero _)
  | succ n ih =>
    intro A d e x y u v hu hd hx hy rx ry
    have hu1 : A.units < cLine := by omega
    have huA : A.in1.units + n < cLine := by show A.units + 1 + n < cLine; omega
    cases d with
    | lst l =>
      simp only [Is] at hx
      obtain ⟨a, xs, rfl, h1, h2⟩ := hx
      cases rx
      obtain ⟨its, r, p, _⟩ := I.list h1
      cases e with
      | non => simp only [Is] at hy; subst hy; cases ry; exact SeqAt.EqAt.list_none p.isList hu1
      | bl b => simp only [Is] at hy; subst hy; cases ry; exact SeqAt.EqAt.list_bool b p.isList hu1
      | int b => simp only [Is] at hy; subst hy; obtain ⟨t, rfl⟩ := ry; exact SeqAt.EqAt.list_int b t p.isList hu1
      | str b => simp only [Is] at hy; subst hy; obtain ⟨t, rfl⟩ := ry; exact SeqAt.EqAt.list_str b t p.isList hu1
      | tup m =>
        simp only [Is] at hy
        obtain ⟨b, ys, rfl, g1, g2⟩ := hy
        cases ry
        obtain ⟨its', r', p', _⟩ := I.tuple g1
        exact SeqAt.EqAt.list_tuple p.isList p' hu1
      | lst m =>
        have hy' := hy
        simp only [Is] at hy
        obtain ⟨b, ys, rfl, g1, g2⟩ := hy
        cases ry
        obtain ⟨its', r', p', _⟩ := I.list g1
        simp only [dpD] at hd
        by_cases hab : a = b
        · subst hab
          have := is_det I (.lst l) (.lst m) (.ref a) (by simp only [Is]; exact ⟨a, xs, rfl, h1, h2⟩) hy'
          rw [this, eqD_refl]
          exact SeqAt.EqAt.same _
        · refine .of_refs hab ?_
          simp only [eqD]
          have L1 := h2.len
          have L2 := g2.len
          have L3 := r.length
          have L4 := r'.length
          by_cases hl : l.length = m.length
          · have := SeqAt.RcAt.lists (A := A) p.isList p'.isList (by simp only [List.size_toArray]; omega) hu1 (items_at h2 g2 r r' (n := n) (by omega) fun d e x y u v q1 q2 q3 q4 q5 => ih A.in1 d e x y u v huA q1 q2 q3 q4 q5)
            rw [eqDs_is, hl, Nat.min_self, beq_self_eq_true, Bool.and_true]
            have e1 : its.toArray.size = m.length := by simp only [List.size_toArray]; omega
            rw [e1] at this
            exact this
          · rw [eqDs_is, beq_eq_false_iff_ne.mpr hl, Bool.and_false]
            exact SeqAt.RcAt.lists_lengths p.isList p'.isList (by rw [bne_iff_ne]; simp only [List.size_toArray]; omega) hu1
    | tup l =>
      simp only [Is] at hx
      obtain ⟨a, xs, rfl, h1, h2⟩ := hx
      cases rx
      obtain ⟨its, r, p, _⟩ := I.tuple h1
      cases e with
      | non => simp only [Is] at hy; subst hy; cases ry; exact SeqAt.EqAt.tuple_none p hu1
      | bl b => simp only [Is] at hy; subst hy; cases ry; exact SeqAt.EqAt.tuple_bool b p hu1
      | int b => simp only [Is] at hy; subst hy; obtain ⟨t, rfl⟩ := ry; exact SeqAt.EqAt.tuple_int b t p hu1
      | str b => simp only [Is] at hy; subst hy; obtain ⟨t, rfl⟩ := ry; exact SeqAt.EqAt.tuple_str b t p hu1
      | lst m =>
        simp only [Is] at hy
        obtain ⟨b, ys, rfl, g1, g2⟩ := hy
        cases ry
        obtain ⟨its', r', p', _⟩ := I.list g1
        exact SeqAt.EqAt.tuple_list p p'.isList hu1
      | tup m =>
        have hy' := hy
        simp only [Is] at hy
        obtain ⟨b, ys, rfl, g1, g2⟩ := hy
        cases ry
        obtain ⟨its', r', p', _⟩ := I.tuple g1
        simp only [dpD] at hd
        by_cases hab : a = b
        · subst hab
          have := is_det I (.tup l) (.tup m) (.ref a) (by simp only [Is]; exact ⟨a, xs, rfl, h1, h2⟩) hy'
          rw [this, eqD_refl]
          exact SeqAt.EqAt.same _
        · refine .of_refs hab ?_
          simp only [eqD]
          have L1 := h2.len
          have L2 := g2.len
          have L3 := r.length
          have L4 := r'.length
          have := SeqAt.RcAt.tuples (A := A) p p' hu1 (items_at h2 g2 r r' (n := n) (by omega) fun d e x y u v q1 q2 q3 q4 q5 => ih A.in1 d e x y u v huA q1 q2 q3 q4 q5)
          rw [eqDs_is]
          simp only [List.size_toArray] at this
          rw [← L1, ← L2, L3, L4]
          exact this
    | non =>
      simp only [Is] at hx
      subst hx
      cases e with
      | lst m =>
        simp only [Is] at hy
        obtain ⟨b, ys, rfl, g1, g2⟩ := hy
        cases rx; cases ry
        obtain ⟨its', r', p', _⟩ := I.list g1
        exact SeqAt.EqAt.none_list p'.isList hu1
      | tup m =>
        simp only [Is] at hy
        obtain ⟨b, ys, rfl, g1, g2⟩ := hy
        cases rx; cases ry
        obtain ⟨its', r', p', _⟩ := I.tuple g1
        exact SeqAt.EqAt.none_tuple p' hu1
      | _ => simp only [Is] at hy; subst hy; exact eqAt_V rx ry rfl rfl
    | bl c =>
      simp only [Is] at hx
      subst hx
      cases e with
      | lst m =>
        simp only [Is] at hy
        obtain ⟨b, ys, rfl, g1, g2⟩ := hy
        cases rx; cases ry
        obtain ⟨its', r', p', _⟩ := I.list g1
        exact SeqAt.EqAt.bool_list _ p'.isList hu1
      | tup m =>
        simp only [Is] at hy
        obtain ⟨b, ys, rfl, g1, g2⟩ := hy
        cases rx; cases ry
        obtain ⟨its', r', p', _⟩ := I.tuple g1
        exact SeqAt.EqAt.bool_tuple _ p' hu1
      | _ => simp only [Is] at hy; subst hy; exact eqAt_V rx ry rfl rfl
    | int c =>
      simp only [Is] at hx
      subst hx
      cases e with
      | lst m =>
        simp only [Is] at hy
        obtain ⟨b, ys, rfl, g1, g2⟩ := hy
        obtain ⟨t, rfl⟩ := rx; cases ry
        obtain ⟨its', r', p', _⟩ := I.list g1
        exact SeqAt.EqAt.int_list _ _ p'.isList hu1
      | tup m =>
        simp only [Is] at hy
        obtain ⟨b, ys, rfl, g1, g2⟩ := hy
        obtain ⟨t, rfl⟩ := rx; cases ry
        obtain ⟨its', r', p', _⟩ := I.tuple g1
        exact SeqAt.EqAt.int_tuple _ _ p' hu1
      | _ => simp only [Is] at hy; subst hy; exact eqAt_V rx ry rfl rfl
    | str c =>
      simp only [Is] at hx
      subst hx
      cases e with
      | lst m =>
        simp only [Is] at hy
        obtain ⟨b, ys, rfl, g1, g2⟩ := hy
        obtain ⟨t, rfl⟩ := rx; cases ry
        obtain ⟨its', r', p', _⟩ := I.list g1
        exact SeqAt.EqAt.str_list _ _ p'.isList hu1
      | tup m =>
        simp only [Is] at hy
        obtain ⟨b, ys, rfl, g1, g2⟩ := hy
        obtain ⟨t, rfl⟩ := rx; cases ry
        obtain ⟨its', r', p', _⟩ := I.tuple g1
        exact SeqAt.EqAt.str_tuple _ _ p' hu1
      | _ => simp only [Is] at hy; subst hy; exact eqAt_V rx ry rfl rfl
/-- two lists, or two tuples: == and != -/
def rEqL (K : PySem.W.Frag) : R2 := fun x y H Q => ∃ l m, ((Is K H (.lst l) x ∧ Is K H (.lst m) y) ∨ (Is K H (.tup l) x ∧ Is K H (.tup m) y)) ∧ dpDs l < 50 ∧ Q (.bl (eqDs l m)) H
def rNeL (K : PySem.W.Frag) : R2 := fun x y H Q => ∃ l m, ((Is K H (.lst l) x ∧ Is K H (.lst m) y) ∨ (Is K H (.tup l) x ∧ Is K H (.tup m) y)) ∧ dpDs l < 50 ∧ Q (.bl (!eqDs l m)) H
theorem op_eqL (hu : X.A.units + 100 < cLine) : OpR X (compareOp .Eq) (rEqL X.K) := by
  intro pins s σ H x y v u Q I rx ry h
  obtain ⟨l, m, hh, hd, q⟩ := h
  have hu1 : X.A.units < cLine := by omega
  have huA : X.A.in1.units + 50 < cLine := by show X.A.units + 1 + 50 < cLine; omega
  rcases hh with ⟨hx, hy⟩ | ⟨hx, hy⟩
  · simp only [Is] at hx hy
    obtain ⟨a, xs, rfl, h1, h2⟩ := hx
    obtain ⟨b, ys, rfl, g1, g2⟩ := hy
    cases rx; cases ry
    obtain ⟨its, r, p, _⟩ := I.list h1
    obtain ⟨its', r', p', _⟩ := I.list g1
    have L1 := h2.len
    have L2 := g2.len
    have L3 := r.length
    have L4 := r'.length
    by_cases hl : l.length = m.length
    · have := SeqAt.RcAt.lists (A := X.A) p.isList p'.isList (by simp only [List.size_toArray]; omega) hu1 (items_at h2 g2 r r' (n := 50) hd fun d e x y u v q1 q2 q3 q4 q5 => eqAt_D I 50 X.A.in1 d e x y u v huA q1 q2 q3 q4 q5)
      have e1 : its.toArray.size = m.length := by simp only [List.size_toArray]; omega
      rw [e1] at this
      rw [eqDs_is, hl, Nat.min_self, beq_self_eq_true, Bool.and_true] at q
      exact this X.prog X.w X.xe _ ⟨.bl _, H, I, rfl, q⟩
    · rw [eqDs_is, beq_eq_false_iff_ne.mpr hl, Bool.and_false] at q
      exact SeqAt.RcAt.lists_lengths p.isList p'.isList (by rw [bne_iff_ne]; simp only [List.size_toArray]; omega) hu1 X.prog X.w X.xe _ ⟨.bl _, H, I, rfl, q⟩
  · simp only [Is] at hx hy
    obtain ⟨a, xs, rfl, h1, h2⟩ := hx
    obtain ⟨b, ys, rfl, g1, g2⟩ := hy
    cases rx; cases ry
    obtain ⟨its, r, p, _⟩ := I.tuple h1
    obtain ⟨its', r', p', _⟩ := I.tuple g1
    have L1 := h2.len
    have L2 := g2.len
    have L3 := r.length
    have L4 := r'.length
    have := SeqAt.RcAt.tuples (A := X.A) p p' hu1 (items_at h2 g2 r r' (n := 50) hd fun d e x y u v q1 q2 q3 q4 q5 => eqAt_D I 50 X.A.in1 d e x y u v huA q1 q2 q3 q4 q5)
    simp only [List.size_toArray] at this
    rw [eqDs_is, ← L1, ← L2, L3, L4] at q
    exact this X.prog X.w X.xe _ ⟨.bl _, H, I, rfl, q⟩
theorem op_neL (hu : X.A.units + 100 < cLine) : OpR X (compareOp .NotEq) (rNeL X.K) := by
  intro pins s σ H x y v u Q I rx ry h
  obtain ⟨l, m, hh, hd, q⟩ := h
  have hu1 : X.A.units < cLine := by omega
  have huA : X.A.in1.units + 50 < cLine := by show X.A.units + 1 + 50 < cLine; omega
  rcases hh with ⟨hx, hy⟩ | ⟨hx, hy⟩
  · simp only [Is] at hx hy
    obtain ⟨a, xs, rfl, h1, h2⟩ := hx
    obtain ⟨b, ys, rfl, g1, g2⟩ := hy
    cases rx; cases ry
    obtain ⟨its, r, p, _⟩ := I.list h1
    obtain ⟨its', r', p', _⟩ := I.list g1
    have L1 := h2.len
    have L2 := g2.len
    have L3 := r.length
    have L4 := r'.length
    by_cases hl : l.length = m.length
    · have := SeqAt.RcNeAt.lists (A := X.A) p.isList p'.isList (by simp only [List.size_toArray]; omega) hu1 (items_at h2 g2 r r' (n := 50) hd fun d e x y u v q1 q2 q3 q4 q5 => eqAt_D I 50 X.A.in1 d e x y u v huA q1 q2 q3 q4 q5)
      have e1 : its.toArray.size = m.length := by simp only [List.size_toArray]; omega
      rw [e1] at this
      rw [eqDs_is, hl, Nat.min_self, beq_self_eq_true, Bool.and_true] at q
      exact this X.prog X.w X.xe _ ⟨.bl _, H, I, rfl, q⟩
    · rw [eqDs_is, beq_eq_false_iff_ne.mpr hl, Bool.and_false] at q
      exact SeqAt.RcNeAt.lists_lengths p.isList p'.isList (by rw [bne_iff_ne]; simp only [List.size_toArray]; omega) hu1 X.prog X.w X.xe _ ⟨.bl _, H, I, rfl, q⟩
  · simp only [Is] at hx hy
    obtain ⟨a, xs, rfl, h1, h2⟩ := hx
    obtain ⟨b, ys, rfl, g1, g2⟩ := hy
    cases rx; cases ry
    obtain ⟨its, r, p, _⟩ := I.tuple h1
    obtain ⟨its', r', p', _⟩ := I.tuple g1
    have L1 := h2.len
    have L2 := g2.len
    have L3 := r.length
    have L4 := r'.length
    have := SeqAt.RcNeAt.tuples (A := X.A) p p' hu1 (items_at h2 g2 r r' (n := 50) hd fun d e x y u v q1 q2 q3 q4 q5 => eqAt_D I 50 X.A.in1 d e x y u v huA q1 q2 q3 q4 q5)
    simp only [List.size_toArray] at this
    rw [eqDs_is, ← L1, ← L2, L3, L4] at q
    exact this X.prog X.w X.xe _ ⟨.bl _, H, I, rfl, q⟩
end
/-- two lists of ints -/
theorem eqDs_ints (l m : List Int) : eqDs (l.map D.int) (m.map D.int) = decide (l = m) := by
  induction l generalizing m with
  | nil => cases m <;> simp [eqDs]
  | cons a l ih =>
    cases m with
    | nil => simp [eqDs]
    | cons b m =>
      simp only [List.map_cons, eqDs, eqD, ih m]
      by_cases h1 : a = b
      · subst h1
        by_cases h2 : l = m
        · simp [h2]
        · simp [h2]
      · simp [h1]
theorem dp_ints (l : List Int) : dpDs (l.map D.int) = 0 := by
  induction l with
  | nil => rfl
  | cons a l ih => simp only [List.map_cons, dpDs, dpD, ih]; rfl

/-! ### comprehensions, kept shut till an invariant is told -/
abbrev CNx (n i : Nat) (Pv : Nat → List V → Hp → Prop) (acc : List V) (H : Hp) : Prop := ∃ m', m' < n - i ∧ (m' = n - (i + 1) ∧ i + 1 ≤ n ∧ Pv (i + 1) acc H)
theorem CNx.mk {n i : Nat} {Pv : Nat → List V → Hp → Prop} {acc : List V} {H : Hp} (hi : i < n) (h : Pv (i + 1) acc H) : CNx n i Pv acc H := ⟨n - (i + 1), by omega, rfl, hi, h⟩
def CompG (J : It) (g : TG) (tt : TT) (te : TE) (own : Nat) (ix : List Nat) (σ : St) (H1 : Hp) (Q : VK) (D : Addr) : Prop := ∃ W : Nat → Nat → List V → Hp → Prop, (∃ m, W 0 m [] (upd H1 D (.lst []))) ∧
  ∀ i m acc H', W i m acc H' → (J.stop i H' ∧ Q (.ref D) H') ∨ (J.go i H' ∧ ∀ x H2, J.yld i H' x H2 → g x (seen σ own ix) H2 fun σ3 H3 => KeepsSt (seen σ own ix) σ3 ∧ tt σ3 H3 fun b H4 => if b = true then
    te σ3 H4 fun v H5 => H5 D = some (.lst acc) ∧ acc.length < sizeLine ∧ ∃ m', m' < m ∧ W (i + 1) m' (acc ++ [v]) (upd H5 D (.lst (acc ++ [v])))
    else ∃ m', m' < m ∧ W (i + 1) m' acc H4)
def CompR (lo : Int) (n : Nat) (g : TG) (tt : TT) (te : TE) (own : Nat) (ix : List Nat) (σ : St) (H1 : Hp) (Q : VK) (D : Addr) : Prop := CompG (Itr lo n) g tt te own ix σ H1 Q D
def CompL (K : PySem.W.Frag) (a : Addr) (g : TG) (tt : TT) (te : TE) (own : Nat) (ix : List Nat) (σ : St) (H1 : Hp) (Q : VK) (D : Addr) : Prop := CompG (Itl K a) g tt te own ix σ H1 Q D
def CompS (x : Str) (g : TG) (tt : TT) (te : TE) (own : Nat) (ix : List Nat) (σ : St) (H1 : Hp) (Q : VK) (D : Addr) : Prop := CompG (Its x) g tt te own ix σ H1 Q D
theorem rd_cr1 {ta : TA} {g : TG} {tt : TT} {te : TE} {own : Nat} {ix : List Nat} {σ : St} {H : Hp} {Q : VK} : tComp (iRng1 ta) g tt te own ix σ H Q = ta σ H fun vs H1 => ∃ j : Int, vs = [.int j] ∧ -(2 ^ 62) ≤ j ∧ j < 2 ^ 62 ∧ ∀ D, H1 D = none → CompR 0 j.toNat g tt te own ix σ H1 Q D := rfl
theorem rd_cl {K : PySem.W.Frag} {tl : TE} {g : TG} {tt : TT} {te : TE} {own : Nat} {ix : List Nat} {σ : St} {H : Hp} {Q : VK} : tComp (iList K tl) g tt te own ix σ H Q = tl σ H fun x H1 => ∃ a, x = .ref a ∧ (∃ xs, SqL K H1 a xs) ∧ ∀ D, H1 D = none → CompL K a g tt te own ix σ H1 Q D := rfl
theorem rd_cs {tl : TE} {g : TG} {tt : TT} {te : TE} {own : Nat} {ix : List Nat} {σ : St} {H : Hp} {Q : VK} : tComp (iStr tl) g tt te own ix σ H Q = tl σ H fun v H1 => ∃ x, v = .str x ∧ ∀ D, H1 D = none → CompS x g tt te own ix σ H1 Q D := rfl
section
variable {g : TG} {tt : TT} {te : TE} {own : Nat} {ix : List Nat} {σ : St} {H1 : Hp} {Q : VK} {D : Addr}
theorem CompL.by {K : PySem.W.Frag} {a : Addr} {xs : List V} (Pv : Nat → List V → Hp → Prop) (h0 : Pv 0 [] (upd H1 D (.lst []))) (hl : ∀ i acc H', i ≤ xs.length → Pv i acc H' → SqL K H' a xs)
    (hs : ∀ i x acc H', xs[i]? = some x → Pv i acc H' → g x (seen σ own ix) H' fun σ3 H3 => KeepsSt (seen σ own ix) σ3 ∧ tt σ3 H3 fun b H4 => if b = true then
      te σ3 H4 fun v H5 => H5 D = some (.lst acc) ∧ acc.length < sizeLine ∧ CNx xs.length i Pv (acc ++ [v]) (upd H5 D (.lst (acc ++ [v]))) else CNx xs.length i Pv acc H4)
    (hd : ∀ acc H', Pv xs.length acc H' → Q (.ref D) H') : CompL K a g tt te own ix σ H1 Q D := by
  refine ⟨fun i m acc H => m = xs.length - i ∧ i ≤ xs.length ∧ Pv i acc H, ⟨xs.length, by simp, Nat.zero_le _, h0⟩, ?_⟩
  rintro i m acc H' ⟨rfl, hi, p⟩
  have q := hl i acc H' hi p
  by_cases hlt : i < xs.length
  · refine .inr ⟨⟨xs, xs[i], q, by simp [hlt]⟩, fun x H2 y => ?_⟩
    obtain ⟨e, y⟩ := y
    subst e
    exact hs i x acc _ (y xs q) p
  · have e : i = xs.length := by omega
    subst e
    exact .inl ⟨⟨xs, q, Nat.le_refl _⟩, hd acc H' p⟩
theorem CompS.by {l : List Nat} (Pv : Nat → List V → Hp → Prop) (h0 : Pv 0 [] (upd H1 D (.lst [])))
    (hs : ∀ i c acc H', l[i]? = some c → Pv i acc H' → g (.str (tx [c])) (seen σ own ix) H' fun σ3 H3 => KeepsSt (seen σ own ix) σ3 ∧ tt σ3 H3 fun b H4 => if b = true then
      te σ3 H4 fun v H5 => H5 D = some (.lst acc) ∧ acc.length < sizeLine ∧ CNx l.length i Pv (acc ++ [v]) (upd H5 D (.lst (acc ++ [v]))) else CNx l.length i Pv acc H4)
    (hd : ∀ acc H', Pv l.length acc H' → Q (.ref D) H') : CompS (tx l) g tt te own ix σ H1 Q D := by
  refine ⟨fun i m acc H => m = l.length - i ∧ i ≤ l.length ∧ Pv i acc H, ⟨l.length, by simp, Nat.zero_le _, h0⟩, ?_⟩
  rintro i m acc H' ⟨rfl, hi, p⟩
  by_cases hlt : i < l.length
  · refine .inr ⟨hlt, fun v H2 y => ?_⟩
    obtain ⟨e, c, hc, ev⟩ := y
    subst e ev
    exact hs i c acc _ hc p
  · have e : i = l.length := by omega
    subst e
    exact .inl ⟨rfl, hd acc H' p⟩
end
theorem keeps0 {x : V} {r : St} : KeepsSt (none :: r) (some x :: r) := ⟨rfl, fun i v h => by
  cases i with
  | zero => cases h
  | succ i => exact h⟩
/-- a comprehension's block, by closed facts of its own scope and of the def's -/
theorem compOk_of {X : Cx} {scope sc : Scope} {own caps : List Str} {ix : List Nat} (h1 : scope.kind = .function) (h2 : scope.names.all (fun y => y.2 != .cell) = true) (h3 : scope.names.all (fun y => y.2 != .local || scope.names.lookup y.1 == some .local) = true)
    (h4 : scope.names.all (fun y => y.2 != .free || sc.names.lookup y.1 == some .cell) = true) (hsc : X.env.scope = sc) (h5 : own.all (fun y => scope.names.lookup y == some .local) = true) (h6 : caps.all (fun y => scope.names.lookup y == some .free) = true) (h7 : ix.map (fun i => X.N[i]?) = caps.map some) : CompOk X scope own caps ix := by
  refine ⟨h1, fun y hy => ?_, fun y hy e => ?_, fun y hy => ?_, fun y hy => ?_, fun y hy => ?_, h7⟩
  · have := List.all_eq_true.mp h2 y hy
    simpa using this
  · have := List.all_eq_true.mp h3 y hy
    rw [e] at this
    simpa using this
  · have := List.all_eq_true.mp h4 _ hy
    have := by simpa using this
    show X.env.scope.names.lookup y = some .cell
    rw [hsc]
    exact this
  · have := List.all_eq_true.mp h5 y hy
    simpa using this
  · have := List.all_eq_true.mp h6 y hy
    simpa using this
theorem cut_mid {α : Type} (l : List α) {a b : Int} (h0 : 0 ≤ a) (h1 : a ≤ b) (h2 : b ≤ l.length) : cut l (some a) (some b) = (l.drop a.toNat).take (b - a).toNat := by
  obtain ⟨m, rfl⟩ := Int.eq_ofNat_of_zero_le h0
  obtain ⟨n, rfl⟩ := Int.eq_ofNat_of_zero_le (by omega : 0 ≤ b)
  unfold cut
  rw [HT.sIx_nat, HT.sIx_nat, Nat.min_eq_left (by omega), Nat.min_eq_left (by omega)]
  have : ((n : Int) - (m : Int)).toNat = n - m := by omega
  rw [this]
  rfl
theorem room100 {k : Nat} {A : Around} (r : Room k A) : A.units + 100 < cLine := by have := r.un; omega
end L3

set_option Elab.async false
set_option linter.all false
set_option maxRecDepth 100000
set_option maxHeartbeats 4000000
namespace L3
open PySem PySem.Spec PyProof.Rows L2
theorem use_eqL {K : PySem.W.Frag} {x y : V} {H : Hp} {Q : VK} {l m : List D} (h : (Is K H (.lst l) x ∧ Is K H (.lst m) y) ∨ (Is K H (.tup l) x ∧ Is K H (.tup m) y)) (hd : dpDs l < 50) (q : Q (.bl (eqDs l m)) H) : rEqL K x y H Q := ⟨l, m, h, hd, q⟩
theorem use_neL {K : PySem.W.Frag} {x y : V} {H : Hp} {Q : VK} {l m : List D} (h : (Is K H (.lst l) x ∧ Is K H (.lst m) y) ∨ (Is K H (.tup l) x ∧ Is K H (.tup m) y)) (hd : dpDs l < 50) (q : Q (.bl (!eqDs l m)) H) : rNeL K x y H Q := ⟨l, m, h, hd, q⟩
/-! ### a join: what is known behind a statement is told once -/
def tCut (t u : TS) : TS := fun D σ H => ∃ R : St → Hp → Prop, t { D with nx := R } σ H ∧ ∀ σ' H', R σ' H' → u D σ' H'
theorem pss_cut {X : Cx} {st : Stmt} {rest : List Stmt} {t u : TS} (h1 : PS X st t) (h2 : PSs X rest u) : PSs X (st :: rest) (tCut t u) := by
  intro pins s σ H D I h
  obtain ⟨R, h, hr⟩ := h
  refine wpAny_execs_cons (thn (h1 pins s σ H { D with nx := R } I h) fun f s1 q => ?_)
  cases f with
  | next =>
    obtain ⟨σ', H', I', q⟩ := q
    exact h2 pins s1 σ' H' D I' (hr _ _ q)
  | ret v => exact q
  | brk => exact q
  | cont => exact q
theorem cut_by {t u : TS} {D : Ends} {σ : St} {H : Hp} (R : St → Hp → Prop) (h : t { D with nx := R } σ H) (hr : ∀ σ' H', R σ' H' → u D σ' H') : tCut t u D σ H := ⟨R, h, hr⟩
theorem same_over {H H' : Hp} {a : Addr} {o : HO} (h : Same H H') (e : H a = none) : Same H (upd H' a o) := fun b u q => by
  rw [upd_ne (ne_of_none q e)]
  exact h b u q
theorem ForL.by {K : PySem.W.Frag} {a : Addr} {xs : List V} {g : TG} {tb : TS} {D : Ends} {σ : St} {H : Hp} (Pv : Nat → St → Hp → Prop) (h0 : Pv 0 σ H) (hl : ∀ i σ H, i ≤ xs.length → Pv i σ H → SqL K H a xs)
    (hs : ∀ i x σ H, xs[i]? = some x → Pv i σ H → g x σ H fun σ2 H2 => tb { D with nx := Pv (i + 1), ct := Pv (i + 1), bk := D.nx } σ2 H2) (hd : ∀ σ H, Pv xs.length σ H → D.nx σ H) : ForL K a g tb D σ H := for_list Pv h0 hl hs hd
def CompV (K : PySem.W.Frag) (a : Addr) (n : Nat) (g : TG) (tt : TT) (te : TE) (own : Nat) (ix : List Nat) (σ : L2.St) (H1 : Hp) (Q : VK) (D : Addr) : Prop := CompG (Irv K a n) g tt te own ix σ H1 Q D
theorem rd_cv {K : PySem.W.Frag} {ta : TA} {g : TG} {tt : TT} {te : TE} {own : Nat} {ix : List Nat} {σ : L2.St} {H : Hp} {Q : VK} : tComp (iRev K ta) g tt te own ix σ H Q = ta σ H fun vs H1 => ∃ a xs, vs = [.ref a] ∧ SqL K H1 a xs ∧ ∀ D, H1 D = none → CompV K a xs.length g tt te own ix σ H1 Q D := rfl
end L3

set_option Elab.async false
set_option linter.all false
set_option maxRecDepth 100000
set_option maxHeartbeats 4000000
namespace L3
open PySem PySem.Spec PyProof.Rows L2

/-! ### a text parted at a sign, and put together again -/
section
variable {X : Cx}
end
end L3

set_option Elab.async false
set_option linter.all false
set_option maxRecDepth 100000
set_option maxHeartbeats 4000000
namespace L3
open PySem PySem.Spec PyProof.Rows L2
section
variable {M : Model} {A : Around} {E : Value → Shared → Prop} {s : Shared} {base : Heap} {env env0 : Env} {outer : List Env} {L x t C : Addr} {dx : Option Addr}
end

section
variable {X : Cx} {pins : List (Addr × Obj)} {σ : St} {H1 : Hp} {s1 : Shared}
theorem Inv.noted {h' : Heap} {x T : Addr} {tb : Value} (I1 : Inv X pins σ H1 s1) (hst : X.stack = X.env :: X.outer) (fx : FpOk X pins H1 x) (fT : ∀ T, tb = .ref T → FpOk X pins H1 T) (fT' : FpOk X pins H1 T)
    (k1 : ∀ b o, b ≠ x → tb ≠ .ref b → b ∉ frs (X.env :: X.outer) → s1.heap.get? b = some o → h'.get? b = some o) (k2 : ∀ b o, b ≠ x → tb ≠ .ref b → s1.heap.get? b = some o → ∃ sl, h'.get? b = some { o with slots := sl }) : Inv X pins σ H1 { s1 with heap := h' } := by
  have tbs : ∀ b, tb = .ref b → H1 b = none := fun b hb => (fT b hb).1
  have nch : ∀ b o, s1.heap.get? b = some o → b ∉ (x :: T :: tbL tb) → b ≠ x ∧ tb ≠ .ref b := fun b o _ hb => by
    refine ⟨fun z => hb (by simp [z]), fun z => hb ?_⟩
    rw [z]
    simp [tbL]
  have un : Un (frs X.stack) (x :: T :: tbL tb) H1 H1 s1.heap h' := by
    rw [hst]
    refine ⟨fun b o e n hb hc => ?_, fun b o e n hb hc => ?_, fun b o e n _ => n, fun b o e hc => ?_, fun b xs e => e, fun b o u e => e, fun b ps e => ⟨#[], by rw [e]; simp⟩⟩
    · obtain ⟨a1, a2⟩ := nch b o e hc
      exact k1 b o a1 a2 hb e
    · obtain ⟨a1, a2⟩ := nch b o e hc
      exact k2 b o a1 a2 e
    · obtain ⟨a1, a2⟩ := nch b o e hc
      obtain ⟨sl, q⟩ := k2 b o a1 a2 e
      exact ⟨_, q⟩
  have hok : HOk X.prog X.w H1 h' := fun b u e => by
    refine (I1.hok b u e).stay (fun c v hc q => k1 c v ?_ ?_ ?_ q) (fun _ q => q) fun _ _ q => q
    · rintro rfl
      rcases hc with rfl | hc
      · rw [fx.1] at e; cases e
      · rw [fx.1] at hc; cases hc
    · intro z
      have := tbs c z
      rcases hc with rfl | hc
      · rw [this] at e; cases e
      · rw [this] at hc; cases hc
    · intro z
      rw [← hst] at z
      have := I1.stkFree c z
      rcases hc with rfl | hc
      · rw [this] at e; cases e
      · rw [this] at hc; cases hc
  exact I1.call' (s' := { s1 with heap := h' }) rfl un hok I1.bare fun b hb => by
    have fb : FpOk X pins H1 b := by
      rcases List.mem_cons.mp hb with z | z
      · rw [z]; exact fx
      · rcases List.mem_cons.mp z with z | z
        · rw [z]; exact fT'
        · cases tb with
          | ref b' =>
            have : b = b' := by simpa [tbL] using z
            rw [this]; exact fT b' rfl
          | _ => simp [tbL] at z
    obtain ⟨_, a1, _, a3, a4, a5⟩ := fb
    exact ⟨a3, a1, a4, a5⟩
end
section
variable {X : Cx} {scope : Scope} {own caps : List Str} {ix : List Nat} {cl : List (Str × Addr)}
end
section
variable {X : Cx} {scope : Scope} {own caps : List Str} {ix : List Nat} {elt tg iter : Expr} {ifs : List Expr} {pos : Pos} {wi : TI} {g : TG} {tt : TT} {te : TE}
end
end L3

set_option Elab.async false
set_option linter.all false
set_option maxRecDepth 100000
set_option maxHeartbeats 4000000
namespace L3
open PySem PySem.Spec PyProof.Rows L2
open AutoSeq1 (wpAny_loadPart')
open MeetsSeq MeetsSeq2 MeetsSeq3 SeqRoads2 SeqAt

def LtAt (A : Around) (s : Shared) (y x : Value) (b : Bool) : Prop :=
  ∀ (prog : Program) (w : World) (E : Value → Shared → Prop) (Q : Value → Shared → Prop), Q (.bool b) s → wpAny (model prog w) A (richCompare .Lt y x) Q E s
def Steps (e t r : Nat → Bool) (m n : Nat) : Prop := ∀ i, i ≤ m → i ≤ n → r i = if i < m ∧ i < n then (if e i = true then r (i + 1) else t i) else decide (m < n)
theorem lt_loopAt (l b : Addr) (items items2 : Array Value) (n n2 : Nat) (dd dd2 : Option Addr) (sl sl2 : Array (Option Value)) (e t r : Nat → Bool) (hr : Steps e t r items.size items2.size) (k : Nat) :
    ∀ i : Nat, i ≤ items.size → i ≤ items2.size → items.size - i = k → Meets (Builtin.«list.__eq__.loop» ⟨[.ref l, .ref b, rawInt i, rawInt 0], []⟩)
      (fun A R s => s.heap.get? l = some { cls := .type "list", dict := dd, data := .seq items n, slots := sl } ∧ s.heap.get? b = some { cls := .type "list", dict := dd2, data := .seq items2 n2, slots := sl2 } ∧
        (∀ j (h1 : j < items.size) (h2 : j < items2.size), EqAt A.in1 s items[j] items2[j] (e j)) ∧ (∀ j (h1 : j < items.size) (h2 : j < items2.size), e j = false → LtAt A.in1 s items[j] items2[j] (t j)) ∧
        R (.ok (.ret (.bool (r i)))) s) := by
  induction k with
  | zero =>
    intro i b1 b2 hk prog w A R s h
    obtain ⟨hp, g, d, tk, os⟩ := s; obtain ⟨hl, hb, he, ht, h⟩ := h
    have hri := hr i b1 b2
    rw [if_neg (by omega)] at hri
    rw [hri] at h
    wp_walk using wpAny_loadPart' hl, wpAny_loadPart' hb
    have hi1 : items[((i : Nat) : Int).toNat]? = none := by simp; omega
    rw [hi1]
    wp_walk using wpAny_loadPart' hl, wpAny_loadPart' hb
    exact h
  | succ k ih =>
    intro i b1 b2 hk prog w A R s h
    obtain ⟨hp, g, d, tk, os⟩ := s; obtain ⟨hl, hb, he, ht, h⟩ := h
    have hlt : i < items.size := by omega
    have hi1 : items[((i : Nat) : Int).toNat]? = some items[i] := by simp [hlt]
    have hc : ((i : Int) + 1) = ((i + 1 : Nat) : Int) := by push_cast; rfl
    have hri := hr i b1 b2
    by_cases hlt2 : i < items2.size
    · rw [if_pos ⟨hlt, hlt2⟩] at hri
      rw [hri] at h
      have hi2 : items2[((i : Nat) : Int).toNat]? = some items2[i] := by simp [hlt2]
      wp_walk using wpAny_loadPart' hl, wpAny_loadPart' hb
      rw [hi1, hi2]
      refine wpAny_bind (he i hlt hlt2 prog w _ _ ?_)
      cases hb' : e i with
      | true =>
        rw [hb', if_pos rfl] at h
        wp_walk
        rw [hc]
        exact ⟨plainId_quiet plain_eq_loop _, codeAny_builtin entry_eq_loop (by
          rw [Around.under_plainId plain_eq_loop _]
          exact ih (i + 1) (by omega) (by omega) (by omega) prog w A R _ ⟨hl, hb, he, ht, h⟩)⟩
      | false =>
        rw [hb', if_neg Bool.false_ne_true] at h
        wp_walk using wpAny_loadPart' hl, wpAny_loadPart' hb
        rw [hi1, hi2]
        refine wpAny_bind (ht i hlt hlt2 hb' prog w _ _ ?_)
        wp_walk
        exact h
    · rw [if_neg (by omega)] at hri
      rw [hri] at h
      have hi2 : items2[((i : Nat) : Int).toNat]? = none := by simp; omega
      wp_walk using wpAny_loadPart' hl, wpAny_loadPart' hb
      rw [hi1, hi2]
      wp_walk using wpAny_loadPart' hl, wpAny_loadPart' hb
      exact h
theorem list_ltAt (l b : Addr) (items items2 : Array Value) (n n2 : Nat) (dd dd2 : Option Addr) (sl sl2 : Array (Option Value)) (e t r : Nat → Bool) (hr : Steps e t r items.size items2.size) :
    Meets (Builtin.«list.__lt__» ⟨[.ref l, .ref b], []⟩)
      (fun A R s => s.heap.get? l = some { cls := .type "list", dict := dd, data := .seq items n, slots := sl } ∧ s.heap.get? b = some { cls := .type "list", dict := dd2, data := .seq items2 n2, slots := sl2 } ∧
        (∀ j (h1 : j < items.size) (h2 : j < items2.size), EqAt A.in1 s items[j] items2[j] (e j)) ∧ (∀ j (h1 : j < items.size) (h2 : j < items2.size), e j = false → LtAt A.in1 s items[j] items2[j] (t j)) ∧
        R (.ok (.ret (.bool (r 0)))) s) := by
  intro prog w A R s h
  obtain ⟨hp, g, d, tk, os⟩ := s; obtain ⟨hl, hb, he, ht, h⟩ := h
  have f3 := AutoSeq1.sub_list_list
  wp_walk using wpAny_loadPart' hl, wpAny_loadPart' hb
  exact ⟨plainId_quiet plain_eq_loop _, codeAny_builtin entry_eq_loop (by
    rw [Around.under_plainId plain_eq_loop _]
    exact lt_loopAt l b items items2 n n2 dd dd2 sl sl2 e t r hr _ 0 (Nat.zero_le _) (Nat.zero_le _) rfl prog w A R _ ⟨hl, hb, he, ht, h⟩)⟩
theorem tuple_ltAt (l b : Addr) (items items2 : Array Value) (n n2 : Nat) (dd dd2 : Option Addr) (sl sl2 : Array (Option Value)) (e t r : Nat → Bool) (hr : Steps e t r items.size items2.size) :
    Meets (Builtin.«tuple.__lt__» ⟨[.ref l, .ref b], []⟩)
      (fun A R s => s.heap.get? l = some { cls := .type "tuple", dict := dd, data := .seq items n, slots := sl } ∧ s.heap.get? b = some { cls := .type "tuple", dict := dd2, data := .seq items2 n2, slots := sl2 } ∧
        (∀ j (h1 : j < items.size) (h2 : j < items2.size), EqAt A.in1 s items[j] items2[j] (e j)) ∧ (∀ j (h1 : j < items.size) (h2 : j < items2.size), e j = false → LtAt A.in1 s items[j] items2[j] (t j)) ∧
        R (.ok (.ret (.bool (r 0)))) s) :=
  .of_wp fun prog w A R s h => by
    obtain ⟨hp, g, d, tk, os⟩ := s; obtain ⟨hl, hb, he, ht, h⟩ := h
    have f2 := AutoSeq1.sub_tuple_tuple
    have hZ : (items.toList.zip items2.toList).length = min items.size items2.size := by simp
    wp_walk using wpAny_loadPart' hl, wpAny_loadPart' hb, wpAny_forIn_list _ (fun rest b s' => b.1 = none ∧ s' = ⟨hp, g, d, tk, os⟩ ∧ ∃ i, i ≤ min items.size items2.size ∧ rest = (items.toList.zip items2.toList).drop i ∧
      R (.ok (.ret (.bool (r i)))) ⟨hp, g, d, tk, os⟩) _
    case turn =>
      rintro ⟨y, x⟩ rest b s' ⟨hb', rfl, i, hi, hz, hR⟩
      have hlt : i < (items.toList.zip items2.toList).length := by
        rcases Nat.lt_or_ge i (items.toList.zip items2.toList).length with h' | h'
        · exact h'
        · rw [List.drop_of_length_le h'] at hz; cases hz
      have hm : i < min items.size items2.size := hZ ▸ hlt
      have h1 : i < items.size := Nat.lt_of_lt_of_le hm (Nat.min_le_left _ _)
      have h2 : i < items2.size := Nat.lt_of_lt_of_le hm (Nat.min_le_right _ _)
      rw [List.drop_eq_getElem_cons hlt] at hz
      injection hz with hyx hrest
      have hy : y = items[i] := by have := congrArg Prod.fst hyx; simpa using this
      have hx : x = items2[i] := by have := congrArg Prod.snd hyx; simpa using this
      subst hy hx
      have hri := hr i (by omega) (by omega)
      rw [if_pos ⟨h1, h2⟩] at hri
      rw [hri] at hR
      refine wpAny_bind (he i h1 h2 prog w _ _ ?_)
      cases hy : e i with
      | true =>
        rw [hy, if_pos rfl] at hR
        wp_walk
        exact ⟨rfl, rfl, i + 1, by omega, hrest, hR⟩
      | false =>
        rw [hy, if_neg Bool.false_ne_true] at hR
        simp only [Bool.not_false, if_true]
        refine wpAny_bind (wpAny_rule ?_)
        refine wpAny_bind (ht i h1 h2 hy prog w _ _ ?_)
        wp_walk
        exact ⟨_, rfl, hR⟩
    case fin =>
      rintro ⟨b1, b2⟩ s' ⟨hb', rfl, i, hi, hz, hR⟩
      simp only at hb'
      subst hb'
      have hge : min items.size items2.size ≤ i := by
        rcases Nat.lt_or_ge i (items.toList.zip items2.toList).length with h' | h'
        · rw [List.drop_eq_getElem_cons h'] at hz; cases hz
        · exact hZ ▸ h'
      have hri := hr i (by omega) (by omega)
      rw [if_neg (by omega)] at hri
      rw [hri] at hR
      wp_walk
      exact ⟨_, rfl, hR⟩
    case h =>
      exact ⟨rfl, rfl, 0, Nat.zero_le _, rfl, h⟩
theorem LtAt.lists {A : Around} {s : Shared} {l b : Addr} {items items2 : Array Value} {e t r : Nat → Bool} (hl : s.heap.IsList l items) (hb : s.heap.IsList b items2) (hr : Steps e t r items.size items2.size) (hu : A.units < cLine)
    (he : ∀ j (h1 : j < items.size) (h2 : j < items2.size), EqAt A.in1 s items[j] items2[j] (e j)) (ht : ∀ j (h1 : j < items.size) (h2 : j < items2.size), e j = false → LtAt A.in1 s items[j] items2[j] (t j)) : LtAt A s (.ref l) (.ref b) (r 0) := fun prog w E Q h => by
  obtain ⟨⟨cls, dd, data, sl⟩, ho, hc, n, hd⟩ := id hl
  obtain ⟨⟨cls2, dd2, data2, sl2⟩, ho2, hc2, n2, hd2⟩ := id hb
  simp only at hc hd hc2 hd2
  subst hc hd hc2 hd2
  exact richCompare_meets_room (op := .Lt) ⟨_, ho, rfl⟩ ⟨_, ho2, rfl⟩ F.slot_list_lt F.entry_list_lt (F.args_list_lt_2 _ _) (list_ltAt l b items items2 n n2 dd dd2 sl sl2 e t r hr)
    ⟨ho, ho2, he, ht, show Value.bool (r 0) ≠ Value.notImplemented ∧ Q (.bool (r 0)) s from ⟨(fun x => nomatch x), h⟩⟩ hu
theorem LtAt.tuples {A : Around} {s : Shared} {l b : Addr} {items items2 : Array Value} {e t r : Nat → Bool} (hl : s.heap.IsTuple l items) (hb : s.heap.IsTuple b items2) (hr : Steps e t r items.size items2.size) (hu : A.units < cLine)
    (he : ∀ j (h1 : j < items.size) (h2 : j < items2.size), EqAt A.in1 s items[j] items2[j] (e j)) (ht : ∀ j (h1 : j < items.size) (h2 : j < items2.size), e j = false → LtAt A.in1 s items[j] items2[j] (t j)) : LtAt A s (.ref l) (.ref b) (r 0) := fun prog w E Q h => by
  obtain ⟨⟨cls, dd, data, sl⟩, ho, hc, n, hd⟩ := id hl
  obtain ⟨⟨cls2, dd2, data2, sl2⟩, ho2, hc2, n2, hd2⟩ := id hb
  simp only at hc hd hc2 hd2
  subst hc hd hc2 hd2
  exact richCompare_meets_room (op := .Lt) ⟨_, ho, rfl⟩ ⟨_, ho2, rfl⟩ F.slot_tuple_lt F.entry_tuple_lt (F.args_tuple_lt_2 _ _) (tuple_ltAt l b items items2 n n2 dd dd2 sl sl2 e t r hr)
    ⟨ho, ho2, he, ht, show Value.bool (r 0) ≠ Value.notImplemented ∧ Q (.bool (r 0)) s from ⟨(fun x => nomatch x), h⟩⟩ hu
end L3

set_option Elab.async false
set_option linter.all false
set_option maxRecDepth 100000
set_option maxHeartbeats 4000000
namespace L3
open PySem PySem.Spec PyProof.Rows L2
mutual
def okD : D → D → Prop
  | .int _, .int _ => True
  | .lst l, .lst m => okDs l m
  | .tup l, .tup m => okDs l m
  | _, _ => False
def okDs : List D → List D → Prop
  | d :: l, e :: m => okD d e ∧ okDs l m
  | _, _ => True
end
mutual
def ltD : D → D → Bool
  | .int a, .int b => decide (a < b)
  | .lst l, .lst m => ltDs l m
  | .tup l, .tup m => ltDs l m
  | _, _ => false
def ltDs : List D → List D → Bool
  | d :: l, e :: m => if eqD d e = true then ltDs l m else ltD d e
  | [], _ :: _ => true
  | _, [] => false
end
theorem steps_D (l m : List D) : Steps (fun j => eqD (l.getD j .non) (m.getD j .non)) (fun j => ltD (l.getD j .non) (m.getD j .non)) (fun i => ltDs (l.drop i) (m.drop i)) l.length m.length := by
  intro i b1 b2
  simp only
  by_cases h : i < l.length ∧ i < m.length
  · rw [if_pos h, List.drop_eq_getElem_cons h.1, List.drop_eq_getElem_cons h.2, ltDs]
    rw [List.getD_eq_getElem?_getD, List.getD_eq_getElem?_getD, List.getElem?_eq_getElem h.1, List.getElem?_eq_getElem h.2]
    rfl
  · rw [if_neg h]
    by_cases h1 : i < l.length
    · have h2 : ¬ i < m.length := fun z => h ⟨h1, z⟩
      rw [List.drop_eq_getElem_cons h1, List.drop_of_length_le (Nat.le_of_not_lt h2), ltDs]
      · simp; omega
      all_goals simp
    · rw [List.drop_of_length_le (Nat.le_of_not_lt h1)]
      by_cases h2 : i < m.length
      · rw [List.drop_eq_getElem_cons h2, ltDs]
        simp; omega
      · rw [List.drop_of_length_le (Nat.le_of_not_lt h2), ltDs]
        · simp; omega
        all_goals simp
theorem ok_at : ∀ {l m : List D} {j : Nat} {d e : D}, okDs l m → l[j]? = some d → m[j]? = some e → okD d e
  | d :: l, e :: m, 0, _, _, h, q1, q2 => by
    cases q1; cases q2
    simp only [okDs] at h
    exact h.1
  | d :: l, e :: m, j + 1, _, _, h, q1, q2 => by
    simp only [okDs] at h
    exact ok_at (j := j) h.2 q1 q2
section
variable {X : Cx} {pins : List (Addr × Obj)} {σ : St} {H : Hp} {s : Shared}
theorem items_lt {l m : List D} {xs ys : List V} {its its' : List Value} {A : Around} {n : Nat} (hl : Iss X.K H l xs) (hm : Iss X.K H m ys) (r : Vals xs its) (r' : Vals ys its') (hn : dpDs l < n) (ok : okDs l m)
    (ih : ∀ (d e : D) (x y : V) (u v : Value), dpD d < n → okD d e → Is X.K H d x → Is X.K H e y → RelV x u → RelV y v → LtAt A s u v (ltD d e)) :
    ∀ j (h1 : j < its.toArray.size) (h2 : j < its'.toArray.size), LtAt A s its.toArray[j] its'.toArray[j] (ltD (l.getD j .non) (m.getD j .non)) := by
  intro j h1 h2
  rw [List.size_toArray] at h1 h2
  have e1 := hl.len
  have e2 := hm.len
  have e3 := r.length
  have e4 := r'.length
  have g1 : l[j]? = some l[j] := List.getElem?_eq_getElem (by omega)
  have g2 : m[j]? = some m[j] := List.getElem?_eq_getElem (by omega)
  generalize l[j] = d at g1
  generalize m[j] = e at g2
  obtain ⟨x, hx, ix⟩ := hl.at g1
  obtain ⟨y, hy, iy⟩ := hm.at g2
  obtain ⟨u, hu, ru⟩ := vals_at r hx
  obtain ⟨v, hv, rv⟩ := vals_at r' hy
  have q1 : its.toArray[j] = u := by
    have := (List.getElem?_eq_some_iff.mp hu).2
    simpa using this
  have q2 : its'.toArray[j] = v := by
    have := (List.getElem?_eq_some_iff.mp hv).2
    simpa using this
  rw [q1, q2, List.getD_eq_getElem?_getD, List.getD_eq_getElem?_getD, g1, g2]
  exact ih d e x y u v (Nat.lt_of_le_of_lt (dp_at g1) hn) (ok_at ok g1 g2) ix iy ru rv
theorem ltAt_D (I : Inv X pins σ H s) : ∀ (n : Nat) (A : Around) (d e : D) (x y : V) (u v : Value), A.units + n < cLine → dpD d < n → okD d e → Is X.K H d x → Is X.K H e y → RelV x u → RelV y v → LtAt A s u v (ltD d e) := by
  intro n
  induction n with
  | zero => intro A d e x y u v _ h; exact absurd h (Nat.not_lt_zero _)
  | succ n ih =>
    intro A d e x y u v hu hd ok hx hy rx ry
    have hu1 : A.units < cLine := by omega
    have huA : A.in1.units + n < cLine := by show A.units + 1 + n < cLine; omega
    cases d with
    | int a =>
      cases e with
      | int b =>
        simp only [Is] at hx hy
        subst hx hy
        obtain ⟨t, rfl⟩ := rx
        obtain ⟨t', rfl⟩ := ry
        exact fun prog w E Q h => lt_int h
      | _ => simp only [okD] at ok
    | lst l =>
      cases e with
      | lst m =>
        simp only [Is] at hx hy
        obtain ⟨a, xs, rfl, h1, h2⟩ := hx
        obtain ⟨b, ys, rfl, g1, g2⟩ := hy
        cases rx; cases ry
        obtain ⟨its, r, p, _⟩ := I.list h1
        obtain ⟨its', r', p', _⟩ := I.list g1
        simp only [dpD] at hd
        simp only [okD] at ok
        have L1 := h2.len
        have L2 := g2.len
        have L3 := r.length
        have L4 := r'.length
        have st := steps_D l m
        rw [show l.length = its.toArray.size by simp only [List.size_toArray]; omega, show m.length = its'.toArray.size by simp only [List.size_toArray]; omega] at st
        exact LtAt.lists (A := A) p.isList p'.isList st hu1 (items_at h2 g2 r r' (n := n) (by omega) fun d e x y u v q1 q2 q3 q4 q5 => eqAt_D I n A.in1 d e x y u v huA q1 q2 q3 q4 q5)
          (fun j h1 h2 _ => items_lt (n := n) (A := A.in1) ‹_› g2 r r' (by omega) ok (fun d e x y u v q1 q2 q3 q4 q5 q6 => ih A.in1 d e x y u v huA q1 q2 q3 q4 q5 q6) j h1 h2)
      | _ => simp only [okD] at ok
    | tup l =>
      cases e with
      | tup m =>
        simp only [Is] at hx hy
        obtain ⟨a, xs, rfl, h1, h2⟩ := hx
        obtain ⟨b, ys, rfl, g1, g2⟩ := hy
        cases rx; cases ry
        obtain ⟨its, r, p, _⟩ := I.tuple h1
        obtain ⟨its', r', p', _⟩ := I.tuple g1
        simp only [dpD] at hd
        simp only [okD] at ok
        have L1 := h2.len
        have L2 := g2.len
        have L3 := r.length
        have L4 := r'.length
        have st := steps_D l m
        rw [show l.length = its.toArray.size by simp only [List.size_toArray]; omega, show m.length = its'.toArray.size by simp only [List.size_toArray]; omega] at st
        exact LtAt.tuples (A := A) p p' st hu1 (items_at h2 g2 r r' (n := n) (by omega) fun d e x y u v q1 q2 q3 q4 q5 => eqAt_D I n A.in1 d e x y u v huA q1 q2 q3 q4 q5)
          (fun j h1 h2 _ => items_lt (n := n) (A := A.in1) ‹_› g2 r r' (by omega) ok (fun d e x y u v q1 q2 q3 q4 q5 q6 => ih A.in1 d e x y u v huA q1 q2 q3 q4 q5 q6) j h1 h2)
      | _ => simp only [okD] at ok
    | non => cases e <;> simp only [okD] at ok
    | bl _ => cases e <;> simp only [okD] at ok
    | str _ => cases e <;> simp only [okD] at ok
end
/-! lists of ints -/
def ltI : List Int → List Int → Bool
  | a :: l, b :: m => if a = b then ltI l m else decide (a < b)
  | [], _ :: _ => true
  | _, [] => false
theorem okDs_ints : ∀ (l m : List Int), okDs (l.map D.int) (m.map D.int)
  | [], _ => by simp only [List.map_nil, okDs]
  | _ :: _, [] => by simp only [List.map_nil, List.map_cons, okDs]
  | a :: l, b :: m => by simp only [List.map_cons, okDs, okD, true_and]; exact okDs_ints l m
theorem ltDs_ints : ∀ (l m : List Int), ltDs (l.map D.int) (m.map D.int) = ltI l m
  | [], [] => by simp only [List.map_nil, ltDs, ltI]
  | [], _ :: _ => by simp only [List.map_nil, List.map_cons, ltDs, ltI]
  | _ :: _, [] => by simp only [List.map_nil, List.map_cons, ltDs, ltI]
  | a :: l, b :: m => by
    simp only [List.map_cons, ltDs, ltI, eqD, ltD, ltDs_ints l m, beq_iff_eq]
end L3

set_option Elab.async false
set_option linter.all false
set_option maxRecDepth 100000
set_option maxHeartbeats 4000000
namespace L3
open PySem PySem.Spec PyProof.Rows L2
/-! ### data that hold no list stay when a list is written -/
theorem dpDs_of {n : Nat} : ∀ {l : List D}, (∀ d ∈ l, dpD d ≤ n) → dpDs l ≤ n
  | [], _ => by simp only [dpDs]; omega
  | d :: l, h => by
    have h1 := h d (by simp)
    have h2 := dpDs_of (n := n) (l := l) fun e he => h e (by simp [he])
    simp only [dpDs]
    omega
/-- the list at a, whose things are told as data -/
def LsA (K : PySem.W.Frag) (H : Hp) (a : Addr) (ds : List D) : Prop := ∃ xs, H a = some (.lst xs) ∧ Iss K H ds xs
theorem LsA.is {K : PySem.W.Frag} {H : Hp} {a : Addr} {ds : List D} (h : LsA K H a ds) : Is K H (.lst ds) (.ref a) := by
  obtain ⟨xs, h1, h2⟩ := h
  simp only [Is]
  exact ⟨a, xs, rfl, SqL.of h1, h2⟩
theorem LsA.nil {K : PySem.W.Frag} {H : Hp} {a : Addr} : LsA K (upd H a (.lst [])) a [] := ⟨[], upd_same, by simp only [Iss]⟩
theorem Is.tup {K : PySem.W.Frag} {H : Hp} {p : Addr} {vs : List V} {ds : List D} (hp : H p = none) (h : Iss K H ds vs) : Is K (upd H p (.tup vs)) (.tup ds) (.ref p) := by
  simp only [Is]
  exact ⟨p, vs, rfl, SqT.of upd_same, Iss.same (same_upd hp) _ _ h⟩
/-- texts -/
abbrev dS (l : List Nat) : D := .str (tx l)
/-- three numbers -/
abbrev N3 := Nat × Nat × Nat
def d3 (t : N3) : D := .tup [.int (t.1 : Nat), .int (t.2.1 : Nat), .int (t.2.2 : Nat)]
theorem cut_an {α : Type} (l : List α) {a b : Int} (h0 : 0 ≤ a) (h1 : a ≤ b) : cut l (some a) (some b) = (l.drop a.toNat).take (b - a).toNat := by
  by_cases h2 : b ≤ l.length
  · exact cut_mid l h0 h1 h2
  · obtain ⟨m, rfl⟩ := Int.eq_ofNat_of_zero_le h0
    obtain ⟨n, rfl⟩ := Int.eq_ofNat_of_zero_le (by omega : 0 ≤ b)
    unfold cut
    rw [HT.sIx_nat, HT.sIx_nat, Nat.min_eq_right (by omega : l.length ≤ n)]
    have e : (((n : Nat) : Int) - ((m : Nat) : Int)).toNat = n - m := by omega
    have e2 : ((m : Nat) : Int).toNat = m := rfl
    rw [e, e2, List.take_of_length_le (l := l.drop m) (by rw [List.length_drop]; omega)]
    by_cases hm : m ≤ l.length
    · rw [Nat.min_eq_left hm, List.take_of_length_le (by rw [List.length_drop]; omega)]
    · rw [Nat.min_eq_right (by omega), List.drop_of_length_le (Nat.le_refl _), List.drop_of_length_le (by omega), List.take_nil]
theorem cutV_ints (ns : List Int) {a b : Int} (h0 : 0 ≤ a) (h1 : a ≤ b) : cutV (ns.map V.int) (some a) (some b) = ((ns.drop a.toNat).take (b - a).toNat).map V.int := by
  have e : cutV (ns.map V.int) (some a) (some b) = cut (ns.map V.int) (some a) (some b) := rfl
  rw [e, cut_an _ h0 h1, List.map_take, List.map_drop]
end L3

set_option Elab.async false
set_option linter.all false
set_option maxRecDepth 100000
set_option maxHeartbeats 4000000
namespace L3
open PySem PySem.Spec PyProof.Rows L2
/-! ### in a list of data -/
open Classical in
noncomputable def eqAtV (K : PySem.W.Frag) (H : Hp) (d : D) (u : Value) : Bool := decide (∃ x e, absV u = some x ∧ Is K H e x ∧ eqD e d = true)
section
variable {X : Cx} {pins : List (Addr × Obj)} {σ : L2.St} {H : Hp} {s : Shared}
open Classical in
theorem eqAtV_of (I : Inv X pins σ H s) {d e : D} {x : V} {u : Value} (r : RelV x u) (h : Is X.K H e x) : eqAtV X.K H d u = eqD e d := by
  unfold eqAtV
  cases hb : eqD e d with
  | true => exact decide_eq_true ⟨x, e, r.abs, h, hb⟩
  | false =>
    refine decide_eq_false ?_
    rintro ⟨y, e', hy, hi, hq⟩
    rw [r.abs] at hy
    cases hy
    rw [is_det I e' e x hi h, hb] at hq
    cases hq
theorem any_eqAtV (I : Inv X pins σ H s) {d : D} : ∀ {l : List D} {xs : List V} {us : List Value}, Iss X.K H l xs → Vals xs us → us.any (eqAtV X.K H d) = l.any fun e => eqD e d
  | [], xs, us, h, r => by
    simp only [Iss] at h
    subst h
    cases r
    rfl
  | e :: l, xs, us, h, r => by
    simp only [Iss] at h
    obtain ⟨v, vs, rfl, h1, h2⟩ := h
    cases r with
    | cons r1 r2 => rw [List.any_cons, List.any_cons, eqAtV_of I r1 h1, any_eqAtV I h2 r2]
theorem vals_mem : ∀ {xs : List V} {us : List Value} {l : List D} {u : Value}, Vals xs us → Iss X.K H l xs → u ∈ us → ∃ x e, RelV x u ∧ Is X.K H e x ∧ e ∈ l
  | _, _, _, _, .nil, _, h => nomatch h
  | _, _, [], u, .cons r t, hi, h => by
    simp only [Iss] at hi
    cases hi
  | _, _, e :: l, u, .cons r t, hi, h => by
    simp only [Iss] at hi
    obtain ⟨v, vs, q, h1, h2⟩ := hi
    cases q
    rcases List.mem_cons.mp h with rfl | h
    · exact ⟨_, e, r, h1, List.mem_cons_self ..⟩
    · obtain ⟨x, e', a, b, c⟩ := vals_mem t h2 h
      exact ⟨x, e', a, b, List.mem_cons_of_mem _ c⟩
theorem dp_mem {l : List D} {e : D} (h : e ∈ l) : dpD e ≤ dpDs l := by
  obtain ⟨j, hj⟩ := List.getElem?_of_mem h
  exact dp_at hj
def rInD (K : PySem.W.Frag) (neg : Bool) : R2 := fun x y H Q => ∃ p l d, y = .ref p ∧ Is K H (.lst l) y ∧ Is K H d x ∧ dpDs l < 50 ∧ Q (.bl (if neg then !(l.any fun e => eqD e d) else l.any fun e => eqD e d)) H
theorem op_inD (hu : X.A.units + 100 < cLine) : OpR X (compareOp .In) (rInD X.K false) := by
  intro pins s σ H x y v u Q I rx ry h
  obtain ⟨p, l, d, rfl, hl, hd, hp, q⟩ := h
  cases ry
  simp only [Is] at hl
  obtain ⟨_, xs, e, hq, hi⟩ := hl
  cases e
  obtain ⟨its, r, pl, hz⟩ := I.list hq
  have huA : X.A.in1.units + 50 < cLine := by show X.A.units + 1 + 50 < cLine; omega
  refine SeqAt.in_listAt (eqAtV X.K H d) pl.isList (fun w hw => ?_) ⟨.bl _, H, I, rfl, ?_⟩
  · obtain ⟨z, e, rz, iz, me⟩ := vals_mem r hi (by simpa using hw)
    rw [eqAtV_of I rz iz]
    exact eqAt_D I 50 X.A.in1 e d z x w v huA (Nat.lt_of_le_of_lt (dp_mem me) hp) iz hd rz rx
  · rw [show its.toArray.any (eqAtV X.K H d) = its.any (eqAtV X.K H d) by simp, any_eqAtV I hi r]
    exact q
theorem op_ninD (hu : X.A.units + 100 < cLine) : OpR X (compareOp .NotIn) (rInD X.K true) := by
  intro pins s σ H x y v u Q I rx ry h
  obtain ⟨p, l, d, rfl, hl, hd, hp, q⟩ := h
  cases ry
  simp only [Is] at hl
  obtain ⟨_, xs, e, hq, hi⟩ := hl
  cases e
  obtain ⟨its, r, pl, hz⟩ := I.list hq
  have huA : X.A.in1.units + 50 < cLine := by show X.A.units + 1 + 50 < cLine; omega
  refine SeqAt.notIn_listAt (eqAtV X.K H d) pl.isList (fun w hw => ?_) ⟨.bl _, H, I, rfl, ?_⟩
  · obtain ⟨z, e, rz, iz, me⟩ := vals_mem r hi (by simpa using hw)
    rw [eqAtV_of I rz iz]
    exact eqAt_D I 50 X.A.in1 e d z x w v huA (Nat.lt_of_le_of_lt (dp_mem me) hp) iz hd rz rx
  · rw [show its.toArray.any (eqAtV X.K H d) = its.any (eqAtV X.K H d) by simp, any_eqAtV I hi r]
    exact q
end
theorem use_ninD {K : PySem.W.Frag} {x : V} {p : Addr} {H : Hp} {Q : VK} {l : List D} {d : D} (h1 : Is K H (.lst l) (.ref p)) (h2 : Is K H d x) (h3 : dpDs l < 50) (q : Q (.bl (!(l.any fun e => eqD e d))) H) : rInD K true x (.ref p) H Q := ⟨p, l, d, rfl, h1, h2, h3, q⟩
end L3

set_option Elab.async false
set_option linter.all false
set_option maxRecDepth 100000
set_option maxHeartbeats 4000000
namespace L3
open PySem PySem.Spec PyProof.Rows L2
/-! ### own classes: a method and the making, by their names -/
structure DM (P : Program) (w : World) (K : PySem.W.Frag) (mg : Str → Option Value) (base : Heap) (CX : CXT) (k : Nat) (C : Addr) (m : Str) (ps : List Str) (sp : Sp) : Prop where
  ex : ∃ f fd, Meth K C m f ∧ FnOk P w K mg base CX k f fd ps sp ∧ Binds K fd ps []
structure DMk (P : Program) (w : World) (K : PySem.W.Frag) (mg : Str → Option Value) (base : Heap) (CX : CXT) (k : Nat) (C : Addr) (ps : List Str) (sp : Sp) : Prop where
  ex : ∃ f fd, Mk K C f ∧ FnOk P w K mg base CX k f fd ps sp ∧ Binds K fd ps []
section
variable {X : Cx} {k j : Nat} {C : Addr} {m : Str} {ps : List Str} {sp : Sp} {o e : Expr} {es : List Expr} {ta : TE} {t : TA} {apos pos p : Pos} {x : Str} {E : XK}
theorem me0 (D : DM X.prog X.w X.K X.mg X.base CX0 k C m ps sp) (c : Cls X.K C) (hr : Room j X.A) (he : PE X o ta) {pl : Sem Bool} (ht : eval (.Call (.Attribute o m apos) [] [] pos) X.env = (do
      let ov ← eval o X.env
      standAt apos.atName
      let (f, first) ← holding [ov] (getMethod ov m pl)
      callWith pos f first (backTo pos (starEach [] X.env)) (backToKw pos (keywordEach [] X.env))) := by rfl) (hj : k ≤ j := by decide) : PE X (.Call (.Attribute o m apos) [] [] pos) (tMeth C m sp [] E0 ta tNil) := by
  obtain ⟨f, fd, hm, F, hb⟩ := D.ex
  exact pe_meth0 he c hm F (hr.mono hj) hb .nil pass0 ht
theorem me1 (D : DM X.prog X.w X.K X.mg X.base CX0 k C m ps sp) (c : Cls X.K C) (hr : Room j X.A) (he : PE X o ta) (ha : PA X (e :: es) t) {pl : Sem Bool}
    (hst : starEach (e :: es) X.env = (false, eval e X.env) :: starEach es X.env := by rfl) (hpl : (backTo pos (starEach es X.env)).any (·.1) = false := by rfl)
    (ht : eval (.Call (.Attribute o m apos) (e :: es) [] pos) X.env = (do
      let ov ← eval o X.env
      standAt apos.atName
      let (f, first) ← holding [ov] (getMethod ov m pl)
      callWith pos f first (backTo pos (starEach (e :: es) X.env)) (backToKw pos (keywordEach [] X.env))) := by rfl) (hj : k ≤ j := by decide) : PE X (.Call (.Attribute o m apos) (e :: es) [] pos) (tMeth C m sp [] E0 ta t) := by
  obtain ⟨f, fd, hm, F, hb⟩ := D.ex
  exact pe_meth he c hm F (hr.mono hj) hb .nil pass0 ha hst hpl ht
theorem mkC (D : DMk X.prog X.w X.K X.mg X.base CX0 k C ps sp) (hr : Room j X.A) (hg : Gl X x) (hm : X.mg x = some (.ref C)) (ha : PA X (e :: es) t) (hdb : (x == ("__debug__" : Str)) = false := by decide) (he : starEach (e :: es) X.env = (false, eval e X.env) :: starEach es X.env := by rfl)
    (hpl : (backTo pos (starEach es X.env)).any (·.1) = false := by rfl) (hj : k + 1 ≤ j := by decide) : PE X (.Call (.Name x p) (e :: es) [] pos) (tMake C sp [] E0 t) := by
  obtain ⟨f, fd, M, F, hb⟩ := D.ex
  exact pe_make M F (hr.mono hj) hg hm hb .nil pass0 ha hdb he hpl
end
end L3

set_option Elab.async false
set_option linter.all false
set_option maxRecDepth 100000
set_option maxHeartbeats 4000000
namespace L3
open PySem PySem.Spec PyProof.Rows L2
/-! ### try: e except .. as ..: .. -/
section
variable {X : Cx}
end
section
variable {X : Cx} {k j : Nat} {C : Addr} {m : Str} {ps : List Str} {sp : Sp} {o e : Expr} {es : List Expr} {ta : TE} {t : TA} {apos pos p : Pos}
end
end L3

set_option Elab.async false
set_option linter.all false
set_option maxRecDepth 100000
set_option maxHeartbeats 4000000
namespace L3
open PySem PySem.Spec PyProof.Rows L2
/-! ### a method of an object whose class is one of several -/
def tMethF (Fam : Addr → Prop) (m : Str) (sp : Addr → Sp) (dvs : List V) (E : XK) (ta : TE) (t : TA) : TE := fun σ H Q => ta σ H fun x H1 => ∃ C a dx fs, Fam C ∧ x = .ref a ∧ H1 a = some (.ins C dx fs) ∧ fs.lookup m = none ∧
  t σ H1 fun vs H2 => sp C (x :: (vs ++ dvs)) H2 Q E
structure DMF (P : Program) (w : World) (K : PySem.W.Frag) (mg : Str → Option Value) (base : Heap) (CX : CXT) (k : Nat) (Fam : Addr → Prop) (m : Str) (ps : List Str) (sp : Addr → Sp) : Prop where
  ex : ∀ C, Fam C → Cls K C ∧ DM P w K mg base CX k C m ps (sp C)
section
variable {X : Cx} {k j : Nat} {Fam : Addr → Prop} {m : Str} {ps : List Str} {sp : Addr → Sp} {o e : Expr} {es : List Expr} {ta : TE} {t : TA} {apos pos p : Pos} {x : Str} {E : XK}
theorem meF0 (D : DMF X.prog X.w X.K X.mg X.base CX0 k Fam m ps sp) (hr : Room j X.A) (he : PE X o ta) {pl : Sem Bool} (ht : eval (.Call (.Attribute o m apos) [] [] pos) X.env = (do
      let ov ← eval o X.env
      standAt apos.atName
      let (f, first) ← holding [ov] (getMethod ov m pl)
      callWith pos f first (backTo pos (starEach [] X.env)) (backToKw pos (keywordEach [] X.env))) := by rfl) (hj : k ≤ j := by decide) : PE X (.Call (.Attribute o m apos) [] [] pos) (tMethF Fam m sp [] E0 ta tNil) := by
  intro pins s σ H Q I h
  refine PySem.W.methodCall_KW (pl := pl) (thn (he pins s σ H _ I h) fun u s1 ⟨x, H1, I1, rx, C, a, dx, fs, fam, ex, ea, l, q⟩ => ?_) ht
  subst ex
  obtain rfl : u = Value.ref a := rx
  obtain ⟨c, ⟨f, fd, hm, F, hb⟩⟩ := D.ex C fam
  refine getmeth_ok I1 ea c hm l ?_
  exact PySem.W.callWith_K0 (first := [.ref a]) I1.kIn hm.kp (run_fn (us := [.ref a]) (vs := [.ref a]) F (hr.mono hj) hb .nil pass0 I1 (.cons rfl .nil) q)
theorem meF1 (D : DMF X.prog X.w X.K X.mg X.base CX0 k Fam m ps sp) (hr : Room j X.A) (he : PE X o ta) (ha : PA X (e :: es) t) {pl : Sem Bool}
    (hst : starEach (e :: es) X.env = (false, eval e X.env) :: starEach es X.env := by rfl) (hpl : (backTo pos (starEach es X.env)).any (·.1) = false := by rfl)
    (ht : eval (.Call (.Attribute o m apos) (e :: es) [] pos) X.env = (do
      let ov ← eval o X.env
      standAt apos.atName
      let (f, first) ← holding [ov] (getMethod ov m pl)
      callWith pos f first (backTo pos (starEach (e :: es) X.env)) (backToKw pos (keywordEach [] X.env))) := by rfl) (hj : k ≤ j := by decide) : PE X (.Call (.Attribute o m apos) (e :: es) [] pos) (tMethF Fam m sp [] E0 ta t) := by
  intro pins s σ H Q I h
  refine PySem.W.methodCall_KW (pl := pl) (thn (he pins s σ H _ I h) fun u s1 ⟨x, H1, I1, rx, C, a, dx, fs, fam, ex, ea, l, q⟩ => ?_) ht
  subst ex
  obtain rfl : u = Value.ref a := rx
  obtain ⟨c, ⟨f, fd, hm, F, hb⟩⟩ := D.ex C fam
  refine getmeth_ok I1 ea c hm l ?_
  refine PySem.W.callWith_K (first := [.ref a]) (h₀ := X.base) I.ok.mod.kin hm.kp (thn (ha pos pins s1 σ H1 _ I1 q) fun us s2 ⟨vs, H2, I2, r, q2⟩ => ⟨I2.kIn, ?_⟩) hst hpl
  exact run_fn (us := .ref a :: us) (vs := .ref a :: vs) F (hr.mono hj) hb .nil pass0 I2 (.cons rfl r) q2
end
section
variable {X : Cx}
theorem ints_are : ∀ {ns : List Int} {its : List Value}, Vals (ns.map V.int) its → IntsAre its ns
  | [], _, .nil => .nil
  | n :: ns, _, .cons r t => by
    obtain ⟨tk, rfl⟩ := r
    exact .cons n tk (ints_are t)
/-- sum(a list of numbers) -/
def rSum (K : PySem.W.Frag) : List V → Hp → VK → Prop := fun xs H Q => ∃ (p : Addr) (ns : List Int), xs = [.ref p] ∧ SqL K H p (ns.map V.int) ∧ Q (.int ns.sum) H
theorem c_sum (hc : X.calm = true) : CallR X (.builtin "sum") (rSum X.K) := by
  intro pins s σ H xs us Q I r h
  obtain ⟨p, ns, rfl, hS, q⟩ := h
  obtain ⟨u, rfl, ru⟩ := vals1 r
  cases ru
  obtain ⟨its, rv, pl, hz⟩ := I.list hS
  have hh : X.A.handled = none := I.ok.hd hc
  have ia := ints_are rv
  obtain ⟨ps, e⟩ := ia.allInts.items
  have en : ps.toList.map (·.1) = ns := by
    rw [← nums_intItems, ← e]
    exact ia.numsOf
  refine sum_intListG hh (by rw [← e]; exact pl.isList) fun h' tk t' hk => ?_
  rw [preSum_eq, List.take_of_length_le (by simp), en]
  exact ⟨.int ns.sum, H, I.kept hk, ⟨_, rfl⟩, q⟩
end
end L3

set_option Elab.async false
set_option linter.all false
set_option maxRecDepth 100000
set_option maxHeartbeats 4000000
namespace L3
open PySem PySem.Spec PyProof.Rows L2
/-! ### text[::-1] -/
theorem rev_picked (l : List Nat) : ((Builtin.Str.strSliceIndices none none (-1) (tx l).length).filterMap ((tx l).cps[·]?)) = l.reverse := by
  rw [len_tx, picked_rev]
  have e : (tx l).cps = l.toArray := rfl
  rw [e]
  apply List.ext_getElem?
  intro i
  have h : ((List.range l.length).map fun k => l.length - 1 - k).filterMap (l.toArray[·]?) = (List.range l.length).map fun k => l.getD (l.length - 1 - k) 0 := by
    rw [filterMap_get, List.map_map]
    · refine List.map_congr_left fun k _ => ?_
      show l.toArray.getD (l.length - 1 - k) 0 = _
      simp [Array.getD, List.getD]
      split <;> simp_all
    · intro i hi
      obtain ⟨k, hk, rfl⟩ := List.mem_map.mp hi
      have := List.mem_range.mp hk
      show _ < l.toArray.size
      rw [List.size_toArray]
      omega
  rw [h]
  by_cases hi : i < l.length
  · rw [List.getElem?_reverse hi, List.getElem?_map, List.getElem?_range hi]
    show some (l.getD (l.length - 1 - i) 0) = _
    rw [List.getD_eq_getElem?_getD, List.getElem?_eq_getElem (by omega)]
    rfl
  · rw [List.getElem?_eq_none (by simp; omega), List.getElem?_eq_none (by simp; omega)]
def tRev (te ts : TE) : TE := fun σ H Q => te σ H fun x H1 => ts σ H1 fun y H2 => y = .int (-1) ∧ ∃ l : List Nat, x = .str (tx l) ∧ l.length ≤ sizeLine ∧ Q (.str (tx l.reverse)) H2
section
variable {X : Cx} {e st : Expr} {te ts : TE} {pos p2 : Pos}
theorem pe_trev (he : PE X e te) (hs : PE X st ts) : PE X (.Subscript e (.Slice none none (some st) p2) pos) (tRev te ts) := by
  intro pins s σ H Q I h
  refine Subscript_ (thn (he pins s σ H _ I h) fun v s1 ⟨x, H1, I1, r1, q1⟩ => ?_)
  refine wpAny_Slice ?_
  rw [evalPart_none]
  refine wpAny_pure (wpAny_pure ?_)
  rw [evalPart_some]
  refine thn (hs pins s1 σ H1 _ I1 q1) fun u s2 ⟨y, H2, I2, r2, ey, l, ex, hl, q2⟩ => ?_
  subst ey ex
  obtain ⟨t, rfl⟩ := r1
  obtain ⟨tk, rfl⟩ := r2
  have I4 : Inv X pins σ H2 { s2 with heap := s2.heap.push { cls := .type "slice", data := .fields #[.none, .none, .int (-1) tk] } } := I2.kept (t' := s2.toks) fun b ob q => Heap.get?_push_of_some _ q
  show wpAny (model X.prog X.w) X.A (subscriptTail e (.Slice none none (some st) p2) (.str (tx l) t) (.ref s2.heap.objs.size)) (EP X pins σ Q) X.xe { s2 with heap := s2.heap.push { cls := .type "slice", data := .fields #[.none, .none, .int (-1) tk] } }
  refine tail_any (ops := [.ref s2.heap.objs.size, .str (tx l) t]) (typeIs_str _ (tx l) t) slot_str_getitem.lookup ?_ (by with_unfolding_all rfl)
  refine wpAny_getItem_str_slice (l := none) (u := none) (st := some (-1, tk)) (Heap.IsSliceOf.new ..) rfl ?_
  unfold sliceMade slicePicked
  have hc' : ¬ (((some ((-1 : Int), tk)).map (·.1)).getD 1 == 1 && (Builtin.Str.strSliceIndices ((none : Option (Int × Tok)).map (·.1)) ((none : Option (Int × Tok)).map (·.1)) (((some ((-1 : Int), tk)).map (·.1)).getD 1) (tx l).length).length == (tx l).length) = true := by
    have : (((some ((-1 : Int), tk)).map (·.1)).getD 1 == 1) = false := rfl
    rw [this]
    simp
  rw [if_neg hc']
  have e : Str.mk ((Builtin.Str.strSliceIndices none none (-1) (tx l).length).filterMap ((tx l).cps[·]?)).toArray = tx l.reverse := by
    rw [rev_picked]
  show (Str.mk ((Builtin.Str.strSliceIndices none none (-1) (tx l).length).filterMap ((tx l).cps[·]?)).toArray).length ≤ sizeLine ∧ _
  rw [e]
  refine ⟨by rw [len_tx, List.length_reverse]; exact hl, ?_⟩
  exact ⟨.str (tx l.reverse), H2, I4.tok _, ⟨_, by
    show Value.str (Str.mk ((Builtin.Str.strSliceIndices none none (-1) (tx l).length).filterMap ((tx l).cps[·]?)).toArray) _ = _
    rw [e]⟩, q2⟩
end
end L3

set_option Elab.async false
set_option linter.all false
set_option maxRecDepth 100000
set_option maxHeartbeats 4000000
namespace L3
open PySem PySem.Spec PyProof.Rows L2
/-! ### C.m(..) by the class -/
structure ClsM (K : PySem.W.Frag) (C : Addr) (m : Str) (f : Addr) : Prop where
  sg : PySem.W.specialIn K (.ref C) "__getattribute__" = some (some (.builtin "type.__getattribute__"))
  rd : PySem.W.readsIn K C (.type "type") = true
  fc : PySem.W.findCls K (.ref C) (.type "type") m = some (.val (.ref f))
  kp : PySem.W.keepIn K (.ref f) = true
structure DC (P : Program) (w : World) (K : PySem.W.Frag) (mg : Str → Option Value) (base : Heap) (CX : CXT) (k : Nat) (C : Addr) (m : Str) (ps : List Str) (sp : Sp) : Prop where
  ex : ∃ f fd, ClsM K C m f ∧ FnOk P w K mg base CX k f fd ps sp ∧ Binds K fd ps []
section
variable {X : Cx} {k j : Nat} {C : Addr} {m x : Str} {ps : List Str} {sp : Sp} {e : Expr} {es : List Expr} {t : TA} {apos pos p : Pos}
theorem pe_clsm (D : DC X.prog X.w X.K X.mg X.base CX0 k C m ps sp) (hr : Room j X.A) (hg : Gl X x) (hm : X.mg x = some (.ref C)) (ha : PA X (e :: es) t) {pl : Sem Bool} (hdb : (x == ("__debug__" : Str)) = false := by decide)
    (hst : starEach (e :: es) X.env = (false, eval e X.env) :: starEach es X.env := by rfl) (hpl : (backTo pos (starEach es X.env)).any (·.1) = false := by rfl)
    (ht : eval (.Call (.Attribute (.Name x p) m apos) (e :: es) [] pos) X.env = (do
      let ov ← eval (.Name x p) X.env
      standAt apos.atName
      let (f, first) ← holding [ov] (getMethod ov m pl)
      callWith pos f first (backTo pos (starEach (e :: es) X.env)) (backToKw pos (keywordEach [] X.env))) := by rfl) (hj : k ≤ j := by decide) : PE X (.Call (.Attribute (.Name x p) m apos) (e :: es) [] pos) (tCall sp [] E0 t) := by
  obtain ⟨f, fd, cm, F, hb⟩ := D.ex
  have hn : PE X (.Name x p) (tC (.ref C)) := pe_glob hg hm rfl hdb
  intro pins s σ H Q I h
  refine PySem.W.methodCall_KW (pl := pl) (thn (hn pins s σ H (fun y H1 => y = .ref C ∧ H1 = H) I ⟨rfl, rfl⟩) fun u s1 ⟨y, H1, I1, ry, ey, eH⟩ => ?_) ht
  subst ey eH
  obtain rfl : u = Value.ref C := ry
  refine PySem.W.method_cls I1.kIn cm.sg (PySem.W.cls_value I1.kIn cm.rd cm.fc rfl ?_)
  refine PySem.W.callWith_K (first := []) (h₀ := X.base) I.ok.mod.kin cm.kp (thn (ha pos pins _ σ H1 _ (I1.tok _) h) fun us s2 ⟨vs, H2, I2, r, q2⟩ => ⟨I2.kIn, ?_⟩) hst hpl
  exact run_fn (us := us) (vs := vs) F (hr.mono hj) hb .nil pass0 I2 r q2
/-- text.index(text that stands there) -/
def rIndex : V → List V → Hp → VK → Prop := fun x xs H Q => ∃ (z y : Str) (i : Nat), x = .str z ∧ xs = [.str y] ∧ PySem.Txt.find z y = (i : Int) ∧ Q (.int (i : Nat)) H
theorem m_index : MtR X "str.index" rIndex := by
  intro pins s σ H x xs v us Q I rx rv h
  obtain ⟨z, y, i, rfl, rfl, hf, q⟩ := h
  obtain ⟨t, rfl⟩ := rx
  obtain ⟨u, rfl, t', rfl⟩ := vals1 rv
  unfold PySem.Txt.find at hf
  cases ho : Builtin.Str.occurrences z y 0 z.length 1 with
  | nil => rw [ho] at hf; dsimp only at hf; omega
  | cons a r =>
    rw [ho] at hf
    have : a = i := by dsimp only at hf; omega
    subst this
    exact PySem.SC.index ho ⟨.int _, H, I.tok _, ⟨_, rfl⟩, q⟩
end
end L3

set_option Elab.async false
set_option linter.all false
set_option maxRecDepth 100000
set_option maxHeartbeats 4000000
namespace L3
open PySem PySem.Spec PyProof.Rows L2
/-! ### zip(text, tuple), of one length -/
section
variable {prog : Program} {w : World} {A : Around} {E : Value → Shared → Prop} {s : Shared}
theorem strIt_at {h h' : Heap} {a : Addr} {ty : String} {x : Str} {t : Tok} {i : Nat} (y : h.IsStrIter a ty x t i) (e : ∀ o, h.get? a = some o → h'.get? a = some o) : h'.IsStrIter a ty x t i := let ⟨o, ho, r⟩ := y; ⟨o, e o ho, r⟩
theorem tupIt_at {h h' : Heap} {a t : Addr} {i : Nat} (y : h.IsTupleIter a t i) (e : ∀ o, h.get? a = some o → h'.get? a = some o) : h'.IsTupleIter a t i := let ⟨o, ho, r⟩ := y; ⟨o, e o ho, r⟩
theorem tup_at {h h' : Heap} {a : Addr} {xs : Array Value} (y : h.IsTuple a xs) (e : ∀ o, h.get? a = some o → h'.get? a = some o) : h'.IsTuple a xs := let ⟨o, ho, r⟩ := y; ⟨o, e o ho, r⟩
theorem sit (x : Str) : strIterType x = "str_ascii_iterator" ∨ strIterType x = "str_iterator" := by
  unfold strIterType
  split
  · exact .inl rfl
  · exact .inr rfl
theorem nextOf_str_item {it : Addr} {x : Str} {t : Tok} {i c : Nat} {Q : Value → Shared → Prop} (hit : s.heap.IsStrIter it (strIterType x) x t i) (hx : x.cps[i]? = some c)
    (hQ : ∀ h', h'.IsStrIter it (strIterType x) x t (i + 1) → Heap.SameBut it s.heap h' → Q (.str ⟨#[c]⟩ s.toks) { s with heap := h', toks := s.toks + 1 }) :
    wpAny (model prog w) A (Builtin.SmallTypes.nextOf (.ref it)) Q E s := by
  rcases sit x with e | e
  · rw [e] at hit hQ
    exact wpAny_nextOf_ascii_item hit hx hQ
  · rw [e] at hit hQ
    exact wpAny_nextOf_wide_item hit hx hQ
theorem nextOf_str_end {it : Addr} {x : Str} {t : Tok} {i : Nat} {Q : Value → Shared → Prop} (hh : A.handled = none) (hit : s.heap.IsStrIter it (strIterType x) x t i) (hx : x.cps[i]? = none)
    (hE : ∀ h' e, Heap.ExtBut it s.heap h' → (∃ o, h'.get? e = some o ∧ o.cls = .type "StopIteration") → E (.ref e) { s with heap := h' }) :
    wpAny (model prog w) A (Builtin.SmallTypes.nextOf (.ref it)) Q E s := by
  rcases sit x with e | e
  · rw [e] at hit
    exact wpAny_nextOf_ascii_end hh hit hx hE
  · rw [e] at hit
    exact wpAny_nextOf_wide_end hh hit hx hE
theorem nextOf_tup_item {it t : Addr} {i : Nat} {items : Array Value} {x : Value} {Q : Value → Shared → Prop} (hit : s.heap.IsTupleIter it t i) (ht : s.heap.IsTuple t items) (hx : items[i]? = some x)
    (hQ : ∀ h', h'.IsTupleIter it t (i + 1) → Heap.SameBut it s.heap h' → Q x { s with heap := h' }) :
    wpAny (model prog w) A (Builtin.SmallTypes.nextOf (.ref it)) Q E s := by
  obtain ⟨o, ho, hc, hd⟩ := id hit
  obtain ⟨ol, hol, _, nl, hdl⟩ := ht
  unfold Builtin.SmallTypes.nextOf
  refine wpAny_bind (wpAny_callSpecial?_slot (name := Str.ofString "__next__") hit.typeIs F.slot_tuple_iterator_next
    (wpAny_call_entry F.slot_tuple_iterator_next hit.typeIs F.entry_tuple_iterator_next ?_ (F.args_tuple_iterator_next_1 _)))
  show wpAny _ _ (field (.ref it) 0 >>= _) _ _ s
  refine wpAny_bind (wpAny_field ho hd (x := .ref t) rfl ?_)
  show wpAny _ _ (if (Value.ref t == Value.none) = true then _ else _) _ _ s
  rw [if_neg (show ¬ ((Value.ref t == Value.none) = true) from Bool.false_ne_true)]
  show wpAny _ _ (field (.ref it) 1 >>= _) _ _ s
  refine wpAny_bind (wpAny_field ho hd (x := .int i 0) rfl ?_)
  show wpAny _ _ (seqItems? (.ref t) >>= _) _ _ s
  refine wpAny_bind (wpAny_seqItems hol hdl ?_)
  simp only [Int.toNat_natCast, hx]
  refine wpAny_bind (wpAny_setField ho hd (by simp) (wpAny_pure ⟨x, rfl, wpAny_pure (hQ _ ?_ (Heap.SameBut.update ..))⟩))
  exact ⟨_, Heap.get?_update_self _ ho (Obj.isFreed_of_fields (Obj.data_mapFields hd _)), (Obj.cls_mapFields ..).trans hc, by
    rw [Obj.data_mapFields hd]; simp [rawInt]⟩
structure ApST (z TI TO i1 i2 l2 : Addr) : Prop extends Apart5 z TI TO i1 i2 where
  l2z : l2 ≠ z
  l2TO : l2 ≠ TO
  l2i1 : l2 ≠ i1
  l2i2 : l2 ≠ i2
theorem zst_item {z TI TO i1 i2 l2 : Addr} {k c : Nat} {X : Str} {tx : Tok} {ys : Array Value} {y a b : Value} {Q : Value → Shared → Prop} (D : ApST z TI TO i1 i2 l2)
    (hz : IsZip s.heap z TI TO .none) (hTI : IsPair s.heap TI (.ref i1) (.ref i2)) (hTO : IsPair s.heap TO a b)
    (h1 : s.heap.IsStrIter i1 (strIterType X) X tx k) (h2 : s.heap.IsTupleIter i2 l2 k) (hl2 : s.heap.IsTuple l2 ys) (hx : X.cps[k]? = some c) (hy : ys[k]? = some y)
    (hQ : ∀ h' t', IsZip h' z TI TO (rawInt s.heap.objs.size) → IsPair h' TO (.str ⟨#[c]⟩ t') y → h'.IsStrIter i1 (strIterType X) X tx (k + 1) → h'.IsTupleIter i2 l2 (k + 1) → IsPair h' s.heap.objs.size (.str ⟨#[c]⟩ t') y → h'.objs.size = s.heap.objs.size + 1 →
      (∀ c o, c ≠ z → c ≠ TO → c ≠ i1 → c ≠ i2 → s.heap.get? c = some o → h'.get? c = some o) → Q (.ref s.heap.objs.size) { s with heap := h', toks := s.toks + 1 }) :
    wpAny (model prog w) A (Builtin.«zip.__next__» ⟨[.ref z], []⟩) (fun fin s' => ∃ v, fin = .done (.ret v) ∧ Q v s') E s := by
  show wpAny _ _ (field (.ref z) 2 >>= _) _ _ _
  refine wpAny_bind (wpAny_field hz rfl (x := .bool false) rfl ?_)
  show wpAny _ _ (field (.ref z) 3 >>= _) _ _ _
  refine wpAny_bind (wpAny_field hz rfl (x := .ref TI) rfl ?_)
  refine wpAny_bind (wpAny_seqItems hTI rfl ?_)
  show wpAny _ _ (Builtin.SmallTypes.ownedTupleIsFree (.ref z) >>= _) _ _ _
  refine wpAny_bind ?_
  unfold Builtin.SmallTypes.ownedTupleIsFree
  refine wpAny_bind (wpAny_field hz rfl (x := .none) rfl (wpAny_pure ?_))
  simp only [if_true]
  refine wpAny_bind (wpAny_rule ?_)
  refine wpAny_bind (wpAny_field hz rfl (x := .ref TO) rfl ?_)
  refine wpAny_bind (wpAny_setField_rec hz (by simp) fun h₁ hz₁ hs₁ => ?_)
  replace hz₁ : IsZip h₁ z TI TO .ellipsis := hz₁
  refine wpAny_bind ?_
  simp only [List.zipIdx_cons, List.zipIdx_nil, List.forIn_cons, List.forIn_nil]
  refine wpAny_bind (wpAny_bind (wpAny_onRaise ?_))
  show wpAny _ _ (Builtin.SmallTypes.nextOf (.ref i1) >>= _) _ _ _
  refine wpAny_bind (nextOf_str_item (s := { s with heap := h₁ }) (strIt_at h1 fun o e => hs₁.extBut _ _ D.i1z e) hx fun h₂ h1₂ hs₂ => wpAny_pure ?_)
  have hTO₂ : IsPair h₂ TO a b := hs₂.extBut _ _ D.TOi1 (hs₁.extBut _ _ D.TOz hTO)
  refine wpAny_bind (wpAny_seqItems hTO₂ rfl ?_)
  refine wpAny_bind (wpAny_updateSeq_pair hTO₂ fun h₃ hTO₃ hs₃ => ?_)
  replace hTO₃ : IsPair h₃ TO (.str ⟨#[c]⟩ s.toks) b := hTO₃
  refine wpAny_bind (wpAny_letGo (wpAny_pure ?_))
  refine wpAny_bind (wpAny_bind (wpAny_onRaise ?_))
  show wpAny _ _ (Builtin.SmallTypes.nextOf (.ref i2) >>= _) _ _ _
  have up3 : ∀ d o, d ≠ z → d ≠ i1 → d ≠ TO → s.heap.get? d = some o → h₃.get? d = some o := fun d o d1 d2 d3 e => hs₃.extBut _ _ d3 (hs₂.extBut _ _ d2 (hs₁.extBut _ _ d1 e))
  refine wpAny_bind (nextOf_tup_item (tupIt_at h2 fun o e => up3 _ o D.i2z D.i12.symm D.TOi2.symm e) (tup_at hl2 fun o e => up3 _ o D.l2z D.l2i1 D.l2TO e) hy fun h₄ h2₄ hs₄ => wpAny_pure ?_)
  have hTO₄ : IsPair h₄ TO (.str ⟨#[c]⟩ s.toks) b := hs₄.extBut _ _ D.TOi2 hTO₃
  refine wpAny_bind (wpAny_seqItems hTO₄ rfl ?_)
  refine wpAny_bind (wpAny_updateSeq_pair hTO₄ fun h₅ hTO₅ hs₅ => ?_)
  replace hTO₅ : IsPair h₅ TO (.str ⟨#[c]⟩ s.toks) y := hTO₅
  refine wpAny_bind (wpAny_letGo (wpAny_pure (wpAny_pure ?_)))
  refine wpAny_bind (wpAny_seqItems hTO₅ rfl ?_)
  refine wpAny_bind (wpAny_newTuple ?_)
  have hsz : h₅.objs.size = s.heap.objs.size := by rw [hs₅.1, hs₄.1, hs₃.1, hs₂.1, hs₁.1]
  have hz₅ : IsZip h₅ z TI TO .ellipsis := hs₅.extBut _ _ D.TOz.symm (hs₄.extBut _ _ D.i2z.symm (hs₃.extBut _ _ D.TOz.symm (hs₂.extBut _ _ D.i1z.symm hz₁)))
  have hk₅ : ∀ c o, c ≠ z → c ≠ TO → c ≠ i1 → c ≠ i2 → s.heap.get? c = some o → h₅.get? c = some o := fun c o c1 c2 c3 c4 e =>
    hs₅.extBut _ _ c2 (hs₄.extBut _ _ c4 (up3 _ _ c1 c3 c2 e))
  have h1₅ : h₅.IsStrIter i1 (strIterType X) X tx (k + 1) := strIt_at h1₂ fun o e => hs₅.extBut _ _ D.TOi1.symm (hs₄.extBut _ _ D.i12 (hs₃.extBut _ _ D.TOi1.symm e))
  have h2₅ : h₅.IsTupleIter i2 l2 (k + 1) := tupIt_at h2₄ fun o e => hs₅.extBut _ _ D.TOi2.symm e
  have hzlt : z < h₅.objs.size := Heap.lt_size hz₅
  show wpAny _ _ (Builtin.SmallTypes.ownedTupleHandOut (.ref z) (.ref h₅.objs.size) >>= _) _ _ _
  refine wpAny_bind ?_
  unfold Builtin.SmallTypes.ownedTupleHandOut
  have hz₆ : IsZip (h₅.push { cls := .type "tuple", data := .seq #[.str ⟨#[c]⟩ s.toks, y] }) z TI TO .ellipsis := Heap.get?_push_of_some _ hz₅
  refine wpAny_bind (wpAny_setField_rec hz₆ (by simp) fun h₇ hz₇ hs₇ => ?_)
  replace hz₇ : IsZip h₇ z TI TO (rawInt h₅.objs.size) := hz₇
  refine wpAny_setField_rec hz₇ (by simp) fun h₈ hz₈ hs₈ => ?_
  replace hz₈ : IsZip h₈ z TI TO (rawInt h₅.objs.size) := hz₈
  have up : ∀ c o, c ≠ z → h₅.get? c = some o → h₈.get? c = some o := fun c o c1 e => hs₈.extBut _ _ c1 (hs₇.extBut _ _ c1 (Heap.get?_push_of_some _ e))
  have hT₈ : IsPair h₈ h₅.objs.size (.str ⟨#[c]⟩ s.toks) y := hs₈.extBut _ _ (Nat.ne_of_gt hzlt) (hs₇.extBut _ _ (Nat.ne_of_gt hzlt) (Heap.get?_push_size _ rfl))
  have hz8 : h₈.objs.size = h₅.objs.size + 1 := by rw [hs₈.1, hs₇.1, Heap.size_push]
  rw [hsz] at hz₈ hT₈ hz8
  refine wpAny_pure ⟨_, rfl, ?_⟩
  show Q (.ref h₅.objs.size) _
  rw [hsz]
  exact hQ h₈ s.toks hz₈ (up _ _ D.TOz hTO₅) (strIt_at h1₅ fun o e => up _ o D.i1z e) (tupIt_at h2₅ fun o e => up _ o D.i2z e) hT₈ hz8 fun c o c1 c2 c3 c4 e => up c o c1 (hk₅ c o c1 c2 c3 c4 e)
theorem zst_end {z TI TO i1 i2 l2 : Addr} {k : Nat} {X : Str} {tx : Tok} {a b : Value} {Q : Fin → Shared → Prop} (hh : A.handled = none) (D : ApST z TI TO i1 i2 l2)
    (hz : IsZip s.heap z TI TO .none) (hTI : IsPair s.heap TI (.ref i1) (.ref i2)) (hTO : IsPair s.heap TO a b)
    (h1 : s.heap.IsStrIter i1 (strIterType X) X tx k) (hx : X.cps[k]? = none)
    (hE : ∀ h' e, (∀ c o, c ≠ z → c ≠ TO → c ≠ i1 → c ≠ i2 → s.heap.get? c = some o → h'.get? c = some o) → (∃ o, h'.get? e = some o ∧ o.cls = .type "StopIteration") → E (.ref e) { s with heap := h' }) :
    wpAny (model prog w) A (Builtin.«zip.__next__» ⟨[.ref z], []⟩) Q E s := by
  show wpAny _ _ (field (.ref z) 2 >>= _) _ _ _
  refine wpAny_bind (wpAny_field hz rfl (x := .bool false) rfl ?_)
  show wpAny _ _ (field (.ref z) 3 >>= _) _ _ _
  refine wpAny_bind (wpAny_field hz rfl (x := .ref TI) rfl ?_)
  refine wpAny_bind (wpAny_seqItems hTI rfl ?_)
  show wpAny _ _ (Builtin.SmallTypes.ownedTupleIsFree (.ref z) >>= _) _ _ _
  refine wpAny_bind ?_
  unfold Builtin.SmallTypes.ownedTupleIsFree
  refine wpAny_bind (wpAny_field hz rfl (x := .none) rfl (wpAny_pure ?_))
  simp only [if_true]
  refine wpAny_bind (wpAny_rule ?_)
  refine wpAny_bind (wpAny_field hz rfl (x := .ref TO) rfl ?_)
  refine wpAny_bind (wpAny_setField_rec hz (by simp) fun h₁ hz₁ hs₁ => ?_)
  replace hz₁ : IsZip h₁ z TI TO .ellipsis := hz₁
  refine wpAny_bind ?_
  simp only [List.zipIdx_cons, List.zipIdx_nil, List.forIn_cons, List.forIn_nil]
  refine wpAny_bind (wpAny_bind (wpAny_onRaise ?_))
  show wpAny _ _ (Builtin.SmallTypes.nextOf (.ref i1) >>= _) _ _ _
  refine wpAny_bind (nextOf_str_end (s := { s with heap := h₁ }) hh (strIt_at h1 fun o e => hs₁.extBut _ _ D.i1z e) hx fun h₂ e hs₂ he => ?_)
  obtain ⟨oe, hoe, hce⟩ := he
  have hz₂ : IsZip h₂ z TI TO .ellipsis := hs₂ _ _ D.i1z.symm hz₁
  have hez : e ≠ z := fun x => by subst x; rw [hz₂] at hoe; cases hoe; simp at hce
  refine wpAny_setField_rec hz₂ (by simp) fun h₃ _ hs₃ => hE h₃ e (fun c o c1 _ c3 _ x => hs₃.extBut _ _ c1 (hs₂ _ _ c3 (hs₁.extBut _ _ c1 x))) ⟨oe, hs₃.extBut _ _ hez hoe, hce⟩
end
end L3

set_option Elab.async false
set_option linter.all false
set_option maxRecDepth 100000
set_option maxHeartbeats 4000000
namespace L3
open PySem PySem.Spec PyProof.Rows L2
section
variable {prog : Program} {w : World} {A : Around} {E : Value → Shared → Prop} {s : Shared}
theorem zst_pyNext_item {z TI TO i1 i2 l2 : Addr} {k c : Nat} {X : Str} {tx : Tok} {ys : Array Value} {y a b : Value} {Q : Option Value → Shared → Prop} (D : ApST z TI TO i1 i2 l2)
    (hz : IsZip s.heap z TI TO .none) (hTI : IsPair s.heap TI (.ref i1) (.ref i2)) (hTO : IsPair s.heap TO a b)
    (h1 : s.heap.IsStrIter i1 (strIterType X) X tx k) (h2 : s.heap.IsTupleIter i2 l2 k) (hl2 : s.heap.IsTuple l2 ys) (hx : X.cps[k]? = some c) (hy : ys[k]? = some y)
    (hQ : ∀ h' t', IsZip h' z TI TO (rawInt s.heap.objs.size) → IsPair h' TO (.str ⟨#[c]⟩ t') y → h'.IsStrIter i1 (strIterType X) X tx (k + 1) → h'.IsTupleIter i2 l2 (k + 1) → IsPair h' s.heap.objs.size (.str ⟨#[c]⟩ t') y → h'.objs.size = s.heap.objs.size + 1 →
      (∀ c o, c ≠ z → c ≠ TO → c ≠ i1 → c ≠ i2 → s.heap.get? c = some o → h'.get? c = some o) → Q (some (.ref s.heap.objs.size)) { s with heap := h', toks := s.toks + 1 }) :
    wpAny (model prog w) A (pyNext (.ref z)) Q E s := by
  have hT : s.TypeIs (.ref z) "zip" := ⟨_, hz, rfl⟩
  unfold pyNext
  exact wpAny_bind (wpAny_attempt (wpAny_callSpecial?_slot (name := Str.ofString "__next__") hT F.slot_zip_next
    (wpAny_call_entry F.slot_zip_next hT F.entry_zip_next
      (zst_item D hz hTI hTO h1 h2 hl2 hx hy fun h' t' a1 a2 a3 a4 a5 a6 a7 => wpAny_pure (hQ h' t' a1 a2 a3 a4 a5 a6 a7)) (F.args_zip_next_1 _))))
theorem zst_pyNext_end {z TI TO i1 i2 l2 : Addr} {k : Nat} {X : Str} {tx : Tok} {a b : Value} {Q : Option Value → Shared → Prop} (hh : A.handled = none) (D : ApST z TI TO i1 i2 l2)
    (hz : IsZip s.heap z TI TO .none) (hTI : IsPair s.heap TI (.ref i1) (.ref i2)) (hTO : IsPair s.heap TO a b)
    (h1 : s.heap.IsStrIter i1 (strIterType X) X tx k) (hx : X.cps[k]? = none)
    (hQ : ∀ h', (∀ c o, c ≠ z → c ≠ TO → c ≠ i1 → c ≠ i2 → s.heap.get? c = some o → h'.get? c = some o) → Q none { s with heap := h' }) : wpAny (model prog w) A (pyNext (.ref z)) Q E s := by
  have hT : s.TypeIs (.ref z) "zip" := ⟨_, hz, rfl⟩
  unfold pyNext
  refine wpAny_bind (wpAny_attempt (wpAny_callSpecial?_slot (name := Str.ofString "__next__") hT F.slot_zip_next
    (wpAny_call_entry F.slot_zip_next hT F.entry_zip_next (zst_end hh D hz hTI hTO h1 hx fun h' e hk he => ?_) (F.args_zip_next_1 _))))
  obtain ⟨o, ho, hc⟩ := he
  refine wpAny_bind (wpAny_isInstance (T := "StopIteration") (b := true) ⟨o, ho, hc⟩ isSubtype_stop ?_)
  exact wpAny_pure (hQ _ hk)
end
abbrev zsH1 (h : Heap) (x : Str) (t : Tok) : Heap := h.push { cls := .type (strIterType x), data := .fields #[.str x t, .int 0 0] }
abbrev zsH2 (h : Heap) (x : Str) (t : Tok) (l2 : Addr) : Heap := (zsH1 h x t).push { cls := .type "tuple_iterator", data := .fields #[.ref l2, .int 0 0] }
abbrev zsH3 (h : Heap) (x : Str) (t : Tok) (l2 : Addr) : Heap := (zsH2 h x t l2).push { cls := .type "tuple", data := .seq #[.ref h.objs.size, .ref (zsH1 h x t).objs.size] }
abbrev zsH4 (h : Heap) (x : Str) (t : Tok) (l2 : Addr) : Heap := (zsH3 h x t l2).push { cls := .type "tuple", data := .seq #[.none, .none] }
abbrev zsH5 (h : Heap) (x : Str) (t : Tok) (l2 : Addr) : Heap := (zsH4 h x t l2).push { cls := .type "zip", data := .fields #[.none, .bool false, .bool false, .ref (zsH2 h x t l2).objs.size, .ref (zsH3 h x t l2).objs.size] }
theorem meets_zst_new (x : Str) (t : Tok) (l2 : Addr) (ys : Array Value) :
    Meets (Builtin.«zip.__new__» ⟨[.type "zip", .str x t, .ref l2], []⟩) (fun _ R s => s.heap.IsTuple l2 ys ∧
      R (.ok (.ret (.ref (zsH4 s.heap x t l2).objs.size))) { s with heap := zsH5 s.heap x t l2 }) :=
  .of_wp fun prog w A R s h => by
    obtain ⟨hp, g, d, tk, os⟩ := s; obtain ⟨hl2, h⟩ := h
    have hsub := sub_zip
    have hL2 : Heap.IsTuple (Shared.heap ⟨hp.push { cls := .type (strIterType x), data := .fields #[.str x t, .int 0 0] }, g, d, tk, os⟩) l2 ys := tup_at hl2 fun o e => Heap.get?_push_of_some _ e
    wp_walk using wpAny_pyIter_strU (s := ⟨hp, g, d, tk, os⟩) (x := x) (t := t), wpAny_pyIter_tuple hL2
    exact ⟨_, rfl, h⟩
section
variable {prog : Program} {w : World} {A : Around} {E : Value → Shared → Prop} {s : Shared}
theorem call_zst {x : Str} {t : Tok} {l2 : Addr} {ys : Array Value} {Q : Value → Shared → Prop} (hl2 : s.heap.IsTuple l2 ys)
    (h : ∀ h', IsZip h' (s.heap.objs.size + 4) (s.heap.objs.size + 2) (s.heap.objs.size + 3) .none → IsPair h' (s.heap.objs.size + 2) (.ref s.heap.objs.size) (.ref (s.heap.objs.size + 1)) →
      IsPair h' (s.heap.objs.size + 3) .none .none → h'.IsStrIter s.heap.objs.size (strIterType x) x t 0 → h'.IsTupleIter (s.heap.objs.size + 1) l2 0 → h'.objs.size = s.heap.objs.size + 5 →
      (∀ c o, s.heap.get? c = some o → h'.get? c = some o) → Q (.ref (s.heap.objs.size + 4)) { s with heap := h' }) :
    wpAny (model prog w) A (call (.type "zip") [.str x t, .ref l2]) Q E s := by
  refine callType_new F.called_zip (by decide) (F.typeCall_zip_2 _ _) (F.newCall_zip_2 _ _) (fun obj => F.args_object_init_3 obj _ _) F.entry_zip_new
    (meets_zst_new x t l2 ys) ⟨hl2, ?_⟩
  have z1 : (zsH1 s.heap x t).objs.size = s.heap.objs.size + 1 := Heap.size_push ..
  have z2 : (zsH2 s.heap x t l2).objs.size = s.heap.objs.size + 2 := by rw [Heap.size_push, z1]
  have z3 : (zsH3 s.heap x t l2).objs.size = s.heap.objs.size + 3 := by rw [Heap.size_push, z2]
  have z4 : (zsH4 s.heap x t l2).objs.size = s.heap.objs.size + 4 := by rw [Heap.size_push, z3]
  have z5 : (zsH5 s.heap x t l2).objs.size = s.heap.objs.size + 5 := by rw [Heap.size_push, z4]
  have g5 : (zsH5 s.heap x t l2).get? (zsH4 s.heap x t l2).objs.size = some _ := Heap.get?_push_size _ rfl
  have g4 : (zsH5 s.heap x t l2).get? (zsH3 s.heap x t l2).objs.size = some _ := Heap.get?_push_of_some _ (Heap.get?_push_size _ rfl)
  have g3 : (zsH5 s.heap x t l2).get? (zsH2 s.heap x t l2).objs.size = some _ := Heap.get?_push_of_some _ (Heap.get?_push_of_some _ (Heap.get?_push_size _ rfl))
  have g2 : (zsH5 s.heap x t l2).get? (zsH1 s.heap x t).objs.size = some _ := Heap.get?_push_of_some _ (Heap.get?_push_of_some _ (Heap.get?_push_of_some _ (Heap.get?_push_size _ rfl)))
  have g1 : (zsH5 s.heap x t l2).get? s.heap.objs.size = some _ := Heap.get?_push_of_some _ (Heap.get?_push_of_some _ (Heap.get?_push_of_some _ (Heap.get?_push_of_some _ (Heap.get?_push_size _ rfl))))
  show _ ∧ _
  rw [z2, z3, z4] at g5
  rw [z1, z2] at g3
  rw [z3] at g4
  rw [z1] at g2
  rw [z4]
  exact ⟨⟨_, g5, rfl⟩, h _ g5 g3 g4 ⟨_, g1, rfl, rfl⟩ ⟨_, g2, rfl, rfl⟩ z5 fun c o x =>
    Heap.get?_push_of_some _ (Heap.get?_push_of_some _ (Heap.get?_push_of_some _ (Heap.get?_push_of_some _ (Heap.get?_push_of_some _ x))))⟩
end
end L3

set_option Elab.async false
set_option linter.all false
set_option maxRecDepth 100000
set_option maxHeartbeats 4000000
namespace L3
open PySem PySem.Spec PyProof.Rows L2
def Izs (K : PySem.W.Frag) (l : List Nat) (b : Addr) : It := ⟨fun i H => ∃ ys y, SqT K H b ys ∧ i < l.length ∧ ys[i]? = some y, fun i H v H' => ∃ p c y, H p = none ∧ l[i]? = some c ∧ (∀ ys, SqT K H b ys → ys[i]? = some y) ∧ v = .ref p ∧ H' = upd H p (.tup [.str (tx [c]), y]), fun i H => i = l.length⟩
def ZSt (z TI TO i1 i2 : Addr) (X : Str) (t : Tok) (l2 : Addr) (i : Nat) (h : Heap) : Prop := IsZip h z TI TO .none ∧ IsPair h TI (.ref i1) (.ref i2) ∧ (∃ a b, IsPair h TO a b) ∧ h.IsStrIter i1 (strIterType X) X t i ∧ h.IsTupleIter i2 l2 i
theorem turn_zst {P : Program} {w : World} {K : PySem.W.Frag} {elts : List Expr} {x1 : Nat} {tpos : Pos} (z TI TO i1 i2 l2 : Addr) (l : List Nat) (t : Tok) (D : ApST z TI TO i1 i2 l2) :
    Turn P w K (.Tuple elts x1 tpos) (Izs K l l2) [z, TI, TO, i1, i2] z (fun i h => ZSt z TI TO i1 i2 (tx l) t l2 i h) where
  mem := by simp
  obj := fun i h st b hb => by
    obtain ⟨hz, hTI, ⟨a, c, hTO⟩, ⟨o1, e1, c1, d1⟩, ⟨o2, e2, c2, d2⟩⟩ := st
    simp only [List.mem_cons, List.mem_nil_iff, or_false] at hb
    rcases hb with rfl | rfl | rfl | rfl | rfl
    · exact ⟨_, hz, fun v q => by have q' : Data.fields _ = Data.cell v := q; cases q'⟩
    · exact ⟨_, hTI, fun v q => by have q' : Data.seq _ _ = Data.cell v := q; cases q'⟩
    · exact ⟨_, hTO, fun v q => by have q' : Data.seq _ _ = Data.cell v := q; cases q'⟩
    · exact ⟨o1, e1, fun v q => by rw [d1] at q; cases q⟩
    · exact ⟨o2, e2, fun v q => by rw [d2] at q; cases q⟩
  keep := fun i h h' st k => by
    obtain ⟨hz, hTI, ⟨a, c, hTO⟩, h1, h2⟩ := st
    exact ⟨k z (by simp) _ hz, k TI (by simp) _ hTI, ⟨a, c, k TO (by simp) _ hTO⟩, strIt_at h1 fun o e => k i1 (by simp) o e, tupIt_at h2 fun o e => k i2 (by simp) o e⟩
  item := by
    intro X hP hw hK hc i pins s σ H E I hf st hg
    subst hP hw hK
    obtain ⟨ys, y, hqy, hi, hy⟩ := hg
    obtain ⟨its2, rv2, p2, _⟩ := I.tuple hqy
    obtain ⟨u2, hu2, ru2⟩ := rv2.get hy
    obtain ⟨hz, hTI, ⟨a, b, hTO⟩, h1, h2⟩ := st
    have hl2 : s.heap.IsTuple l2 its2.toArray := p2
    have hx : (tx l).cps[i]? = some l[i] := by
      show l.toArray[i]? = _
      simp [hi]
    refine zst_pyNext_item D hz hTI hTO h1 h2 hl2 hx (y := u2) (by simpa using hu2) fun h' t' a1 a2 a3 a4 a5 a6 hk => ?_
    refine ⟨_, rfl, wpAny_letOwnedTupleGo_zip (s := { s with heap := h', toks := s.toks + 1 }) a1 fun h2' hz2 sb => ?_⟩
    have zlt : z < s.heap.objs.size := Heap.lt_size hz
    have TIlt : TI < s.heap.objs.size := Heap.lt_size hTI
    have TOlt : TO < s.heap.objs.size := Heap.lt_size hTO
    have i1lt : i1 < s.heap.objs.size := by obtain ⟨o, e, _⟩ := h1; exact Heap.lt_size e
    have i2lt : i2 < s.heap.objs.size := by obtain ⟨o, e, _⟩ := h2; exact Heap.lt_size e
    have I1 : Inv X pins σ H { s with heap := h2', toks := s.toks + 1 } := Inv.turns (fp := [z, TI, TO, i1, i2]) I (fun b o hb q => by
      have hb' : b ≠ z ∧ b ≠ TI ∧ b ≠ TO ∧ b ≠ i1 ∧ b ≠ i2 := by simpa using hb
      exact (sb.2 b hb'.1).trans (hk b o hb'.1 hb'.2.2.1 hb'.2.2.2.1 hb'.2.2.2.2 q)) hf
    have hp : H s.heap.objs.size = none := I.hok.fresh (Nat.le_refl _)
    have hT2 : h2'.get? s.heap.objs.size = some { cls := .type "tuple", data := .seq #[.str ⟨#[l[i]]⟩ t', u2] } := (sb.2 _ (Nat.ne_of_gt zlt)).trans a5
    have ru1 : RelV (.str (tx [l[i]])) (.str ⟨#[l[i]]⟩ t') := ⟨t', rfl⟩
    have I2 : Inv X pins σ (upd H s.heap.objs.size (.tup [.str (tx [l[i]]), y])) { s with heap := h2', toks := s.toks + 1 } :=
      Inv.track I1 (I.fpOk (Nat.le_refl _) hp) ⟨by show 2 ≤ sizeLine; decide, [.str ⟨#[l[i]]⟩ t', u2], .cons ru1 (.cons ru2 .nil), ⟨_, hT2, rfl, _, rfl⟩⟩
    refine ⟨.ref s.heap.objs.size, _, I2, rfl, ⟨s.heap.objs.size, l[i], y, hp, by simp [hi], fun zs hz' => by rw [I.tuple_inj hz' hqy]; exact hy, rfl, rfl⟩, ⟨hz2, (sb.2 _ D.TIz).trans (hk _ _ D.TIz D.TITO D.TIi1 D.TIi2 hTI), ⟨_, _, (sb.2 _ D.TOz).trans a2⟩, strIt_at a3 fun o e => (sb.2 _ D.i1z).trans e, tupIt_at a4 fun o e => (sb.2 _ D.i2z).trans e⟩, fun b hb => ?_⟩
    rw [upd_ne]
    · exact (hf b hb).1
    · simp only [List.mem_cons, List.mem_nil_iff, or_false] at hb
      rcases hb with rfl | rfl | rfl | rfl | rfl <;> exact Nat.ne_of_lt (by assumption)
  done := by
    intro X hP hw hK hc i pins s σ H E I hf st hg
    subst hP hw hK
    have hi : i = l.length := hg
    obtain ⟨hz, hTI, ⟨a, b, hTO⟩, h1, h2⟩ := st
    refine zst_pyNext_end (I.ok.hd hc) D hz hTI hTO h1 ?_ fun h' hk => ⟨rfl, ?_⟩
    · show l.toArray[i]? = none
      simp [hi]
    · exact Inv.turns (fp := [z, TI, TO, i1, i2]) (t' := s.toks) I (fun b o hb q => by
        have hb' : b ≠ z ∧ b ≠ TI ∧ b ≠ TO ∧ b ≠ i1 ∧ b ≠ i2 := by simpa using hb
        exact hk b o hb'.1 hb'.2.2.1 hb'.2.2.2.1 hb'.2.2.2.2 q) hf
  self := fun A i s Q E st h => wpAny_pyIter_zip st.1 h
section
variable {X : Cx}
def iZs (K : PySem.W.Frag) (ta : TA) : TI := fun σ H R => ta σ H fun vs H1 => ∃ l b, vs = [.str (tx l), .ref b] ∧ (∃ ys, SqT K H1 b ys) ∧ R (Izs K l b) H1
theorem pi_zst {a b : Expr} {ta : TA} {p pos tpos : Pos} {elts : List Expr} {x1 : Nat} (hg : Gl X "zip") (hm : X.mg "zip" = none) (ha : PA X [a, b] ta) (hs : starEach [a, b] X.env = (false, eval a X.env) :: starEach [b] X.env := by rfl)
    (hpl : (backTo pos (starEach [b] X.env)).any (·.1) = false := by rfl) : PI X (.Tuple elts x1 tpos) (.Call (.Name "zip" p) [a, b] [] pos) (iZs X.K ta) := by
  intro pins s σ H R I h
  refine Call_ (ld_blt I hg hm PyProof.Rows.boot_zip (PyProof.Rows.callWith_type1 (thn (ha pos pins s σ H _ I h) fun us s1 ⟨vs, H1, I1, r1, q1⟩ => ?_) hs hpl))
  obtain ⟨l, l2, e, ⟨ys, hqy⟩, q⟩ := q1
  subst e
  obtain ⟨u1, u2, rfl, ru1, ru2⟩ := vals2 r1
  obtain ⟨t, rfl⟩ := ru1
  cases ru2
  obtain ⟨its2, rv2, p2, _⟩ := I1.tuple hqy
  have hl2 : s1.heap.IsTuple l2 its2.toArray := p2
  have l2lt : l2 < s1.heap.objs.size := by obtain ⟨o, e, _⟩ := hl2; exact Heap.lt_size e
  have ne : ∀ a b : Nat, a ≠ b → s1.heap.objs.size + a ≠ s1.heap.objs.size + b := fun a b h e => h (Nat.add_left_cancel e)
  have nl : ∀ a : Nat, l2 ≠ s1.heap.objs.size + a := fun a => Nat.ne_of_lt (Nat.lt_of_lt_of_le l2lt (Nat.le_add_right _ _))
  refine call_zst hl2 fun h' hz hTI hTO h1 h2 hsz kk => ?_
  have I2 : Inv X pins σ H1 { s1 with heap := h' } := I1.kept (t' := s1.toks) kk
  refine wpAny_pyIter_zip (s := { s1 with heap := h' }) hz ?_
  refine ⟨s1.heap.objs.size + 4, [s1.heap.objs.size + 4, s1.heap.objs.size + 2, s1.heap.objs.size + 3, s1.heap.objs.size, s1.heap.objs.size + 1], _, _, H1, rfl, I2, turn_zst (s1.heap.objs.size + 4) (s1.heap.objs.size + 2) (s1.heap.objs.size + 3) s1.heap.objs.size (s1.heap.objs.size + 1) l2 l t ⟨⟨ne 2 4 (by decide), ne 3 4 (by decide), ne 0 4 (by decide), ne 1 4 (by decide), ne 2 3 (by decide), ne 2 0 (by decide), ne 2 1 (by decide), ne 3 0 (by decide), ne 3 1 (by decide), ne 0 1 (by decide)⟩, nl 4, nl 3, nl 0, nl 1⟩, ⟨hz, hTI, ⟨_, _, hTO⟩, h1, h2⟩, fun b hb => ?_, q⟩
  have hb' : s1.heap.objs.size ≤ b := by
    simp only [List.mem_cons, List.mem_nil_iff, or_false] at hb
    rcases hb with e | e | e | e | e
    · rw [e]; exact Nat.le_add_right _ _
    · rw [e]; exact Nat.le_add_right _ _
    · rw [e]; exact Nat.le_add_right _ _
    · rw [e]; exact Nat.le_refl _
    · rw [e]; exact Nat.le_add_right _ _
  exact I1.fpOk hb' (I1.hok.fresh hb')
end
def CompZ (K : PySem.W.Frag) (l : List Nat) (b : Addr) (g : TG) (tt : TT) (te : TE) (own : Nat) (ix : List Nat) (σ : L2.St) (H1 : Hp) (Q : VK) (D : Addr) : Prop := CompG (Izs K l b) g tt te own ix σ H1 Q D
theorem rd_cz {K : PySem.W.Frag} {ta : TA} {g : TG} {tt : TT} {te : TE} {own : Nat} {ix : List Nat} {σ : L2.St} {H : Hp} {Q : VK} : tComp (iZs K ta) g tt te own ix σ H Q = ta σ H fun vs H1 => ∃ l b, vs = [.str (tx l), .ref b] ∧ (∃ ys, SqT K H1 b ys) ∧ ∀ D, H1 D = none → CompZ K l b g tt te own ix σ H1 Q D := rfl
section
variable {g : TG} {tt : TT} {te : TE} {own : Nat} {ix : List Nat} {σ : L2.St} {H1 : Hp} {Q : VK} {D : Addr}
theorem CompZ.by {K : PySem.W.Frag} {l : List Nat} {b : Addr} {ys : List V} (Pv : Nat → List V → Hp → Prop) (hlen : l.length = ys.length) (h0 : Pv 0 [] (upd H1 D (.lst []))) (hl : ∀ i acc H', i ≤ l.length → Pv i acc H' → SqT K H' b ys)
    (hs : ∀ i c y acc H' p, l[i]? = some c → ys[i]? = some y → Pv i acc H' → H' p = none → g (.ref p) (seen σ own ix) (upd H' p (.tup [.str (tx [c]), y])) fun σ3 H3 => KeepsSt (seen σ own ix) σ3 ∧ tt σ3 H3 fun b H4 => if b = true then
      te σ3 H4 fun v H5 => H5 D = some (.lst acc) ∧ acc.length < sizeLine ∧ CNx l.length i Pv (acc ++ [v]) (upd H5 D (.lst (acc ++ [v]))) else CNx l.length i Pv acc H4)
    (hd : ∀ acc H', Pv l.length acc H' → Q (.ref D) H') : CompZ K l b g tt te own ix σ H1 Q D := by
  refine ⟨fun i m acc H => m = l.length - i ∧ i ≤ l.length ∧ Pv i acc H, ⟨l.length, by simp, Nat.zero_le _, h0⟩, ?_⟩
  rintro i m acc H' ⟨rfl, hi, p⟩
  have q := hl i acc H' hi p
  by_cases hlt : i < l.length
  · refine .inr ⟨⟨ys, ys[i], q, hlt, by simp [← hlen, hlt]⟩, fun x H2 y => ?_⟩
    obtain ⟨p', c, y, hp, hc, hy, ev, eH⟩ := y
    subst ev eH
    exact hs i c y acc H' p' hc (hy ys q) p hp
  · have e : i = l.length := by omega
    subst e
    exact .inl ⟨rfl, hd acc H' p⟩
end
end L3

set_option Elab.async false
set_option linter.all false
set_option maxRecDepth 100000
set_option maxHeartbeats 4000000
namespace L3
open PySem PySem.Spec PyProof.Rows L2
section
variable {X : Cx} {k1 k2 k3 j : Nat} {C1 C2 C3 : Addr} {m : Str} {ps : List Str} {s1 s2 s3 : Sp} {o e : Expr} {es : List Expr} {ta : TE} {t : TA} {apos pos p : Pos} {E : XK}
/-- two readings of one expression: whichever can be told -/
def tAlt (t1 t2 : TE) : TE := fun σ H Q => t1 σ H Q ∨ t2 σ H Q
theorem pe_alt {t1 t2 : TE} (h1 : PE X e t1) (h2 : PE X e t2) : PE X e (tAlt t1 t2) := by
  intro pins s σ H Q I h
  rcases h with h | h
  · exact h1 pins s σ H Q I h
  · exact h2 pins s σ H Q I h
theorem me1_3 (D1 : DM X.prog X.w X.K X.mg X.base CX0 k1 C1 m ps s1) (D2 : DM X.prog X.w X.K X.mg X.base CX0 k2 C2 m ps s2) (D3 : DM X.prog X.w X.K X.mg X.base CX0 k3 C3 m ps s3) (c1 : Cls X.K C1) (c2 : Cls X.K C2) (c3 : Cls X.K C3) (hr : Room j X.A) (he : PE X o ta) (ha : PA X (e :: es) t) {pl : Sem Bool}
    (hst : starEach (e :: es) X.env = (false, eval e X.env) :: starEach es X.env := by rfl) (hpl : (backTo pos (starEach es X.env)).any (·.1) = false := by rfl)
    (ht : eval (.Call (.Attribute o m apos) (e :: es) [] pos) X.env = (do
      let ov ← eval o X.env
      standAt apos.atName
      let (f, first) ← holding [ov] (getMethod ov m pl)
      callWith pos f first (backTo pos (starEach (e :: es) X.env)) (backToKw pos (keywordEach [] X.env))) := by rfl) (h1 : k1 ≤ j := by decide) (h2 : k2 ≤ j := by decide) (h3 : k3 ≤ j := by decide) :
    PE X (.Call (.Attribute o m apos) (e :: es) [] pos) (tAlt (tMeth C1 m s1 [] E0 ta t) (tAlt (tMeth C2 m s2 [] E0 ta t) (tMeth C3 m s3 [] E0 ta t))) :=
  pe_alt (me1 (pl := pl) D1 c1 hr he ha hst hpl ht h1) (pe_alt (me1 (pl := pl) D2 c2 hr he ha hst hpl ht h2) (me1 (pl := pl) D3 c3 hr he ha hst hpl ht h3))
end
end L3

set_option Elab.async false
set_option linter.all false
set_option maxRecDepth 100000
set_option maxHeartbeats 4000000
namespace L3
open PySem PySem.Spec PyProof.Rows L2
section
variable {X : Cx}
/-! ### list.index of a number, list.insert(0, v) -/
def rIns0 : V → List V → Hp → VK → Prop := fun x vs H Q => ∃ l xs y, x = .ref l ∧ vs = [.int 0, y] ∧ H l = some (.lst xs) ∧ xs.length < sizeLine ∧ Q .non (upd H l (.lst (y :: xs)))
theorem mt_ins0 : MtM X "list.insert" rIns0 := by
  intro pins s σ H x vs v us Q I rx rv h
  obtain ⟨l, xs, y, rfl, rfl, hH, hz, q⟩ := h
  cases rx
  cases rv with
  | cons r1 r2 =>
    obtain ⟨t0, rfl⟩ := r1
    obtain ⟨u, rfl, ru⟩ := vals1 r2
    obtain ⟨z, its, n, r, hl, e⟩ := I.lstM hH
    refine call_meets F.slot_list_insert ⟨_, e, rfl⟩ F.entry_list_insert (F.args_list_insert_3 _ _ _) (PySem.AutoSeq1.list_insert_list_int_val_1 l its.toArray n 0 t0 u (by decide) (by rw [List.size_toArray]; omega)) ⟨e, ?_⟩
    refine ⟨.non, _, I.lset (its' := u :: its) hH e ?_ (.cons ru r) ?_, rfl, q⟩
    · simp
    · rw [List.length_cons]
      omega
end
end L3

set_option Elab.async false
set_option linter.all false
set_option maxRecDepth 100000
set_option maxHeartbeats 4000000
namespace L3
open PySem PySem.Spec PyProof.Rows L2
section
variable {X : Cx}
/-! ### list.remove of a text -/
def rRem : V → List V → Hp → VK → Prop := fun x vs H Q => ∃ (l : Addr) (ws : List (List Nat)) (w : List Nat), x = .ref l ∧ vs = [.str (tx w)] ∧ H l = some (.lst (ws.map fun w => V.str (tx w))) ∧ w ∈ ws ∧ Q .non (upd H l (.lst ((ws.erase w).map fun w => V.str (tx w))))
def eqTV (w : List Nat) : Value → Bool
  | .str y _ => y.cps.toList == (tx w).cps.toList
  | _ => false
theorem vals_erase : ∀ {xs : List V} {us : List Value} (j : Nat), Vals xs us → Vals (xs.eraseIdx j) (us.eraseIdx j)
  | _, _, j, .nil => by simp only [List.eraseIdx_nil]; exact .nil
  | _, _, 0, .cons r rs => by simpa only [List.eraseIdx_cons_zero] using rs
  | _, _, j + 1, .cons r rs => by simp only [List.eraseIdx_cons_succ]; exact .cons r (vals_erase j rs)
theorem erase_map {α β : Type} (f : α → β) : ∀ (l : List α) (j : Nat), (l.map f).eraseIdx j = (l.eraseIdx j).map f
  | [], j => by simp
  | a :: l, 0 => by simp
  | a :: l, j + 1 => by simp [erase_map f l j]
theorem mt_rem : MtM X "list.remove" rRem := by
  intro pins s σ H x vs v us Q I rx rv h
  obtain ⟨l, ws, w, rfl, rfl, hH, hw, q⟩ := h
  cases rx
  obtain ⟨u, rfl, tz, rfl⟩ := vals1 rv
  obtain ⟨z, its, n, r, hl, e⟩ := I.lstM hH
  have hlt := List.idxOf_lt_length_of_mem hw
  rw [List.length_map] at hl z
  have hat : ∀ (j : Nat) (hj : j < its.toArray.size), ∃ u t, ws[j]? = some u ∧ its.toArray[j] = .str (tx u) t := fun j hj => by
    rw [List.size_toArray] at hj
    have hj' : j < ws.length := by omega
    obtain ⟨u, hu, t, rfl⟩ := vals_at r (j := j) (x := .str (tx ws[j])) (by rw [List.getElem?_map, List.getElem?_eq_getElem hj']; rfl)
    exact ⟨_, t, List.getElem?_eq_getElem hj', by simpa using (List.getElem?_eq_some_iff.mp hu).2⟩
  have inj : ∀ u : List Nat, ((tx u).cps.toList == (tx w).cps.toList) = true → u = w := fun u h => by
    have := beq_iff_eq.mp h
    exact (show u = w from this)
  refine call_meets F.slot_list_remove ⟨_, e, rfl⟩ F.entry_list_remove (F.args_list_remove_2 _ _) (PySem.MeetsSeq.list_remove l its.toArray n (.str (tx w) tz) (eqTV w) ?_ (ws.idxOf w) (by rw [List.size_toArray]; omega) ?_ ?_ (by rw [List.size_toArray]; omega)) ⟨e, ?_⟩
  · intro y hy
    obtain ⟨j, hj, rfl⟩ := Array.mem_iff_getElem.mp hy
    obtain ⟨u, t, h1, h2⟩ := hat j hj
    rw [h2]
    exact PySem.SeqRoads2.EqGives.str _ _ _ _
  · obtain ⟨u, t, h1, h2⟩ := hat (ws.idxOf w) (by rw [List.size_toArray]; omega)
    rw [h2]
    rw [List.getElem?_eq_getElem hlt, List.getElem_idxOf] at h1
    cases h1
    simp [eqTV]
  · intro m hm hlt'
    obtain ⟨u, t, h1, h2⟩ := hat m hm
    rw [h2]
    have := List.not_of_lt_findIdx (p := (· == w)) hlt'
    obtain ⟨h3, h4⟩ := List.getElem?_eq_some_iff.mp h1
    simp only [h4] at this
    cases hb : eqTV w (.str (tx u) t) with
    | false => rfl
    | true =>
      have := inj u hb
      subst this
      simp at *
  · refine ⟨.non, _, I.lset (its' := its.eraseIdx (ws.idxOf w)) hH e ?_ (ys := (ws.erase w).map fun w => V.str (tx w)) ?_ ?_, rfl, q⟩
    · apply Array.toList_inj.mp
      simp
    · rw [List.erase_eq_eraseIdx_of_idxOf rfl, ← erase_map]
      exact vals_erase _ r
    · rw [List.length_map]
      have := List.length_erase_le (a := w) (l := ws)
      omega
end
end L3

set_option Elab.async false
set_option linter.all false
set_option maxRecDepth 100000
set_option maxHeartbeats 4000000
namespace L3
open PySem PySem.Spec PyProof.Rows L2 PySem.W PySem.Calls
/-! ### a script weighs little: its numbers have at most 2 ^ 20 bits -/
section
variable {X : Cx}
end
end L3

set_option Elab.async false
set_option linter.all false
set_option maxRecDepth 100000
set_option maxHeartbeats 4000000
namespace L3
open PySem PySem.Spec PyProof.Rows L2
/-! ### an object whose making may raise, within a try -/
section
variable {X : Cx} {k j : Nat} {C : Addr} {x f' : Str} {ps : List Str} {sp : Sp} {e : Expr} {es : List Expr} {t : TA} {te : TX} {pos p : Pos}
end
section
variable {X : Cx} {k j : Nat} {C : Addr} {m x : Str} {ps : List Str} {sp : Sp} {e : Expr} {es : List Expr} {t : TA} {apos pos p : Pos} {E : XK}
end
end L3

set_option Elab.async false
set_option linter.all false
set_option maxRecDepth 100000
set_option maxHeartbeats 4000000
namespace L3
open PySem PySem.Spec PyProof.Rows L2
section
variable {prog : Program} {w : World} {A : Around} {E : Value → Shared → Prop} {s : Shared} {env : Env}
end
end L3

set_option Elab.async false
set_option linter.all false
set_option maxRecDepth 100000
set_option maxHeartbeats 4000000
namespace L3
open PySem PySem.Spec PyProof.Rows L2
theorem XEg.xe {X : Cx} {E : XK} (h : XEg X E) : XE X E := fun e s ⟨pins, σ, H, x, C, t, dx, tb, q⟩ => h e s ⟨.none, false, pins, σ, H, x, C, t, dx, tb, q⟩
/-! ### expressions that may raise, nothing being handled -/
section
variable {X : Cx} {k : Nat} {ps : List Str} {sp : Sp} {ds : List Value} {dvs : List V} {E : XK} {x : Str} {p pos : Pos} {e : Expr} {es : List Expr} {t : TA}
end
/-! xs.m(e), e may raise -/
section
variable {X : Cx} {o e : Expr} {to : TE} {te : TX} {name : Str} {apos cpos : Pos} {T id : String} {r : V → List V → Hp → VK → Prop}
end
/-! ### try: e except D: raise C(..) from None -/
section
variable {X : Cx}
end
section
variable {X : Cx} {k j : Nat} {C : Addr} {ps : List Str} {sp : Sp} {e : Expr} {es : List Expr} {t : TA} {pos p : Pos} {x : Str}
end
end L3

set_option Elab.async false
set_option linter.all false
set_option maxRecDepth 100000
set_option maxHeartbeats 4000000
namespace L3
open PySem PySem.Spec PyProof.Rows L2
/-! ### text.find(part, start, end) -/
end L3

set_option Elab.async false
set_option linter.all false
set_option maxRecDepth 100000
set_option maxHeartbeats 4000000
namespace L3
open PySem PySem.Spec PyProof.Rows L2
/-! ### max(a list of numbers, default = a number) -/
section
variable {prog : Program} {w : World} {A : Around} {R : Result → Shared → Prop} {I l S : Addr}
end
/-! ### a builtin with keywords -/
section
variable {X : Cx} {id : String} {x : Str} {e : Expr} {es : List Expr} {kws : List Keyword} {ks : List Str} {p pos : Pos} {t tk : TA}
def CallKR (X : Cx) (id : String) (ks : List Str) (r : List V → List V → Hp → VK → Prop) : Prop :=
  ∀ (pins : List (Addr × Obj)) (s : Shared) (σ : L2.St) (H : Hp) (vs zs : List V) (us ws : List Value) (Q : VK), Inv X pins σ H s → Vals vs us → Vals zs ws → r vs zs H Q → wpAny (model X.prog X.w) X.A (call (.builtin id) us (ks.zip ws)) (EP X pins σ Q) X.xe s
def tCBK (r : List V → List V → Hp → VK → Prop) (t tk : TA) : TE := fun σ H Q => t σ H fun vs H1 => tk σ H1 fun zs H2 => r vs zs H2 Q
theorem pe_callBK {r : List V → List V → Hp → VK → Prop} (hc : CallKR X id ks r) (hg : Gl X x) (hm : X.mg x = none) (hv : bootBuiltins x = some (.builtin id)) (ha : PA X (e :: es) t) (hk : PK X kws tk) (hks : (backToKw pos (keywordEach kws X.env)).filterMap (·.1) = ks := by rfl) (hn : x ≠ "__name__" := by decide) (hdb : (x == ("__debug__" : Str)) = false := by decide)
    (he : backTo pos (starEach (e :: es) X.env) = (false, eval e X.env) :: backTo pos (starEach es X.env) := by rfl) (hpl : (backTo pos (starEach (e :: es) X.env)).any (·.1) = false := by rfl)
    (hall : (backToKw pos (keywordEach kws X.env)).all (·.1.isSome) = true := by rfl) (hkw : (backToKw pos (keywordEach kws X.env)).any (·.1.isNone) = false := by rfl) : PE X (.Call (.Name x p) (e :: es) kws pos) (tCBK r t tk) := by
  intro pins s σ H Q I h
  refine wpAny_Call_Name_kw (ld_blt I hg hm hv ?_ hn hdb)
  refine callWith_kw (thn (ha pos pins s σ H _ I h) fun us s1 ⟨vs, H1, I1, r1, q1⟩ => thn (hk pos pins s1 σ H1 _ I1 q1) fun ws s2 ⟨zs, H2, I2, r2, q2⟩ => ?_) he hpl hall hkw
  rw [hks]
  exact hc pins s2 σ H2 vs zs us ws Q I2 r1 r2 q2
end
end L3

set_option Elab.async false
set_option linter.all false
set_option maxRecDepth 100000
set_option maxHeartbeats 4000000
namespace L3
open PySem PySem.Spec PyProof.Rows L2
/-! ### a method with values for what is left out -/
end L3

set_option Elab.async false
set_option linter.all false
set_option maxRecDepth 100000
set_option maxHeartbeats 4000000
namespace L3
open PySem PySem.Spec PyProof.Rows L2
/-! ### try: e except C: .., the exception without a name -/
section
variable {X : Cx}
end
end L3

set_option Elab.async false
set_option linter.all false
set_option maxRecDepth 100000
set_option maxHeartbeats 4000000
namespace L3
open PySem PySem.W PyProof.Rows
/-! ### the sort's tree of questions, answered by an order: pure -/
def kRun (lt : Nat → Nat → Bool) {α : Type} : KasT α → α
  | .ret a => a
  | .ask i j k => kRun lt (k (lt i j))
def Kok (lt : Nat → Nat → Bool) (n : Nat) {α : Type} : KasT α → (α → Prop) → Prop
  | .ret a, Q => Q a
  | .ask i j k, Q => i < n ∧ j < n ∧ Kok lt n (k (lt i j)) Q
section
variable {lt : Nat → Nat → Bool} {n : Nat} {α β : Type}
theorem Kok.mono {Q Q' : α → Prop} (hq : ∀ a, Q a → Q' a) : ∀ (t : KasT α), Kok lt n t Q → Kok lt n t Q'
  | .ret a, h => hq a h
  | .ask _ _ k, h => ⟨h.1, h.2.1, Kok.mono hq (k _) h.2.2⟩
theorem Kok.bind {f : α → KasT β} {Q : β → Prop} : ∀ (t : KasT α), Kok lt n t (fun a => Kok lt n (f a) Q) → Kok lt n (t.bind f) Q
  | .ret _, h => h
  | .ask _ _ k, h => ⟨h.1, h.2.1, Kok.bind (k _) h.2.2⟩
theorem Kok.run {Q : α → Prop} : ∀ (t : KasT α), Kok lt n t Q → Q (kRun lt t)
  | .ret _, h => h
  | .ask _ _ k, h => Kok.run (k _) h.2.2
/-- the tree walked where every question in range is answered by lt -/
theorem Kok.wp {cmp : Nat → Nat → (Bool → Shared → Prop) → Shared → Prop} {I : Shared → Prop} (hc : ∀ i j C s, i < n → j < n → I s → (∀ s', I s' → C (lt i j) s') → cmp i j C s) {Q : α → Prop} {R : α → Shared → Prop}
    (hR : ∀ a s, Q a → I s → R a s) : ∀ (t : KasT α) (s : Shared), I s → Kok lt n t Q → t.kasWp cmp R s
  | .ret a, s, hI, h => hR a s h hI
  | .ask i j k, s, hI, h => hc i j _ s h.1 h.2.1 hI fun s' hI' => Kok.wp hc hR (k _) s' hI' h.2.2
end
structure Wk (lt : Nat → Nat → Bool) : Prop where
  asym : ∀ a b, lt a b = true → lt b a = false
  ntr : ∀ a b c, lt b a = false → lt c b = false → lt c a = false
section
variable {lt : Nat → Nat → Bool} {n : Nat}
/-- a at most b -/
abbrev Lq (lt : Nat → Nat → Bool) (a b : Nat) : Prop := lt b a = false
theorem Wk.refl (W : Wk lt) (a : Nat) : Lq lt a a := by
  cases h : lt a a with
  | false => exact h
  | true => exact absurd h (by rw [W.asym a a h]; decide)
abbrev pg (p : Array Nat) (i : Nat) : Nat := p.getD i 0
theorem pg_eq (p : Array Nat) (i : Nat) : pg p i = (p[i]?).getD 0 := by simp [pg, Array.getD_eq_getD_getElem?]
def Up (lt : Nat → Nat → Bool) (p : Array Nat) (m : Nat) : Prop := ∀ i j, i < j → j < m → Lq lt (pg p i) (pg p j)
def Dn (lt : Nat → Nat → Bool) (p : Array Nat) (m : Nat) : Prop := ∀ i j, i < j → j < m → Lq lt (pg p j) (pg p i)
/-- an array of n numbers below n, a turning of the first n -/
def Rg (n : Nat) (p : Array Nat) : Prop := p.toList.Perm (List.range n)
theorem Rg.size {p : Array Nat} (h : Rg n p) : p.size = n := by have := h.length_eq; simpa using this
theorem Rg.bd {p : Array Nat} (h : Rg n p) {i : Nat} (hi : i < n) : pg p i < n := by
  have hs := h.size
  have hi' : i < p.size := by omega
  have e : pg p i = p[i] := by simp [pg, Array.getD, hi']
  rw [e]
  have hm : p[i] ∈ p.toList := Array.mem_toList_iff.mpr (Array.getElem_mem hi')
  exact List.mem_range.mp (h.mem_iff.mp hm)
theorem rev_pg {p : Array Nat} {i j : Nat} (hj : j ≤ p.size) (k : Nat) : pg (kas_rev p i j) k = if i ≤ k ∧ k < j then pg p (i + j - 1 - k) else pg p k := by
  rw [pg_eq, kas_rev, getElem?_mirror_all hj]
  split <;> rw [pg_eq]
theorem Rg.rev {p : Array Nat} (h : Rg n p) (i j : Nat) : Rg n (kas_rev p i j) := (Array.perm_iff_toList_perm.mp (mirror_perm p i j _)).trans h
theorem Rg.bub {p : Array Nat} (h : Rg n p) (i j : Nat) : Rg n (bubble p i j) := (Array.perm_iff_toList_perm.mp (bubble_perm p i j)).trans h
theorem asc_ok (W : Wk lt) {p : Array Nat} (hp : Rg n p) : ∀ (f k : Nat), 1 ≤ k → k + f ≤ n → Up lt p k → Kok lt n (kas_asc p f k) (fun m => k ≤ m ∧ m ≤ k + f ∧ Up lt p m ∧ (m = k + f ∨ lt (pg p m) (pg p (m - 1)) = true))
  | 0, k, h1, h2, hu => ⟨by omega, by omega, hu, Or.inl (by omega)⟩
  | f + 1, k, h1, h2, hu => by
    refine ⟨hp.bd (by omega), hp.bd (by omega), ?_⟩
    rcases Bool.eq_false_or_eq_true (lt (pg p k) (pg p (k - 1))) with hc | hc
    · show Kok lt n (if lt (pg p k) (pg p (k - 1)) = true then .ret k else _) _
      rw [if_pos hc]
      exact ⟨by omega, by omega, hu, Or.inr hc⟩
    · show Kok lt n (if lt (pg p k) (pg p (k - 1)) = true then .ret k else _) _
      rw [if_neg (by rw [hc]; decide)]
      refine (asc_ok W hp f (k + 1) (by omega) (by omega) fun i j hij hj => ?_).mono (fun m hm => ⟨by omega, by omega, hm.2.2.1, ?_⟩) _
      · by_cases e : j = k
        · subst e
          by_cases e2 : i = j - 1
          · subst e2; exact hc
          · exact W.ntr _ _ _ (hu i (j - 1) (by omega) (by omega)) hc
        · exact hu i j hij (by omega)
      · rcases hm.2.2.2 with h | h
        · exact Or.inl (by omega)
        · exact Or.inr h
def Ev (lt : Nat → Nat → Bool) (p : Array Nat) (a b : Nat) : Prop := ∀ i j, a ≤ i → i < b → a ≤ j → j < b → Lq lt (pg p i) (pg p j)
theorem rev_dn {p : Array Nat} {m q : Nat} (hm : m ≤ p.size) (hq : q + 1 ≤ m) (hd : Dn lt p m) (he : Ev lt p (m - (q + 1)) m) : Dn lt (kas_rev p (m - (q + 1)) m) m := by
  intro i j hij hj
  rw [rev_pg hm, rev_pg hm]
  by_cases h1 : m - (q + 1) ≤ i
  · rw [if_pos (show m - (q + 1) ≤ i ∧ i < m by omega), if_pos (show m - (q + 1) ≤ j ∧ j < m by omega)]
    exact he _ _ (by omega) (by omega) (by omega) (by omega)
  · rw [if_neg (show ¬ (m - (q + 1) ≤ i ∧ i < m) by omega)]
    split
    · exact hd _ _ (by omega) (by omega)
    · exact hd _ _ (by omega) (by omega)
theorem desc_ok (W : Wk lt) : ∀ (f : Nat) (p : Array Nat) (k q : Nat), Rg n p → 1 ≤ k → k + f ≤ n → q + 1 ≤ k → Dn lt p k → Ev lt p (k - (q + 1)) k →
    Kok lt n (kas_desc f p k q) (fun r => Rg n r.1 ∧ k ≤ r.2.1 ∧ r.2.1 ≤ k + f ∧ r.2.2 + 1 ≤ r.2.1 ∧ Dn lt r.1 r.2.1 ∧ Ev lt r.1 (r.2.1 - (r.2.2 + 1)) r.2.1)
  | 0, p, k, q, hp, h1, h2, hq, hd, he => ⟨hp, Nat.le_refl _, Nat.le_add_right _ _, hq, hd, he⟩
  | f + 1, p, k, q, hp, h1, h2, hq, hd, he => by
    have hps := hp.size
    refine ⟨hp.bd (by omega), hp.bd (by omega), ?_⟩
    have one : ∀ (p : Array Nat), Ev lt p (k + 1 - (0 + 1)) (k + 1) := fun p i j a b c d => by
      have : i = j := by omega
      subst this
      exact W.refl _
    rcases Bool.eq_false_or_eq_true (lt (pg p k) (pg p (k - 1))) with hc | hc
    · show Kok lt n (if lt (pg p k) (pg p (k - 1)) = true then _ else _) _
      rw [if_pos hc]
      have hle : Lq lt (pg p k) (pg p (k - 1)) := W.asym _ _ hc
      split
      · rename_i hq0
        refine (desc_ok W f _ (k + 1) 0 (hp.rev _ _) (by omega) (by omega) (by omega) (fun i j hij hj => ?_) (one _)).mono (fun r hr => ⟨hr.1, by omega, by omega, hr.2.2.2⟩) _
        by_cases e : j = k
        · subst e
          rw [rev_pg (by omega), rev_pg (by omega), if_neg (by omega)]
          split
          · exact W.ntr _ _ _ hle (he _ _ (by omega) (by omega) (by omega) (by omega))
          · exact W.ntr _ _ _ hle (hd _ _ (by omega) (by omega))
        · exact rev_dn (by omega) hq hd he i j hij (by omega)
      · refine (desc_ok W f _ (k + 1) 0 hp (by omega) (by omega) (by omega) (fun i j hij hj => ?_) (one _)).mono (fun r hr => ⟨hr.1, by omega, by omega, hr.2.2.2⟩) _
        by_cases e : j = k
        · subst e
          by_cases e2 : i = j - 1
          · subst e2; exact hle
          · exact W.ntr _ _ _ hle (hd i (j - 1) (by omega) (by omega))
        · exact hd i j hij (by omega)
    · show Kok lt n (if lt (pg p k) (pg p (k - 1)) = true then _ else _) _
      rw [if_neg (by rw [hc]; decide)]
      refine ⟨hp.bd (by omega), hp.bd (by omega), ?_⟩
      rcases Bool.eq_false_or_eq_true (lt (pg p (k - 1)) (pg p k)) with hd2 | hd2
      · show Kok lt n (if lt (pg p (k - 1)) (pg p k) = true then _ else _) _
        rw [if_pos hd2]
        exact ⟨hp, Nat.le_refl _, Nat.le_add_right _ _, hq, hd, he⟩
      · show Kok lt n (if lt (pg p (k - 1)) (pg p k) = true then _ else _) _
        rw [if_neg (by rw [hd2]; decide)]
        refine (desc_ok W f _ (k + 1) (q + 1) hp (by omega) (by omega) (by omega) (fun i j hij hj => ?_) (fun i j a b c d => ?_)).mono (fun r hr => ⟨hr.1, by omega, by omega, hr.2.2.2⟩) _
        · by_cases e : j = k
          · subst e
            by_cases e2 : i = j - 1
            · subst e2; exact hd2
            · exact W.ntr _ _ _ hd2 (hd i (j - 1) (by omega) (by omega))
          · exact hd i j hij (by omega)
        · have b1 : ∀ i, k + 1 - (q + 1 + 1) ≤ i → i < k → Lq lt (pg p i) (pg p (k - 1)) ∧ Lq lt (pg p (k - 1)) (pg p i) := fun i a b => ⟨he _ _ (by omega) (by omega) (by omega) (by omega), he _ _ (by omega) (by omega) (by omega) (by omega)⟩
          by_cases e : j = k
          · subst e
            by_cases e3 : i = j
            · subst e3; exact W.refl _
            · exact W.ntr _ _ _ (b1 i (by omega) (by omega)).1 hc
          · by_cases e3 : i = k
            · subst e3
              exact W.ntr _ _ _ hd2 (b1 j (by omega) (by omega)).2
            · exact he _ _ (by omega) (by omega) (by omega) (by omega)
theorem tail3_ok (W : Wk lt) {p : Array Nat} {m : Nat} (hp : Rg n p) (h1 : 1 ≤ m) (hm : m ≤ n) (hd : Dn lt p m) : Kok lt n (kas_tail3 m n p) (fun r => Rg n r.2 ∧ 1 ≤ r.1 ∧ r.1 ≤ n ∧ Up lt r.2 r.1) := by
  have hps := hp.size
  unfold kas_tail3
  refine Kok.bind _ ((asc_ok W (hp.rev 0 m) (n - m) m h1 (by omega) fun i j hij hj => ?_).mono (fun k hk => ⟨hp.rev 0 m, by show 1 ≤ k; omega, by show k ≤ n; omega, hk.2.2.1⟩) _)
  rw [rev_pg (by omega), rev_pg (by omega), if_pos (by omega), if_pos (by omega)]
  exact hd _ _ (by omega) (by omega)
theorem descPart_ok (W : Wk lt) {p : Array Nat} {m : Nat} (hp : Rg n p) (h1 : 1 ≤ m) (hm : m + 1 ≤ n) (hd : Dn lt p (m + 1)) : Kok lt n (kas_descPart m n p) (fun r => Rg n r.2 ∧ 1 ≤ r.1 ∧ r.1 ≤ n ∧ Up lt r.2 r.1) := by
  unfold kas_descPart
  refine Kok.bind _ ((desc_ok W (n - (m + 1)) p (m + 1) 0 hp (by omega) (by omega) (by omega) hd fun i j a b c d => ?_).mono (fun r hr => ?_) _)
  · have : i = j := by omega
    subst this
    exact W.refl _
  · obtain ⟨r1, r2, r3, r4, r5, r6⟩ := hr
    have hs := r1.size
    (try dsimp only)
    split
    · exact tail3_ok W (r1.rev _ _) (by omega) (by omega) (rev_dn (by omega) r4 r5 r6)
    · exact tail3_ok W r1 (by omega) (by omega) r5
theorem count_ok (W : Wk lt) {p : Array Nat} (hp : Rg n p) (hn : 1 ≤ n) : Kok lt n (kas_count n p) (fun r => Rg n r.2 ∧ 1 ≤ r.1 ∧ r.1 ≤ n ∧ Up lt r.2 r.1) := by
  have hps := hp.size
  unfold kas_count
  refine Kok.bind _ ((asc_ok W hp (n - 1) 1 (Nat.le_refl _) (by omega) fun i j hij hj => by omega).mono (fun m hm => ?_) _)
  obtain ⟨m1, m2, mu, ms⟩ := hm
  by_cases e : (m == n) = true
  · rw [if_pos e]
    exact ⟨hp, by show 1 ≤ m; omega, by show m ≤ n; omega, mu⟩
  · rw [if_neg e]
    have hne : m ≠ n := fun h => e (by rw [h]; exact beq_self_eq_true _)
    have hlt : lt (pg p m) (pg p (m - 1)) = true := by
      rcases ms with h | h
      · omega
      · exact h
    have hle : Lq lt (pg p m) (pg p (m - 1)) := W.asym _ _ hlt
    by_cases h1 : m > 1
    · rw [if_pos h1]
      refine ⟨hp.bd (by omega), hp.bd (by omega), ?_⟩
      rcases Bool.eq_false_or_eq_true (lt (pg p 0) (pg p (m - 1))) with hc | hc
      · show Kok lt n (if lt (pg p 0) (pg p (m - 1)) = true then _ else _) _
        rw [if_pos hc]
        exact ⟨hp, by show 1 ≤ m; omega, by show m ≤ n; omega, mu⟩
      · show Kok lt n (if lt (pg p 0) (pg p (m - 1)) = true then _ else _) _
        rw [if_neg (by rw [hc]; decide)]
        have u0 : ∀ i, i < m → Lq lt (pg p 0) (pg p i) := fun i hi => by
          by_cases h : i = 0
          · subst h; exact W.refl _
          · exact mu 0 i (by omega) hi
        have ul : ∀ i, i < m → Lq lt (pg p i) (pg p (m - 1)) := fun i hi => by
          by_cases h : i = m - 1
          · subst h; exact W.refl _
          · exact mu i (m - 1) (by omega) (by omega)
        have ev : ∀ i j, i < m → j < m → Lq lt (pg p i) (pg p j) := fun i j hi hj => W.ntr _ _ _ (ul i hi) (W.ntr _ _ _ hc (u0 j hj))
        refine descPart_ok W (hp.rev 0 m) (by omega) (by omega) fun i j hij hj => ?_
        by_cases h : j = m
        · subst h
          rw [rev_pg (by omega), rev_pg (by omega), if_neg (by omega), if_pos (by omega)]
          exact W.ntr _ _ _ hle (ev _ _ (by omega) (by omega))
        · rw [rev_pg (by omega), rev_pg (by omega), if_pos (by omega), if_pos (by omega)]
          exact ev _ _ (by omega) (by omega)
    · rw [if_neg h1]
      refine descPart_ok W hp (by omega) (by omega) fun i j hij hj => ?_
      have h0 : i = m - 1 := by omega
      have h1 : j = m := by omega
      subst h0 h1
      exact hle
theorem place_ok (W : Wk lt) {p : Array Nat} (hp : Rg n p) {k : Nat} (hk : k < n) (hu : Up lt p k) : ∀ (f l r : Nat), l ≤ r → r ≤ k → r - l ≤ f → (∀ i, i < l → Lq lt (pg p i) (pg p k)) → (∀ i, r ≤ i → i < k → Lq lt (pg p k) (pg p i)) →
    Kok lt n (kas_place p k f l r) (fun m => m ≤ k ∧ (∀ i, i < m → Lq lt (pg p i) (pg p k)) ∧ (∀ i, m ≤ i → i < k → Lq lt (pg p k) (pg p i)))
  | 0, l, r, hl, hr, hf, h1, h2 => by
    have : l = r := by omega
    subst this
    exact ⟨hr, h1, h2⟩
  | f + 1, l, r, hl, hr, hf, h1, h2 => by
    unfold kas_place
    by_cases e : l ≥ r
    · rw [if_pos e]
      have : l = r := by omega
      subst this
      exact ⟨hr, h1, h2⟩
    · rw [if_neg e]
      refine ⟨hp.bd hk, hp.bd (by omega), ?_⟩
      rcases Bool.eq_false_or_eq_true (lt (pg p k) (pg p ((l + r) / 2))) with hc | hc
      · show Kok lt n (if lt (pg p k) (pg p ((l + r) / 2)) = true then _ else _) _
        rw [if_pos hc]
        refine place_ok W hp hk hu f l ((l + r) / 2) (by omega) (by omega) (by omega) h1 fun i hi hik => ?_
        by_cases e2 : i = (l + r) / 2
        · subst e2; exact W.asym _ _ hc
        · exact W.ntr _ _ _ (W.asym _ _ hc) (hu _ _ (by omega) hik)
      · show Kok lt n (if lt (pg p k) (pg p ((l + r) / 2)) = true then _ else _) _
        rw [if_neg (by rw [hc]; decide)]
        refine place_ok W hp hk hu f ((l + r) / 2 + 1) r (by omega) hr (by omega) (fun i hi => ?_) h2
        by_cases e2 : i = (l + r) / 2
        · subst e2; exact hc
        · exact W.ntr _ _ _ (hu i ((l + r) / 2) (by omega) (by omega)) hc
theorem bub_pg {p : Array Nat} {k l : Nat} (hk : k < p.size) (hl : l ≤ k) (i : Nat) : pg (bubble p k (k - l)) i = if i = l then pg p k else if l < i ∧ i ≤ k then pg p (i - 1) else pg p i := by
  have e : k - (k - l) = l := by omega
  rw [pg_eq, getElem?_bubble hk (k - l) (by omega), e]
  by_cases h : i = l
  · rw [if_pos h, if_pos h]; exact (pg_eq p k).symm
  · rw [if_neg h, if_neg h]
    by_cases h' : l < i ∧ i ≤ k
    · rw [if_pos h', if_pos h']; exact (pg_eq p (i - 1)).symm
    · rw [if_neg h', if_neg h']; exact (pg_eq p i).symm
theorem bin_ok (W : Wk lt) : ∀ (f : Nat) (p : Array Nat) (k : Nat), Rg n p → k + f = n → Up lt p k → Kok lt n (kas_bin f p k) (fun p' => Rg n p' ∧ Up lt p' n)
  | 0, p, k, hp, hk, hu => by
    have : k = n := by omega
    subst this
    exact ⟨hp, hu⟩
  | f + 1, p, k, hp, hk, hu => by
    have hps := hp.size
    refine Kok.bind _ ((place_ok W hp (by omega) hu k 0 k (by omega) (by omega) (by omega) (fun i hi => by omega) (fun i h1 h2 => by omega)).mono (fun l hl => ?_) _)
    obtain ⟨l1, l2, l3⟩ := hl
    refine bin_ok W f _ (k + 1) (hp.bub _ _) (by omega) fun i j hij hj => ?_
    rw [bub_pg (by omega) l1, bub_pg (by omega) l1]
    by_cases h1 : i = l
    · rw [if_pos h1, if_neg (by omega), if_pos (by omega)]
      exact l3 _ (by omega) (by omega)
    · rw [if_neg h1]
      by_cases h2 : j = l
      · rw [if_pos h2, if_neg (by omega)]
        exact l2 _ (by omega)
      · rw [if_neg h2]
        by_cases h3 : l < i ∧ i ≤ k
        · rw [if_pos h3, if_pos (by omega)]
          exact hu _ _ (by omega) (by omega)
        · rw [if_neg h3]
          by_cases h4 : l < j ∧ j ≤ k
          · rw [if_pos h4]
            by_cases h5 : i = j - 1
            · omega
            · exact hu _ _ (by omega) (by omega)
          · rw [if_neg h4]
            exact hu _ _ (by omega) (by omega)
theorem sort_ok (W : Wk lt) (hn : 1 ≤ n) : Kok lt n (kas_sort n) (fun p => Rg n p ∧ Up lt p n) := by
  unfold kas_sort
  refine Kok.bind _ ((count_ok W (p := List.toArray (List.range n)) (by unfold Rg; exact List.Perm.refl _) hn).mono (fun r hr => ?_) _)
  obtain ⟨r1, r2, r3, r4⟩ := hr
  (try dsimp only)
  split
  · have : max r.1 1 = r.1 := by omega
    rw [this]
    exact bin_ok W _ _ _ r1 (by omega) r4
  · have : r.1 = n := by omega
    rw [this] at r4
    exact ⟨r1, r4⟩
end
structure WkO {α : Type} (lt : α → α → Bool) : Prop where
  asym : ∀ a b, lt a b = true → lt b a = false
  ntr : ∀ a b c, lt b a = false → lt c b = false → lt c a = false
end L3

set_option Elab.async false
set_option linter.all false
set_option maxRecDepth 100000
set_option maxHeartbeats 4000000
namespace L3
open PySem PySem.Spec PyProof.Rows L2
/-! ### sorted(a list, key = a bound method), the keys being tuples -/
structure KeyFam (α : Type) where
  dec : α → List D
  lt : α → α → Bool
  fst : Bool
  d0 : α
structure KeyFam.Ok {α : Type} (F : KeyFam α) : Prop where
  w : WkO F.lt
  eq : ∀ a b, ltDs (F.dec a) (F.dec b) = F.lt a b
  ok : ∀ a b, okDs (F.dec a) (F.dec b)
  dp : ∀ a, dpDs (F.dec a) < 40
  sh : ∀ a, ∃ d r, F.dec a = d :: r ∧ ((F.fst = true ∧ ∃ n, d = .int n) ∨ (F.fst = false ∧ ∃ l, d = .tup l))
section
variable {X : Cx} {pins : List (Addr × Obj)} {σ : L2.St} {H : Hp} {s : Shared}
/-- a pinned record of ours turns -/
theorem Inv.repin {b : Addr} {o o' : Obj} {h' : Heap} (I : Inv X (pins ++ [(b, o)]) σ H s) (hs : X.s₀.heap.objs.size ≤ b) (hn : ∀ p ∈ X.pn ++ pins, p.1 ≠ b) (sb : Heap.SameBut b s.heap h') (ho : h'.get? b = some o') (hd : ∀ v, o'.data ≠ .cell v) :
    Inv X (pins ++ [(b, o')]) σ H { s with heap := h' } := by
  have I1 : Inv X pins σ H s := I.unpinned
  obtain ⟨p1, p2, p3, p4, p5⟩ := I.pin (b, o) (List.mem_append_right _ (List.mem_append_right _ (List.mem_singleton.mpr rfl)))
  have I2 : Inv X pins σ H { s with heap := h' } := Inv.turns I1 (fp := [b]) (t' := s.toks) (fun b' u hb e => (sb.2 b' (by simpa using hb)).trans e) fun b' hb => by
    have e : b' = b := by simpa using hb
    subst e
    refine ⟨p2, p3, p4, .inr hs, fun x c e z => ?_, hn⟩
    obtain ⟨v, o1, ho1, hd1⟩ := I.cell x c e
    subst z
    rw [p1] at ho1
    cases ho1
    exact p5 v hd1
  exact I2.pins_of fun p hp => by
    rcases List.mem_append.mp hp with z | z
    · exact I2.pin p (List.mem_append_right _ z)
    · have e : p = (b, o') := by simpa using z
      subst e
      exact ⟨ho, p2, p3, p4, hd⟩
/-- one more pin -/
theorem Inv.newpin {b : Addr} {o : Obj} (I : Inv X pins σ H s) (hf : FpOk X pins H b) (ho : s.heap.get? b = some o) (hd : ∀ v, o.data ≠ .cell v) : Inv X (pins ++ [(b, o)]) σ H s :=
  I.pins_of fun p hp => by
    rcases List.mem_append.mp hp with z | z
    · exact I.pin p (List.mem_append_right _ z)
    · have e : p = (b, o) := by simpa using z
      subst e
      exact ⟨ho, hf.1, hf.2.1, hf.2.2.1, hd⟩
theorem lex_D (I : Inv X pins σ H s) {A : Around} {b : Bool} {Q : Bool → Shared → Prop} (hu : A.units + 50 < cLine) : ∀ (l m : List D) (xs ys : List V) (its its' : List Value) (i : Nat), Iss X.K H l xs → Iss X.K H m ys → Vals xs its → Vals ys its' → okDs l m → dpDs l < 40 →
    (b = true → i = 0 → (∃ n r, l = .int n :: r) ∧ ∃ n r, m = .int n :: r) → Q (ltDs l m) s → PySem.W.KatLex X.prog X.w A b (decide (its.length < its'.length)) Q (its.zip its') i s
  | [], m, xs, ys, its, its', i, h1, h2, r1, r2, ok, hd, hb, q => by
    simp only [Iss] at h1
    subst h1
    cases r1
    have e : ltDs [] m = decide (([] : List Value).length < its'.length) := by
      have e1 := h2.len
      have e2 := r2.length
      have e3 : m.length = its'.length := by omega
      rw [← e3]
      cases m with
      | nil => simp [ltDs]
      | cons _ _ => simp [ltDs]
    rw [e] at q
    rw [List.zip_nil_left]
    exact PySem.W.kat_nil q
  | d :: l, [], xs, ys, its, its', i, h1, h2, r1, r2, ok, hd, hb, q => by
    simp only [Iss] at h2
    subst h2
    cases r2
    simp only [ltDs] at q
    rw [List.zip_nil_right]
    exact PySem.W.kat_nil (by simpa using q)
  | d :: l, e :: m, xs, ys, its, its', i, h1, h2, r1, r2, ok, hd, hb, q => by
    simp only [Iss] at h1 h2
    obtain ⟨x, xr, rfl, hx, hxr⟩ := h1
    obtain ⟨y, yr, rfl, hy, hyr⟩ := h2
    cases r1 with | cons rx rxr =>
    cases r2 with | cons ry ryr =>
    simp only [okDs] at ok
    simp only [dpDs] at hd
    rename_i u us v vs
    rw [List.zip_cons_cons]
    refine PySem.W.kat_cons (eqAt_D I 45 A d e x y u v (by omega) (by omega) hx hy rx ry X.prog X.w _ _ ?_)
    cases he : eqD d e with
    | true =>
      refine PySem.W.kat_yes ?_
      have := lex_D I (b := b) hu l m xr yr us vs (i + 1) hxr hyr rxr ryr ok.2 (by omega) (fun _ z => absurd z (by omega)) (by simpa only [ltDs, he, if_true] using q)
      simpa using this
    | false =>
      refine PySem.W.kat_no ?_
      have q' : Q (ltD d e) s := by simpa only [ltDs, he, Bool.false_eq_true, if_false] using q
      by_cases hbi : (b && i == 0) = true
      · rw [hbi]
        simp only [Bool.and_eq_true, beq_iff_eq] at hbi
        obtain ⟨⟨n, r, e1⟩, n', r', e2⟩ := hb hbi.1 hbi.2
        cases e1; cases e2
        simp only [Is] at hx hy
        subst hx hy
        obtain ⟨t, rfl⟩ := rx
        obtain ⟨t', rfl⟩ := ry
        simp only [ltD] at q'
        exact oneLt_int q'
      · rw [show (b && i == 0) = false by simpa using hbi]
        exact PySem.W.kat_one _ _ (ltAt_D I 45 A d e x y u v (by omega) (by omega) ok.1 hx hy rx ry X.prog X.w _ _ q')
theorem keyLt_D (I : Inv X pins σ H s) {A : Around} {b : Bool} {Q : Bool → Shared → Prop} {E : Value → Shared → Prop} (hu : A.units + 50 < cLine) {l m : List D} {x y : V} {u v : Value} (hx : Is X.K H (.tup l) x) (hy : Is X.K H (.tup m) y) (rx : RelV x u) (ry : RelV y v)
    (ok : okDs l m) (hd : dpDs l < 40) (hb : b = true → (∃ n r, l = .int n :: r) ∧ ∃ n r, m = .int n :: r) (q : Q (ltDs l m) s) : wpAny (model X.prog X.w) A (keyLt' (tuples' b) u v) Q E s := by
  simp only [Is] at hx hy
  obtain ⟨a, xs, rfl, h1, h2⟩ := hx
  obtain ⟨c, ys, rfl, g1, g2⟩ := hy
  cases rx; cases ry
  obtain ⟨its, r, ⟨o, ho, hoc, n, hod⟩, _⟩ := I.tuple h1
  obtain ⟨its', r', ⟨o', ho', hoc', n', hod'⟩, _⟩ := I.tuple g1
  refine PySem.W.kat_lt ho hod ho' hod' ?_
  have := lex_D I (A := A) (b := b) (Q := Q) hu l m xs ys its its' 0 h2 g2 r r' ok hd (fun z _ => hb z) q
  simpa using this
/-- the kind of the keys -/
theorem kind_D {α : Type} {F : KeyFam α} (FO : F.Ok) (I : Inv X pins σ H s) {M : Model} : ∀ (rs : List α) (acc : List V) (ks : List Value), Iss X.K H (rs.map fun a => .tup (F.dec a)) acc → Vals acc ks →
    ∃ fs, PySem.W.KatTups s.heap ks fs ∧ fs.length = rs.length ∧ ∀ v ∈ fs, PySem.W.Looks M s.heap (typeOf v) (.type (if F.fst = true then "int" else "tuple"))
  | [], acc, ks, h, r => by
    simp only [List.map_nil, Iss] at h
    subst h
    cases r
    exact ⟨[], PySem.W.KatTups.nil, rfl, fun v hv => by cases hv⟩
  | a :: rs, acc, ks, h, r => by
    simp only [List.map_cons, Iss] at h
    obtain ⟨x, xr, rfl, hx, hxr⟩ := h
    cases r with | cons rx rxr =>
    rename_i u us
    obtain ⟨fs, t1, t2, t3⟩ := kind_D FO I (M := M) rs xr us hxr rxr
    simp only [Is] at hx
    obtain ⟨c, xs, rfl, h1, h2⟩ := hx
    cases rx
    obtain ⟨its, ri, ⟨o, ho, hoc, n, hod⟩, _⟩ := I.tuple h1
    obtain ⟨d, dr, ed, hsh⟩ := FO.sh a
    rw [ed] at h2
    simp only [Iss] at h2
    obtain ⟨y, yr, rfl, hy, _⟩ := h2
    cases ri with | cons ry rir =>
    rename_i v vs
    refine ⟨v :: fs, PySem.W.KatTups.cons ho hoc hod (by simp) t1, by simp [t2], fun z hz => ?_⟩
    rcases List.mem_cons.mp hz with e | hz
    · subst e
      rcases hsh with ⟨hf, n', rfl⟩ | ⟨hf, l, rfl⟩
      · rw [if_pos hf]
        simp only [Is] at hy
        subst hy
        obtain ⟨t, rfl⟩ := ry
        exact PySem.W.Looks.of_pure rfl
      · rw [if_neg (by rw [hf]; decide)]
        simp only [Is] at hy
        obtain ⟨c', xs', rfl, g1, _⟩ := hy
        cases ry
        obtain ⟨its', ri', ⟨o', ho', hoc', n', hod'⟩, _⟩ := I.tuple g1
        rw [← hoc']
        exact (PySem.W.Looks.ld ho').andThen .now
    · exact t3 z hz
/-- the key is asked -/
theorem key_call {k : Nat} {f a q : Addr} {fd : FuncData} {ps : List Str} {sp : Sp} {x : V} {u : Value} {Q : VK} (F : FnOk X.prog X.w X.K X.mg X.base CX0 k f fd ps sp) (hr : Room (k + 2) X.A) (hb : Binds X.K fd ps []) (I : Inv X pins σ H s) (hq : H q = some (.met f a)) (rx : RelV x u)
    (h : sp [.ref a, x] H Q E0) : wpAny (model X.prog X.w) X.A.in1.in1 (call (.ref q) [u]) (EP X pins σ Q) (fun _ _ => False) s := by
  have ho : s.heap.get? q = some (PySem.W.methodObj (.ref f) (.ref a)) := I.hok _ _ hq
  have r2 : Vals [V.ref a, x] [.ref a, u] := .cons rfl (.cons rx .nil)
  have hl : ([Value.ref a, u] ++ []).length = ps.length := by rw [List.append_nil, ← r2.length]; exact F.len _ _ _ _ h
  have hbb := hb s [.ref a, u] I.kIn hl
  rw [List.append_nil] at hbb
  refine wpAny_call (PySem.W.method_call ho (codeAny_mono (F.run X.A.in1.in1 X.stack s H ⟨[.ref a, u], []⟩ [.ref a, u] [.ref a, x] Q E0 hr.in1.in1 I.env0.in1.in1 hbb r2 h) fun r s' hq => ?_))
  cases r with
  | error e => exact False.elim hq
  | ok fl =>
    cases fl with
    | ret u => exact I.after hq
    | next => exact False.elim hq
    | brk => exact False.elim hq
    | cont => exact False.elim hq
end
/-- what the keys are -/
def tKeys (q f a : Addr) (sp : Sp) : List V → List V → Hp → (List V → Hp → Prop) → Prop
  | [], acc, H, Q => Q acc H
  | x :: xs, acc, H, Q => H q = some (.met f a) ∧ sp [.ref a, x] H (fun k H' => tKeys q f a sp xs (acc ++ [k]) H' Q) E0
def qSort {α : Type} (K : PySem.W.Frag) (F : KeyFam α) (xs : List V) (Q : VK) : List V → Hp → Prop := fun acc H' => ∃ rs : List α, Iss K H' (rs.map fun a => .tup (F.dec a)) acc ∧
  ∀ ys : List (α × V), ys.Perm (rs.zip xs) → ys.Pairwise (fun p q => F.lt q.1 p.1 = false) → ∀ D, H' D = none → Q (.ref D) (upd H' D (.lst (ys.map (·.2))))
def rSortK {α : Type} (K : PySem.W.Frag) (F : KeyFam α) (Good : Addr → Prop) (sp : Sp) : List V → List V → Hp → VK → Prop := fun vs zs H Q => ∃ (l q f a : Addr) (xs : List V), vs = [.ref l] ∧ zs = [.ref q] ∧ SqL K H l xs ∧ xs.length < 64 ∧ Good f ∧
  tKeys q f a sp xs [] H (qSort K F xs Q)
/-- a list by its places -/
theorem sorted_of {β : Type} {g : β → β → Bool} {d : β} {zs : List β} {p : Array Nat} (h1 : Rg zs.length p) (h2 : Up (fun i j => g (zs.getD i d) (zs.getD j d)) p zs.length) :
    (p.toList.map fun i => zs.getD i d).Perm zs ∧ (p.toList.map fun i => zs.getD i d).Pairwise fun a b => g b a = false := by
  have e : (List.range zs.length).map (fun i => zs.getD i d) = zs := by
    refine List.ext_getElem (by simp) fun i a b => ?_
    have hb : i < zs.length := by simpa using b
    simp [hb]
  refine ⟨(h1.map (fun i => zs.getD i d)).trans (by rw [e]), ?_⟩
  rw [List.pairwise_map, List.pairwise_iff_getElem]
  intro i j hi hj hij
  have hs := h1.size
  have hi' : i < p.size := by simpa using hi
  have hj' : j < p.size := by simpa using hj
  have q := h2 i j hij (by omega)
  have ei : pg p i = p.toList[i] := by simp [pg, Array.getD, hi']
  have ej : pg p j = p.toList[j] := by simp [pg, Array.getD, hj']
  rw [ei, ej] at q
  exact q
end L3

set_option Elab.async false
set_option linter.all false
set_option maxRecDepth 100000
set_option maxHeartbeats 4000000
namespace L3
open PySem PySem.Spec PyProof.Rows L2
section
variable {X : Cx} {pins : List (Addr × Obj)} {σ : L2.St} {H : Hp} {s : Shared}
theorem Inv.fp_of_pin {b : Addr} {o : Obj} (I : Inv X (pins ++ [(b, o)]) σ H s) (hs : X.s₀.heap.objs.size ≤ b) (hn : ∀ p ∈ X.pn ++ pins, p.1 ≠ b) : FpOk X pins H b := by
  obtain ⟨p1, p2, p3, p4, p5⟩ := I.pin (b, o) (List.mem_append_right _ (List.mem_append_right _ (List.mem_singleton.mpr rfl)))
  refine ⟨p2, p3, p4, .inr hs, fun x c e z => ?_, hn⟩
  obtain ⟨v, o1, ho1, hd1⟩ := I.cell x c e
  subst z
  rw [p1] at ho1
  cases ho1
  exact p5 v hd1
theorem Inv.at_pin {b : Addr} {o : Obj} (I : Inv X (pins ++ [(b, o)]) σ H s) : s.heap.get? b = some o := (I.pin (b, o) (List.mem_append_right _ (List.mem_append_right _ (List.mem_singleton.mpr rfl)))).1
theorem seq_nocell {c : String} {xs : Array Value} {n : Nat} : ∀ v, (seqObj c xs n).data ≠ .cell v := fun v z => by cases z
theorem tail_D {D kS : Addr} {e e1 : Nat} {st : SortSt} {ks out : List Value} {A : Around} {E : Value → Shared → Prop} {P : PySem.Fin → Shared → Prop} (I : Inv X ((pins ++ [(D, seqObj "list" #[] e1)]) ++ [(kS, seqObj "list" (List.toArray ks) e)]) σ H s)
    (hD : X.s₀.heap.objs.size ≤ D) (hK : X.s₀.heap.objs.size ≤ kS) (nD : ∀ p ∈ X.pn ++ pins, p.1 ≠ D) (nK : ∀ p ∈ X.pn ++ (pins ++ [(D, seqObj "list" #[] e1)]), p.1 ≠ kS) (hkz : ks.length < 64)
    (hout : (arrOf st).map (·.2) = List.toArray out) (hoz : out.length < 64) (hf : failedOf st = none) (h : ∀ s' c, Inv X (pins ++ [(D, seqObj "list" (List.toArray out) c)]) σ H s' → P (.done (.ret .none)) s') :
    wpAny (model X.prog X.w) A (ksk_tail D false e1 (.ref kS) st) P E s := by
  have pk := Inv.at_pin I
  have s1 := Heap.SameBut.update s.heap kS (Obj.mapSeq fun _ => (#[] : Array Value))
  obtain ⟨ck, hck⟩ : ∃ ck, (s.heap.update kS (Obj.mapSeq fun _ => (#[] : Array Value))).get? kS = some (seqObj "list" #[] ck) := ⟨_, get?_update_seq pk fun _ => #[]⟩
  have I2 := (Inv.repin I hK nK s1 hck seq_nocell).unpinned
  have pd := Inv.at_pin I2
  have s2 := Heap.SameBut.update (s.heap.update kS (Obj.mapSeq fun _ => (#[] : Array Value))) D (Obj.mapSeq fun _ => List.toArray out)
  obtain ⟨c2, hc2⟩ : ∃ c2, ((s.heap.update kS (Obj.mapSeq fun _ => (#[] : Array Value))).update D (Obj.mapSeq fun _ => List.toArray out)).get? D = some (seqObj "list" (List.toArray out) c2) := ⟨_, get?_update_seq pd fun _ => List.toArray out⟩
  have I3 := Inv.repin I2 hD nD s2 hc2 seq_nocell
  unfold ksk_tail
  (try dsimp only)
  rw [hout]
  refine wpAny_bind (listUpdate_at pk rfl ?_ (by rw [List.size_toArray, sizeLine_eq]; omega) (Nat.zero_le _))
  refine wpAny_bind (wpAny_letGo ?_)
  refine wpAny_bind (seqEpoch_at pd rfl ?_)
  refine wpAny_bind (listUpdate_at pd rfl ?_ (Nat.zero_le _) (by simp only [Bool.false_eq_true, if_false]; rw [List.size_toArray, sizeLine_eq]; omega))
  rw [hf]
  simp only [bne_self_eq_false, Bool.false_eq_true, if_false]
  exact wpAny_pure (h _ c2 I3)
theorem end_D {α : Type} {F : KeyFam α} (FO : F.Ok) {D kS : Addr} {e e1 : Nat} {ks its : List Value} {acc xs : List V} {rs : List α} {A : Around} {E : Value → Shared → Prop} {P : PySem.Fin → Shared → Prop} (hu : A.units + 50 < cLine)
    (I : Inv X ((pins ++ [(D, seqObj "list" #[] e1)]) ++ [(kS, seqObj "list" (List.toArray ks) e)]) σ H s)
    (hD : X.s₀.heap.objs.size ≤ D) (hK : X.s₀.heap.objs.size ≤ kS) (nD : ∀ p ∈ X.pn ++ pins, p.1 ≠ D) (nK : ∀ p ∈ X.pn ++ (pins ++ [(D, seqObj "list" #[] e1)]), p.1 ≠ kS)
    (rk : Vals acc ks) (rv : Vals xs its) (hl : ks.length = its.length) (hz : its.length < 64) (hR : Iss X.K H (rs.map fun a => .tup (F.dec a)) acc)
    (h : ∀ s' (ys : List (α × V)) (out : List Value) c, ys.Perm (rs.zip xs) → ys.Pairwise (fun p q => F.lt q.1 p.1 = false) → Vals (ys.map (·.2)) out → out.length < 64 → Inv X (pins ++ [(D, seqObj "list" (List.toArray out) c)]) σ H s' → P (.done (.ret .none)) s') :
    wpAny (model X.prog X.w) A (ksk_end D false its.toArray e1 (.ref kS) (List.toArray ks)) P E s := by
  have L1 := hR.len
  have L2 := rk.length
  have L3 := rv.length
  rw [List.length_map] at L1
  have lz : (rs.zip xs).length = its.length := by rw [List.length_zip]; omega
  unfold ksk_end
  simp only [Bool.false_eq_true, if_false]
  by_cases h2 : its.toArray.size < 2
  · rw [if_pos h2, if_pos h2]
    refine wpAny_bind (wpAny_pure ?_)
    rw [StateT.run_pure]
    refine wpAny_bind (wpAny_pure ?_)
    (try dsimp only)
    refine tail_D (out := its) I hD hK nD nK (by omega) ?_ hz rfl fun s' c I' => h s' (rs.zip xs) its c (List.Perm.refl _) ?_ ?_ hz I'
    · show ((List.toArray ks).zip its.toArray).map (·.2) = _
      apply Array.toList_inj.mp
      rw [Array.toList_map, ksk_zip]
      exact List.map_snd_zip (by simp; omega)
    · rw [List.size_toArray] at h2
      match rs.zip xs, lz with
      | [], _ => exact List.Pairwise.nil
      | [a], _ => exact List.pairwise_singleton _ _
      | _ :: _ :: _, lz => exact absurd lz (by simp only [List.length_cons]; omega)
    · rw [List.map_snd_zip (by omega)]
      exact rv
  · rw [if_neg h2, if_neg h2]
    rw [List.size_toArray] at h2
    obtain ⟨fs, t1, t2, t3⟩ := kind_D FO I (M := model X.prog X.w) rs acc ks hR rk
    refine wpAny_bind (PySem.W.kat_kind t1 (by omega) t3 (by simp) ?_)
    have hfst : ((Value.type (if F.fst = true then "int" else "tuple") : Value) != Value.type "tuple") = F.fst := by
      cases hF : F.fst with
      | true => rfl
      | false => rfl
    rw [hfst]
    have W : Wk (fun i j => F.lt (rs.getD i F.d0) (rs.getD j F.d0)) := ⟨fun a b => FO.w.asym _ _, fun a b c => FO.w.ntr _ _ _⟩
    have ok := sort_ok (n := its.length) W (by omega)
    have lt_eq : (fun i j => F.lt (rs.getD i F.d0) (rs.getD j F.d0)) = (fun i j => (fun (p q : α × V) => F.lt p.1 q.1) ((rs.zip xs).getD i (F.d0, .non)) ((rs.zip xs).getD j (F.d0, .non))) := by
      have one : ∀ i, ((rs.zip xs).getD i (F.d0, V.non)).1 = rs.getD i F.d0 := fun i => by
        by_cases hi : i < its.length
        · have a1 : i < rs.length := by omega
          have a2 : i < xs.length := by omega
          rw [List.getD_eq_getElem?_getD, List.getD_eq_getElem?_getD, List.getElem?_eq_getElem (by omega), List.getElem?_eq_getElem a1]
          simp
        · rw [List.getD_eq_getElem?_getD, List.getD_eq_getElem?_getD, List.getElem?_eq_none (by omega), List.getElem?_eq_none (by omega)]
          rfl
      funext i j
      simp only [one]
    have wp := Kok.wp (n := its.length) (cmp := PySem.W.kas_ask X.prog X.w A (tuples' F.fst) ks) (I := fun s' => Inv X ((pins ++ [(D, seqObj "list" #[] e1)]) ++ [(kS, seqObj "list" (List.toArray ks) e)]) σ H s')
      (R := fun p s' => (Rg its.length p ∧ Up (fun i j => F.lt (rs.getD i F.d0) (rs.getD j F.d0)) p its.length) ∧ Inv X ((pins ++ [(D, seqObj "list" #[] e1)]) ++ [(kS, seqObj "list" (List.toArray ks) e)]) σ H s')
      (fun i j C s' hi hj I' hC => ?_) (fun p s' hp I' => ⟨hp, I'⟩) _ s I ok
    · have run := PySem.W.kat_run (E := E) (vs := its) (ks := ks) (Q := fun st' s' => ∃ p : Array Nat, p.size = its.length ∧ arrOf st' = p.map (PySem.W.kas_item (ks.toArray.zip its.toArray)) ∧ failedOf st' = none ∧ _) hl (by omega) hz (fun p' st' s' a1 a2 a3 a4 => ⟨p', a1, a2, a3, a4⟩) wp
      refine wpAny_bind (wpAny_mono run ?_ fun _ _ e => e)
      rintro ⟨⟨⟩, st'⟩ s' ⟨p, hp, har, hf, ⟨hR1, hU⟩, I'⟩
      (try dsimp only)
      have hout := PySem.W.kat_snds (ks := ks) (vs := its) hl har
      have hR2 : Rg (rs.zip xs).length p := by rw [lz]; exact hR1
      rw [lt_eq, ← lz] at hU
      obtain ⟨g1, g2⟩ := sorted_of (g := fun (p q : α × V) => F.lt p.1 q.1) hR2 hU
      have olen : (p.toList.map fun i => its.getD i Value.none).length = its.length := by rw [List.length_map, Array.length_toList, hp]
      refine tail_D (out := p.toList.map fun i => its.getD i Value.none) I' hD hK nD nK (by omega) hout (by omega) hf fun s2 c I2 => h s2 _ _ c g1 g2 ?_ (by omega) I2
      rw [List.map_map]
      have all : ∀ (js : List Nat), (∀ j ∈ js, j < its.length) → Vals (js.map ((fun x : α × V => x.2) ∘ fun i => (rs.zip xs).getD i (F.d0, .non))) (js.map fun i => its.getD i Value.none) := by
        intro js
        induction js with
        | nil => intro _; exact .nil
        | cons j js ih =>
          intro hj
          refine .cons ?_ (ih fun i hi => hj i (List.mem_cons_of_mem _ hi))
          have hjl := hj j List.mem_cons_self
          have a1 : j < xs.length := by omega
          obtain ⟨u, hu1, ru⟩ := vals_at rv (j := j) (x := xs[j]) (List.getElem?_eq_getElem a1)
          have e1 : ((rs.zip xs).getD j (F.d0, V.non)).2 = xs[j] := by
            rw [List.getD_eq_getElem?_getD, List.getElem?_eq_getElem (by omega)]
            simp
          have e2 : its.getD j Value.none = u := by rw [List.getD_eq_getElem?_getD, hu1]; rfl
          show RelV ((rs.zip xs).getD j (F.d0, V.non)).2 (its.getD j Value.none)
          rw [e1, e2]
          exact ru
      exact all p.toList fun j hj => List.mem_range.mp (hR1.mem_iff.mp hj)
    · have a1 : i < rs.length := by omega
      have a2 : j < rs.length := by omega
      have gi : (rs.map fun a => _root_.L3.D.tup (F.dec a))[i]? = some (.tup (F.dec rs[i])) := by rw [List.getElem?_map, List.getElem?_eq_getElem a1]; rfl
      have gj : (rs.map fun a => _root_.L3.D.tup (F.dec a))[j]? = some (.tup (F.dec rs[j])) := by rw [List.getElem?_map, List.getElem?_eq_getElem a2]; rfl
      obtain ⟨x, hx, ix⟩ := hR.at gi
      obtain ⟨y, hy, iy⟩ := hR.at gj
      obtain ⟨u, hu1, ru⟩ := vals_at rk hx
      obtain ⟨v, hv1, rv1⟩ := vals_at rk hy
      have e1 : ks.getD i Value.none = u := by rw [List.getD_eq_getElem?_getD, hu1]; rfl
      have e2 : ks.getD j Value.none = v := by rw [List.getD_eq_getElem?_getD, hv1]; rfl
      have e3 : rs.getD i F.d0 = rs[i] := by rw [List.getD_eq_getElem?_getD, List.getElem?_eq_getElem a1]; rfl
      have e4 : rs.getD j F.d0 = rs[j] := by rw [List.getD_eq_getElem?_getD, List.getElem?_eq_getElem a2]; rfl
      unfold PySem.W.kas_ask
      rw [e1, e2]
      refine keyLt_D I' hu ix iy ru rv1 (FO.ok _ _) (FO.dp _) (fun hb => ?_) ?_
      · obtain ⟨d, r, ed, hd⟩ := FO.sh rs[i]
        obtain ⟨d', r', ed', hd'⟩ := FO.sh rs[j]
        rcases hd with ⟨_, n, rfl⟩ | ⟨z, _⟩
        · rcases hd' with ⟨_, n', rfl⟩ | ⟨z, _⟩
          · exact ⟨⟨n, r, ed⟩, n', r', ed'⟩
          · rw [hb] at z; cases z
        · rw [hb] at z; cases z
      · rw [FO.eq, ← e3, ← e4]
        exact hC s' I'
theorem rest_D {α : Type} {F : KeyFam α} (FO : F.Ok) {k : Nat} {f a q : Addr} {fd : FuncData} {ps : List Str} {sp : Sp} (Fk : FnOk X.prog X.w X.K X.mg X.base CX0 k f fd ps sp) (hr : Room (k + 2) X.A) (hb : Binds X.K fd ps [])
    {D kS : Addr} {e1 : Nat} {its : List Value} {xs : List V} {E : Value → Shared → Prop} {P : PySem.Fin → Shared → Prop} {Q : VK}
    (I : Inv X ((pins ++ [(D, seqObj "list" #[] e1)]) ++ [(kS, seqObj "list" #[] 0)]) σ H s)
    (hD : X.s₀.heap.objs.size ≤ D) (hK : X.s₀.heap.objs.size ≤ kS) (nD : ∀ p ∈ X.pn ++ pins, p.1 ≠ D) (nK : ∀ p ∈ X.pn ++ (pins ++ [(D, seqObj "list" #[] e1)]), p.1 ≠ kS)
    (rv : Vals xs its) (hz : its.length < 64)
    (ht : tKeys q f a sp xs [] H (qSort X.K F xs Q))
    (hP : ∀ s', EP X pins σ Q (.ref D) s' → P (.done (.ret .none)) s') :
    wpAny (model X.prog X.w) X.A.in1.in1 (ksk_rest D (.ref q) false its.toArray e1 (.ref kS)) P E s := by
  unfold ksk_rest
  refine wpAny_bind (wpAny_rule ?_)
  rw [List.forIn_toArray]
  refine wpAny_bind (ksk_fold (fun j s' => ∃ acc ks e H', Inv X ((pins ++ [(D, seqObj "list" #[] e1)]) ++ [(kS, seqObj "list" (List.toArray ks) e)]) σ H' s' ∧ Vals acc ks ∧ ks.length = j ∧ tKeys q f a sp (xs.drop j) acc H' (qSort X.K F xs Q))
    its 0 s ⟨[], [], 0, H, I, .nil, rfl, ht⟩ (fun j x s1 hx hJ => ?_) fun s1 hJ => ?_)
  · obtain ⟨acc, ks, e, H1, I1, rk, hkl, tk⟩ := hJ
    rw [Nat.zero_add] at hkl tk
    have hjl : j < its.length := (List.getElem?_eq_some_iff.mp hx).1
    have L3 := rv.length
    obtain ⟨u, hu, ru⟩ := vals_at rv (j := j) (x := xs[j]) (List.getElem?_eq_getElem (by omega))
    rw [hx] at hu
    cases hu
    rw [List.drop_eq_getElem_cons (by omega)] at tk
    obtain ⟨hq, hsp⟩ := tk
    refine wpAny_bind (wpAny_attempt (wpAny_mono (key_call Fk hr hb I1 hq ru hsp) (fun kv s2 hk => ?_) fun _ _ z => z.elim))
    obtain ⟨v, H2, I2, rv2, tk2⟩ := hk
    have pk := Inv.at_pin I2
    have sb := Heap.SameBut.update s2.heap kS (Obj.mapSeq (·.push kv))
    have ea : (List.toArray ks).push kv = List.toArray (ks ++ [kv]) := by simp
    obtain ⟨c2, hc2⟩ : ∃ c2, (s2.heap.update kS (Obj.mapSeq (·.push kv))).get? kS = some (seqObj "list" (List.toArray (ks ++ [kv])) c2) := ⟨_, by rw [← ea]; exact get?_update_seq pk (·.push kv)⟩
    have I3 := Inv.repin I2 hK nK sb hc2 seq_nocell
    (try dsimp only)
    refine wpAny_bind (listUpdate_at pk rfl ?_ (by rw [List.size_toArray, sizeLine_eq]; omega) (by rw [Array.size_push, List.size_toArray, sizeLine_eq]; omega))
    refine wpAny_pure ⟨rfl, acc ++ [v], ks ++ [kv], c2, H2, I3, rk.append (.cons rv2 .nil), by rw [List.length_append, List.length_singleton, hkl]; omega, ?_⟩
    rw [Nat.zero_add]
    exact tk2
  · obtain ⟨acc, ks, e, H1, I1, rk, hkl, tk⟩ := hJ
    rw [Nat.zero_add] at hkl tk
    have L3 := rv.length
    rw [← L3, List.drop_length] at tk
    obtain ⟨rs, hR, hq⟩ := tk
    (try dsimp only)
    refine wpAny_bind (listItems_at (Inv.at_pin I1) rfl ?_)
    refine end_D FO (by have := hr.in1.in1.un; omega) I1 hD hK nD nK rk rv hkl hz hR fun s' ys out c p1 p2 p3 p4 I' => hP s' ?_
    have fp := Inv.fp_of_pin I' hD nD
    refine ⟨.ref D, _, Inv.track I'.unpinned (a := D) (o := .lst (ys.map (·.2))) fp ⟨?_, out, c, p3, Inv.at_pin I'⟩, rfl, hq ys p1 p2 D fp.1⟩
    rw [p3.length, sizeLine_eq]
    omega
theorem c_sortK {α : Type} {F : KeyFam α} (FO : F.Ok) {k : Nat} {ps : List Str} {sp : Sp} {Good : Addr → Prop} (hF : ∀ f, Good f → ∃ fd, FnOk X.prog X.w X.K X.mg X.base CX0 k f fd ps sp ∧ Binds X.K fd ps []) (hr : Room (k + 2) X.A) :
    CallKR X "sorted" [Str.ofString "key"] (rSortK X.K F Good sp) := by
  intro pins s σ H vs zs us ws Q I r1 r2 h
  obtain ⟨l, q, f, a, xs, rfl, rfl, hS, hz, hg, ht⟩ := h
  obtain ⟨u, rfl, ru⟩ := vals1 r1
  cases ru
  obtain ⟨w', rfl, rw'⟩ := vals1 r2
  cases rw'
  obtain ⟨fd, Fk, hb⟩ := hF f hg
  obtain ⟨its, rv, pl, _⟩ := I.list hS
  have hlen := rv.length
  show wpAny _ _ (call (.builtin "sorted") [.ref l] [(Str.ofString "key", .ref q)]) _ _ _
  refine call_function_entry_kw kind_sorted plain_sorted entry_sorted (ksk_s1 _ _) ?_
  unfold Builtin.«sorted»
  refine wpAny_bind (m := checkCount "sorted" 1 1 _) (wpAny_pure ?_)
  refine wpAny_bind (collect_list pl.isList ?_ (by rw [sizeLine_eq]; omega))
  refine wpAny_bind (wpAny_newList ?_ (by rw [sizeLine_eq]; omega))
  generalize hh1 : ((s.heap.push (seqObj "list" #[] 0)).update s.heap.objs.size (Obj.mapSeq (· ++ its.toArray))) = h1
  have sz1 : h1.objs.size = s.heap.objs.size + 1 := by rw [← hh1, Heap.size_update, size_push']
  have kp1 : ∀ b o, s.heap.get? b = some o → h1.get? b = some o := fun b o e => by
    have hlt : b < s.heap.objs.size := Heap.lt_size e
    rw [← hh1, Heap.get?_update_ne _ _ _ _ (Nat.ne_of_lt hlt), Heap.get?_push_ne _ _ _ (Nat.ne_of_lt hlt)]
    exact e
  have hoL : (h1.push (seqObj "list" its.toArray 0)).get? h1.objs.size = some (seqObj "list" its.toArray 0) := Heap.get?_push_size _ rfl
  show wpAny _ _ _ _ _ { s with heap := h1.push (seqObj "list" its.toArray 0) }
  refine wpAny_bind (wpAny_holding (wpAny_call_entry_kw slot_list_sort ⟨_, hoL, rfl⟩ entry_list_sort ?body (ksk_l1 _ _)))
  show wpAny _ _ (Builtin.«list.sort» ⟨[.ref h1.objs.size], [(Str.ofString "key", .ref q)]⟩) _ _ _
  rw [ksk_t1]
  generalize hh2 : h1.push (seqObj "list" its.toArray 0) = h2 at hoL
  have sz2 : h2.objs.size = h1.objs.size + 1 := by rw [← hh2, size_push']
  have kp2 : ∀ b o, s.heap.get? b = some o → h2.get? b = some o := fun b o e => by rw [← hh2]; exact Heap.get?_push_of_some _ (kp1 b o e)
  generalize hDD : h1.objs.size = D at hoL
  obtain ⟨e1, ho1⟩ : ∃ e1, (h2.update D (Obj.mapSeq fun _ => (#[] : Array Value))).get? D = some (seqObj "list" #[] e1) := ⟨_, get?_update_seq hoL fun _ => #[]⟩
  have hDs : s.heap.objs.size ≤ D := by rw [← hDD, sz1]; exact Nat.le_succ _
  have sb := Heap.SameBut.update h2 D (Obj.mapSeq fun _ => (#[] : Array Value))
  unfold ksk_tree
  refine wpAny_bind (listItems_at hoL rfl ?_)
  refine wpAny_bind (listUpdate_at hoL rfl ?_ (by rw [List.size_toArray, sizeLine_eq]; omega) (Nat.zero_le _))
  refine wpAny_bind (seqEpoch_at ho1 rfl ?_)
  refine wpAny_bind (wpAny_newTuple ?_ (by show its.length ≤ _; rw [sizeLine_eq]; omega))
  refine wpAny_bind (wpAny_newList ?_ (Nat.zero_le _))
  refine wpAny_holding ?_
  generalize hh3 : (h2.update D (Obj.mapSeq fun _ => (#[] : Array Value))).push (seqObj "tuple" its.toArray 0) = h3
  have sz3 : h3.objs.size = s.heap.objs.size + 3 := by rw [← hh3, size_push', Heap.size_update, sz2, sz1]
  have hoK : (h3.push (seqObj "list" #[] 0)).get? h3.objs.size = some (seqObj "list" #[] 0) := Heap.get?_push_size _ rfl
  have hoD : (h3.push (seqObj "list" #[] 0)).get? D = some (seqObj "list" #[] e1) := Heap.get?_push_of_some _ (by rw [← hh3]; exact Heap.get?_push_of_some _ ho1)
  have kp3 : ∀ b o, s.heap.get? b = some o → (h3.push (seqObj "list" #[] 0)).get? b = some o := fun b o e => by
    have hlt : b < s.heap.objs.size := Heap.lt_size e
    refine Heap.get?_push_of_some _ ?_
    rw [← hh3]
    exact Heap.get?_push_of_some _ ((sb.2 b (Nat.ne_of_lt (Nat.lt_of_lt_of_le hlt hDs))).trans (kp2 b o e))
  have I1 : Inv X pins σ H { s with heap := h3.push (seqObj "list" #[] 0) } := I.kept (t' := s.toks) kp3
  have fD : FpOk X pins H D := I.fpOk (by omega) (I.hok.fresh (by omega))
  have fK : FpOk X pins H h3.objs.size := I.fpOk (by omega) (I.hok.fresh (by omega))
  have I2 := Inv.newpin I1 fD hoD seq_nocell
  have nK : ∀ p ∈ X.pn ++ (pins ++ [(D, seqObj "list" #[] e1)]), p.1 ≠ h3.objs.size := fun p hp => by
    rcases List.mem_append.mp hp with z | z
    · exact fK.2.2.2.2.2 p (List.mem_append_left _ z)
    · rcases List.mem_append.mp z with z | z
      · exact fK.2.2.2.2.2 p (List.mem_append_right _ z)
      · have e : p = (D, seqObj "list" #[] e1) := by simpa using z
        subst e
        show D ≠ _
        omega
  have I3 := Inv.newpin I2 (b := h3.objs.size) ⟨fK.1, fK.2.1, fK.2.2.1, fK.2.2.2.1, fK.2.2.2.2.1, nK⟩ hoK seq_nocell
  have hsz := I.sz
  have hK0 : X.s₀.heap.objs.size ≤ h3.objs.size := by omega
  exact rest_D FO Fk hr hb I3 (by omega) hK0 fD.2.2.2.2.2 nK rv (by omega) ht fun s' hE => ⟨_, rfl, wpAny_pure ⟨_, rfl, hE⟩⟩
end
/-! ### o.m, a bound method as a value, of a family of classes -/
structure Bnd (K : PySem.W.Frag) (m : Str) (f : Addr) : Prop where
  get : PySem.W.specialIn K (.ref f) "__get__" = some (some (.builtin "function.__get__"))
  tk : PySem.W.takesIn K (.ref f) = some false
  cp : PySem.W.copiedNames.contains m = false
def tBMV (K : PySem.W.Frag) (Fam : Addr → Prop) (m : Str) (ta : TE) : TE := fun σ H Q => ta σ H fun x H1 => ∃ C a dx fs, Fam C ∧ x = .ref a ∧ H1 a = some (.ins C dx fs) ∧ fs.lookup m = none ∧
  ∀ q f, H1 q = none → Meth K C m f → Q (.ref q) (upd H1 q (.met f a))
theorem pe_bmV {X : Cx} {o : Expr} {m : Str} {apos : Pos} {ta : TE} {Fam : Addr → Prop} (he : PE X o ta) (hF : ∀ C, Fam C → Cls X.K C ∧ ∃ f, Meth X.K C m f ∧ Bnd X.K m f) (hb : attributeBase o m X.env (eval o X.env) = eval o X.env) : PE X (.Attribute o m apos) (tBMV X.K Fam m ta) := by
  intro pins s σ H Q I h
  refine attr_of hb (thn (he pins s σ H _ I h) fun u s1 ⟨x, H1, I1, rx, C, a, dx, fs, fam, ex, ea, l, q⟩ => ?_)
  subst ex
  obtain rfl : u = Value.ref a := rx
  obtain ⟨c, f, hm, hB⟩ := hF C fam
  obtain ⟨mA, O, r, _, _, _⟩ := ins_get I1.hok ea
  have hn : mA m = none := RelO.none_of (by rw [← l]; exact r m)
  obtain ⟨od, J, hl'⟩ := O.look
  have hl : PySem.W.lookIn m od = some none := by rw [hl', hn]
  refine PySem.W.get_bind I1.kIn J (PySem.W.plainGet_of (c.get m)).1 (PySem.W.findObj_fn c.hd hm.at_ hB.get hB.tk hB.cp hl) (PySem.W.plainGet_of (c.get m)).2 ?_
  refine wpAny_call (PySem.W.fn_get (s := { s1 with toks := s1.toks + 1 }) I1.kIn (beq_iff_eq.mp hm.fn) (PySem.W.handed_on rfl ?_))
  have hfr : H1 s1.heap.objs.size = none := I1.hok.fresh (Nat.le_refl _)
  exact ⟨.ref s1.heap.objs.size, _, I1.laid (t' := s1.toks + 1) (o := .met f a) (fun b u e => Heap.get?_push_of_some _ e) (Nat.le_refl _) (Heap.get?_push_size _ rfl), rfl, q _ f hfr hm⟩
end L3

set_option Elab.async false
set_option linter.all false
set_option maxRecDepth 100000
set_option maxHeartbeats 4000000
namespace PySem
namespace F
theorem owner_rev : Manifest.owners.lookup (String.ofList ['d', 'e', 's', 'r', 'e', 'v', 'e', 'r'].reverse) = some Manifest.sig_reversed := by kernel_rfl
theorem slot_rev_next : Slot "reversed" "__next__" "reversed.__next__" :=
  .of (owner := "reversed") (n := "__next__") (by rw [typeLookup_type, builtinLookup_eq_fast]; kernel_rfl) (by decide +kernel) (by decide +kernel) (by decide +kernel)
    (by first | exact .inl (by decide +kernel) | exact .inr (by decide +kernel)) (by rw [isSubtype_type]; kernel_rfl)
theorem entry_rev_next : entryFor table "reversed.__next__" = some Builtin.«reversed.__next__» := entryFor_of_tree (by kernel_rfl)
theorem args_rev_next_1 (a : Value) : argsOk "reversed.__next__" ⟨[a], []⟩ := by
  unfold argsOk; rw [signature?_of (id := "reversed.__next__") (n := ['_', '_', 't', 'x', 'e', 'n', '_', '_']) (o := ['d', 'e', 's', 'r', 'e', 'v', 'e', 'r']) (by kernel_rfl) owner_rev]; kernel_rfl
theorem slot_rev_iter : Slot "reversed" "__iter__" "reversed.__iter__" :=
  .of (owner := "reversed") (n := "__iter__") (by rw [typeLookup_type, builtinLookup_eq_fast]; kernel_rfl) (by decide +kernel) (by decide +kernel) (by decide +kernel)
    (by first | exact .inl (by decide +kernel) | exact .inr (by decide +kernel)) (by rw [isSubtype_type]; kernel_rfl)
theorem args_rev_iter_1 (a : Value) : argsOk "reversed.__iter__" ⟨[a], []⟩ := by
  unfold argsOk; rw [signature?_of (id := "reversed.__iter__") (n := ['_', '_', 'r', 'e', 't', 'i', '_', '_']) (o := ['d', 'e', 's', 'r', 'e', 'v', 'e', 'r']) (by kernel_rfl) owner_rev]; kernel_rfl
theorem entry_rev_iter : entryFor table "reversed.__iter__" = some Builtin.«dict_keyiterator.__iter__» :=
  entryFor_alias (id' := "dict_keyiterator.__iter__") (by kernel_rfl) (by first | rfl | decide +kernel | (unfold String.splitOn; simp +decide [String.splitOnAux])) (by decide +kernel) (by kernel_rfl)
theorem slot_rev_init : Slot "reversed" "__init__" "object.__init__" :=
  .of (owner := "object") (n := "__init__") (by rw [typeLookup_type, builtinLookup_eq_fast]; kernel_rfl) (by decide +kernel) (by decide +kernel) (by decide +kernel)
    (by first | exact .inl (by decide +kernel) | exact .inr (by decide +kernel)) (by rw [isSubtype_type]; kernel_rfl)
theorem slot_rev_hint : Slot "reversed" "__length_hint__" "reversed.__length_hint__" :=
  .of (owner := "reversed") (n := "__length_hint__") (by rw [typeLookup_type, builtinLookup_eq_fast]; kernel_rfl) (by decide +kernel) (by decide +kernel) (by decide +kernel)
    (by first | exact .inl (by decide +kernel) | exact .inr (by decide +kernel)) (by rw [isSubtype_type]; kernel_rfl)
theorem entry_rev_hint : entryFor table "reversed.__length_hint__" = some Builtin.«reversed.__length_hint__» := entryFor_of_tree (by kernel_rfl)
theorem args_rev_hint_1 (a : Value) : argsOk "reversed.__length_hint__" ⟨[a], []⟩ := by
  unfold argsOk; rw [signature?_of (id := "reversed.__length_hint__") (n := "__length_hint__".toList.reverse) (o := ['d', 'e', 's', 'r', 'e', 'v', 'e', 'r']) (by kernel_rfl) owner_rev]; kernel_rfl
theorem called_reversed : TypeCalled "reversed" "reversed.__new__" "object.__init__" :=
  ⟨by decide +kernel, by decide +kernel, ⟨_, _, mro_reversed⟩, madeBy_type mro_reversed lookup_reversed_new (by decide +kernel), by decide +kernel, by rw [isSubtype_type]; kernel_rfl, slot_rev_init⟩
end F
def revS (x : Str) (t : Tok) (i : Int) : Obj := { cls := .type "reversed", data := .fields #[.str x t, rawInt i] }
section
variable {prog : Program} {w : World} {A : Around} {E : Value → Shared → Prop} {s : Shared}
theorem str_no_reversed : typeLookup (.type "str") "__reversed__" = pure none := by rw [typeLookup_type, builtinLookup_eq_fast]; kernel_rfl
theorem str_no_dict : isSubtype (.type "str") (.type "dict") = pure false := by rw [isSubtype_type]; kernel_rfl
theorem meets_rev_new (x : Str) (t : Tok) (hx : x.length ≤ sizeLine) :
    Meets (Builtin.«reversed.__new__» ⟨[.type "reversed", .str x t], []⟩) (fun A R s => ∀ tk, R (.ok (.ret (.ref s.heap.objs.size))) { s with heap := s.heap.push (revS x t ((x.length : Int) - 1)), toks := tk }) :=
  .of_wp fun prog w A R s h => by
    unfold Builtin.«reversed.__new__»
    refine wpAny_bind (wpAny_of_eq (newClass_reversed _) ?_)
    try dsimp only
    refine wpAny_bind (wpAny_of_eq (a := ()) (by first | rfl | kernel_rfl) ?_)
    refine wpAny_bind (wpAny_of_eq (a := ()) (by first | rfl | kernel_rfl) ?_)
    try dsimp only
    refine wpAny_bind (wpAny_specialOf (typeIs_str _ _ _) str_no_reversed ?_)
    dsimp only
    refine wpAny_bind ?_
    wp_delta
    refine wpAny_bind (wpAny_isInstance (T := "str") (b := false) (typeIs_str _ _ _) str_no_dict ?_)
    rw [if_neg (by decide)]
    refine wpAny_bind (wpAny_specialOf (typeIs_str _ _ _) F.slot_str_getitem.lookup ?_)
    dsimp only
    rw [if_pos (by decide +kernel)]
    refine wpAny_pure ?_
    rw [if_neg (by decide)]
    have s16 : (sizeLine : Nat) = 16777216 := sizeLine_eq
    refine wpAny_bind (P.len_str (by omega) ?_)
    refine wpAny_bind (wpAny_of_eq (a := some (x.length : Int)) rfl ?_)
    dsimp only
    refine wpAny_bind ?_
    unfold Builtin.SmallTypes.newRecord
    exact wpAny_newObj_type (wpAny_pure ⟨_, rfl, h _⟩)
theorem call_reversed_str {x : Str} {t : Tok} {Q : Value → Shared → Prop} (hx : x.length ≤ sizeLine) (h : ∀ tk, Q (.ref s.heap.objs.size) { s with heap := s.heap.push (revS x t ((x.length : Int) - 1)), toks := tk }) : wpAny (model prog w) A (call (.type "reversed") [.str x t]) Q E s := by
  refine callType_new F.called_reversed (by decide) (F.typeCall_reversed_1 _) (F.newCall_reversed_1 _) (fun obj => F.args_object_init_2 obj _) F.entry_reversed_new (meets_rev_new x t hx) fun tk => ?_
  exact ⟨⟨_, Heap.get?_push_size _ rfl, rfl⟩, h tk⟩
def Heap.IsRevS (h : Heap) (a : Addr) (x : Str) (t : Tok) (i : Int) : Prop := ∃ o, h.get? a = some o ∧ o.cls = .type "reversed" ∧ o.data = .fields #[.str x t, rawInt i]
theorem Heap.IsRevS.typeIs {a : Addr} {x : Str} {t : Tok} {i : Int} (z : s.heap.IsRevS a x t i) : s.TypeIs (.ref a) "reversed" := let ⟨o, ho, hc, _⟩ := z; ⟨o, ho, hc⟩
theorem Heap.IsRevS.at {h h' : Heap} {a : Addr} {x : Str} {t : Tok} {i : Int} (z : h.IsRevS a x t i) (e : ∀ o, h.get? a = some o → h'.get? a = some o) : h'.IsRevS a x t i := let ⟨o, ho, r⟩ := z; ⟨o, e _ ho, r⟩
theorem wpAny_pyNext_revS_item {it : Addr} {x : Str} {t : Tok} {i : Nat} {c : Nat} {Q : Option Value → Shared → Prop} (hx : x.length ≤ 16777216) (hit : s.heap.IsRevS it x t (i : Int)) (hc : x.cps[i]? = some c)
    (hQ : ∀ h' u tk, h'.IsRevS it x t ((i : Int) - 1) → Heap.SameBut it s.heap h' → Q (some (.str ⟨#[c]⟩ u)) { s with heap := h', toks := tk }) : wpAny (model prog w) A (pyNext (.ref it)) Q E s := by
  obtain ⟨o, ho, hcl, hd⟩ := id hit
  unfold pyNext
  refine wpAny_bind (wpAny_attempt (wpAny_callSpecial?_slot (name := Str.ofString "__next__") hit.typeIs F.slot_rev_next
    (wpAny_call_entry F.slot_rev_next hit.typeIs F.entry_rev_next ?_ (F.args_rev_next_1 _))))
  unfold Builtin.«reversed.__next__»
  refine wpAny_bind (wpAny_of_eq (a := (Value.ref it, [])) rfl ?_)
  try dsimp only
  refine wpAny_bind (wpAny_field ho hd (x := .str x t) rfl ?_)
  refine wpAny_bind (wpAny_field ho hd (x := rawInt (i : Int)) rfl ?_)
  show wpAny _ _ (if (i : Int) < 0 then _ else _) _ _ s
  rw [if_neg (by omega)]
  refine wpAny_bind (wpAny_specialOf (typeIs_str _ _ _) F.slot_str_getitem.lookup ?_)
  rw [if_neg (by simp)]
  refine wpAny_bind (wpAny_mkInt ?_)
  have hi : i < x.cps.size := by
    cases Nat.lt_or_ge i x.cps.size with
    | inl h => exact h
    | inr h => rw [Array.getElem?_eq_none h] at hc; cases hc
  have hsz : x.length = x.cps.size := rfl
  refine wpAny_bind (wpAny_attempt (P.getItem_str (c := c) ?_ ?_ ?_))
  · have := hx
    simp
    omega
  · have e : seqIndex? (i : Int) x.length = some i := by
      unfold seqIndex?
      simp
      omega
    rw [e]
    exact hc
  dsimp only
  refine wpAny_bind (wpAny_field ho hd (x := rawInt (i : Int)) rfl ?_)
  show wpAny _ _ (setField (.ref it) 1 (rawInt ((i : Int) - 1)) >>= _) _ _ _
  refine wpAny_bind (wpAny_setField ho hd (by simp) ?_)
  refine wpAny_pure ⟨_, rfl, wpAny_pure (hQ _ _ _ ?_ (Heap.SameBut.update ..))⟩
  exact ⟨_, Heap.get?_update_self _ ho (Obj.isFreed_of_fields (Obj.data_mapFields hd _)), (Obj.cls_mapFields ..).trans hcl, by
    rw [Obj.data_mapFields hd]; simp⟩
theorem wpAny_pyNext_revS_end {it : Addr} {x : Str} {t : Tok} {Q : Option Value → Shared → Prop} (hh : A.handled = none) (hit : s.heap.IsRevS it x t (-1))
    (hQ : ∀ h', Heap.ExtBut it s.heap h' → Q none { s with heap := h' }) : wpAny (model prog w) A (pyNext (.ref it)) Q E s := by
  obtain ⟨o, ho, hc, hd⟩ := id hit
  unfold pyNext
  refine wpAny_bind (wpAny_attempt (wpAny_callSpecial?_slot (name := Str.ofString "__next__") hit.typeIs F.slot_rev_next
    (wpAny_call_entry F.slot_rev_next hit.typeIs F.entry_rev_next ?_ (F.args_rev_next_1 _))))
  unfold Builtin.«reversed.__next__»
  refine wpAny_bind (wpAny_of_eq (a := (Value.ref it, [])) rfl ?_)
  try dsimp only
  refine wpAny_bind (wpAny_field ho hd (x := .str x t) rfl ?_)
  refine wpAny_bind (wpAny_field ho hd (x := rawInt (-1)) rfl ?_)
  show wpAny _ _ (if (-1 : Int) < 0 then _ else _) _ _ s
  rw [if_pos (by decide)]
  refine wpAny_bind (wpAny_rule ?_)
  refine wpAny_bind ?_
  wp_delta
  refine wpAny_bind (wpAny_setField ho hd (by simp) ?_)
  have ho1 := Heap.get?_update_self (Obj.mapFields (·.setIfInBounds 1 (rawInt (-1)))) ho (Obj.isFreed_of_fields (Obj.data_mapFields hd _))
  have hd1 : (Obj.mapFields (·.setIfInBounds 1 (rawInt (-1))) o).data = .fields #[.str x t, rawInt (-1)] := by rw [Obj.data_mapFields hd]; simp
  refine wpAny_setField ho1 hd1 (by simp) ?_
  refine wpAny_bind ?_
  unfold Builtin.SmallTypes.stopIteration
  simp only [newExc, newTuple]
  refine wpAny_bind ?_
  refine wpAny_bind (wpAny_newObj_type ?_ (by size_fits))
  refine wpAny_bind (m := firstArgMember _ _) (wpAny_of_eq (a := Value.none) (by first | rfl | (simp only [firstArgMember]; rfl)) ?_)
  refine wpAny_newObj_type ?_ (by size_fits)
  simp only [raiseNew]
  refine wpAny_bind (wpAny_handled ?_)
  first | rw [show A.in1.handled = none from hh] | rw [hh]
  refine wpAny_bind (wpAny_pure (wpAny_throw ?_))
  refine wpAny_bind (wpAny_isInstance (T := "StopIteration") (b := true) ⟨_, Heap.get?_push_size _ rfl, rfl⟩ isSubtype_stop ?_)
  refine wpAny_pure (hQ _ ?_)
  refine ((?_ : Heap.ExtBut it s.heap _).push _).push _
  intro b ob hb e
  exact (Heap.get?_update_other _ _ (Ne.symm hb)).trans ((Heap.get?_update_other _ _ (Ne.symm hb)).trans e)
theorem wpAny_pyIter_revS {it : Addr} {x : Str} {t : Tok} {i : Int} {Q : Value → Shared → Prop} (hit : s.heap.IsRevS it x t i) (h : Q (.ref it) s) : wpAny (model prog w) A (pyIter (.ref it)) Q E s := by
  refine wpAny_pyIter_slot hit.typeIs F.slot_rev_iter (wpAny_call_entry F.slot_rev_iter hit.typeIs F.entry_rev_iter ?_ (F.args_rev_iter_1 _))
  show wpAny _ _ (ret (.ref it)) _ _ s
  exact wpAny_pure ⟨_, rfl, "reversed", _, hit.typeIs, F.slot_rev_next.lookup, h⟩
end
theorem Walks.strRev {prog : Program} {w : World} {A : Around} (hh : A.handled = none) (I : Addr) (x : Str) (t : Tok) (hx : x.length ≤ 16777216) :
    Walks prog w A I [I] [I] x.cps.size (fun i v => ∃ c u, x.cps[x.cps.size - 1 - i]? = some c ∧ v = .str ⟨#[c]⟩ u) (fun i h => i ≤ x.cps.size ∧ h.IsRevS I x t ((x.cps.size : Int) - 1 - (i : Int))) where
  sub := fun b hb => hb
  frame := fun _ _ _ z hk => ⟨z.1, z.2.at fun o e => hk I (by simp) o e⟩
  item := fun i s Q E hi z hQ => by
    have e : (x.cps.size : Int) - 1 - (i : Int) = ((x.cps.size - 1 - i : Nat) : Int) := by omega
    have hit := z.2
    rw [e] at hit
    have hc : x.cps[x.cps.size - 1 - i]? = some (x.cps[x.cps.size - 1 - i]'(by omega)) := Array.getElem?_eq_getElem (by omega)
    refine wpAny_pyNext_revS_item hx hit hc fun h' u tk hit' hs' => ?_
    have e2 : ((x.cps.size - 1 - i : Nat) : Int) - 1 = (x.cps.size : Int) - 1 - ((i + 1 : Nat) : Int) := by omega
    rw [e2] at hit'
    exact hQ _ h' tk ⟨_, u, hc, rfl⟩ ⟨hi, hit'⟩ fun b o hb eo => hs'.extBut b o (fun h => hb (by simp [h])) eo
  done := fun s Q E z hQ => by
    have e : (x.cps.size : Int) - 1 - (x.cps.size : Int) = -1 := by omega
    have hit := z.2
    rw [e] at hit
    exact wpAny_pyNext_revS_end hh hit fun h' he' => hQ h' s.toks fun b o hb eo => he' b o (fun h => hb (by simp [h])) eo
  self := fun _ _ _ _ z hQ => wpAny_pyIter_revS z.2 hQ
section
variable {prog : Program} {w : World} {A : Around} {E : Value → Shared → Prop} {s : Shared}
theorem rev_no_len : typeLookup (.type "reversed") "__len__" = pure none := by rw [typeLookup_type, builtinLookup_eq_fast]; kernel_rfl
theorem rev_hint : typeLookup (.type "reversed") "__length_hint__" = pure (some (.builtin "reversed.__length_hint__")) := by rw [typeLookup_type, builtinLookup_eq_fast]; kernel_rfl
theorem call_hint_revS {it : Addr} {x : Str} {t : Tok} {Q : Value → Shared → Prop} (hx : x.length ≤ 16777216) (hit : s.heap.IsRevS it x t ((x.cps.size : Int) - 1)) (hQ : ∀ u tk, Q (.int (x.cps.size : Int) u) { s with toks := tk }) : wpAny (model prog w) A (call (.builtin "reversed.__length_hint__") [.ref it]) Q E s := by
  obtain ⟨o, ho, hc, hd⟩ := id hit
  have hxs : x.length = x.cps.size := rfl
  refine wpAny_call_entry F.slot_rev_hint hit.typeIs F.entry_rev_hint ?_ (F.args_rev_hint_1 _)
  unfold Builtin.«reversed.__length_hint__»
  refine wpAny_bind (wpAny_of_eq (a := Value.ref it) (by first | rfl | kernel_rfl) ?_)
  refine wpAny_bind (wpAny_field ho hd (x := .str x t) rfl ?_)
  rw [if_neg (show ¬ ((Value.str x t == Value.none) = true) from Bool.false_ne_true)]
  refine wpAny_bind (P.len_str (by omega) ?_)
  refine wpAny_bind (wpAny_of_eq (a := some (x.length : Int)) rfl ?_)
  dsimp only
  refine wpAny_bind (wpAny_field ho hd (x := rawInt ((x.cps.size : Int) - 1)) rfl ?_)
  show wpAny _ _ (if (x.length : Int) < (x.cps.size : Int) - 1 + 1 then _ else _) _ _ _
  rw [if_neg (by omega), show (x.cps.size : Int) - 1 + 1 = (x.cps.size : Int) by omega]
  unfold retInt
  exact wpAny_bind (wpAny_mkInt (wpAny_pure ⟨_, rfl, hQ _ _⟩))
theorem hint_revS {I : Addr} {x : Str} {t : Tok} {Q : Bool → Shared → Prop} (hx : x.length ≤ 16777216) (hit : s.heap.IsRevS I x t ((x.cps.size : Int) - 1)) (hQ : ∀ b tk, Q b { s with toks := tk }) : wpAny (model prog w) A (Builtin.List.listLengthHint (.ref I)) Q E s := by
  have hxs : x.length = x.cps.size := rfl
  unfold Builtin.List.listLengthHint
  refine wpAny_bind (wpAny_specialOf hit.typeIs rev_no_len ?_)
  show wpAny _ A (specialOf (Value.ref I) (Str.ofString "__length_hint__") >>= _) _ _ _
  refine wpAny_bind (wpAny_specialOf hit.typeIs rev_hint ?_)
  wp_delta
  refine wpAny_bind (wpAny_isInstance (T := "reversed") (b := true) hit.typeIs (by rw [isSubtype_type]; kernel_rfl) ?_)
  rw [if_neg (by decide)]
  show wpAny _ _ (if _ then _ else (rule "list.length-hint.hint" >>= _)) _ _ _
  split
  · rename_i h
    exact absurd h (by decide +kernel)
  refine wpAny_bind (wpAny_rule ?_)
  refine wpAny_bind (wpAny_of_eq (F.slot_rev_hint.bind _) ?_)
  dsimp only
  refine wpAny_bind (wpAny_attempt (call_hint_revS hx hit fun u tk => ?_))
  dsimp only
  generalize hN : (x.cps.size : Int) = N at *
  show wpAny _ _ (asInt? (.int N u) >>= _) _ _ _
  refine wpAny_bind (wpAny_of_eq (a := some N) rfl ?_)
  subst hN
  dsimp only
  have hf : Builtin.List.listFitsIndex (x.cps.size : Int) = true := by
    unfold Builtin.List.listFitsIndex
    simp
    omega
  rw [hf, if_neg (by decide), if_neg (by omega)]
  have hl : Builtin.List.listTooLong (x.cps.size : Int).toNat = false := by
    unfold Builtin.List.listTooLong
    have s16 : (sizeLine : Nat) = 16777216 := sizeLine_eq
    simp
    omega
  rw [hl, if_neg (by decide)]
  exact wpAny_pure (hQ _ _)
theorem extend_revS {R : Result → Shared → Prop} (hh : A.handled = none) (I S : Addr) (x : Str) (t : Tok) (res : Value) (c₀ : Nat) (hSI : S ≠ I) (hx : x.length ≤ 16777216) (hit : s.heap.IsRevS I x t ((x.cps.size : Int) - 1))
    (hS : s.heap.get? S = some { cls := .type "list", data := .seq #[] c₀ })
    (hR : ∀ h' tk acc' c', (∀ b o, b ≠ S → b ≠ I → s.heap.get? b = some o → h'.get? b = some o) → h'.get? S = some { cls := .type "list", dict := none, data := .seq acc' c', slots := #[] } →
      ItemsOf (fun i v => ∃ c u, x.cps[x.cps.size - 1 - i]? = some c ∧ v = .str ⟨#[c]⟩ u) acc' x.cps.size → R (.ok (.ret res)) { s with heap := h', toks := tk }) :
    wpAny (model prog w) A.in1 (Builtin.List.listExtendWith (.ref S) (.ref I) res)
      (fun fin s' => match fin with | .done f => R (.ok f) s' | .again c' => c'.quiet = true ∧ codeAny (model prog w) A c' R s') (fun e s' => R (.error e) s') s := by
  have hSf : S ∉ [I] := by simp [hSI]
  have s16 : (sizeLine : Nat) = 16777216 := sizeLine_eq
  have hxs : x.length = x.cps.size := rfl
  unfold Builtin.List.listExtendWith
  refine wpAny_bind (wpAny_typeOf hit.typeIs ?_)
  have h1 : Builtin.List.listSameRef (.ref S) (.ref I) = false := by simp [Builtin.List.listSameRef, hSI]
  have h2 : (Value.type "reversed" == Value.type "list") = false := by decide
  have h3 : (Value.type "reversed" == Value.type "tuple") = false := by decide
  simp only [h1, h2, h3, Bool.or_false, Bool.false_eq_true, if_false]
  refine wpAny_bind (wpAny_pyIter_revS hit ?_)
  refine wpAny_bind (wpAny_holding ?_)
  refine hint_revS hx hit fun b tk => ?_
  have hit2 : (({ s with toks := tk } : Shared).heap).IsRevS I x t ((x.cps.size : Int) - 1 - ((0 : Nat) : Int)) := by
    rw [show (x.cps.size : Int) - 1 - ((0 : Nat) : Int) = (x.cps.size : Int) - 1 by omega]
    exact hit
  have W := (Walks.strRev (prog := prog) (w := w) (A := A.in1) hh I x t hx).toS
  split
  · refine wpAny_bind (wpAny_rule ?_)
    refine wpAny_bind ?_
    show wpAny _ A.in1 (updateSeq S (·.push .none) >>= fun _ => updateSeq S (·.pop)) _ _ _
    refine wpAny_bind (wpAny_updateSeq hS rfl ?_)
    have hS₂ := Heap.get?_update_self (Obj.mapSeq (·.push Value.none)) hS rfl
    refine wpAny_updateSeq hS₂ rfl ?_
    have hS₃ := Heap.get?_update_self (Obj.mapSeq (·.pop)) hS₂ rfl
    have oth : ∀ b o, b ≠ S → s.heap.get? b = some o → ((s.heap.update S (Obj.mapSeq (·.push Value.none))).update S (Obj.mapSeq (·.pop))).get? b = some o :=
      fun b o hb e => (Heap.get?_update_other _ _ (Ne.symm hb)).trans ((Heap.get?_update_other _ _ (Ne.symm hb)).trans e)
    refine wpAny_pure ⟨plainId_quiet F.plain_extend_loop _, codeAny_extend_loopS W (by omega) _ hSf _ x.cps.size 0 _ _ _ rfl (Nat.zero_le _) ⟨Nat.zero_le _, hit2.at fun o e => oth I o (Ne.symm hSI) e⟩ hS₃ (ItemsOf.nil _) fun s' acc' c' hm hS' hacc => ?_⟩
    rw [Moved.eq_with hm]
    exact hR s'.heap s'.toks acc' c' (fun b ob hb hb2 e => hm.heap b ob (fun hmem => by simp at hmem; rcases hmem with z | z; exact hb z; exact hb2 z) (oth b ob hb e)) hS' hacc
  · refine wpAny_pure ⟨plainId_quiet F.plain_extend_loop _, codeAny_extend_loopS W (by omega) _ hSf _ x.cps.size 0 _ _ _ rfl (Nat.zero_le _) ⟨Nat.zero_le _, hit2⟩ hS (ItemsOf.nil _) fun s' acc' c' hm hS' hacc => ?_⟩
    rw [Moved.eq_with hm]
    exact hR s'.heap s'.toks acc' c' (fun b ob hb hb2 e => hm.heap b ob (fun hmem => by simp at hmem; rcases hmem with z | z; exact hb z; exact hb2 z) e) hS' hacc
theorem collect_revS {I : Addr} {x : Str} {t : Tok} {Q : List Value → Shared → Prop} (hh : A.handled = none) (hx : x.length ≤ 16777216) (hit : s.heap.IsRevS I x t ((x.cps.size : Int) - 1))
    (hQ : ∀ h' tk (acc : Array Value), (∀ b o, b ≠ I → s.heap.get? b = some o → h'.get? b = some o) → ItemsOf (fun i v => ∃ c u, x.cps[x.cps.size - 1 - i]? = some c ∧ v = .str ⟨#[c]⟩ u) acc x.cps.size → Q acc.toList { s with heap := h', toks := tk }) : wpAny (model prog w) A (collect (.ref I)) Q E s := by
  have lI : I < s.heap.objs.size := by obtain ⟨o, e, _⟩ := hit; exact Heap.lt_size e
  unfold collect
  refine wpAny_bind (wpAny_runValue (codeAny_builtin F.entry_proto_collect ?_))
  rw [Around.under_plainId F.plain_proto_collect _]
  show wpAny _ A.in1 (newList [] >>= fun l => again (.builtin "list.__iadd__" ⟨[l, .ref I], []⟩)) _ _ s
  refine wpAny_bind (wpAny_newObj_type ?_)
  refine wpAny_pure ⟨plainId_quiet F.plain_list_iadd _, codeAny_builtin F.entry_list_iadd ?_⟩
  rw [Around.under_plainId F.plain_list_iadd _]
  show wpAny _ A.in1 (Builtin.List.listExtendWith (.ref s.heap.objs.size) (.ref I) (.ref s.heap.objs.size)) _ _ _
  have hSn : (s.heap.push { cls := .type "list", data := .seq ([] : List Value).toArray }).get? s.heap.objs.size = some { cls := .type "list", data := .seq #[] 0 } := Heap.get?_push_size _ rfl
  refine extend_revS (s := { s with heap := s.heap.push { cls := .type "list", data := .seq ([] : List Value).toArray } }) (R := fun r s' =>
              match r with
              | Except.ok (Flow.ret v) =>
                wpAny (model prog w) A
                  (match v with
                  | Value.ref a => do
                    let o ← load a
                    match o.data with
                      | Data.seq xs _ => pure xs.toList
                      | _ => unsupported "internal:collect"
                  | _ => unsupported "internal:collect")
                  Q E s'
              | Except.ok _ => False
              | Except.error e => E e s') hh I s.heap.objs.size x t _ 0 (Nat.ne_of_gt lI) hx (hit.at fun o e => Heap.get?_push_of_some _ e) hSn fun h' tk acc' c' hk hS hacc => ?_
  show wpAny _ A (load s.heap.objs.size >>= _) _ _ _
  refine wpAny_bind (wpAny_load hS ?_)
  exact wpAny_pure (hQ h' tk acc' (fun b o hb e => hk b o (Nat.ne_of_lt (Heap.lt_size e)) hb (Heap.get?_push_of_some _ e)) hacc)
theorem join_revS {I : Addr} {x : Str} {t u : Tok} {sep : Str} {Q : Value → Shared → Prop} (hh : A.handled = none) (hx : x.length ≤ 16777216) (hit : s.heap.IsRevS I x t ((x.cps.size : Int) - 1))
    (hq : ∀ (h' : Heap) (l : List (Str × Tok)), (∀ b o, b ≠ I → s.heap.get? b = some o → h'.get? b = some o) → ItemsOf (fun i v => ∃ c u, x.cps[x.cps.size - 1 - i]? = some c ∧ v = .str ⟨#[c]⟩ u) (strValues l).toArray x.cps.size → JoinOk sep (l.map (·.1)) = true ∧ ∀ t' k, Q (.str (Txt.join sep (l.map (·.1))) t') { s with heap := h', toks := k }) :
    wpAny (model prog w) A (call (.builtin "str.join") [.str sep u, .ref I]) Q E s := by
  refine wpAny_call (codeAny_call_builtin F.slot_str_join.plain F.entry_str_join (F.slot_str_join.check _ _ _ _ _ _ _ _ (typeIs_str _ _ _) (F.args_str_join_2 _ _) ?_))
  rw [join_tree_other]
  refine wpAny_bind (wpAny_typeOf hit.typeIs ?_)
  show wpAny _ A.in1 ((pyIter (.ref I)).tryCatch _ >>= fun it => collect it >>= fun items => joinTail sep items) _ _ s
  refine wpAny_bind (wpAny_tryCatch (wpAny_pyIter_revS hit ?_))
  refine wpAny_bind (collect_revS hh hx hit fun h' tk acc hk hacc => ?_)
  obtain ⟨l, hl⟩ := exists_strValues acc.toList fun v hv => by
    obtain ⟨j, hj, rfl⟩ := Array.mem_iff_getElem.mp (Array.mem_toList_iff.mp hv)
    obtain ⟨c, u, _, e⟩ := hacc.2 j _ (Array.getElem?_eq_getElem hj)
    exact ⟨_, u, e⟩
  rw [← hl]
  have hacc' : ItemsOf (fun i v => ∃ c u, x.cps[x.cps.size - 1 - i]? = some c ∧ v = .str ⟨#[c]⟩ u) (strValues l).toArray x.cps.size := by rw [hl]; simpa using hacc
  obtain ⟨hok, hpost⟩ := hq h' l hk hacc'
  unfold JoinOk at hok
  rw [Bool.not_eq_true'] at hok
  have g : Gives (joinTail sep (strValues l)) (joinMade sep l) := by
    have g0 := gives_joinTail sep l hok
    cases l with
    | nil => exact g0
    | cons p r => cases r with
      | nil => exact g0
      | cons q r' => exact g0
  exact g prog w A (wants Q E) _ (post_join l ⟨joinFit_length hok, hpost⟩)
end
end PySem
namespace L3
open PySem PySem.Spec PyProof.Rows L2
/-! ### ''.join(reversed(text)) -/
def tJrev (to : TE) (ta : TA) : TE := fun σ H Q => to σ H fun z H1 => z = .str (tx []) ∧ ta σ H1 fun vs H2 => ∃ l : List Nat, vs = [.str (tx l)] ∧ l.length ≤ 1000 ∧ Q (.str (tx l.reverse)) H2
theorem joinR_one : ∀ ks : List Nat, Str.join (tx []) (ks.map fun c => tx [c]) = tx ks
  | [] => rfl
  | [c] => rfl
  | c :: d :: r => by
    have ih := joinR_one (d :: r)
    show tx [c] ++ tx [] ++ Str.join (tx []) ((d :: r).map fun c => tx [c]) = tx (c :: d :: r)
    rw [ih, tx_append, tx_append]
    rfl
theorem joinR_ok0 {ks : List Nat} (h : ks.length ≤ 1000) : JoinOk (tx []) (ks.map fun c => tx [c]) = true := by
  have s16 : (sizeLine : Nat) = 16777216 := sizeLine_eq
  have hf : ∀ (l : List Nat) (n : Nat), (l.map fun c => tx [c]).foldl (fun a y => a + y.length + 0) n = n + l.length := fun l => by
    induction l with
    | nil => intro n; rfl
    | cons c r ih =>
      intro n
      rw [List.map_cons, List.foldl_cons, ih, len_tx]
      simp only [List.length_cons, List.length_nil]
      omega
  have e : JoinOk (tx []) (ks.map fun c => tx [c]) = !PySem.Builtin.Str.tooLong ((ks.map fun c => tx [c]).foldl (fun a y => a + y.length + 0) 0) := by
    unfold JoinOk
    rw [List.foldl_toArray]
    rfl
  rw [e, hf]
  unfold PySem.Builtin.Str.tooLong
  simp
  omega
section
variable {X : Cx} {o a : Expr} {to : TE} {ta : TA} {apos cpos p pos2 : Pos}
theorem pe_joinrev (hc : X.calm = true) (hg : Gl X "reversed") (hm : X.mg "reversed" = none) (ho : PE X o to) (ha : PA X [a] ta)
    (hbase : attributeBase o "join" X.env (eval o X.env) = eval o X.env := by rfl)
    (hfew : ((backTo cpos (starEach [.Call (.Name "reversed" p) [a] [] pos2] X.env)).all (fun x => !x.1) && (backToKw cpos (keywordEach [] X.env)).all (fun x => x.1.isSome)
      && decide ([Expr.Call (.Name "reversed" p) [a] [] pos2].length + ([] : List Keyword).length + (if ([] : List Keyword).isEmpty then 0 else 1) < 30)) = true := by rfl)
    (hline : (apos.endLine == cpos.line) = true := by rfl) (hs : starEach [a] X.env = [(false, eval a X.env)] := by rfl)
    (hs2 : starEach [.Call (.Name "reversed" p) [a] [] pos2] X.env = [(false, eval (.Call (.Name "reversed" p) [a] [] pos2) X.env)] := by rfl) :
    PE X (.Call (.Attribute o "join" apos) [.Call (.Name "reversed" p) [a] [] pos2] [] cpos) (tJrev to ta) := by
  intro pins s σ H Q I h
  refine wpAny_Call_method_late hbase hfew hline rfl (thn (ho pins s σ H _ I h) fun v s1 ⟨z, H1, I1, r1, ez, q1⟩ => ?_)
  subst ez
  obtain ⟨tz, rfl⟩ := r1
  refine ⟨"str", "str.join", F.plainAttrs_str, F.slot_str_join, F.type_str_join, typeIs_str _ _ _, ?_, ?_⟩
  · exact fun a e => nomatch e
  rw [hs2]
  refine Calls.callWith_builtin rfl (Calls.evalArgs_plain ?_)
  show wpAny _ _ (spliced [(false, eval (.Call (.Name "reversed" p) [a] [] pos2) X.env)]) _ _ s1
  refine Calls.spliced_cons ((Call_ (ld_blt I1 hg hm boot_rev (PyProof.Rows.callWith_type1 (thn (ha pos2 pins s1 σ H1 _ I1 q1) fun us s2 ⟨vs, H2, I2, r2, q2⟩ => ?_) hs rfl))))
  obtain ⟨l, rfl, hl, q⟩ := q2
  obtain ⟨u, rfl, tu, rfl⟩ := vals1 r2
  have s16 : (sizeLine : Nat) = 16777216 := sizeLine_eq
  refine call_reversed_str (by rw [len_tx]; omega) fun tk => ?_
  refine Calls.spliced_nil ?_
  have I3 : Inv X pins σ H2 { s2 with heap := s2.heap.push (revS (tx l) tu (((tx l).length : Int) - 1)), toks := tk } := I2.kept (t' := tk) fun b o e => Heap.get?_push_of_some _ e
  refine join_revS (s := { s2 with heap := s2.heap.push (revS (tx l) tu (((tx l).length : Int) - 1)), toks := tk }) (I := s2.heap.objs.size) (x := tx l) (t := tu) (I.ok.hd hc) (by rw [len_tx]; omega) ⟨_, Heap.get?_push_size _ rfl, rfl, rfl⟩ fun h' l' hk hacc => ?_
  have hsz : (tx l).cps.size = l.length := by simp [tx]
  have e : l'.map (·.1) = l.reverse.map fun c => tx [c] := by
    have hlen : l'.length = l.length := by
      have := hacc.1
      rw [hsz] at this
      simpa [strValues] using this
    refine List.ext_getElem? fun j => ?_
    by_cases hj : j < l.length
    · have hv : (strValues l').toArray[j]? = some (.str (l'[j]'(by omega)).1 (l'[j]'(by omega)).2) := by
        simp [strValues, hlen, hj]
      obtain ⟨c, u, hc', ev⟩ := hacc.2 j _ hv
      rw [hsz] at hc'
      have hcl : l[l.length - 1 - j]? = some c := by simpa [tx] using hc'
      have e1 : (l'[j]'(by omega)).1 = tx [c] := by
        injection ev
      rw [List.getElem?_map, List.getElem?_eq_getElem (by omega), List.getElem?_map, List.getElem?_reverse hj, hcl]
      exact congrArg some e1
    · rw [List.getElem?_eq_none (by simp; omega), List.getElem?_eq_none (by simp; omega)]
  have e2 : Txt.join (tx []) (l.reverse.map fun c => tx [c]) = tx l.reverse := (StrLaws.glued_eq_join _ _).trans (joinR_one _)
  rw [e]
  refine ⟨joinR_ok0 (by rw [List.length_reverse]; exact hl), fun t' k => ?_⟩
  rw [e2]
  exact ⟨.str (tx l.reverse), H2, I2.kept (t' := k) fun b ob eb => hk b ob (Nat.ne_of_lt (Heap.lt_size eb)) (Heap.get?_push_of_some _ eb), ⟨_, rfl⟩, q⟩
end
end L3

set_option Elab.async false
set_option linter.all false
namespace L2
open PySem PySem.Spec PyProof.Rows
section
variable {X : Cx} {tg : Expr}
end
end L2
namespace L3
open PySem L2
section
variable {g : TG} {tt : TT} {te : TE} {own : Nat} {ix : List Nat} {σ : L2.St} {H1 : Hp} {Q : VK} {D : Addr}
end
end L3

set_option Elab.async false
set_option linter.all false
set_option maxRecDepth 100000
set_option maxHeartbeats 4000000
namespace L3
open PySem PySem.Spec PyProof.Rows L2
open AutoSeq1 (wpAny_loadPart')
open MeetsSeq MeetsSeq2 MeetsSeq3 SeqRoads2 SeqAt

section
variable {X : Cx} {pins : List (Addr × Obj)} {σ : St} {H : Hp} {s : Shared}
end
end L3

set_option Elab.async false
set_option linter.all false
set_option maxRecDepth 100000
set_option maxHeartbeats 4000000
namespace L3
open PySem PySem.Spec PyProof.Rows L2
/-! ### len(set(text)) -/
section
variable {prog : Program} {w : World} {A : Around} {R : Result → Shared → Prop} {I : Addr} {fp wr : List Addr} {G : Array GenState → Array GenState → Prop} {n : Nat} {P : Nat → Value → Prop} {St : Nat → Shared → Prop}
end
section
variable {prog : Program} {w : World} {A : Around} {E : Value → Shared → Prop} {s : Shared}
end
end L3

set_option Elab.async false
set_option linter.all false
set_option maxRecDepth 100000
set_option maxHeartbeats 4000000
namespace L3
open PySem PySem.Spec PyProof.Rows L2
section
variable {X : Cx}
end
end L3

set_option Elab.async false
set_option linter.all false
set_option maxRecDepth 100000
set_option maxHeartbeats 4000000
namespace L3
open PySem PySem.Spec PyProof.Rows L2
/-! ### [.. for x, y in zip(list, list)] -/
section
variable {g : TG} {tt : TT} {te : TE} {own : Nat} {ix : List Nat} {σ : L2.St} {H1 : Hp} {Q : VK} {D : Addr}
end
end L3

set_option Elab.async false
set_option linter.all false
set_option maxRecDepth 100000
set_option maxHeartbeats 4000000
namespace L3
open PySem PySem.Spec PyProof.Rows L2
/-! ### a dict whose keys are texts -/
section
variable {X : Cx} {pos : Pos}
end
end L3

set_option maxHeartbeats 4000000
namespace LL
open PySem L2 L3
def top (i : Nat) : Stmt := PySem.Challenge.pw_letterlaw_k14_ranked.main.body.getD i (.Pass ⟨0, 0, 0, 0⟩)
abbrev s_is_small_letter : Stmt := top 7
abbrev s_letters_of : Stmt := top 8
abbrev s_order_init : Stmt := inClass (top 11) 0
abbrev s_order_weight : Stmt := inClass (top 11) 1
abbrev s_order_seen : Stmt := inClass (top 11) 2
abbrev s_order_rank : Stmt := inClass (top 11) 3
abbrev s_order_ranked : Stmt := inClass (top 11) 6
abbrev s_fromright_seen : Stmt := inClass (top 12) 0
abbrev s_byweights_init : Stmt := inClass (top 13) 0
abbrev s_byweights_weight : Stmt := inClass (top 13) 1
abbrev s_cell_at : Stmt := top 15
abbrev s_letters : Stmt := top 16
abbrev s_word : Stmt := top 17
abbrev s_weights : Stmt := top 18
abbrev s_order : Stmt := top 19
abbrev s_rank : Stmt := top 20
abbrev s_less : Stmt := top 21
abbrev s_other : Stmt := top 22
abbrev s_words : Stmt := top 23
abbrev s_same_words : Stmt := top 24
abbrev s_law : Stmt := top 25
section
variable {P : Program} {w : World} {K : PySem.W.Frag} {mg : Str → Option Value} {base : Heap}
seal L2.PE L2.PS L2.PA L2.PT L2.PSs L2.PI L2.PG L2.PW L2.PGs
local macro_rules | `(tactic| rfl') => `(tactic| simp only [tSeq, rAppend, tTru, seen, Option.join_some, Option.join_none, rU, tSetComp, rd_cr1, rd_cl, rd_cs,  tNext, tRet, tIfS, tTest, tOp, tUn, tVar, tC, tCall, tCons, tNil, tCB, tAsg, gName, tDrop, tNot, tAnd, tOr, tAndV, tOrV, tNotV, tChain, tIf, rI, rI0, rAddA, rMulA, rLtA, rLeA, rGtA, rEq, rNe, rIx, rIxL, rIxT, rIxS, rSlA, rSlL, rSlS, rCat, tSl, tNoPart, tPart, rNin, rIn1, rIsN, rNotN, rMax2, rGe, tXget, decide_false, decide_true, Prod.mk.injEq, rLen, LenV, rIsi, rCount, rFind, count_l, tyV, tBM, tBM0, if_true, if_false, Bool.false_eq_true, decide_eq_true_eq, decide_eq_false_iff_not, Bool.not_eq_true', Bool.not_true, Bool.not_false, lt1, tTup, tLst, gTup, gCons, gNil, tBreak, tCont, tRetN, tRaise0, tRaise1, tTry, tHs, TruV, sc_ii, sc_ss, sc_bb, sc_ns, sc_sn, Value.ref.injEq, L2.start, rd_r1, rd_r2, rd_l, rd_s, rd_e, rd_el, rd_t, rd_tr, rd_bl, tPar, rd_z, rd_revl, rd_cv, tFld, sFld, tMeth, tMake, putF, tx_append, cs_tx, len_tx, cxHK, cV_ref, cV_ty, cxK, cxP, cxW, List.map_cons, List.map_nil, List.length_cons, List.length_nil, List.replicate_succ, List.replicate_zero, Nat.reduceAdd, Nat.reduceSub, and_assoc, tx_eq, exists_eq, exists_eq', exists_eq_left', exists_eq_left, exists_eq_right, exists_eq_right', exists_and_left, exists_and_right, V.int.injEq, V.ref.injEq, V.str.injEq, V.bl.injEq, V.ty.injEq, reduceCtorEq, false_and, and_false, true_and, and_true, or_false, false_or, exists_false, exists_const, List.getElem?_cons_zero, List.getElem?_cons_succ, Option.some.injEq, List.set_cons_zero, List.set_cons_succ, List.cons.injEq, List.append_nil, List.nil_append, List.cons_append])
theorem xe0 {X : Cx} : XE X E0 := fun e s h => by
  obtain ⟨_, _, _, _, _, _, _, _, _, _, _, _, _, _, h⟩ := h
  exact h.elim
def small (l : List Nat) : Prop := ∀ c ∈ l, 97 ≤ c ∧ c ≤ 122
def sp_letters : Sp := fun vs H Q _ => ∃ c m, vs = [.int c, .int m] ∧ 0 ≤ m ∧ m ≤ 26 ∧ ∀ l : List Nat, (l.length : Int) = m → l.Nodup → small l → Q (.str (tx l)) H
theorem sc_letters : FnScope ["_law_cell", "_law_many", "_law_left", "_law_number", "_law_found", "_law_k", "_law_at"] ["_law_cell", "_law_many"] (defScope s_letters) := ⟨rfl, rfl, rfl, by decide +kernel, rfl, by decide +kernel, by decide +kernel⟩
theorem ok_letters {f : Addr} {fd : FuncData} (B : Bt mg) (F : Fun K "_law_letters" "_law_letters" s_letters f fd) : FnOk P w K mg base CX0 1 f fd ["_law_cell", "_law_many"] sp_letters := by
  refine F.ok sc_letters (fun vs H Q E h => ?_) (fun cdv A outer s H vs Q E hr h => ?_)
  · obtain ⟨a, ns, rfl, _⟩ := h
    rfl
  · obtain ⟨c, m, rfl, h0, h26, q⟩ := h
    refine ⟨_, (pss_cons (ps_set (i := 2) sc_letters.nd rfl (Or.inl rfl) pe_str)
      (pss_cons (ps_set (i := 3) sc_letters.nd rfl (Or.inl rfl) (pe_op op_mod (pe_op op_mulA (pv 0) pe_int) pe_int))
      (pss_cons (ps_set (i := 4) sc_letters.nd rfl (Or.inl rfl) pe_str)
      (pss_cons (ps_for PassesOwn.never rfl (pi_range1 rfl B.range (pa_cons (pv 1) pa_nil)) (pg_name (i := 5) sc_letters.nd rfl (Or.inl rfl))
        (pss_cons (ps_set (i := 6) sc_letters.nd rfl (Or.inl rfl) (pe_op op_mod (pv 3) (pe_callB c_len rfl B.len PySem.boot_len (pa_cons (pv 2) pa_nil))))
        (pss_cons (ps_set (i := 3) sc_letters.nd rfl (Or.inl rfl) (pe_op op_fdiv (pv 3) pe_int))
        (pss_cons (ps_set (i := 4) sc_letters.nd rfl (Or.inl rfl) (pe_op op_addA (pv 4) (pe_ix ix_seq (pv 2) (pv 6) (fun _ _ => rfl))))
        (pss_one (ps_set (i := 2) sc_letters.nd rfl (Or.inl rfl) (pe_op op_addA (pe_slice sl_any (pv 2) po_none (po_some (pv 6))) (pe_slice sl_any (pv 2) (po_some (pe_op op_addA (pv 6) pe_int)) po_none))))))))
      (pss_one (ps_ret (pv 4))))))), ?_⟩
    rfl'
    refine ⟨.inr (by omega), by omega, by omega, by omega, ForR.by (fun i σ H' => H' = H ∧ ∃ (left found : List Nat) (number : Int) (v5 v6 : Option V), σ = [some (.int c), some (.int m), some (.str (tx left)), some (.int number), some (.str (tx found)), v5, v6] ∧ 0 ≤ number ∧ found.length = i ∧ (found ++ left).Perm alpha)
      ⟨rfl, alpha, [], _, none, none, by rw [alpha_txt]; rfl, Int.emod_nonneg _ (by decide), rfl, .refl _⟩ ?_ ?_⟩
    · rintro i σ H' hi ⟨rfl, left, found, number, v5, v6, rfl, hn, hf, hp⟩
      have hl := hp.length_eq
      rw [List.length_append] at hl
      have ha : alpha.length = 26 := rfl
      have hll : left.length = 26 - i := by omega
      have s16 := sl16
      have hm0 := Int.emod_nonneg number (b := (left.length : Int)) (by omega)
      have hm1 := Int.emod_lt_of_pos number (b := (left.length : Int)) (by omega)
      obtain ⟨v, e1, e2⟩ := atI_of hm0 hm1
      have hc1 := cut_len left none (some (number % (left.length : Int)))
      have hc2 := cut_len left (some (number % (left.length : Int) + 1)) none
      rfl'
      refine ⟨by omega, by omega, ⟨by decide, by decide⟩, by omega, v, e1, by omega, by omega, by omega, by omega, Int.ediv_nonneg hn (by decide), by rw [List.length_append, hf]; rfl, ?_⟩
      rw [cut_to _ hm0, cut_from _ (by omega), List.append_assoc]
      have e3 : (number % (left.length : Int) + 1).toNat = (number % (left.length : Int)).toNat + 1 := by omega
      rw [e3]
      exact ((pick_perm e2).append_left found).trans hp
    · rintro σ H' ⟨rfl, left, found, number, v5, v6, rfl, hn, hf, hp⟩
      rfl'
      have hnd : (found ++ left).Nodup := hp.nodup_iff.mpr (by decide)
      refine q found (by omega) (List.nodup_append.mp hnd).1 fun c hc => ?_
      have h : c ∈ alpha := hp.mem_iff.mp (List.mem_append_left _ hc)
      exact (by decide : ∀ c ∈ alpha, 97 ≤ c ∧ c ≤ 122) c h
instance (l : List Nat) : Decidable (small l) := by unfold small; infer_instance
def goodB (l : List Nat) : Bool := decide (1 ≤ l.length ∧ l.length ≤ 6 ∧ small l ∧ l.Nodup)
def sp_small : Sp := fun vs H Q _ => ∃ c : Nat, vs = [.str (tx [c])] ∧ Q (.bl (decide (97 ≤ c ∧ c ≤ 122))) H
theorem sc_small : FnScope ["sign"] ["sign"] (defScope s_is_small_letter) := ⟨rfl, rfl, rfl, by decide +kernel, rfl, by decide +kernel, by decide +kernel⟩
theorem ok_small {f : Addr} {fd : FuncData} (F : Fun K "is_small_letter" "is_small_letter" s_is_small_letter f fd) : FnOk P w K mg base CX0 1 f fd ["sign"] sp_small := by
  refine F.ok sc_small (fun vs H Q E h => ?_) (fun cdv A outer s H vs Q E hr h => ?_)
  · obtain ⟨a, rfl, _⟩ := h
    rfl
  · obtain ⟨c, rfl, q⟩ := h
    refine ⟨_, (pss_one (ps_ret (pe_chain op_leA op_leA pe_str (pv 0) pe_str))), ?_⟩
    have ea : cs (("a" : Str)) = [97] := rfl
    have ez : cs (("z" : Str)) = [122] := rfl
    rfl'
    simp only [ea, ez, cs_tx, lt1]
    refine ite2 (fun h => ?_) fun h => ?_
    · have e : decide (97 ≤ c ∧ c ≤ 122) = !decide (122 < c) := by
        by_cases h2 : 122 < c
        · rw [decide_eq_true h2, decide_eq_false (by omega)]; rfl
        · rw [decide_eq_false h2, decide_eq_true (by omega)]; rfl
      rw [e] at q
      exact q
    · rw [decide_eq_false (by omega)] at q
      exact q
structure TLet (K : PySem.W.Frag) (mg : Str → Option Value) (C : Addr) : Prop where
  xi : XI K C
  ini : PySem.W.findIn K (.ref C) "__init__" = some (some (.builtin "ValueError.__init__"))
  g : mg "NoLetters" = some (.ref C)
  most : ∃ t, mg "MOST_LETTERS" = some (.int 6 t)
def sp_letters_of (C : Addr) : Sp := fun vs H Q E => ∃ l : List Nat, vs = [.str (tx l)] ∧ l.length ≤ 1000 ∧ (goodB l = true → Q (.str (tx l)) H) ∧ (goodB l = false → E (.ref C) none H)
theorem sc_letters_of : FnScope ["text", "sign"] ["text"] (defScope s_letters_of) := ⟨rfl, rfl, rfl, by decide +kernel, rfl, by decide +kernel, by decide +kernel⟩
theorem ok_letters_of {f C : Addr} {fd : FuncData} (B : Bt mg) (T : TLet K mg C) (F : Fun K "letters_of" "letters_of" s_letters_of f fd) (Ds : Df P w K mg base CX0 1 "is_small_letter" ["sign"] [] sp_small) : FnOk P w K mg base (CXx P w) 2 f fd ["text"] (sp_letters_of C) := by
  refine Fun.okX F sc_letters_of (fun vs H Q E h => ?_) (fun cdv A outer s H vs Q E hr hx h => ?_)
  · obtain ⟨a, rfl, _⟩ := h
    rfl
  · obtain ⟨l, rfl, hl, q1, q2⟩ := h
    obtain ⟨t6, g6⟩ := T.most
    refine ⟨_, (pss_cons (ps_if (pt_not (pt_chain op_leA op_leA pe_int (pe_callB c_len rfl B.len PySem.boot_len (pa_cons (pv 0) pa_nil)) (pe_glob (v := .int 6) rfl g6 ⟨t6, rfl⟩)))
        (pss_one (ps_raise0 hx rfl T.xi.toXC T.ini rfl T.g (pa_cons pe_str pa_nil)))
        pss_nil)
      (pss_cons (ps_for PassesOwn.leaving rfl (pi_str (pv 0)) (pg_name (i := 1) sc_letters_of.nd rfl (Or.inl rfl))
        (pss_cons (ps_if (pt_not (pt_truth (cl0 Ds hr .nil rfl (pa_cons (pv 1) pa_nil)) (fun _ => rfl)))
          (pss_one (ps_raise0 hx rfl T.xi.toXC T.ini rfl T.g (pa_cons pe_str pa_nil)))
          pss_nil)
        (pss_one (ps_if (pt_cmpR op_gtA (pe_bm PySem.F.plainAttrs_str PySem.F.slot_str_count PySem.F.type_str_count m_count (pv 0) (pa_cons (pv 1) pa_nil)) pe_int (nomark _))
          (pss_one (ps_raise0 hx rfl T.xi.toXC T.ini rfl T.g (pa_cons pe_str pa_nil)))
          pss_nil))))
      (pss_one (ps_ret (pv 0))))), ?_⟩
    have s16 := sl16
    rfl'
    have bad : (¬ (1 ≤ l.length ∧ l.length ≤ 6 ∧ small l ∧ l.Nodup)) → ∀ H' : Hp, H' = H → E (.ref C) none H' := fun h H' e => by
      rw [e]
      exact q2 (decide_eq_false h)
    refine ⟨by omega, ite2 (fun c => ite2 (fun c2 => ⟨by omega, bad (fun h => by have := h.2.1; omega) H rfl⟩) (fun c2 => ?_)) (fun c => ⟨by omega, bad (fun h => by have := h.1; omega) H rfl⟩)⟩
    refine ForS.by (fun i σ H' => H' = H ∧ ∃ v, σ = [some (.str (tx l)), v] ∧ small (l.take i) ∧ ∀ c ∈ l.take i, l.count c ≤ 1) ⟨rfl, none, rfl, fun c h => absurd h (by simp), fun c h => absurd h (by simp)⟩ ?_ ?_
    · rintro i c σ H' hg ⟨eH, v, rfl, hs, hn⟩
      have hc := List.mem_of_getElem? hg
      rfl'
      simp only [sp_small]
      rfl'
      refine ite2 (fun h => ⟨by omega, bad (fun z => by have := z.2.2.1 c hc; omega) _ eH⟩) (fun h => ite2 (fun h2 => ⟨by omega, bad (fun z => ?_) _ eH⟩) (fun h2 => ⟨eH, ?_, ?_⟩))
      · have := List.nodup_iff_count.mp z.2.2.2 c
        omega
      · rw [take_one hg]
        intro x hx
        rcases List.mem_append.mp hx with q | q
        · exact hs x q
        · have : x = c := by simpa using q
          subst this
          omega
      · rw [take_one hg]
        intro x hx
        rcases List.mem_append.mp hx with q | q
        · exact hn x q
        · have : x = c := by simpa using q
          subst this
          omega
    · rintro σ H' ⟨eH, v, rfl, hs, hn⟩
      rw [List.take_length] at hs hn
      rfl'
      rw [eH]
      refine q1 (decide_eq_true ⟨by omega, by omega, hs, List.nodup_iff_count.mpr fun c => ?_⟩)
      by_cases hc : c ∈ l
      · exact hn c hc
      · rw [List.count_eq_zero.mpr hc]; omega
/-! ### orders -/
structure TOrd (K : PySem.W.Frag) (mg : Str → Option Value) (CO CR CW : Addr) : Prop where
  cO : Cls K CO
  cR : Cls K CR
  cW : Cls K CW
  gO : mg "Order" = some (.ref CO)
  gR : mg "FromRight" = some (.ref CR)
  gW : mg "ByWeights" = some (.ref CW)
  lO : NoAttr K CO "letters"
  lR : NoAttr K CR "letters"
  lW : NoAttr K CW "letters"
  wW : NoAttr K CW "weights"
/-- an order's fields: ns = none where it has no weights of its own -/
def OrdAt (CO CR CW : Addr) (H : Hp) (o : Addr) (k : Nat) (l : List Nat) (ns : List Int) : Prop := ∃ dx, (k = 0 ∧ H o = some (.ins CO dx [("letters", .str (tx l))])) ∨ (k = 1 ∧ H o = some (.ins CR dx [("letters", .str (tx l))])) ∨
  (k = 2 ∧ ns.length = l.length ∧ ∃ w, H o = some (.ins CW dx [("letters", .str (tx l)), ("weights", .ref w)]) ∧ H w = some (.tup (ns.map V.int)))
theorem OrdAt.same {CO CR CW : Addr} {H H' : Hp} {o : Addr} {k : Nat} {l : List Nat} {ns : List Int} (h : OrdAt CO CR CW H o k l ns) (e : Same H H') : OrdAt CO CR CW H' o k l ns := by
  obtain ⟨dx, ⟨h1, h2⟩ | ⟨h1, h2⟩ | ⟨h1, h2, w, h3, h4⟩⟩ := h
  · exact ⟨dx, .inl ⟨h1, e _ _ h2⟩⟩
  · exact ⟨dx, .inr (.inl ⟨h1, e _ _ h2⟩)⟩
  · exact ⟨dx, .inr (.inr ⟨h1, h2, w, e _ _ h3, e _ _ h4⟩)⟩
/-- the weight by weights -/
def wsum (l : List Nat) (ns : List Int) (w : List Nat) : Int := ((l.zip ns).map fun p => (w.count p.1 : Int) * p.2).sum
def weightOf (k : Nat) (l : List Nat) (ns : List Int) (w : List Nat) : Int := if k = 2 then wsum l ns w else (w.length : Int)
def seenOf (k : Nat) (w : List Nat) : List Nat := if k = 1 then w.reverse else w
def sp_oinit (K : PySem.W.Frag) : Sp := fun vs H Q _ => ∃ (x C dx : Addr) (l : List Nat), vs = [.ref x, .str (tx l)] ∧ goodB l = true ∧ Cls K C ∧ NoAttr K C "letters" ∧ H x = some (.ins C dx []) ∧ Q .non (upd H x (.ins C dx [("letters", .str (tx l))]))
theorem sc_order_init : FnScope ["self", "letters"] ["self", "letters"] (defScope s_order_init) := ⟨rfl, rfl, rfl, by decide +kernel, rfl, by decide +kernel, by decide +kernel⟩
theorem ok_order_init {f : Addr} {fd : FuncData} (B : Bt mg)  (F : Fun K "__init__" "Order.__init__" s_order_init f fd) (D_letters_of : Df P w K mg base (CXx P w) 2 "letters_of" ["text"] [] (sp_letters_of C)) : FnOk P w K mg base CX0 3 f fd ["self", "letters"] (sp_oinit K) := by
  refine F.ok sc_order_init (fun vs H Q E h => ?_) (fun cdv A outer s H vs Q E hr h => ?_)
  · obtain ⟨x, C, dx, l, rfl, _⟩ := h
    rfl
  · obtain ⟨x, C, dx, l, rfl, hg, hC, hN, hx, q⟩ := h
    refine ⟨_, (pss_one (ps_fld (pv 0) (clP xe0 D_letters_of hr .nil rfl (pa_cons (pv 1) pa_nil)) rfl)), ?_⟩
    have s16 := sl16
    rfl'
    exact ⟨l, rfl, by have := of_decide_eq_true hg; omega, fun _ => ⟨_, _, _, hx, hC, hN, by decide, q⟩, fun e => by rw [hg] at e; cases e⟩
def sp_wlen : Sp := fun vs H Q _ => ∃ (o : Addr) (w : List Nat), vs = [.ref o, .str (tx w)] ∧ w.length ≤ 1000 ∧ Q (.int (w.length : Nat)) H
theorem sc_order_weight : FnScope ["self", "word"] ["self", "word"] (defScope s_order_weight) := ⟨rfl, rfl, rfl, by decide +kernel, rfl, by decide +kernel, by decide +kernel⟩
theorem ok_order_weight {f : Addr} {fd : FuncData} (B : Bt mg)  (F : Fun K "weight" "Order.weight" s_order_weight f fd)  : FnOk P w K mg base CX0 1 f fd ["self", "word"] sp_wlen := by
  refine F.ok sc_order_weight (fun vs H Q E h => ?_) (fun cdv A outer s H vs Q E hr h => ?_)
  · obtain ⟨o, w, rfl, _⟩ := h
    rfl
  · obtain ⟨o, w, rfl, hw, q⟩ := h
    refine ⟨_, (pss_one (ps_ret (pe_callB c_len rfl B.len PySem.boot_len (pa_cons (pv 1) pa_nil)))), ?_⟩
    have s16 := sl16
    rfl'
    exact ⟨by omega, q⟩
def sp_sid : Sp := fun vs H Q _ => ∃ (o : Addr) (w : List Nat), vs = [.ref o, .str (tx w)] ∧ Q (.str (tx w)) H
theorem sc_order_seen : FnScope ["self", "word"] ["self", "word"] (defScope s_order_seen) := ⟨rfl, rfl, rfl, by decide +kernel, rfl, by decide +kernel, by decide +kernel⟩
theorem ok_order_seen {f : Addr} {fd : FuncData} (B : Bt mg)  (F : Fun K "seen" "Order.seen" s_order_seen f fd)  : FnOk P w K mg base CX0 1 f fd ["self", "word"] sp_sid := by
  refine F.ok sc_order_seen (fun vs H Q E h => ?_) (fun cdv A outer s H vs Q E hr h => ?_)
  · obtain ⟨o, w, rfl, _⟩ := h
    rfl
  · obtain ⟨o, w, rfl, q⟩ := h
    refine ⟨_, (pss_one (ps_ret (pv 1))), ?_⟩
    have s16 := sl16
    rfl'
    exact q
def sp_srev : Sp := fun vs H Q _ => ∃ (o : Addr) (w : List Nat), vs = [.ref o, .str (tx w)] ∧ w.length ≤ 1000 ∧ Q (.str (tx w.reverse)) H
theorem sc_fromright_seen : FnScope ["self", "word"] ["self", "word"] (defScope s_fromright_seen) := ⟨rfl, rfl, rfl, by decide +kernel, rfl, by decide +kernel, by decide +kernel⟩
theorem ok_fromright_seen {f : Addr} {fd : FuncData} (B : Bt mg)  (F : Fun K "seen" "FromRight.seen" s_fromright_seen f fd)  : FnOk P w K mg base CX0 1 f fd ["self", "word"] sp_srev := by
  refine F.ok sc_fromright_seen (fun vs H Q E h => ?_) (fun cdv A outer s H vs Q E hr h => ?_)
  · obtain ⟨o, w, rfl, _⟩ := h
    rfl
  · obtain ⟨o, w, rfl, hw, q⟩ := h
    refine ⟨_, (pss_one (ps_ret (pe_trev (pv 1) (pe_un un_neg pe_int)))), ?_⟩
    have s16 := sl16
    repeat (first | rfl' | simp only [tAlt, tMethF, rd_cz, tRev, rSum, rIndex])
    exact ⟨by omega, q⟩
structure TNoO (K : PySem.W.Frag) (mg : Str → Option Value) (C : Addr) : Prop where
  xi : XI K C
  ini : PySem.W.findIn K (.ref C) "__init__" = some (some (.builtin "ValueError.__init__"))
  g : mg "NoOrder" = some (.ref C)
  most : ∃ t, mg "MOST_WEIGHT" = some (.int 1000000 t)
abbrev DOI (P : Program) (w : World) (K : PySem.W.Frag) (mg : Str → Option Value) (base : Heap) (CO : Addr) : Prop := DC P w K mg base CX0 3 CO "__init__" ["self", "letters"] (sp_oinit K)
def sp_winit (K : PySem.W.Frag) (CW : Addr) : Sp := fun vs H Q _ => ∃ (x dx a : Addr) (l : List Nat) (ns : List Int), vs = [.ref x, .str (tx l), .ref a] ∧ goodB l = true ∧ SqL K H a (ns.map V.int) ∧ ns.length = l.length ∧ (∀ n ∈ ns, 1 ≤ n ∧ n ≤ 1000000) ∧ H x = some (.ins CW dx []) ∧
  ∀ w H', H w = none → w ≠ x → (∀ b o, b ≠ x → H b = some o → H' b = some o) → H' w = some (.tup (ns.map V.int)) → H' x = some (.ins CW dx [("letters", .str (tx l)), ("weights", .ref w)]) → Q .non H'
theorem sc_byweights_init : FnScope ["self", "letters", "weights", "weight"] ["self", "letters", "weights"] (defScope s_byweights_init) := ⟨rfl, rfl, rfl, by decide +kernel, rfl, by decide +kernel, by decide +kernel⟩
theorem ok_byweights_init {f CO CR CW CN : Addr} {fd : FuncData} (B : Bt mg) (T : TOrd K mg CO CR CW) (TN : TNoO K mg CN) (DI : DOI P w K mg base CO) (F : Fun K "__init__" "ByWeights.__init__" s_byweights_init f fd)  : FnOk P w K mg base (CXx P w) 4 f fd ["self", "letters", "weights"] (sp_winit K CW) := by
  obtain ⟨t6, g6⟩ := TN.most
  refine Fun.okX F sc_byweights_init (fun vs H Q E h => ?_) (fun cdv A outer s H vs Q E hr hx h => ?_)
  · obtain ⟨x, dx, a, l, ns, rfl, _⟩ := h
    rfl
  · obtain ⟨x, dx, a, l, ns, rfl, hg, hS, hl, hb, hX, q⟩ := h
    refine ⟨_, (pss_cut (ps_expr (pe_clsm DI hr rfl T.gO (pa_cons (pv 0) (pa_cons (pv 1) pa_nil))))
      (pss_cut (ps_if (pt_cmpR op_ne (pe_callB c_len rfl B.len PySem.boot_len (pa_cons (pv 2) pa_nil)) (pe_callB c_len rfl B.len PySem.boot_len (pa_cons (pv 1) pa_nil)) (nomark _))
        (pss_one (ps_raise0 hx rfl TN.xi.toXC TN.ini rfl TN.g (pa_cons pe_str pa_nil)))
        pss_nil)
      (pss_cut (ps_for PassesOwn.leaving rfl (pi_list (pv 2)) (pg_name (i := 3) sc_byweights_init.nd rfl (Or.inl rfl))
        (pss_one (ps_if (pt_not (pt_chain op_leA op_leA pe_int (pv 3) (pe_glob (v := .int 1000000) rfl g6 ⟨t6, rfl⟩)))
          (pss_one (ps_raise0 hx rfl TN.xi.toXC TN.ini rfl TN.g (pa_cons pe_str pa_nil)))
          pss_nil)))
      (pss_one (ps_fld (pv 0) (pe_callTy call_tuple_of rfl B.tuple PySem.Pv.boot_tuple (pa_cons (pv 2) pa_nil)) rfl))))), ?_⟩
    have s16 := sl16
    have hbx : ∀ b o, b ≠ x → H b = some o → upd H x (.ins CW dx [("letters", .str (tx l))]) b = some o := fun b o hb e => by rw [upd_ne hb]; exact e
    have hS1 : SqL K (upd H x (.ins CW dx [("letters", .str (tx l))])) a (ns.map V.int) := by
      rcases hS with (h | ⟨o, h⟩) | h
      · exact .inl (.inl (hbx _ _ (fun e => by rw [e, hX] at h; cases h) h))
      · exact .inl (.inr ⟨o, hbx _ _ (fun e => by rw [e, hX] at h; cases h) h⟩)
      · exact .inr h
    refine cut_by (fun σ H' => H' = upd H x (.ins CW dx [("letters", .str (tx l))]) ∧ σ = [some (.ref x), some (.str (tx l)), some (.ref a), none]) ?_ ?_
    · repeat (first | rfl' | simp only [tAlt, tMethF, rd_cz, tRev, rSum, rIndex])
      exact ⟨x, CW, dx, l, rfl, hg, T.cW, T.lW, hX, rfl⟩
    rintro σ H1 ⟨rfl, rfl⟩
    refine cut_by (fun σ H' => H' = upd H x (.ins CW dx [("letters", .str (tx l))]) ∧ σ = [some (.ref x), some (.str (tx l)), some (.ref a), none]) ?_ ?_
    · have hl6 : l.length ≤ 6 := by have := of_decide_eq_true hg; omega
      repeat (first | rfl' | simp only [tAlt, tMethF, rd_cz, tRev, rSum, rIndex])
      refine ⟨ns.length, .inl ⟨_, hS1, by rw [List.length_map]⟩, by omega, ite2 (fun h => absurd (by omega) h) fun _ => trivial⟩
    rintro σ H1 ⟨rfl, rfl⟩
    refine cut_by (fun σ H' => H' = upd H x (.ins CW dx [("letters", .str (tx l))]) ∧ ∃ v3, σ = [some (.ref x), some (.str (tx l)), some (.ref a), v3]) ?_ ?_
    · repeat (first | rfl' | simp only [tAlt, tMethF, rd_cz, tRev, rSum, rIndex])
      refine ⟨⟨_, hS1⟩, ForL.by (xs := ns.map V.int) (fun i σ H' => H' = upd H x (.ins CW dx [("letters", .str (tx l))]) ∧ ∃ v3, σ = [some (.ref x), some (.str (tx l)), some (.ref a), v3]) ⟨rfl, none, rfl⟩ (fun i σ H' _ h => by rw [h.1]; exact hS1) ?_ fun σ H' h => h⟩
      rintro i y σ H' hy ⟨rfl, v3, rfl⟩
      rw [List.getElem?_map] at hy
      obtain ⟨n, hn, rfl⟩ := Option.map_eq_some_iff.mp hy
      obtain ⟨n1, n2⟩ := hb n (List.mem_of_getElem? hn)
      repeat (first | rfl' | simp only [tAlt, tMethF, rd_cz, tRev, rSum, rIndex])
      exact ite2 (fun _ => ite2 (fun h => absurd n2 h) fun _ => trivial) fun h => absurd n1 h
    rintro σ H1 ⟨rfl, v3, rfl⟩
    repeat (first | rfl' | simp only [tAlt, tMethF, rd_cz, tRev, rSum, rIndex])
    refine ⟨_, .inl ⟨hS1, fun w hw => ?_⟩⟩
    have hwx : w ≠ x := fun e => by rw [e, upd_same] at hw; cases hw
    have hwH : H w = none := by rw [upd_ne hwx] at hw; exact hw
    have hX2 := same_upd (o := .tup (ns.map V.int)) hw _ _ (upd_same (H := H) (a := x) (o := .ins CW dx [("letters", .str (tx l))]))
    refine ⟨_, _, _, hX2, T.cW, T.wW, by show 1 < 1000; decide, q w _ hwH hwx (fun b o hb' e => ?_) ?_ upd_same⟩
    · rw [upd_ne hb']
      exact same_upd hw _ _ (hbx b o hb' e)
    · rw [upd_ne hwx]
      exact upd_same
theorem keeps2 {x y : V} {r : L2.St} : KeepsSt (none :: none :: r) (some x :: some y :: r) := ⟨rfl, fun i v h => by
  cases i with
  | zero => cases h
  | succ i =>
    cases i with
    | zero => cases h
    | succ i => exact h⟩
def sp_wsum (CW : Addr) : Sp := fun vs H Q _ => ∃ (o dx t : Addr) (w l : List Nat) (ns : List Int), vs = [.ref o, .str (tx w)] ∧ w.length ≤ 1000 ∧ l.length ≤ 6 ∧ ns.length = l.length ∧ (∀ n ∈ ns, 1 ≤ n ∧ n ≤ 1000000) ∧ H o = some (.ins CW dx [("letters", .str (tx l)), ("weights", .ref t)]) ∧ H t = some (.tup (ns.map V.int)) ∧ ∀ H', Same H H' → Q (.int (wsum l ns w)) H'
theorem sc_byweights_weight : FnScope ["self", "word"] ["self", "word"] (defScope s_byweights_weight) := ⟨rfl, rfl, rfl, by decide +kernel, rfl, by decide +kernel, by decide +kernel⟩
theorem ok_byweights_weight {f CO CR CW : Addr} {fd : FuncData} (B : Bt mg) (T : TOrd K mg CO CR CW) (F : Fun K "weight" "ByWeights.weight" s_byweights_weight f fd)  : FnOk P w K mg base CX0 1 f fd ["self", "word"] (sp_wsum CW) := by
  refine F.ok sc_byweights_weight (fun vs H Q E h => ?_) (fun cdv A outer s H vs Q E hr h => ?_)
  · obtain ⟨o, dx, t, w, l, ns, rfl, _⟩ := h
    rfl
  · obtain ⟨o, dx, t, w, l, ns, rfl, hw, hl, hn, hb, ho, ht, q⟩ := h
    refine ⟨_, (pss_one (ps_ret (pe_callB (c_sum rfl) rfl B.sum PyProof.Rows.boot_sum (pa_cons (pe_comp (g := gTup K 2 (gCons (gName 0) (gCons (gName 1) gNil))) (own := ["letter", "weight"]) (caps := ["word"]) (ix := [1]) (tt := tYes) (te := (tOp rMulA (tBM K "str" rCount (tVar 2) (tCons (tVar 0) tNil)) (tVar 1))) rfl (compOk_of (sc := defScope s_byweights_weight) rfl (by decide +kernel) (by decide +kernel) (by decide +kernel) rfl (by decide +kernel) (by decide +kernel) rfl) (pi_zst rfl B.zip (pa_cons (pe_fld (pv 0) rfl) (pa_cons (pe_fld (pv 0) rfl) pa_nil))) (fun _ _ _ _ _ _ => pg_tup (n := 2) rfl (pgs_cons (pg_name (i := 0) (show List.Nodup [_, _, _] by decide) rfl (Or.inl rfl)) (pgs_cons (pg_name (i := 1) (show List.Nodup [_, _, _] by decide) rfl (Or.inl rfl)) pgs_nil))) (fun _ _ _ _ _ _ => pts_nil) (fun _ _ _ _ _ _ => (pe_op op_mulA (pe_bm PySem.F.plainAttrs_str PySem.F.slot_str_count PySem.F.type_str_count m_count (pv 2) (pa_cons (pv 0) pa_nil)) (pv 1)))) pa_nil)))), ?_⟩
    have s16 := sl16
    repeat (first | rfl' | simp only [tAlt, tMethF, rd_cz, tRev, rSum, rIndex])
    refine ⟨_, _, _, ho, T.cW, T.lW, _, rfl, _, _, _, ho, T.cW, T.wW, _, rfl, l, rfl, t, rfl, ⟨_, SqT.of ht⟩, fun D hD => CompZ.by (ys := ns.map V.int) (fun i acc H' => Same H H' ∧ H' D = some (.lst acc) ∧ acc = ((((l.zip ns).map fun p => (w.count p.1 : Int) * p.2).take i).map V.int)) (by rw [List.length_map]; omega) ⟨same_upd hD, upd_same, rfl⟩ (fun i acc H' _ h => SqT.of (h.1 _ _ ht)) ?_ ?_⟩
    · rintro i c y acc H' p hc hy ⟨hs, hH, rfl⟩ hp
      have hi := (List.getElem?_eq_some_iff.mp hc).1
      rw [List.getElem?_map] at hy
      obtain ⟨n, hn', rfl⟩ := Option.map_eq_some_iff.mp hy
      have hz : ((l.zip ns).map fun p => (w.count p.1 : Int) * p.2)[i]? = some ((w.count c : Int) * n) := by
        rw [List.getElem?_map, (List.getElem?_zip_eq_some (z := (c, n))).mpr ⟨hc, hn'⟩]
        rfl
      obtain ⟨n1, n2⟩ := hb n (List.mem_of_getElem? hn')
      have hcl : w.count c ≤ w.length := List.count_le_length
      have hcn : (w.count c : Int) * n = (w.count c : Int) * n := rfl
      simp only [tYes]
      repeat (first | rfl' | simp only [tAlt, tMethF, rd_cz, tRev, rSum, rIndex])
      refine ⟨_, SqT.of upd_same, rfl, _, _, rfl, _, _, rfl, rfl, keeps2, _, rfl, _, rfl, ?_, same_upd hp _ _ hH, by rw [List.length_map, List.length_take]; omega, ?_⟩
      · exact .inr ⟨by omega, by omega⟩
      · rw [count_l]
        refine CNx.mk hi ⟨same_over (hs.trans (same_upd hp)) hD, upd_same, ?_⟩
        rw [take_one hz, List.map_append]
        rfl
    · rintro acc H' ⟨hs, hH, rfl⟩
      have e : l.length = ((l.zip ns).map fun p => (w.count p.1 : Int) * p.2).length := by rw [List.length_map, List.length_zip]; omega
      refine ⟨D, rfl, _, SqL.of hH, ?_⟩
      rw [e, List.take_length]
      exact q _ hs
theorem at_c (l : List Nat) (c e : Nat) : StrLaws.At (tx l) (tx [c]) (tx l).length e ↔ l[e]? = some c := by
  unfold StrLaws.At Builtin.Str.subAt
  rw [len_tx, len_tx]
  have h1 : [c].length = 1 := rfl
  rw [h1, beq_iff_eq]
  have e1 : ((tx l).cps.extract e (e + 1)).toList = (l.drop e).take 1 := by
    show (l.toArray.extract e (e + 1)).toList = _
    simp [List.extract_eq_drop_take]
  have e2 : ((tx l).cps.extract e (e + 1) = (tx [c]).cps) ↔ (l.drop e).take 1 = [c] := by
    constructor
    · intro h
      rw [← e1, h]
    · intro h
      apply Array.toList_inj.mp
      rw [e1, h]
  constructor
  · rintro ⟨h2, h3⟩
    have := e2.mp h3
    rw [List.drop_eq_getElem_cons (by omega), List.take_succ_cons, List.take_zero] at this
    rw [List.getElem?_eq_getElem (by omega)]
    injection this with h _
    rw [h]
  · intro h
    obtain ⟨he, hx⟩ := List.getElem?_eq_some_iff.mp h
    refine ⟨by omega, e2.mpr ?_⟩
    rw [List.drop_eq_getElem_cons he, List.take_succ_cons, List.take_zero, hx]
theorem find_c {l : List Nat} {c : Nat} (h : c ∈ l) : Txt.find (tx l) (tx [c]) = ((l.idxOf c : Nat) : Int) := by
  have hlt := List.idxOf_lt_length_of_mem h
  have hg : l[l.idxOf c]? = some c := by rw [List.getElem?_eq_getElem hlt, List.getElem_idxOf]
  rcases PyProof.Rows.find_whole (tx l) (tx [c]) with ⟨h1, h2⟩ | ⟨e, h1, h2, h3⟩
  · exact absurd ((at_c l c _).mpr hg) (h2 _)
  · have he := (at_c l c e).mp h2
    have : e = l.idxOf c := by
      rcases Nat.lt_trichotomy e (l.idxOf c) with q | q | q
      · have := List.not_of_lt_findIdx (p := (· == c)) q
        obtain ⟨h4, h5⟩ := List.getElem?_eq_some_iff.mp he
        simp [h5] at this
      · exact q
      · exact absurd ((at_c l c _).mpr hg) (h3 _ q)
    rw [h1, this]
abbrev MkO (P : Program) (w : World) (K : PySem.W.Frag) (mg : Str → Option Value) (base : Heap) (C : Addr) : Prop := DMk P w K mg base CX0 3 C ["self", "letters"] (sp_oinit K)
abbrev MkW (P : Program) (w : World) (K : PySem.W.Frag) (mg : Str → Option Value) (base : Heap) (C : Addr) : Prop := DMk P w K mg base (CXx P w) 4 C ["self", "letters", "weights"] (sp_winit K C)
abbrev MW (P : Program) (w : World) (K : PySem.W.Frag) (mg : Str → Option Value) (base : Heap) (C : Addr) (m : Str) (sp : Sp) : Prop := DM P w K mg base CX0 1 C m ["self", "word"] sp
structure TWS (P : Program) (w : World) (K : PySem.W.Frag) (mg : Str → Option Value) (base : Heap) (CO CR CW : Addr) : Prop extends TOrd K mg CO CR CW where
  mO : MkO P w K mg base CO
  mR : MkO P w K mg base CR
  mW : MkW P w K mg base CW
  wO : MW P w K mg base CO "weight" sp_wlen
  wR : MW P w K mg base CR "weight" sp_wlen
  wW' : MW P w K mg base CW "weight" (sp_wsum CW)
  sO : MW P w K mg base CO "seen" sp_sid
  sR : MW P w K mg base CR "seen" sp_srev
  sW : MW P w K mg base CW "seen" sp_sid
/-- what an order's words keep to -/
structure OG (l : List Nat) (ns : List Int) (k : Nat) : Prop where
  g : goodB l = true
  k3 : k < 3
  nl : ns.length = l.length
  nb : ∀ n ∈ ns, 1 ≤ n ∧ n ≤ 1000000
def idxs (l : List Nat) (w : List Nat) : List Int := w.map fun c => ((l.idxOf c : Nat) : Int)
def rankL (k : Nat) (l : List Nat) (w : List Nat) : List Int := idxs l (seenOf k w)
def Fam3 (CO CR CW : Addr) : Addr → Prop := fun C => C = CO ∨ C = CR ∨ C = CW
theorem OrdAt.fam {CO CR CW : Addr} {H : Hp} {o : Addr} {k : Nat} {l : List Nat} {ns : List Int} (h : OrdAt CO CR CW H o k l ns) : ∃ C dx fs, Fam3 CO CR CW C ∧ H o = some (.ins C dx fs) ∧ (∀ m : Str, m ≠ "letters" → m ≠ "weights" → fs.lookup m = none) ∧ fs.lookup ("letters" : Str) = some (V.str (tx l)) := by
  have e1 : ∀ m : Str, m ≠ "letters" → (m == ("letters" : Str)) = false := fun m hm => by simpa using hm
  have e2 : ∀ m : Str, m ≠ "weights" → (m == ("weights" : Str)) = false := fun m hm => by simpa using hm
  obtain ⟨dx, ⟨h1, h2⟩ | ⟨h1, h2⟩ | ⟨h1, h2, w, h3, h4⟩⟩ := h
  · exact ⟨_, _, _, .inl rfl, h2, fun m hm _ => by simp [List.lookup, e1 m hm], rfl⟩
  · exact ⟨_, _, _, .inr (.inl rfl), h2, fun m hm _ => by simp [List.lookup, e1 m hm], rfl⟩
  · exact ⟨_, _, _, .inr (.inr rfl), h3, fun m hm hm2 => by simp [List.lookup, e1 m hm, e2 m hm2], rfl⟩
def sp_rank (CO CR CW : Addr) : Sp := fun vs H Q _ => ∃ (o : Addr) (k : Nat) (l : List Nat) (ns : List Int) (w : List Nat), vs = [.ref o, .str (tx w)] ∧ OrdAt CO CR CW H o k l ns ∧ OG l ns k ∧ w.length ≤ 1000 ∧ (∀ c ∈ w, c ∈ l) ∧ ∀ (p q : Addr) (H' : Hp), Same H H' → H' p = some (.tup [.int (weightOf k l ns w), .ref q]) → H' q = some (.lst ((rankL k l w).map V.int)) → Q (.ref p) H'
theorem comp_idx {H : Hp} {CO CR CW o D : Addr} {k : Nat} {l : List Nat} {ns : List Int} {v : List Nat} {a1 : Option V} {Q : VK} (T : TOrd K mg CO CR CW) (ho : OrdAt CO CR CW H o k l ns) (hl : v.length ≤ 1000) (hm : ∀ c ∈ v, c ∈ l) (hD : H D = none) (q : ∀ H', Same H H' → H' D = some (.lst ((idxs l v).map V.int)) → Q (.ref D) H') :
    CompS (tx v) (gName 0) tYes (tBM K "str" rIndex (tFld K (tVar 1) "letters") (tCons (tVar 0) tNil)) 1 [0] [some (.ref o), a1] H Q D := by
  have s16 := sl16
  refine CompS.by (fun i acc H' => Same H H' ∧ H' D = some (.lst acc) ∧ acc = (idxs l (v.take i)).map V.int) ⟨same_upd hD, upd_same, rfl⟩ ?_ ?_
  · rintro i c acc H' hc ⟨hs, hH, rfl⟩
    have hci := (List.getElem?_eq_some_iff.mp hc).1
    have hcl := hm c (List.mem_of_getElem? hc)
    obtain ⟨C, dx, fs, hf, ho', _, hlk⟩ := (ho.same hs).fam
    have hC : Cls K C ∧ NoAttr K C "letters" := by
      rcases hf with rfl | rfl | rfl
      · exact ⟨T.cO, T.lO⟩
      · exact ⟨T.cR, T.lR⟩
      · exact ⟨T.cW, T.lW⟩
    simp only [tYes]
    repeat (first | rfl' | simp only [tAlt, tMethF, rd_cz, tRev, rSum, rIndex])
    refine ⟨keeps0, _, _, _, ho', hC.1, hC.2, _, hlk, trivial, _, rfl, _, find_c hcl, hH, by rw [List.length_map]; unfold idxs; rw [List.length_map, List.length_take]; omega, CNx.mk hci ⟨same_over hs hD, upd_same, ?_⟩⟩
    unfold idxs
    rw [take_one hc, List.map_append, List.map_append]
    rfl
  · rintro acc H' ⟨hs, hH, rfl⟩
    rw [List.take_length] at hH
    exact q H' hs hH
theorem sc_order_rank : FnScope ["self", "word"] ["self", "word"] (defScope s_order_rank) := ⟨rfl, rfl, rfl, by decide +kernel, rfl, by decide +kernel, by decide +kernel⟩
theorem ok_order_rank {f CO CR CW : Addr} {fd : FuncData} (B : Bt mg) (T : TWS P w K mg base CO CR CW) (F : Fun K "rank" "Order.rank" s_order_rank f fd)  : FnOk P w K mg base CX0 2 f fd ["self", "word"] (sp_rank CO CR CW) := by
  refine F.ok sc_order_rank (fun vs H Q E h => ?_) (fun cdv A outer s H vs Q E hr h => ?_)
  · obtain ⟨o, k, l, ns, w, rfl, _⟩ := h
    rfl
  · obtain ⟨o, k, l, ns, w, rfl, ho, hG, hw, hm, q⟩ := h
    refine ⟨_, (pss_one (ps_ret (pe_tup (pa_cons (me1_3 T.wO T.wR T.wW' T.cO T.cR T.cW hr (pv 0) (pa_cons (pv 1) pa_nil)) (pa_cons (pe_comp (own := ["letter"]) (caps := ["self"]) (ix := [0]) (tt := tYes) (te := (tBM K "str" rIndex (tFld K (tVar 1) "letters") (tCons (tVar 0) tNil))) rfl (compOk_of (sc := defScope s_order_rank) rfl (by decide +kernel) (by decide +kernel) (by decide +kernel) rfl (by decide +kernel) (by decide +kernel) rfl) (pi_str (me1_3 T.sO T.sR T.sW T.cO T.cR T.cW hr (pv 0) (pa_cons (pv 1) pa_nil))) (fun _ _ _ _ _ _ => pg_name (i := 0) (show List.Nodup [_, _] by decide) rfl (Or.inl rfl)) (fun _ _ _ _ _ _ => pts_nil) (fun _ _ _ _ _ _ => (pe_bm PySem.F.plainAttrs_str PySem.F.slot_str_index PySem.F.type_str_index m_index (pe_fld (pv 1) rfl) (pa_cons (pv 0) pa_nil)))) pa_nil))))), ?_⟩
    have s16 := sl16
    have hsl : (seenOf k w).length ≤ 1000 := by
      unfold seenOf
      split
      · rw [List.length_reverse]
        exact hw
      · exact hw
    have hsm : ∀ c ∈ seenOf k w, c ∈ l := fun c hc => by
      unfold seenOf at hc
      split at hc
      · exact hm c (List.mem_reverse.mp hc)
      · exact hm c hc
    have l6 : l.length ≤ 6 := (of_decide_eq_true hG.g).2.1
    have fin : ∀ H1, Same H H1 → ∀ D, H1 D = none → CompS (tx (seenOf k w)) (gName 0) tYes (tBM K "str" rIndex (tFld K (tVar 1) "letters") (tCons (tVar 0) tNil)) 1 [0] [some (.ref o), some (.str (tx w))] H1 (fun x5 H1 => 2 ≤ sizeLine ∧ ∀ p, H1 p = none → Q (.ref p) (upd H1 p (.tup [.int (weightOf k l ns w), x5]))) D := fun H1 s1 D hD => comp_idx T.toTOrd (ho.same s1) hsl hsm hD fun H' s' hH => ⟨by omega, fun p hp => q p D _ (s1.trans (s'.trans (same_upd hp))) upd_same (same_upd hp _ _ hH)⟩
    repeat (first | rfl' | simp only [tAlt, tMethF, rd_cz, tRev, rSum, rIndex])
    obtain ⟨dx', ⟨h1, h2⟩ | ⟨h1, h2⟩ | ⟨h1, h2, t', h3, h4⟩⟩ := id ho
    · have e1 : weightOf k l ns w = (w.length : Int) := by unfold weightOf; rw [if_neg (by omega)]
      have e2 : seenOf k w = w := by unfold seenOf; rw [if_neg (by omega)]
      rw [e1, e2] at fin
      exact .inl ⟨_, _, h2, rfl, o, w, rfl, hw, .inl ⟨_, _, h2, rfl, o, w, rfl, _, rfl, fin H (Same.refl _)⟩⟩
    · have e1 : weightOf k l ns w = (w.length : Int) := by unfold weightOf; rw [if_neg (by omega)]
      have e2 : seenOf k w = w.reverse := by unfold seenOf; rw [if_pos h1]
      rw [e1, e2] at fin
      exact .inr (.inl ⟨_, _, h2, rfl, o, w, rfl, hw, .inr (.inl ⟨_, _, h2, rfl, o, w, rfl, hw, _, rfl, fin H (Same.refl _)⟩)⟩)
    · have e1 : weightOf k l ns w = wsum l ns w := by unfold weightOf; rw [if_pos h1]
      have e2 : seenOf k w = w := by unfold seenOf; rw [if_neg (by omega)]
      rw [e1, e2] at fin
      exact .inr (.inr ⟨_, _, h3, rfl, o, dx', t', w, l, ns, rfl, hw, l6, hG.nl, hG.nb, h3, h4, fun H' s' => .inr (.inr ⟨_, _, s' _ _ h3, rfl, o, w, rfl, _, rfl, fin H' s'⟩)⟩)
/-- the order of words -/
def lessB (k : Nat) (l : List Nat) (ns : List Int) (u v : List Nat) : Bool := if weightOf k l ns u = weightOf k l ns v then ltI (rankL k l u) (rankL k l v) else decide (weightOf k l ns u < weightOf k l ns v)
abbrev DR (P : Program) (w : World) (K : PySem.W.Frag) (mg : Str → Option Value) (base : Heap) (CO CR CW : Addr) : Prop := DMF P w K mg base CX0 2 (Fam3 CO CR CW) "rank" ["self", "word"] (fun _ => sp_rank CO CR CW)
theorem is_rank {H : Hp} {p q : Addr} {z : Int} {ns : List Int} (hp : H p = some (.tup [.int z, .ref q])) (hq : H q = some (.lst (ns.map V.int))) : Is K H (.tup [.int z, .lst (ns.map L3.D.int)]) (.ref p) := by
  simp only [Is, Iss]
  exact ⟨p, _, rfl, SqT.of hp, _, _, rfl, rfl, _, _, rfl, ⟨q, _, rfl, SqL.of hq, Iss.ints ns⟩, rfl⟩
theorem ltI_irrefl : ∀ x : List Int, ltI x x = false
  | [] => rfl
  | a :: x => by
    rw [ltI, if_pos rfl]
    exact ltI_irrefl x
theorem lt_rank (a b : Int) (x y : List Int) : ltD (.tup [.int a, .lst (x.map L3.D.int)]) (.tup [.int b, .lst (y.map L3.D.int)]) = if a = b then ltI x y else decide (a < b) := by
  simp only [ltD, ltDs, eqD, eqDs_ints, ltDs_ints]
  by_cases h : a = b
  · subst h
    by_cases h2 : x = y
    · subst h2
      simp [ltI_irrefl]
    · simp [h2]
  · simp [h]
def cellAt (ns : List Int) (k : Int) : Int := ns.getD k.toNat 0
def sp_cell_at (K : PySem.W.Frag) : Sp := fun vs H Q _ => ∃ a ns k, vs = [.ref a, .int k] ∧ SqL K H a (ns.map V.int) ∧ 0 ≤ k ∧ Q (.int (cellAt ns k)) H
theorem sc_cell_at : FnScope ["_law_script", "_law_k"] ["_law_script", "_law_k"] (defScope s_cell_at) := ⟨rfl, rfl, rfl, by decide +kernel, rfl, by decide +kernel, by decide +kernel⟩
theorem ok_cell_at {f : Addr} {fd : FuncData} (B : Bt mg) (F : Fun K "_law_cell_at" "_law_cell_at" s_cell_at f fd) : FnOk P w K mg base CX0 1 f fd ["_law_script", "_law_k"] (sp_cell_at K) := by
  refine F.ok sc_cell_at (fun vs H Q E h => ?_) (fun cdv A outer s H vs Q E hr h => ?_)
  · obtain ⟨a, ns, k, rfl, _⟩ := h
    rfl
  · obtain ⟨a, ns, k, rfl, hS, hk, q⟩ := h
    refine ⟨_, (pss_cons (ps_if (pt_cmpR op_ltA (pv 1) (pe_callB c_len rfl B.len PySem.boot_len (pa_cons (pv 0) pa_nil)) (nomark _))
        (pss_one (ps_ret (pe_ix ix_seq (pv 0) (pv 1) (fun _ _ => rfl))))
        pss_nil)
      (pss_one (ps_ret pe_int))), ?_⟩
    rfl'
    refine ⟨_, .inl ⟨_, hS, rfl⟩, ite2 (fun c => ?_) (fun c => ?_)⟩
    · obtain ⟨v, h1, h2⟩ := atI_of hk c
      refine .inl ⟨_, hS, _, h1, ?_⟩
      rw [List.getElem?_map] at h2
      unfold cellAt at q
      rw [List.getD_eq_getElem?_getD] at q
      cases e : ns[k.toNat]? with
      | none => rw [e] at h2; cases h2
      | some z => rw [e] at h2 q; cases h2; exact q
    · rw [List.length_map] at c
      unfold cellAt at q
      rw [List.getD_eq_getElem?_getD, List.getElem?_eq_none (by omega)] at q
      exact q
theorem use_cell {a : Addr} {ns : List Int} {k : Int} {H : Hp} {Q : VK} {E : XK} (hS : SqL K H a (ns.map V.int)) (hk : 0 ≤ k) (h : Q (.int (cellAt ns k)) H) : sp_cell_at K [.ref a, .int k] H Q E := ⟨a, ns, k, rfl, hS, hk, h⟩
def sp_word : Sp := fun vs H Q _ => ∃ (ls : List Nat) (c m : Int), vs = [.str (tx ls), .int c, .int m] ∧ 1 ≤ ls.length ∧ ls.length ≤ 26 ∧ 0 ≤ m ∧ m ≤ 1000 ∧ ∀ l : List Nat, (l.length : Int) = m → (∀ x ∈ l, x ∈ ls) → Q (.str (tx l)) H
theorem use_word {ls : List Nat} {c m : Int} {H : Hp} {Q : VK} {E : XK} (h1 : 1 ≤ ls.length) (h2 : ls.length ≤ 26) (h3 : 0 ≤ m) (h4 : m ≤ 1000) (h : ∀ l : List Nat, (l.length : Int) = m → (∀ x ∈ l, x ∈ ls) → Q (.str (tx l)) H) : sp_word [.str (tx ls), .int c, .int m] H Q E :=
  ⟨ls, c, m, rfl, h1, h2, h3, h4, h⟩
theorem sc_word : FnScope ["_law_letters_here", "_law_cell", "_law_size", "_law_number", "_law_found", "_law_k"] ["_law_letters_here", "_law_cell", "_law_size"] (defScope s_word) := ⟨rfl, rfl, rfl, by decide +kernel, rfl, by decide +kernel, by decide +kernel⟩
theorem ok_word {f : Addr} {fd : FuncData} (B : Bt mg)  (F : Fun K "_law_word" "_law_word" s_word f fd)  : FnOk P w K mg base CX0 1 f fd ["_law_letters_here", "_law_cell", "_law_size"] sp_word := by
  refine F.ok sc_word (fun vs H Q E h => ?_) (fun cdv A outer s H vs Q E hr h => ?_)
  · obtain ⟨ls, c, m, rfl, _⟩ := h
    rfl
  · obtain ⟨ls, c, m, rfl, h1, h2, h3, h4, q⟩ := h
    refine ⟨_, (pss_cons (ps_set (i := 3) sc_word.nd rfl (Or.inl rfl) (pe_op op_addA (pe_op op_mod (pv 1) pe_int) pe_int))
      (pss_cons (ps_set (i := 4) sc_word.nd rfl (Or.inl rfl) pe_str)
      (pss_cons (ps_for PassesOwn.never rfl (pi_range1 rfl B.range (pa_cons (pv 2) pa_nil)) (pg_name (i := 5) sc_word.nd rfl (Or.inl rfl))
        (pss_cons (ps_set (i := 3) sc_word.nd rfl (Or.inl rfl) (pe_op op_mod (pe_op op_mulA (pv 3) pe_int) pe_int))
        (pss_one (ps_set (i := 4) sc_word.nd rfl (Or.inl rfl) (pe_op op_addA (pv 4) (pe_ix ix_str (pv 0) (pe_op op_mod (pe_op op_fdiv (pv 3) pe_int) (pe_callB c_len rfl B.len PySem.boot_len (pa_cons (pv 0) pa_nil))) (fun _ _ => rfl)))))))
      (pss_one (ps_ret (pv 4)))))), ?_⟩
    have s16 := sl16
    rfl'
    have e0 : (("" : Str)) = tx [] := rfl
    simp only [e0]
    refine ⟨by decide, by omega, by omega, ForR.by (fun i σ H' => H' = H ∧ ∃ (found : List Nat) (number : Int) (v5 : Option V), σ = [some (.str (tx ls)), some (.int c), some (.int m), some (.int number), some (.str (tx found)), v5] ∧ found.length = i ∧ ∀ x ∈ found, x ∈ ls)
      ⟨rfl, [], _, none, rfl, rfl, fun x h => (nomatch h)⟩ ?_ ?_⟩
    · rintro i σ H' hi ⟨rfl, found, number, v5, rfl, hf, hm⟩
      rfl'
      have hm0 := Int.emod_nonneg (number * 48271 % 2147483647 / 16) (b := (ls.length : Int)) (by omega)
      have hm1 := Int.emod_lt_of_pos (number * 48271 % 2147483647 / 16) (b := (ls.length : Int)) (by omega)
      obtain ⟨v, e1, e2⟩ := atI_of hm0 hm1
      refine ⟨.inr ⟨by decide, by decide⟩, by decide, ⟨by decide, by decide⟩, by omega, by omega, by omega, v, e1, by omega, by rw [List.length_append, hf]; rfl, fun x hx => ?_⟩
      rcases List.mem_append.mp hx with h | h
      · exact hm x h
      · rw [List.mem_singleton.mp h]
        exact List.mem_of_getElem? e2
    · rintro σ H' ⟨rfl, found, number, v5, rfl, hf, hm⟩
      rfl'
      exact q found (by omega) hm
def sp_weights : Sp := fun vs H Q _ => ∃ (c m : Int), vs = [.int c, .int m] ∧ 0 ≤ m ∧ m ≤ 100 ∧ ∀ (D : Addr) (ns : List Int) (H' : Hp), (ns.length : Int) = m → (∀ n ∈ ns, 1 ≤ n ∧ n ≤ 1000000) → Same H H' → H' D = some (.lst (ns.map V.int)) → Q (.ref D) H'
theorem four_at {z : Int} (h : 0 ≤ z) (h4 : z < 4) : ∃ x : Int, atI [V.int 3, V.int 3, V.int 40, V.int 1000000] z = some (.int x) ∧ 1 ≤ x ∧ x ≤ 1000000 := by
  obtain ⟨n, rfl⟩ := Int.eq_ofNat_of_zero_le h
  have hn : n < 4 := by omega
  rcases n with _ | _ | _ | _ | n
  · exact ⟨3, rfl, by decide, by decide⟩
  · exact ⟨3, rfl, by decide, by decide⟩
  · exact ⟨40, rfl, by decide, by decide⟩
  · exact ⟨1000000, rfl, by decide, by decide⟩
  · omega
theorem sc_weights : FnScope ["_law_cell", "_law_many", "_law_number", "_law_found", "_law_k"] ["_law_cell", "_law_many"] (defScope s_weights) := ⟨rfl, rfl, rfl, by decide +kernel, rfl, by decide +kernel, by decide +kernel⟩
theorem ok_weights {f : Addr} {fd : FuncData} (B : Bt mg)  (F : Fun K "_law_weights" "_law_weights" s_weights f fd)  : FnOk P w K mg base CX0 1 f fd ["_law_cell", "_law_many"] sp_weights := by
  refine F.ok sc_weights (fun vs H Q E h => ?_) (fun cdv A outer s H vs Q E hr h => ?_)
  · obtain ⟨c, m, rfl, _⟩ := h
    rfl
  · obtain ⟨c, m, rfl, h0, h1, q⟩ := h
    refine ⟨_, (pss_cons (ps_set (i := 2) sc_weights.nd rfl (Or.inl rfl) (pe_op op_addA (pe_op op_mod (pv 0) pe_int) pe_int))
      (pss_cons (ps_set (i := 3) sc_weights.nd rfl (Or.inl rfl) (pe_lst pa_nil))
      (pss_cons (ps_for PassesOwn.never rfl (pi_range1 rfl B.range (pa_cons (pv 1) pa_nil)) (pg_name (i := 4) sc_weights.nd rfl (Or.inl rfl))
        (pss_cons (ps_set (i := 2) sc_weights.nd rfl (Or.inl rfl) (pe_op op_mod (pe_op op_mulA (pv 2) pe_int) pe_int))
        (pss_one (ps_expr (pe_bm PySem.F.plainAttrs_list PySem.F.slot_list_append PySem.F.type_list_append mt_append (pv 3) (pa_cons (pe_op op_addA pe_int (pe_op op_mod (pe_op op_fdiv (pv 2) pe_int) (pe_ix ix_list (pe_lst (pa_cons pe_int (pa_cons pe_int (pa_cons pe_int (pa_cons pe_int pa_nil))))) (pe_op op_mod (pv 0) pe_int) (fun _ _ => rfl)))) pa_nil))))))
      (pss_one (ps_ret (pv 3)))))), ?_⟩
    have s16 := sl16
    rfl'
    refine ⟨by decide, by omega, fun p hp => ⟨by omega, by omega, ForR.by (fun i σ H' => Same H H' ∧ ∃ (ns : List Int) (number : Int) (v4 : Option V), σ = [some (.int c), some (.int m), some (.int number), some (.ref p), v4] ∧ H' p = some (.lst (ns.map V.int)) ∧ ns.length = i ∧ ∀ n ∈ ns, 1 ≤ n ∧ n ≤ 1000000)
      ⟨same_upd hp, [], _, none, rfl, upd_same, rfl, fun x h => (nomatch h)⟩ ?_ ?_⟩⟩
    · rintro i σ H' hi ⟨hs, ns, number, v4, rfl, hH, hl, hb⟩
      obtain ⟨x, ex, x1, x2⟩ := four_at (Int.emod_nonneg c (b := 4) (by decide)) (Int.emod_lt_of_pos c (b := 4) (by decide))
      rfl'
      have y0 := Int.emod_nonneg (number * 48271 % 2147483647 / 16) (b := x) (by omega)
      have y1 := Int.emod_lt_of_pos (number * 48271 % 2147483647 / 16) (b := x) (by omega)
      refine ⟨.inr ⟨by decide, by decide⟩, by decide, .inl ⟨_, SqL.of hH⟩, ⟨by decide, by decide⟩, by omega, fun p1 hp1 => ⟨by decide, _, SqL.of upd_same, _, ex, x, rfl, by omega, _, same_upd hp1 _ _ hH, by rw [List.length_map]; omega, same_over (hs.trans (same_upd hp1)) hp, ns ++ [1 + number * 48271 % 2147483647 / 16 % x], by rw [upd_same, List.map_append]; rfl, by rw [List.length_append, hl]; rfl, fun n hn => ?_⟩⟩
      rcases List.mem_append.mp hn with h | h
      · exact hb n h
      · rw [List.mem_singleton.mp h]
        omega
    · rintro σ H' ⟨hs, ns, number, v4, rfl, hH, hl, hb⟩
      rfl'
      exact q p ns H' (by omega) hb hs hH
theorem mkCx {X : Cx} {E : XK} {k j : Nat} {C : Addr} {ps : List Str} {sp : Sp} {e : Expr} {es : List Expr} {t : TA} {pos p : Pos} {x : Str} (hx : XE X E) (D : DMk X.prog X.w X.K X.mg X.base (CXx X.prog X.w) k C ps sp) (hr : Room j X.A) (hg : Gl X x) (hm : X.mg x = some (.ref C)) (ha : PA X (e :: es) t) (hdb : (x == ("__debug__" : Str)) = false := by decide) (he : starEach (e :: es) X.env = (false, eval e X.env) :: starEach es X.env := by rfl)
    (hpl : (backTo pos (starEach es X.env)).any (·.1) = false := by rfl) (hj : k + 1 ≤ j := by decide) : PE X (.Call (.Name x p) (e :: es) [] pos) (tMake C sp [] E t) := by
  obtain ⟨f, fd, M, F, hb⟩ := D.ex
  exact pe_make M F (hr.mono hj) hg hm hb .nil (passes_x hx) ha hdb he hpl
def sp_order (K : PySem.W.Frag) (CO CR CW : Addr) : Sp := fun vs H Q _ => ∃ (z : Int) (l : List Nat) (D : Addr) (ws : List Int), vs = [.int z, .str (tx l), .ref D] ∧ 0 ≤ z ∧ z < 3 ∧ goodB l = true ∧ H D = some (.lst (ws.map V.int)) ∧ ws.length = l.length ∧ (∀ n ∈ ws, 1 ≤ n ∧ n ≤ 1000000) ∧ ∀ (o : Addr) (H' : Hp), Same H H' → OrdAt CO CR CW H' o z.toNat l ws → Q (.ref o) H'
theorem sc_order : FnScope ["_law_kind", "_law_letters_here", "_law_weights_here"] ["_law_kind", "_law_letters_here", "_law_weights_here"] (defScope s_order) := ⟨rfl, rfl, rfl, by decide +kernel, rfl, by decide +kernel, by decide +kernel⟩
theorem ok_order {f CO CR CW : Addr} {fd : FuncData} (B : Bt mg) (T : TWS P w K mg base CO CR CW) (F : Fun K "_law_order" "_law_order" s_order f fd)  : FnOk P w K mg base CX0 6 f fd ["_law_kind", "_law_letters_here", "_law_weights_here"] (sp_order K CO CR CW) := by
  refine F.ok sc_order (fun vs H Q E h => ?_) (fun cdv A outer s H vs Q E hr h => ?_)
  · obtain ⟨z, l, D, ws, rfl, _⟩ := h
    rfl
  · obtain ⟨z, l, D, ws, rfl, z0, z3, hg, hD, hwl, hwb, q⟩ := h
    refine ⟨_, (pss_cons (ps_if (pt_cmpR op_eq (pv 0) pe_int (nomark _))
        (pss_one (ps_ret (mkC T.mR hr rfl T.gR (pa_cons (pv 1) pa_nil))))
        pss_nil)
      (pss_cons (ps_if (pt_cmpR op_eq (pv 0) pe_int (nomark _))
        (pss_one (ps_ret (mkCx xe0 T.mW hr rfl T.gW (pa_cons (pv 1) (pa_cons (pe_callTy call_list_of rfl B.list PySem.Pv.boot_list (pa_cons (pv 2) pa_nil)) pa_nil)))))
        pss_nil)
      (pss_one (ps_ret (mkC T.mO hr rfl T.gO (pa_cons (pv 1) pa_nil)))))), ?_⟩
    have s16 := sl16
    repeat (first | rfl' | simp only [tAlt, tMethF, rd_cz, tRev, rSum, rIndex])
    refine ite2 (fun h1 => ?_) fun h1 => ite2 (fun h2 => ?_) fun h2 => ?_
    · intro x dx hx hdx hne
      have sd := same_upd (o := .own x) hdx
      refine ⟨x, CR, dx, l, rfl, hg, T.cR, T.lR, upd_same, rfl, q x _ (fun b o' e => ?_) ⟨dx, .inr (.inl ⟨by rw [h1]; rfl, upd_same⟩)⟩⟩
      rw [upd_ne (ne_of_none e hx), upd_ne (ne_of_none e hx)]
      exact sd _ _ e
    · refine ⟨_, .inl (SqL.of hD), fun E1 hE => ?_⟩
      have se := same_upd (o := .lst (ws.map V.int)) hE
      intro x dx hx hdx hne
      have sd := same_upd (o := .own x) hdx
      have k1 : ∀ b o', (upd H E1 (.lst (ws.map V.int))) b = some o' → (upd (upd (upd H E1 (.lst (ws.map V.int))) dx (.own x)) x (.ins CW dx [])) b = some o' := fun b o' e => by
        rw [upd_ne (ne_of_none e hx)]
        exact sd _ _ e
      exact ⟨x, dx, E1, l, ws, rfl, hg, SqL.of (k1 _ _ upd_same), hwl, hwb, upd_same, fun w H' hw hwx kp ht hx' => ⟨rfl, q x _ (fun b o' e => kp b o' (ne_of_none (se _ _ e) hx) (k1 b o' (se _ _ e))) ⟨dx, .inr (.inr ⟨by rw [h2]; rfl, hwl, w, hx', ht⟩)⟩⟩⟩
    · intro x dx hx hdx hne
      have sd := same_upd (o := .own x) hdx
      refine ⟨x, CO, dx, l, rfl, hg, T.cO, T.lO, upd_same, rfl, q x _ (fun b o' e => ?_) ⟨dx, .inl ⟨by omega, upd_same⟩⟩⟩
      rw [upd_ne (ne_of_none e hx), upd_ne (ne_of_none e hx)]
      exact sd _ _ e
def dueW (k : Int) (ls : List Nat) (ns : List Int) (w : List Nat) : Int := (w.map fun c => if k = 2 then ns.getD (ls.idxOf c) 0 else 1).sum
def dueS (k : Int) (w : List Nat) : List Nat := if k = 1 then w.reverse else w
theorem dueW_one {k : Int} {ls : List Nat} {ns : List Int} {w : List Nat} (h : k ≠ 2) : dueW k ls ns w = (w.length : Int) := by
  unfold dueW
  induction w with
  | nil => rfl
  | cons c w ih =>
    rw [List.map_cons, List.sum_cons, ih, if_neg h, List.length_cons]
    omega
theorem zip_sum_add {ls : List Nat} {ns : List Int} (f g : Nat → Int) : ((ls.zip ns).map fun p => (f p.1 + g p.1) * p.2).sum = ((ls.zip ns).map fun p => f p.1 * p.2).sum + ((ls.zip ns).map fun p => g p.1 * p.2).sum := by
  induction ls.zip ns with
  | nil => rfl
  | cons p r ih =>
    rw [List.map_cons, List.map_cons, List.map_cons, List.sum_cons, List.sum_cons, List.sum_cons, ih, Int.add_mul]
    omega
theorem zip_one : ∀ {ls : List Nat} {ns : List Int} {c : Nat}, ls.Nodup → ns.length = ls.length → c ∈ ls → ((ls.zip ns).map fun p => (if p.1 = c then (1 : Int) else 0) * p.2).sum = ns.getD (ls.idxOf c) 0
  | [], ns, c, _, _, hc => (nomatch hc)
  | d :: ls, [], c, _, hl, _ => by cases hl
  | d :: ls, n :: ns, c, hn, hl, hc => by
    rw [List.zip_cons_cons, List.map_cons, List.sum_cons]
    have hnd := List.nodup_cons.mp hn
    by_cases h : d = c
    · subst h
      have h0 : ∀ (l : List Nat) (m : List Int), d ∉ l → ((l.zip m).map fun p => (if p.1 = d then (1 : Int) else 0) * p.2).sum = 0 := by
        intro l
        induction l with
        | nil => intro m _; rfl
        | cons x l ih =>
          intro m hx
          cases m with
          | nil => rfl
          | cons y m =>
            rw [List.zip_cons_cons, List.map_cons, List.sum_cons, ih m (fun q => hx (List.mem_cons_of_mem _ q)), if_neg (show ¬ x = d from fun e => hx (by rw [e]; exact List.mem_cons_self))]
            omega
      rw [h0 ls ns hnd.1, if_pos rfl, List.idxOf_cons_self]
      simp
    · have hc' : c ∈ ls := by
        rcases List.mem_cons.mp hc with e | e
        · exact absurd e.symm h
        · exact e
      rw [zip_one hnd.2 (by simpa using hl) hc', if_neg h, List.idxOf_cons, show (d == c) = false by simpa using h]
      simp
theorem dueW_two {ls : List Nat} {ns : List Int} (hn : ls.Nodup) (hl : ns.length = ls.length) : ∀ {w : List Nat}, (∀ x ∈ w, x ∈ ls) → dueW 2 ls ns w = wsum ls ns w
  | [], _ => by
    have h0 : ∀ r : List (Nat × Int), (r.map fun p => ((([] : List Nat).count p.1 : Nat) : Int) * p.2).sum = 0 := by
      intro r
      induction r with
      | nil => rfl
      | cons p r ih => rw [List.map_cons, List.sum_cons, ih]; simp
    exact (h0 _).symm
  | c :: w, h => by
    have ih := dueW_two hn hl (w := w) fun x hx => h x (List.mem_cons_of_mem _ hx)
    have e1 : dueW 2 ls ns (c :: w) = ns.getD (ls.idxOf c) 0 + dueW 2 ls ns w := by
      unfold dueW
      rw [List.map_cons, List.sum_cons, if_pos rfl]
    rw [e1, ih, ← zip_one hn hl (h c List.mem_cons_self)]
    unfold wsum
    rw [← zip_sum_add (fun x => if x = c then 1 else 0) (fun x => (w.count x : Int))]
    refine congrArg List.sum (List.map_congr_left fun p _ => ?_)
    rw [List.count_cons]
    by_cases e : c = p.1
    · rw [if_pos e.symm, if_pos (by simpa using e)]
      simp [Int.add_comm]
    · rw [if_neg (fun z => e z.symm), if_neg (by simpa using e)]
      simp
def sp_lrank : Sp := fun vs H Q _ => ∃ (k : Int) (ls : List Nat) (a : Addr) (ns : List Int) (w : List Nat), vs = [.int k, .str (tx ls), .ref a, .str (tx w)] ∧ H a = some (.lst (ns.map V.int)) ∧ ns.length = ls.length ∧ ls.length ≤ 26 ∧ w.length ≤ 1000 ∧ (∀ x ∈ w, x ∈ ls) ∧ ∀ (p q : Addr) (H' : Hp), Same H H' → H q = none → H' p = some (.tup [.int (dueW k ls ns w), .ref q]) → H' q = some (.lst ((idxs ls (dueS k w)).map V.int)) → Q (.ref p) H'
theorem sc_rank : FnScope ["_law_kind", "_law_letters_here", "_law_weights_here", "_law_word_here", "_law_total", "_law_spots", "_law_sign", "_law_at"] ["_law_kind", "_law_letters_here", "_law_weights_here", "_law_word_here"] (defScope s_rank) := ⟨rfl, rfl, rfl, by decide +kernel, rfl, by decide +kernel, by decide +kernel⟩
theorem ok_rank {f : Addr} {fd : FuncData} (B : Bt mg)  (F : Fun K "_law_rank" "_law_rank" s_rank f fd)  : FnOk P w K mg base CX0 1 f fd ["_law_kind", "_law_letters_here", "_law_weights_here", "_law_word_here"] sp_lrank := by
  refine F.ok sc_rank (fun vs H Q E h => ?_) (fun cdv A outer s H vs Q E hr h => ?_)
  · obtain ⟨k, ls, a, ns, w, rfl, _⟩ := h
    rfl
  · obtain ⟨k, ls, a, ns, w, rfl, ha, hl, h26, hw, hm, q⟩ := h
    refine ⟨_, (pss_cons (ps_set (i := 4) sc_rank.nd rfl (Or.inl rfl) pe_int)
      (pss_cons (ps_set (i := 5) sc_rank.nd rfl (Or.inl rfl) (pe_lst pa_nil))
      (pss_cons (ps_for PassesOwn.never rfl (pi_str (pv 3)) (pg_name (i := 6) sc_rank.nd rfl (Or.inl rfl))
        (pss_cons (ps_set (i := 7) sc_rank.nd rfl (Or.inl rfl) (pe_bm PySem.F.plainAttrs_str PySem.F.slot_str_find PySem.F.type_str_find m_find (pv 1) (pa_cons (pv 6) pa_nil)))
        (pss_cons (ps_set (i := 4) sc_rank.nd rfl (Or.inl rfl) (pe_op op_addA (pv 4) (pe_ifExp (pt_cmpR op_eq (pv 0) pe_int (nomark _)) (pe_ix ix_list (pv 2) (pv 7) (fun _ _ => rfl)) pe_int)))
        (pss_one (ps_if (pt_cmpR op_eq (pv 0) pe_int (nomark _))
          (pss_one (ps_expr (pe_bm PySem.F.plainAttrs_list PySem.F.slot_list_insert PySem.F.type_list_insert mt_ins0 (pv 5) (pa_cons pe_int (pa_cons (pv 7) pa_nil)))))
          (pss_one (ps_expr (pe_bm PySem.F.plainAttrs_list PySem.F.slot_list_append PySem.F.type_list_append mt_append (pv 5) (pa_cons (pv 7) pa_nil)))))))))
      (pss_one (ps_ret (pe_tup (pa_cons (pv 4) (pa_cons (pv 5) pa_nil)))))))), ?_⟩
    have s16 := sl16
    rfl'
    have eI : ∀ (u v : List Nat), idxs ls (u ++ v) = idxs ls u ++ idxs ls v := fun u v => List.map_append
    have il : ∀ u : List Nat, (idxs ls u).length = u.length := fun u => List.length_map ..
    have dl : ∀ u : List Nat, (dueS k u).length = u.length := fun u => by
      unfold dueS
      split
      · exact List.length_reverse
      · rfl
    refine ⟨by omega, fun D hD => ForS.by (fun i σ H' => Same H H' ∧ ∃ v6 v7, σ = [some (.int k), some (.str (tx ls)), some (.ref a), some (.str (tx w)), some (.int (dueW k ls ns (w.take i))), some (.ref D), v6, v7] ∧ H' D = some (.lst ((idxs ls (dueS k (w.take i))).map V.int))) ⟨same_upd hD, none, none, by simp [dueW], by rw [upd_same]; simp [dueS, idxs]⟩ ?_ ?_⟩
    · rintro i c σ H' hc ⟨hs, v6, v7, rfl, hH⟩
      have hmc := hm c (List.mem_of_getElem? hc)
      have hlt := List.idxOf_lt_length_of_mem hmc
      have hil := (List.getElem?_eq_some_iff.mp hc).1
      have eW : dueW k ls ns (w.take (i + 1)) = dueW k ls ns (w.take i) + (if k = 2 then ns.getD (ls.idxOf c) 0 else 1) := by
        unfold dueW
        rw [take_one hc, List.map_append, List.sum_append]
        simp
      have eS : dueS k (w.take (i + 1)) = if k = 1 then [c] ++ dueS k (w.take i) else dueS k (w.take i) ++ [c] := by
        unfold dueS
        rw [take_one hc]
        by_cases h : k = 1
        · rw [if_pos h, if_pos h, if_pos h, List.reverse_append]
          rfl
        · rw [if_neg h, if_neg h, if_neg h]
      have hz : ((idxs ls (dueS k (w.take i))).map V.int).length < sizeLine := by
        rw [List.length_map, il, dl, List.length_take]
        omega
      rw [eW, eS]
      have ea : atI (ns.map V.int) ((ls.idxOf c : Nat) : Int) = some (.int (ns.getD (ls.idxOf c) 0)) := by
        refine atI_nat ?_
        rw [List.getElem?_map, List.getD_eq_getElem?_getD, List.getElem?_eq_getElem (by omega)]
        rfl
      have e1 : ∀ h : k = 1, (V.int ((ls.idxOf c : Nat) : Int) :: (idxs ls (dueS k (w.take i))).map V.int) = (idxs ls (if k = 1 then [c] ++ dueS k (w.take i) else dueS k (w.take i) ++ [c])).map V.int := fun h => by
        rw [if_pos h]
        rfl
      have e2 : ∀ h : ¬ k = 1, ((idxs ls (dueS k (w.take i))).map V.int ++ [V.int ((ls.idxOf c : Nat) : Int)]) = (idxs ls (if k = 1 then [c] ++ dueS k (w.take i) else dueS k (w.take i) ++ [c])).map V.int := fun h => by
        rw [if_neg h, eI, List.map_append]
        rfl
      generalize (if k = 1 then [c] ++ dueS k (w.take i) else dueS k (w.take i) ++ [c]) = S at e1 e2 ⊢
      rfl'
      rw [find_c hmc]
      refine ite2 (fun h2 => ⟨_, SqL.of (hs _ _ ha), _, ea, _, rfl, ite2 (fun h1 => ⟨.inl ⟨_, SqL.of hH⟩, _, _, _, rfl, rfl, hH, hz, same_over hs hD, by rw [if_pos h2], by rw [upd_same, e1 h1]⟩) fun h1 => ⟨.inl ⟨_, SqL.of hH⟩, _, hH, hz, same_over hs hD, by rw [if_pos h2], by rw [upd_same, e2 h1]⟩⟩) fun h2 => ite2 (fun h1 => ⟨.inl ⟨_, SqL.of hH⟩, _, _, _, rfl, rfl, hH, hz, same_over hs hD, by rw [if_neg h2], by rw [upd_same, e1 h1]⟩) fun h1 => ⟨.inl ⟨_, SqL.of hH⟩, _, hH, hz, same_over hs hD, by rw [if_neg h2], by rw [upd_same, e2 h1]⟩
    · rintro σ H' ⟨hs, v6, v7, rfl, hH⟩
      rw [List.take_length] at hH ⊢
      rfl'
      exact ⟨by omega, fun p hp => q p D _ (hs.trans (same_upd hp)) hD upd_same (same_upd hp _ _ hH)⟩
abbrev HMin (mg : Str → Option Value) : Prop := mg "min" = none
def rMin2 : List V → Hp → VK → Prop := fun xs H Q => ∃ i j, xs = [.int i, .int j] ∧ Q (.int (if j < i then j else i)) H
theorem c_min2 {X : Cx} (hc : X.calm = true) : CallR X (.builtin "min") rMin2 := call_min2 hc
def ltP : List Int → List Int → Bool
  | a :: l, b :: m => if a = b then ltP l m else decide (a < b)
  | _, _ => false
def sp_lless : Sp := fun vs H Q _ => ∃ (p q p' q' : Addr) (a b : Int) (x y : List Int), vs = [.ref p, .ref p'] ∧ H p = some (.tup [.int a, .ref q]) ∧ H q = some (.lst (x.map V.int)) ∧ H p' = some (.tup [.int b, .ref q']) ∧ H q' = some (.lst (y.map V.int)) ∧ x.length ≤ 1000 ∧ y.length ≤ 1000 ∧ Q (.bl (if a = b then ltP x y else decide (a < b))) H
theorem ltP_end {x y : List Int} {m : Nat} (h : m = x.length ∨ m = y.length) (h2 : ltP x y = ltP (x.drop m) (y.drop m)) : ltP x y = false := by
  rw [h2]
  rcases h with rfl | rfl
  · rw [List.drop_length]
    cases y.drop x.length <;> rfl
  · rw [List.drop_length]
    cases x.drop y.length <;> rfl
theorem atI_map {x : List Int} {i : Nat} (h : i < x.length) : atI (x.map V.int) ((i : Nat) : Int) = some (.int x[i]) := by
  refine atI_nat ?_
  rw [List.getElem?_map, List.getElem?_eq_getElem h]
  rfl
theorem sc_less : FnScope ["_law_one", "_law_other_here", "_law_k"] ["_law_one", "_law_other_here"] (defScope s_less) := ⟨rfl, rfl, rfl, by decide +kernel, rfl, by decide +kernel, by decide +kernel⟩
theorem ok_less {f : Addr} {fd : FuncData} (B : Bt mg) (hmin : HMin mg) (F : Fun K "_law_less" "_law_less" s_less f fd)  : FnOk P w K mg base CX0 1 f fd ["_law_one", "_law_other_here"] sp_lless := by
  refine F.ok sc_less (fun vs H Q E h => ?_) (fun cdv A outer s H vs Q E hr h => ?_)
  · obtain ⟨p, q, p', q', a, b, x, y, rfl, _⟩ := h
    rfl
  · obtain ⟨p, q, p', q', a, b, x, y, rfl, hp, hq, hp', hq', hx, hy, k⟩ := h
    refine ⟨_, (pss_cons (ps_if (pt_cmpR op_ne (pe_ix ix_tup (pv 0) pe_int (fun _ _ => rfl)) (pe_ix ix_tup (pv 1) pe_int (fun _ _ => rfl)) (nomark _))
        (pss_one (ps_ret (pe_cmpR op_ltA (pe_ix ix_tup (pv 0) pe_int (fun _ _ => rfl)) (pe_ix ix_tup (pv 1) pe_int (fun _ _ => rfl)) (nomark _))))
        pss_nil)
      (pss_cons (ps_for PassesOwn.never rfl (pi_range1 rfl B.range (pa_cons (pe_callB (c_min2 rfl) rfl hmin PyProof.Rows.boot_min (pa_cons (pe_callB c_len rfl B.len PySem.boot_len (pa_cons (pe_ix ix_tup (pv 0) pe_int (fun _ _ => rfl)) pa_nil)) (pa_cons (pe_callB c_len rfl B.len PySem.boot_len (pa_cons (pe_ix ix_tup (pv 1) pe_int (fun _ _ => rfl)) pa_nil)) pa_nil))) pa_nil)) (pg_name (i := 2) sc_less.nd rfl (Or.inl rfl))
        (pss_one (ps_if (pt_cmpR op_ne (pe_ix ix_list (pe_ix ix_tup (pv 0) pe_int (fun _ _ => rfl)) (pv 2) (fun _ _ => rfl)) (pe_ix ix_list (pe_ix ix_tup (pv 1) pe_int (fun _ _ => rfl)) (pv 2) (fun _ _ => rfl)) (nomark _))
          (pss_one (ps_ret (pe_cmpR op_ltA (pe_ix ix_list (pe_ix ix_tup (pv 0) pe_int (fun _ _ => rfl)) (pv 2) (fun _ _ => rfl)) (pe_ix ix_list (pe_ix ix_tup (pv 1) pe_int (fun _ _ => rfl)) (pv 2) (fun _ _ => rfl)) (nomark _))))
          pss_nil)))
      (pss_one (ps_ret pe_bl)))), ?_⟩
    have s16 := sl16
    rfl'
    refine ⟨_, SqT.of hp, _, rfl, _, SqT.of hp', _, rfl, rfl, ite2 (fun h => ?_) fun h => ?_⟩
    · have h' : ¬ a = b := fun e => h (by rw [e])
      rw [if_neg h'] at k
      exact ⟨_, SqT.of hp, _, rfl, _, SqT.of hp', _, rfl, .inl ⟨_, rfl, _, rfl, k⟩⟩
    have h' : a = b := by
      have := Classical.not_not.mp h
      injection this
    rw [if_pos h'] at k
    obtain ⟨m, hm, hmo, hmx, hmy⟩ : ∃ m : Nat, (if (((y.map V.int).length : Nat) : Int) < (((x.map V.int).length : Nat) : Int) then (((y.map V.int).length : Nat) : Int) else (((x.map V.int).length : Nat) : Int)) = (m : Int) ∧ (m = x.length ∨ m = y.length) ∧ m ≤ x.length ∧ m ≤ y.length := by
      rw [List.length_map, List.length_map]
      by_cases e : (y.length : Int) < (x.length : Int)
      · exact ⟨y.length, by rw [if_pos e], .inr rfl, by omega, by omega⟩
      · exact ⟨x.length, by rw [if_neg e], .inl rfl, by omega, by omega⟩
    refine ⟨_, SqT.of hp, _, rfl, _, .inl ⟨_, SqL.of hq, rfl⟩, _, SqT.of hp', _, rfl, _, .inl ⟨_, SqL.of hq', rfl⟩, _, _, rfl, ?_⟩
    rw [hm]
    refine ⟨_, rfl, by omega, by omega, ForR.by (fun i σ H' => H' = H ∧ ltP x y = ltP (x.drop i) (y.drop i) ∧ ∃ v2, σ = [some (.ref p), some (.ref p'), v2]) ⟨rfl, rfl, none, rfl⟩ ?_ ?_⟩
    · rintro i σ H' hi ⟨rfl, e, v2, rfl⟩
      have ix : i < x.length := by omega
      have iy : i < y.length := by omega
      rw [List.drop_eq_getElem_cons ix, List.drop_eq_getElem_cons iy, ltP] at e
      have z0 : (0 : Int) + (i : Int) = i := by omega
      rfl'
      rw [z0]
      refine ⟨_, SqT.of hp, _, rfl, _, rfl, _, SqL.of hq, _, atI_map ix, _, SqT.of hp', _, rfl, _, rfl, _, SqL.of hq', _, atI_map iy, rfl, ite2 (fun h => ?_) fun h => ?_⟩
      · have h2 : ¬ x[i] = y[i] := fun e => h (by rw [e])
        rw [if_neg h2] at e
        rw [e] at k
        exact ⟨_, SqT.of hp, _, rfl, _, rfl, _, SqL.of hq, _, atI_map ix, _, SqT.of hp', _, rfl, _, rfl, _, SqL.of hq', _, atI_map iy, .inl ⟨_, rfl, _, rfl, k⟩⟩
      · have h2 : x[i] = y[i] := by
          have := Classical.not_not.mp h
          injection this
        rw [if_pos h2] at e
        exact e
    · rintro σ H' ⟨rfl, e, v2, rfl⟩
      rfl'
      rw [ltP_end hmo (by simpa using e)] at k
      exact k
def sp_other : Sp := fun vs H Q _ => ∃ (ls w : List Nat) (c : Int), vs = [.str (tx ls), .str (tx w), .int c] ∧ 1 ≤ ls.length ∧ ls.length ≤ 26 ∧ w.length ≤ 100 ∧ (∀ x ∈ w, x ∈ ls) ∧ ∀ v : List Nat, (v.length ≤ w.length ∨ v.length ≤ 8) → (∀ x ∈ v, x ∈ ls) → Q (.str (tx v)) H
theorem sc_other : FnScope ["_law_letters_here", "_law_word_here", "_law_cell", "_law_size", "_law_way", "_law_at", "_law_sign", "_law_two"] ["_law_letters_here", "_law_word_here", "_law_cell"] (defScope s_other) := ⟨rfl, rfl, rfl, by decide +kernel, rfl, by decide +kernel, by decide +kernel⟩
theorem ok_other {f : Addr} {fd : FuncData} (B : Bt mg)  (F : Fun K "_law_other" "_law_other" s_other f fd) (D_word : Df P w K mg base CX0 1 "_law_word" ["_law_letters_here", "_law_cell", "_law_size"] [] sp_word) : FnOk P w K mg base CX0 2 f fd ["_law_letters_here", "_law_word_here", "_law_cell"] sp_other := by
  refine F.ok sc_other (fun vs H Q E h => ?_) (fun cdv A outer s H vs Q E hr h => ?_)
  · obtain ⟨ls, w, c, rfl, _⟩ := h
    rfl
  · obtain ⟨ls, w, c, rfl, l1, l26, hw, hm, q⟩ := h
    refine ⟨_, (pss_cut (ps_set (i := 3) sc_other.nd rfl (Or.inl rfl) (pe_callB c_len rfl B.len PySem.boot_len (pa_cons (pv 1) pa_nil)))
      (pss_cut (ps_set (i := 4) sc_other.nd rfl (Or.inl rfl) (pe_op op_mod (pv 2) pe_int))
      (pss_cut (ps_set (i := 5) sc_other.nd rfl (Or.inl rfl) (pe_op op_mod (pe_op op_fdiv (pv 2) pe_int) (pe_op op_addA (pv 3) pe_int)))
      (pss_cut (ps_if (pt_cmpR op_eq (pv 4) pe_int (nomark _))
        (pss_one (ps_ret (pe_op op_addA (pe_slice sl_any (pv 1) (po_some (pv 5)) po_none) (pe_slice sl_any (pv 1) po_none (po_some (pv 5))))))
        pss_nil)
      (pss_cut (ps_if (pt_cmpR op_eq (pv 4) pe_int (nomark _))
        (pss_one (ps_ret (pe_joinrev rfl rfl B.rev pe_str (pa_cons (pv 1) pa_nil))))
        pss_nil)
      (pss_cut (ps_if (PW.pt (pw_and (pt_cmpR op_eq (pv 4) pe_int (nomark _)) (pw_and1 (pt_cmpR op_ltA (pv 5) (pv 3) (nomark _)))))
        (pss_cut (ps_set (i := 6) sc_other.nd rfl (Or.inl rfl) (pe_ix ix_str (pv 0) (pe_op op_mod (pe_op op_fdiv (pv 2) pe_int) (pe_callB c_len rfl B.len PySem.boot_len (pa_cons (pv 0) pa_nil))) (fun _ _ => rfl)))
        (pss_one (ps_ret (pe_op op_addA (pe_op op_addA (pe_slice sl_any (pv 1) po_none (po_some (pv 5))) (pv 6)) (pe_slice sl_any (pv 1) (po_some (pe_op op_addA (pv 5) pe_int)) po_none)))))
        pss_nil)
      (pss_cut (ps_if (PW.pt (pw_and (pt_cmpR op_eq (pv 4) pe_int (nomark _)) (pw_and1 (pt_cmpR op_ltA (pe_op op_addA (pv 5) pe_int) (pv 3) (nomark _)))))
        (pss_cut (ps_set (i := 7) sc_other.nd rfl (Or.inl rfl) (pe_op op_addA (pe_ix ix_str (pv 1) (pe_op op_addA (pv 5) pe_int) (fun _ _ => rfl)) (pe_ix ix_str (pv 1) (pv 5) (fun _ _ => rfl))))
        (pss_one (ps_ret (pe_op op_addA (pe_op op_addA (pe_slice sl_any (pv 1) po_none (po_some (pv 5))) (pv 7)) (pe_slice sl_any (pv 1) (po_some (pe_op op_addA (pv 5) pe_int)) po_none)))))
        pss_nil)
      (pss_cut (ps_if (pt_cmpR op_eq (pv 4) pe_int (nomark _))
        (pss_one (ps_ret (pe_slice sl_any (pv 1) po_none (po_some (pv 5)))))
        pss_nil)
      (pss_cut (ps_if (pt_cmpR op_eq (pv 4) pe_int (nomark _))
        (pss_one (ps_ret (pe_slice sl_any (pv 1) (po_some (pv 5)) po_none)))
        pss_nil)
      (pss_cut (ps_if (pt_cmpR op_eq (pv 4) pe_int (nomark _))
        (pss_one (ps_ret (pv 1)))
        pss_nil)
      (pss_one (ps_ret (cl0 D_word hr .nil rfl (pa_cons (pv 0) (pa_cons (pv 2) (pa_cons (pe_op op_mod (pe_op op_fdiv (pv 2) pe_int) pe_int) pa_nil)))))))))))))))), ?_⟩
    have s16 := sl16
    have s16 := sl16
    have c1 : ∀ (k : Int), 0 ≤ k → ∀ x ∈ cut w none (some k), x ∈ ls := fun k hk x hx => hm x (by rw [cut_to _ hk] at hx; exact List.mem_of_mem_take hx)
    have c2 : ∀ (k : Int), 0 ≤ k → ∀ x ∈ cut w (some k) none, x ∈ ls := fun k hk x hx => hm x (by rw [cut_from _ hk] at hx; exact List.mem_of_mem_drop hx)
    have l1' : ∀ k : Nat, (cut w none (some (k : Int))).length = min k w.length := fun k => by rw [cut_to _ (by omega), List.length_take]; rfl
    have l2' : ∀ k : Nat, (cut w (some (k : Int)) none).length = w.length - k := fun k => by rw [cut_from _ (by omega), List.length_drop]; rfl
    have ap : ∀ {u v : List Nat}, (∀ x ∈ u, x ∈ ls) → (∀ x ∈ v, x ∈ ls) → ∀ x ∈ u ++ v, x ∈ ls := fun hu hv x hx => (List.mem_append.mp hx).elim (hu x) (hv x)
    refine cut_by (fun σ H' => H' = H ∧ σ = [some (.str (tx ls)), some (.str (tx w)), some (.int c), some (.int w.length), none, none, none, none]) ?_ ?_
    · rfl'
      omega
    rintro σ H1 ⟨rfl, rfl⟩
    refine cut_by (fun σ H' => H' = H1 ∧ σ = [some (.str (tx ls)), some (.str (tx w)), some (.int c), some (.int w.length), some (.int (c % 8)), none, none, none]) ?_ ?_
    · rfl'
      decide
    rintro σ H1 ⟨rfl, rfl⟩
    refine cut_by (fun σ H' => H' = H1 ∧ ∃ n : Nat, n ≤ w.length ∧ σ = [some (.str (tx ls)), some (.str (tx w)), some (.int c), some (.int w.length), some (.int (c % 8)), some (.int n), none, none]) ?_ ?_
    · rfl'
      have y0 := Int.emod_nonneg (c / 8) (b := (w.length : Int) + 1) (by omega)
      have y1 := Int.emod_lt_of_pos (c / 8) (b := (w.length : Int) + 1) (by omega)
      exact ⟨⟨by decide, by decide⟩, by omega, (c / 8 % ((w.length : Int) + 1)).toNat, by omega, by omega⟩
    rintro σ H1 ⟨rfl, n, hn, rfl⟩
    have a1 := l1' n
    have a2 := l2' n
    have a3 : (cut w (some ((n : Int) + 1)) none).length = w.length - (n + 1) := l2' (n + 1)
    have a4 : (cut w (some ((n : Int) + 2)) none).length = w.length - (n + 2) := l2' (n + 2)
    refine cut_by (fun σ H' => H' = H1 ∧ σ = [some (.str (tx ls)), some (.str (tx w)), some (.int c), some (.int w.length), some (.int (c % 8)), some (.int n), none, none]) ?_ ?_
    · rfl'
      exact ite2 (fun _ => ⟨by omega, by omega, by omega, q _ (.inl (by rw [List.length_append]; omega)) (ap (c2 _ (by omega)) (c1 _ (by omega)))⟩) fun _ => by trivial
    rintro σ H1 ⟨rfl, rfl⟩
    refine cut_by (fun σ H' => H' = H1 ∧ σ = [some (.str (tx ls)), some (.str (tx w)), some (.int c), some (.int w.length), some (.int (c % 8)), some (.int n), none, none]) ?_ ?_
    · rfl'
      simp only [tJrev]
      rfl'
      exact ite2 (fun _ => ⟨rfl, by omega, q _ (.inl (by rw [List.length_reverse]; omega)) fun x hx => hm x (List.mem_reverse.mp hx)⟩) fun _ => by trivial
    rintro σ H1 ⟨rfl, rfl⟩
    refine cut_by (fun σ H' => H' = H1 ∧ σ = [some (.str (tx ls)), some (.str (tx w)), some (.int c), some (.int w.length), some (.int (c % 8)), some (.int n), none, none]) ?_ ?_
    · rfl'
      refine ite2 (fun _ => ite2 (fun h3 => ?_) fun _ => by trivial) fun _ => by trivial
      have hm0 := Int.emod_nonneg (c / 64) (b := (ls.length : Int)) (by omega)
      have hm1 := Int.emod_lt_of_pos (c / 64) (b := (ls.length : Int)) (by omega)
      obtain ⟨v, e1, e2⟩ := atI_of hm0 hm1
      refine cut_by (fun σ H' => H' = H1 ∧ σ = [some (.str (tx ls)), some (.str (tx w)), some (.int c), some (.int w.length), some (.int (c % 8)), some (.int n), some (.str (tx [v])), none]) ?_ ?_
      · rfl'
        exact ⟨⟨by decide, by decide⟩, by omega, by omega, by omega, e1⟩
      rintro σ H1 ⟨rfl, rfl⟩
      rfl'
      have hv : ∀ x ∈ [v], x ∈ ls := fun x hx => by
        rw [List.mem_singleton.mp hx]
        exact List.mem_of_getElem? e2
      exact ⟨by omega, by omega, by omega, by simp only [List.length_append, List.length_cons, List.length_nil]; omega, q _ (.inl (by simp only [List.length_append, List.length_cons, List.length_nil]; omega)) (ap (ap (c1 _ (by omega)) hv) (c2 _ (by omega)))⟩
    rintro σ H1 ⟨rfl, rfl⟩
    refine cut_by (fun σ H' => H' = H1 ∧ σ = [some (.str (tx ls)), some (.str (tx w)), some (.int c), some (.int w.length), some (.int (c % 8)), some (.int n), none, none]) ?_ ?_
    · rfl'
      refine ite2 (fun _ => ite2 (fun h3 => ?_) fun _ => by trivial) fun _ => by trivial
      obtain ⟨u, e1, e2⟩ := atI_of (xs := w) (i := (n : Int) + 1) (by omega) (by omega)
      obtain ⟨v, e3, e4⟩ := atI_of (xs := w) (i := (n : Int)) (by omega) (by omega)
      refine cut_by (fun σ H' => H' = H1 ∧ σ = [some (.str (tx ls)), some (.str (tx w)), some (.int c), some (.int w.length), some (.int (c % 8)), some (.int n), none, some (.str (tx ([u] ++ [v])))]) ?_ ?_
      · rfl'
        exact ⟨by omega, u, e1, by omega, v, e3, by omega, rfl, rfl⟩
      rintro σ H1 ⟨rfl, rfl⟩
      rfl'
      have hv : ∀ x ∈ [u] ++ [v], x ∈ ls := ap (fun x hx => by
        rw [List.mem_singleton.mp hx]
        exact hm _ (List.mem_of_getElem? e2)) (fun x hx => by
        rw [List.mem_singleton.mp hx]
        exact hm _ (List.mem_of_getElem? e4))
      exact ⟨by omega, by first | omega | (simp only [List.length_append, List.length_cons, List.length_nil]; omega), by omega, by simp only [List.length_append, List.length_cons, List.length_nil]; omega, q _ (.inl (by simp only [List.length_append, List.length_cons, List.length_nil]; omega)) (ap (ap (c1 _ (by omega)) hv) (c2 _ (by omega)))⟩
    rintro σ H1 ⟨rfl, rfl⟩
    refine cut_by (fun σ H' => H' = H1 ∧ σ = [some (.str (tx ls)), some (.str (tx w)), some (.int c), some (.int w.length), some (.int (c % 8)), some (.int n), none, none]) ?_ ?_
    · rfl'
      exact ite2 (fun _ => ⟨by omega, q _ (.inl (by omega)) (c1 _ (by omega))⟩) fun _ => by trivial
    rintro σ H1 ⟨rfl, rfl⟩
    refine cut_by (fun σ H' => H' = H1 ∧ σ = [some (.str (tx ls)), some (.str (tx w)), some (.int c), some (.int w.length), some (.int (c % 8)), some (.int n), none, none]) ?_ ?_
    · rfl'
      exact ite2 (fun _ => ⟨by omega, q _ (.inl (by omega)) (c2 _ (by omega))⟩) fun _ => by trivial
    rintro σ H1 ⟨rfl, rfl⟩
    refine cut_by (fun σ H' => H' = H1 ∧ σ = [some (.str (tx ls)), some (.str (tx w)), some (.int c), some (.int w.length), some (.int (c % 8)), some (.int n), none, none]) ?_ ?_
    · rfl'
      exact ite2 (fun _ => q _ (.inl (by omega)) hm) fun _ => by trivial
    rintro σ H1 ⟨rfl, rfl⟩
    rfl'
    have y0 := Int.emod_nonneg (c / 8) (b := 9) (by omega)
    have y1 := Int.emod_lt_of_pos (c / 8) (b := 9) (by omega)
    exact ⟨⟨by decide, by decide⟩, by decide, use_word l1 l26 (by omega) (by omega) fun v hv hmv => q v (.inr (by omega)) hmv⟩
theorem ltI_total : ∀ {x y : List Int}, x ≠ y → ltI x y = !ltI y x
  | [], [], h => absurd rfl h
  | [], _ :: _, _ => rfl
  | _ :: _, [], _ => rfl
  | a :: x, b :: y, h => by
    rw [ltI, ltI]
    by_cases e : a = b
    · rw [if_pos e, if_pos e.symm]
      exact ltI_total fun q => h (by rw [e, q])
    · rw [if_neg e, if_neg fun q => e q.symm]
      by_cases c : a < b
      · rw [decide_eq_true c, decide_eq_false (by omega)]
        rfl
      · rw [decide_eq_false c, decide_eq_true (by omega)]
        rfl
theorem ltI_trans : ∀ {x y z : List Int}, ltI x y = true → ltI y z = true → ltI x z = true
  | [], [], _, h, _ => by cases h
  | [], _ :: _, [], _, h => by cases h
  | [], _ :: _, _ :: _, _, _ => rfl
  | _ :: _, [], _, h, _ => by cases h
  | _ :: _, _ :: _, [], _, h => by cases h
  | a :: x, b :: y, c :: z, h1, h2 => by
    rw [ltI] at h1 h2 ⊢
    by_cases e : a = b
    · subst e
      rw [if_pos rfl] at h1
      by_cases f : a = c
      · rw [if_pos f] at h2 ⊢
        exact ltI_trans h1 h2
      · rw [if_neg f] at h2 ⊢
        exact h2
    · rw [if_neg e] at h1
      have h1' := of_decide_eq_true h1
      by_cases f : b = c
      · subst f
        rw [if_neg e]
        exact h1
      · rw [if_neg f] at h2
        have h2' := of_decide_eq_true h2
        rw [if_neg (by omega)]
        exact decide_eq_true (by omega)
section
variable {k : Nat} {l : List Nat} {ns : List Int} {t u v : List Nat}
theorem idxs_inj : ∀ {u v : List Nat}, (∀ c ∈ u, c ∈ l) → (∀ c ∈ v, c ∈ l) → idxs l u = idxs l v → u = v
  | [], [], _, _, _ => rfl
  | [], _ :: _, _, _, h => by cases h
  | _ :: _, [], _, _, h => by cases h
  | a :: u, b :: v, hu, hv, h => by
    unfold idxs at h
    rw [List.map_cons, List.map_cons] at h
    injection h with h1 h2
    have h3 : l.idxOf a = l.idxOf b := by omega
    have ha := List.getElem_idxOf (List.idxOf_lt_length_of_mem (hu a List.mem_cons_self))
    have hb := List.getElem_idxOf (List.idxOf_lt_length_of_mem (hv b List.mem_cons_self))
    have : a = b := by
      rw [← ha, ← hb]
      simp only [h3]
    rw [this, idxs_inj (fun c hc => hu c (List.mem_cons_of_mem _ hc)) (fun c hc => hv c (List.mem_cons_of_mem _ hc)) h2]
theorem rank_inj (hu : ∀ c ∈ u, c ∈ l) (hv : ∀ c ∈ v, c ∈ l) (h : rankL k l u = rankL k l v) : u = v := by
  unfold rankL seenOf at h
  by_cases e : k = 1
  · rw [if_pos e, if_pos e] at h
    exact List.reverse_inj.mp (idxs_inj (fun c hc => hu c (List.mem_reverse.mp hc)) (fun c hc => hv c (List.mem_reverse.mp hc)) h)
  · rw [if_neg e, if_neg e] at h
    exact idxs_inj hu hv h
theorem lessB_total (hu : ∀ c ∈ u, c ∈ l) (hv : ∀ c ∈ v, c ∈ l) (h : u ≠ v) : lessB k l ns u v = !lessB k l ns v u := by
  unfold lessB
  by_cases e : weightOf k l ns u = weightOf k l ns v
  · rw [if_pos e, if_pos e.symm]
    exact ltI_total fun q => h (rank_inj hu hv q)
  · rw [if_neg e, if_neg fun q => e q.symm]
    by_cases c : weightOf k l ns u < weightOf k l ns v
    · rw [decide_eq_true c, decide_eq_false (by omega)]
      rfl
    · rw [decide_eq_false c, decide_eq_true (by omega)]
      rfl
end
theorem sum_nonneg {g : Int → Int} : ∀ {x : List Int}, (∀ i ∈ x, 0 < g i) → 0 ≤ (x.map g).sum
  | [], _ => by simp
  | a :: x, h => by
    have h1 := h a List.mem_cons_self
    have h2 := sum_nonneg (x := x) fun i hi => h i (List.mem_cons_of_mem _ hi)
    rw [List.map_cons, List.sum_cons]
    omega
theorem ltP_eq {g : Int → Int} : ∀ {x y : List Int}, (∀ i ∈ x, 0 < g i) → (∀ i ∈ y, 0 < g i) → (x.map g).sum = (y.map g).sum → ltP x y = ltI x y
  | [], [], _, _, _ => rfl
  | [], b :: y, _, hy, h => by
    have h1 := hy b List.mem_cons_self
    have h2 := sum_nonneg (x := y) fun i hi => hy i (List.mem_cons_of_mem _ hi)
    rw [List.map_cons, List.sum_cons, List.map_nil, List.sum_nil] at h
    omega
  | a :: x, [], _, _, _ => rfl
  | a :: x, b :: y, hx, hy, h => by
    rw [ltP, ltI]
    by_cases e : a = b
    · rw [if_pos e, if_pos e]
      rw [List.map_cons, List.sum_cons, List.map_cons, List.sum_cons, e] at h
      exact ltP_eq (fun i hi => hx i (List.mem_cons_of_mem _ hi)) (fun i hi => hy i (List.mem_cons_of_mem _ hi)) (by omega)
    · rw [if_neg e, if_neg e]
def gOf (z : Int) (ns : List Int) (i : Int) : Int := if z = 2 then ns.getD i.toNat 0 else 1
theorem dueW_idx (z : Int) (ls : List Nat) (ns : List Int) (w : List Nat) : dueW z ls ns w = ((idxs ls (dueS z w)).map (gOf z ns)).sum := by
  have e : ∀ u : List Nat, ((idxs ls u).map (gOf z ns)).sum = dueW z ls ns u := fun u => by
    unfold idxs dueW
    rw [List.map_map]
    rfl
  rw [e]
  unfold dueS
  by_cases h : z = 1
  · rw [if_pos h]
    unfold dueW
    rw [List.map_reverse, List.sum_reverse]
  · rw [if_neg h]
theorem g_pos {z : Int} {ls : List Nat} {ns : List Int} {w : List Nat} (hl : ns.length = ls.length) (hb : ∀ n ∈ ns, 1 ≤ n ∧ n ≤ 1000000) (hm : ∀ c ∈ w, c ∈ ls) : ∀ i ∈ idxs ls (dueS z w), 0 < gOf z ns i := by
  intro i hi
  obtain ⟨c, hc, rfl⟩ := List.mem_map.mp hi
  have hcl : c ∈ ls := by
    unfold dueS at hc
    split at hc
    · exact hm c (List.mem_reverse.mp hc)
    · exact hm c hc
  have hlt := List.idxOf_lt_length_of_mem hcl
  unfold gOf
  split
  · rw [Int.toNat_natCast, List.getD_eq_getElem?_getD, List.getElem?_eq_getElem (by omega)]
    have := (hb _ (List.getElem_mem (l := ns) (n := ls.idxOf c) (by omega))).1
    show 0 < ns[ls.idxOf c]
    omega
  · decide
theorem dueW_is {z : Int} {ls : List Nat} {ns : List Int} {w : List Nat} (z0 : 0 ≤ z) (hn : ls.Nodup) (hl : ns.length = ls.length) (hm : ∀ c ∈ w, c ∈ ls) : dueW z ls ns w = weightOf z.toNat ls ns w := by
  unfold weightOf
  by_cases h : z = 2
  · rw [if_pos (by omega), h, dueW_two hn hl hm]
  · rw [if_neg (by omega), dueW_one h]
theorem dueS_is {z : Int} (z0 : 0 ≤ z) (w : List Nat) : dueS z w = seenOf z.toNat w := by
  unfold dueS seenOf
  by_cases h : z = 1
  · rw [if_pos h, if_pos (by omega)]
  · rw [if_neg h, if_neg (by omega)]
theorem less_is {z : Int} {ls : List Nat} {ns : List Int} {u v : List Nat} (z0 : 0 ≤ z) (hn : ls.Nodup) (hl : ns.length = ls.length) (hb : ∀ n ∈ ns, 1 ≤ n ∧ n ≤ 1000000) (hu : ∀ c ∈ u, c ∈ ls) (hv : ∀ c ∈ v, c ∈ ls) :
    (if dueW z ls ns u = dueW z ls ns v then ltP (idxs ls (dueS z u)) (idxs ls (dueS z v)) else decide (dueW z ls ns u < dueW z ls ns v)) = lessB z.toNat ls ns u v := by
  unfold lessB rankL
  rw [← dueW_is z0 hn hl hu, ← dueW_is z0 hn hl hv, ← dueS_is z0, ← dueS_is z0]
  by_cases h : dueW z ls ns u = dueW z ls ns v
  · rw [if_pos h, if_pos h]
    rw [dueW_idx, dueW_idx] at h
    exact ltP_eq (g_pos hl hb hu) (g_pos hl hb hv) h
  · rw [if_neg h, if_neg h]
theorem len_idx (z : Int) (ls w : List Nat) : (idxs ls (dueS z w)).length = w.length := by
  unfold idxs dueS
  rw [List.length_map]
  split
  · exact List.length_reverse
  · rfl
abbrev HSorted (mg : Str → Option Value) : Prop := mg "sorted" = none
def rankF : KeyFam (Int × List Int) := ⟨fun r => [.int r.1, .lst (r.2.map L3.D.int)], fun a b => if a.1 = b.1 then ltI a.2 b.2 else decide (a.1 < b.1), true, (0, [])⟩
theorem ltI_asym {x y : List Int} (h : ltI x y = true) : ltI y x = false := by
  by_cases e : x = y
  · subst e
    rw [ltI_irrefl] at h
    cases h
  · have := ltI_total e
    rw [h] at this
    simpa using this.symm
theorem ltI_ntr {x y z : List Int} (h1 : ltI y x = false) (h2 : ltI z y = false) : ltI z x = false := by
  cases h : ltI z x with
  | false => rfl
  | true =>
    by_cases e : y = x
    · subst e
      rw [h2] at h
      cases h
    · have h3 := ltI_total e
      rw [h1] at h3
      have h4 : ltI x y = true := by simpa using h3.symm
      rw [ltI_trans h h4] at h2
      cases h2
theorem rankF_ok : rankF.Ok where
  w := ⟨fun a b h => by
      simp only [rankF] at h ⊢
      by_cases e : a.1 = b.1
      · rw [if_pos e] at h
        rw [if_pos e.symm]
        exact ltI_asym h
      · rw [if_neg e] at h
        rw [if_neg (fun z => e z.symm)]
        have := of_decide_eq_true h
        exact decide_eq_false (by omega),
    fun a b c h1 h2 => by
      simp only [rankF] at h1 h2 ⊢
      by_cases e : b.1 = a.1
      · rw [if_pos e] at h1
        rw [e] at h2
        by_cases f : c.1 = a.1
        · rw [if_pos f] at h2 ⊢
          exact ltI_ntr h1 h2
        · rw [if_neg f] at h2 ⊢
          exact h2
      · rw [if_neg e] at h1
        have h1' := of_decide_eq_false h1
        by_cases f : c.1 = b.1
        · rw [if_neg (by omega)]
          exact decide_eq_false (by omega)
        · rw [if_neg f] at h2
          have h2' := of_decide_eq_false h2
          rw [if_neg (by omega)]
          exact decide_eq_false (by omega)⟩
  eq := fun a b => by
    have := lt_rank a.1 b.1 a.2 b.2
    simp only [ltD] at this
    exact this
  ok := fun a b => by simp only [rankF, okDs, okD]; exact ⟨trivial, okDs_ints _ _, trivial⟩
  dp := fun a => by simp only [rankF, dpD, dpDs, dp_ints]; decide
  sh := fun a => ⟨_, _, rfl, .inl ⟨rfl, _, rfl⟩⟩
theorem hfR {P : Program} {w : World} {K : PySem.W.Frag} {mg : Str → Option Value} {base : Heap} {CO CR CW : Addr} (DRk : DR P w K mg base CO CR CW) : ∀ f, (∃ C, Fam3 CO CR CW C ∧ Meth K C "rank" f) → ∃ fd, FnOk P w K mg base CX0 2 f fd ["self", "word"] (sp_rank CO CR CW) ∧ Binds K fd ["self", "word"] [] := by
  rintro f ⟨C, hC, hm⟩
  obtain ⟨_, ⟨f', fd, hm', F, hb⟩⟩ := DRk.ex C hC
  have e : f = f' := by
    have := hm.at_.symm.trans hm'.at_
    simpa using this
  subst e
  exact ⟨fd, F, hb⟩
abbrev HBnd (K : PySem.W.Frag) (CO CR CW : Addr) : Prop := ∀ C, Fam3 CO CR CW C → Cls K C ∧ ∃ f, Meth K C "rank" f ∧ Bnd K "rank" f
def tL (ws : List (List Nat)) : List V := ws.map fun w => V.str (tx w)
def rkOf (k : Nat) (l : List Nat) (ns : List Int) (w : List Nat) : Int × List Int := (weightOf k l ns w, rankL k l w)
theorem iss_snoc {H : Hp} {d : L3.D} {v : V} : ∀ {ds : List L3.D} {vs : List V}, Iss K H ds vs → Is K H d v → Iss K H (ds ++ [d]) (vs ++ [v])
  | [], vs, h, hv => by
    simp only [Iss] at h
    subst h
    simp only [List.nil_append, Iss]
    exact ⟨v, [], rfl, hv, rfl⟩
  | e :: ds, vs, h, hv => by
    simp only [Iss] at h
    obtain ⟨x, r, rfl, hx, hr⟩ := h
    simp only [List.cons_append, Iss]
    exact ⟨x, r ++ [v], rfl, hx, iss_snoc hr hv⟩
theorem tkeys {CO CR CW q f o : Addr} {k : Nat} {l : List Nat} {ns : List Int} {Qf : List V → Hp → Prop} (hG : OG l ns k) : ∀ (ws : List (List Nat)) (acc : List V) (rs : List (Int × List Int)) (H : Hp), H q = some (.met f o) → OrdAt CO CR CW H o k l ns → (∀ w ∈ ws, w.length ≤ 1000 ∧ ∀ c ∈ w, c ∈ l) →
    Iss K H (rs.map fun a => .tup (rankF.dec a)) acc → (∀ acc' H', Same H H' → Iss K H' ((rs ++ ws.map (rkOf k l ns)).map fun a => .tup (rankF.dec a)) acc' → Qf acc' H') → tKeys q f o (sp_rank CO CR CW) (tL ws) acc H Qf
  | [], acc, rs, H, hq, ho, hw, hI, h => h acc H (Same.refl _) (by simpa using hI)
  | w :: ws, acc, rs, H, hq, ho, hw, hI, h => by
    have hw0 := hw w List.mem_cons_self
    refine ⟨hq, o, k, l, ns, w, rfl, ho, hG, hw0.1, hw0.2, fun p x H' s' hp hx => ?_⟩
    refine tkeys hG ws (acc ++ [.ref p]) (rs ++ [rkOf k l ns w]) H' (s' _ _ hq) (ho.same s') (fun w' h' => hw w' (List.mem_cons_of_mem _ h')) ?_ fun acc' H'' s'' hI' => h acc' H'' (s'.trans s'') (by simpa using hI')
    rw [List.map_append]
    exact iss_snoc (Iss.same s' _ _ hI) (is_rank hp hx)
def unS : V → List Nat
  | .str x => cs x
  | _ => []
theorem sorted_words {k : Nat} {l : List Nat} {ns : List Int} {ws : List (List Nat)} {ys : List ((Int × List Int) × V)} (h1 : ys.Perm ((ws.map (rkOf k l ns)).zip (tL ws))) (h2 : ys.Pairwise fun p q => rankF.lt q.1 p.1 = false) :
    ∃ vs : List (List Nat), vs.Perm ws ∧ vs.Pairwise (fun u v => lessB k l ns v u = false) ∧ ys.map (·.2) = tL vs := by
  have e0 : (ws.map (rkOf k l ns)).zip (tL ws) = ws.map fun w => (rkOf k l ns w, V.str (tx w)) := by unfold tL; rw [List.zip_map']
  rw [e0] at h1
  have e1 : ys = (ys.map fun p => unS p.2).map fun w => (rkOf k l ns w, V.str (tx w)) := by
    rw [List.map_map]
    refine (List.map_id ys).symm.trans (List.map_congr_left fun p hp => ?_)
    obtain ⟨w, _, rfl⟩ := List.mem_map.mp (h1.mem_iff.mp hp)
    rfl
  refine ⟨ys.map fun p => unS p.2, ?_, ?_, ?_⟩
  · refine (h1.map fun p => unS p.2).trans ?_
    rw [List.map_map]
    have : (ws.map ((fun p : (Int × List Int) × V => unS p.2) ∘ fun w => (rkOf k l ns w, V.str (tx w)))) = ws := (List.map_congr_left fun w _ => rfl).trans (List.map_id ws)
    rw [this]
  · rw [e1, List.pairwise_map] at h2
    exact h2
  · conv => lhs; rw [e1]
    rw [List.map_map]
    rfl
def sp_ranked (K : PySem.W.Frag) (CO CR CW : Addr) : Sp := fun vs H Q _ => ∃ (o a : Addr) (k : Nat) (l : List Nat) (ns : List Int) (ws : List (List Nat)), vs = [.ref o, .ref a] ∧ OrdAt CO CR CW H o k l ns ∧ OG l ns k ∧ H a = some (.lst (tL ws)) ∧ ws.length < 64 ∧ (∀ w ∈ ws, w.length ≤ 1000 ∧ ∀ c ∈ w, c ∈ l) ∧
  ∀ (D : Addr) (vs : List (List Nat)) (H' : Hp), Same H H' → vs.Perm ws → vs.Pairwise (fun u v => lessB k l ns v u = false) → H D = none → H' D = some (.lst (tL vs)) → Q (.ref D) H'
theorem sc_order_ranked : FnScope ["self", "words"] ["self", "words"] (defScope s_order_ranked) := ⟨rfl, rfl, rfl, by decide +kernel, rfl, by decide +kernel, by decide +kernel⟩
theorem ok_order_ranked {f CO CR CW : Addr} {fd : FuncData} (B : Bt mg) (DRk : DR P w K mg base CO CR CW) (HB : HBnd K CO CR CW) (hsorted : HSorted mg) (F : Fun K "ranked" "Order.ranked" s_order_ranked f fd)  : FnOk P w K mg base CX0 5 f fd ["self", "words"] (sp_ranked K CO CR CW) := by
  refine F.ok sc_order_ranked (fun vs H Q E h => ?_) (fun cdv A outer s H vs Q E hr h => ?_)
  · obtain ⟨o, a, k, l, ns, ws, rfl, _⟩ := h
    rfl
  · obtain ⟨o, a, k, l, ns, ws, rfl, ho, hG, ha, hz, hw, q⟩ := h
    refine ⟨_, (pss_one (ps_ret (pe_callBK (c_sortK rankF_ok (hfR DRk) (hr.mono (by decide))) rfl hsorted PyProof.Rows.boot_sorted (pa_cons (pv 1) pa_nil) (pk_cons (pe_bmV (pv 0) HB rfl) pk_nil)))), ?_⟩
    have s16 := sl16
    obtain ⟨C, dx, fs, hf, ho1, hn, _⟩ := ho.fam
    have h1 : fs.lookup ("rank" : Str) = none := hn _ (by decide) (by decide)
    repeat (first | rfl' | simp only [tAlt, tMethF, rd_cz, tRev, rSum, rIndex])
    simp only [tCBK]
    repeat (first | rfl' | simp only [tAlt, tMethF, rd_cz, tRev, rSum, rIndex])
    simp only [tBMV]
    repeat (first | rfl' | simp only [tAlt, tMethF, rd_cz, tRev, rSum, rIndex])
    refine ⟨C, hf, dx, fs, ho1, h1, fun qa f hq hm => ?_⟩
    have sq := same_upd (o := .met f o) hq
    refine ⟨a, qa, f, o, tL ws, rfl, rfl, SqL.of (sq _ _ ha), by unfold tL; rw [List.length_map]; exact hz, ⟨C, hf, hm⟩, tkeys hG ws [] [] _ upd_same (ho.same sq) hw (by simp only [List.map_nil, Iss]) fun acc H' s' hI => ⟨ws.map (rkOf k l ns), by simpa using hI, fun ys p1 p2 D hD => ?_⟩⟩
    obtain ⟨vs, v1, v2, v3⟩ := sorted_words p1 p2
    rw [v3]
    have sD := same_upd (o := .lst (tL vs)) hD
    refine q D vs _ (sq.trans (s'.trans sD)) v1 v2 ?_ upd_same
    cases hDD : H D with
    | none => rfl
    | some ob => rw [s' _ _ (sq _ _ hDD)] at hD; cases hD
abbrev DK (P : Program) (w : World) (K : PySem.W.Frag) (mg : Str → Option Value) (base : Heap) (CO CR CW : Addr) : Prop := DMF P w K mg base CX0 5 (Fam3 CO CR CW) "ranked" ["self", "words"] (fun _ => sp_ranked K CO CR CW)
structure KX (K : PySem.W.Frag) : Prop where
  ss : PySem.W.kitOne K (.type "str") (.type "str") = some true
def sp_words (K : PySem.W.Frag) : Sp := fun vs H Q _ => ∃ (l : List Nat) (a : Addr) (cs : List Int), vs = [.str (tx l), .ref a] ∧ 1 ≤ l.length ∧ l.length ≤ 26 ∧ H a = some (.lst (cs.map V.int)) ∧ cs.length ≤ 100 ∧ ∀ (D : Addr) (ws : List (List Nat)) (H' : Hp), Same H H' → H D = none → H' D = some (.lst (tL ws)) → ws.length = cs.length → (∀ w ∈ ws, w.length ≤ 8 ∧ ∀ c ∈ w, c ∈ l) → Q (.ref D) H'
theorem sc_words : FnScope ["_law_letters_here", "_law_cells", "_law_words_here", "_law_word_here", "_law_cell"] ["_law_letters_here", "_law_cells"] (defScope s_words) := ⟨rfl, rfl, rfl, by decide +kernel, rfl, by decide +kernel, by decide +kernel⟩
theorem ok_words {f : Addr} {fd : FuncData} (B : Bt mg)  (F : Fun K "_law_words" "_law_words" s_words f fd) (D_other : Df P w K mg base CX0 2 "_law_other" ["_law_letters_here", "_law_word_here", "_law_cell"] [] sp_other) : FnOk P w K mg base CX0 3 f fd ["_law_letters_here", "_law_cells"] (sp_words K) := by
  refine F.ok sc_words (fun vs H Q E h => ?_) (fun cdv A outer s H vs Q E hr h => ?_)
  · obtain ⟨l, a, cs, rfl, _⟩ := h
    rfl
  · obtain ⟨l, a, cs, rfl, l1, l26, ha, hc, q⟩ := h
    refine ⟨_, (pss_cons (ps_set (i := 2) sc_words.nd rfl (Or.inl rfl) (pe_lst pa_nil))
      (pss_cons (ps_set (i := 3) sc_words.nd rfl (Or.inl rfl) pe_str)
      (pss_cons (ps_for PassesOwn.never rfl (pi_list (pv 1)) (pg_name (i := 4) sc_words.nd rfl (Or.inl rfl))
        (pss_cons (ps_set (i := 3) sc_words.nd rfl (Or.inl rfl) (cl0 D_other hr .nil rfl (pa_cons (pv 0) (pa_cons (pv 3) (pa_cons (pv 4) pa_nil)))))
        (pss_one (ps_expr (pe_bm PySem.F.plainAttrs_list PySem.F.slot_list_append PySem.F.type_list_append mt_append (pv 2) (pa_cons (pv 3) pa_nil))))))
      (pss_one (ps_ret (pv 2)))))), ?_⟩
    have s16 := sl16
    rfl'
    have e0 : (("" : Str)) = tx [] := rfl
    simp only [e0]
    refine ⟨by omega, fun p hp => ⟨⟨_, SqL.of (same_upd hp _ _ ha)⟩, ForL.by (xs := cs.map V.int) (fun i σ H' => Same H H' ∧ ∃ (ws : List (List Nat)) (w : List Nat) (v4 : Option V), σ = [some (.str (tx l)), some (.ref a), some (.ref p), some (.str (tx w)), v4] ∧ H' p = some (.lst (tL ws)) ∧ ws.length = i ∧ (w.length ≤ 8 ∧ ∀ c ∈ w, c ∈ l) ∧ ∀ w' ∈ ws, w'.length ≤ 8 ∧ ∀ c ∈ w', c ∈ l) ⟨same_upd hp, [], [], none, rfl, by rw [upd_same]; rfl, rfl, ⟨by decide, fun c h => (nomatch h)⟩, fun w' h => (nomatch h)⟩ (fun i σ H' _ h => SqL.of (h.1 _ _ ha)) ?_ ?_⟩⟩
    · rintro i x σ H' hx ⟨hs, ws, w, v4, rfl, hH, hl, hbw, hb⟩
      have hil := (List.getElem?_eq_some_iff.mp hx).1
      rw [List.length_map] at hil
      rw [List.getElem?_map] at hx
      obtain ⟨cz, _, rfl⟩ := Option.map_eq_some_iff.mp hx
      rfl'
      refine ⟨l, w, cz, rfl, l1, l26, by omega, hbw.2, fun v hv hmv => ?_⟩
      have hv8 : v.length ≤ 8 := by omega
      refine ⟨.inl ⟨_, SqL.of hH⟩, _, hH, by unfold tL; rw [List.length_map]; omega, same_over hs hp, ws ++ [v], v, rfl, ?_, by rw [List.length_append, hl]; rfl, hv8, hmv, fun w' h => ?_⟩
      · rw [upd_same]
        unfold tL
        rw [List.map_append]
        rfl
      · rcases List.mem_append.mp h with h | h
        · exact hb w' h
        · rw [List.mem_singleton.mp h]
          exact ⟨hv8, hmv⟩
    · rintro σ H' ⟨hs, ws, w, v4, rfl, hH, hl, hbw, hb⟩
      rw [List.length_map] at hl
      rfl'
      exact q p ws H' hs hp hH hl hb
def sp_same : Sp := fun vs H Q _ => ∃ (f a : Addr) (vs' ws : List (List Nat)), vs = [.ref f, .ref a] ∧ H f = some (.lst (tL vs')) ∧ H a = some (.lst (tL ws)) ∧ vs'.Perm ws ∧ ws.length ≤ 100 ∧ ∀ H', Same H H' → Q (.bl true) H'
theorem iss_strs {H : Hp} : ∀ ws : List (List Nat), Iss K H (ws.map dS) (tL ws)
  | [] => by simp only [tL, List.map_nil, Iss]
  | w :: ws => by
    have := iss_strs (H := H) ws
    simp only [tL, List.map_cons, Iss]
    exact ⟨_, _, rfl, by simp only [Is], this⟩
theorem is_strs {H : Hp} {p : Addr} {ws : List (List Nat)} (h : H p = some (.lst (tL ws))) : Is K H (.lst (ws.map dS)) (.ref p) := by
  simp only [Is]
  exact ⟨p, _, rfl, SqL.of h, iss_strs ws⟩
theorem dp_strs (ws : List (List Nat)) : dpDs (ws.map dS) ≤ 0 := dpDs_of fun d h => by
  obtain ⟨w, _, rfl⟩ := List.mem_map.mp h
  simp [dpD]
theorem sc_same_words : FnScope ["_law_found", "_law_words_here", "_law_left", "_law_word_here"] ["_law_found", "_law_words_here"] (defScope s_same_words) := ⟨rfl, rfl, rfl, by decide +kernel, rfl, by decide +kernel, by decide +kernel⟩
theorem ok_same_words {f : Addr} {fd : FuncData} (B : Bt mg) (KK : KX K) (F : Fun K "_law_same_words" "_law_same_words" s_same_words f fd)  : FnOk P w K mg base CX0 1 f fd ["_law_found", "_law_words_here"] sp_same := by
  refine F.ok sc_same_words (fun vs H Q E h => ?_) (fun cdv A outer s H vs Q E hr h => ?_)
  · obtain ⟨f, a, vs', ws, rfl, _⟩ := h
    rfl
  · obtain ⟨f, a, vs', ws, rfl, hf, ha, hp, hz, q⟩ := h
    refine ⟨_, (pss_cons (ps_set (i := 2) sc_same_words.nd rfl (Or.inl rfl) (pe_callTy call_list_of rfl B.list PySem.Pv.boot_list (pa_cons (pv 1) pa_nil)))
      (pss_cons (ps_for PassesOwn.never rfl (pi_list (pv 0)) (pg_name (i := 3) sc_same_words.nd rfl (Or.inl rfl))
        (pss_cons (ps_if (PW.pt (pw_or (pt_not (pt_bl (pe_isiB rfl B.isi (pv 3) rfl B.str PySem.Pv.boot_str) (fun _ => rfl))) (pw_or1 (pt_cmpR (op_ninD (room100 hr)) (pv 3) (pv 2) (by with_unfolding_all rfl)))))
          (pss_one (ps_ret pe_bl))
          pss_nil)
        (pss_one (ps_expr (pe_bm PySem.F.plainAttrs_list PySem.F.slot_list_remove PySem.F.type_list_remove mt_rem (pv 2) (pa_cons (pv 3) pa_nil))))))
      (pss_one (ps_ret (pe_cmpR op_eq (pe_callB c_len rfl B.len PySem.boot_len (pa_cons (pv 2) pa_nil)) pe_int (nomark _)))))), ?_⟩
    have s16 := sl16
    rfl'
    refine ⟨tL ws, .inl (SqL.of ha), fun L hL => ?_⟩
    have sL := same_upd (o := .lst (tL ws)) hL
    refine ⟨⟨_, SqL.of (sL _ _ hf)⟩, ForL.by (xs := tL vs') (fun i σ H' => Same H H' ∧ ∃ (rest : List (List Nat)) (v3 : Option V), σ = [some (.ref f), some (.ref a), some (.ref L), v3] ∧ H' L = some (.lst (tL rest)) ∧ rest.Perm (vs'.drop i)) ⟨sL, ws, none, rfl, upd_same, hp.symm⟩ (fun i σ H' _ h => SqL.of (h.1 _ _ hf)) ?_ ?_⟩
    · rintro i x σ H' hx ⟨hs, rest, v3, rfl, hH, hR⟩
      unfold tL at hx
      rw [List.getElem?_map] at hx
      obtain ⟨w, hw, rfl⟩ := Option.map_eq_some_iff.mp hx
      have hdrop : vs'.drop i = w :: vs'.drop (i + 1) := by
        obtain ⟨h1, h2⟩ := List.getElem?_eq_some_iff.mp hw
        rw [List.drop_eq_getElem_cons h1, h2]
      rw [hdrop] at hR
      have hmem : w ∈ rest := hR.mem_iff.mpr List.mem_cons_self
      have hany : ((rest.map dS).any fun e => eqD e (dS w)) = true := List.any_eq_true.mpr ⟨dS w, List.mem_map.mpr ⟨w, hmem, rfl⟩, eqD_refl _⟩
      rfl'
      refine ⟨_, .inl (.str _), true, KK.ss, ite2 (fun e => by cases e) fun _ => use_ninD (d := dS w) (is_strs hH) (by simp only [Is]) (Nat.lt_of_le_of_lt (dp_strs _) (by decide)) ⟨_, rfl, ite2 (fun e => by rw [hany] at e; cases e) fun _ => ⟨.inl ⟨_, SqL.of hH⟩, L, rest, w, rfl, rfl, hH, hmem, same_over hs hL, rest.erase w, upd_same, ?_⟩⟩⟩
      have := hR.erase w
      simpa using this
    · rintro σ H' ⟨hs, rest, v3, rfl, hH, hR⟩
      have e : rest = [] := by
        unfold tL at hR
        rw [List.length_map, List.drop_length] at hR
        exact hR.eq_nil
      subst e
      rfl'
      exact ⟨_, .inl ⟨_, SqL.of hH, rfl⟩, q _ hs⟩
theorem sql_same {H H' : Hp} {a : Addr} {xs : List V} (s : Same H H') (h : SqL K H a xs) : SqL K H' a xs := by
  rcases h with (h | ⟨o', h⟩) | h
  · exact .inl (.inl (s _ _ h))
  · exact .inl (.inr ⟨o', s _ _ h⟩)
  · exact .inr h
def sp_law (K : PySem.W.Frag) : Sp := fun vs H Q _ => ∃ (a : Addr) (ns : List Int), vs = [.ref a] ∧ SqL K H a (ns.map V.int) ∧ ∀ H', Q (.bl true) H'
theorem OrdAt.updL {CO CR CW : Addr} {H : Hp} {o p : Addr} {k : Nat} {l : List Nat} {ns : List Int} {xs ys : List V} (h : OrdAt CO CR CW H o k l ns) (hp : H p = some (.lst xs)) : OrdAt CO CR CW (upd H p (.lst ys)) o k l ns := by
  have ne : ∀ {b : Addr} {ob : HO}, H b = some ob → (∀ zs, ob ≠ .lst zs) → upd H p (.lst ys) b = some ob := fun {b ob} e hn => by
    rw [upd_ne]
    · exact e
    · intro z
      subst z
      rw [hp] at e
      cases e
      exact hn _ rfl
  obtain ⟨dx, ⟨h1, h2⟩ | ⟨h1, h2⟩ | ⟨h1, h2, w, h3, h4⟩⟩ := h
  · exact ⟨dx, .inl ⟨h1, ne h2 fun _ z => by cases z⟩⟩
  · exact ⟨dx, .inr (.inl ⟨h1, ne h2 fun _ z => by cases z⟩)⟩
  · exact ⟨dx, .inr (.inr ⟨h1, h2, w, ne h3 (fun _ z => by cases z), ne h4 (fun _ z => by cases z)⟩)⟩
theorem sorted_uniq {k : Nat} {l : List Nat} {ns : List Int} : ∀ {xs ys : List (List Nat)}, xs.Perm ys → (∀ w ∈ xs, ∀ c ∈ w, c ∈ l) → xs.Pairwise (fun u v => lessB k l ns v u = false) → ys.Pairwise (fun u v => lessB k l ns v u = false) → xs = ys
  | [], ys, h, _, _, _ => h.nil_eq
  | x :: xs, [], h, _, _, _ => absurd h.length_eq (by simp)
  | x :: xs, y :: ys, h, hm, h1, h2 => by
    have c1 := List.pairwise_cons.mp h1
    have c2 := List.pairwise_cons.mp h2
    by_cases e : x = y
    · subst e
      rw [sorted_uniq (h.cons_inv) (fun w hw => hm w (List.mem_cons_of_mem _ hw)) c1.2 c2.2]
    · have hx : x ∈ ys := by
        rcases List.mem_cons.mp (h.mem_iff.mp List.mem_cons_self) with z | z
        · exact absurd z e
        · exact z
      have hy : y ∈ xs := by
        rcases List.mem_cons.mp (h.mem_iff.mpr List.mem_cons_self) with z | z
        · exact absurd z.symm e
        · exact z
      have t := lessB_total (k := k) (ns := ns) (hm x List.mem_cons_self) (hm y (List.mem_cons_of_mem _ hy)) e
      rw [c1.1 y hy, c2.1 x hx] at t
      cases t
structure KY (K : PySem.W.Frag) : Prop where
  ll : PySem.W.kitOne K (.type "list") (.type "list") = some true
theorem sc_law : FnScope ["_law_script", "_law_letters_here", "_law_kind", "_law_weights_here", "_law_order_here", "_law_words_here", "_law_handed", "_law_found", "_law_ranks", "_law_k", "_law_due"] ["_law_script"] (defScope s_law) := ⟨rfl, rfl, rfl, by decide +kernel, rfl, by decide +kernel, by decide +kernel⟩
theorem ok_law {f CO CR CW : Addr} {fd : FuncData} (B : Bt mg) (KK : KY K) (TT : TWS P w K mg base CO CR CW) (DKk : DK P w K mg base CO CR CW) (F : Fun K "law" "law" s_law f fd) (D_letters : Df P w K mg base CX0 1 "_law_letters" ["_law_cell", "_law_many"] [] sp_letters) (D_weights : Df P w K mg base CX0 1 "_law_weights" ["_law_cell", "_law_many"] [] sp_weights) (D_order : Df P w K mg base CX0 6 "_law_order" ["_law_kind", "_law_letters_here", "_law_weights_here"] [] (sp_order K CO CR CW)) (D_words : Df P w K mg base CX0 3 "_law_words" ["_law_letters_here", "_law_cells"] [] (sp_words K)) (D_cell_at : Df P w K mg base CX0 1 "_law_cell_at" ["_law_script", "_law_k"] [] (sp_cell_at K)) (D_rank : Df P w K mg base CX0 1 "_law_rank" ["_law_kind", "_law_letters_here", "_law_weights_here", "_law_word_here"] [] sp_lrank) (D_less : Df P w K mg base CX0 1 "_law_less" ["_law_one", "_law_other_here"] [] sp_lless) (D_same_words : Df P w K mg base CX0 1 "_law_same_words" ["_law_found", "_law_words_here"] [] sp_same) : FnOk P w K mg base CX0 7 f fd ["_law_script"] (sp_law K) := by
  refine F.ok sc_law (fun vs H Q E h => ?_) (fun cdv A outer s H vs Q E hr h => ?_)
  · obtain ⟨a, ns, rfl, _⟩ := h
    rfl
  · obtain ⟨a, ns, rfl, hS, q⟩ := h
    refine ⟨_, (pss_cut (ps_set (i := 1) sc_law.nd rfl (Or.inr rfl) (cl0 D_letters hr .nil rfl (pa_cons (cl0 D_cell_at hr .nil rfl (pa_cons (pv 0) (pa_cons pe_int pa_nil))) (pa_cons (pe_op op_addA pe_int (pe_op op_mod (cl0 D_cell_at hr .nil rfl (pa_cons (pv 0) (pa_cons pe_int pa_nil))) pe_int)) pa_nil))))
      (pss_cut (ps_set (i := 2) sc_law.nd rfl (Or.inr rfl) (pe_op op_mod (cl0 D_cell_at hr .nil rfl (pa_cons (pv 0) (pa_cons pe_int pa_nil))) pe_int))
      (pss_cut (ps_set (i := 3) sc_law.nd rfl (Or.inr rfl) (cl0 D_weights hr .nil rfl (pa_cons (cl0 D_cell_at hr .nil rfl (pa_cons (pv 0) (pa_cons pe_int pa_nil))) (pa_cons (pe_callB c_len rfl B.len PySem.boot_len (pa_cons (pv 1) pa_nil)) pa_nil))))
      (pss_cut (ps_set (i := 4) sc_law.nd rfl (Or.inl rfl) (cl0 D_order hr .nil rfl (pa_cons (pv 2) (pa_cons (pv 1) (pa_cons (pv 3) pa_nil)))))
      (pss_cut (ps_set (i := 5) sc_law.nd rfl (Or.inl rfl) (cl0 D_words hr .nil rfl (pa_cons (pv 1) (pa_cons (pe_slice sl_any (pv 0) (po_some pe_int) (po_some pe_int)) pa_nil))))
      (pss_cut (ps_set (i := 6) sc_law.nd rfl (Or.inl rfl) (pe_callTy call_list_of rfl B.list PySem.Pv.boot_list (pa_cons (pv 5) pa_nil)))
      (pss_cut (ps_set (i := 7) sc_law.nd rfl (Or.inl rfl) (meF1 DKk hr (pv 4) (pa_cons (pv 6) pa_nil)))
      (pss_cut (ps_if (PW.pt (pw_or (pt_not (pt_bl (pe_isiB rfl B.isi (pv 7) rfl B.list PySem.Pv.boot_list) (fun _ => rfl))) (pw_or (pt_cmpR (op_neL (room100 hr)) (pv 6) (pv 5) (nomark _)) (pw_or1 (pt_not (pt_bl (cl0 D_same_words hr .nil rfl (pa_cons (pv 7) (pa_cons (pv 5) pa_nil))) (fun _ => rfl)))))))
        (pss_one (ps_ret pe_bl))
        pss_nil)
      (pss_cut (ps_set_comp (i := 8) sc_law.nd rfl (Or.inl rfl) (Or.inl rfl) (own := ["_law_word_here"]) (caps := ["_law_kind", "_law_letters_here", "_law_weights_here"]) (ix := [2, 1, 3]) (tt := tYes) (te := (tCall sp_lrank [] E0 (tCons (tVar 1) (tCons (tVar 2) (tCons (tVar 3) (tCons (tVar 0) tNil)))))) rfl (compOk_of (sc := defScope s_law) rfl (by decide +kernel) (by decide +kernel) (by decide +kernel) rfl (by decide +kernel) (by decide +kernel) rfl) (pi_list (pv 7)) (fun _ _ _ _ _ _ => pg_name (i := 0) (show List.Nodup [_, _, _, _] by decide) rfl (Or.inl rfl)) (fun _ _ _ _ _ _ => pts_nil) (fun _ _ _ _ _ _ => (cl0 D_rank hr .nil rfl (pa_cons (pv 1) (pa_cons (pv 2) (pa_cons (pv 3) (pa_cons (pv 0) pa_nil)))))))
      (pss_cut (ps_for PassesOwn.never rfl (pi_range1 rfl B.range (pa_cons (pe_op op_sub (pe_callB c_len rfl B.len PySem.boot_len (pa_cons (pv 8) pa_nil)) pe_int) pa_nil)) (pg_name (i := 9) sc_law.nd rfl (Or.inl rfl))
        (pss_one (ps_if (pt_bl (cl0 D_less hr .nil rfl (pa_cons (pe_ix ix_list (pv 8) (pe_op op_addA (pv 9) pe_int) (fun _ _ => rfl)) (pa_cons (pe_ix ix_list (pv 8) (pv 9) (fun _ _ => rfl)) pa_nil))) (fun _ => rfl))
          (pss_one (ps_ret pe_bl))
          pss_nil)))
      (pss_cut (ps_set (i := 10) sc_law.nd rfl (Or.inl rfl) (pe_callTy call_list_of rfl B.list PySem.Pv.boot_list (pa_cons (pv 7) pa_nil)))
      (pss_cut (ps_expr (pe_bm PySem.F.plainAttrs_list PySem.F.slot_list_append PySem.F.type_list_append mt_append (pv 7) (pa_cons pe_str pa_nil)))
      (pss_one (ps_ret (pe_and (pe_cmpR (op_eqL (room100 hr)) (meF1 DKk hr (pv 4) (pa_cons (pv 6) pa_nil)) (pv 10) (nomark _)) (pe_one (pe_cmpR (op_eqL (room100 hr)) (pv 6) (pv 5) (nomark _)))))))))))))))))), ?_⟩
    have s16 := sl16
    refine cut_by (fun σ H' => H' = H ∧ ∃ l : List Nat, goodB l = true ∧ σ = [some (.ref a), some (.str (tx l)), none, none, none, none, none, none, none, none, none]) ?_ ?_
    · repeat (first | rfl' | simp only [tAlt, tMethF, rd_cz, tRev, rSum, rIndex])
      have y0 := Int.emod_nonneg (cellAt ns 1) (b := 6) (by decide)
      have y1 := Int.emod_lt_of_pos (cellAt ns 1) (b := 6) (by decide)
      exact use_cell hS (by decide) (use_cell hS (by decide) ⟨_, rfl, by decide, _, _, rfl, by omega, by omega, fun l hl hn hs => ⟨rfl, l, decide_eq_true ⟨by omega, by omega, hs, hn⟩, rfl⟩⟩)
    rintro σ H1 ⟨rfl, l, hg, rfl⟩
    obtain ⟨l1, l6, lsm, lnd⟩ := of_decide_eq_true hg
    refine cut_by (fun σ H' => H' = H1 ∧ ∃ z : Int, 0 ≤ z ∧ z < 3 ∧ σ = [some (.ref a), some (.str (tx l)), some (.int z), none, none, none, none, none, none, none, none]) ?_ ?_
    · repeat (first | rfl' | simp only [tAlt, tMethF, rd_cz, tRev, rSum, rIndex])
      refine use_cell hS (by decide) ?_
      exact ⟨_, rfl, by decide, rfl, cellAt ns 2 % 3, Int.emod_nonneg _ (by decide), Int.emod_lt_of_pos _ (by decide), rfl⟩
    rintro σ H2 ⟨rfl, z, z0, z3, rfl⟩
    refine cut_by (fun σ H' => Same H2 H' ∧ ∃ (D : Addr) (ws : List Int), ws.length = l.length ∧ (∀ n ∈ ws, 1 ≤ n ∧ n ≤ 1000000) ∧ H' D = some (.lst (ws.map V.int)) ∧ σ = [some (.ref a), some (.str (tx l)), some (.int z), some (.ref D), none, none, none, none, none, none, none]) ?_ ?_
    · repeat (first | rfl' | simp only [tAlt, tMethF, rd_cz, tRev, rSum, rIndex])
      refine use_cell hS (by decide) ?_
      exact ⟨by omega, _, _, rfl, by omega, by omega, fun D ns' H' h1 h2 h3 h4 => ⟨h3, D, ns', by omega, h2, h4, rfl⟩⟩
    rintro σ H3 ⟨s3, D, ws, hwl, hwb, hD, rfl⟩
    have hS3 := sql_same s3 hS
    refine cut_by (fun σ H' => Same H3 H' ∧ ∃ o : Addr, OrdAt CO CR CW H' o z.toNat l ws ∧ σ = [some (.ref a), some (.str (tx l)), some (.int z), some (.ref D), some (.ref o), none, none, none, none, none, none]) ?_ ?_
    · repeat (first | rfl' | simp only [tAlt, tMethF, rd_cz, tRev, rSum, rIndex])
      exact ⟨z, l, D, ws, rfl, z0, z3, hg, hD, hwl, hwb, fun o H' s h => ⟨s, o, h, rfl⟩⟩
    rintro σ H4 ⟨s4, o, ho, rfl⟩
    have hD4 := s4 _ _ hD
    have hS4 := sql_same s4 hS3
    have hG : OG l ws z.toNat := ⟨hg, by omega, hwl, hwb⟩
    refine cut_by (fun σ H' => Same H4 H' ∧ ∃ (W : Addr) (us : List (List Nat)), us.length < 64 ∧ (∀ w ∈ us, w.length ≤ 8 ∧ ∀ c ∈ w, c ∈ l) ∧ H' W = some (.lst (tL us)) ∧ σ = [some (.ref a), some (.str (tx l)), some (.int z), some (.ref D), some (.ref o), some (.ref W), none, none, none, none, none]) ?_ ?_
    · repeat (first | rfl' | simp only [tAlt, tMethF, rd_cz, tRev, rSum, rIndex])
      refine ⟨_, hS4, fun p hp => ?_⟩
      rw [cutV_ints ns (by decide) (by decide)]
      have hle : ((ns.drop (4 : Int).toNat).take ((67 : Int) - 4).toNat).length ≤ 63 := by rw [List.length_take]; omega
      generalize ((ns.drop (4 : Int).toNat).take ((67 : Int) - 4).toNat) = cs' at hle
      have sp := same_upd (o := .lst (cs'.map V.int)) hp
      exact ⟨l, p, cs', rfl, l1, by omega, upd_same, by omega, fun W us H' s' _ h1 h2 h3 => ⟨sp.trans s', W, us, by omega, h3, h1, rfl⟩⟩
    rintro σ H5 ⟨s5, W, us, hul, hub, hW, rfl⟩
    have hD5 := s5 _ _ hD4
    have ho5 := ho.same s5
    have hub' : ∀ w ∈ us, w.length ≤ 1000 ∧ ∀ c ∈ w, c ∈ l := fun w hw => ⟨by have := (hub w hw).1; omega, (hub w hw).2⟩
    refine cut_by (fun σ H' => Same H5 H' ∧ ∃ (M : Addr), H' M = some (.lst (tL us)) ∧ σ = [some (.ref a), some (.str (tx l)), some (.int z), some (.ref D), some (.ref o), some (.ref W), some (.ref M), none, none, none, none]) ?_ ?_
    · repeat (first | rfl' | simp only [tAlt, tMethF, rd_cz, tRev, rSum, rIndex])
      exact ⟨_, .inl (SqL.of hW), fun E1 hE => ⟨same_upd hE, upd_same⟩⟩
    rintro σ H6 ⟨s6, M, hM, rfl⟩
    have hD6 := s6 _ _ hD5
    have hW6 := s6 _ _ hW
    have ho6 := ho5.same s6
    refine cut_by (fun σ H' => Same H6 H' ∧ ∃ (F : Addr) (vs : List (List Nat)), vs.Perm us ∧ vs.Pairwise (fun u v => lessB z.toNat l ws v u = false) ∧ H6 F = none ∧ H' F = some (.lst (tL vs)) ∧ σ = [some (.ref a), some (.str (tx l)), some (.int z), some (.ref D), some (.ref o), some (.ref W), some (.ref M), some (.ref F), none, none, none]) ?_ ?_
    · repeat (first | rfl' | simp only [tAlt, tMethF, rd_cz, tRev, rSum, rIndex])
      obtain ⟨C, dx, fs, hf, ho1, hn, _⟩ := ho6.fam
      have h1 : fs.lookup ("ranked" : Str) = none := hn _ (by decide) (by decide)
      exact ⟨C, hf, dx, fs, ho1, h1, o, M, z.toNat, l, ws, us, rfl, ho6, hG, hM, hul, hub', fun F vs H' s' p1 p2 p3 p4 => ⟨s', F, vs, p1, p2, p3, p4, rfl⟩⟩
    rintro σ H7 ⟨s7, F, vs, vp, vw, hFn, hF, rfl⟩
    have hD7 := s7 _ _ hD6
    have hW7 := s7 _ _ hW6
    have hM7 := s7 _ _ hM
    have ho7 := ho6.same s7
    have hvm : ∀ w ∈ vs, w.length ≤ 8 ∧ ∀ c ∈ w, c ∈ l := fun w hw => hub w (vp.mem_iff.mp hw)
    have hvl : vs.length < 64 := by rw [vp.length_eq]; exact hul
    refine cut_by (fun σ H' => Same H7 H' ∧ σ = [some (.ref a), some (.str (tx l)), some (.int z), some (.ref D), some (.ref o), some (.ref W), some (.ref M), some (.ref F), none, none, none]) ?_ ?_
    · repeat (first | rfl' | simp only [tAlt, tMethF, rd_cz, tRev, rSum, rIndex])
      refine ⟨_, .inr (.inr (.inl ⟨F, _, rfl, rfl, SqL.of hF⟩)), true, KK.ll, ite2 (fun e => by cases e) fun _ => use_neL (.inl ⟨is_strs hM7, is_strs hW7⟩) (Nat.lt_of_le_of_lt (dp_strs _) (by decide)) ⟨_, rfl, ite2 (fun e => by rw [eqDs_refl] at e; cases e) fun _ => ⟨F, W, vs, us, rfl, hF, hW7, vp, by omega, fun H' s' => ⟨_, rfl, ite2 (fun e => by cases e) fun _ => s'⟩⟩⟩⟩
    rintro σ H8 ⟨s8, rfl⟩
    have hD8 := s8 _ _ hD7
    have hW8 := s8 _ _ hW7
    have hM8 := s8 _ _ hM7
    have hF8 := s8 _ _ hF
    have ho8 := ho7.same s8
    refine cut_by (fun σ H' => Same H8 H' ∧ ∃ (R : Addr) (ps : List Addr), ps.length = vs.length ∧ H' R = some (.lst (ps.map V.ref)) ∧ (∀ (j : Nat) (p : Addr) (v : List Nat), ps[j]? = some p → vs[j]? = some v → ∃ q, H' p = some (.tup [.int (dueW z l ws v), .ref q]) ∧ H' q = some (.lst ((idxs l (dueS z v)).map V.int))) ∧ σ = [some (.ref a), some (.str (tx l)), some (.int z), some (.ref D), some (.ref o), some (.ref W), some (.ref M), some (.ref F), some (.ref R), none, none]) ?_ ?_
    · repeat (first | rfl' | simp only [tAlt, tMethF, rd_cz, tRev, rSum, rIndex])
      refine ⟨⟨_, SqL.of hF8⟩, fun R hR => CompL.by (xs := tL vs) (fun i acc H' => Same H8 H' ∧ H' R = some (.lst acc) ∧ ∃ ps : List Addr, acc = ps.map V.ref ∧ ps.length = i ∧ ∀ (j : Nat) (p : Addr) (v : List Nat), ps[j]? = some p → vs[j]? = some v → ∃ q, q ≠ R ∧ H' p = some (.tup [.int (dueW z l ws v), .ref q]) ∧ H' q = some (.lst ((idxs l (dueS z v)).map V.int))) ⟨same_upd hR, upd_same, [], rfl, rfl, fun j p v h => by simp at h⟩ (fun i acc H' _ h => SqL.of (h.1 _ _ hF8)) ?_ ?_⟩
      · rintro i x acc H' hx ⟨hs, hH, ps, rfl, hpl, hps⟩
        unfold tL at hx
        rw [List.getElem?_map] at hx
        obtain ⟨w, hw, rfl⟩ := Option.map_eq_some_iff.mp hx
        have hil := (List.getElem?_eq_some_iff.mp hw).1
        have hwm := hvm w (List.mem_of_getElem? hw)
        simp only [tYes]
        repeat (first | rfl' | simp only [tAlt, tMethF, rd_cz, tRev, rSum, rIndex])
        refine ⟨keeps0, z, l, D, ws, w, rfl, hs _ _ hD8, hwl, by omega, by omega, hwm.2, fun p q' H'' s'' hqn hp' hq' => ⟨s'' _ _ hH, by rw [List.length_map]; omega, CNx.mk (by unfold tL; rw [List.length_map]; exact hil) ⟨same_over (hs.trans s'') hR, upd_same, ps ++ [p], by simp, by simp [hpl], fun j p1 v1 e1 e2 => ?_⟩⟩⟩
        have hR'' := s'' _ _ hH
        by_cases hj : j < ps.length
        · rw [List.getElem?_append_left hj] at e1
          obtain ⟨q1, n1, a1, a2⟩ := hps j p1 v1 e1 e2
          refine ⟨q1, n1, ?_, ?_⟩
          · rw [upd_ne (fun e => by rw [e, hH] at a1; cases a1)]
            exact s'' _ _ a1
          · rw [upd_ne n1]
            exact s'' _ _ a2
        · have hj2 : j = ps.length := by
            have := (List.getElem?_eq_some_iff.mp e1).1
            rw [List.length_append, List.length_singleton] at this
            omega
          subst hj2
          rw [List.getElem?_append_right (Nat.le_refl _)] at e1
          have ep : p1 = p := by simpa using e1.symm
          rw [hpl, hw] at e2
          cases e2
          subst ep
          have n1 : q' ≠ R := fun e => by rw [e, hH] at hqn; cases hqn
          refine ⟨q', n1, ?_, ?_⟩
          · rw [upd_ne (fun e => by rw [e, hR''] at hp'; cases hp')]
            exact hp'
          · rw [upd_ne n1]
            exact hq'
      · rintro acc H' ⟨hs, hH, ps, rfl, hpl, hps⟩
        refine ⟨hs, R, ps, by rw [hpl]; unfold tL; rw [List.length_map], hH, fun j p v e1 e2 => ?_, rfl⟩
        obtain ⟨q1, _, a1, a2⟩ := hps j p v e1 e2
        exact ⟨q1, a1, a2⟩
    rintro σ H9 ⟨s9, R, ps, hpl, hR, hps, rfl⟩
    refine cut_by (fun σ H' => H' = H9 ∧ ∃ v9, σ = [some (.ref a), some (.str (tx l)), some (.int z), some (.ref D), some (.ref o), some (.ref W), some (.ref M), some (.ref F), some (.ref R), v9, none]) ?_ ?_
    · repeat (first | rfl' | simp only [tAlt, tMethF, rd_cz, tRev, rSum, rIndex])
      refine ⟨_, .inl ⟨_, SqL.of hR, rfl⟩, by rw [List.length_map]; omega, by rw [List.length_map]; omega, ForR.by (fun i σ H' => H' = H9 ∧ ∃ v9, σ = [some (.ref a), some (.str (tx l)), some (.int z), some (.ref D), some (.ref o), some (.ref W), some (.ref M), some (.ref F), some (.ref R), v9, none]) ⟨rfl, none, rfl⟩ ?_ ?_⟩
      · rintro i σ H' hi ⟨rfl, v9, rfl⟩
        rw [List.length_map] at hi
        have hi1 : i + 1 < ps.length := by omega
        have hi0 : i < ps.length := by omega
        repeat (first | rfl' | simp only [tAlt, tMethF, rd_cz, tRev, rSum, rIndex])
        have z1 : (0 : Int) + (i : Int) + 1 = ((i + 1 : Nat) : Int) := by omega
        have z2 : (0 : Int) + (i : Int) = ((i : Nat) : Int) := by omega
        rw [z1, z2]
        have at1 : atI (ps.map V.ref) ((i + 1 : Nat) : Int) = some (.ref ps[i + 1]) := atI_nat (by rw [List.getElem?_map, List.getElem?_eq_getElem hi1]; rfl)
        have at0 : atI (ps.map V.ref) ((i : Nat) : Int) = some (.ref ps[i]) := atI_nat (by rw [List.getElem?_map, List.getElem?_eq_getElem hi0]; rfl)
        have v1 : i + 1 < vs.length := by omega
        have v0 : i < vs.length := by omega
        have m1 := hvm _ (List.getElem_mem v1)
        have m0 := hvm _ (List.getElem_mem v0)
        obtain ⟨q1, b1, b2⟩ := hps (i + 1) ps[i + 1] vs[i + 1] (List.getElem?_eq_getElem hi1) (List.getElem?_eq_getElem v1)
        obtain ⟨q0, c1, c2⟩ := hps i ps[i] vs[i] (List.getElem?_eq_getElem hi0) (List.getElem?_eq_getElem v0)
        have nl : lessB z.toNat l ws vs[i + 1] vs[i] = false := List.pairwise_iff_getElem.mp vw i (i + 1) v0 v1 (by omega)
        refine ⟨_, SqL.of hR, _, at1, _, SqL.of hR, _, at0, ps[i + 1], q1, ps[i], q0, _, _, _, _, rfl, b1, b2, c1, c2, by rw [len_idx]; omega, by rw [len_idx]; omega, ?_⟩
        rw [less_is z0 lnd hwl hwb m1.2 m0.2, nl]
        exact ⟨_, rfl, ite2 (fun e => by cases e) fun _ => rfl⟩
      · rintro σ H' h
        exact h
    rintro σ H10 ⟨rfl, v9, rfl⟩
    have hF9 := s9 _ _ hF8
    refine cut_by (fun σ H' => Same H10 H' ∧ ∃ (U : Addr), U ≠ F ∧ H' U = some (.lst (tL vs)) ∧ σ = [some (.ref a), some (.str (tx l)), some (.int z), some (.ref D), some (.ref o), some (.ref W), some (.ref M), some (.ref F), some (.ref R), v9, some (.ref U)]) ?_ ?_
    · repeat (first | rfl' | simp only [tAlt, tMethF, rd_cz, tRev, rSum, rIndex])
      exact ⟨_, .inl (SqL.of hF9), fun E1 hE => ⟨same_upd hE, E1, (fun e => by rw [e, hF9] at hE; cases hE), upd_same, rfl⟩⟩
    rintro σ H11 ⟨s11, U, hUF, hU, rfl⟩
    have hF11 := s11 _ _ hF9
    have nF : ∀ b ob, H6 b = some ob → b ≠ F := fun b ob e z => by rw [z, hFn] at e; cases e
    have t11 := s7.trans (s8.trans (s9.trans s11))
    have hM11 := t11 _ _ hM
    have hW11 := t11 _ _ hW6
    have ho11 := ho6.same t11
    refine cut_by (fun σ H' => H' = upd H11 F (.lst (tL (vs ++ [[]]))) ∧ σ = [some (.ref a), some (.str (tx l)), some (.int z), some (.ref D), some (.ref o), some (.ref W), some (.ref M), some (.ref F), some (.ref R), v9, some (.ref U)]) ?_ ?_
    · repeat (first | rfl' | simp only [tAlt, tMethF, rd_cz, tRev, rSum, rIndex])
      exact ⟨.inl ⟨_, SqL.of hF11⟩, _, hF11, by unfold tL; rw [List.length_map]; omega, by unfold tL; rw [List.map_append]; rfl⟩
    rintro σ H12 ⟨rfl, rfl⟩
    have ho12 := ho11.updL (ys := tL (vs ++ [[]])) hF11
    have hM12 : upd H11 F (.lst (tL (vs ++ [[]]))) M = some (.lst (tL us)) := by rw [upd_ne (nF _ _ hM)]; exact hM11
    have hW12 : upd H11 F (.lst (tL (vs ++ [[]]))) W = some (.lst (tL us)) := by rw [upd_ne (nF _ _ hW6)]; exact hW11
    have hU12 : upd H11 F (.lst (tL (vs ++ [[]]))) U = some (.lst (tL vs)) := by rw [upd_ne hUF]; exact hU
    obtain ⟨C, dx, fs, hf, ho1, hn, _⟩ := ho12.fam
    have h1 : fs.lookup ("ranked" : Str) = none := hn _ (by decide) (by decide)
    repeat (first | rfl' | simp only [tAlt, tMethF, rd_cz, tRev, rSum, rIndex])
    refine ⟨C, hf, dx, fs, ho1, h1, o, M, z.toNat, l, ws, us, rfl, ho12, hG, hM12, hul, hub', fun F2 vs2 H' s' p1 p2 _ p4 => ?_⟩
    have e : vs2 = vs := sorted_uniq (p1.trans vp.symm) (fun w hw => (hub w (p1.mem_iff.mp hw)).2) p2 vw
    subst e
    refine use_eqL (.inl ⟨is_strs p4, is_strs (s' _ _ hU12)⟩) (Nat.lt_of_le_of_lt (dp_strs _) (by decide)) ⟨_, rfl, ite2 (fun _ => use_eqL (.inl ⟨is_strs (s' _ _ hM12), is_strs (s' _ _ hW12)⟩) (Nat.lt_of_le_of_lt (dp_strs _) (by decide)) ?_) fun e => absurd (eqDs_refl _) e⟩
    rw [eqDs_refl]
    exact q _

end
theorem len1 {us : List Value} (h : us.length = 1) : ∃ a, us = [a] := List.length_eq_one_iff.mp h
theorem len2 {us : List Value} (h : us.length = 2) : ∃ a0 a1, us = [a0, a1] := by
  cases us with
  | nil => cases h
  | cons a r =>
    obtain ⟨a1, rfl⟩ := len1 (Nat.succ.inj h)
    exact ⟨a, a1, rfl⟩
theorem len3 {us : List Value} (h : us.length = 3) : ∃ a0 a1 a2, us = [a0, a1, a2] := by
  cases us with
  | nil => cases h
  | cons a r =>
    obtain ⟨a1, a2, rfl⟩ := len2 (Nat.succ.inj h)
    exact ⟨a, a1, a2, rfl⟩
theorem len4 {us : List Value} (h : us.length = 4) : ∃ a0 a1 a2 a3, us = [a0, a1, a2, a3] := by
  cases us with
  | nil => cases h
  | cons a r =>
    obtain ⟨a1, a2, a3, rfl⟩ := len3 (Nat.succ.inj h)
    exact ⟨a, a1, a2, a3, rfl⟩
theorem len5 {us : List Value} (h : us.length = 5) : ∃ a0 a1 a2 a3 a4, us = [a0, a1, a2, a3, a4] := by
  cases us with
  | nil => cases h
  | cons a r =>
    obtain ⟨a1, a2, a3, a4, rfl⟩ := len4 (Nat.succ.inj h)
    exact ⟨a, a1, a2, a3, a4, rfl⟩
theorem len6 {us : List Value} (h : us.length = 6) : ∃ a0 a1 a2 a3 a4 a5, us = [a0, a1, a2, a3, a4, a5] := by
  cases us with
  | nil => cases h
  | cons a r =>
    obtain ⟨a1, a2, a3, a4, a5, rfl⟩ := len5 (Nat.succ.inj h)
    exact ⟨a, a1, a2, a3, a4, a5, rfl⟩
theorem len7 {us : List Value} (h : us.length = 7) : ∃ a0 a1 a2 a3 a4 a5 a6, us = [a0, a1, a2, a3, a4, a5, a6] := by
  cases us with
  | nil => cases h
  | cons a r =>
    obtain ⟨a1, a2, a3, a4, a5, a6, rfl⟩ := len6 (Nat.succ.inj h)
    exact ⟨a, a1, a2, a3, a4, a5, a6, rfl⟩
theorem all_mk {l : PySem.W.OpenLaw} {w : World} {K : PySem.W.Frag} {h : Heap} {mg : Str → Option Value} {fa f0 f1 f2 f3 f4 f5 f6 f7 f8 f9 f10 f11 f12 c_LetterError c_NoLetters c_NoOrder c_Order c_FromRight c_ByWeights : Addr} (X : K.In h) (G : h.Ns mainGlobals mg) (hfa : mg "law" = some (.ref fa))
    {od0 an0 : Option Addr} {sl0 : Array (Option Value)} {oc0 kV0 dc0 pm0 cd0 ct0 : Value}
    {od1 an1 : Option Addr} {sl1 : Array (Option Value)} {oc1 kV1 dc1 pm1 cd1 ct1 : Value}
    {od2 an2 : Option Addr} {sl2 : Array (Option Value)} {oc2 kV2 dc2 pm2 cd2 ct2 : Value}
    {od3 an3 : Option Addr} {sl3 : Array (Option Value)} {oc3 kV3 dc3 pm3 cd3 ct3 : Value}
    {od4 an4 : Option Addr} {sl4 : Array (Option Value)} {oc4 kV4 dc4 pm4 cd4 ct4 : Value}
    {od5 an5 : Option Addr} {sl5 : Array (Option Value)} {oc5 kV5 dc5 pm5 cd5 ct5 : Value}
    {od6 an6 : Option Addr} {sl6 : Array (Option Value)} {oc6 kV6 dc6 pm6 cd6 ct6 : Value}
    {od7 an7 : Option Addr} {sl7 : Array (Option Value)} {oc7 kV7 dc7 pm7 cd7 ct7 : Value}
    {od8 an8 : Option Addr} {sl8 : Array (Option Value)} {oc8 kV8 dc8 pm8 cd8 ct8 : Value}
    {od9 an9 : Option Addr} {sl9 : Array (Option Value)} {oc9 kV9 dc9 pm9 cd9 ct9 : Value}
    {od10 an10 : Option Addr} {sl10 : Array (Option Value)} {oc10 kV10 dc10 pm10 cd10 ct10 : Value}
    {od11 an11 : Option Addr} {sl11 : Array (Option Value)} {oc11 kV11 dc11 pm11 cd11 ct11 : Value}
    {od12 an12 : Option Addr} {sl12 : Array (Option Value)} {oc12 kV12 dc12 pm12 cd12 ct12 : Value}
    {t6 t7 : Tok}
    {fm_order_init : Addr}
    {od_order_init an_order_init : Option Addr}
    {sl_order_init : Array (Option Value)}
    {oc_order_init kV_order_init dc_order_init pm_order_init cd_order_init ct_order_init : Value}
    {fm_order_weight : Addr}
    {od_order_weight an_order_weight : Option Addr}
    {sl_order_weight : Array (Option Value)}
    {oc_order_weight kV_order_weight dc_order_weight pm_order_weight cd_order_weight ct_order_weight : Value}
    {fm_order_seen : Addr}
    {od_order_seen an_order_seen : Option Addr}
    {sl_order_seen : Array (Option Value)}
    {oc_order_seen kV_order_seen dc_order_seen pm_order_seen cd_order_seen ct_order_seen : Value}
    {fm_fromright_seen : Addr}
    {od_fromright_seen an_fromright_seen : Option Addr}
    {sl_fromright_seen : Array (Option Value)}
    {oc_fromright_seen kV_fromright_seen dc_fromright_seen pm_fromright_seen cd_fromright_seen ct_fromright_seen : Value}
    {fm_byweights_init : Addr}
    {od_byweights_init an_byweights_init : Option Addr}
    {sl_byweights_init : Array (Option Value)}
    {oc_byweights_init kV_byweights_init dc_byweights_init pm_byweights_init cd_byweights_init ct_byweights_init : Value}
    {fm_byweights_weight : Addr}
    {od_byweights_weight an_byweights_weight : Option Addr}
    {sl_byweights_weight : Array (Option Value)}
    {oc_byweights_weight kV_byweights_weight dc_byweights_weight pm_byweights_weight cd_byweights_weight ct_byweights_weight : Value}
    {fm_order_rank : Addr}
    {od_order_rank an_order_rank : Option Addr}
    {sl_order_rank : Array (Option Value)}
    {oc_order_rank kV_order_rank dc_order_rank pm_order_rank cd_order_rank ct_order_rank : Value}
    {fm_order_ranked : Addr}
    {od_order_ranked an_order_ranked : Option Addr}
    {sl_order_ranked : Array (Option Value)}
    {oc_order_ranked kV_order_ranked dc_order_ranked pm_order_ranked cd_order_ranked ct_order_ranked : Value}
    (a0 : PySem.W.nsIn K mainGlobals "is_small_letter" = some (some (.ref f0))) (l0 : K.lookup f0 = some ⟨oc0, od0, .func (PySem.W.fnOf "is_small_letter" "is_small_letter" (defArgs s_is_small_letter) (defBody s_is_small_letter) (defScope s_is_small_letter) .none kV0 dc0 pm0 an0 cd0 ct0), sl0⟩) (k0 : PySem.W.codeIn K cd0 "is_small_letter" = true) (p0 : PySem.W.keepIn K (.ref f0) = true)
    (a1 : PySem.W.nsIn K mainGlobals "letters_of" = some (some (.ref f1))) (l1 : K.lookup f1 = some ⟨oc1, od1, .func (PySem.W.fnOf "letters_of" "letters_of" (defArgs s_letters_of) (defBody s_letters_of) (defScope s_letters_of) .none kV1 dc1 pm1 an1 cd1 ct1), sl1⟩) (k1 : PySem.W.codeIn K cd1 "letters_of" = true) (p1 : PySem.W.keepIn K (.ref f1) = true)
    (a2 : PySem.W.nsIn K mainGlobals "_law_cell_at" = some (some (.ref f2))) (l2 : K.lookup f2 = some ⟨oc2, od2, .func (PySem.W.fnOf "_law_cell_at" "_law_cell_at" (defArgs s_cell_at) (defBody s_cell_at) (defScope s_cell_at) .none kV2 dc2 pm2 an2 cd2 ct2), sl2⟩) (k2 : PySem.W.codeIn K cd2 "_law_cell_at" = true) (p2 : PySem.W.keepIn K (.ref f2) = true)
    (a3 : PySem.W.nsIn K mainGlobals "_law_letters" = some (some (.ref f3))) (l3 : K.lookup f3 = some ⟨oc3, od3, .func (PySem.W.fnOf "_law_letters" "_law_letters" (defArgs s_letters) (defBody s_letters) (defScope s_letters) .none kV3 dc3 pm3 an3 cd3 ct3), sl3⟩) (k3 : PySem.W.codeIn K cd3 "_law_letters" = true) (p3 : PySem.W.keepIn K (.ref f3) = true)
    (a4 : PySem.W.nsIn K mainGlobals "_law_word" = some (some (.ref f4))) (l4 : K.lookup f4 = some ⟨oc4, od4, .func (PySem.W.fnOf "_law_word" "_law_word" (defArgs s_word) (defBody s_word) (defScope s_word) .none kV4 dc4 pm4 an4 cd4 ct4), sl4⟩) (k4 : PySem.W.codeIn K cd4 "_law_word" = true) (p4 : PySem.W.keepIn K (.ref f4) = true)
    (a5 : PySem.W.nsIn K mainGlobals "_law_weights" = some (some (.ref f5))) (l5 : K.lookup f5 = some ⟨oc5, od5, .func (PySem.W.fnOf "_law_weights" "_law_weights" (defArgs s_weights) (defBody s_weights) (defScope s_weights) .none kV5 dc5 pm5 an5 cd5 ct5), sl5⟩) (k5 : PySem.W.codeIn K cd5 "_law_weights" = true) (p5 : PySem.W.keepIn K (.ref f5) = true)
    (a6 : PySem.W.nsIn K mainGlobals "_law_order" = some (some (.ref f6))) (l6 : K.lookup f6 = some ⟨oc6, od6, .func (PySem.W.fnOf "_law_order" "_law_order" (defArgs s_order) (defBody s_order) (defScope s_order) .none kV6 dc6 pm6 an6 cd6 ct6), sl6⟩) (k6 : PySem.W.codeIn K cd6 "_law_order" = true) (p6 : PySem.W.keepIn K (.ref f6) = true)
    (a7 : PySem.W.nsIn K mainGlobals "_law_rank" = some (some (.ref f7))) (l7 : K.lookup f7 = some ⟨oc7, od7, .func (PySem.W.fnOf "_law_rank" "_law_rank" (defArgs s_rank) (defBody s_rank) (defScope s_rank) .none kV7 dc7 pm7 an7 cd7 ct7), sl7⟩) (k7 : PySem.W.codeIn K cd7 "_law_rank" = true) (p7 : PySem.W.keepIn K (.ref f7) = true)
    (a8 : PySem.W.nsIn K mainGlobals "_law_less" = some (some (.ref f8))) (l8 : K.lookup f8 = some ⟨oc8, od8, .func (PySem.W.fnOf "_law_less" "_law_less" (defArgs s_less) (defBody s_less) (defScope s_less) .none kV8 dc8 pm8 an8 cd8 ct8), sl8⟩) (k8 : PySem.W.codeIn K cd8 "_law_less" = true) (p8 : PySem.W.keepIn K (.ref f8) = true)
    (a9 : PySem.W.nsIn K mainGlobals "_law_other" = some (some (.ref f9))) (l9 : K.lookup f9 = some ⟨oc9, od9, .func (PySem.W.fnOf "_law_other" "_law_other" (defArgs s_other) (defBody s_other) (defScope s_other) .none kV9 dc9 pm9 an9 cd9 ct9), sl9⟩) (k9 : PySem.W.codeIn K cd9 "_law_other" = true) (p9 : PySem.W.keepIn K (.ref f9) = true)
    (a10 : PySem.W.nsIn K mainGlobals "_law_words" = some (some (.ref f10))) (l10 : K.lookup f10 = some ⟨oc10, od10, .func (PySem.W.fnOf "_law_words" "_law_words" (defArgs s_words) (defBody s_words) (defScope s_words) .none kV10 dc10 pm10 an10 cd10 ct10), sl10⟩) (k10 : PySem.W.codeIn K cd10 "_law_words" = true) (p10 : PySem.W.keepIn K (.ref f10) = true)
    (a11 : PySem.W.nsIn K mainGlobals "_law_same_words" = some (some (.ref f11))) (l11 : K.lookup f11 = some ⟨oc11, od11, .func (PySem.W.fnOf "_law_same_words" "_law_same_words" (defArgs s_same_words) (defBody s_same_words) (defScope s_same_words) .none kV11 dc11 pm11 an11 cd11 ct11), sl11⟩) (k11 : PySem.W.codeIn K cd11 "_law_same_words" = true) (p11 : PySem.W.keepIn K (.ref f11) = true)
    (a12 : PySem.W.nsIn K mainGlobals "law" = some (some (.ref f12))) (l12 : K.lookup f12 = some ⟨oc12, od12, .func (PySem.W.fnOf "law" "law" (defArgs s_law) (defBody s_law) (defScope s_law) .none kV12 dc12 pm12 an12 cd12 ct12), sl12⟩) (k12 : PySem.W.codeIn K cd12 "law" = true) (p12 : PySem.W.keepIn K (.ref f12) = true)
    (g_LetterError : PySem.W.nsIn K mainGlobals "LetterError" = some (some (.ref c_LetterError)))
    (g_NoLetters : PySem.W.nsIn K mainGlobals "NoLetters" = some (some (.ref c_NoLetters)))
    (g_NoOrder : PySem.W.nsIn K mainGlobals "NoOrder" = some (some (.ref c_NoOrder)))
    (g_Order : PySem.W.nsIn K mainGlobals "Order" = some (some (.ref c_Order)))
    (g_FromRight : PySem.W.nsIn K mainGlobals "FromRight" = some (some (.ref c_FromRight)))
    (g_ByWeights : PySem.W.nsIn K mainGlobals "ByWeights" = some (some (.ref c_ByWeights)))
    (kl : PySem.W.kitOne K (.type "list") (.type "list") = some true)
    (ks : PySem.W.kitOne K (.type "str") (.type "str") = some true)
    (x7 : PySem.W.specialIn K (.builtin "object.__class__") "__get__" = some (some (.builtin "getset_descriptor.__get__")))
    (x8 : PySem.W.takesIn K (.builtin "object.__class__") = some true)
    (x1 : xcIn K c_NoLetters = true)
    (x2 : PySem.W.findIn K (.ref c_NoLetters) "__setattr__" = some (some (.builtin "object.__setattr__")))
    (x3 : PySem.W.findIn K (.ref c_NoLetters) "__getattribute__" = some (some (.builtin "BaseException.__getattribute__")))
    (x4 : PySem.W.findIn K (.ref c_NoLetters) "__getattr__" = some none)
    (x5 : PySem.W.keepIn K (.ref c_NoLetters) = true)
    (x6 : PySem.W.findIn K (.ref c_NoLetters) "__class__" = some (some (.builtin "object.__class__")))
    (x9 : PySem.W.mroIn K c_NoLetters (.type "object") = some true)
    (xi : PySem.W.findIn K (.ref c_NoLetters) "__init__" = some (some (.builtin "ValueError.__init__")))
    (y1 : xcIn K c_NoOrder = true)
    (y2 : PySem.W.findIn K (.ref c_NoOrder) "__setattr__" = some (some (.builtin "object.__setattr__")))
    (y3 : PySem.W.findIn K (.ref c_NoOrder) "__getattribute__" = some (some (.builtin "BaseException.__getattribute__")))
    (y4 : PySem.W.findIn K (.ref c_NoOrder) "__getattr__" = some none)
    (y5 : PySem.W.keepIn K (.ref c_NoOrder) = true)
    (y6 : PySem.W.findIn K (.ref c_NoOrder) "__class__" = some (some (.builtin "object.__class__")))
    (y9 : PySem.W.mroIn K c_NoOrder (.type "object") = some true)
    (yi : PySem.W.findIn K (.ref c_NoOrder) "__init__" = some (some (.builtin "ValueError.__init__")))
    (most : PySem.W.nsIn K mainGlobals "MOST_LETTERS" = some (some (.int 6 t6)))
    (mostw : PySem.W.nsIn K mainGlobals "MOST_WEIGHT" = some (some (.int 1000000 t7)))
    (pg_Order : PySem.W.plainGet K c_Order Str.empty = true)
    (hd_Order : PySem.W.hasDictIn K c_Order = true)
    (po_Order : PySem.W.plainOver K c_Order = true)
    (sa_Order : PySem.W.findIn K (.ref c_Order) "__setattr__" = some (some (.builtin "object.__setattr__")))
    (mk_Order : PySem.W.makesIn K c_Order = true)
    (kc_Order : PySem.W.keepIn K (.ref c_Order) = true)
    (nl_Order : PySem.W.findIn K (.ref c_Order) "letters" = some none)
    (ka_Order : PySem.W.kitOne K (.ref c_Order) (.ref c_Order) = some true)
    (cl_Order : PySem.W.findIn K (.ref c_Order) "__class__" = some (some (.builtin "object.__class__")))
    (mr_Order : PySem.W.mroIn K c_Order (.type "object") = some true)
    (pg_FromRight : PySem.W.plainGet K c_FromRight Str.empty = true)
    (hd_FromRight : PySem.W.hasDictIn K c_FromRight = true)
    (po_FromRight : PySem.W.plainOver K c_FromRight = true)
    (sa_FromRight : PySem.W.findIn K (.ref c_FromRight) "__setattr__" = some (some (.builtin "object.__setattr__")))
    (mk_FromRight : PySem.W.makesIn K c_FromRight = true)
    (kc_FromRight : PySem.W.keepIn K (.ref c_FromRight) = true)
    (nl_FromRight : PySem.W.findIn K (.ref c_FromRight) "letters" = some none)
    (ka_FromRight : PySem.W.kitOne K (.ref c_FromRight) (.ref c_Order) = some true)
    (cl_FromRight : PySem.W.findIn K (.ref c_FromRight) "__class__" = some (some (.builtin "object.__class__")))
    (mr_FromRight : PySem.W.mroIn K c_FromRight (.type "object") = some true)
    (pg_ByWeights : PySem.W.plainGet K c_ByWeights Str.empty = true)
    (hd_ByWeights : PySem.W.hasDictIn K c_ByWeights = true)
    (po_ByWeights : PySem.W.plainOver K c_ByWeights = true)
    (sa_ByWeights : PySem.W.findIn K (.ref c_ByWeights) "__setattr__" = some (some (.builtin "object.__setattr__")))
    (mk_ByWeights : PySem.W.makesIn K c_ByWeights = true)
    (kc_ByWeights : PySem.W.keepIn K (.ref c_ByWeights) = true)
    (nl_ByWeights : PySem.W.findIn K (.ref c_ByWeights) "letters" = some none)
    (ka_ByWeights : PySem.W.kitOne K (.ref c_ByWeights) (.ref c_Order) = some true)
    (cl_ByWeights : PySem.W.findIn K (.ref c_ByWeights) "__class__" = some (some (.builtin "object.__class__")))
    (mr_ByWeights : PySem.W.mroIn K c_ByWeights (.type "object") = some true)
    (nw_ByWeights : PySem.W.findIn K (.ref c_ByWeights) "weights" = some none)
    (sgO : PySem.W.specialIn K (.ref c_Order) "__getattribute__" = some (some (.builtin "type.__getattribute__")))
    (rdO : PySem.W.readsIn K c_Order (.type "type") = true)
    (nmin : PySem.W.nsIn K mainGlobals "min" = some none)
    (nsorted : PySem.W.nsIn K mainGlobals "sorted" = some none)
    (fi_order_init : PySem.W.findIn K (.ref c_Order) "__init__" = some (some (.ref fm_order_init)))
    (lo_order_init : K.lookup fm_order_init = some ⟨oc_order_init, od_order_init, .func (PySem.W.fnOf "__init__" "Order.__init__" (defArgs s_order_init) (defBody s_order_init) (defScope s_order_init) .none kV_order_init dc_order_init pm_order_init an_order_init cd_order_init ct_order_init), sl_order_init⟩)
    (co_order_init : PySem.W.codeIn K cd_order_init "Order.__init__" = true)
    (ke_order_init : PySem.W.keepIn K (.ref fm_order_init) = true)
    (fn_order_init : PySem.W.isFn K (.ref fm_order_init) = true)
    (fi_order_weight : PySem.W.findIn K (.ref c_Order) "weight" = some (some (.ref fm_order_weight)))
    (lo_order_weight : K.lookup fm_order_weight = some ⟨oc_order_weight, od_order_weight, .func (PySem.W.fnOf "weight" "Order.weight" (defArgs s_order_weight) (defBody s_order_weight) (defScope s_order_weight) .none kV_order_weight dc_order_weight pm_order_weight an_order_weight cd_order_weight ct_order_weight), sl_order_weight⟩)
    (co_order_weight : PySem.W.codeIn K cd_order_weight "Order.weight" = true)
    (ke_order_weight : PySem.W.keepIn K (.ref fm_order_weight) = true)
    (fn_order_weight : PySem.W.isFn K (.ref fm_order_weight) = true)
    (fi_order_seen : PySem.W.findIn K (.ref c_Order) "seen" = some (some (.ref fm_order_seen)))
    (lo_order_seen : K.lookup fm_order_seen = some ⟨oc_order_seen, od_order_seen, .func (PySem.W.fnOf "seen" "Order.seen" (defArgs s_order_seen) (defBody s_order_seen) (defScope s_order_seen) .none kV_order_seen dc_order_seen pm_order_seen an_order_seen cd_order_seen ct_order_seen), sl_order_seen⟩)
    (co_order_seen : PySem.W.codeIn K cd_order_seen "Order.seen" = true)
    (ke_order_seen : PySem.W.keepIn K (.ref fm_order_seen) = true)
    (fn_order_seen : PySem.W.isFn K (.ref fm_order_seen) = true)
    (fi_fromright_seen : PySem.W.findIn K (.ref c_FromRight) "seen" = some (some (.ref fm_fromright_seen)))
    (lo_fromright_seen : K.lookup fm_fromright_seen = some ⟨oc_fromright_seen, od_fromright_seen, .func (PySem.W.fnOf "seen" "FromRight.seen" (defArgs s_fromright_seen) (defBody s_fromright_seen) (defScope s_fromright_seen) .none kV_fromright_seen dc_fromright_seen pm_fromright_seen an_fromright_seen cd_fromright_seen ct_fromright_seen), sl_fromright_seen⟩)
    (co_fromright_seen : PySem.W.codeIn K cd_fromright_seen "FromRight.seen" = true)
    (ke_fromright_seen : PySem.W.keepIn K (.ref fm_fromright_seen) = true)
    (fn_fromright_seen : PySem.W.isFn K (.ref fm_fromright_seen) = true)
    (fi_byweights_init : PySem.W.findIn K (.ref c_ByWeights) "__init__" = some (some (.ref fm_byweights_init)))
    (lo_byweights_init : K.lookup fm_byweights_init = some ⟨oc_byweights_init, od_byweights_init, .func (PySem.W.fnOf "__init__" "ByWeights.__init__" (defArgs s_byweights_init) (defBody s_byweights_init) (defScope s_byweights_init) .none kV_byweights_init dc_byweights_init pm_byweights_init an_byweights_init cd_byweights_init ct_byweights_init), sl_byweights_init⟩)
    (co_byweights_init : PySem.W.codeIn K cd_byweights_init "ByWeights.__init__" = true)
    (ke_byweights_init : PySem.W.keepIn K (.ref fm_byweights_init) = true)
    (fn_byweights_init : PySem.W.isFn K (.ref fm_byweights_init) = true)
    (fi_byweights_weight : PySem.W.findIn K (.ref c_ByWeights) "weight" = some (some (.ref fm_byweights_weight)))
    (lo_byweights_weight : K.lookup fm_byweights_weight = some ⟨oc_byweights_weight, od_byweights_weight, .func (PySem.W.fnOf "weight" "ByWeights.weight" (defArgs s_byweights_weight) (defBody s_byweights_weight) (defScope s_byweights_weight) .none kV_byweights_weight dc_byweights_weight pm_byweights_weight an_byweights_weight cd_byweights_weight ct_byweights_weight), sl_byweights_weight⟩)
    (co_byweights_weight : PySem.W.codeIn K cd_byweights_weight "ByWeights.weight" = true)
    (ke_byweights_weight : PySem.W.keepIn K (.ref fm_byweights_weight) = true)
    (fn_byweights_weight : PySem.W.isFn K (.ref fm_byweights_weight) = true)
    (fi_order_rank : PySem.W.findIn K (.ref c_Order) "rank" = some (some (.ref fm_order_rank)))
    (lo_order_rank : K.lookup fm_order_rank = some ⟨oc_order_rank, od_order_rank, .func (PySem.W.fnOf "rank" "Order.rank" (defArgs s_order_rank) (defBody s_order_rank) (defScope s_order_rank) .none kV_order_rank dc_order_rank pm_order_rank an_order_rank cd_order_rank ct_order_rank), sl_order_rank⟩)
    (co_order_rank : PySem.W.codeIn K cd_order_rank "Order.rank" = true)
    (ke_order_rank : PySem.W.keepIn K (.ref fm_order_rank) = true)
    (fn_order_rank : PySem.W.isFn K (.ref fm_order_rank) = true)
    (fi_order_ranked : PySem.W.findIn K (.ref c_Order) "ranked" = some (some (.ref fm_order_ranked)))
    (lo_order_ranked : K.lookup fm_order_ranked = some ⟨oc_order_ranked, od_order_ranked, .func (PySem.W.fnOf "ranked" "Order.ranked" (defArgs s_order_ranked) (defBody s_order_ranked) (defScope s_order_ranked) .none kV_order_ranked dc_order_ranked pm_order_ranked an_order_ranked cd_order_ranked ct_order_ranked), sl_order_ranked⟩)
    (co_order_ranked : PySem.W.codeIn K cd_order_ranked "Order.ranked" = true)
    (ke_order_ranked : PySem.W.keepIn K (.ref fm_order_ranked) = true)
    (fn_order_ranked : PySem.W.isFn K (.ref fm_order_ranked) = true)
    (fcO : PySem.W.findCls K (.ref c_Order) (.type "type") "__init__" = some (.val (.ref fm_order_init)))
    (fiR_init : PySem.W.findIn K (.ref c_FromRight) "__init__" = some (some (.ref fm_order_init)))
    (fiR_weight : PySem.W.findIn K (.ref c_FromRight) "weight" = some (some (.ref fm_order_weight)))
    (fiW_seen : PySem.W.findIn K (.ref c_ByWeights) "seen" = some (some (.ref fm_order_seen)))
    (fiR_rank : PySem.W.findIn K (.ref c_FromRight) "rank" = some (some (.ref fm_order_rank)))
    (fiW_rank : PySem.W.findIn K (.ref c_ByWeights) "rank" = some (some (.ref fm_order_rank)))
    (bgR : PySem.W.specialIn K (.ref fm_order_rank) "__get__" = some (some (.builtin "function.__get__")))
    (btR : PySem.W.takesIn K (.ref fm_order_rank) = some false)
    (fiR_ranked : PySem.W.findIn K (.ref c_FromRight) "ranked" = some (some (.ref fm_order_ranked)))
    (fiW_ranked : PySem.W.findIn K (.ref c_ByWeights) "ranked" = some (some (.ref fm_order_ranked)))
    (b0 : PySem.W.nsIn K mainGlobals "len" = some none)
    (b1 : PySem.W.nsIn K mainGlobals "range" = some none)
    (b2 : PySem.W.nsIn K mainGlobals "isinstance" = some none)
    (b3 : PySem.W.nsIn K mainGlobals "str" = some none)
    (b4 : PySem.W.nsIn K mainGlobals "int" = some none)
    (b5 : PySem.W.nsIn K mainGlobals "tuple" = some none)
    (b6 : PySem.W.nsIn K mainGlobals "list" = some none)
    (b7 : PySem.W.nsIn K mainGlobals "bool" = some none)
    (b8 : PySem.W.nsIn K mainGlobals "enumerate" = some none)
    (b9 : PySem.W.nsIn K mainGlobals "all" = some none)
    (b10 : PySem.W.nsIn K mainGlobals "ValueError" = some none)
    (b11 : PySem.W.nsIn K mainGlobals "max" = some none)
    (b12 : PySem.W.nsIn K mainGlobals "reversed" = some none)
    (b13 : PySem.W.nsIn K mainGlobals "zip" = some none)
    (b14 : PySem.W.nsIn K mainGlobals "sum" = some none)
    (b15 : PySem.W.nsIn K mainGlobals "sorted" = some none)
    : ∃ fd : FuncData, (∀ (s : Shared) (v : Value), BindsTo s fd ⟨[v], []⟩ [("_law_script", v)]) ∧ ∀ base : Heap, K.In base → base.Ns mainGlobals mg → FnOk l.prog w K mg base CX0 7 fa fd ["_law_script"] (sp_law K) := by
  have e := hfa.symm.trans (PySem.W.mg_of X G a12)
  cases e
  have B : Bt mg := ⟨PySem.W.mg_none_of X G b0, PySem.W.mg_none_of X G b1, PySem.W.mg_none_of X G b2, PySem.W.mg_none_of X G b3, PySem.W.mg_none_of X G b4, PySem.W.mg_none_of X G b5, PySem.W.mg_none_of X G b6, PySem.W.mg_none_of X G b7, PySem.W.mg_none_of X G b8, PySem.W.mg_none_of X G b9, PySem.W.mg_none_of X G b10, PySem.W.mg_none_of X G b11, PySem.W.mg_none_of X G b12, PySem.W.mg_none_of X G b13, PySem.W.mg_none_of X G b14, PySem.W.mg_none_of X G b15⟩
  have F0 := fun_mk (st := s_is_small_letter) l0 k0 p0
  have B0 := F0.binds (ps := ["sign"]) fun _ _ _ _ _ _ us hl => by obtain ⟨_, rfl⟩ := len1 hl; rfl
  have M0 := PySem.W.mg_of X G a0
  have F1 := fun_mk (st := s_letters_of) l1 k1 p1
  have B1 := F1.binds (ps := ["text"]) fun _ _ _ _ _ _ us hl => by obtain ⟨_, rfl⟩ := len1 hl; rfl
  have M1 := PySem.W.mg_of X G a1
  have F2 := fun_mk (st := s_cell_at) l2 k2 p2
  have B2 := F2.binds (ps := ["_law_script", "_law_k"]) fun _ _ _ _ _ _ us hl => by obtain ⟨_, _, rfl⟩ := len2 hl; rfl
  have M2 := PySem.W.mg_of X G a2
  have F3 := fun_mk (st := s_letters) l3 k3 p3
  have B3 := F3.binds (ps := ["_law_cell", "_law_many"]) fun _ _ _ _ _ _ us hl => by obtain ⟨_, _, rfl⟩ := len2 hl; rfl
  have M3 := PySem.W.mg_of X G a3
  have F4 := fun_mk (st := s_word) l4 k4 p4
  have B4 := F4.binds (ps := ["_law_letters_here", "_law_cell", "_law_size"]) fun _ _ _ _ _ _ us hl => by obtain ⟨_, _, _, rfl⟩ := len3 hl; rfl
  have M4 := PySem.W.mg_of X G a4
  have F5 := fun_mk (st := s_weights) l5 k5 p5
  have B5 := F5.binds (ps := ["_law_cell", "_law_many"]) fun _ _ _ _ _ _ us hl => by obtain ⟨_, _, rfl⟩ := len2 hl; rfl
  have M5 := PySem.W.mg_of X G a5
  have F6 := fun_mk (st := s_order) l6 k6 p6
  have B6 := F6.binds (ps := ["_law_kind", "_law_letters_here", "_law_weights_here"]) fun _ _ _ _ _ _ us hl => by obtain ⟨_, _, _, rfl⟩ := len3 hl; rfl
  have M6 := PySem.W.mg_of X G a6
  have F7 := fun_mk (st := s_rank) l7 k7 p7
  have B7 := F7.binds (ps := ["_law_kind", "_law_letters_here", "_law_weights_here", "_law_word_here"]) fun _ _ _ _ _ _ us hl => by obtain ⟨_, _, _, _, rfl⟩ := len4 hl; rfl
  have M7 := PySem.W.mg_of X G a7
  have F8 := fun_mk (st := s_less) l8 k8 p8
  have B8 := F8.binds (ps := ["_law_one", "_law_other_here"]) fun _ _ _ _ _ _ us hl => by obtain ⟨_, _, rfl⟩ := len2 hl; rfl
  have M8 := PySem.W.mg_of X G a8
  have F9 := fun_mk (st := s_other) l9 k9 p9
  have B9 := F9.binds (ps := ["_law_letters_here", "_law_word_here", "_law_cell"]) fun _ _ _ _ _ _ us hl => by obtain ⟨_, _, _, rfl⟩ := len3 hl; rfl
  have M9 := PySem.W.mg_of X G a9
  have F10 := fun_mk (st := s_words) l10 k10 p10
  have B10 := F10.binds (ps := ["_law_letters_here", "_law_cells"]) fun _ _ _ _ _ _ us hl => by obtain ⟨_, _, rfl⟩ := len2 hl; rfl
  have M10 := PySem.W.mg_of X G a10
  have F11 := fun_mk (st := s_same_words) l11 k11 p11
  have B11 := F11.binds (ps := ["_law_found", "_law_words_here"]) fun _ _ _ _ _ _ us hl => by obtain ⟨_, _, rfl⟩ := len2 hl; rfl
  have M11 := PySem.W.mg_of X G a11
  have F12 := fun_mk (st := s_law) l12 k12 p12
  have B12 := F12.binds (ps := ["_law_script"]) fun _ _ _ _ _ _ us hl => by obtain ⟨_, rfl⟩ := len1 hl; rfl
  have M12 := PySem.W.mg_of X G a12
  refine ⟨PySem.W.fnOf "law" "law" (defArgs s_law) (defBody s_law) (defScope s_law) .none kV12 dc12 pm12 an12 cd12 ct12, fun s v => .of_eq rfl, fun base _ _ => ?_⟩
  have XIl : XI K c_NoLetters := ⟨⟨x1, x2, x3, x4, x5⟩, x6, x7, x8, x9⟩
  have XIo : XI K c_NoOrder := ⟨⟨y1, y2, y3, y4, y5⟩, y6, x7, x8, y9⟩
  have TL : TLet K mg c_NoLetters := ⟨XIl, xi, PySem.W.mg_of X G g_NoLetters, t6, PySem.W.mg_of X G most⟩
  have TN : TNoO K mg c_NoOrder := ⟨XIo, yi, PySem.W.mg_of X G g_NoOrder, t7, PySem.W.mg_of X G mostw⟩
  have TO : TOrd K mg c_Order c_FromRight c_ByWeights := ⟨⟨pg_Order, hd_Order, po_Order, sa_Order⟩, ⟨pg_FromRight, hd_FromRight, po_FromRight, sa_FromRight⟩, ⟨pg_ByWeights, hd_ByWeights, po_ByWeights, sa_ByWeights⟩, PySem.W.mg_of X G g_Order, PySem.W.mg_of X G g_FromRight, PySem.W.mg_of X G g_ByWeights, nl_Order, nl_FromRight, nl_ByWeights, nw_ByWeights⟩
  have D0 : Df l.prog w K mg base CX0 1 "is_small_letter" ["sign"] [] sp_small := ⟨_, _, ok_small F0, M0, p0, B0⟩
  have D1 : Df l.prog w K mg base (CXx l.prog w) 2 "letters_of" ["text"] [] (sp_letters_of c_NoLetters) := ⟨_, _, ok_letters_of B TL F1 D0, M1, p1, B1⟩
  have FM_order_init := fun_mk (st := s_order_init) lo_order_init co_order_init ke_order_init
  have BM_order_init := FM_order_init.binds (ps := ["self", "letters"]) fun _ _ _ _ _ _ us hl => by obtain ⟨_, _, rfl⟩ := len2 hl; rfl
  have MM_order_init : DMk l.prog w K mg base CX0 3 c_Order ["self", "letters"] (sp_oinit K) := ⟨_, _, ⟨mk_Order, fi_order_init, fn_order_init, kc_Order⟩, ok_order_init B FM_order_init D1, BM_order_init⟩
  have DI : DOI l.prog w K mg base c_Order := ⟨_, _, ⟨sgO, rdO, fcO, ke_order_init⟩, ok_order_init B FM_order_init D1, BM_order_init⟩
  have FM_order_weight := fun_mk (st := s_order_weight) lo_order_weight co_order_weight ke_order_weight
  have BM_order_weight := FM_order_weight.binds (ps := ["self", "word"]) fun _ _ _ _ _ _ us hl => by obtain ⟨_, _, rfl⟩ := len2 hl; rfl
  have MM_order_weight : DM l.prog w K mg base CX0 1 c_Order "weight" ["self", "word"] sp_wlen := ⟨_, _, ⟨fi_order_weight, fn_order_weight, ke_order_weight⟩, ok_order_weight B FM_order_weight, BM_order_weight⟩
  have FM_order_seen := fun_mk (st := s_order_seen) lo_order_seen co_order_seen ke_order_seen
  have BM_order_seen := FM_order_seen.binds (ps := ["self", "word"]) fun _ _ _ _ _ _ us hl => by obtain ⟨_, _, rfl⟩ := len2 hl; rfl
  have MM_order_seen : DM l.prog w K mg base CX0 1 c_Order "seen" ["self", "word"] sp_sid := ⟨_, _, ⟨fi_order_seen, fn_order_seen, ke_order_seen⟩, ok_order_seen B FM_order_seen, BM_order_seen⟩
  have FM_fromright_seen := fun_mk (st := s_fromright_seen) lo_fromright_seen co_fromright_seen ke_fromright_seen
  have BM_fromright_seen := FM_fromright_seen.binds (ps := ["self", "word"]) fun _ _ _ _ _ _ us hl => by obtain ⟨_, _, rfl⟩ := len2 hl; rfl
  have MM_fromright_seen : DM l.prog w K mg base CX0 1 c_FromRight "seen" ["self", "word"] sp_srev := ⟨_, _, ⟨fi_fromright_seen, fn_fromright_seen, ke_fromright_seen⟩, ok_fromright_seen B FM_fromright_seen, BM_fromright_seen⟩
  have FM_byweights_init := fun_mk (st := s_byweights_init) lo_byweights_init co_byweights_init ke_byweights_init
  have BM_byweights_init := FM_byweights_init.binds (ps := ["self", "letters", "weights"]) fun _ _ _ _ _ _ us hl => by obtain ⟨_, _, _, rfl⟩ := len3 hl; rfl
  have MM_byweights_init : DMk l.prog w K mg base (CXx l.prog w) 4 c_ByWeights ["self", "letters", "weights"] (sp_winit K c_ByWeights) := ⟨_, _, ⟨mk_ByWeights, fi_byweights_init, fn_byweights_init, kc_ByWeights⟩, ok_byweights_init B TO TN DI FM_byweights_init, BM_byweights_init⟩
  have FM_byweights_weight := fun_mk (st := s_byweights_weight) lo_byweights_weight co_byweights_weight ke_byweights_weight
  have BM_byweights_weight := FM_byweights_weight.binds (ps := ["self", "word"]) fun _ _ _ _ _ _ us hl => by obtain ⟨_, _, rfl⟩ := len2 hl; rfl
  have MM_byweights_weight : DM l.prog w K mg base CX0 1 c_ByWeights "weight" ["self", "word"] (sp_wsum c_ByWeights) := ⟨_, _, ⟨fi_byweights_weight, fn_byweights_weight, ke_byweights_weight⟩, ok_byweights_weight B TO FM_byweights_weight, BM_byweights_weight⟩
  have TT : TWS l.prog w K mg base c_Order c_FromRight c_ByWeights := ⟨TO, MM_order_init, ⟨_, _, ⟨mk_FromRight, fiR_init, fn_order_init, kc_FromRight⟩, ok_order_init B FM_order_init D1, BM_order_init⟩, MM_byweights_init, MM_order_weight, ⟨_, _, ⟨fiR_weight, fn_order_weight, ke_order_weight⟩, ok_order_weight B FM_order_weight, BM_order_weight⟩, MM_byweights_weight, MM_order_seen, MM_fromright_seen, ⟨_, _, ⟨fiW_seen, fn_order_seen, ke_order_seen⟩, ok_order_seen B FM_order_seen, BM_order_seen⟩⟩
  have FM_order_rank := fun_mk (st := s_order_rank) lo_order_rank co_order_rank ke_order_rank
  have BM_order_rank := FM_order_rank.binds (ps := ["self", "word"]) fun _ _ _ _ _ _ us hl => by obtain ⟨_, _, rfl⟩ := len2 hl; rfl
  have MM_order_rank : DM l.prog w K mg base CX0 2 c_Order "rank" ["self", "word"] (sp_rank c_Order c_FromRight c_ByWeights) := ⟨_, _, ⟨fi_order_rank, fn_order_rank, ke_order_rank⟩, ok_order_rank B TT FM_order_rank, BM_order_rank⟩
  have DRk : DR l.prog w K mg base c_Order c_FromRight c_ByWeights := ⟨fun C h => by rcases h with e | e | e; (rw [e]; exact ⟨TO.cO, MM_order_rank⟩); (rw [e]; exact ⟨TO.cR, ⟨_, _, ⟨fiR_rank, fn_order_rank, ke_order_rank⟩, ok_order_rank B TT FM_order_rank, BM_order_rank⟩⟩); (rw [e]; exact ⟨TO.cW, ⟨_, _, ⟨fiW_rank, fn_order_rank, ke_order_rank⟩, ok_order_rank B TT FM_order_rank, BM_order_rank⟩⟩)⟩
  have D2 : Df l.prog w K mg base CX0 1 "_law_cell_at" ["_law_script", "_law_k"] [] (sp_cell_at K) := ⟨_, _, ok_cell_at B F2, M2, p2, B2⟩
  have D3 : Df l.prog w K mg base CX0 1 "_law_letters" ["_law_cell", "_law_many"] [] sp_letters := ⟨_, _, ok_letters B F3, M3, p3, B3⟩
  have D4 : Df l.prog w K mg base CX0 1 "_law_word" ["_law_letters_here", "_law_cell", "_law_size"] [] sp_word := ⟨_, _, ok_word B F4, M4, p4, B4⟩
  have D5 : Df l.prog w K mg base CX0 1 "_law_weights" ["_law_cell", "_law_many"] [] sp_weights := ⟨_, _, ok_weights B F5, M5, p5, B5⟩
  have D6 : Df l.prog w K mg base CX0 6 "_law_order" ["_law_kind", "_law_letters_here", "_law_weights_here"] [] (sp_order K c_Order c_FromRight c_ByWeights) := ⟨_, _, ok_order B TT F6, M6, p6, B6⟩
  have D7 : Df l.prog w K mg base CX0 1 "_law_rank" ["_law_kind", "_law_letters_here", "_law_weights_here", "_law_word_here"] [] sp_lrank := ⟨_, _, ok_rank B F7, M7, p7, B7⟩
  have D8 : Df l.prog w K mg base CX0 1 "_law_less" ["_law_one", "_law_other_here"] [] sp_lless := ⟨_, _, ok_less B (PySem.W.mg_none_of X G nmin) F8, M8, p8, B8⟩
  have D9 : Df l.prog w K mg base CX0 2 "_law_other" ["_law_letters_here", "_law_word_here", "_law_cell"] [] sp_other := ⟨_, _, ok_other B F9 D4, M9, p9, B9⟩
  have HBk : HBnd K c_Order c_FromRight c_ByWeights := fun C h => by rcases h with e | e | e; (rw [e]; exact ⟨TO.cO, _, ⟨fi_order_rank, fn_order_rank, ke_order_rank⟩, ⟨bgR, btR, by decide +kernel⟩⟩); (rw [e]; exact ⟨TO.cR, _, ⟨fiR_rank, fn_order_rank, ke_order_rank⟩, ⟨bgR, btR, by decide +kernel⟩⟩); (rw [e]; exact ⟨TO.cW, _, ⟨fiW_rank, fn_order_rank, ke_order_rank⟩, ⟨bgR, btR, by decide +kernel⟩⟩)
  have FM_order_ranked := fun_mk (st := s_order_ranked) lo_order_ranked co_order_ranked ke_order_ranked
  have BM_order_ranked := FM_order_ranked.binds (ps := ["self", "words"]) fun _ _ _ _ _ _ us hl => by obtain ⟨_, _, rfl⟩ := len2 hl; rfl
  have MM_order_ranked : DM l.prog w K mg base CX0 5 c_Order "ranked" ["self", "words"] (sp_ranked K c_Order c_FromRight c_ByWeights) := ⟨_, _, ⟨fi_order_ranked, fn_order_ranked, ke_order_ranked⟩, ok_order_ranked B DRk HBk (PySem.W.mg_none_of X G nsorted) FM_order_ranked, BM_order_ranked⟩
  have DKk : DK l.prog w K mg base c_Order c_FromRight c_ByWeights := ⟨fun C h => by rcases h with e | e | e; (rw [e]; exact ⟨TO.cO, MM_order_ranked⟩); (rw [e]; exact ⟨TO.cR, ⟨_, _, ⟨fiR_ranked, fn_order_ranked, ke_order_ranked⟩, ok_order_ranked B DRk HBk (PySem.W.mg_none_of X G nsorted) FM_order_ranked, BM_order_ranked⟩⟩); (rw [e]; exact ⟨TO.cW, ⟨_, _, ⟨fiW_ranked, fn_order_ranked, ke_order_ranked⟩, ok_order_ranked B DRk HBk (PySem.W.mg_none_of X G nsorted) FM_order_ranked, BM_order_ranked⟩⟩)⟩
  have D10 : Df l.prog w K mg base CX0 3 "_law_words" ["_law_letters_here", "_law_cells"] [] (sp_words K) := ⟨_, _, ok_words B F10 D9, M10, p10, B10⟩
  have D11 : Df l.prog w K mg base CX0 1 "_law_same_words" ["_law_found", "_law_words_here"] [] sp_same := ⟨_, _, ok_same_words B ⟨ks⟩ F11, M11, p11, B11⟩
  exact ok_law B ⟨kl⟩ TT DKk F12 D3 D5 D6 D10 D2 D7 D8 D11
theorem walk {l : PySem.W.OpenLaw} {q : Program} {loose : List Str} {XP : (Str → Option Value) → Heap → Prop} {YP : World → Heap → Prop} {d : DefRec} {K : Params → PySem.W.Frag} (hn : l.most = some 63) (hdf : d.params.defaults = [])
    (hY : ∀ (w : World) (h : Heap), YP w h → (K w.params).In h)
    (F : ∀ (w : World) (mg : Str → Option Value) (fa : Addr) (h : Heap), (K w.params).In h → h.Ns mainGlobals mg → mg d.name = some (.ref fa) →
      ∃ fd : FuncData, (∀ (s : Shared) (u : Value), BindsTo s fd ⟨[u], []⟩ [("_law_script", u)]) ∧ ∀ base : Heap, (K w.params).In base → base.Ns mainGlobals mg → FnOk l.prog w (K w.params) mg base CX0 7 fa fd ["_law_script"] (sp_law (K w.params))) :
    PySem.W.WalkO q loose XP YP l.row.toRowW d [] (fun f vs => PySem.call f vs) :=
  L2.walk_of (n := 63) (k := 7) (x := "_law_script") (CX := fun _ => CX0) (sp := fun w => sp_law (K w.params)) hn (by decide) hdf ⟨rfl, by decide, by decide⟩ hY F (fun _ _ a ns hl hB hS => ⟨a, ns, rfl, hS, fun _ => rfl⟩) fun _ _ _ _ _ z => z
end LL
open PySem PySem.W PyProof.Rows
set_option maxRecDepth 100000 in
set_option maxHeartbeats 0 in
theorem PySem.Challenge.cw_letterlaw_k14_ranked_holds : PySem.Challenge.rw_letterlaw_k14_ranked.Holds := by
  w_on; o_law; k_head; (case hw => w_witness2)
  k_fill
  refine LL.walk (l := PySem.Challenge.rw_letterlaw_k14_ranked) rfl rfl (fun w h Y => PySem.W.kIn_of Y) ?F
  case F =>
    intro w mg fa h KX G hmg
    refine' LL.all_mk KX G hmg ?a0 ?l0 ?k0 ?p0 ?a1 ?l1 ?k1 ?p1 ?a2 ?l2 ?k2 ?p2 ?a3 ?l3 ?k3 ?p3 ?a4 ?l4 ?k4 ?p4 ?a5 ?l5 ?k5 ?p5 ?a6 ?l6 ?k6 ?p6 ?a7 ?l7 ?k7 ?p7 ?a8 ?l8 ?k8 ?p8 ?a9 ?l9 ?k9 ?p9 ?a10 ?l10 ?k10 ?p10 ?a11 ?l11 ?k11 ?p11 ?a12 ?l12 ?k12 ?p12 ?g_LetterError ?g_NoLetters ?g_NoOrder ?g_Order ?g_FromRight ?g_ByWeights ?kl ?ks ?x7 ?x8 ?x1 ?x2 ?x3 ?x4 ?x5 ?x6 ?x9 ?xi ?y1 ?y2 ?y3 ?y4 ?y5 ?y6 ?y9 ?yi ?most ?mostw ?pg_Order ?hd_Order ?po_Order ?sa_Order ?mk_Order ?kc_Order ?nl_Order ?ka_Order ?cl_Order ?mr_Order ?pg_FromRight ?hd_FromRight ?po_FromRight ?sa_FromRight ?mk_FromRight ?kc_FromRight ?nl_FromRight ?ka_FromRight ?cl_FromRight ?mr_FromRight ?pg_ByWeights ?hd_ByWeights ?po_ByWeights ?sa_ByWeights ?mk_ByWeights ?kc_ByWeights ?nl_ByWeights ?ka_ByWeights ?cl_ByWeights ?mr_ByWeights ?nw_ByWeights ?sgO ?rdO ?nmin ?nsorted ?fi_order_init ?lo_order_init ?co_order_init ?ke_order_init ?fn_order_init ?fi_order_weight ?lo_order_weight ?co_order_weight ?ke_order_weight ?fn_order_weight ?fi_order_seen ?lo_order_seen ?co_order_seen ?ke_order_seen ?fn_order_seen ?fi_fromright_seen ?lo_fromright_seen ?co_fromright_seen ?ke_fromright_seen ?fn_fromright_seen ?fi_byweights_init ?lo_byweights_init ?co_byweights_init ?ke_byweights_init ?fn_byweights_init ?fi_byweights_weight ?lo_byweights_weight ?co_byweights_weight ?ke_byweights_weight ?fn_byweights_weight ?fi_order_rank ?lo_order_rank ?co_order_rank ?ke_order_rank ?fn_order_rank ?fi_order_ranked ?lo_order_ranked ?co_order_ranked ?ke_order_ranked ?fn_order_ranked ?fcO ?fiR_init ?fiR_weight ?fiW_seen ?fiR_rank ?fiW_rank ?bgR ?btR ?fiR_ranked ?fiW_ranked ?b0 ?b1 ?b2 ?b3 ?b4 ?b5 ?b6 ?b7 ?b8 ?b9 ?b10 ?b11 ?b12 ?b13 ?b14 ?b15
    (case a0 => k_is)
    (case l0 => k_is)
    (case k0 => k_is)
    (case p0 => k_is)
    (case a1 => k_is)
    (case l1 => k_is)
    (case k1 => k_is)
    (case p1 => k_is)
    (case a2 => k_is)
    (case l2 => k_is)
    (case k2 => k_is)
    (case p2 => k_is)
    (case a3 => k_is)
    (case l3 => k_is)
    (case k3 => k_is)
    (case p3 => k_is)
    (case a4 => k_is)
    (case l4 => k_is)
    (case k4 => k_is)
    (case p4 => k_is)
    (case a5 => k_is)
    (case l5 => k_is)
    (case k5 => k_is)
    (case p5 => k_is)
    (case a6 => k_is)
    (case l6 => k_is)
    (case k6 => k_is)
    (case p6 => k_is)
    (case a7 => k_is)
    (case l7 => k_is)
    (case k7 => k_is)
    (case p7 => k_is)
    (case a8 => k_is)
    (case l8 => k_is)
    (case k8 => k_is)
    (case p8 => k_is)
    (case a9 => k_is)
    (case l9 => k_is)
    (case k9 => k_is)
    (case p9 => k_is)
    (case a10 => k_is)
    (case l10 => k_is)
    (case k10 => k_is)
    (case p10 => k_is)
    (case a11 => k_is)
    (case l11 => k_is)
    (case k11 => k_is)
    (case p11 => k_is)
    (case a12 => k_is)
    (case l12 => k_is)
    (case k12 => k_is)
    (case p12 => k_is)
    (case g_LetterError => k_is)
    (case g_NoLetters => k_is)
    (case g_NoOrder => k_is)
    (case g_Order => k_is)
    (case g_FromRight => k_is)
    (case g_ByWeights => k_is)
    (case kl => first | kernel_rfl | rfl)
    (case ks => first | kernel_rfl | rfl)
    (case x7 => k_is)
    (case x8 => k_is)
    (case x1 => first | kernel_rfl | rfl | decide +kernel)
    (case x2 => k_is)
    (case x3 => k_is)
    (case x4 => k_is)
    (case x5 => k_is)
    (case x6 => k_is)
    (case x9 => k_is)
    (case xi => k_is)
    (case y1 => first | kernel_rfl | rfl | decide +kernel)
    (case y2 => k_is)
    (case y3 => k_is)
    (case y4 => k_is)
    (case y5 => k_is)
    (case y6 => k_is)
    (case y9 => k_is)
    (case yi => k_is)
    (case most => k_is)
    (case mostw => k_is)
    (case pg_Order => first | kernel_rfl | rfl | k_is | decide +kernel)
    (case hd_Order => first | kernel_rfl | rfl | k_is)
    (case po_Order => first | kernel_rfl | rfl | k_is | decide +kernel)
    (case sa_Order => k_is)
    (case mk_Order => first | kernel_rfl | rfl | k_is | decide +kernel)
    (case kc_Order => k_is)
    (case nl_Order => k_is)
    (case ka_Order => first | kernel_rfl | rfl)
    (case cl_Order => k_is)
    (case mr_Order => k_is)
    (case pg_FromRight => first | kernel_rfl | rfl | k_is | decide +kernel)
    (case hd_FromRight => first | kernel_rfl | rfl | k_is)
    (case po_FromRight => first | kernel_rfl | rfl | k_is | decide +kernel)
    (case sa_FromRight => k_is)
    (case mk_FromRight => first | kernel_rfl | rfl | k_is | decide +kernel)
    (case kc_FromRight => k_is)
    (case nl_FromRight => k_is)
    (case ka_FromRight => first | kernel_rfl | rfl)
    (case cl_FromRight => k_is)
    (case mr_FromRight => k_is)
    (case pg_ByWeights => first | kernel_rfl | rfl | k_is | decide +kernel)
    (case hd_ByWeights => first | kernel_rfl | rfl | k_is)
    (case po_ByWeights => first | kernel_rfl | rfl | k_is | decide +kernel)
    (case sa_ByWeights => k_is)
    (case mk_ByWeights => first | kernel_rfl | rfl | k_is | decide +kernel)
    (case kc_ByWeights => k_is)
    (case nl_ByWeights => k_is)
    (case ka_ByWeights => first | kernel_rfl | rfl)
    (case cl_ByWeights => k_is)
    (case mr_ByWeights => k_is)
    (case nw_ByWeights => k_is)
    (case sgO => k_is)
    (case rdO => first | kernel_rfl | rfl | k_is | decide +kernel)
    (case nmin => k_is)
    (case nsorted => k_is)
    (case fi_order_init => k_is)
    (case lo_order_init => k_is)
    (case co_order_init => k_is)
    (case ke_order_init => k_is)
    (case fn_order_init => first | kernel_rfl | rfl | k_is)
    (case fi_order_weight => k_is)
    (case lo_order_weight => k_is)
    (case co_order_weight => k_is)
    (case ke_order_weight => k_is)
    (case fn_order_weight => first | kernel_rfl | rfl | k_is)
    (case fi_order_seen => k_is)
    (case lo_order_seen => k_is)
    (case co_order_seen => k_is)
    (case ke_order_seen => k_is)
    (case fn_order_seen => first | kernel_rfl | rfl | k_is)
    (case fi_fromright_seen => k_is)
    (case lo_fromright_seen => k_is)
    (case co_fromright_seen => k_is)
    (case ke_fromright_seen => k_is)
    (case fn_fromright_seen => first | kernel_rfl | rfl | k_is)
    (case fi_byweights_init => k_is)
    (case lo_byweights_init => k_is)
    (case co_byweights_init => k_is)
    (case ke_byweights_init => k_is)
    (case fn_byweights_init => first | kernel_rfl | rfl | k_is)
    (case fi_byweights_weight => k_is)
    (case lo_byweights_weight => k_is)
    (case co_byweights_weight => k_is)
    (case ke_byweights_weight => k_is)
    (case fn_byweights_weight => first | kernel_rfl | rfl | k_is)
    (case fi_order_rank => k_is)
    (case lo_order_rank => k_is)
    (case co_order_rank => k_is)
    (case ke_order_rank => k_is)
    (case fn_order_rank => first | kernel_rfl | rfl | k_is)
    (case fi_order_ranked => k_is)
    (case lo_order_ranked => k_is)
    (case co_order_ranked => k_is)
    (case ke_order_ranked => k_is)
    (case fn_order_ranked => first | kernel_rfl | rfl | k_is)
    (case fcO => k_is)
    (case fiR_init => k_is)
    (case fiR_weight => k_is)
    (case fiW_seen => k_is)
    (case fiR_rank => k_is)
    (case fiW_rank => k_is)
    (case bgR => k_is)
    (case btR => k_is)
    (case fiR_ranked => k_is)
    (case fiW_ranked => k_is)
    (case b0 => k_is)
    (case b1 => k_is)
    (case b2 => k_is)
    (case b3 => k_is)
    (case b4 => k_is)
    (case b5 => k_is)
    (case b6 => k_is)
    (case b7 => k_is)
    (case b8 => k_is)
    (case b9 => k_is)
    (case b10 => k_is)
    (case b11 => k_is)
    (case b12 => k_is)
    (case b13 => k_is)
    (case b14 => k_is)
    (case b15 => k_is)
#print axioms PySem.Challenge.cw_letterlaw_k14_ranked_holds
