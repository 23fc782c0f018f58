import PyProof.Rows.All
import Wide.All
import OpenK.AllK
import Wide.FinOn
import PyProof.EqAt
import PyProof.EqKinds
import PyProof.NeKinds
import PyProof.TupleCall
import KE.KRevIter
import PyProof.ZipIter
import PyProof.Rows.SetFrom
import PyProof.StrWalks
import PyProof.DictStraight
import PyProof.StrLawsFrom
import PyProof.Rows.StrNews2
import KE.KMinBuiltin
import PyProof.Rows.CallKwBuiltin
import PyProof.Rows.SortShell
import KE.KSortTup
import KE.KBoundM
import KE.KLam
import Lean
import PySem.Challenge.RW_letterlaw_k70_whole_chains_keep_rooms
set_option Elab.async false
set_option linter.all false
set_option maxRecDepth 100000
namespace L2
open PySem PySem.Spec PyProof.Rows
abbrev Key := Sum Int Str
def keyIs : Key → Value → Bool
  | .inl k, v => Value.isInt k v
  | .inr x, v => Value.isStrOf x v
def keyH (w : World) : Key → Int
  | .inl k => hashInt k
  | .inr x => hashStr w x
theorem keyIs_shape : ∀ {k : Key} {v : Value}, keyIs k v = true → (∃ i t, k = Sum.inl i ∧ v = Value.int i t) ∨ (∃ x t, k = Sum.inr x ∧ v = Value.str x t)
  | .inl i, v, h => by
    obtain ⟨t, e⟩ := Value.isInt_shape (k := i) (v := v) h
    exact .inl ⟨i, t, rfl, e⟩
  | .inr x, v, h => by
    obtain ⟨t, e⟩ := Value.isStrOf_shape (x := x) (v := v) h
    exact .inr ⟨x, t, rfl, e⟩
theorem key_ll (a b : Int) : decide ((Sum.inl a : Key) = Sum.inl b) = (a == b) := by
  by_cases e : a = b
  · subst e; simp
  · have h : ¬ (Sum.inl a : Key) = Sum.inl b := fun q => e (Sum.inl.inj q)
    rw [decide_eq_false h]
    exact (beq_eq_false_iff_ne.mpr e).symm
theorem key_rr (a b : Str) : decide ((Sum.inr a : Key) = Sum.inr b) = decide (a = b) := by
  by_cases e : a = b
  · subst e; simp
  · have h : ¬ (Sum.inr a : Key) = Sum.inr b := fun q => e (Sum.inr.inj q)
    rw [decide_eq_false h, decide_eq_false e]
theorem key_lr (a : Int) (b : Str) : decide ((Sum.inl a : Key) = Sum.inr b) = false := decide_eq_false (fun q => nomatch q)
theorem key_rl (a : Str) (b : Int) : decide ((Sum.inr a : Key) = Sum.inl b) = false := decide_eq_false (fun q => nomatch q)
def mixKind (prog : Program) (w : World) : PySem.KeyKind prog w Key where
  is := keyIs
  hash := keyH w
  inj := fun v a b ha hb => by
    rcases keyIs_shape ha with ⟨i, t, rfl, rfl⟩ | ⟨x, t, rfl, rfl⟩
    · rcases keyIs_shape hb with ⟨j, u, rfl, e⟩ | ⟨y, u, rfl, e⟩
      · injection e with e1 _; rw [e1]
      · exact nomatch e
    · rcases keyIs_shape hb with ⟨j, u, rfl, e⟩ | ⟨y, u, rfl, e⟩
      · exact nomatch e
      · injection e with e1 _; rw [e1]
  byValue := fun k v h => by
    rcases keyIs_shape h with ⟨i, t, rfl, rfl⟩ | ⟨x, t, rfl, rfl⟩ <;> rfl
  pyHash := fun hv h => by
    rcases keyIs_shape hv with ⟨i, t, rfl, rfl⟩ | ⟨x, t, rfl, rfl⟩
    · exact wpAny_pyHash_int h
    · exact wpAny_pyHash_str h
  eqBool := fun hu hv h => by
    rcases keyIs_shape hu with ⟨i, t, rfl, rfl⟩ | ⟨x, t, rfl, rfl⟩
    · rcases keyIs_shape hv with ⟨j, u, rfl, rfl⟩ | ⟨y, u, rfl, rfl⟩
      · rw [key_ll] at h; exact wpAny_eqBool_int h
      · rw [key_lr] at h; exact SeqAt.EqAt.int_str i t y u _ _ _ _ h
    · rcases keyIs_shape hv with ⟨j, u, rfl, rfl⟩ | ⟨y, u, rfl, rfl⟩
      · rw [key_rl] at h; exact SeqAt.EqAt.str_int x t j u _ _ _ _ h
      · rw [key_rr] at h; exact wpAny_eqBool_str h
  «strs» := fun k x t v h => by
    rcases keyIs_shape h with ⟨i, u, rfl, e⟩ | ⟨y, u, rfl, e⟩
    · exact nomatch e
    · injection e with e1 _
      subst e1
      cases v <;> rfl
end L2
namespace L2
open PySem PySem.Spec PyProof.Rows
inductive V where
  | non | bl (b : Bool) | int (i : Int) | str (x : Str) | byt (b : Array UInt8) | flt (b : UInt64) | ref (a : Addr) | ty (n : String)
  deriving DecidableEq
def RelV : V → Value → Prop
  | .non, u => u = Value.none
  | .bl b, u => u = Value.bool b
  | .int i, u => ∃ t, u = Value.int i t
  | .str x, u => ∃ t, u = Value.str x t
  | .byt b, u => ∃ t, u = Value.bytes b t
  | .flt b, u => ∃ t, u = Value.float b t
  | .ref a, u => u = Value.ref a
  | .ty n, u => u = Value.type n
abbrev Vals : List V → List Value → Prop := Paired RelV
theorem Vals.length {xs : List V} {us : List Value} (r : Vals xs us) : xs.length = us.length := Paired.length r
theorem Vals.get : ∀ {xs : List V} {us : List Value} {i : Nat} {x : V}, Vals xs us → xs[i]? = some x → ∃ u, us[i]? = some u ∧ RelV x u
  | _, _, _, _, .nil, e => by simp at e
  | _, _, 0, _, .cons r _, e => by simp at e; subst e; exact ⟨_, rfl, r⟩
  | _, _, i + 1, x, .cons _ t, e => by
    obtain ⟨u, h1, h2⟩ := Vals.get (i := i) (x := x) t (by simpa using e)
    exact ⟨u, by simpa using h1, h2⟩
theorem Vals.set {x : V} {u : Value} (r : RelV x u) : ∀ {xs : List V} {us : List Value} (i : Nat), Vals xs us → Vals (xs.set i x) (us.set i u)
  | _, _, _, .nil => .nil
  | _, _, 0, .cons _ t => .cons r t
  | _, _, i + 1, .cons q t => .cons q (Vals.set r i t)
theorem Vals.append : ∀ {xs ys : List V} {us ws : List Value}, Vals xs us → Vals ys ws → Vals (xs ++ ys) (us ++ ws)
  | _, _, _, _, .nil, s => s
  | _, _, _, _, .cons r t, s => .cons r (Vals.append t s)
theorem Vals.take : ∀ {xs : List V} {us : List Value} (n : Nat), Vals xs us → Vals (xs.take n) (us.take n)
  | _, _, 0, _ => .nil
  | _, _, _ + 1, .nil => .nil
  | _, _, n + 1, .cons r t => .cons r (Vals.take n t)
theorem Vals.drop : ∀ {xs : List V} {us : List Value} (n : Nat), Vals xs us → Vals (xs.drop n) (us.drop n)
  | _, _, 0, r => r
  | _, _, _ + 1, .nil => .nil
  | _, _, n + 1, .cons _ t => Vals.drop n t
def RelO : Option V → Option Value → Prop
  | some v, some u => RelV v u
  | none, none => True
  | _, _ => False
def KV {κ : Type} : List (κ × V) → List (κ × Value) → Prop := Paired fun (p : κ × V) (q : κ × Value) => p.1 = q.1 ∧ RelV p.2 q.2
def kV : Key → V
  | .inl i => .int i
  | .inr x => .str x
inductive HO where
    | lst (xs : List V)
    | tup (xs : List V)
    | dK (kvs : List (Key × V)) | dT (kvs : List (List Key × V))
    | set (S : Int → Bool) (n : Nat)
    | ins (C dx : Addr) (fs : List (Str × V))
    | own (x : Addr)
    | xd (fs : List (Str × V))
    | met (f x : Addr)
    | rng (lo hi : Int)
    | frz (o : Obj) (u : HO)
    | tbl (ps : Array Value)
    | ext (φ : Heap → Prop)
abbrev Hp := Addr → Option HO
def upd (H : Hp) (a : Addr) (o : HO) : Hp := fun b => if b = a then some o else H b
theorem upd_same {H : Hp} {a : Addr} {o : HO} : upd H a o a = some o := by unfold upd; rw [if_pos rfl]
theorem upd_ne {H : Hp} {a b : Addr} {o : HO} (h : b ≠ a) : upd H a o b = H b := by unfold upd; rw [if_neg h]
theorem ne_of_none {H : Hp} {a b : Addr} {o : HO} (h : H a = some o) (h' : H b = none) : a ≠ b := by
  intro e; subst e; rw [h] at h'; cases h'
section
variable (P : Program) (w : World)
def ObjOk (H : Hp) (h : Heap) (a : Addr) : HO → Prop
  | .lst xs => xs.length ≤ sizeLine ∧ ∃ (its : List Value) (n : Nat), Vals xs its ∧ h.get? a = some { cls := .type "list", data := .seq its.toArray n }
  | .tup xs => xs.length ≤ sizeLine ∧ ∃ its : List Value, Vals xs its ∧ IsTup h a its.toArray
  | .dK kvs => kvs.length ≤ sizeLine ∧ (a == sysModules) = false ∧ ∃ vs, KV kvs vs ∧ h.DictOf (mixKind P w) a vs
  | .dT kvs => kvs.length ≤ sizeLine ∧ (a == sysModules) = false ∧ ∃ xs : List (List Key × Addr × Value),
      Paired (fun (p : List Key × V) (q : List Key × Addr × Value) => p.1 = q.1 ∧ H q.2.1 = some (.tup (p.1.map kV)) ∧ RelV p.2 q.2.2) kvs xs ∧
      ∃ o es ep, h.get? a = some o ∧ o.ExactDict ∧ o.data = .dict es ep ∧ es.toList = xs.map (entryOfKey (tupleKind (mixKind P w))) ∧ (xs.map (·.1)).Nodup
  | .set S n => h.SetOf (intKind P w) a S n
  | .ins C dx fs => H dx = some (.own a) ∧ fs.length ≤ 1000 ∧ dx ≠ a ∧ h.get? a = some (PySem.W.instObj C dx) ∧
      ∃ mA, h.Ns1 dx mA ∧ (∀ f, RelO (fs.lookup f) (mA f)) ∧ PySem.Within mA (fs.map (·.1))
  | .own _ => ∃ o, h.get? a = some o
  | .xd fs => ∃ mA, h.Ns1 a mA ∧ ∀ f, RelO (fs.lookup f) (mA f)
  | .rng lo hi => ∃ t u v, h.get? a = some { cls := .type "range", data := .fields #[.int lo t, .int hi u, .int 1 v] }
  | .frz o u => h.get? a = some o ∧ ObjOk H h a u
  | .tbl ps => h.get? a = some { cls := .none, data := .fields ps }
  | .met f x => h.get? a = some (PySem.W.methodObj (.ref f) (.ref x))
  | .ext φ => φ h ∧ (∃ o, h.get? a = some o) ∧ ∀ h1 h2 : Heap, φ h1 → (∀ o, h1.get? a = some o → h2.get? a = some o) → φ h2
def HOk (H : Hp) (h : Heap) : Prop := ∀ a o, H a = some o → ObjOk P w H h a o
end
section
variable {P : Program} {w : World} {H H' : Hp} {h h' : Heap} {a : Addr} {o : HO}
theorem ObjOk.lt (x : ObjOk P w H h a o) : a < h.objs.size := by
  cases o with
  | lst xs => obtain ⟨_, _, _, _, e⟩ := x; exact Heap.lt_size e
  | tup xs => obtain ⟨_, _, _, p⟩ := x; exact p.lt
  | dK kvs => obtain ⟨_, _, _, _, o, _, _, e, _⟩ := x; exact Heap.lt_size e
  | dT kvs => obtain ⟨_, _, _, _, o, _, _, e, _⟩ := x; exact Heap.lt_size e
  | set S n => obtain ⟨o, _, _, _, e, _⟩ := x; exact Heap.lt_size e
  | ins C dx fs => obtain ⟨_, _, _, e, _⟩ := x; exact Heap.lt_size e
  | own y => obtain ⟨_, e⟩ := x; exact Heap.lt_size e
  | xd fs => obtain ⟨_, ⟨_, _, _, e, _⟩, _⟩ := x; exact Heap.lt_size e
  | rng lo hi => obtain ⟨_, _, _, e⟩ := x; exact Heap.lt_size e
  | frz ob u => obtain ⟨e, _⟩ := x; exact Heap.lt_size e
  | tbl ps => exact Heap.lt_size (show h.get? a = some _ from x)
  | met f y => exact Heap.lt_size (show h.get? a = some _ from x)
  | ext φ => obtain ⟨_, ⟨_, e⟩, _⟩ := x; exact Heap.lt_size e
theorem Paired.mapP {α β : Type} {F G : α → β → Prop} : ∀ {l₁ : List α} {l₂ : List β}, Paired F l₁ l₂ → (∀ a b, F a b → G a b) → Paired G l₁ l₂
  | _, _, .nil, _ => .nil
  | _, _, .cons r t, f => .cons (f _ _ r) (Paired.mapP t f)
theorem ObjOk.stay (x : ObjOk P w H h a o) (k : ∀ b u, (b = a ∨ H b = some (.own a)) → h.get? b = some u → h'.get? b = some u)
    (ho : ∀ b, H b = some (.own a) → H' b = some (.own a)) (ht : ∀ b xs, H b = some (.tup xs) → H' b = some (.tup xs)) : ObjOk P w H' h' a o := by
  induction o with
  | lst xs => obtain ⟨z, its, n, r, e⟩ := x; exact ⟨z, its, n, r, k _ _ (.inl rfl) e⟩
  | tup xs => obtain ⟨z, its, r, ob, e, c⟩ := x; exact ⟨z, its, r, ob, k _ _ (.inl rfl) e, c⟩
  | dK kvs => obtain ⟨z, y, vs, r, ob, es, ep, e, c⟩ := x; exact ⟨z, y, vs, r, ob, es, ep, k _ _ (.inl rfl) e, c⟩
  | dT kvs =>
    obtain ⟨z, y, xs, r, ob, es, ep, e, c⟩ := x
    exact ⟨z, y, xs, Paired.mapP r fun p q z => ⟨z.1, ht _ _ z.2.1, z.2.2⟩, ob, es, ep, k _ _ (.inl rfl) e, c⟩
  | set S n => obtain ⟨ob, es, ep, t, e, c⟩ := x; exact ⟨ob, es, ep, t, k _ _ (.inl rfl) e, c⟩
  | ins C dx fs =>
    obtain ⟨d, z, ne, e, mA, ⟨od, es, ep, e2, c⟩, r⟩ := x
    exact ⟨ho _ d, z, ne, k _ _ (.inl rfl) e, mA, ⟨od, es, ep, k _ _ (.inr d) e2, c⟩, r⟩
  | own y => obtain ⟨ob, e⟩ := x; exact ⟨ob, k _ _ (.inl rfl) e⟩
  | xd fs => obtain ⟨mA, ⟨od, es, ep, e, c⟩, r⟩ := x; exact ⟨mA, ⟨od, es, ep, k _ _ (.inl rfl) e, c⟩, r⟩
  | rng lo hi => obtain ⟨t, u, v, e⟩ := x; exact ⟨t, u, v, k _ _ (.inl rfl) e⟩
  | frz ob u ih => obtain ⟨e, q⟩ := x; exact ⟨k _ _ (.inl rfl) e, ih q⟩
  | tbl ps =>
    have e : h.get? a = some { cls := .none, data := .fields ps } := x
    show h'.get? a = some { cls := .none, data := .fields ps }
    exact k a _ (.inl rfl) e
  | met f y =>
    have e : h.get? a = some (PySem.W.methodObj (.ref f) (.ref y)) := x
    show h'.get? a = some (PySem.W.methodObj (.ref f) (.ref y))
    exact k a _ (.inl rfl) e
  | ext φ => obtain ⟨p, ⟨o, e⟩, st⟩ := x; exact ⟨st _ _ p fun o q => k _ _ (.inl rfl) q, ⟨o, k _ _ (.inl rfl) e⟩, st⟩
theorem HOk.lt (x : HOk P w H h) (e : H a = some o) : a < h.objs.size := (x a o e).lt
theorem HOk.fresh (x : HOk P w H h) (e : h.objs.size ≤ a) : H a = none := by
  cases q : H a with
  | none => rfl
  | some u => exact absurd (Nat.lt_of_lt_of_le (x.lt q) e) (Nat.lt_irrefl _)
theorem HOk.kept (x : HOk P w H h) (k : ∀ b u, h.get? b = some u → h'.get? b = some u) : HOk P w H h' := fun a o e =>
  (x a o e).stay (fun b u _ q => k b u q) (fun _ q => q) fun _ _ q => q
theorem HOk.laid (x : HOk P w H h) (k : ∀ b u, h.get? b = some u → h'.get? b = some u) (hp : h.objs.size ≤ a) (new : ObjOk P w (upd H a o) h' a o) : HOk P w (upd H a o) h' := fun b u e => by
  have hn := x.fresh hp
  by_cases hb : b = a
  · subst hb; rw [upd_same] at e; cases e; exact new
  · rw [upd_ne hb] at e
    exact (x b u e).stay (fun c v _ q => k c v q) (fun c q => by rw [upd_ne (ne_of_none q hn)]; exact q) fun c xs q => by rw [upd_ne (ne_of_none q hn)]; exact q
end
def Rd (H : Hp) (a : Addr) (u : HO) : Prop := H a = some u ∨ ∃ o, H a = some (.frz o u)
theorem Rd.ok {P : Program} {w : World} {H : Hp} {h : Heap} {a : Addr} {u : HO} (r : Rd H a u) (x : HOk P w H h) : ObjOk P w H h a u := by
  rcases r with r | ⟨o, r⟩
  · exact x a u r
  · obtain ⟨_, q⟩ := x a _ r
    exact q
def Mut : Option HO → Prop
  | some (.lst _) => True
  | some (.dK _) => True
  | some (.dT _) => True
  | some (.set _ _) => True
  | some (.ins _ _ _) => True
  | some (.ext _) => True
  | _ => False
section
variable {P : Program} {w : World} {H : Hp} {h h' : Heap} {x e : Addr} {o' : HO}
theorem HOk.write (ok : HOk P w H h) (mu : Mut (H x)) (he : e = x ∨ H e = some (.own x)) (k : ∀ b u, b ≠ e → h.get? b = some u → h'.get? b = some u) (heo : ∃ u, h'.get? e = some u)
    (new : ObjOk P w (upd H x o') h' x o') : HOk P w (upd H x o') h' := fun b u q => by
  have nown : ∀ c y, H c = some (.own y) → c ≠ x := fun c y r z => by subst z; rw [r] at mu; exact mu
  have ntup : ∀ c xs, H c = some (.tup xs) → c ≠ x := fun c xs r z => by subst z; rw [r] at mu; exact mu
  by_cases hb : b = x
  · subst hb; rw [upd_same] at q; cases q; exact new
  · rw [upd_ne hb] at q
    by_cases hbe : b = e
    · have q' : H b = some (.own x) := by
        rcases he with z | z
        · exact absurd (hbe.trans z) hb
        · rw [hbe]; exact z
      rw [q] at q'; cases q'
      obtain ⟨v, hv⟩ := heo
      exact ⟨v, by rw [hbe]; exact hv⟩
    · refine (ok b u q).stay (fun c v hc r => k c v ?_ r) (fun c r => by rw [upd_ne (nown c b r)]; exact r) fun c xs r => by rw [upd_ne (ntup c xs r)]; exact r
      rcases hc with rfl | hc
      · exact hbe
      · rintro rfl
        rcases he with z | z
        · exact nown c b hc z
        · rw [hc] at z; cases z; exact hb rfl
end
structure Un (fs ex : List Addr) (H H' : Hp) (h h' : Heap) : Prop where
  keep : ∀ b o, h.get? b = some o → H b = none → b ∉ fs → b ∉ ex → h'.get? b = some o
  slot : ∀ b o, h.get? b = some o → H b = none → b ∈ fs → b ∉ ex → ∃ sl, h'.get? b = some { o with slots := sl }
  free : ∀ b o, h.get? b = some o → H b = none → b ∉ ex → H' b = none
  there : ∀ b o, h.get? b = some o → b ∉ ex → ∃ o', h'.get? b = some o'
  tups : ∀ b xs, H b = some (.tup xs) → H' b = some (.tup xs)
  frzs : ∀ b o u, H b = some (.frz o u) → H' b = some (.frz o u)
  tbls : ∀ b ps, H b = some (.tbl ps) → ∃ more, H' b = some (.tbl (ps ++ more))
section
variable {fs fs' ex ex' : List Addr} {H H1 H2 : Hp} {h h1 h2 h' : Heap} {a x e : Addr} {o : HO}
theorem Un.any (u : Un fs ex H H1 h h1) {b : Addr} {ob : Obj} (q : h.get? b = some ob) (n : H b = none) (hx : b ∉ ex) : ∃ sl, h1.get? b = some { ob with slots := sl } := by
  by_cases hb : b ∈ fs
  · exact u.slot b ob q n hb hx
  · exact ⟨ob.slots, u.keep b ob q n hb hx⟩
theorem Un.kept (k : ∀ b u, h.get? b = some u → h'.get? b = some u) : Un fs ex H H h h' :=
  ⟨fun b ob q _ _ _ => k b ob q, fun b ob q _ _ _ => ⟨ob.slots, k b ob q⟩, fun _ _ _ n _ => n, fun b ob q _ => ⟨ob, k b ob q⟩, fun _ _ q => q, fun _ _ _ q => q, fun _ ps q => ⟨#[], by rw [q]; simp⟩⟩
theorem Un.refl : Un fs ex H H h h := Un.kept fun _ _ q => q
theorem Un.laid (k : ∀ b u, h.get? b = some u → h'.get? b = some u) (hp : h.objs.size ≤ a) (hn : H a = none) : Un fs ex H (upd H a o) h h' where
  keep := fun b u q _ _ _ => k b u q
  slot := fun b u q _ _ _ => ⟨u.slots, k b u q⟩
  free := fun b u q n _ => by rw [upd_ne (Nat.ne_of_lt (Nat.lt_of_lt_of_le (Heap.lt_size q) hp))]; exact n
  there := fun b u q _ => ⟨u, k b u q⟩
  tups := fun b xs q => by rw [upd_ne (ne_of_none q hn)]; exact q
  frzs := fun b u xs q => by rw [upd_ne (ne_of_none q hn)]; exact q
  tbls := fun b ps q => ⟨#[], by rw [upd_ne (ne_of_none q hn), q]; simp⟩
theorem Un.write (mu : Mut (H x)) (he : e = x ∨ H e = some (.own x)) (k : ∀ b u, b ≠ e → h.get? b = some u → h'.get? b = some u) (heo : ∃ u, h'.get? e = some u) : Un fs ex H (upd H x o) h h' := by
  have hx : ∀ b, H b = none → b ≠ x := fun b n z => by subst z; rw [n] at mu; exact mu
  have hb : ∀ b, H b = none → b ≠ e := fun b n z => by
    subst z
    rcases he with r | r
    · exact hx b n r
    · rw [n] at r; cases r
  have hm : ∀ b u, H b = some u → ¬ Mut (some u) → b ≠ x := fun b u q nm z => by subst z; rw [q] at mu; exact nm mu
  refine ⟨fun b u q n _ _ => k b u (hb b n) q, fun b u q n _ _ => ⟨u.slots, k b u (hb b n) q⟩, fun b u q n _ => by rw [upd_ne (hx b n)]; exact n, fun b u q _ => ?_,
    fun b xs q => by rw [upd_ne (hm b _ q fun z => z)]; exact q, fun b u xs q => by rw [upd_ne (hm b _ q fun z => z)]; exact q, fun b ps q => ⟨#[], by rw [upd_ne (hm b _ q fun z => z), q]; simp⟩⟩
  by_cases hbe : b = e
  · subst hbe; exact heo
  · exact ⟨u, k b u hbe q⟩
end
def trk (h : Heap) (H : Hp) : List Addr := (List.range h.objs.size).filter fun a => (H a).isSome
def hidT (h : Heap) (H : Hp) : Heap := PySem.W.hideAll h (trk h H)
theorem hidT_size (h : Heap) (H : Hp) : (hidT h H).objs.size = h.objs.size := PySem.W.hideAll_size _ _
theorem hidT_get {h : Heap} {H : Hp} {b : Addr} {o : Obj} (e : h.get? b = some o) (n : H b = none) : (hidT h H).get? b = some o :=
  PySem.W.hideAll_get _ e fun hm => by
    have q : (H b).isSome = true := (List.mem_filter.mp hm).2
    rw [n] at q; simp at q
theorem of_hidT {h : Heap} {H : Hp} {b : Addr} {o : Obj} (e : (hidT h H).get? b = some o) : h.get? b = some o ∧ H b = none := by
  have e' : h.get? b = some o := PySem.W.of_hideAll (trk h H) e
  refine ⟨e', ?_⟩
  cases q : H b with
  | none => rfl
  | some x =>
    have hm : b ∈ trk h H := List.mem_filter.mpr ⟨List.mem_range.mpr (Heap.lt_size e'), by simp [q]⟩
    have z : (hidT h H).get? b = none := PySem.W.hideAll_none (trk h H) hm
    rw [z] at e; cases e
def allNews (g h : Heap) (L : Addr) : List (Addr × Obj) := (List.range h.objs.size).filterMap fun a => if a = L ∨ (g.get? a).isSome = true then none else (h.get? a).map fun o => (a, o)
def rest (g h : Heap) (L d : Addr) : List (Addr × Obj) := (allNews g h L).filter fun p => decide (p.1 ≠ d)
end L2
namespace L2
open PySem PySem.Spec PyProof.Rows
structure Mod (K : PySem.W.Frag) (mg : Str → Option Value) (base : Heap) : Prop where
  kin : K.In base
  glob : base.Ns mainGlobals mg
  blt : ∃ mb, base.Ns builtinsNs mb ∧ ∀ x : Str, x ≠ "__name__" → mb x = bootBuiltins x
  nolimit : base.NoLimit
structure Cx where
  prog : Program
  w : World
  K : PySem.W.Frag
  mg : Str → Option Value
  base : Heap
  A : Around
  N : List Str
  s₀ : Shared
  H₀ : Hp
  env : Env
  outer : List Env
  stack : List Env
  ex : List Addr
  fn : Str → Bool
  calm : Bool
  pn : List (Addr × Obj)
  xe : Value → Shared → Prop
def frs (l : List Env) : List Addr := l.filterMap (·.frame)
abbrev Cx.fs (X : Cx) : List Addr := frs X.outer
def Vis (sc : Scope) (x : Str) : Prop := sc.names.lookup x = some .local ∨ sc.names.lookup x = some .cell ∨ sc.names.lookup x = some .free
def Loc (sc : Scope) (x : Str) : Prop := sc.names.lookup x = some .local ∨ sc.names.lookup x = some .cell
def Look (env : Env) (h : Heap) (m : Str → Option Value) (x : Str) (u : Value) : Prop :=
  (env.kindOf x = some .local ∧ m x = some u) ∨ ((env.kindOf x = some .cell ∨ env.kindOf x = some .free) ∧ ∃ c, env.cells.lookup x = some c ∧ h.IsCell c (some u))
structure Cx.Ok (X : Cx) : Prop where
  mod : Mod X.K X.mg X.base
  kind : X.env.scope.kind = .function
  glob : X.env.globals = mainGlobals
  blt : X.env.builtins = builtinsNs
  above : X.s₀.heap.objs.size ≤ X.env.locals
  inj : ∀ x y c, X.env.cells.lookup x = some c → X.env.cells.lookup y = some c → x = y
  has : ∀ x, (X.env.kindOf x = some .cell ∨ X.env.kindOf x = some .free) → ∃ c, X.env.cells.lookup x = some c
  cab : ∀ x c, X.fn x = true → X.env.cells.lookup x = some c → X.s₀.heap.objs.size ≤ c
  hd : X.calm = true → X.A.handled = none
  frames : X.A.frames = some X.stack
  stk : X.stack = X.outer ∨ (X.stack = X.env :: X.outer ∧ X.env.frame = some X.env.locals)
  exf : ∀ b ∈ X.ex, b ≠ X.env.locals ∧ ∀ x c, X.env.cells.lookup x = some c → c ≠ b
  bs : ∀ b o, X.base.get? b = some o → X.s₀.heap.get? b = some o ∧ X.H₀ b = none
  bsz : X.base.objs.size ≤ X.s₀.heap.objs.size
  noex : ∀ b o, X.base.get? b = some o → b ∉ X.ex
  exfs : ∀ b ∈ X.ex, b ∉ X.fs
  funs : X.s₀.heap.FunFrames X.base X.outer
  frf : ∀ b ∈ X.fs, X.H₀ b = none
structure Inv (X : Cx) (pins : List (Addr × Obj)) (σ : List (Option V)) (H : Hp) (s : Shared) : Prop where
  ok : X.Ok
  os : s.os = X.s₀.os
  bare : AllBare s.gens
  base : Un X.fs X.ex X.H₀ H X.s₀.heap s.heap
  loc : ∃ m, s.heap.Ns X.env.locals m ∧ ∀ (i : Nat) (x : Str) (v : V), X.N[i]? = some x → σ[i]? = some (some v) → Vis X.env.scope x → ∃ u, RelV v u ∧ Look X.env s.heap m x u
  cell : ∀ x c, X.env.cells.lookup x = some c → ∃ v, s.heap.IsCell c v
  free : H X.env.locals = none
  freeC : ∀ x c, X.env.cells.lookup x = some c → H c = none
  pin : ∀ p ∈ X.pn ++ pins, s.heap.get? p.1 = some p.2 ∧ H p.1 = none ∧ p.1 ≠ X.env.locals ∧ p.1 ∉ X.fs ∧ ∀ v, p.2.data ≠ .cell v
  hok : HOk X.prog X.w H s.heap
  len : σ.length = X.N.length
section
variable {X : Cx} {pins : List (Addr × Obj)} {σ : List (Option V)} {H H' : Hp} {s : Shared} {h' : Heap}
theorem Cx.Ok.nofr (ok : X.Ok) {b : Addr} {o : Obj} (e : X.base.get? b = some o) : b ∉ X.fs := fun hb => by
  have := (ok.funs.mem hb).1
  rw [e] at this; cases this
theorem Inv.bs (I : Inv X pins σ H s) : ∀ b o, X.base.get? b = some o → s.heap.get? b = some o ∧ H b = none := fun b o e =>
  ⟨I.base.keep b o (I.ok.bs b o e).1 (I.ok.bs b o e).2 (I.ok.nofr e) (I.ok.noex b o e), I.base.free b o (I.ok.bs b o e).1 (I.ok.bs b o e).2 (I.ok.noex b o e)⟩
theorem Inv.bk (I : Inv X pins σ H s) : ∀ b o, X.base.get? b = some o → s.heap.get? b = some o := fun b o e => (I.bs b o e).1
theorem Inv.mod (I : Inv X pins σ H s) : Mod X.K X.mg X.base := I.ok.mod
theorem Inv.kIn (I : Inv X pins σ H s) : X.K.In s.heap := I.ok.mod.kin.keeps I.bk
theorem Inv.nolimit (I : Inv X pins σ H s) : s.heap.NoLimit := I.ok.mod.nolimit.keeps I.bk
theorem Inv.fr (I : Inv X pins σ H s) : ∃ m, Fr X.base X.env.locals s.heap m :=
  let ⟨m, hn, _⟩ := I.loc
  ⟨m, hn, I.bk, Nat.le_trans I.ok.bsz I.ok.above⟩
theorem Inv.lt (I : Inv X pins σ H s) : X.env.locals < s.heap.objs.size := let ⟨_, hn, _⟩ := I.loc; hn.lt
theorem Inv.sz (I : Inv X pins σ H s) : X.s₀.heap.objs.size ≤ s.heap.objs.size := Nat.le_trans I.ok.above (Nat.le_of_lt I.lt)
theorem Inv.nofs (I : Inv X pins σ H s) {a : Addr} (h : s.heap.objs.size ≤ a) : a ∉ X.fs := fun hb => by
  obtain ⟨_, o, ho, _⟩ := I.ok.funs.mem hb
  exact absurd (Nat.lt_of_lt_of_le (Heap.lt_size ho) (Nat.le_trans I.sz h)) (Nat.lt_irrefl _)
theorem Inv.cne (I : Inv X pins σ H s) : ∀ x c, X.env.cells.lookup x = some c → c ≠ X.env.locals := fun x c e z => by
  obtain ⟨v, o, ho, hd⟩ := I.cell x c e
  obtain ⟨m, ⟨o', es, ep, ho', hd', _⟩, _⟩ := I.loc
  rw [z, ho'] at ho; cases ho; rw [hd'] at hd; cases hd
theorem Inv.funs (I : Inv X pins σ H s) : s.heap.FunFrames X.base X.outer := by
  have all : ∀ (l : List Env), (∀ b ∈ frs l, b ∈ X.fs) → X.s₀.heap.FunFrames X.base l → s.heap.FunFrames X.base l := by
    intro l
    induction l with
    | nil => intro _ _; trivial
    | cons env r ih =>
      intro hs hl
      obtain ⟨hk, ⟨L, o, hf, hn, ho, hd⟩, hr⟩ := hl
      have hL : L ∈ X.fs := hs L (by unfold frs; rw [List.filterMap_cons, hf]; exact List.mem_cons_self)
      obtain ⟨sl, e⟩ := I.base.slot L o ho (I.ok.frf L hL) hL fun z => I.ok.exfs L z hL
      exact ⟨hk, ⟨L, _, hf, hn, e, hd⟩, ih (fun b hb => hs b (by unfold frs; rw [List.filterMap_cons, hf]; exact List.mem_cons_of_mem _ hb)) hr⟩
  exact all X.outer (fun _ hb => hb) I.ok.funs
theorem Inv.stack (I : Inv X pins σ H s) : s.heap.FunFrames X.base X.stack := by
  rcases I.ok.stk with e | ⟨e, hf⟩
  · rw [e]; exact I.funs
  · rw [e]
    obtain ⟨m, hn, _⟩ := I.loc
    refine .cons (by rw [I.ok.kind]; decide) hf hn ?_ I.funs
    exact Heap.get?_none_of_le (Nat.le_trans I.ok.bsz I.ok.above)
theorem Inv.stkSub (I : Inv X pins σ H s) : ∀ b ∈ frs X.stack, b ∈ X.env.locals :: X.fs := fun b hb => by
  rcases I.ok.stk with e | ⟨e, hf⟩
  · rw [e] at hb; exact List.mem_cons_of_mem _ hb
  · rw [e] at hb
    unfold frs at hb
    rw [List.filterMap_cons, hf] at hb
    exact hb
theorem Inv.stkFree (I : Inv X pins σ H s) : ∀ b ∈ frs X.stack, H b = none := fun b hb => by
  rcases List.mem_cons.mp (I.stkSub b hb) with e | hb
  · rw [e]; exact I.free
  · obtain ⟨_, o, ho, _⟩ := I.ok.funs.mem hb
    exact I.base.free b o ho (I.ok.frf b hb) fun z => I.ok.exfs b z hb
theorem Inv.step {g' : Array GenState} {t' : Nat} {d' : Drawn} {ch : List Addr} (I : Inv X pins σ H s)
    (hch : ∀ b ∈ ch, (b ∈ X.ex ∨ X.s₀.heap.objs.size ≤ b) ∧ b ≠ X.env.locals ∧ (∀ x c, X.env.cells.lookup x = some c → c ≠ b) ∧ ∀ p ∈ X.pn ++ pins, p.1 ≠ b)
    (keep : ∀ b o, b ≠ X.env.locals → b ∉ X.fs → b ∉ ch → s.heap.get? b = some o → H b = none → h'.get? b = some o)
    (slot : ∀ b o, b ≠ X.env.locals → b ∈ X.fs → b ∉ ch → s.heap.get? b = some o → H b = none → ∃ sl, h'.get? b = some { o with slots := sl }) (free : ∀ b o, b ∉ ch → s.heap.get? b = some o → H b = none → H' b = none)
    (there : ∀ b o, b ∉ ch → s.heap.get? b = some o → ∃ o', h'.get? b = some o')
    (tups : ∀ b xs, H b = some (.tup xs) → H' b = some (.tup xs)) (frzs : ∀ b o u, H b = some (.frz o u) → H' b = some (.frz o u)) (tbls : ∀ b ps, H b = some (.tbl ps) → ∃ more, H' b = some (.tbl (ps ++ more)))
    (ns : ∀ m, s.heap.Ns X.env.locals m → h'.Ns X.env.locals m) (hok : HOk X.prog X.w H' h') (hg : AllBare g') :
    Inv X pins σ H' { s with heap := h', gens := g', drawn := d', toks := t' } := by
  have neL : ∀ b o, X.s₀.heap.get? b = some o → b ≠ X.env.locals := fun b o e => Nat.ne_of_lt (Nat.lt_of_lt_of_le (Heap.lt_size e) I.ok.above)
  have neC : ∀ b o, X.s₀.heap.get? b = some o → b ∉ X.ex → b ∉ ch := fun b o e hx hb => by
    rcases (hch b hb).1 with z | z
    · exact hx z
    · exact absurd (Nat.lt_of_lt_of_le (Heap.lt_size e) z) (Nat.lt_irrefl _)
  have cellK : ∀ x c, X.env.cells.lookup x = some c → ∀ v, s.heap.IsCell c v → h'.IsCell c v := fun x c e v ⟨o, ho, hd⟩ => by
    have nch : c ∉ ch := fun z => (hch c z).2.2.1 x c e rfl
    by_cases hc : c ∈ X.fs
    · obtain ⟨sl, q⟩ := slot c o (I.cne x c e) hc nch ho (I.freeC x c e)
      exact ⟨_, q, hd⟩
    · exact ⟨o, keep c o (I.cne x c e) hc nch ho (I.freeC x c e), hd⟩
  refine ⟨I.ok, I.os, hg, ⟨fun b o e n hb hx => ?_, fun b o e n hb hx => ?_, fun b o e n hx => ?_, fun b o e hx => ?_, fun b xs e => tups b xs (I.base.tups b xs e), fun b o xs e => frzs b o xs (I.base.frzs b o xs e), fun b ps e => ?_⟩, ?_, fun x c e => ?_, ?_, fun x c e => ?_, fun p hp => ?_, hok, I.len⟩
  · exact keep b o (neL b o e) hb (neC b o e hx) (I.base.keep b o e n hb hx) (I.base.free b o e n hx)
  · obtain ⟨sl, e1⟩ := I.base.slot b o e n hb hx
    obtain ⟨sl', e2⟩ := slot b _ (neL b o e) hb (neC b o e hx) e1 (I.base.free b o e n hx)
    exact ⟨sl', e2⟩
  · obtain ⟨o', e1⟩ := I.base.there b o e hx
    exact free b o' (neC b o e hx) e1 (I.base.free b o e n hx)
  · obtain ⟨o', e1⟩ := I.base.there b o e hx
    exact there b o' (neC b o e hx) e1
  · obtain ⟨m1, e1⟩ := I.base.tbls b ps e
    obtain ⟨m2, e2⟩ := tbls b _ e1
    exact ⟨m1 ++ m2, by rw [e2, Array.append_assoc]⟩
  · obtain ⟨m, hn, hl⟩ := I.loc
    refine ⟨m, ns m hn, fun i x v e1 e2 e3 => ?_⟩
    obtain ⟨u, r, l⟩ := hl i x v e1 e2 e3
    refine ⟨u, r, ?_⟩
    rcases l with l | ⟨k, c, e, z⟩
    · exact .inl l
    · exact .inr ⟨k, c, e, cellK x c e _ z⟩
  · obtain ⟨v, z⟩ := I.cell x c e
    exact ⟨v, cellK x c e v z⟩
  · obtain ⟨m, ⟨o, _, _, ho, _⟩, _⟩ := I.loc
    exact free _ o (fun z => (hch _ z).2.1 rfl) ho I.free
  · obtain ⟨v, o, ho, hd⟩ := I.cell x c e
    exact free c o (fun z => (hch c z).2.2.1 x c e rfl) ho (I.freeC x c e)
  · obtain ⟨e, n, ne, nf, d⟩ := I.pin p hp
    have nch : p.1 ∉ ch := fun z => (hch p.1 z).2.2.2 p hp rfl
    exact ⟨keep p.1 p.2 ne nf nch e n, free p.1 p.2 nch e n, ne, nf, d⟩
theorem Inv.un {t' : Nat} (I : Inv X pins σ H s) (u : Un X.fs [] H H' s.heap h') (hok : HOk X.prog X.w H' h') : Inv X pins σ H' { s with heap := h', toks := t' } := by
  obtain ⟨m, ⟨o, es, ep, ho, r⟩, _⟩ := id I.loc
  obtain ⟨sl, hL⟩ := u.any ho I.free (by simp)
  exact I.step (g' := s.gens) (d' := s.drawn) (ch := []) (fun _ z => nomatch z) (fun b o _ hb _ e n => u.keep b o e n hb (by simp)) (fun b o _ hb _ e n => u.slot b o e n hb (by simp)) (fun b o _ e n => u.free b o e n (by simp)) (fun b o _ e => u.there b o e (by simp)) u.tups u.frzs u.tbls (fun m' hm => by
    obtain ⟨o', es', ep', ho', r'⟩ := hm
    rw [ho] at ho'; cases ho'
    exact ⟨_, es', ep', hL, r'⟩) hok I.bare
theorem Inv.call {g' : Array GenState} {t' : Nat} {d' : Drawn} {ch : List Addr} (I : Inv X pins σ H s) (u : Un (frs X.stack) ch H H' s.heap h') (hok : HOk X.prog X.w H' h') (hg : AllBare g')
    (hch : ∀ b ∈ ch, (b ∈ X.ex ∨ X.s₀.heap.objs.size ≤ b) ∧ b ≠ X.env.locals ∧ (∀ x c, X.env.cells.lookup x = some c → c ≠ b) ∧ ∀ p ∈ X.pn ++ pins, p.1 ≠ b) :
    Inv X pins σ H' { s with heap := h', gens := g', drawn := d', toks := t' } := by
  obtain ⟨m, ⟨o, es, ep, ho, r⟩, _⟩ := id I.loc
  obtain ⟨sl, hL⟩ := u.any ho I.free fun z => (hch _ z).2.1 rfl
  exact I.step (ch := ch) hch (fun b o hL hb hc e n => u.keep b o e n (fun z => (List.mem_cons.mp (I.stkSub b z)).elim hL hb) hc) (fun b o _ _ hc e n => u.any e n hc) (fun b o hc e n => u.free b o e n hc) (fun b o hc e => u.there b o e hc) u.tups u.frzs u.tbls (fun m' hm => by
    obtain ⟨o', es', ep', ho', r'⟩ := hm
    rw [ho] at ho'; cases ho'
    exact ⟨_, es', ep', hL, r'⟩) hok hg
theorem Inv.turned {t' : Nat} {it : Addr} (I : Inv X pins σ H s) (k : ∀ b o, b ≠ it → s.heap.get? b = some o → h'.get? b = some o) (hn : H it = none) (hL : it ≠ X.env.locals)
    (h1 : it ∈ X.ex ∨ X.s₀.heap.objs.size ≤ it) (h2 : ∀ x c, X.env.cells.lookup x = some c → c ≠ it) (h3 : ∀ p ∈ X.pn ++ pins, p.1 ≠ it) : Inv X pins σ H { s with heap := h', toks := t' } := by
  have nit : ∀ b u, H b = some u → b ≠ it := fun b u e z => by rw [z, hn] at e; cases e
  refine I.step (g' := s.gens) (d' := s.drawn) (ch := [it]) (fun b hb => ?_) (fun b o _ _ hc e _ => k b o (fun z => hc (by simp [z])) e) (fun b o _ _ hc e _ => ⟨o.slots, k b o (fun z => hc (by simp [z])) e⟩) (fun _ _ _ _ n => n)
    (fun b o hc e => ⟨o, k b o (fun z => hc (by simp [z])) e⟩) (fun _ _ e => e) (fun _ _ _ e => e) (fun b ps e => ⟨#[], by rw [e]; simp⟩) (fun m hm => ?_) (fun b u e => ?_) I.bare
  · have e : b = it := by simpa using hb
    subst e
    exact ⟨h1, hL, h2, h3⟩
  · obtain ⟨o, es, ep, ho, r⟩ := hm
    exact ⟨o, es, ep, k _ o (Ne.symm hL) ho, r⟩
  · refine (I.hok b u e).stay (fun c v hc q => k c v ?_ q) (fun _ q => q) fun _ _ q => q
    rcases hc with z | z
    · rw [z]; exact nit b u e
    · exact nit c _ z
theorem Inv.tok (I : Inv X pins σ H s) (t : Nat) : Inv X pins σ H { s with toks := t } := I.un (h' := s.heap) (t' := t) Un.refl I.hok
theorem Inv.kept {t' : Nat} (I : Inv X pins σ H s) (k : ∀ b u, s.heap.get? b = some u → h'.get? b = some u) : Inv X pins σ H { s with heap := h', toks := t' } := I.un (Un.kept k) (I.hok.kept k)
theorem Inv.laid {a : Addr} {o : HO} {t' : Nat} (I : Inv X pins σ H s) (k : ∀ b u, s.heap.get? b = some u → h'.get? b = some u) (hp : s.heap.objs.size ≤ a) (new : ObjOk X.prog X.w (upd H a o) h' a o) :
    Inv X pins σ (upd H a o) { s with heap := h', toks := t' } := I.un (Un.laid k hp (I.hok.fresh hp)) (I.hok.laid k hp new)
theorem Inv.write {x e : Addr} {o : HO} {t' : Nat} (I : Inv X pins σ H s) (mu : Mut (H x)) (he : e = x ∨ H e = some (.own x)) (k : ∀ b u, b ≠ e → s.heap.get? b = some u → h'.get? b = some u) (heo : ∃ u, h'.get? e = some u)
    (new : ObjOk X.prog X.w (upd H x o) h' x o) : Inv X pins σ (upd H x o) { s with heap := h', toks := t' } := I.un (Un.write mu he k heo) (I.hok.write mu he k heo new)
theorem Inv.weak {σ' : List (Option V)} (I : Inv X pins σ H s) (hl : σ'.length = σ.length) (w : ∀ (i : Nat) v, σ'[i]? = some (some v) → σ[i]? = some (some v)) : Inv X pins σ' H s :=
  ⟨I.ok, I.os, I.bare, I.base, let ⟨m, hn, hl'⟩ := I.loc; ⟨m, hn, fun i x v e1 e2 e3 => hl' i x v e1 (w i v e2) e3⟩, I.cell, I.free, I.freeC, I.pin, I.hok, hl.trans I.len⟩
theorem Inv.pins_of {pins' : List (Addr × Obj)} (I : Inv X pins σ H s) (h : ∀ p ∈ pins', s.heap.get? p.1 = some p.2 ∧ H p.1 = none ∧ p.1 ≠ X.env.locals ∧ p.1 ∉ X.fs ∧ ∀ v, p.2.data ≠ .cell v) : Inv X pins' σ H s :=
  ⟨I.ok, I.os, I.bare, I.base, I.loc, I.cell, I.free, I.freeC, fun p hp => (List.mem_append.mp hp).elim (fun z => I.pin p (List.mem_append_left _ z)) (h p), I.hok, I.len⟩
theorem nodup_ix {N : List Str} (hN : N.Nodup) {i j : Nat} {x : Str} (a : N[i]? = some x) (b : N[j]? = some x) : i = j := by
  obtain ⟨h1, e1⟩ := List.getElem?_eq_some_iff.mp a
  obtain ⟨h2, e2⟩ := List.getElem?_eq_some_iff.mp b
  exact (List.getElem_inj hN).mp (e1.trans e2.symm)
theorem store_ok2 {M : Model} {A : Around} {E : Value → Shared → Prop} {i : Nat} {x : Str} {v : V} {u : Value} {Q : Unit → Shared → Prop} (I : Inv X pins σ H s) (hN : X.N.Nodup) (hi : X.N[i]? = some x) (hx : Loc X.env.scope x) (r : RelV v u)
    (h : ∀ s', Inv X pins (σ.set i (some v)) H s' → (∃ a, Heap.SameBut a s.heap s'.heap ∧ (a = X.env.locals ∨ X.env.cells.lookup x = some a)) → Q () s') (hf : X.fn x = true ∨ X.env.scope.names.lookup x = some .local := by first | exact .inl rfl | exact .inr rfl | assumption) : wpAny M A (storeName X.env x u) Q E s := by
  obtain ⟨m, hn, hl⟩ := id I.loc
  have hcls : (X.env.scope.kind == .class || (X.env.scope.kind == .module && X.env.locals != X.env.globals)) = false := by rw [I.ok.kind]; rfl
  have hiσ : i < σ.length := by rw [I.len]; exact (List.getElem?_eq_some_iff.mp hi).1
  have cne := I.cne
  have tracked : ∀ {a : Addr} {h' : Heap}, (∃ o, s.heap.get? a = some o ∧ H a = none) → Heap.SameBut a s.heap h' → HOk X.prog X.w H h' := fun {a h'} ha hs b ob e => by
    obtain ⟨_, _, hfree⟩ := ha
    refine (I.hok b ob e).stay (fun c w' hc q => (hs.2 c ?_).trans q) (fun _ q => q) fun _ _ q => q
    rintro rfl
    rcases hc with rfl | hc
    · rw [hfree] at e; cases e
    · rw [hfree] at hc; cases hc
  rcases hx with hk | hk
  · refine wpAny_storeName_local hk hn (fun h' hn' hs => ?_) hcls
    obtain ⟨oL, _, _, hoL, _⟩ := id hn
    refine h _ ⟨I.ok, I.os, I.bare, ⟨fun b o e n hb hx => ?_, fun b o e n hb hx => ?_, I.base.free, fun b o e hx => ?_, I.base.tups, I.base.frzs, I.base.tbls⟩, ⟨_, hn', fun j y v' e1 e2 e3 => ?_⟩, fun y c e => ?_, I.free, I.freeC, fun p hp => ?_, tracked ⟨oL, hoL, I.free⟩ hs, by simpa using I.len⟩ ⟨_, hs, .inl rfl⟩
    · exact (hs.2 b (Nat.ne_of_lt (Nat.lt_of_lt_of_le (Heap.lt_size e) I.ok.above))).trans (I.base.keep b o e n hb hx)
    · obtain ⟨sl, e1⟩ := I.base.slot b o e n hb hx
      exact ⟨sl, (hs.2 b (Nat.ne_of_lt (Nat.lt_of_lt_of_le (Heap.lt_size e) I.ok.above))).trans e1⟩
    · obtain ⟨o', e1⟩ := I.base.there b o e hx
      exact ⟨o', (hs.2 b (Nat.ne_of_lt (Nat.lt_of_lt_of_le (Heap.lt_size e) I.ok.above))).trans e1⟩
    · by_cases hj : j = i
      · subst hj
        rw [hi] at e1; cases e1
        rw [List.getElem?_set_self hiσ] at e2
        cases e2
        exact ⟨u, r, .inl ⟨hk, by simp⟩⟩
      · rw [List.getElem?_set_ne (Ne.symm hj)] at e2
        obtain ⟨u', r', q⟩ := hl j y v' e1 e2 e3
        refine ⟨u', r', ?_⟩
        rcases q with ⟨k, e⟩ | ⟨k, c, e, z⟩
        · refine .inl ⟨k, ?_⟩
          have : y ≠ x := fun e => hj (nodup_ix hN e1 (e ▸ hi))
          simp [this, e]
        · exact .inr ⟨k, c, e, z.sameBut hs (cne y c e)⟩
    · obtain ⟨w', z⟩ := I.cell y c e
      exact ⟨w', z.sameBut hs (cne y c e)⟩
    · obtain ⟨e, n, ne, nf, d⟩ := I.pin p hp
      exact ⟨(hs.2 p.1 ne).trans e, n, ne, nf, d⟩
  · have hfn : X.fn x = true := by
      rcases hf with z | z
      · exact z
      · rw [z] at hk; cases hk
    obtain ⟨c, hc⟩ := I.ok.has x (.inl hk)
    obtain ⟨w', z⟩ := I.cell x c hc
    refine wpAny_storeName_cell I.ok.kind hk hc z (fun h' hc' hs => ?_)
    obtain ⟨oc, hoc, hocd⟩ := id z
    refine h { s with heap := h' } ⟨I.ok, I.os, I.bare, ⟨fun b o e n hb hx => ?_, fun b o e n hb hx => ?_, I.base.free, fun b o e hx => ?_, I.base.tups, I.base.frzs, I.base.tbls⟩, ⟨m, hn.sameBut hs (Ne.symm (cne x c hc)), fun j y v' e1 e2 e3 => ?_⟩, fun y c' e => ?_, I.free, I.freeC, fun p hp => ?_, tracked ⟨oc, hoc, I.freeC x c hc⟩ hs, by simpa using I.len⟩ ⟨c, hs, .inr hc⟩
    · exact (hs.2 b (Nat.ne_of_lt (Nat.lt_of_lt_of_le (Heap.lt_size e) (I.ok.cab x c hfn hc)))).trans (I.base.keep b o e n hb hx)
    · obtain ⟨sl, e1⟩ := I.base.slot b o e n hb hx
      exact ⟨sl, (hs.2 b (Nat.ne_of_lt (Nat.lt_of_lt_of_le (Heap.lt_size e) (I.ok.cab x c hfn hc)))).trans e1⟩
    · obtain ⟨o', e1⟩ := I.base.there b o e hx
      exact ⟨o', (hs.2 b (Nat.ne_of_lt (Nat.lt_of_lt_of_le (Heap.lt_size e) (I.ok.cab x c hfn hc)))).trans e1⟩
    · by_cases hj : j = i
      · subst hj
        rw [hi] at e1; cases e1
        rw [List.getElem?_set_self hiσ] at e2
        cases e2
        exact ⟨u, r, .inr ⟨.inl hk, c, hc, hc'⟩⟩
      · rw [List.getElem?_set_ne (Ne.symm hj)] at e2
        obtain ⟨u', r', q⟩ := hl j y v' e1 e2 e3
        refine ⟨u', r', ?_⟩
        rcases q with q | ⟨k, c', e, z'⟩
        · exact .inl q
        · refine .inr ⟨k, c', e, z'.sameBut hs ?_⟩
          rintro rfl
          exact hj (nodup_ix hN e1 (I.ok.inj _ _ _ e hc ▸ hi))
    · by_cases hcc : c' = c
      · subst hcc; exact ⟨_, hc'⟩
      · obtain ⟨w2, z2⟩ := I.cell y c' e
        exact ⟨w2, z2.sameBut hs hcc⟩
    · obtain ⟨e, n, ne, nf, d⟩ := I.pin p hp
      refine ⟨(hs.2 p.1 ?_).trans e, n, ne, nf, d⟩
      intro q
      rw [q, hoc] at e
      have q' : oc = p.2 := Option.some.inj e
      exact d w' (by rw [← q']; exact hocd)
theorem store_ok {M : Model} {A : Around} {E : Value → Shared → Prop} {i : Nat} {x : Str} {v : V} {u : Value} {Q : Unit → Shared → Prop} (I : Inv X pins σ H s) (hN : X.N.Nodup) (hi : X.N[i]? = some x) (hx : Loc X.env.scope x) (r : RelV v u)
    (h : ∀ s', Inv X pins (σ.set i (some v)) H s' → Q () s') (hf : X.fn x = true ∨ X.env.scope.names.lookup x = some .local := by first | exact .inl rfl | exact .inr rfl | assumption) : wpAny M A (storeName X.env x u) Q E s :=
  store_ok2 I hN hi hx r (fun s' I' _ => h s' I') hf
theorem Inv.call' {s' : Shared} {ch : List Addr} (I : Inv X pins σ H s) (ho : s'.os = s.os) (u : Un (frs X.stack) ch H H' s.heap s'.heap) (hok : HOk X.prog X.w H' s'.heap) (hg : AllBare s'.gens)
    (hch : ∀ b ∈ ch, (b ∈ X.ex ∨ X.s₀.heap.objs.size ≤ b) ∧ b ≠ X.env.locals ∧ (∀ x c, X.env.cells.lookup x = some c → c ≠ b) ∧ ∀ p ∈ X.pn ++ pins, p.1 ≠ b) : Inv X pins σ H' s' := by
  obtain ⟨h', g', d', t', o'⟩ := s'
  have e : o' = s.os := ho
  subst e
  exact I.call (g' := g') (t' := t') (d' := d') u hok hg hch
end
abbrev XK := Value → Option Addr → Hp → Prop
abbrev St := List (Option V)
abbrev VK := V → Hp → Prop
abbrev TE := St → Hp → VK → Prop
abbrev TT := St → Hp → (Bool → Hp → Prop) → Prop
abbrev TA := St → Hp → (List V → Hp → Prop) → Prop
structure Ends where
  nx : St → Hp → Prop
  rt : VK
  bk : St → Hp → Prop := fun _ _ => False
  ct : St → Hp → Prop := fun _ _ => False
abbrev TS := Ends → St → Hp → Prop
def EP (X : Cx) (pins : List (Addr × Obj)) (σ : St) (Q : VK) (u : Value) (s' : Shared) : Prop := ∃ v H', Inv X pins σ H' s' ∧ RelV v u ∧ Q v H'
def TP (X : Cx) (pins : List (Addr × Obj)) (σ : St) (Q : Bool → Hp → Prop) (b : Bool) (s' : Shared) : Prop := ∃ H', Inv X pins σ H' s' ∧ Q b H'
def AP (X : Cx) (pins : List (Addr × Obj)) (σ : St) (Q : List V → Hp → Prop) (us : List Value) (s' : Shared) : Prop := ∃ vs H', Inv X pins σ H' s' ∧ Vals vs us ∧ Q vs H'
def SP (X : Cx) (pins : List (Addr × Obj)) (D : Ends) (f : Flow) (s' : Shared) : Prop :=
  match f with
  | .next => ∃ σ' H', Inv X pins σ' H' s' ∧ D.nx σ' H'
  | .brk => ∃ σ' H', Inv X pins σ' H' s' ∧ D.bk σ' H'
  | .cont => ∃ σ' H', Inv X pins σ' H' s' ∧ D.ct σ' H'
  | .ret u => ∃ v σ' H', Inv X pins σ' H' s' ∧ RelV v u ∧ D.rt v H'
def PE (X : Cx) (e : Expr) (t : TE) : Prop :=
  ∀ (pins : List (Addr × Obj)) (s : Shared) (σ : St) (H : Hp) (Q : VK), Inv X pins σ H s → t σ H Q → wpAny (model X.prog X.w) X.A (eval e X.env) (EP X pins σ Q) X.xe s
def PT (X : Cx) (e : Expr) (t : TT) : Prop :=
  ∀ (pins : List (Addr × Obj)) (s : Shared) (σ : St) (H : Hp) (Q : Bool → Hp → Prop), Inv X pins σ H s → t σ H Q → wpAny (model X.prog X.w) X.A (isTrue e X.env (eval e X.env)) (TP X pins σ Q) X.xe s
def PW (X : Cx) (e : Expr) (t : TT) : Prop :=
  ∀ (whole : Sem Value) (pins : List (Addr × Obj)) (s : Shared) (σ : St) (H : Hp) (Q : Bool → Hp → Prop), Inv X pins σ H s → t σ H Q → wpAny (model X.prog X.w) X.A (isTrue e X.env whole) (TP X pins σ Q) X.xe s
theorem PW.pt {X : Cx} {e : Expr} {t : TT} (h : PW X e t) : PT X e t := h _
def PA (X : Cx) (es : List Expr) (t : TA) : Prop :=
  ∀ (pos : Pos) (pins : List (Addr × Obj)) (s : Shared) (σ : St) (H : Hp) (Q : List V → Hp → Prop), Inv X pins σ H s → t σ H Q → wpAny (model X.prog X.w) X.A (spliced (backTo pos (starEach es X.env))) (AP X pins σ Q) X.xe s
def PS (X : Cx) (st : Stmt) (t : TS) : Prop :=
  ∀ (pins : List (Addr × Obj)) (s : Shared) (σ : St) (H : Hp) (D : Ends), Inv X pins σ H s → t D σ H → wpAny (model X.prog X.w) X.A (exec st X.env) (SP X pins D) X.xe s
def PSs (X : Cx) (st : List Stmt) (t : TS) : Prop :=
  ∀ (pins : List (Addr × Obj)) (s : Shared) (σ : St) (H : Hp) (D : Ends), Inv X pins σ H s → t D σ H → wpAny (model X.prog X.w) X.A (execs st X.env) (SP X pins D) X.xe s
theorem thn {α : Type} {t : Sem α} {Q Q' : α → Shared → Prop} {M : Model} {A : Around} {E : Value → Shared → Prop} {s : Shared} (h : wpAny M A t Q E s) (hQ : ∀ a s, Q a s → Q' a s) : wpAny M A t Q' E s := wpAny_mono h hQ fun _ _ x => x
end L2
namespace L2
open PySem PySem.Spec PyProof.Rows
section
variable {X : Cx}
theorem bin {a b : Expr} {ta tb : TE} (ha : PE X a ta) (hb : PE X b tb) {pins : List (Addr × Obj)} {s : Shared} {σ : St} {H : Hp} {R : V → V → Hp → Prop} (I : Inv X pins σ H s) (h : ta σ H fun x H1 => tb σ H1 fun y H2 => R x y H2)
    {α : Type} {Q : α → Shared → Prop} {f : Value → Value → Sem α}
    (hf : ∀ v u s2 x y H2, Inv X pins σ H2 s2 → RelV x v → RelV y u → R x y H2 → wpAny (model X.prog X.w) X.A (f v u) Q X.xe s2) :
    wpAny (model X.prog X.w) X.A (eval a X.env) (fun v s₁ => wpAny (model X.prog X.w) X.A (eval b X.env) (fun u s₂ => wpAny (model X.prog X.w) X.A (f v u) Q X.xe s₂) X.xe s₁) X.xe s := by
  refine thn (ha pins s σ H _ I h) fun v s1 ⟨x, H1, I1, r1, q1⟩ => ?_
  refine thn (hb pins s1 σ H1 _ I1 q1) fun u s2 ⟨y, H2, I2, r2, q2⟩ => ?_
  exact hf v u s2 x y H2 I2 r1 r2 q2
def tVar (i : Nat) : TE := fun σ H Q => ∃ v, σ[i]? = some (some v) ∧ Q v H
def tC (v : V) : TE := fun _ H Q => Q v H
theorem pe_var {i : Nat} {x : Str} {pos : Pos} (hN : X.N[i]? = some x) (hv : Vis X.env.scope x) (hd : (x == ("__debug__" : Str)) = false := by decide) (hcd : (x == ("__classdict__" : Str)) = false := by decide) : PE X (.Name x pos) (tVar i) := by
  intro pins s σ H Q I h
  obtain ⟨v, e, h⟩ := h
  obtain ⟨m, hn, hl⟩ := I.loc
  obtain ⟨u, r, l⟩ := hl i x v hN e hv
  have fin : EP X pins σ Q u s := ⟨v, H, I, r, h⟩
  rcases l with ⟨hk, hm⟩ | ⟨hk, c, hc, hcell⟩
  · exact wpAny_Name (wpAny_loadName_local I.ok.kind hk hn hm fin) hd
  · rcases hk with hk | hk
    · exact wpAny_Name (wpAny_loadName_cell I.ok.kind hk hc hcell fin) hd
    · exact wpAny_Name (wpAny_loadName_free I.ok.kind hk hc hcell fin hcd) hd
theorem pe_int {i j pos} : PE X (.Constant (.int i) j pos) (tC (.int i)) := fun _ _ _ H _ I h => wpAny_Constant_int ⟨.int i, H, I.tok _, ⟨_, rfl⟩, h⟩
theorem pe_bl {b j pos} : PE X (.Constant (.bool b) j pos) (tC (.bl b)) := fun _ _ _ H _ I h => Constant_bool ⟨.bl b, H, I, rfl, h⟩
theorem pe_non {j pos} : PE X (.Constant .none j pos) (tC .non) := fun _ _ _ H _ I h => Constant_none ⟨.non, H, I, rfl, h⟩
theorem pe_str {x j pos} : PE X (.Constant (.str x) j pos) (tC (.str x)) := fun _ _ _ H _ I h => Calls.Constant_str ⟨.str x, H, I.tok _, ⟨_, rfl⟩, h⟩
def Gl (X : Cx) (x : Str) : Prop := X.env.kindOf x = some .globalImplicit
theorem ld_glob {E : Value → Shared → Prop} {pins : List (Addr × Obj)} {s : Shared} {σ : St} {H : Hp} {x : Str} {u : Value} {pos : Pos} {Q : Value → Shared → Prop} (I : Inv X pins σ H s) (hg : Gl X x) (hm : X.mg x = some u) (h : Q u s)
    (hd : (x == ("__debug__" : Str)) = false := by decide) : wpAny (model X.prog X.w) X.A (eval (.Name x pos) X.env) Q E s :=
  Calls.Name_function_global I.ok.kind hg (Calls.loadGlobal_global (by rw [I.ok.glob]; exact I.mod.glob.keeps I.bk) hm h) hd
theorem ld_blt {E : Value → Shared → Prop} {pins : List (Addr × Obj)} {s : Shared} {σ : St} {H : Hp} {x : Str} {u : Value} {pos : Pos} {Q : Value → Shared → Prop} (I : Inv X pins σ H s) (hg : Gl X x) (hm : X.mg x = none) (hv : bootBuiltins x = some u) (h : Q u s)
    (hn : x ≠ "__name__" := by decide) (hd : (x == ("__debug__" : Str)) = false := by decide) : wpAny (model X.prog X.w) X.A (eval (.Name x pos) X.env) Q E s := by
  obtain ⟨mb, h1, h2⟩ := I.mod.blt
  exact Calls.Name_function_global I.ok.kind hg (Calls.loadGlobal_builtin (by rw [I.ok.glob]; exact I.mod.glob.keeps I.bk) hm (by rw [I.ok.blt]; exact h1.keeps I.bk) ((h2 x hn).trans hv) h) hd
theorem pe_glob {x : Str} {v : V} {u : Value} {pos : Pos} (hg : Gl X x) (hm : X.mg x = some u) (r : RelV v u) (hd : (x == ("__debug__" : Str)) = false := by decide) : PE X (.Name x pos) (tC v) :=
  fun _ _ _ H _ I h => ld_glob I hg hm ⟨v, H, I, r, h⟩ hd
variable {a b : Expr} {ta tb : TE} {pos : Pos}
variable {tA tB' : TT} {rest : List Expr}
def tAnd (t u : TT) : TT := fun σ H Q => t σ H fun c H1 => if c = true then u σ H1 Q else Q false H1
def tOr (t u : TT) : TT := fun σ H Q => t σ H fun c H1 => if c = true then Q true H1 else u σ H1 Q
def tNot (t : TT) : TT := fun σ H Q => t σ H fun c H1 => Q (!c) H1
theorem pw_and1 (ha : PT X a tA) : PW X (.BoolOp .And [a] pos) tA := by
  intro wh pins s σ H Q I h
  refine isTrue_and (thn (ha pins s σ H Q I h) fun c s1 e => ?_)
  cases c with
  | true => exact isTrue_and_nil e
  | false => exact e
theorem pw_or1 (ha : PT X a tA) : PW X (.BoolOp .Or [a] pos) tA := by
  intro wh pins s σ H Q I h
  refine isTrue_or (thn (ha pins s σ H Q I h) fun c s1 e => ?_)
  cases c with
  | false => exact isTrue_or_nil e
  | true => exact e
theorem pw_and (ha : PT X a tA) (hb : PW X (.BoolOp .And (b :: rest) pos) tB') : PW X (.BoolOp .And (a :: b :: rest) pos) (tAnd tA tB') := by
  intro wh pins s σ H Q I h
  refine isTrue_and (thn (ha pins s σ H _ I h) fun c s1 ⟨H1, I1, q1⟩ => ?_)
  cases c with
  | true => exact hb wh pins s1 σ H1 Q I1 q1
  | false => exact ⟨H1, I1, q1⟩
theorem pw_or (ha : PT X a tA) (hb : PW X (.BoolOp .Or (b :: rest) pos) tB') : PW X (.BoolOp .Or (a :: b :: rest) pos) (tOr tA tB') := by
  intro wh pins s σ H Q I h
  refine isTrue_or (thn (ha pins s σ H _ I h) fun c s1 ⟨H1, I1, q1⟩ => ?_)
  cases c with
  | true => exact ⟨H1, I1, q1⟩
  | false => exact hb wh pins s1 σ H1 Q I1 q1
theorem pt_not (ha : PT X a tA) : PT X (.UnaryOp .Not a pos) (tNot tA) := by
  intro pins s σ H Q I h
  exact isTrue_not (ha pins s σ H (fun c H1 => Q (!c) H1) I h)
def tAndV (ta tb : TE) : TE := fun σ H Q => ta σ H fun x H1 => ∃ c, x = .bl c ∧ if c = true then tb σ H1 Q else Q (.bl false) H1
def tOrV (ta tb : TE) : TE := fun σ H Q => ta σ H fun x H1 => ∃ c, x = .bl c ∧ if c = true then Q (.bl true) H1 else tb σ H1 Q
def tNotV (ta : TE) : TE := fun σ H Q => ta σ H fun x H1 => ∃ c, x = .bl c ∧ Q (.bl (!c)) H1
def tIf (t : TT) (ta tb : TE) : TE := fun σ H Q => t σ H fun c H1 => if c = true then ta σ H1 Q else tb σ H1 Q
end
end L2
namespace L2
open PySem PySem.Spec PyProof.Rows
def SqL (K : PySem.W.Frag) (H : Hp) (a : Addr) (xs : List V) : Prop :=
  Rd H a (.lst xs) ∨
    ∃ (o : Obj) (its : Array Value) (n : Nat), K.lookup a = some o ∧ o.cls = .type "list" ∧ o.dict = none ∧ o.data = .seq its n ∧ its.size ≤ sizeLine ∧ Vals xs its.toList
def SqT (K : PySem.W.Frag) (H : Hp) (a : Addr) (xs : List V) : Prop :=
  Rd H a (.tup xs) ∨
    ∃ (o : Obj) (its : Array Value) (n : Nat), K.lookup a = some o ∧ o.cls = .type "tuple" ∧ o.data = .seq its n ∧ its.size ≤ sizeLine ∧ Vals xs its.toList
def absV : Value → Option V
  | .none => some .non
  | .bool b => some (.bl b)
  | .int i _ => some (.int i)
  | .str x _ => some (.str x)
  | .bytes b _ => some (.byt b)
  | .float b _ => some (.flt b)
  | .ref a => some (.ref a)
  | .type n => some (.ty n)
  | _ => none
theorem RelV.abs {x : V} {u : Value} (r : RelV x u) : absV u = some x := by
  cases x with
  | non => cases r; rfl
  | bl _ => cases r; rfl
  | int _ => obtain ⟨t, rfl⟩ := r; rfl
  | str _ => obtain ⟨t, rfl⟩ := r; rfl
  | byt _ => obtain ⟨t, rfl⟩ := r; rfl
  | flt _ => obtain ⟨t, rfl⟩ := r; rfl
  | ref _ => cases r; rfl
  | ty _ => cases r; rfl
theorem RelV.inj {x y : V} {u : Value} (r : RelV x u) (q : RelV y u) : x = y := Option.some.inj (r.abs.symm.trans q.abs)
theorem Vals.inj : ∀ {xs ys : List V} {us : List Value}, Vals xs us → Vals ys us → xs = ys
  | _, _, _, .nil, .nil => rfl
  | _, _, _, .cons r t, .cons r' t' => by rw [r.inj r', Vals.inj t t']
section
variable {X : Cx} {pins : List (Addr × Obj)} {σ : St} {H : Hp} {s : Shared} {a : Addr} {xs ys : List V}
theorem SqL.of {K : PySem.W.Frag} (h : H a = some (.lst xs)) : SqL K H a xs := .inl (.inl h)
theorem SqT.of {K : PySem.W.Frag} (h : H a = some (.tup xs)) : SqT K H a xs := .inl (.inl h)
theorem Inv.list (I : Inv X pins σ H s) (h : SqL X.K H a xs) : ∃ its : List Value, Vals xs its ∧ PlainL s.heap a its.toArray ∧ xs.length ≤ sizeLine := by
  rcases h with h | ⟨o, its, n, hk, hc, hd, hs, hz, r⟩
  · obtain ⟨z, its, n, r, e⟩ := h.ok I.hok
    exact ⟨its, r, ⟨_, n, e, rfl, rfl, rfl⟩, z⟩
  · refine ⟨its.toList, r, ⟨o, n, I.kIn a o hk, hc, hd, by simpa using hs⟩, ?_⟩
    have e := r.length
    simp only [Array.length_toList] at e
    omega
theorem Inv.tuple (I : Inv X pins σ H s) (h : SqT X.K H a xs) : ∃ its : List Value, Vals xs its ∧ IsTup s.heap a its.toArray ∧ xs.length ≤ sizeLine := by
  rcases h with h | ⟨o, its, n, hk, hc, hs, hz, r⟩
  · obtain ⟨z, its, r, p⟩ := h.ok I.hok
    exact ⟨its, r, p, z⟩
  · refine ⟨its.toList, r, ⟨o, I.kIn a o hk, hc, n, by simpa using hs⟩, ?_⟩
    have e := r.length
    simp only [Array.length_toList] at e
    omega
theorem Inv.list_inj (I : Inv X pins σ H s) (h : SqL X.K H a xs) (h' : SqL X.K H a ys) : xs = ys := by
  obtain ⟨its, r, ⟨o, n, e, _, _, d⟩, _⟩ := I.list h
  obtain ⟨its', r', ⟨o', n', e', _, _, d'⟩, _⟩ := I.list h'
  rw [e] at e'; cases e'
  rw [d] at d'
  injection d' with d1 _
  have : its = its' := by simpa using congrArg Array.toList d1
  subst this
  exact r.inj r'
theorem Inv.tuple_inj (I : Inv X pins σ H s) (h : SqT X.K H a xs) (h' : SqT X.K H a ys) : xs = ys := by
  obtain ⟨its, r, ⟨o, e, _, n, d⟩, _⟩ := I.tuple h
  obtain ⟨its', r', ⟨o', e', _, n', d'⟩, _⟩ := I.tuple h'
  rw [e] at e'; cases e'
  rw [d] at d'
  injection d' with d1 _
  have : its = its' := by simpa using congrArg Array.toList d1
  subst this
  exact r.inj r'
end
abbrev Cx.wish (X : Cx) (E : Value → Shared → Prop) : Cx := { X with xe := E }
abbrev Cx.nox (X : Cx) : Cx := X.wish fun _ _ => False
theorem Cx.Ok.wish {X : Cx} (ok : X.Ok) (E : Value → Shared → Prop) : (X.wish E).Ok :=
  ⟨ok.mod, ok.kind, ok.glob, ok.blt, ok.above, ok.inj, ok.has, ok.cab, ok.hd, ok.frames, ok.stk, ok.exf, ok.bs, ok.bsz, ok.noex, ok.exfs, ok.funs, ok.frf⟩
theorem Cx.Ok.unwish {X : Cx} {E : Value → Shared → Prop} (ok : (X.wish E).Ok) : X.Ok :=
  ⟨ok.mod, ok.kind, ok.glob, ok.blt, ok.above, ok.inj, ok.has, ok.cab, ok.hd, ok.frames, ok.stk, ok.exf, ok.bs, ok.bsz, ok.noex, ok.exfs, ok.funs, ok.frf⟩
section
variable {X : Cx} {pins : List (Addr × Obj)} {σ : St} {H : Hp} {s : Shared} {E : Value → Shared → Prop}
theorem Inv.wish (I : Inv X pins σ H s) (E : Value → Shared → Prop) : Inv (X.wish E) pins σ H s := ⟨I.ok.wish E, I.os, I.bare, I.base, I.loc, I.cell, I.free, I.freeC, I.pin, I.hok, I.len⟩
theorem Inv.unwish (I : Inv (X.wish E) pins σ H s) : Inv X pins σ H s := ⟨I.ok.unwish, I.os, I.bare, I.base, I.loc, I.cell, I.free, I.freeC, I.pin, I.hok, I.len⟩
theorem SP.unwish {D : Ends} {f : Flow} {s' : Shared} (h : SP (X.wish E) pins D f s') : SP X pins D f s' := by
  cases f with
  | next => obtain ⟨σ', H', I, q⟩ := h; exact ⟨σ', H', I.unwish, q⟩
  | brk => obtain ⟨σ', H', I, q⟩ := h; exact ⟨σ', H', I.unwish, q⟩
  | cont => obtain ⟨σ', H', I, q⟩ := h; exact ⟨σ', H', I.unwish, q⟩
  | ret u => obtain ⟨v, σ', H', I, r, q⟩ := h; exact ⟨v, σ', H', I.unwish, r, q⟩
theorem PSs.nox {st : List Stmt} {t : TS} (h : PSs X.nox st t) : PSs X st t := fun pins s σ H D I hw =>
  wpAny_mono (h pins s σ H D (I.wish _) hw) (fun _ _ q => q.unwish) fun _ _ z => False.elim z
end
section
variable {X : Cx} {st : Stmt} {rest : List Stmt} {t u : TS} {e : Expr} {te : TE} {pos : Pos}
def tNext : TS := fun D σ H => D.nx σ H
def tSeq (t u : TS) : TS := fun D σ H => t { D with nx := u D } σ H
theorem pss_nil : PSs X [] tNext := fun _ _ σ H _ I h => wpAny_execs_nil ⟨σ, H, I, h⟩
theorem pss_cons (h1 : PS X st t) (h2 : PSs X rest u) : PSs X (st :: rest) (tSeq t u) := by
  intro pins s σ H D I h
  refine wpAny_execs_cons (thn (h1 pins s σ H { D with nx := u D } I h) fun f s1 q => ?_)
  cases f with
  | next =>
    obtain ⟨σ', H', I', q⟩ := q
    exact h2 pins s1 σ' H' D I' q
  | ret v => exact q
  | brk => exact q
  | cont => exact q
theorem pss_one (h1 : PS X st t) : PSs X [st] t := by
  intro pins s σ H D I h
  refine wpAny_execs_cons (thn (h1 pins s σ H D I h) fun f s1 q => ?_)
  cases f with
  | next => exact wpAny_execs_nil q
  | ret v => exact q
  | brk => exact q
  | cont => exact q
def tBreak : TS := fun D σ H => D.bk σ H
def tCont : TS := fun D σ H => D.ct σ H
theorem Inv.quiet {pins : List (Addr × Obj)} {σ : St} {H : Hp} {s : Shared} (I : Inv X pins σ H s) : interactive X.env = false := by simp [interactive, I.ok.kind]
def tDrop (te : TE) : TS := fun D σ H => te σ H fun _ H1 => D.nx σ H1
theorem ps_expr (he : PE X e te) (hs : swapsWith e none pos.line X.env = pure false := by rfl) : PS X (.Expr e pos) (tDrop te) := by
  intro pins s σ H D I h
  exact wpAny_Expr_any (thn (he pins s σ H _ I h) fun v s1 ⟨x, H1, I1, r1, q1⟩ => ⟨σ, H1, I1, q1⟩) I.quiet hs
def tRet (te : TE) : TS := fun D σ H => te σ H D.rt
theorem ps_ret (he : PE X e te) : PS X (.Return (some e) pos) (tRet te) := by
  intro pins s σ H D I h
  exact wpAny_Return_some (thn (he pins s σ H _ I h) fun v s1 ⟨x, H1, I1, r1, q1⟩ => ⟨x, σ, H1, I1, r1, q1⟩)
def tRetN : TS := fun D _ H => D.rt .non H
def tIfS (c : TT) (t u : TS) : TS := fun D σ H => c σ H fun b H1 => if b = true then t D σ H1 else u D σ H1
theorem ps_if {c : Expr} {a b : List Stmt} {tc : TT} (hc : PT X c tc) (ha : PSs X a t) (hb : PSs X b u) : PS X (.If c a b pos) (tIfS tc t u) := by
  intro pins s σ H D I h
  refine wpAny_If (thn (hc pins s σ H _ I h) fun d s1 ⟨H1, I1, q1⟩ => ?_)
  cases d with
  | true => exact ha pins s1 σ H1 D I1 q1
  | false => exact hb pins s1 σ H1 D I1 q1
end
abbrev TG := V → St → Hp → (St → Hp → Prop) → Prop
abbrev TGs := List V → St → Hp → (St → Hp → Prop) → Prop
def PG (X : Cx) (target : Expr) (t : TG) : Prop :=
  ∀ (pins : List (Addr × Obj)) (s : Shared) (σ : St) (H : Hp) (v : V) (u : Value) (Q : St → Hp → Prop), Inv X pins σ H s → RelV v u → t v σ H Q →
    wpAny (model X.prog X.w) X.A (assign target X.env u) (fun _ s' => ∃ σ' H', Inv X pins σ' H' s' ∧ Q σ' H') X.xe s
def PGs (X : Cx) (ts : List Expr) (t : TGs) : Prop :=
  ∀ (pins : List (Addr × Obj)) (s : Shared) (σ : St) (H : Hp) (vs : List V) (us : List Value) (Q : St → Hp → Prop), Inv X pins σ H s → Vals vs us → t vs σ H Q →
    wpAny (model X.prog X.w) X.A (assignInOrder ((assignEach ts X.env).map (·.2)) us) (fun _ s' => ∃ σ' H', Inv X pins σ' H' s' ∧ Q σ' H') X.xe s
section
variable {X : Cx} {pos : Pos}
def gName (i : Nat) : TG := fun v σ H Q => Q (σ.set i (some v)) H
theorem pg_name {i : Nat} {x : Str} (hN : X.N.Nodup) (hi : X.N[i]? = some x) (hx : Loc X.env.scope x) (hf : X.fn x = true ∨ X.env.scope.names.lookup x = some .local := by first | exact .inl rfl | exact .inr rfl | assumption) : PG X (.Name x pos) (gName i) := by
  intro pins s σ H v u Q I r h
  exact wpAny_assign_Name (store_ok I hN hi hx r (fun s' I' => ⟨_, H, I', h⟩) hf)
def gNil : TGs := fun vs σ H Q => vs = [] ∧ Q σ H
def gCons (t : TG) (u : TGs) : TGs := fun vs σ H Q => ∃ v r, vs = v :: r ∧ t v σ H fun σ' H' => u r σ' H' Q
theorem pgs_nil : PGs X [] gNil := by
  intro pins s σ H vs us Q I r h
  obtain ⟨e, h⟩ := h
  subst e
  cases r
  exact assignInOrder_nil ⟨σ, H, I, h⟩
theorem pgs_cons {e : Expr} {es : List Expr} {t : TG} {u : TGs} (h1 : PG X e t) (h2 : PGs X es u)
    (hs : (assignEach (e :: es) X.env).map (·.2) = assign e X.env :: (assignEach es X.env).map (·.2) := by rfl) : PGs X (e :: es) (gCons t u) := by
  intro pins s σ H vs us Q I r h
  obtain ⟨v, vr, e1, h⟩ := h
  subst e1
  cases r with
  | cons r rr =>
    rw [hs]
    refine assignInOrder_cons (thn (h1 pins s σ H _ _ _ I r h) fun _ s1 ⟨σ1, H1, I1, q1⟩ => ?_)
    exact h2 pins s1 σ1 H1 _ _ Q I1 rr q1
def gTup (K : PySem.W.Frag) (n : Nat) (t : TGs) : TG := fun v σ H Q => ∃ a xs, v = .ref a ∧ SqT K H a xs ∧ xs.length = n ∧ t xs σ H Q
theorem pg_tup {es : List Expr} {k : Nat} {t : TGs} {n : Nat} (hc : X.calm = true) (h : PGs X es t)
    (hn : (assignEach es X.env).length = n := by rfl) (hst : (assignEach es X.env).findIdx? (·.1) = none := by rfl) : PG X (.Tuple es k pos) (gTup X.K n t) := by
  intro pins s σ H v u Q I r hw
  obtain ⟨a, xs, e1, hq, hl, hw⟩ := hw
  subst e1
  cases r
  obtain ⟨its, rv, ht, hz⟩ := I.tuple hq
  refine assign_Tuple_tuple (I.ok.hd hc) ht (by simp [hn, ← hl, rv.length]) hst fun h' hx => ?_
  have I1 : Inv X pins σ H { s with heap := h' } := I.kept (t' := s.toks) fun b o e => hx b o (Nat.ne_of_lt (Heap.lt_size e)) e
  exact h pins _ σ H xs _ Q I1 (by simpa using rv) hw
def tAsg (te : TE) (g : TG) : TS := fun D σ H => te σ H fun x H1 => g x σ H1 D.nx
theorem ps_asg {tg e : Expr} {te : TE} {g : TG} (he : PE X e te) (hg : PG X tg g) (hs : swapsWithSole [tg] e pos.line X.env = pure false := by rfl) (hw : swappedStores [tg] e X.env = pure none := by rfl)
    (h1 : (assignEach [tg] X.env).map (·.2) = [assign tg X.env] := by rfl) : PS X (.Assign [tg] e pos) (tAsg te g) := by
  intro pins s σ H D I h
  refine wpAny_Assign_stores (thn (he pins s σ H _ I h) fun v s1 ⟨x, H1, I1, r1, q1⟩ => ?_) hs hw
  rw [h1]
  exact thn (hg pins s1 σ H1 x v _ I1 r1 q1) fun _ s2 q => q
theorem ps_set {i : Nat} {x : Str} {e : Expr} {te : TE} {pos' : Pos} (hN : X.N.Nodup) (hi : X.N[i]? = some x) (hx : Loc X.env.scope x) (he : PE X e te) (hs : swapsWith e (some (.Name x pos')) pos.line X.env = pure false := by rfl) (hf : X.fn x = true ∨ X.env.scope.names.lookup x = some .local := by first | exact .inl rfl | exact .inr rfl | assumption) :
    PS X (.Assign [.Name x pos'] e pos) (tAsg te (gName i)) := by
  intro pins s σ H D I h
  refine wpAny_Assign_Name (thn (he pins s σ H _ I h) fun v s1 ⟨y, H1, I1, r1, q1⟩ => ?_) hs
  exact store_ok I1 hN hi hx r1 (fun s2 I2 => ⟨_, H1, I2, q1⟩) hf
def tPar (i j : Nat) (ta : TA) : TS := fun D σ H => ta σ H fun vs H1 => ∃ v w, vs = [v, w] ∧ D.nx ((σ.set i (some v)).set j (some w)) H1
theorem ps_par {i j : Nat} {x y : Str} {a b : Expr} {ta : TA} {px py pt : Pos} {kt k2 pt2} (hc : X.calm = true) (hN : X.N.Nodup) (hi : X.N[i]? = some x) (hj : X.N[j]? = some y) (hij : i ≠ j)
    (hx : X.env.scope.names.lookup x = some .local) (hy : X.env.scope.names.lookup y = some .local) (ha : PA X [a, b] ta)
    (hw : swappedStores [.Tuple [.Name x px, .Name y py] kt pt] (.Tuple [a, b] k2 pt2) X.env = pure (some [x, y]))
    (hs : swapsWithSole [.Tuple [.Name x px, .Name y py] kt pt] (.Tuple [a, b] k2 pt2) pos.line X.env = pure false := by rfl) :
    PS X (.Assign [.Tuple [.Name x px, .Name y py] kt pt] (.Tuple [a, b] k2 pt2) pos) (tPar i j ta) := by
  intro pins s σ H D I h
  rw [exec_Assign_arm]
  refine wpAny_bind (wpAny_standAt ?_)
  rw [hs]
  refine wpAny_bind (wpAny_pure ?_)
  rw [if_neg (by decide)]
  refine wpAny_bind (Tuple_ (thn (ha _ pins s σ H _ I h) fun us s1 ⟨vs, H1, I1, r1, q1⟩ => ?_))
  obtain ⟨v, w, e1, q1⟩ := q1
  subst e1
  obtain ⟨u1, u2, rfl, rv, rw'⟩ : ∃ u1 u2, us = [u1, u2] ∧ RelV v u1 ∧ RelV w u2 := by
    cases r1 with
    | cons p q =>
      cases q with
      | cons p' q' =>
        cases q'
        exact ⟨_, _, rfl, p, p'⟩
  refine wpAny_newObj_type ?_ (by show 2 ≤ sizeLine; decide)
  have I2 : Inv X pins σ H1 { s1 with heap := s1.heap.push { cls := .type "tuple", data := .seq [u1, u2].toArray } } := I1.kept (t' := s1.toks) fun b o e => Heap.get?_push_of_some _ e
  rw [hw]
  refine wpAny_bind (wpAny_pure ?_)
  show wpAny (model X.prog X.w) X.A (do rule "assign.swapped-stores"; let items ← unpackItems (.ref s1.heap.objs.size) 2 none; assignInOrder [fun v => bindName X.env y v, fun v => bindName X.env x v] items.reverse; pure Flow.next) _ _ _
  refine wpAny_bind (wpAny_rule (wpAny_bind (unpackItems_tuple (items := #[u1, u2]) (I.ok.hd hc) (IsTup.new s1.heap _) fun h' hx' => ?_)))
  have I3 := I2.kept (h' := h') (t' := s1.toks) fun b o e => hx' b o (Nat.ne_of_lt (Heap.lt_size e)) e
  show wpAny _ _ (assignInOrder [fun v => bindName X.env y v, fun v => bindName X.env x v] [u2, u1] >>= fun _ => pure Flow.next) _ _ _
  refine wpAny_bind (assignInOrder_cons (wpAny_bindName (store_ok I3 hN hj (.inl hy) rw' (fun s2 I4 => ?_) (.inr hy))))
  refine assignInOrder_cons (wpAny_bindName (store_ok I4 hN hi (.inl hx) rv (fun s3 I5 => assignInOrder_nil (wpAny_pure ?_)) (.inr hx)))
  rw [List.set_comm _ _ (Ne.symm hij)] at I5
  exact ⟨_, H1, I5, q1⟩
end
section
variable {X : Cx} {pos : Pos}
def tWhile (c : TT) (tb : TS) : TS := fun D σ H => ∃ W : Nat → St → Hp → Prop, (∃ m, W m σ H) ∧ ∀ m σ H, W m σ H →
  c σ H fun b H1 => if b = true then ∃ N : St → Hp → Prop, (∀ σ' H', N σ' H' → ∃ m', m' < m ∧ W m' σ' H') ∧ tb { D with nx := N, ct := N, bk := D.nx } σ H1 else D.nx σ H1
theorem ps_while {c : Expr} {body : List Stmt} {tc : TT} {tb : TS} (hp : PassesOwn (model X.prog X.w) X.A X.env X.xe) (hc : PT X c tc) (hb : PSs X body tb) : PS X (.While c body [] pos) (tWhile tc tb) := by
  intro pins s σ H D I h
  obtain ⟨W, ⟨m0, w0⟩, turn⟩ := h
  refine wpAny_While (codeAny_whileLoop (fun n s' => ∃ σ' H', Inv X pins σ' H' s' ∧ W n σ' H') ?_ m0 ⟨σ, H, I, w0⟩)
  rintro n s1 ⟨σ1, H1, I1, w1⟩
  refine wpAny_passesOwn hp (thn (hc pins s1 σ1 H1 _ I1 (turn n σ1 H1 w1)) fun b s2 ⟨H2, I2, q2⟩ => ?_)
  cases b with
  | true =>
    obtain ⟨N, hN, q2⟩ := q2
    rw [if_pos rfl]
    refine wpAny_passesOwn hp (thn (hb pins s2 σ1 H2 _ I2 q2) fun f s3 q3 => ?_)
    cases f with
    | next =>
      obtain ⟨σ3, H3, I3, n3⟩ := q3
      obtain ⟨m', hm, w3⟩ := hN σ3 H3 n3
      exact ⟨m', hm, σ3, H3, I3, w3⟩
    | cont =>
      obtain ⟨σ3, H3, I3, n3⟩ := q3
      obtain ⟨m', hm, w3⟩ := hN σ3 H3 n3
      exact ⟨m', hm, σ3, H3, I3, w3⟩
    | brk => exact q3
    | ret v => exact q3
  | false =>
    rw [if_neg Bool.false_ne_true]
    exact wpAny_execs_nil ⟨σ1, H2, I2, q2⟩
end
structure It where
  go : Nat → Hp → Prop
  yld : Nat → Hp → V → Hp → Prop
  stop : Nat → Hp → Prop
def FpOk (X : Cx) (pins : List (Addr × Obj)) (H : Hp) (b : Addr) : Prop :=
  H b = none ∧ b ≠ X.env.locals ∧ b ∉ X.fs ∧ (b ∈ X.ex ∨ X.s₀.heap.objs.size ≤ b) ∧ (∀ x c, X.env.cells.lookup x = some c → c ≠ b) ∧ ∀ p ∈ X.pn ++ pins, p.1 ≠ b
theorem Inv.fpOk {X : Cx} {pins : List (Addr × Obj)} {σ : St} {H H' : Hp} {s : Shared} {b : Addr} (I : Inv X pins σ H s) (hb : s.heap.objs.size ≤ b) (hn : H' b = none) : FpOk X pins H' b := by
  refine ⟨hn, Nat.ne_of_gt (Nat.lt_of_lt_of_le I.lt hb), I.nofs hb, .inr (Nat.le_trans I.sz hb), fun x c e z => ?_, fun p hp z => ?_⟩
  · obtain ⟨v, q⟩ := I.cell x c e
    exact absurd (Nat.lt_of_lt_of_le q.lt (by rw [z]; exact hb)) (Nat.lt_irrefl _)
  · exact absurd (Nat.lt_of_lt_of_le (Heap.lt_size (I.pin p hp).1) (by rw [z]; exact hb)) (Nat.lt_irrefl _)
structure Turn (P : Program) (w : World) (K : PySem.W.Frag) (tg : Expr) (J : It) (fp : List Addr) (it : Addr) (tn : Nat → Heap → Prop) : Prop where
  mem : it ∈ fp
  obj : ∀ i h, tn i h → ∀ b ∈ fp, ∃ o, h.get? b = some o ∧ ∀ v, o.data ≠ .cell v
  keep : ∀ i h h', tn i h → (∀ b ∈ fp, ∀ o, h.get? b = some o → h'.get? b = some o) → tn i h'
  item : ∀ (X : Cx), X.prog = P → X.w = w → X.K = K → X.calm = true → ∀ (i : Nat) (pins : List (Addr × Obj)) (s : Shared) (σ : St) (H : Hp) (E : Value → Shared → Prop), Inv X pins σ H s → (∀ b ∈ fp, FpOk X pins H b) → tn i s.heap → J.go i H →
    wpAny (model P w) X.A (pyNext (.ref it)) (fun r s1 => ∃ u, r = some u ∧
      wpAny (model P w) X.A (letOwnedTupleGo tg (.ref it) u) (fun _ s2 => ∃ x H', Inv X pins σ H' s2 ∧ RelV x u ∧ J.yld i H x H' ∧ tn (i + 1) s2.heap ∧ ∀ b ∈ fp, H' b = none) E s1) E s
  done : ∀ (X : Cx), X.prog = P → X.w = w → X.K = K → X.calm = true → ∀ (i : Nat) (pins : List (Addr × Obj)) (s : Shared) (σ : St) (H : Hp) (E : Value → Shared → Prop), Inv X pins σ H s → (∀ b ∈ fp, FpOk X pins H b) → tn i s.heap → J.stop i H →
    wpAny (model P w) X.A (pyNext (.ref it)) (fun r s1 => r = none ∧ Inv X pins σ H s1) E s
  self : ∀ (A : Around) (i : Nat) (s : Shared) (Q : Value → Shared → Prop) (E : Value → Shared → Prop), tn i s.heap → Q (.ref it) s → wpAny (model P w) A (pyIter (.ref it)) Q E s
abbrev TI := St → Hp → (It → Hp → Prop) → Prop
def PIE (X : Cx) (pins : List (Addr × Obj)) (σ : St) (tg : Expr) (R : It → Hp → Prop) (itv : Value) (s2 : Shared) : Prop :=
  ∃ (it : Addr) (fp : List Addr) (tn : Nat → Heap → Prop) (J : It) (H' : Hp), itv = .ref it ∧ Inv X pins σ H' s2 ∧ Turn X.prog X.w X.K tg J fp it tn ∧ tn 0 s2.heap ∧ (∀ b ∈ fp, FpOk X pins H' b) ∧ R J H'
def PI (X : Cx) (tg iter : Expr) (wi : TI) : Prop :=
  ∀ (pins : List (Addr × Obj)) (s : Shared) (σ : St) (H : Hp) (R : It → Hp → Prop), Inv X pins σ H s → wi σ H R →
    wpAny (model X.prog X.w) X.A (eval iter X.env) (fun v s1 => wpAny (model X.prog X.w) X.A (pyIter v) (PIE X pins σ tg R) X.xe s1) X.xe s
theorem go_of {M : Model} {A : Around} {E : Value → Shared → Prop} {s : Shared} {tg : Expr} {it : Addr} {u : Value} {o : Obj} {n : String} {vs : Array Value} {Q : Unit → Shared → Prop} (ho : s.heap.get? it = some o) (hc : o.cls = .type n) (hd : o.data = .fields vs)
    (hn : ["enumerate", "zip", "dict_itemiterator", "dict_reverseitemiterator", "odict_iterator", "itertools.zip_longest", "itertools.pairwise"].contains n = false) (hQ : Q () s) : wpAny M A (letOwnedTupleGo tg (.ref it) u) Q E s := by
  unfold letOwnedTupleGo
  cases tg <;> first
    | exact wpAny_pure hQ
    | (cases u <;> first
        | exact wpAny_pure hQ
        | (refine wpAny_bind (wpAny_load ho ?_)
           rw [hc, hd]
           show wpAny M A (if (["enumerate", "zip", "dict_itemiterator", "dict_reverseitemiterator", "odict_iterator", "itertools.zip_longest", "itertools.pairwise"].contains n && vs[0]? == some (rawInt _)) = true then _ else _) Q E s
           rw [if_neg (by intro h; rw [hn, Bool.false_and] at h; cases h)]
           exact wpAny_pure hQ))
def Itl (K : PySem.W.Frag) (a : Addr) : It :=
  ⟨fun i H => ∃ xs x, SqL K H a xs ∧ xs[i]? = some x, fun i H x H' => H' = H ∧ ∀ xs, SqL K H a xs → xs[i]? = some x, fun i H => ∃ xs, SqL K H a xs ∧ xs.length ≤ i⟩
def Itt (K : PySem.W.Frag) (a : Addr) : It :=
  ⟨fun i H => ∃ xs x, SqT K H a xs ∧ xs[i]? = some x, fun i H x H' => H' = H ∧ ∀ xs, SqT K H a xs → xs[i]? = some x, fun i H => ∃ xs, SqT K H a xs ∧ xs.length ≤ i⟩
def Itr (lo : Int) (n : Nat) : It := ⟨fun i _ => i < n, fun i H x H' => H' = H ∧ x = .int (lo + i), fun i _ => n ≤ i⟩
theorem turn_list {P : Program} {w : World} {K : PySem.W.Frag} {tg : Expr} (a it : Addr) : Turn P w K tg (Itl K a) [it] it (fun i h => h.IsListIter it a i) where
  mem := by simp
  obj := fun i h st b hb => by
    have e : b = it := by simpa using hb
    subst e
    obtain ⟨o, e, c, d⟩ := st
    exact ⟨o, e, fun v z => by rw [d] at z; cases z⟩
  keep := fun i h h' st k => st.at fun o e => k it (by simp) o e
  item := by
    intro X hP hw hK hc i pins s σ H E I hf st hg
    subst hP hw hK
    obtain ⟨xs, x, hq, hx⟩ := hg
    obtain ⟨its, rv, p, hz⟩ := I.list hq
    obtain ⟨u, hu, ru⟩ := rv.get hx
    obtain ⟨f0, f1, f2, f3, f4, f5⟩ := hf it (by simp)
    refine wpAny_pyNext_list_item st p.isList (x := u) (by simpa using hu) fun h' st' sb => ?_
    have I1 : Inv X pins σ H { s with heap := h' } := I.turned (t' := s.toks) (fun b o hb e => (sb.2 b hb).trans e) f0 f1 f3 f4 f5
    obtain ⟨o, e, c, d⟩ := id st'
    exact ⟨u, rfl, go_of (s := { s with heap := h' }) e c d (by decide) ⟨x, H, I1, ru, ⟨rfl, fun ys hy => by rw [I.list_inj hy hq]; exact hx⟩, st', fun b hb => (hf b hb).1⟩⟩
  done := by
    intro X hP hw hK hc i pins s σ H E I hf st hg
    subst hP hw hK
    obtain ⟨xs, hq, hx⟩ := hg
    obtain ⟨its, rv, p, hz⟩ := I.list hq
    obtain ⟨f0, f1, f2, f3, f4, f5⟩ := hf it (by simp)
    have hl := rv.length
    exact wpAny_pyNext_list_end (I.ok.hd hc) st p.isList (by simp; omega) fun h' eb => ⟨rfl, I.turned (t' := s.toks) (fun b o hb e => eb b o hb e) f0 f1 f3 f4 f5⟩
  self := fun _ _ _ _ _ st h => wpAny_pyIter_listiter st h
theorem turn_range {P : Program} {w : World} {K : PySem.W.Frag} {tg : Expr} (it : Addr) (lo : Int) (n : Nat) : Turn P w K tg (Itr lo n) [it] it (fun i h => IsRangeIter h it (lo + (i : Nat) * 1) ((n : Int) - (i : Nat)) 1) where
  mem := by simp
  obj := fun i h st b hb => by
    have e : b = it := by simpa using hb
    subst e
    exact ⟨_, st, fun v z => by
      have z' : Data.fields _ = Data.cell v := z
      cases z'⟩
  keep := fun i h h' st k => k it (by simp) _ st
  item := by
    intro X hP hw hK hc i pins s σ H E I hf st hg
    subst hP hw hK
    obtain ⟨f0, f1, f2, f3, f4, f5⟩ := hf it (by simp)
    have W := Walks.range (prog := X.prog) (w := X.w) (I.ok.hd hc) it lo 1 n
    refine W.item i s _ _ hg st fun v h' tk hv st' kk => ?_
    obtain ⟨t, rfl⟩ := hv
    have I1 : Inv X pins σ H { s with heap := h', toks := tk } := I.turned (fun b o hb e => kk b o (by simpa using hb) e) f0 f1 f3 f4 f5
    refine ⟨_, rfl, go_of (s := { s with heap := h', toks := tk }) (n := "range_iterator") st' rfl rfl (by decide) ⟨.int (lo + i), H, I1, ⟨t, ?_⟩, ⟨rfl, rfl⟩, st', fun b hb => (hf b hb).1⟩⟩
    rw [Int.mul_one]
  done := by
    intro X hP hw hK hc i pins s σ H E I hf st hg
    subst hP hw hK
    obtain ⟨f0, f1, f2, f3, f4, f5⟩ := hf it (by simp)
    exact wpAny_pyNext_range_end (I.ok.hd hc) st (by have : n ≤ i := hg; omega) fun h' eb => ⟨rfl, I.turned (t' := s.toks) (fun b o hb e => eb b o hb e) f0 f1 f3 f4 f5⟩
  self := fun _ _ _ _ _ st h => wpAny_pyIter_rangeiter st h
end L2
namespace L2
open PySem PySem.Spec PyProof.Rows
section
variable {X : Cx} {tg : Expr}
def iList (K : PySem.W.Frag) (tl : TE) : TI := fun σ H R => tl σ H fun x H1 => ∃ a, x = .ref a ∧ (∃ xs, SqL K H1 a xs) ∧ R (Itl K a) H1
def iTup (K : PySem.W.Frag) (tl : TE) : TI := fun σ H R => tl σ H fun x H1 => ∃ a, x = .ref a ∧ (∃ xs, SqT K H1 a xs) ∧ R (Itt K a) H1
theorem pi_list {l : Expr} {tl : TE} (hl : PE X l tl) : PI X tg l (iList X.K tl) := by
  intro pins s σ H R I h
  refine thn (hl pins s σ H _ I h) fun v s1 ⟨x, H1, I1, r1, q1⟩ => ?_
  obtain ⟨a, e, ⟨xs, hq⟩, q⟩ := q1
  subst e
  cases r1
  obtain ⟨its, rv, p, hz⟩ := I1.list hq
  refine wpAny_pyIter_list p.isList ?_
  refine ⟨s1.heap.objs.size, [s1.heap.objs.size], _, _, H1, rfl, I1.kept (t' := s1.toks) fun b o e => Heap.get?_push_of_some _ e, turn_list a _, ⟨_, Heap.get?_push_size _ rfl, rfl, rfl⟩, fun b hb => ?_, q⟩
  have e : b = s1.heap.objs.size := by simpa using hb
  subst e
  exact I1.fpOk (Nat.le_refl _) (I1.hok.fresh (Nat.le_refl _))
theorem range_it {pins : List (Addr × Obj)} {σ : St} {H : Hp} {s : Shared} {R : It → Hp → Prop} {E : Value → Shared → Prop} {lo hi : Int} {t u v : Tok} {tk : Nat} (I : Inv X pins σ H s) (h1 : -(2 ^ 62) ≤ lo) (h2 : lo < 2 ^ 62) (h3 : -(2 ^ 62) ≤ hi) (h4 : hi < 2 ^ 62)
    (q : R (Itr lo (hi - lo).toNat) H) : wpAny (model X.prog X.w) X.A (pyIter (.ref s.heap.objs.size)) (PIE X pins σ tg R) E { s with heap := s.heap.push { cls := .type "range", data := .fields #[.int lo t, .int hi u, .int 1 v] }, toks := tk } := by
  refine wpAny_pyIter_range (IsRange.new ..) (small_one h1 h2 h3 h4) ?_
  have I1 : Inv X pins σ H { s with heap := s.heap.push { cls := .type "range", data := .fields #[.int lo t, .int hi u, .int 1 v] }, toks := tk } := I.kept fun b o e => Heap.get?_push_of_some _ e
  refine ⟨(s.heap.push { cls := .type "range", data := .fields #[.int lo t, .int hi u, .int 1 v] }).objs.size, [(s.heap.push { cls := .type "range", data := .fields #[.int lo t, .int hi u, .int 1 v] }).objs.size], _, _, H, rfl,
    I1.kept (t' := tk) fun b o e => Heap.get?_push_of_some _ e, turn_range _ lo (hi - lo).toNat, ?_, fun b hb => ?_, q⟩
  · have e1 : lo + ((0 : Nat) : Int) * 1 = lo := by simp
    have e2 : (((hi - lo).toNat : Nat) : Int) - ((0 : Nat) : Int) = Builtin.Range.rangeSize lo hi 1 := by rw [rangeSize_one]; split <;> omega
    show IsRangeIter _ _ (lo + ((0 : Nat) : Int) * 1) ((((hi - lo).toNat : Nat) : Int) - ((0 : Nat) : Int)) 1
    rw [e1, e2]
    exact Heap.get?_push_size _ rfl
  · have e : b = (s.heap.push { cls := .type "range", data := .fields #[.int lo t, .int hi u, .int 1 v] }).objs.size := by simpa using hb
    subst e
    exact I1.fpOk (Nat.le_refl _) (I1.hok.fresh (Nat.le_refl _))
def iRng1 (ta : TA) : TI := fun σ H R => ta σ H fun vs H1 => ∃ j : Int, vs = [.int j] ∧ -(2 ^ 62) ≤ j ∧ j < 2 ^ 62 ∧ R (Itr 0 j.toNat) H1
def iRng2 (ta : TA) : TI := fun σ H R => ta σ H fun vs H1 => ∃ i j : Int, vs = [.int i, .int j] ∧ (-(2 ^ 62) ≤ i ∧ i < 2 ^ 62 ∧ -(2 ^ 62) ≤ j ∧ j < 2 ^ 62) ∧ R (Itr i (j - i).toNat) H1
theorem pi_range1 {a : Expr} {ta : TA} {p pos : Pos} (hg : Gl X "range") (hm : X.mg "range" = none) (ha : PA X [a] ta) (hs : starEach [a] X.env = [(false, eval a X.env)] := by rfl) : PI X tg (.Call (.Name "range" p) [a] [] pos) (iRng1 ta) := by
  intro pins s σ H R I h
  refine Call_ (ld_blt I hg hm boot_range (PyProof.Rows.callWith_type1 (thn (ha pos pins s σ H _ I h) fun us s1 ⟨vs, H1, I1, r1, q1⟩ => ?_) hs rfl))
  obtain ⟨j, e, q1, q2, q⟩ := q1
  subst e
  cases r1 with
  | cons r rr =>
    cases rr
    obtain ⟨t, rfl⟩ := r
    exact call_range_1 (range_it I1 (by omega) (by omega) q1 q2 (by simpa using q))
def tFor (wi : TI) (g : TG) (tb : TS) : TS := fun D σ H => wi σ H fun J H1 => ∃ W : Nat → Nat → St → Hp → Prop, (∃ m, W 0 m σ H1) ∧ ∀ i m σ H, W i m σ H →
  (J.stop i H ∧ D.nx σ H) ∨ (J.go i H ∧ ∃ N : St → Hp → Prop, (∀ σ' H', N σ' H' → ∃ m', m' < m ∧ W (i + 1) m' σ' H') ∧ ∀ x H', J.yld i H x H' → g x σ H' fun σ2 H2 => tb { D with nx := N, ct := N, bk := D.nx } σ2 H2)
def pinsAt (fp : List Addr) (h : Heap) : List (Addr × Obj) := fp.filterMap fun b => (h.get? b).map fun o => (b, o)
theorem mem_pinsAt {fp : List Addr} {h : Heap} {b : Addr} {o : Obj} (hb : b ∈ fp) (e : h.get? b = some o) : (b, o) ∈ pinsAt fp h := List.mem_filterMap.mpr ⟨b, hb, by rw [e]; rfl⟩
theorem of_pinsAt {fp : List Addr} {h : Heap} {p : Addr × Obj} (hp : p ∈ pinsAt fp h) : p.1 ∈ fp ∧ h.get? p.1 = some p.2 := by
  obtain ⟨b, hb, e⟩ := List.mem_filterMap.mp hp
  cases q : h.get? b with
  | none => rw [q] at e; cases e
  | some o =>
    rw [q] at e
    have e' : (b, o) = p := Option.some.inj e
    subst e'
    exact ⟨hb, q⟩
theorem Inv.pinned {pins : List (Addr × Obj)} {σ : St} {H : Hp} {s : Shared} {fp : List Addr} (I : Inv X pins σ H s) (hf : ∀ b ∈ fp, FpOk X pins H b) (ho : ∀ b ∈ fp, ∃ o, s.heap.get? b = some o ∧ ∀ v, o.data ≠ .cell v) : Inv X (pins ++ pinsAt fp s.heap) σ H s :=
  I.pins_of fun p hp => (List.mem_append.mp hp).elim (fun z => I.pin p (List.mem_append_right _ z)) fun z => by
    obtain ⟨hb, e⟩ := of_pinsAt z
    obtain ⟨f0, f1, f2, _⟩ := hf p.1 hb
    obtain ⟨o, e', d⟩ := ho p.1 hb
    rw [e] at e'; cases e'
    exact ⟨e, f0, f1, f2, d⟩
theorem Inv.unpinned {pins pl : List (Addr × Obj)} {σ : St} {H : Hp} {s : Shared} (I : Inv X (pins ++ pl) σ H s) : Inv X pins σ H s := I.pins_of fun p hp => I.pin p (List.mem_append_right _ (List.mem_append_left _ hp))
theorem ps_for {iter : Expr} {body : List Stmt} {wi : TI} {g : TG} {tb : TS} {pos : Pos} (hp : PassesOwn (model X.prog X.w) X.A X.env X.xe) (hc : X.calm = true) (hi : PI X tg iter wi) (hg : PG X tg g) (hb : PSs X body tb)
    (hs : ∀ x, foldedSetIterable iter X.env x = pure x := by intro _; rfl) : PS X (.For tg iter body [] pos) (tFor wi g tb) := by
  intro pins s σ H D I h
  refine wpAny_For (thn (hi pins s σ H _ I h) fun v s1 h1 => thn h1 fun itv s2 h2 => ?_) hs
  obtain ⟨it, fp, tn, J, H2, e, I2, T, st2, f2, W, ⟨m0, w0⟩, turn⟩ := h2
  subst e
  have stat : ∀ {H' : Hp}, (∀ b ∈ fp, H' b = none) → ∀ b ∈ fp, FpOk X pins H' b := fun hn b hb => ⟨hn b hb, (f2 b hb).2⟩
  refine codeAny_forLoop_any (fun n s' => ∃ i σ' H', Inv X pins σ' H' s' ∧ tn i s'.heap ∧ (∀ b ∈ fp, H' b = none) ∧ W i n σ' H') ?_ m0 ⟨0, σ, H2, I2, st2, fun b hb => (f2 b hb).1, w0⟩
  rintro n s3 ⟨i, σ3, H3, I3, st3, fr3, w3⟩
  rcases turn i n σ3 H3 w3 with ⟨stop, qn⟩ | ⟨go, N, hN, step⟩
  · refine wpAny_passesOwn hp (thn (T.done X rfl rfl rfl hc i pins s3 σ3 H3 X.xe I3 (stat fr3) st3 stop) fun r s4 ⟨hr, I4⟩ => ?_)
    subst hr
    exact wpAny_execs_nil ⟨σ3, H3, I4, qn⟩
  · refine wpAny_passesOwn hp (thn (T.item X rfl rfl rfl hc i pins s3 σ3 H3 X.xe I3 (stat fr3) st3 go) fun r s4 ⟨u, hr, h4⟩ => ?_)
    subst hr
    refine wpAny_passesOwn hp (thn h4 fun _ s5 ⟨x, H5, I5, r5, y5, st5, fr5⟩ => ?_)
    have I5' := I5.pinned (stat fr5) (T.obj _ _ st5)
    refine wpAny_passesOwn hp (thn (hg _ s5 σ3 H5 x u _ I5' r5 (step x H5 y5)) fun _ s6 ⟨σ6, H6, I6, q6⟩ => ?_)
    refine wpAny_passesOwn hp (thn (hb _ s6 σ6 H6 _ I6 q6) fun f s7 q7 => ?_)
    have again : ∀ {σ7 : St} {H7 : Hp}, Inv X (pins ++ pinsAt fp s5.heap) σ7 H7 s7 → N σ7 H7 → ∃ m, m < n ∧ ∃ i σ' H', Inv X pins σ' H' s7 ∧ tn i s7.heap ∧ (∀ b ∈ fp, H' b = none) ∧ W i m σ' H' := fun {σ7 H7} I7 n7 => by
      obtain ⟨m', hm, w7⟩ := hN σ7 H7 n7
      refine ⟨m', hm, i + 1, σ7, H7, I7.unpinned, T.keep _ _ _ st5 fun b hb o e => (I7.pin (b, o) (List.mem_append_right _ (List.mem_append_right _ (mem_pinsAt hb e)))).1, fun b hb => ?_, w7⟩
      obtain ⟨o, e, d⟩ := T.obj _ _ st5 b hb
      exact (I7.pin (b, o) (List.mem_append_right _ (List.mem_append_right _ (mem_pinsAt hb e)))).2.1
    cases f with
    | next => obtain ⟨σ7, H7, I7, n7⟩ := q7; exact again I7 n7
    | cont => obtain ⟨σ7, H7, I7, n7⟩ := q7; exact again I7 n7
    | brk => obtain ⟨σ7, H7, I7, q7⟩ := q7; exact ⟨σ7, H7, I7.unpinned, q7⟩
    | ret v => obtain ⟨x7, σ7, H7, I7, r7, q7⟩ := q7; exact ⟨x7, σ7, H7, I7.unpinned, r7, q7⟩
end
theorem for_list {K : PySem.W.Frag} {a : Addr} {xs : List V} {g : TG} {tb : TS} {D : Ends} {σ : St} {H : Hp} (Pv : Nat → St → Hp → Prop) (h0 : Pv 0 σ H) (hl : ∀ i σ H, i ≤ xs.length → Pv i σ H → SqL K H a xs)
    (hs : ∀ i x σ H, xs[i]? = some x → Pv i σ H → g x σ H fun σ2 H2 => tb { D with nx := Pv (i + 1), ct := Pv (i + 1), bk := D.nx } σ2 H2) (hd : ∀ σ H, Pv xs.length σ H → D.nx σ H) :
    ∃ W : Nat → Nat → St → Hp → Prop, (∃ m, W 0 m σ H) ∧ ∀ i m σ H, W i m σ H →
      ((Itl K a).stop i H ∧ D.nx σ H) ∨ ((Itl K a).go i H ∧ ∃ N : St → Hp → Prop, (∀ σ' H', N σ' H' → ∃ m', m' < m ∧ W (i + 1) m' σ' H') ∧ ∀ x H', (Itl K a).yld i H x H' → g x σ H' fun σ2 H2 => tb { D with nx := N, ct := N, bk := D.nx } σ2 H2) := by
  refine ⟨fun i m σ H => m = xs.length - i ∧ i ≤ xs.length ∧ Pv i σ H, ⟨xs.length, by simp, Nat.zero_le _, h0⟩, ?_⟩
  rintro i m σ H ⟨rfl, hi, p⟩
  have q := hl i σ H hi p
  by_cases hlt : i < xs.length
  · refine .inr ⟨⟨xs, xs[i], q, by simp [hlt]⟩, Pv (i + 1), fun σ' H' p' => ⟨xs.length - (i + 1), by omega, rfl, hlt, p'⟩, fun x H' y => ?_⟩
    obtain ⟨e, y⟩ := y
    subst e
    exact hs i x σ _ (y xs q) p
  · have e : i = xs.length := by omega
    subst e
    exact .inl ⟨⟨xs, q, Nat.le_refl _⟩, hd σ H p⟩
theorem for_range {lo : Int} {n : Nat} {g : TG} {tb : TS} {D : Ends} {σ : St} {H : Hp} (Pv : Nat → St → Hp → Prop) (h0 : Pv 0 σ H)
    (hs : ∀ i σ H, i < n → Pv i σ H → g (.int (lo + i)) σ H fun σ2 H2 => tb { D with nx := Pv (i + 1), ct := Pv (i + 1), bk := D.nx } σ2 H2) (hd : ∀ σ H, Pv n σ H → D.nx σ H) :
    ∃ W : Nat → Nat → St → Hp → Prop, (∃ m, W 0 m σ H) ∧ ∀ i m σ H, W i m σ H →
      ((Itr lo n).stop i H ∧ D.nx σ H) ∨ ((Itr lo n).go i H ∧ ∃ N : St → Hp → Prop, (∀ σ' H', N σ' H' → ∃ m', m' < m ∧ W (i + 1) m' σ' H') ∧ ∀ x H', (Itr lo n).yld i H x H' → g x σ H' fun σ2 H2 => tb { D with nx := N, ct := N, bk := D.nx } σ2 H2) := by
  refine ⟨fun i m σ H => m = n - i ∧ i ≤ n ∧ Pv i σ H, ⟨n, by simp, Nat.zero_le _, h0⟩, ?_⟩
  rintro i m σ H ⟨rfl, hi, p⟩
  by_cases hlt : i < n
  · refine .inr ⟨hlt, Pv (i + 1), fun σ' H' p' => ⟨n - (i + 1), by omega, rfl, hlt, p'⟩, fun x H' y => ?_⟩
    obtain ⟨e, y⟩ := y
    subst e y
    exact hs i σ _ hlt p
  · have e : i = n := by omega
    subst e
    exact .inl ⟨Nat.le_refl _, hd σ H p⟩
end L2
namespace L2
open PySem PySem.Spec PyProof.Rows
abbrev R2 := V → V → Hp → VK → Prop
def OpR (X : Cx) (f : Value → Value → Sem Value) (r : R2) : Prop :=
  ∀ (pins : List (Addr × Obj)) (s : Shared) (σ : St) (H : Hp) (x y : V) (v u : Value) (Q : VK), Inv X pins σ H s → RelV x v → RelV y u → r x y H Q →
    wpAny (model X.prog X.w) X.A (f v u) (EP X pins σ Q) X.xe s
def UnR (X : Cx) (f : Value → Sem Value) (r : V → Hp → VK → Prop) : Prop :=
  ∀ (pins : List (Addr × Obj)) (s : Shared) (σ : St) (H : Hp) (x : V) (v : Value) (Q : VK), Inv X pins σ H s → RelV x v → r x H Q →
    wpAny (model X.prog X.w) X.A (f v) (EP X pins σ Q) X.xe s
def CallR (X : Cx) (f : Value) (r : List V → Hp → VK → Prop) : Prop :=
  ∀ (pins : List (Addr × Obj)) (s : Shared) (σ : St) (H : Hp) (xs : List V) (us : List Value) (Q : VK), Inv X pins σ H s → Vals xs us → r xs H Q →
    wpAny (model X.prog X.w) X.A (call f us) (EP X pins σ Q) X.xe s
def TruR (X : Cx) (r : V → Hp → (Bool → Hp → Prop) → Prop) : Prop :=
  ∀ (pins : List (Addr × Obj)) (s : Shared) (σ : St) (H : Hp) (x : V) (v : Value) (Q : Bool → Hp → Prop), Inv X pins σ H s → RelV x v → r x H Q →
    wpAny (model X.prog X.w) X.A (truthy v) (TP X pins σ Q) X.xe s
def tOp (r : R2) (ta tb : TE) : TE := fun σ H Q => ta σ H fun x H1 => tb σ H1 fun y H2 => r x y H2 Q
def tUn (r : V → Hp → VK → Prop) (ta : TE) : TE := fun σ H Q => ta σ H fun x H1 => r x H1 Q
def rI (C : Int → Int → Prop) (g : Int → Int → V) : R2 := fun x y H Q => ∃ i j, x = .int i ∧ y = .int j ∧ C i j ∧ Q (g i j) H
def rI0 (g : Int → Int → V) : R2 := fun x y H Q => ∃ i j, x = .int i ∧ y = .int j ∧ Q (g i j) H
def rU (g : Int → V) : V → Hp → VK → Prop := fun x H Q => ∃ i, x = .int i ∧ Q (g i) H
section
variable {X : Cx} {a b c : Expr} {ta tb tc : TE} {pos : Pos}
theorem binT (ha : PE X a ta) (hb : PE X b tb) {pins : List (Addr × Obj)} {s : Shared} {σ : St} {H : Hp} {R : V → V → Hp → Prop} (I : Inv X pins σ H s)
    (h : ta σ H fun x H1 => tb σ H1 fun y H2 => R x y H2) {Q : Value → Shared → Prop} {f : Value → Value → Sem Value}
    (hf : ∀ v u s2 x y H2, Inv X pins σ H2 s2 → RelV x v → RelV y u → R x y H2 → wpAny (model X.prog X.w) X.A (f v u) Q X.xe s2) :
    wpAny (model X.prog X.w) X.A (eval a X.env) (fun v s₁ => wpAny (model X.prog X.w) X.A (eval b X.env) (fun u s₂ => wpAny (model X.prog X.w) X.A (f v u) Q X.xe s₂) X.xe s₁) X.xe s := by
  refine thn (ha pins s σ H _ I h) fun v s1 ⟨x, H1, I1, r1, q1⟩ => ?_
  refine thn (hb pins s1 σ H1 _ I1 q1) fun u s2 ⟨y, H2, I2, r2, q2⟩ => ?_
  exact hf v u s2 x y H2 I2 r1 r2 q2
theorem pe_op {op : Operator} {r : R2} (ho : OpR X (binaryOp op) r) (ha : PE X a ta) (hb : PE X b tb) : PE X (.BinOp a op b pos) (tOp r ta tb) := by
  intro pins s σ H Q I h
  exact wpAny_BinOp (binT ha hb I h fun v u s2 x y H2 I2 rx ry q => ho pins s2 σ H2 x y v u Q I2 rx ry q)
theorem pe_un {op : UnaryOp} {r : V → Hp → VK → Prop} (ho : UnR X (unaryOp op) r) (ha : PE X a ta) : PE X (.UnaryOp op a pos) (tUn r ta) := by
  intro pins s σ H Q I h
  exact UnaryOp_ (thn (ha pins s σ H _ I h) fun v s1 ⟨x, H1, I1, r1, q1⟩ => ho pins s1 σ H1 x v Q I1 r1 q1)
theorem opI {f : Value → Value → Sem Value} {C : Int → Int → Prop} {g : Int → Int → Int}
    (rule : ∀ (i j : Int) (t u : Tok) (s : Shared) (Q : Value → Shared → Prop) (E : Value → Shared → Prop), C i j → Q (.int (g i j) s.toks) { s with toks := s.toks + 1 } → wpAny (model X.prog X.w) X.A (f (.int i t) (.int j u)) Q E s) :
    OpR X f (rI C fun i j => .int (g i j)) := by
  intro pins s σ H x y v u Q I rx ry h
  obtain ⟨i, j, rfl, rfl, hc, q⟩ := h
  obtain ⟨t, rfl⟩ := rx
  obtain ⟨t', rfl⟩ := ry
  exact rule i j t t' s _ _ hc ⟨.int (g i j), H, I.tok _, ⟨_, rfl⟩, q⟩
theorem opI0 {f : Value → Value → Sem Value} {g : Int → Int → Int}
    (rule : ∀ (i j : Int) (t u : Tok) (s : Shared) (Q : Value → Shared → Prop) (E : Value → Shared → Prop), Q (.int (g i j) s.toks) { s with toks := s.toks + 1 } → wpAny (model X.prog X.w) X.A (f (.int i t) (.int j u)) Q E s) :
    OpR X f (rI0 fun i j => .int (g i j)) := by
  intro pins s σ H x y v u Q I rx ry h
  obtain ⟨i, j, rfl, rfl, q⟩ := h
  obtain ⟨t, rfl⟩ := rx
  obtain ⟨t', rfl⟩ := ry
  exact rule i j t t' s _ _ ⟨.int (g i j), H, I.tok _, ⟨_, rfl⟩, q⟩
theorem opB0 {f : Value → Value → Sem Value} {g : Int → Int → Bool}
    (rule : ∀ (i j : Int) (t u : Tok) (s : Shared) (Q : Value → Shared → Prop) (E : Value → Shared → Prop), Q (.bool (g i j)) s → wpAny (model X.prog X.w) X.A (f (.int i t) (.int j u)) Q E s) :
    OpR X f (rI0 fun i j => .bl (g i j)) := by
  intro pins s σ H x y v u Q I rx ry h
  obtain ⟨i, j, rfl, rfl, q⟩ := h
  obtain ⟨t, rfl⟩ := rx
  obtain ⟨t', rfl⟩ := ry
  exact rule i j t t' s _ _ ⟨.bl (g i j), H, I, rfl, q⟩
def CDiv (i j : Int) : Prop := 0 < j ∧ j < 1073741824
def CPow (i j : Int) : Prop := 0 ≤ j ∧ j ≤ 1000000 ∧ i.natAbs < 2 ^ 64
def CMul (i j : Int) : Prop := (-(2 ^ 64) < i ∧ i < 2 ^ 64) ∨ (-(2 ^ 64) < j ∧ j < 2 ^ 64)
theorem CMul.ok {i j : Int} (h : CMul i j) : IntMulOk i j := by
  rcases h with ⟨h1, h2⟩ | ⟨h1, h2⟩
  · exact .of_left (intBits_le_64 h1 h2)
  · exact .of_right (intBits_le_64 h1 h2)
theorem op_add : OpR X (binaryOp .Add) (rI0 fun i j => .int (i + j)) := opI0 fun _ _ _ _ _ _ _ q => add_int q
theorem op_mul : OpR X (binaryOp .Mult) (rI CMul fun i j => .int (i * j)) := opI fun _ _ _ _ _ _ _ hc q => mul_int q hc.ok
theorem op_fdiv : OpR X (binaryOp .FloorDiv) (rI CDiv fun i j => .int (i / j)) := opI fun i j _ _ _ _ _ hc q => by
  have h1 : (0 : Int) < j := hc.1
  have h2 : j < 1073741824 := hc.2
  exact floordiv_int (by omega) (by rw [Int.fdiv_eq_ediv_of_nonneg i (by omega)]; exact q) (.inl (PyProof.noPylong_small (by omega)))
theorem op_mod : OpR X (binaryOp .Mod) (rI (fun _ j => 0 < j) fun i j => .int (i % j)) := opI fun i j _ _ _ _ _ hc q => by
  have h1 : (0 : Int) < j := hc
  exact mod_int' (by omega) (by rw [Int.fmod_eq_emod_of_nonneg i (by omega)]; exact q)
theorem op_pow : OpR X (binaryOp .Pow) (rI CPow fun i j => .int (i ^ j.toNat)) := opI fun _ _ _ _ _ _ _ hc q => pow_int_small hc.1 hc.2.1 hc.2.2 q
theorem unI {f : Value → Sem Value} {g : Int → Int}
    (rule : ∀ (i : Int) (t : Tok) (s : Shared) (Q : Value → Shared → Prop) (E : Value → Shared → Prop), Q (.int (g i) s.toks) { s with toks := s.toks + 1 } → wpAny (model X.prog X.w) X.A (f (.int i t)) Q E s) :
    UnR X f (rU fun i => .int (g i)) := by
  intro pins s σ H x v Q I rx h
  obtain ⟨i, rfl, q⟩ := h
  obtain ⟨t, rfl⟩ := rx
  exact rule i t s _ _ ⟨.int (g i), H, I.tok _, ⟨_, rfl⟩, q⟩
theorem un_neg : UnR X (unaryOp .USub) (rU fun i => .int (-i)) := unI fun _ _ _ _ _ q => neg_int q
end
def scal : V → V → Bool
  | .non, .non => true | .non, .int _ => true | .int _, .non => true | .non, .bl _ => true | .bl _, .non => true | .non, .str _ => true | .str _, .non => true
  | .int _, .int _ => true | .bl _, .bl _ => true | .str _, .str _ => true | .byt _, .byt _ => true
  | .int _, .str _ => true | .str _, .int _ => true | .bl _, .str _ => true | .str _, .bl _ => true
  | _, _ => false
def rEq : R2 := fun x y H Q => scal x y = true ∧ Q (.bl (decide (x = y))) H
def rNe : R2 := fun x y H Q => scal x y = true ∧ Q (.bl (!decide (x = y))) H
theorem dec_int {i j : Int} : decide (V.int i = V.int j) = (i == j) := by
  rw [Bool.eq_iff_iff]
  simp
theorem dec_bl {i j : Bool} : decide (V.bl i = V.bl j) = (i == j) := by
  rw [Bool.eq_iff_iff]
  simp
theorem dec_str {i j : Str} : decide (V.str i = V.str j) = (i == j) := by
  rw [Bool.eq_iff_iff]
  simp
theorem dec_byt {i j : Array UInt8} : decide (V.byt i = V.byt j) = (i.toList == j.toList) := by
  rw [Bool.eq_iff_iff]
  cases i
  cases j
  simp
section
variable {X : Cx} {a b c : Expr} {ta tb tc : TE} {pos : Pos}
theorem fin_bl {pins : List (Addr × Obj)} {σ : St} {H : Hp} {s : Shared} {Q : VK} {k k' : Bool} (I : Inv X pins σ H s) (q : Q (.bl k) H) (e : k = k') : EP X pins σ Q (.bool k') s := by
  subst e
  exact ⟨.bl k, H, I, rfl, q⟩
theorem op_eq : OpR X (compareOp .Eq) rEq := by
  intro pins s σ H x y v u Q I rx ry h
  obtain ⟨hs, q⟩ := h
  cases x with
  | non =>
    cases rx
    cases y with
    | non => cases ry; exact PySem.EqNone.eq_none_none (fin_bl I q (by simp))
    | bl j => cases ry; exact PySem.EqNone.eq_none_bool (fin_bl I q (by simp))
    | int j => obtain ⟨t', rfl⟩ := ry; exact PySem.EqNone.eq_none_int (fin_bl I q (by simp))
    | str j => obtain ⟨t', rfl⟩ := ry; exact PySem.EqNone.eq_none_str (fin_bl I q (by simp))
    | _ => exact absurd (show false = true from hs) Bool.false_ne_true
  | bl i =>
    cases rx
    cases y with
    | non => cases ry; exact PySem.EqNone.eq_bool_none (fin_bl I q (by simp))
    | bl j => cases ry; exact eq_bool (fin_bl I q dec_bl)
    | str j => obtain ⟨t', rfl⟩ := ry; exact PySem.EqMixed.eq_bool_str (fin_bl I q (by simp))
    | _ => exact absurd (show false = true from hs) Bool.false_ne_true
  | int i =>
    obtain ⟨t, rfl⟩ := rx
    cases y with
    | non => cases ry; exact PySem.EqNone.eq_int_none (fin_bl I q (by simp))
    | int j => obtain ⟨t', rfl⟩ := ry; exact eq_int (fin_bl I q dec_int)
    | str j => obtain ⟨t', rfl⟩ := ry; exact PySem.EqMixed.eq_int_str (fin_bl I q (by simp))
    | _ => exact absurd (show false = true from hs) Bool.false_ne_true
  | str i =>
    obtain ⟨t, rfl⟩ := rx
    cases y with
    | non => cases ry; exact PySem.EqNone.eq_str_none (fin_bl I q (by simp))
    | bl j => cases ry; exact PySem.EqMixed.eq_str_bool (fin_bl I q (by simp))
    | int j => obtain ⟨t', rfl⟩ := ry; exact PySem.EqMixed.eq_str_int (fin_bl I q (by simp))
    | str j => obtain ⟨t', rfl⟩ := ry; exact eq_str (fin_bl I q dec_str)
    | _ => exact absurd (show false = true from hs) Bool.false_ne_true
  | byt i =>
    obtain ⟨t, rfl⟩ := rx
    cases y with
    | byt j => obtain ⟨t', rfl⟩ := ry; exact PySem.W.eq_bytes (fin_bl I q dec_byt)
    | _ => exact absurd (show false = true from hs) Bool.false_ne_true
  | _ => cases y <;> exact absurd (show false = true from hs) Bool.false_ne_true
theorem op_ne : OpR X (compareOp .NotEq) rNe := by
  intro pins s σ H x y v u Q I rx ry h
  obtain ⟨hs, q⟩ := h
  cases x with
  | non =>
    cases rx
    cases y with
    | non => cases ry; exact PySem.EqNone.ne_none_none (fin_bl I q (by simp))
    | bl j => cases ry; exact PySem.EqNone.ne_none_bool (fin_bl I q (by simp))
    | int j => obtain ⟨t', rfl⟩ := ry; exact PySem.EqNone.ne_none_int (fin_bl I q (by simp))
    | str j => obtain ⟨t', rfl⟩ := ry; exact PySem.EqNone.ne_none_str (fin_bl I q (by simp))
    | _ => exact absurd (show false = true from hs) Bool.false_ne_true
  | bl i =>
    cases rx
    cases y with
    | non => cases ry; exact PySem.EqNone.ne_bool_none (fin_bl I q (by simp))
    | bl j => cases ry; exact ne_bool (fin_bl I q (congrArg not dec_bl))
    | str j => obtain ⟨t', rfl⟩ := ry; exact PySem.EqMixed.ne_bool_str (fin_bl I q (by simp))
    | _ => exact absurd (show false = true from hs) Bool.false_ne_true
  | int i =>
    obtain ⟨t, rfl⟩ := rx
    cases y with
    | non => cases ry; exact PySem.EqNone.ne_int_none (fin_bl I q (by simp))
    | int j => obtain ⟨t', rfl⟩ := ry; exact ne_int (fin_bl I q (congrArg not dec_int))
    | str j => obtain ⟨t', rfl⟩ := ry; exact PySem.EqMixed.ne_int_str (fin_bl I q (by simp))
    | _ => exact absurd (show false = true from hs) Bool.false_ne_true
  | str i =>
    obtain ⟨t, rfl⟩ := rx
    cases y with
    | non => cases ry; exact PySem.EqNone.ne_str_none (fin_bl I q (by simp))
    | bl j => cases ry; exact PySem.EqMixed.ne_str_bool (fin_bl I q (by simp))
    | int j => obtain ⟨t', rfl⟩ := ry; exact PySem.EqMixed.ne_str_int (fin_bl I q (by simp))
    | str j => obtain ⟨t', rfl⟩ := ry; exact ne_str (fin_bl I q (congrArg not dec_str))
    | _ => exact absurd (show false = true from hs) Bool.false_ne_true
  | byt i =>
    obtain ⟨t, rfl⟩ := rx
    cases y with
    | byt j => obtain ⟨t', rfl⟩ := ry; exact PySem.W.ne_bytes (fin_bl I q (congrArg not dec_byt))
    | _ => exact absurd (show false = true from hs) Bool.false_ne_true
  | _ => cases y <;> exact absurd (show false = true from hs) Bool.false_ne_true
theorem op_lt : OpR X (compareOp .Lt) (rI0 fun i j => .bl (decide (i < j))) := opB0 fun _ _ _ _ _ _ _ q => lt_int q
theorem op_le : OpR X (compareOp .LtE) (rI0 fun i j => .bl (decide (i ≤ j))) := opB0 fun _ _ _ _ _ _ _ q => le_int q
theorem op_gt : OpR X (compareOp .Gt) (rI0 fun i j => .bl (decide (j < i))) := opB0 fun _ _ _ _ _ _ _ q => gt_int q
theorem op_ge : OpR X (compareOp .GtE) (rI0 fun i j => .bl (decide (j ≤ i))) := opB0 fun _ _ _ _ _ _ _ q => ge_int q
theorem op_lt_str : OpR X (compareOp .Lt) (fun x y H Q => ∃ i j, x = .str i ∧ y = .str j ∧ Q (.bl (decide (i.cps.toList < j.cps.toList))) H) := by
  intro pins s σ H x y v u Q I rx ry h
  obtain ⟨i, j, rfl, rfl, q⟩ := h
  obtain ⟨t, rfl⟩ := rx
  obtain ⟨t', rfl⟩ := ry
  exact lt_str (fin_bl I q rfl)
theorem op_isN : OpR X (compareOp .Is) (fun x y H Q => y = .non ∧ Q (.bl (decide (x = .non))) H) := by
  intro pins s σ H x y v u Q I rx ry h
  obtain ⟨rfl, q⟩ := h
  cases ry
  refine is_none_gen (fin_bl I q ?_)
  cases x <;> first
    | (cases rx; rfl)
    | (obtain ⟨t, rfl⟩ := rx; rfl)
theorem op_notN : OpR X (compareOp .IsNot) (fun x y H Q => y = .non ∧ Q (.bl (!decide (x = .non))) H) := by
  intro pins s σ H x y v u Q I rx ry h
  obtain ⟨rfl, q⟩ := h
  cases ry
  refine isnot_none_gen (fin_bl I q ?_)
  cases x <;> first
    | (cases rx; rfl)
    | (obtain ⟨t, rfl⟩ := rx; rfl)
theorem OpR.or {f : Value → Value → Sem Value} {r r' : R2} (h : OpR X f r) (h' : OpR X f r') : OpR X f (fun x y H Q => r x y H Q ∨ r' x y H Q) := by
  intro pins s σ H x y v u Q I rx ry q
  rcases q with q | q
  · exact h pins s σ H x y v u Q I rx ry q
  · exact h' pins s σ H x y v u Q I rx ry q
theorem nomark (b : Expr) {op : CmpOp} (h : op ≠ .In := by decide) (h2 : op ≠ .NotIn := by decide) : behindInMarks op b = false := by
  have e1 : (op == CmpOp.In) = false := by cases op <;> first | rfl | exact absurd rfl h
  have e2 : (op == CmpOp.NotIn) = false := by cases op <;> first | rfl | exact absurd rfl h2
  cases b <;> simp [behindInMarks, e1, e2]
theorem pe_cmpR {op : CmpOp} {r : R2} (ho : OpR X (compareOp op) r) (ha : PE X a ta) (hb : PE X b tb) (hm : behindInMarks op b = false) : PE X (.Compare a [op] [b] pos) (tOp r ta tb) := by
  intro pins s σ H Q I h
  exact wpAny_Compare1 (binT ha hb I h fun v u s2 x y H2 I2 rx ry q => ho pins s2 σ H2 x y v u Q I2 rx ry q) hm
def tTest (t : TE) : TT := fun σ H Q => t σ H fun x H' => ∃ k, x = .bl k ∧ Q k H'
theorem pt_cmpR {op : CmpOp} {r : R2} (ho : OpR X (compareOp op) r) (ha : PE X a ta) (hb : PE X b tb) (hm : behindInMarks op b = false) : PT X (.Compare a [op] [b] pos) (tTest (tOp r ta tb)) := by
  intro pins s σ H Q I h
  refine wpAny_isTrue_Compare1 (thn (ha pins s σ H _ I h) fun v s1 ⟨x, H1, I1, r1, q1⟩ => thn (hb pins s1 σ H1 _ I1 q1) fun u s2 ⟨y, H2, I2, r2, q2⟩ =>
    thn (ho pins s2 σ H2 x y v u _ I2 r1 r2 q2) fun c s3 ⟨z, H3, I3, r3, k, e, q3⟩ => ?_) hm
  subst e
  cases r3
  exact wpAny_truthy_bool ⟨H3, I3, q3⟩
def tChain (r r' : R2) (ta tb tc : TE) : TE := fun σ H Q => ta σ H fun x H1 => tb σ H1 fun y H2 => r x y H2 fun z H3 => ∃ k, z = .bl k ∧
  (if k = true then tc σ H3 fun w' H4 => r' y w' H4 Q else Q (.bl false) H3)
theorem pe_chain {op op' : CmpOp} {r r' : R2} (ho : OpR X (compareOp op) r) (ho' : OpR X (compareOp op') r') (ha : PE X a ta) (hb : PE X b tb) (hc : PE X c tc)
    (hm : lastMarks [op, op'] [b, c] = false := by with_unfolding_all rfl) : PE X (.Compare a [op, op'] [b, c] pos) (tChain r r' ta tb tc) := by
  intro pins s σ H Q I h
  refine Compare_chain (thn (ha pins s σ H _ I h) fun v s1 ⟨x, H1, I1, r1, q1⟩ => chain_link (thn (hb pins s1 σ H1 _ I1 q1) fun u s2 ⟨y, H2, I2, r2, q2⟩ =>
    thn (ho pins s2 σ H2 x y v u _ I2 r1 r2 q2) fun d s3 ⟨z, H3, I3, r3, k, e, q3⟩ => ?_)) hm
  subst e
  cases r3
  refine wpAny_truthy_bool ?_
  cases k with
  | false => exact ite_ff ⟨.bl false, H3, I3, rfl, q3⟩
  | true => exact ite_tt (chain_last (thn (hc pins s3 σ H3 _ I3 q3) fun w' s4 ⟨z', H4, I4, r4, q4⟩ => ho' pins s4 σ H4 y z' u w' Q I4 r2 r4 q4))
theorem pt_chain {op op' : CmpOp} {r r' : R2} (ho : OpR X (compareOp op) r) (ho' : OpR X (compareOp op') r') (ha : PE X a ta) (hb : PE X b tb) (hc : PE X c tc)
    (hm : lastMarks [op, op'] [b, c] = false := by with_unfolding_all rfl) : PT X (.Compare a [op, op'] [b, c] pos) (tTest (tChain r r' ta tb tc)) := by
  intro pins s σ H Q I h
  refine isTrue_chain (thn (ha pins s σ H _ I h) fun v s1 ⟨x, H1, I1, r1, q1⟩ => test_link (thn (hb pins s1 σ H1 _ I1 q1) fun u s2 ⟨y, H2, I2, r2, q2⟩ =>
    thn (ho pins s2 σ H2 x y v u _ I2 r1 r2 q2) fun d s3 ⟨z, H3, I3, r3, k, e, q3⟩ => ?_)) hm
  subst e
  cases r3
  refine wpAny_truthy_bool ?_
  cases k with
  | false =>
    obtain ⟨k', e', q'⟩ := q3
    cases e'
    exact ite_ff ⟨H3, I3, q'⟩
  | true =>
    refine ite_tt (test_last (thn (hc pins s3 σ H3 _ I3 q3) fun w' s4 ⟨z', H4, I4, r4, q4⟩ => thn (ho' pins s4 σ H4 y z' u w' _ I4 r2 r4 q4) fun d' s5 ⟨z2, H5, I5, r5, k2, e2, q5⟩ => ?_))
    subst e2
    cases r5
    exact wpAny_truthy_bool ⟨H5, I5, q5⟩
def TruV (K : PySem.W.Frag) (x : V) (H : Hp) (k : Bool) : Prop :=
  match x with
  | .non => k = false
  | .bl b => k = b
  | .int i => k = (i != 0)
  | .str y => y.length ≤ sizeLine ∧ k = ((y.length : Int) != 0)
  | .byt y => y.size ≤ sizeLine ∧ k = ((y.size : Int) != 0)
  | .ref p => (∃ xs, SqL K H p xs ∧ k = !xs.isEmpty) ∨ (∃ xs, SqT K H p xs ∧ k = !xs.isEmpty) ∨ ∃ kvs, H p = some (.dK kvs) ∧ k = !kvs.isEmpty
  | _ => False
theorem isEmpty_kv {κ : Type} {kvs : List (κ × V)} {vs : List (κ × Value)} (r : KV kvs vs) : (!vs.isEmpty) = !kvs.isEmpty := by
  cases r <;> rfl
theorem isEmpty_of {xs : List V} {its : List Value} (r : Vals xs its) : (!its.toArray.isEmpty) = !xs.isEmpty := by
  cases r <;> simp
theorem line63 : (sizeLine : Nat) < 2 ^ 63 := by rw [sizeLine_eq]; decide
theorem tru_ok : TruR X (fun x H Q => ∃ k, TruV X.K x H k ∧ Q k H) := by
  intro pins s σ H x v Q I rx h
  obtain ⟨k, e, q⟩ := h
  have hl := line63
  have hs : sizeLine = 16777216 := sizeLine_eq
  cases x with
  | non =>
    cases rx
    have e' : k = false := e
    subst e'
    exact truthy_none ⟨H, I, q⟩
  | bl b =>
    cases rx
    have e' : k = b := e
    subst e'
    exact wpAny_truthy_bool ⟨H, I, q⟩
  | int i =>
    obtain ⟨t, rfl⟩ := rx
    have e' : k = (i != 0) := e
    subst e'
    exact PySem.P.truthy_int ⟨H, I, q⟩
  | str y =>
    obtain ⟨t, rfl⟩ := rx
    obtain ⟨hy, e'⟩ : y.length ≤ sizeLine ∧ k = ((y.length : Int) != 0) := e
    subst e'
    exact PySem.P.truthy_str (by omega) ⟨H, I.tok _, q⟩
  | byt y =>
    obtain ⟨t, rfl⟩ := rx
    obtain ⟨hy, e'⟩ : y.size ≤ sizeLine ∧ k = ((y.size : Int) != 0) := e
    subst e'
    exact PySem.W.truthy_bytes (by omega) ⟨H, I.tok _, q⟩
  | ref p =>
    cases rx
    have e' : (∃ xs, SqL X.K H p xs ∧ k = !xs.isEmpty) ∨ (∃ xs, SqT X.K H p xs ∧ k = !xs.isEmpty) ∨ ∃ kvs, H p = some (.dK kvs) ∧ k = !kvs.isEmpty := e
    rcases e' with ⟨xs, hx, e'⟩ | ⟨xs, hx, e'⟩ | ⟨kvs, hx, e'⟩
    · subst e'
      obtain ⟨its, r, pl, hz⟩ := I.list hx
      have hlen := r.length
      exact wpAny_truthy_list pl.isList (by simp only [List.size_toArray]; omega) ⟨H, I.tok _, by rw [isEmpty_of r]; exact q⟩
    · subst e'
      obtain ⟨its, r, pl, hz⟩ := I.tuple hx
      have hlen := r.length
      exact truthy_tuple pl (by simp only [List.size_toArray]; omega) ⟨H, I.tok _, by rw [isEmpty_of r]; exact q⟩
    · subst e'
      obtain ⟨hz, hS, vs, r, m⟩ : kvs.length ≤ sizeLine ∧ (p == sysModules) = false ∧ ∃ vs, KV kvs vs ∧ s.heap.DictOf (mixKind X.prog X.w) p vs := I.hok p _ hx
      have hlen : kvs.length = vs.length := Paired.length r
      exact wpAny_truthy_dict hS m (by omega) ⟨H, I.tok _, by rw [isEmpty_kv r]; exact q⟩
  | _ => exact (show False from e).elim
theorem pt_truth (ha : PE X a ta) (he : ∀ whole, isTrue a X.env whole = (do let v ← whole; standAt a.pos; holding [v] (truthy v))) :
    PT X a (fun σ H Q => ta σ H fun x H' => ∃ k, TruV X.K x H' k ∧ Q k H') := by
  intro pins s σ H Q I h
  exact isTrue_plain (thn (ha pins s σ H _ I h) fun v s1 ⟨x, H1, I1, r1, q1⟩ => tru_ok pins s1 σ H1 x v Q I1 r1 q1) (he _)
theorem op_add_str : OpR X (binaryOp .Add) (fun x y H Q => ∃ i j, x = .str i ∧ y = .str j ∧ i.length + j.length ≤ sizeLine ∧ Q (.str (i ++ j)) H) := by
  intro pins s σ H x y v u Q I rx ry h
  obtain ⟨i, j, rfl, rfl, hz, q⟩ := h
  obtain ⟨t, rfl⟩ := rx
  obtain ⟨t', rfl⟩ := ry
  exact add_str (fun t' tk => ⟨.str (i ++ j), H, I.tok _, ⟨_, rfl⟩, q⟩) hz
theorem vals1 {x : V} {us : List Value} (r : Vals [x] us) : ∃ u, us = [u] ∧ RelV x u := by
  cases r with
  | cons r1 r2 => cases r2; exact ⟨_, rfl, r1⟩
theorem vals2 {x y : V} {us : List Value} (r : Vals [x, y] us) : ∃ u w', us = [u, w'] ∧ RelV x u ∧ RelV y w' := by
  cases r with
  | cons r1 r2 =>
    cases r2 with
    | cons r3 r4 => cases r4; exact ⟨_, _, rfl, r1, r3⟩
theorem call_max2 (hc : X.calm = true) : CallR X (.builtin "max") (fun xs H Q => ∃ i j, xs = [.int i, .int j] ∧ Q (.int (if j > i then j else i)) H) := by
  intro pins s σ H xs us Q I r h
  obtain ⟨i, j, rfl, q⟩ := h
  obtain ⟨u, w', rfl, ⟨t, rfl⟩, ⟨t', rfl⟩⟩ := vals2 r
  refine max_two_ints (I.ok.hd hc) fun h' tk k => ⟨_, H, I.kept k, ?_, q⟩
  by_cases hj : j > i
  · rw [if_pos hj, if_pos hj]; exact ⟨_, rfl⟩
  · rw [if_neg hj, if_neg hj]; exact ⟨_, rfl⟩
def LenV (K : PySem.W.Frag) (x : V) (H : Hp) (n : Nat) : Prop :=
  match x with
  | .str y => y.length ≤ sizeLine ∧ n = y.length
  | .byt y => y.size ≤ sizeLine ∧ n = y.size
  | .ref p => (∃ xs, SqL K H p xs ∧ n = xs.length) ∨ ∃ xs, SqT K H p xs ∧ n = xs.length
  | _ => False
theorem call_len : CallR X (.builtin "len") (fun xs H Q => ∃ x n, xs = [x] ∧ LenV X.K x H n ∧ Q (.int n) H) := by
  intro pins s σ H xs us Q I r h
  obtain ⟨x, n, rfl, e, q⟩ := h
  obtain ⟨u, rfl, rx⟩ := vals1 r
  have hl := line63
  have hs : sizeLine = 16777216 := sizeLine_eq
  cases x with
  | str y =>
    obtain ⟨t, rfl⟩ := rx
    obtain ⟨hy, e'⟩ : y.length ≤ sizeLine ∧ n = y.length := e
    subst e'
    exact len_str (by omega) ⟨.int _, H, I.tok _, ⟨_, rfl⟩, q⟩
  | byt y =>
    obtain ⟨t, rfl⟩ := rx
    obtain ⟨hy, e'⟩ : y.size ≤ sizeLine ∧ n = y.size := e
    subst e'
    exact PySem.W.len_bytes (by omega) ⟨.int _, H, I.tok _, ⟨_, rfl⟩, q⟩
  | ref p =>
    cases rx
    have e' : (∃ xs, SqL X.K H p xs ∧ n = xs.length) ∨ ∃ xs, SqT X.K H p xs ∧ n = xs.length := e
    rcases e' with ⟨xs, hx, e'⟩ | ⟨xs, hx, e'⟩
    · subst e'
      obtain ⟨its, r', pl, hz⟩ := I.list hx
      have hlen := r'.length
      exact Calls.call_len_list pl.isList (by simp only [List.size_toArray]; omega) ⟨.int xs.length, H, I.tok _, ⟨_, by simp only [List.size_toArray]; rw [hlen]⟩, q⟩
    · subst e'
      obtain ⟨its, r', pl, hz⟩ := I.tuple hx
      have hlen := r'.length
      exact len_tuple pl (by simp only [List.size_toArray]; omega) ⟨.int xs.length, H, I.tok _, ⟨_, by simp only [List.size_toArray]; rw [hlen]⟩, q⟩
  | _ => exact (show False from e).elim
end
end L2
namespace L2
open PySem PySem.Spec PyProof.Rows
structure ObjM (h : Heap) (x dx C : Addr) (mA : Str → Option Value) : Prop where
  obj : h.get? x = some (PySem.W.instObj C dx)
  ns : h.Ns1 dx mA
  ne : dx ≠ x
theorem lookIn_ns {h : Heap} {dx : Addr} {mA : Str → Option Value} (n : h.Ns1 dx mA) : ∃ od, h.get? dx = some od ∧ ∀ name, PySem.W.lookIn name od = some (mA name) := by
  obtain ⟨o, es, ep, ho, hd, hk, _, hm⟩ := n
  refine ⟨o, ho, fun name => ?_⟩
  have e := hm name
  unfold nsFind findBy at e
  rw [← Array.find?_toList] at e
  unfold PySem.W.lookIn
  rw [hd]
  dsimp only
  split
  · rename_i y q
    rw [q] at e
    exact congrArg some e
  · rename_i q
    rw [q] at e
    have a : es.toList.any (·.refKey) = false := by
      rw [List.any_eq_false]
      intro y hy
      obtain ⟨z, t, hkey⟩ := hk y (Array.mem_toList_iff.mp hy)
      simp [DictEntry.refKey, hkey]
    have a' : ¬ es.toList.any (·.refKey) = true := by rw [a]; exact Bool.false_ne_true
    rw [if_neg a']
    exact congrArg some e
theorem ObjM.look {h : Heap} {x dx C : Addr} {mA : Str → Option Value} (I : ObjM h x dx C mA) : ∃ od, PySem.W.InstAt h x (PySem.W.instObj C dx) C (some od) ∧ ∀ name, PySem.W.lookIn name od = some (mA name) :=
  let ⟨od, ho, hl⟩ := lookIn_ns I.ns
  ⟨od, ⟨I.obj, rfl, rfl, ho⟩, hl⟩
section
variable {prog : Program} {w : World} {A : Around} {E : Value → Shared → Prop} {s : Shared} {K : PySem.W.Frag} {x dx C f : Addr} {mA : Str → Option Value} {name : Str} {v : Value}
theorem get_map {expr : Bool} {Q : Value → Shared → Prop} (X : K.In s.heap) (I : ObjM s.heap x dx C mA) (hg : PySem.W.plainGet K C name = true) (hh : PySem.W.hasDictIn K C = true)
    (ha : PySem.W.findIn K (.ref C) name = some none) (hv : mA name = some v) (hv' : PySem.W.handedIn v = true) (h : Q v { s with toks := s.toks + 1 }) :
    wpAny (model prog w) A (getAttr (.ref x) name expr) Q E s := by
  obtain ⟨od, J, hl⟩ := I.look
  exact PySem.W.get_value X J (PySem.W.plainGet_of hg).1 (PySem.W.findObj_own hh ha rfl (by rw [hl, hv])) hv' h
theorem get_meth {pl : Sem Bool} {Q : Value × List Value → Shared → Prop} (X : K.In s.heap) (I : ObjM s.heap x dx C mA) (hg : PySem.W.plainGet K C name = true)
    (hf : PySem.W.findIn K (.ref C) name = some (some (.ref f))) (ht : PySem.W.isFn K (.ref f) = true) (hv : mA name = none) (h : Q (.ref f, [.ref x]) s) :
    wpAny (model prog w) A (getMethod (.ref x) name pl) Q E s := by
  obtain ⟨od, J, hl⟩ := I.look
  exact PySem.W.method_fn X J (PySem.W.plainGet_of hg).1 (PySem.W.plainGet_of hg).2 hf (beq_iff_eq.mp ht) (by show (PySem.W.lookIn name od).map (·.isSome) = some false; rw [hl, hv]; rfl) h
theorem set_map {ns : List Str} {Q : Unit → Shared → Prop} (X : K.In s.heap) (I : ObjM s.heap x dx C mA)
    (hs : PySem.W.findIn K (.ref C) "__setattr__" = some (some (.builtin "object.__setattr__"))) (hp : PySem.W.plainOver K C = true) (ht : PySem.W.takerIn K C name = some none) (hh : PySem.W.hasDictIn K C = true)
    (hw : PySem.Within mA ns) (hsz : ns.length ≤ sizeLine)
    (h : ∀ h', ObjM h' x dx C (fun y => if y = name then some v else mA y) → Heap.SameBut dx s.heap h' → Q () { s with heap := h', toks := s.toks + 2 }) :
    wpAny (model prog w) A (setAttr (.ref x) name v) Q E s := by
  obtain ⟨od, J, hl⟩ := I.look
  refine PySem.W.set_plain X J hs (PySem.W.osa_open (s := { s with toks := s.toks + 1 }) (r := none) X J hp ht fun b => ?_)
  obtain ⟨cd, hc, hd'⟩ := PySem.W.any_some hh
  have hx : s.heap.get? x = some ⟨.ref C, some dx, .plain, #[]⟩ := I.obj
  refine wpAny_bind (wpAny_pure (wpAny_bind (wpAny_bind (wpAny_loadPart hx (wpAny_bind (PySem.W.Looks.here (s := { s with toks := s.toks + 1 }) (PySem.W.looks_clsIn X hc) ?_))))))
  rw [hd']
  refine wpAny_pure (a := some dx) (wpAny_bind (wpAny_pure (wpAny_bind ?_)))
  refine wpAny_nsSet1 (s := { s with toks := s.toks + 1 }) I.ns fun h' hn2 hs2 => ?_
  obtain ⟨oD, esD, epD, hoD, hdD, hcD⟩ := hn2.count (PySem.Within.cons name v hw)
  refine wpAny_bind (wpAny_lookBehind hoD (by rw [hdD]; exact pastItsLine_dict (Nat.le_trans hcD (by rw [List.length_cons]; omega))) ?_)
  exact wpAny_pure (h _ ⟨(hs2.2 _ (Ne.symm I.ne)).trans I.obj, hn2, I.ne⟩ hs2)
theorem make_map {R : Result → Shared → Prop} {vs : List Value} {kw : List (Str × Value)} (X : K.In s.heap) (hm : PySem.W.makesIn K C = true)
    (hi : PySem.W.findIn K (.ref C) "__init__" = some (some (.ref f))) (hf : PySem.W.typeIn K (.ref f) = some (.type "function"))
    (h : codeAny (model prog w) (A.under (.builtin "type.__call__" ⟨.ref C :: vs, kw⟩)) (.call (.ref f) ⟨.ref (s.heap.objs.size + 1) :: vs, kw⟩) (PySem.W.InitBack (s.heap.objs.size + 1) R)
      { s with heap := (s.heap.push PySem.W.emptyDict).push (PySem.W.instObj C s.heap.objs.size) }) :
    codeAny (model prog w) A (.call (.ref C) ⟨vs, kw⟩) R s := by
  obtain ⟨hh, g, d, t, os⟩ := s
  exact PySem.W.make_core (PySem.W.makes_of X hm) (PySem.W.looks_findIn X hi) (fun self => PySem.W.bind_fn X self hf) (.inl rfl) h
end
def putF (f : Str) (v : V) : List (Str × V) → List (Str × V)
  | [] => [(f, v)]
  | (g, x) :: r => if g = f then (g, v) :: r else (g, x) :: putF f v r
theorem lookup_putF (f g : Str) (v : V) : ∀ fs : List (Str × V), (putF f v fs).lookup g = if g = f then some v else fs.lookup g
  | [] => by
    show List.lookup g [(f, v)] = _
    by_cases h : g = f
    · have hb : (g == f) = true := beq_iff_eq.mpr h
      simp only [List.lookup, hb, if_pos h]
    · have hb : (g == f) = false := beq_eq_false_iff_ne.mpr h
      simp only [List.lookup, hb, if_neg h]
  | (k, x) :: r => by
    have ih := lookup_putF f g v r
    rw [show putF f v ((k, x) :: r) = (if k = f then (k, v) :: r else (k, x) :: putF f v r) from rfl]
    by_cases hk : k = f
    · rw [if_pos hk]
      by_cases h : g = k
      · have hb : (g == k) = true := beq_iff_eq.mpr h
        simp only [List.lookup, hb, if_pos (h.trans hk)]
      · have hb : (g == k) = false := beq_eq_false_iff_ne.mpr h
        simp only [List.lookup, hb, if_neg (fun e : g = f => h (e.trans hk.symm))]
    · rw [if_neg hk]
      by_cases h : g = k
      · have hb : (g == k) = true := beq_iff_eq.mpr h
        simp only [List.lookup, hb, if_neg (fun e : g = f => hk (h.symm.trans e))]
      · have hb : (g == k) = false := beq_eq_false_iff_ne.mpr h
        simp only [List.lookup, hb]
        exact ih
theorem keys_putF (f : Str) (v : V) : ∀ fs : List (Str × V), f ∈ (putF f v fs).map (·.1) ∧ ∀ g, g ∈ fs.map (·.1) → g ∈ (putF f v fs).map (·.1)
  | [] => ⟨by simp [putF], fun g h => by simp at h⟩
  | (k, x) :: r => by
    obtain ⟨i1, i2⟩ := keys_putF f v r
    rw [show putF f v ((k, x) :: r) = (if k = f then (k, v) :: r else (k, x) :: putF f v r) from rfl]
    by_cases hk : k = f
    · rw [if_pos hk]
      subst hk
      exact ⟨by simp, fun g h => by simpa using h⟩
    · rw [if_neg hk]
      refine ⟨?_, fun g h => ?_⟩
      · rw [List.map_cons]
        exact List.mem_cons_of_mem _ i1
      · rw [List.map_cons] at h ⊢
        rcases List.mem_cons.mp h with e | e
        · exact List.mem_cons.mpr (.inl e)
        · exact List.mem_cons_of_mem _ (i2 g e)
theorem length_putF (f : Str) (v : V) : ∀ fs : List (Str × V), (putF f v fs).length ≤ fs.length + 1
  | [] => by simp [putF]
  | (k, x) :: r => by
    have ih := length_putF f v r
    rw [show putF f v ((k, x) :: r) = (if k = f then (k, v) :: r else (k, x) :: putF f v r) from rfl]
    by_cases hk : k = f
    · rw [if_pos hk, List.length_cons, List.length_cons]; omega
    · rw [if_neg hk, List.length_cons, List.length_cons]; omega
theorem RelO.some_of {v : V} {o : Option Value} (r : RelO (some v) o) : ∃ u, o = some u ∧ RelV v u := by
  cases o with
  | none => exact (show False from r).elim
  | some u => exact ⟨u, rfl, r⟩
theorem RelO.none_of {o : Option Value} (r : RelO none o) : o = none := by
  cases o with
  | none => rfl
  | some u => exact (show False from r).elim
theorem handed_of {v : V} {u : Value} (r : RelV v u) : PySem.W.handedIn u = true := by
  cases v with
  | non => cases (show u = Value.none from r); rfl
  | bl b => cases (show u = Value.bool b from r); rfl
  | int i => obtain ⟨t, e⟩ := (show ∃ t, u = Value.int i t from r); cases e; rfl
  | str x => obtain ⟨t, e⟩ := (show ∃ t, u = Value.str x t from r); cases e; rfl
  | byt b => obtain ⟨t, e⟩ := (show ∃ t, u = Value.bytes b t from r); cases e; rfl
  | flt b => obtain ⟨t, e⟩ := (show ∃ t, u = Value.float b t from r); cases e; rfl
  | ref a => cases (show u = Value.ref a from r); rfl
  | ty n => cases (show u = Value.type n from r); rfl
section
variable {P : Program} {w : World} {H H' : Hp} {h h' : Heap} {a C dx : Addr} {fs fs' : List (Str × V)}
theorem ins_get (hok : HOk P w H h) (e : H a = some (.ins C dx fs)) : ∃ mA, ObjM h a dx C mA ∧ (∀ f, RelO (fs.lookup f) (mA f)) ∧ PySem.Within mA (fs.map (·.1)) ∧ fs.length ≤ 1000 ∧ H dx = some (.own a) := by
  obtain ⟨d, z, ne, ob, mA, n, r, q⟩ := (show ObjOk P w H h a (.ins C dx fs) from hok a _ e)
  exact ⟨mA, ⟨ob, n, ne⟩, r, q, z, d⟩
end
structure Cls (K : PySem.W.Frag) (C : Addr) : Prop where
  pg : PySem.W.plainGet K C Str.empty = true
  hd : PySem.W.hasDictIn K C = true
  po : PySem.W.plainOver K C = true
  sa : PySem.W.findIn K (.ref C) "__setattr__" = some (some (.builtin "object.__setattr__"))
theorem Cls.get {K : PySem.W.Frag} {C : Addr} (c : Cls K C) (f : Str) : PySem.W.plainGet K C f = true := c.pg
def NoAttr (K : PySem.W.Frag) (C : Addr) (f : Str) : Prop := PySem.W.findIn K (.ref C) f = some none
theorem NoAttr.taker {K : PySem.W.Frag} {C : Addr} {f : Str} (n : NoAttr K C f) : PySem.W.takerIn K C f = some none := by
  unfold PySem.W.takerIn
  rw [show PySem.W.findIn K (.ref C) f = some none from n]
  rfl
structure Meth (K : PySem.W.Frag) (C : Addr) (m : Str) (f : Addr) : Prop where
  at_ : PySem.W.findIn K (.ref C) m = some (some (.ref f))
  fn : PySem.W.isFn K (.ref f) = true
  kp : PySem.W.keepIn K (.ref f) = true
section
variable {X : Cx} {pins : List (Addr × Obj)} {σ : St} {H : Hp} {s : Shared} {a C dx : Addr} {fs : List (Str × V)} {f : Str} {v : V} {A : Around} {E : Value → Shared → Prop}
theorem getattr_ok {b : Bool} {Q : Value → Shared → Prop} (I : Inv X pins σ H s) (e : H a = some (.ins C dx fs)) (c : Cls X.K C) (n : NoAttr X.K C f) (l : fs.lookup f = some v)
    (h : ∀ u s', Inv X pins σ H s' → RelV v u → Q u s') : wpAny (model X.prog X.w) A (getAttr (.ref a) f b) Q E s := by
  obtain ⟨mA, O, r, _, _, _⟩ := ins_get I.hok e
  obtain ⟨u, hu, ru⟩ := RelO.some_of (v := v) (o := mA f) (by rw [← l]; exact r f)
  exact get_map I.kIn O (c.get f) c.hd n hu (handed_of ru) (h u _ (I.tok _) ru)
theorem getmeth_ok {m : Str} {g : Addr} {pl : Sem Bool} {Q : Value × List Value → Shared → Prop} (I : Inv X pins σ H s) (e : H a = some (.ins C dx fs)) (c : Cls X.K C) (k : Meth X.K C m g) (l : fs.lookup m = none)
    (h : Q (.ref g, [.ref a]) s) : wpAny (model X.prog X.w) A (getMethod (.ref a) m pl) Q E s := by
  obtain ⟨mA, O, r, _, _, _⟩ := ins_get I.hok e
  have hn : mA m = none := RelO.none_of (by rw [← l]; exact r m)
  exact get_meth I.kIn O (c.get m) k.at_ k.fn hn h
theorem setattr_ok {y : V} {u : Value} {Q : Unit → Shared → Prop} (I : Inv X pins σ H s) (e : H a = some (.ins C dx fs)) (c : Cls X.K C) (n : NoAttr X.K C f) (hl : fs.length < 1000) (ry : RelV y u)
    (h : ∀ s', Inv X pins σ (upd H a (.ins C dx (putF f y fs))) s' → Q () s') : wpAny (model X.prog X.w) A (setAttr (.ref a) f u) Q E s := by
  obtain ⟨mA, O, r, wi, _, ho⟩ := ins_get I.hok e
  have hz : (fs.map (·.1)).length ≤ sizeLine := by rw [List.length_map, sizeLine_eq]; omega
  refine set_map I.kIn O c.sa c.po n.taker c.hd wi hz fun h' O' sb => h _ ?_
  have hd : ∃ o, h'.get? dx = some o := let ⟨o, _, _, e', _⟩ := O'.ns; ⟨o, e'⟩
  refine I.write (x := a) (e := dx) (by rw [e]; exact True.intro) (.inr ho) (fun b q hb z => (sb.2 b hb).trans z) hd ?_
  refine ⟨by rw [upd_ne O.ne]; exact ho, ?_, O.ne, O'.obj, _, O'.ns, fun g => ?_, fun g hg => ?_⟩
  · have := length_putF f y fs; omega
  · show RelO ((putF f y fs).lookup g) (if g = f then some u else mA g)
    rw [lookup_putF]
    by_cases q : g = f
    · rw [if_pos q, if_pos q]; exact ry
    · rw [if_neg q, if_neg q]; exact r g
  · by_cases q : g = f
    · rw [q]; exact (keys_putF f y fs).1
    · refine (keys_putF f y fs).2 g (wi g fun z => hg ?_)
      show (if g = f then some u else mA g) = none
      rw [if_neg q]; exact z
theorem Inv.made (I : Inv X pins σ H s) : Inv X pins σ (upd (upd H s.heap.objs.size (.own (s.heap.objs.size + 1))) (s.heap.objs.size + 1) (.ins C s.heap.objs.size []))
    { s with heap := (s.heap.push PySem.W.emptyDict).push (PySem.W.instObj C s.heap.objs.size) } := by
  have e1 : (s.heap.push PySem.W.emptyDict).get? s.heap.objs.size = some PySem.W.emptyDict := Heap.get?_push_size s.heap rfl
  have e2 : ((s.heap.push PySem.W.emptyDict).push (PySem.W.instObj C s.heap.objs.size)).get? (s.heap.objs.size + 1) = some (PySem.W.instObj C s.heap.objs.size) := by
    have := Heap.get?_push_size (s.heap.push PySem.W.emptyDict) (o := PySem.W.instObj C s.heap.objs.size) rfl
    rwa [Heap.size_push] at this
  have e3 : (s.heap.push PySem.W.emptyDict).Ns s.heap.objs.size (fun _ => none) := ⟨PySem.W.emptyDict, #[], _, e1, rfl, (fun e he => absurd he (by simp)), fun _ => rfl⟩
  have I1 := I.laid (a := s.heap.objs.size) (o := .own (s.heap.objs.size + 1)) (h' := s.heap.push PySem.W.emptyDict) (t' := s.toks) (fun b u q => Heap.get?_push_of_some _ q) (Nat.le_refl _) ⟨_, e1⟩
  refine I1.laid (a := s.heap.objs.size + 1) (o := .ins C s.heap.objs.size []) (t' := s.toks) (fun b u q => Heap.get?_push_of_some _ q) (Nat.le_of_eq (Heap.size_push _ _)) ?_
  have ne : s.heap.objs.size ≠ s.heap.objs.size + 1 := Nat.ne_of_lt (Nat.lt_succ_self _)
  refine ⟨by rw [upd_ne ne, upd_same], Nat.zero_le _, ne, e2, fun _ => none, (Heap.Ns1.of_empty e3).at fun o q => Heap.get?_push_of_some _ q, fun _ => True.intro, fun y hy => absurd rfl hy⟩
theorem attr_of {prog : Program} {w : World} {env : Env} {e : Expr} {f : Str} {pos : Pos} {s : Shared} {Q : Value → Shared → Prop} (hb : attributeBase e f env (eval e env) = eval e env)
    (h : wpAny (model prog w) A (eval e env) (fun o s₁ => wpAny (model prog w) A (getAttr o f true) Q E s₁) E s) : wpAny (model prog w) A (eval (.Attribute e f pos) env) Q E s :=
  Attribute_any_ h (by rw [arm_eval_Attribute, hb])
end
def tFld (K : PySem.W.Frag) (ta : TE) (f : Str) : TE := fun σ H Q => ta σ H fun x H1 => ∃ a C dx fs v, x = .ref a ∧ H1 a = some (.ins C dx fs) ∧ Cls K C ∧ NoAttr K C f ∧ fs.lookup f = some v ∧ Q v H1
def sFld (K : PySem.W.Frag) (ta tv : TE) (f : Str) : TS := fun D σ H => tv σ H fun y H1 => ta σ H1 fun x H2 => ∃ a C dx fs, x = .ref a ∧ H2 a = some (.ins C dx fs) ∧ Cls K C ∧ NoAttr K C f ∧ fs.length < 1000 ∧
  D.nx σ (upd H2 a (.ins C dx (putF f y fs)))
section
variable {X : Cx} {o e value : Expr} {f : Str} {pos pos' tpos : Pos} {ta tv : TE}
theorem pe_fld (he : PE X e ta) (hb : attributeBase e f X.env (eval e X.env) = eval e X.env) : PE X (.Attribute e f pos) (tFld X.K ta f) := by
  intro pins s σ H Q I h
  refine attr_of hb (thn (he pins s σ H _ I h) fun u s1 ⟨x, H1, I1, rx, a, C, dx, fs, v, ex, ea, c, n, l, q⟩ => ?_)
  subst ex
  obtain rfl : u = Value.ref a := rx
  exact getattr_ok I1 ea c n l fun u' s2 I2 ru => ⟨v, H1, I2, ru, q⟩
theorem ps_fld (ha : PE X o ta) (hv : PE X value tv) (hs : swapsWith value (some (.Attribute o f pos')) pos.line X.env = pure false) : PS X (.Assign [.Attribute o f pos'] value pos) (sFld X.K ta tv f) := by
  intro pins s σ H D I h
  refine plainObj_wpAny_Assign_Attribute (thn (hv pins s σ H _ I h) fun u s1 ⟨y, H1, I1, ry, q⟩ => thn (ha pins s1 σ H1 _ I1 q) fun ov s2 ⟨x, H2, I2, rx, a, C, dx, fs, ex, ea, c, n, l, q2⟩ => ?_) hs
  subst ex
  obtain rfl : ov = Value.ref a := rx
  exact setattr_ok I2 ea c n l ry fun s3 I3 => ⟨σ, _, I3, q2⟩
theorem methcall_of {pl : Sem Bool} {m : Str} {apos : Pos} {args : List Expr} {pins : List (Addr × Obj)} {s : Shared} {σ : St} {H : Hp} {Q : Value → Shared → Prop} {te : TE} (he : PE X e te) (I : Inv X pins σ H s)
    (h : te σ H fun x H1 => ∃ a C dx fs g, x = .ref a ∧ H1 a = some (.ins C dx fs) ∧ Cls X.K C ∧ Meth X.K C m g ∧ fs.lookup m = none ∧
      ∀ s1, Inv X pins σ H1 s1 → wpAny (model X.prog X.w) X.A (callWith pos (.ref g) [.ref a] (backTo pos (starEach args X.env)) (backToKw pos (keywordEach [] X.env))) Q X.xe s1)
    (ht : eval (.Call (.Attribute e m apos) args [] pos) X.env = (do
      let ov ← eval e X.env
      standAt apos.atName
      let (f, first) ← holding [ov] (getMethod ov m pl)
      callWith pos f first (backTo pos (starEach args X.env)) (backToKw pos (keywordEach [] X.env)))) :
    wpAny (model X.prog X.w) X.A (eval (.Call (.Attribute e m apos) args [] pos) X.env) Q X.xe s := by
  refine PySem.W.methodCall_KW (pl := pl) (thn (he pins s σ H _ I h) fun u s1 ⟨x, H1, I1, rx, a, C, dx, fs, g, ex, ea, c, k, l, q⟩ => ?_) ht
  subst ex
  obtain rfl : u = Value.ref a := rx
  exact getmeth_ok I1 ea c k l (q s1 I1)
end
section
variable {X : Cx} {pins : List (Addr × Obj)} {σ : St} {H : Hp} {s : Shared} {A : Around} {E : Value → Shared → Prop} {Q : Value → Shared → Prop} {c : Value} {b : Bool}
inductive TyOf (K : PySem.W.Frag) (H : Hp) : V → Value → Prop where
  | non : TyOf K H .non (.type "NoneType")
  | bl (x : Bool) : TyOf K H (.bl x) (.type "bool")
  | int (i : Int) : TyOf K H (.int i) (.type "int")
  | str (x : Str) : TyOf K H (.str x) (.type "str")
  | flt (x : UInt64) : TyOf K H (.flt x) (.type "float")
  | lst {a : Addr} {xs : List V} (e : H a = some (.lst xs)) : TyOf K H (.ref a) (.type "list")
  | frz {a : Addr} {o : Obj} {xs : List V} (e : H a = some (.frz o (.lst xs))) : TyOf K H (.ref a) (.type "list")
  | tup {a : Addr} {xs : List V} (e : H a = some (.tup xs)) : TyOf K H (.ref a) (.type "tuple")
  | dK {a : Addr} {kvs : List (Key × V)} (e : H a = some (.dK kvs)) : TyOf K H (.ref a) (.type "dict")
  | dT {a : Addr} {kvs : List (List Key × V)} (e : H a = some (.dT kvs)) : TyOf K H (.ref a) (.type "dict")
  | ins {a C dx : Addr} {fs : List (Str × V)} (e : H a = some (.ins C dx fs)) (cl : Cls K C) (ha : PySem.W.findIn K (.ref C) "__class__" = some (some (.builtin "object.__class__")))
      (hn : PySem.W.specialIn K (.builtin "object.__class__") "__get__" = some (some (.builtin "getset_descriptor.__get__"))) (htk : PySem.W.takesIn K (.builtin "object.__class__") = some true)
      (hm : PySem.W.mroIn K C (.type "object") = some true) : TyOf K H (.ref a) (.ref C)
end
end L2
namespace L2
open PySem PySem.Spec PyProof.Rows
structure Room (k : Nat) (A : Around) : Prop where
  hd : A.handled = none
  dp : A.depth + 3 * k + 5 < recursionLimit
  un : A.units + 16 * k + 200 < cLine
theorem Room.mono {j k : Nat} {A : Around} (r : Room k A) (h : j ≤ k) : Room j A := ⟨r.hd, by have := r.dp; omega, by have := r.un; omega⟩
theorem Room.deeper {k : Nat} {A : Around} (r : Room (k + 1) A) (env : Env) : Room k (A.deeper env) :=
  ⟨r.hd, by have := r.dp; show A.depth + 1 + 3 * k + 5 < _; omega, by have := r.un; show A.units + 3 + 16 * k + 200 < _; omega⟩
theorem Room.in1 {k : Nat} {A : Around} (r : Room (k + 1) A) : Room k A.in1 :=
  ⟨r.hd, by have := r.dp; show A.depth + 3 * k + 5 < _; omega, by have := r.un; show A.units + 1 + 16 * k + 200 < _; omega⟩
theorem make_depth {A : Around} {C : Addr} {us : List Value} {kw : List (Str × Value)} : (A.under (.builtin "type.__call__" ⟨.ref C :: us, kw⟩)).depth = A.depth + 1 := by
  first | rfl | simp [Around.under, Code.weight, Code.isCreation, Code.isGuard, Code.isCaller, Code.frames, Code.isFrame, guardIds]
theorem make_units {A : Around} {C : Addr} {us : List Value} {kw : List (Str × Value)} : (A.under (.builtin "type.__call__" ⟨.ref C :: us, kw⟩)).units = A.units + 1 := by
  first | rfl | simp [Around.under, Code.cUnits, Code.frames, Code.isFrame]
theorem Room.make {k : Nat} {A : Around} (r : Room (k + 1) A) (C : Addr) (us : List Value) (kw : List (Str × Value)) : Room k (A.under (.builtin "type.__call__" ⟨.ref C :: us, kw⟩)) :=
  ⟨r.hd, by have := r.dp; rw [make_depth]; omega, by have := r.un; rw [make_units]; omega⟩
theorem Room.depth {k : Nat} {A : Around} (r : Room k A) : A.depth < recursionLimit := by have := r.dp; omega
theorem Room.units {k : Nat} {A : Around} (r : Room k A) : A.units + 64 < cLine := by have := r.un; omega
def tNil : TA := fun _ H Q => Q [] H
def tCons (ta : TE) (tr : TA) : TA := fun σ H Q => ta σ H fun x H1 => tr σ H1 fun xs H2 => Q (x :: xs) H2
section
variable {X : Cx} {e : Expr} {es : List Expr} {te : TE} {t : TA} {pos : Pos}
theorem pa_nil : PA X [] tNil := fun _ _ _ _ H Q I h => Calls.spliced_nil ⟨[], H, I, .nil, h⟩
theorem pa_cons (ha : PE X e te) (hr : PA X es t) (hs : starEach (e :: es) X.env = (false, eval e X.env) :: starEach es X.env := by rfl) : PA X (e :: es) (tCons te t) := by
  intro pos pins s σ H Q I h
  rw [hs]
  show wpAny _ _ (spliced ((false, eval e X.env) :: backTo pos (starEach es X.env))) _ _ s
  refine Calls.spliced_cons (thn (ha pins s σ H _ I h) fun u s1 ⟨x, H1, I1, r1, q1⟩ => ?_)
  exact thn (hr pos pins s1 σ H1 _ I1 q1) fun us s2 ⟨xs, H2, I2, r2, q2⟩ => ⟨x :: xs, H2, I2, .cons r1 r2, q2⟩
def tTup (t : TA) : TE := fun σ H Q => t σ H fun xs H1 => xs.length ≤ sizeLine ∧ ∀ p, H1 p = none → Q (.ref p) (upd H1 p (.tup xs))
def tLst (t : TA) : TE := fun σ H Q => t σ H fun xs H1 => xs.length ≤ sizeLine ∧ ∀ p, H1 p = none → Q (.ref p) (upd H1 p (.lst xs))
theorem pe_tup {x1} (h : PA X es t) : PE X (.Tuple es x1 pos) (tTup t) := by
  intro pins s σ H Q I hq
  refine wpAny_Tuple_spliced (thn (h pos pins s σ H _ I hq) fun us s1 ⟨xs, H1, I1, r, z, q⟩ => ⟨by rw [← r.length]; exact z, ?_⟩)
  have hf : H1 s1.heap.objs.size = none := I1.hok.fresh (Nat.le_refl _)
  refine ⟨.ref s1.heap.objs.size, upd H1 s1.heap.objs.size (.tup xs), I1.laid (t' := s1.toks) (fun b u e => Heap.get?_push_of_some _ e) (Nat.le_refl _) ?_, rfl, q _ hf⟩
  exact ⟨z, us, r, ⟨_, Heap.get?_push_size _ rfl, rfl, _, rfl⟩⟩
theorem pe_lst (h : PA X es t) : PE X (.List es pos) (tLst t) := by
  intro pins s σ H Q I hq
  refine wpAny_List_spliced (thn (h pos pins s σ H _ I hq) fun us s1 ⟨xs, H1, I1, r, z, q⟩ => ⟨by rw [← r.length]; exact z, ?_⟩)
  have hf : H1 s1.heap.objs.size = none := I1.hok.fresh (Nat.le_refl _)
  refine ⟨.ref s1.heap.objs.size, upd H1 s1.heap.objs.size (.lst xs), I1.laid (t' := s1.toks) (fun b u e => Heap.get?_push_of_some _ e) (Nat.le_refl _) ?_, rfl, q _ hf⟩
  exact ⟨z, us, 0, r, Heap.get?_push_size _ rfl⟩
end
abbrev Sp := List V → Hp → VK → XK → Prop
abbrev CXT := List Env → Hp → Shared → XK → Value → Shared → Prop
structure Env0 (P : Program) (w : World) (K : PySem.W.Frag) (mg : Str → Option Value) (base : Heap) (A : Around) (outer : List Env) (s : Shared) (H : Hp) : Prop where
  frames : A.frames = some outer
  mod : Mod K mg base
  bs : ∀ b o, base.get? b = some o → s.heap.get? b = some o ∧ H b = none
  bsz : base.objs.size ≤ s.heap.objs.size
  funs : s.heap.FunFrames base outer
  frf : ∀ b ∈ frs outer, H b = none
  hok : HOk P w H s.heap
  bare : AllBare s.gens
def CE (outer : List Env) (P : Program) (w : World) (H : Hp) (s : Shared) (Q : VK) (u : Value) (s' : Shared) : Prop :=
  ∃ v H', s'.os = s.os ∧ AllBare s'.gens ∧ Un (frs outer) [] H H' s.heap s'.heap ∧ HOk P w H' s'.heap ∧ RelV v u ∧ Q v H'
def CR (CX : CXT) (outer : List Env) (P : Program) (w : World) (H : Hp) (s : Shared) (Q : VK) (E : XK) (r : Result) (s' : Shared) : Prop :=
  match r with
  | .ok (.ret u) => CE outer P w H s Q u s'
  | .ok _ => False
  | .error e => CX outer H s E e s'
structure FnOk (P : Program) (w : World) (K : PySem.W.Frag) (mg : Str → Option Value) (base : Heap) (CX : CXT) (k : Nat) (f : Addr) (fd : FuncData) (ps : List Str) (sp : Sp) : Prop where
  len : ∀ vs H Q E, sp vs H Q E → vs.length = ps.length
  run : ∀ (A : Around) (outer : List Env) (s : Shared) (H : Hp) (args : Args) (us : List Value) (vs : List V) (Q : VK) (E : XK), Room k A → Env0 P w K mg base A outer s H → BindsTo s fd args (ps.zip us) → Vals vs us → sp vs H Q E →
    codeAny (model P w) A (.call (.ref f) args) (CR CX outer P w H s Q E) s
theorem Env0.make {P : Program} {w : World} {K : PySem.W.Frag} {mg : Str → Option Value} {base : Heap} {A : Around} {outer : List Env} {s : Shared} {H : Hp} (e : Env0 P w K mg base A outer s H) (C : Addr) (us : List Value) (kw : List (Str × Value)) :
    Env0 P w K mg base (A.under (.builtin "type.__call__" ⟨.ref C :: us, kw⟩)) outer s H := ⟨by first | exact e.frames | (simpa [Around.under, Code.envs, Code.isFrame, pushEnvs] using e.frames), e.mod, e.bs, e.bsz, e.funs, e.frf, e.hok, e.bare⟩
theorem Env0.in1 {P : Program} {w : World} {K : PySem.W.Frag} {mg : Str → Option Value} {base : Heap} {A : Around} {outer : List Env} {s : Shared} {H : Hp} (e : Env0 P w K mg base A outer s H) :
    Env0 P w K mg base A.in1 outer s H := ⟨e.frames, e.mod, e.bs, e.bsz, e.funs, e.frf, e.hok, e.bare⟩
section
variable {X : Cx} {pins : List (Addr × Obj)} {σ : St} {H : Hp} {s s' : Shared}
theorem Inv.env0 (I : Inv X pins σ H s) : Env0 X.prog X.w X.K X.mg X.base X.A X.stack s H :=
  ⟨I.ok.frames, I.ok.mod, I.bs, Nat.le_trans I.ok.bsz I.sz, I.stack, I.stkFree, I.hok, I.bare⟩
theorem Inv.after {Q : VK} {u : Value} (I : Inv X pins σ H s) (h : CE X.stack X.prog X.w H s Q u s') : EP X pins σ Q u s' := by
  obtain ⟨v, H', os, bare, un, hok, r, q⟩ := h
  obtain ⟨hh, g, d, t, os'⟩ := s'
  obtain rfl : os' = s.os := os
  exact ⟨v, H', I.call (h' := hh) (g' := g) (d' := d) (t' := t) (ch := []) un hok bare (fun b z => absurd z (by simp)), r, q⟩
end
def tCall (sp : Sp) (dvs : List V) (E : XK) (t : TA) : TE := fun σ H Q => t σ H fun vs H1 => sp (vs ++ dvs) H1 Q E
def tMeth (C : Addr) (m : Str) (sp : Sp) (dvs : List V) (E : XK) (ta : TE) (t : TA) : TE := fun σ H Q => ta σ H fun x H1 => ∃ a dx fs, x = .ref a ∧ H1 a = some (.ins C dx fs) ∧ fs.lookup m = none ∧
  t σ H1 fun vs H2 => sp (x :: (vs ++ dvs)) H2 Q E
def tMake (C : Addr) (sp : Sp) (dvs : List V) (E : XK) (t : TA) : TE := fun σ H Q => t σ H fun vs H1 => ∀ x dx, H1 x = none → H1 dx = none → dx ≠ x →
  sp (.ref x :: (vs ++ dvs)) (upd (upd H1 dx (.own x)) x (.ins C dx [])) (fun v H2 => v = .non ∧ Q (.ref x) H2) E
def Binds (K : PySem.W.Frag) (fd : FuncData) (ps : List Str) (ds : List Value) : Prop :=
  ∀ (s : Shared) (us : List Value), K.In s.heap → (us ++ ds).length = ps.length → BindsTo s fd ⟨us, []⟩ (ps.zip (us ++ ds))
theorem Binds.all {K : PySem.W.Frag} {fd : FuncData} {ps : List Str} (h : ∀ us : List Value, us.length = ps.length → bindArgs fd ⟨us, []⟩ = pure (ps.zip us)) : Binds K fd ps [] := fun s us _ hl => by
  rw [List.append_nil] at hl ⊢
  exact .of_eq (h us hl)
def Passes (CX : CXT) (X : Cx) (E : XK) : Prop := ∀ (pins : List (Addr × Obj)) (σ : St) (H : Hp) (s : Shared) (e : Value) (s' : Shared), Inv X pins σ H s → CX X.stack H s E e s' → X.xe e s'
section
variable {X : Cx} {CX : CXT} {k : Nat} {f C : Addr} {fd : FuncData} {ps : List Str} {sp : Sp} {dvs : List V} {ds : List Value} {E : XK} {x m : Str} {p pos apos : Pos} {e o : Expr} {es : List Expr} {ta : TE} {t : TA}
theorem run_fn {pins : List (Addr × Obj)} {σ : St} {H : Hp} {s : Shared} {Q : VK} {us : List Value} {vs : List V} (F : FnOk X.prog X.w X.K X.mg X.base CX k f fd ps sp) (hr : Room k X.A) (hb : Binds X.K fd ps ds) (hd : Vals dvs ds) (hx : Passes CX X E)
    (I : Inv X pins σ H s) (r : Vals vs us) (h : sp (vs ++ dvs) H Q E) : wpAny (model X.prog X.w) X.A (call (.ref f) us) (EP X pins σ Q) X.xe s := by
  have r2 : Vals (vs ++ dvs) (us ++ ds) := r.append hd
  have hl : (us ++ ds).length = ps.length := by rw [← r2.length]; exact F.len _ _ _ _ h
  refine wpAny_call (codeAny_mono (F.run X.A X.stack s H ⟨us, []⟩ (us ++ ds) (vs ++ dvs) Q E hr I.env0 (hb s us I.kIn hl) r2 h) fun r s' hq => ?_)
  cases r with
  | error e => exact hx pins σ H s e s' I hq
  | ok fl =>
    cases fl with
    | ret u => exact I.after hq
    | next => exact False.elim hq
    | brk => exact False.elim hq
    | cont => exact False.elim hq
theorem pe_call (F : FnOk X.prog X.w X.K X.mg X.base CX k f fd ps sp) (hr : Room k X.A) (hg : Gl X x) (hm : X.mg x = some (.ref f)) (hk : PySem.W.keepIn X.K (.ref f) = true) (hb : Binds X.K fd ps ds) (hd : Vals dvs ds) (hx : Passes CX X E)
    (ha : PA X (e :: es) t) (hdb : (x == ("__debug__" : Str)) = false := by decide) (he : starEach (e :: es) X.env = (false, eval e X.env) :: starEach es X.env := by rfl) (hpl : (backTo pos (starEach es X.env)).any (·.1) = false := by rfl) :
    PE X (.Call (.Name x p) (e :: es) [] pos) (tCall sp dvs E t) := by
  intro pins s σ H Q I h
  refine wpAny_Call_Name_kw (ld_glob I hg hm ?_ hdb)
  refine PySem.W.callWith_K (h₀ := X.base) I.ok.mod.kin hk (thn (ha pos pins s σ H _ I h) fun us s1 ⟨vs, H1, I1, r, q⟩ => ⟨I1.kIn, ?_⟩) he hpl
  exact run_fn F hr hb hd hx I1 r q
theorem pe_meth {pl : Sem Bool} (he : PE X o ta) (c : Cls X.K C) (hm : Meth X.K C m f) (F : FnOk X.prog X.w X.K X.mg X.base CX k f fd ps sp) (hr : Room k X.A) (hb : Binds X.K fd ps ds) (hd : Vals dvs ds) (hx : Passes CX X E) (ha : PA X (e :: es) t)
    (hst : starEach (e :: es) X.env = (false, eval e X.env) :: starEach es X.env := by rfl) (hpl : (backTo pos (starEach es X.env)).any (·.1) = false := by rfl)
    (ht : eval (.Call (.Attribute o m apos) (e :: es) [] pos) X.env = (do
      let ov ← eval o X.env
      standAt apos.atName
      let (f, first) ← holding [ov] (getMethod ov m pl)
      callWith pos f first (backTo pos (starEach (e :: es) X.env)) (backToKw pos (keywordEach [] X.env))) := by rfl) :
    PE X (.Call (.Attribute o m apos) (e :: es) [] pos) (tMeth C m sp dvs E ta t) := by
  intro pins s σ H Q I h
  refine PySem.W.methodCall_KW (pl := pl) (thn (he pins s σ H _ I h) fun u s1 ⟨x, H1, I1, rx, a, dx, fs, ex, ea, l, q⟩ => ?_) ht
  subst ex
  obtain rfl : u = Value.ref a := rx
  refine getmeth_ok I1 ea c hm l ?_
  refine PySem.W.callWith_K (first := [.ref a]) (h₀ := X.base) I.ok.mod.kin hm.kp (thn (ha pos pins s1 σ H1 _ I1 q) fun us s2 ⟨vs, H2, I2, r, q2⟩ => ⟨I2.kIn, ?_⟩) hst hpl
  exact run_fn (us := .ref a :: us) (vs := .ref a :: vs) F hr hb hd hx I2 (.cons rfl r) q2
theorem pe_meth0 {pl : Sem Bool} (he : PE X o ta) (c : Cls X.K C) (hm : Meth X.K C m f) (F : FnOk X.prog X.w X.K X.mg X.base CX k f fd ps sp) (hr : Room k X.A) (hb : Binds X.K fd ps ds) (hd : Vals dvs ds) (hx : Passes CX X E)
    (ht : eval (.Call (.Attribute o m apos) [] [] pos) X.env = (do
      let ov ← eval o X.env
      standAt apos.atName
      let (f, first) ← holding [ov] (getMethod ov m pl)
      callWith pos f first (backTo pos (starEach [] X.env)) (backToKw pos (keywordEach [] X.env))) := by rfl) :
    PE X (.Call (.Attribute o m apos) [] [] pos) (tMeth C m sp dvs E ta tNil) := by
  intro pins s σ H Q I h
  refine PySem.W.methodCall_KW (pl := pl) (thn (he pins s σ H _ I h) fun u s1 ⟨x, H1, I1, rx, a, dx, fs, ex, ea, l, q⟩ => ?_) ht
  subst ex
  obtain rfl : u = Value.ref a := rx
  refine getmeth_ok I1 ea c hm l ?_
  exact PySem.W.callWith_K0 (first := [.ref a]) I1.kIn hm.kp (run_fn (us := [.ref a]) (vs := [.ref a]) F hr hb hd hx I1 (.cons rfl .nil) q)
structure Mk (K : PySem.W.Frag) (C f : Addr) : Prop where
  makes : PySem.W.makesIn K C = true
  init : PySem.W.findIn K (.ref C) "__init__" = some (some (.ref f))
  fn : PySem.W.isFn K (.ref f) = true
  kp : PySem.W.keepIn K (.ref C) = true
theorem run_make {pins : List (Addr × Obj)} {σ : St} {H : Hp} {s : Shared} {Q : VK} {us : List Value} {vs : List V} (M : Mk X.K C f) (F : FnOk X.prog X.w X.K X.mg X.base CX k f fd ps sp) (hr : Room (k + 1) X.A) (hb : Binds X.K fd ps ds) (hd : Vals dvs ds)
    (hx : Passes CX X E) (I : Inv X pins σ H s) (r : Vals vs us)
    (h : ∀ x dx, H x = none → H dx = none → dx ≠ x → sp (.ref x :: (vs ++ dvs)) (upd (upd H dx (.own x)) x (.ins C dx [])) (fun v H2 => v = .non ∧ Q (.ref x) H2) E) :
    wpAny (model X.prog X.w) X.A (call (.ref C) us) (EP X pins σ Q) X.xe s := by
  have hq := h (s.heap.objs.size + 1) s.heap.objs.size (I.hok.fresh (Nat.le_succ _)) (I.hok.fresh (Nat.le_refl _)) (Nat.ne_of_lt (Nat.lt_succ_self _))
  have I2 := Inv.made (C := C) I
  have r2 : Vals (V.ref (s.heap.objs.size + 1) :: (vs ++ dvs)) (Value.ref (s.heap.objs.size + 1) :: (us ++ ds)) := .cons rfl (r.append hd)
  have hl : (Value.ref (s.heap.objs.size + 1) :: us ++ ds).length = ps.length := by
    have e := r2.length
    rw [F.len _ _ _ _ hq] at e
    exact e.symm
  refine wpAny_call (make_map (f := f) I.kIn M.makes M.init (beq_iff_eq.mp M.fn) (codeAny_mono (F.run _ X.stack _ _ ⟨Value.ref (s.heap.objs.size + 1) :: us, []⟩ (Value.ref (s.heap.objs.size + 1) :: (us ++ ds)) _ _ E (hr.make C us [])
    (I2.env0.make C us []) (hb _ (Value.ref (s.heap.objs.size + 1) :: us) I2.kIn hl) r2 hq) fun r s' hq' => ?_))
  cases r with
  | error e => exact hx pins σ _ _ e s' I2 hq'
  | ok fl =>
    cases fl with
    | ret u =>
      obtain ⟨v, H', I3, rv, ev, q3⟩ := I2.after hq'
      subst ev
      exact ⟨rv, ⟨V.ref (s.heap.objs.size + 1), H', I3, rfl, q3⟩⟩
    | next => exact False.elim hq'
    | brk => exact False.elim hq'
    | cont => exact False.elim hq'
theorem pe_make (M : Mk X.K C f) (F : FnOk X.prog X.w X.K X.mg X.base CX k f fd ps sp) (hr : Room (k + 1) X.A) (hg : Gl X x) (hm : X.mg x = some (.ref C)) (hb : Binds X.K fd ps ds) (hd : Vals dvs ds) (hx : Passes CX X E)
    (ha : PA X (e :: es) t) (hdb : (x == ("__debug__" : Str)) = false := by decide) (he : starEach (e :: es) X.env = (false, eval e X.env) :: starEach es X.env := by rfl) (hpl : (backTo pos (starEach es X.env)).any (·.1) = false := by rfl) :
    PE X (.Call (.Name x p) (e :: es) [] pos) (tMake C sp dvs E t) := by
  intro pins s σ H Q I h
  refine wpAny_Call_Name_kw (ld_glob I hg hm ?_ hdb)
  refine PySem.W.callWith_K (h₀ := X.base) I.ok.mod.kin M.kp (thn (ha pos pins s σ H _ I h) fun us s1 ⟨vs, H1, I1, r, q⟩ => ⟨I1.kIn, ?_⟩) he hpl
  exact run_make M F hr hb hd hx I1 r q
end
section
variable {X : Cx} {CX : CXT} {k : Nat} {f C : Addr} {fd : FuncData} {ps ks : List Str} {sp : Sp} {E : XK} {x m : Str} {p pos apos kpos : Pos} {e o : Expr} {es : List Expr} {kws : List Keyword} {te ta : TE} {t tk : TA} {nm : Option Str}
variable {g : List Value → List Value → List Value} {gV : List V → List V → List V}
end
structure FnScope (N P : List Str) (sc : Scope) : Prop where
  kind : sc.kind = .function
  co : sc.isCoroutine = false
  gen : sc.isGenerator = false
  nd : N.Nodup
  pre : N.take P.length = P
  par : ∀ x ∈ P, sc.names.lookup x = some .local ∨ sc.names.lookup x = some .cell
  nofree : ∀ y ∈ sc.names, y.2 ≠ .free
theorem bindL_out {kindOf : Str → Option NameKind} {x : Str} : ∀ {binds : List (Str × Value)} {m : Str → Option Value}, (∀ v, (x, v) ∉ binds) → bindL kindOf binds m x = m x
  | [], _, _ => rfl
  | (n, v) :: r, m, h => by
    unfold bindL
    rw [bindL_out fun w hw => h w (List.mem_cons_of_mem _ hw)]
    split
    · have : x ≠ n := by rintro rfl; exact h v List.mem_cons_self
      simp [this]
    · rfl
theorem bindC_out {kindOf : Str → Option NameKind} {x : Str} : ∀ {binds : List (Str × Value)} {m : Str → Option Value}, (∀ v, (x, v) ∉ binds) → bindC kindOf binds m x = m x
  | [], _, _ => rfl
  | (n, v) :: r, m, h => by
    unfold bindC
    rw [bindC_out fun w hw => h w (List.mem_cons_of_mem _ hw)]
    split
    · rfl
    · have : x ≠ n := by rintro rfl; exact h v List.mem_cons_self
      simp [this]
theorem bindL_get {kindOf : Str → Option NameKind} {x : Str} {v : Value} : ∀ {P : List Str} {vs : List Value} {i : Nat} {m : Str → Option Value}, P.Nodup → P[i]? = some x → vs[i]? = some v → kindOf x = some .local →
    bindL kindOf (P.zip vs) m x = some v
  | [], _, _, _, _, h, _, _ => by simp at h
  | _ :: _, [], _, _, _, _, h, _ => by simp at h
  | p :: P, w :: vs, 0, m, nd, h1, h2, hk => by
    simp at h1 h2; subst h1; subst h2
    show bindL kindOf ((p, w) :: P.zip vs) m p = _
    unfold bindL
    rw [bindL_out fun v hv => (List.nodup_cons.mp nd).1 (List.of_mem_zip hv).1, if_pos hk]
    simp
  | p :: P, w :: vs, i + 1, m, nd, h1, h2, hk => by
    show bindL kindOf ((p, w) :: P.zip vs) m x = _
    unfold bindL
    exact bindL_get (i := i) (List.nodup_cons.mp nd).2 (by simpa using h1) (by simpa using h2) hk
theorem bindC_get {kindOf : Str → Option NameKind} {x : Str} {v : Value} : ∀ {P : List Str} {vs : List Value} {i : Nat} {m : Str → Option Value}, P.Nodup → P[i]? = some x → vs[i]? = some v → kindOf x ≠ some .local →
    bindC kindOf (P.zip vs) m x = some v
  | [], _, _, _, _, h, _, _ => by simp at h
  | _ :: _, [], _, _, _, _, h, _ => by simp at h
  | p :: P, w :: vs, 0, m, nd, h1, h2, hk => by
    simp at h1 h2; subst h1; subst h2
    show bindC kindOf ((p, w) :: P.zip vs) m p = _
    unfold bindC
    rw [bindC_out fun v hv => (List.nodup_cons.mp nd).1 (List.of_mem_zip hv).1, if_neg hk]
    simp
  | p :: P, w :: vs, i + 1, m, nd, h1, h2, hk => by
    show bindC kindOf ((p, w) :: P.zip vs) m x = _
    unfold bindC
    exact bindC_get (i := i) (List.nodup_cons.mp nd).2 (by simpa using h1) (by simpa using h2) hk
def start (N : List Str) (vs : List V) : St := vs.map some ++ List.replicate (N.length - vs.length) none
def cxOf (CX : CXT) (P : Program) (w : World) (K : PySem.W.Frag) (mg : Str → Option Value) (base : Heap) (N : List Str) (qual : Str) (scope : Scope) (f : Addr) (cd : Value) (A : Around) (outer : List Env) (s : Shared) (H : Hp) (E : XK) : Cx where
  prog := P
  w := w
  K := K
  mg := mg
  base := base
  A := A.deeper (envOfC qual scope s.heap.objs.size f cd)
  N := N
  s₀ := s
  H₀ := H
  env := envOfC qual scope s.heap.objs.size f cd
  outer := outer
  stack := envOfC qual scope s.heap.objs.size f cd :: outer
  ex := []
  calm := true
  fn := fun _ => true
  pn := []
  xe := fun e s' => wpAny (model P w) (A.deeper (envOfC qual scope s.heap.objs.size f cd)) (leaving (envOfC qual scope s.heap.objs.size f cd) e) (fun _ s'' => CX outer H s E e s'') (fun e' s'' => CX outer H s E e' s'') s'
theorem cell_has {sc : Scope} {n : Nat} {x : Str} (h : sc.names.lookup x = some .cell) : ∃ c, (cellsFrom n sc.names []).lookup x = some c := by
  have q := PySem.W.cellsFrom_some sc.names n [] (.inl h)
  exact Option.isSome_iff_exists.mp q
theorem inv_start {CX : CXT} {P : Program} {w : World} {K : PySem.W.Frag} {mg : Str → Option Value} {base : Heap} {N ps : List Str} {qual : Str} {scope : Scope} {f : Addr} {cd : Value} {A : Around} {outer : List Env} {s s1 : Shared} {H : Hp} {E : XK} {us : List Value} {vs : List V}
    (S : FnScope N ps scope) (hd : A.handled = none) (e0 : Env0 P w K mg base A outer s H) (hl : vs.length = ps.length) (r : Vals vs us)
    (x : InCallC s s.heap.objs.size (bindL (envOfC qual scope s.heap.objs.size f cd).kindOf (ps.zip us) fun _ => none) (cellsFrom (s.heap.objs.size + 1) scope.names []) (bindC (envOfC qual scope s.heap.objs.size f cd).kindOf (ps.zip us) fun _ => none) s1) :
    Inv (cxOf CX P w K mg base N qual scope f cd A outer s H E) [] (start N vs) H s1 := by
  have hpl : ps.length ≤ N.length := by have := congrArg List.length S.pre; rw [List.length_take] at this; omega
  obtain ⟨h1, tk, rfl, hk⟩ := x.done
  have noA : ∀ b : Addr, b ∉ (cxOf CX P w K mg base N qual scope f cd A outer s H E).ex := fun b z => absurd (show b ∈ ([] : List Addr) from z) (by simp)
  refine ⟨⟨e0.mod, S.kind, rfl, rfl, Nat.le_refl _, fun y z c h1 h2 => ?_, fun y hy => ?_, fun y c _ h => ?_, fun _ => hd, Around.frames_deeper e0.frames, .inr ⟨rfl, rfl⟩, fun b z => absurd z (noA b), e0.bs, e0.bsz, fun b _ _ => noA b, fun b z => absurd z (noA b), e0.funs, e0.frf⟩,
    rfl, e0.bare, Un.kept hk, ⟨_, x.toInCall.ns, fun i y v h1 h2 h3 => ?_⟩, fun y c h => ⟨_, x.cell y c h⟩, e0.hok.fresh (Nat.le_refl _), fun y c h => ?_, fun p hp => absurd (show p ∈ ([] : List (Addr × Obj)) from hp) (by simp), e0.hok.kept hk, ?_⟩
  · exact name_of_addr x.apart (PySem.mem_of_lookup h1) (PySem.mem_of_lookup h2)
  · have hy : scope.names.lookup y = some .cell ∨ scope.names.lookup y = some .free := hy
    rcases hy with hy | hy
    · exact cell_has hy
    · exact absurd rfl (S.nofree _ (PySem.mem_of_lookup hy))
  · exact Nat.le_of_lt (x.above y c (PySem.mem_of_lookup h))
  · have hi : i < vs.length := by
      unfold start at h2
      by_cases hi : i < vs.length
      · exact hi
      · rw [List.getElem?_append_right (by simpa using hi)] at h2
        rw [List.getElem?_replicate] at h2
        split at h2 <;> cases h2
    have ha : vs[i]? = some v := by
      unfold start at h2
      rw [List.getElem?_append_left (by simpa using hi), List.getElem?_map] at h2
      cases e : vs[i]? with
      | none => rw [e] at h2; cases h2
      | some a => rw [e] at h2; cases h2; rfl
    obtain ⟨u, hu, rv⟩ := r.get ha
    have hp : ps[i]? = some y := by
      rw [← S.pre, List.getElem?_take_of_lt (by omega)]; exact h1
    have ndP : ps.Nodup := by rw [← S.pre]; exact S.nd.sublist (List.take_sublist _ _)
    refine ⟨u, rv, ?_⟩
    rcases S.par y (List.mem_of_getElem? hp) with k | k
    · exact .inl ⟨k, bindL_get ndP hp hu k⟩
    · obtain ⟨c, e⟩ := cell_has (n := s.heap.objs.size + 1) k
      refine .inr ⟨.inl k, c, e, ?_⟩
      have q := x.cell y c e
      rw [bindC_get ndP hp hu (by show scope.names.lookup y ≠ _; rw [k]; decide)] at q
      exact q
  · exact e0.hok.fresh (Nat.le_of_lt (x.above y c (PySem.mem_of_lookup h)))
  · unfold start
    show _ = N.length
    rw [List.length_append, List.length_map, List.length_replicate]
    omega
theorem fn_of {CX : CXT} {P : Program} {w : World} {K : PySem.W.Frag} {mg : Str → Option Value} {base : Heap} {k : Nat} {f : Addr} {name qual : Str} {params : Arguments} {body : List Stmt} {scope : Scope} {dV kV doc pm cdv ct oc : Value} {an od : Option Addr}
    {osl : Array (Option Value)} {N ps : List Str} {sp : Sp} (lk : K.lookup f = some ⟨oc, od, .func (PySem.W.fnOf name qual params body scope dV kV doc pm an cdv ct), osl⟩) (hcd : PySem.W.codeIn K cdv qual = true) (S : FnScope N ps scope)
    (len : ∀ vs H Q E, sp vs H Q E → vs.length = ps.length)
    (hbody : ∀ (A : Around) (outer : List Env) (s : Shared) (H : Hp) (vs : List V) (Q : VK) (E : XK), Room k (A.deeper (envOfC qual scope s.heap.objs.size f cdv)) → sp vs H Q E →
      ∃ t, PSs (cxOf CX P w K mg base N qual scope f cdv A outer s H E) body t ∧ t { nx := fun _ H' => Q .non H', rt := Q } (start N vs) H) :
    FnOk P w K mg base CX (k + 1) f (PySem.W.fnOf name qual params body scope dV kV doc pm an cdv ct) ps sp := by
  refine ⟨len, fun A outer s H args us vs Q E hr e0 hb r hsp => ?_⟩
  have hl := len _ _ _ _ hsp
  have KX : K.In s.heap := e0.mod.kin.keeps fun b o e => (e0.bs b o e).1
  have lim : s.heap.NoLimit := e0.mod.nolimit.keeps fun b o e => (e0.bs b o e).1
  have hkind : ∀ y ∈ ps.zip us, scope.names.lookup y.1 = some .local ∨ (scope.names.lookup y.1 = some .cell ∧ ((cellsFrom (s.heap.objs.size + 1) scope.names []).lookup y.1).isSome = true) := fun ⟨n, v⟩ hy => by
    rcases S.par n (List.of_mem_zip hy).1 with q | q
    · exact .inl q
    · exact .inr ⟨q, PySem.W.cellsFrom_some _ _ _ (.inl q)⟩
  refine codeAny_call_function hr.depth (KX _ _ lk) rfl S.co S.gen rfl (PySem.W.codeRec_of KX hcd) (hb _ _ _ _ ?_)
  refine wpAny_newFunctionEnv_cells S.kind hkind fun env he s1 x => ?_
  subst he
  refine ⟨lim.keeps x.toInCall.keep, codeAny_func ?_⟩
  obtain ⟨t, ht, hq⟩ := hbody A outer s H vs Q E (hr.deeper _) hsp
  have I : Inv (cxOf CX P w K mg base N qual scope f cdv A outer s H E) [] (start N vs) H s1 := inv_start S hr.hd e0 hl r x
  refine wpAny_mono (ht [] s1 (start N vs) H _ I hq) (fun fl s' hs => ?_) fun e s' hs => hs
  have fin : ∀ {σ' : St} {H' : Hp} {v : V} {u : Value}, Inv (cxOf CX P w K mg base N qual scope f cdv A outer s H E) [] σ' H' s' → RelV v u → Q v H' → CE outer P w H s Q u s' :=
    fun {σ' H' v u} J rv q => ⟨v, H', J.os, J.bare, J.base, J.hok, rv, q⟩
  cases fl with
  | ret u =>
    obtain ⟨v, σ', H', J, rv, q⟩ := hs
    exact fin J rv q
  | next =>
    obtain ⟨σ', H', J, q⟩ := hs
    exact fin (v := V.non) (u := Value.none) J rfl q
  | brk =>
    obtain ⟨_, _, _, q⟩ := hs
    exact False.elim q
  | cont =>
    obtain ⟨_, _, _, q⟩ := hs
    exact False.elim q
end L2
namespace L2
open PySem PySem.Spec PyProof.Rows
section
variable {X : Cx} {x : Str} {p pos : Pos} {e : Expr} {es : List Expr} {t : TA} {id T : String} {r : List V → Hp → VK → Prop}
def tCB (r : List V → Hp → VK → Prop) (t : TA) : TE := fun σ H Q => t σ H fun vs H1 => r vs H1 Q
theorem pe_callB (hc : CallR X (.builtin id) r) (hg : Gl X x) (hm : X.mg x = none) (hv : bootBuiltins x = some (.builtin id)) (ha : PA X (e :: es) t) (hn : x ≠ "__name__" := by decide) (hdb : (x == ("__debug__" : Str)) = false := by decide)
    (he : starEach (e :: es) X.env = (false, eval e X.env) :: starEach es X.env := by rfl) (hpl : (backTo pos (starEach es X.env)).any (·.1) = false := by rfl) : PE X (.Call (.Name x p) (e :: es) [] pos) (tCB r t) := by
  intro pins s σ H Q I h
  refine wpAny_Call_Name_kw (ld_blt I hg hm hv ?_ hn hdb)
  exact PyProof.Rows.callWith_builtin1 (thn (ha pos pins s σ H _ I h) fun us s1 ⟨vs, H1, I1, r1, q1⟩ => hc pins s1 σ H1 vs us Q I1 r1 q1) he hpl
theorem pe_callTy (hc : CallR X (.type T) r) (hg : Gl X x) (hm : X.mg x = none) (hv : bootBuiltins x = some (.type T)) (ha : PA X (e :: es) t) (hn : x ≠ "__name__" := by decide) (hdb : (x == ("__debug__" : Str)) = false := by decide)
    (he : starEach (e :: es) X.env = (false, eval e X.env) :: starEach es X.env := by rfl) (hpl : (backTo pos (starEach es X.env)).any (·.1) = false := by rfl) : PE X (.Call (.Name x p) (e :: es) [] pos) (tCB r t) := by
  intro pins s σ H Q I h
  refine wpAny_Call_Name_kw (ld_blt I hg hm hv ?_ hn hdb)
  exact PyProof.Rows.callWith_type1 (thn (ha pos pins s σ H _ I h) fun us s1 ⟨vs, H1, I1, r1, q1⟩ => hc pins s1 σ H1 vs us Q I1 r1 q1) he hpl
end
end L2
namespace HT
open PySem PyProof.Rows
section
open PySem.SeqAt
open PySem.AutoSeq1 (wpAny_loadPart')
open PySem.MeetsSeq PySem.MeetsSeq2 PySem.MeetsSeq3
end
section
variable {prog : Program} {w : World} {A : Around} {E : Value → Shared → Prop} {s : Shared}
def sIx (n d : Nat) : Option Int → Nat
  | none => d
  | some v => if v < 0 then (v + (n : Int)).toNat else min v.toNat n
theorem sIx_none (n d : Nat) : sIx n d none = d := rfl
theorem sIx_nat (n d k : Nat) : sIx n d (some (k : Int)) = min k n := by
  show (if (k : Int) < 0 then ((k : Int) + (n : Int)).toNat else min (k : Int).toNat n) = min k n
  rw [if_neg (by omega), Int.toNat_natCast]
theorem sIx_le (n d : Nat) (hd : d ≤ n) (o : Option Int) : sIx n d o ≤ n := by
  cases o with
  | none => exact hd
  | some v =>
    show (if v < 0 then (v + (n : Int)).toNat else min v.toNat n) ≤ n
    by_cases hv : v < 0
    · rw [if_pos hv]; omega
    · rw [if_neg hv]; exact Nat.min_le_right _ _
end
end HT
namespace L2
open PySem PySem.Spec PyProof.Rows
abbrev TO := St → Hp → (Option Int → Hp → Prop) → Prop
def PO (X : Cx) (e : Option Expr) (t : TO) : Prop :=
  ∀ (pins : List (Addr × Obj)) (s : Shared) (σ : St) (H : Hp) (Q : Option Int → Hp → Prop), Inv X pins σ H s → t σ H Q →
    wpAny (model X.prog X.w) X.A (evalPart e X.env) (fun u s' => ∃ o H', Inv X pins σ H' s' ∧ IsPart u o ∧ Q o H') X.xe s
def tNoPart : TO := fun _ H Q => Q none H
def tPart (t : TE) : TO := fun σ H Q => t σ H fun x H1 => ∃ i, x = .int i ∧ Q (some i) H1
section
variable {X : Cx} {e : Expr} {te : TE} {lo hi : Option Expr} {tl th : TO} {pos p2 : Pos}
theorem po_none : PO X none tNoPart := by
  intro pins s σ H Q I h
  rw [evalPart_none]
  exact wpAny_pure ⟨none, H, I, .none, h⟩
theorem po_some (h : PE X e te) : PO X (some e) (tPart te) := by
  intro pins s σ H Q I hw
  rw [evalPart_some]
  refine thn (h pins s σ H _ I hw) fun u s1 ⟨x, H1, I1, r1, q1⟩ => ?_
  obtain ⟨i, rfl, q⟩ := q1
  obtain ⟨t, rfl⟩ := r1
  exact ⟨some i, H1, I1, .int i t, q⟩
def SlR (X : Cx) (r : V → Option Int → Option Int → Hp → VK → Prop) : Prop :=
  ∀ (pins : List (Addr × Obj)) (s : Shared) (σ : St) (H : Hp) (x : V) (v vl vu : Value) (lo hi : Option Int) (sl : Addr) (Q : VK), Inv X pins σ H s → RelV x v → s.heap.IsSliceOf sl vl vu .none → IsPart vl lo → IsPart vu hi → r x lo hi H Q →
    ∃ T id, typeLookup (.type T) "__getitem__" = pure (some (.builtin id)) ∧ s.TypeIs v T ∧ wpAny (model X.prog X.w) X.A (getItem v (.ref sl)) (EP X pins σ Q) X.xe s
theorem SlR.or {r r' : V → Option Int → Option Int → Hp → VK → Prop} (h : SlR X r) (h' : SlR X r') : SlR X (fun x lo hi H Q => r x lo hi H Q ∨ r' x lo hi H Q) := by
  intro pins s σ H x v vl vu lo hi sl Q I rx hs pl pu q
  rcases q with q | q
  · exact h pins s σ H x v vl vu lo hi sl Q I rx hs pl pu q
  · exact h' pins s σ H x v vl vu lo hi sl Q I rx hs pl pu q
def tSl (r : V → Option Int → Option Int → Hp → VK → Prop) (te : TE) (tl th : TO) : TE := fun σ H Q => te σ H fun x H1 => tl σ H1 fun l H2 => th σ H2 fun u H3 => r x l u H3 Q
theorem pe_slice {r : V → Option Int → Option Int → Hp → VK → Prop} (hr : SlR X r) (he : PE X e te) (hl : PO X lo tl) (hu : PO X hi th) : PE X (.Subscript e (.Slice lo hi none p2) pos) (tSl r te tl th) := by
  intro pins s σ H Q I h
  refine Subscript_ (thn (he pins s σ H _ I h) fun v s1 ⟨x, H1, I1, r1, q1⟩ => ?_)
  refine wpAny_Slice (thn (hl pins s1 σ H1 _ I1 q1) fun vl s2 ⟨l, H2, I2, pl, q2⟩ => thn (hu pins s2 σ H2 _ I2 q2) fun vu s3 ⟨u, H3, I3, pu, q3⟩ => ?_)
  rw [evalPart_none]
  refine wpAny_pure ?_
  have I4 : Inv X pins σ H3 { s3 with heap := s3.heap.push { cls := .type "slice", data := .fields #[vl, vu, .none] } } := I3.kept (t' := s3.toks) fun b ob q => Heap.get?_push_of_some _ q
  obtain ⟨T, id, hT, ht, hg⟩ := hr pins { s3 with heap := s3.heap.push { cls := .type "slice", data := .fields #[vl, vu, .none] } } σ H3 x v vl vu l u s3.heap.objs.size Q I4 r1 (Heap.IsSliceOf.new ..) pl pu q3
  show wpAny (model X.prog X.w) X.A (subscriptTail e (.Slice lo hi none p2) v (.ref s3.heap.objs.size)) (EP X pins σ Q) X.xe { s3 with heap := s3.heap.push { cls := .type "slice", data := .fields #[vl, vu, .none] } }
  exact tail_any (ops := [.ref s3.heap.objs.size, v]) ht hT hg (by with_unfolding_all rfl)
def cutV (xs : List V) (lo hi : Option Int) : List V := (xs.drop (HT.sIx xs.length 0 lo)).take (HT.sIx xs.length xs.length hi - HT.sIx xs.length 0 lo)
theorem cutV_length (xs : List V) (lo hi : Option Int) : (cutV xs lo hi).length ≤ xs.length := by
  unfold cutV
  rw [List.length_take, List.length_drop]
  omega
end
end L2
namespace L2
open PySem PySem.Spec PyProof.Rows
def ixN (n : Nat) (i : Int) : Option Nat := if 0 ≤ i then (if i < n then some i.toNat else none) else if -(n : Int) ≤ i then some (i + n).toNat else none
def atI {α : Type} (xs : List α) (i : Int) : Option α := (ixN xs.length i).bind fun j => xs[j]?
theorem ixN_seq {n : Nat} {i : Int} {j : Nat} (h : ixN n i = some j) : seqIndex? i n = some j ∧ j < n ∧ -(n : Int) ≤ i ∧ i < n := by
  unfold ixN at h
  by_cases h0 : 0 ≤ i
  · rw [if_pos h0] at h
    by_cases h1 : i < n
    · rw [if_pos h1] at h
      have e : i.toNat = j := Option.some.inj h
      exact ⟨by rw [seqIndex_of h0 h1, e], by omega, by omega, h1⟩
    · rw [if_neg h1] at h; cases h
  · rw [if_neg h0] at h
    by_cases h1 : -(n : Int) ≤ i
    · rw [if_pos h1] at h
      have e : (i + n).toNat = j := Option.some.inj h
      exact ⟨by rw [seqIndex_neg (by omega) h1, e], by omega, h1, by omega⟩
    · rw [if_neg h1] at h; cases h
theorem atI_get {α : Type} {xs : List α} {i : Int} {v : α} (h : atI xs i = some v) : ∃ j, seqIndex? i xs.length = some j ∧ xs[j]? = some v ∧ j < xs.length ∧ -(xs.length : Int) ≤ i ∧ i < xs.length := by
  unfold atI at h
  cases e : ixN xs.length i with
  | none => rw [e] at h; cases h
  | some j =>
    rw [e] at h
    obtain ⟨h1, h2, h3, h4⟩ := ixN_seq e
    exact ⟨j, h1, h, h2, h3, h4⟩
theorem atI_nat {α : Type} {xs : List α} {j : Nat} {v : α} (h : xs[j]? = some v) : atI xs (j : Int) = some v := by
  have hj : j < xs.length := (List.getElem?_eq_some_iff.mp h).1
  have e : ixN xs.length (j : Int) = some j := by
    unfold ixN
    rw [if_pos (by omega), if_pos (by omega)]; simp
  unfold atI; rw [e]; exact h
theorem atI_last {α : Type} (xs : List α) (v : α) : atI (xs ++ [v]) (-1) = some v := by
  have hl : (xs ++ [v]).length = xs.length + 1 := by simp
  have e : ixN (xs ++ [v]).length (-1) = some xs.length := by
    unfold ixN
    rw [hl, if_neg (by decide), if_pos (by omega)]
    congr 1
    omega
  unfold atI
  rw [e]
  show (xs ++ [v])[xs.length]? = some v
  simp
def PlainIx (b : Expr) : Prop := ∀ o i, subscripted b false o i = operate [o, i] (getItem o i)
def IxR (X : Cx) (r : R2) : Prop :=
  ∀ (value slice : Expr) (pins : List (Addr × Obj)) (s : Shared) (σ : St) (H : Hp) (x y : V) (v u : Value) (Q : VK), Inv X pins σ H s → RelV x v → RelV y u → r x y H Q →
    subscripted slice false v u = operate [v, u] (getItem v u) → wpAny (model X.prog X.w) X.A (subscriptTail value slice v u) (EP X pins σ Q) X.xe s
def MtR (X : Cx) (id : String) (r : V → List V → Hp → VK → Prop) : Prop :=
  ∀ (pins : List (Addr × Obj)) (s : Shared) (σ : St) (H : Hp) (x : V) (xs : List V) (v : Value) (us : List Value) (Q : VK), Inv X pins σ H s → RelV x v → Vals xs us → r x xs H Q →
    wpAny (model X.prog X.w) X.A (call (.builtin id) (v :: us)) (EP X pins σ Q) X.xe s
section
variable {X : Cx} {a b : Expr} {ta tb : TE} {pos : Pos}
theorem IxR.or {r r' : R2} (h : IxR X r) (h' : IxR X r') : IxR X (fun x y H Q => r x y H Q ∨ r' x y H Q) := by
  intro value slice pins s σ H x y v u Q I rx ry q hs
  rcases q with q | q
  · exact h value slice pins s σ H x y v u Q I rx ry q hs
  · exact h' value slice pins s σ H x y v u Q I rx ry q hs
theorem pe_ix {r : R2} (hr : IxR X r) (ha : PE X a ta) (hb : PE X b tb) (hs : PlainIx b) : PE X (.Subscript a b pos) (tOp r ta tb) := by
  intro pins s σ H Q I h
  exact Subscript_ (binT ha hb I h fun v u s2 x y H2 I2 rx ry q => hr a b pins s2 σ H2 x y v u Q I2 rx ry q (hs _ _))
def rIxL (K : PySem.W.Frag) : R2 := fun x y H Q => ∃ p xs i v, x = .ref p ∧ y = .int i ∧ SqL K H p xs ∧ atI xs i = some v ∧ Q v H
def rIxT (K : PySem.W.Frag) : R2 := fun x y H Q => ∃ p xs i v, x = .ref p ∧ y = .int i ∧ SqT K H p xs ∧ atI xs i = some v ∧ Q v H
def rIxS : R2 := fun x y H Q => ∃ z i c, x = .str z ∧ y = .int i ∧ z.length ≤ sizeLine ∧ atI z.cps.toList i = some c ∧ Q (.str ⟨#[c]⟩) H
theorem ix_list : IxR X (rIxL X.K) := by
  intro value slice pins s σ H x y v u Q I rx ry h hs
  obtain ⟨p, xs, i, z, rfl, rfl, hq, he, q⟩ := h
  cases rx
  obtain ⟨t, rfl⟩ := ry
  obtain ⟨its, r, pl, hz⟩ := I.list hq
  obtain ⟨j, h1, h2, h3, h4, h5⟩ := atI_get he
  obtain ⟨w, ew, rw'⟩ := r.get h2
  have hl := r.length
  have hn := line63
  have fin : EP X pins σ Q w s := ⟨z, H, I, rw', q⟩
  by_cases h0 : 0 ≤ i
  · have hj : i.toNat = j := by
      rw [seqIndex_of h0 h5] at h1
      exact Option.some.inj h1
    exact item_listR pl.isList h0 (by omega) (by rw [hj]; simpa using ew) fin hs
  · have hj : (i + (its.toArray.size : Int)).toNat = j := by
      rw [seqIndex_neg (by omega) h4] at h1
      rw [List.size_toArray, ← hl]
      exact Option.some.inj h1
    exact subscriptTail_builtinR (x := w) pl.isList.typeIs slot_list_getitem.lookup
      (wpAny_getItem_list_neg (Q := fun r s' => r = w ∧ EP X pins σ Q r s') pl.isList (by omega) (by rw [List.size_toArray] <;> omega) (by omega) (by rw [hj]; simpa using ew) ⟨rfl, fin⟩) hs
theorem ix_tup : IxR X (rIxT X.K) := by
  intro value slice pins s σ H x y v u Q I rx ry h hs
  obtain ⟨p, xs, i, z, rfl, rfl, hq, he, q⟩ := h
  cases rx
  obtain ⟨t, rfl⟩ := ry
  obtain ⟨its, r, pl, hz⟩ := I.tuple hq
  obtain ⟨j, h1, h2, h3, h4, h5⟩ := atI_get he
  obtain ⟨w, ew, rw'⟩ := r.get h2
  have hl := r.length
  have hn := line63
  have fin : EP X pins σ Q w s := ⟨z, H, I, rw', q⟩
  exact subscriptTail_builtinR (x := w) pl.typeIs slot_tuple_getitem.lookup
    (getItem_tuple (j := j) (Q := fun r s' => r = w ∧ EP X pins σ Q r s') pl (by omega) (by omega) (by rw [List.size_toArray, ← hl]; exact h1) (by simpa using ew) ⟨rfl, fin⟩) hs
theorem ix_str : IxR X rIxS := by
  intro value slice pins s σ H x y v u Q I rx ry h hs
  obtain ⟨z, i, c, rfl, rfl, hz, he, q⟩ := h
  obtain ⟨t, rfl⟩ := rx
  obtain ⟨t', rfl⟩ := ry
  obtain ⟨j, h1, h2, h3, h4, h5⟩ := atI_get he
  have hl : z.cps.toList.length = z.length := by simp [Str.length]
  rw [hl] at h1 h4 h5
  have hn := line63
  exact tail_any (typeIs_str s z t) slot_str_getitem.lookup (getItem_str (c := c) (by
    have e1 : decide (i < -(2 ^ 63 : Int)) = false := decide_eq_false (by omega)
    have e2 : decide (i ≥ 2 ^ 63) = false := decide_eq_false (by omega)
    rw [e1, e2, Bool.or_false]) (by rw [h1]; simpa using h2) ⟨.str ⟨#[c]⟩, H, I.tok _, ⟨_, rfl⟩, q⟩) hs
def rIx (K : PySem.W.Frag) : R2 := fun x y H Q => rIxL K x y H Q ∨ rIxT K x y H Q ∨ rIxS x y H Q
theorem ix_seq : IxR X (rIx X.K) := ix_list.or (ix_tup.or ix_str)
theorem Inv.lst {pins : List (Addr × Obj)} {σ : St} {H : Hp} {s : Shared} {p : Addr} {xs : List V} (I : Inv X pins σ H s) (h : H p = some (.lst xs)) :
    ∃ (its : List Value) (n : Nat), Vals xs its ∧ s.heap.get? p = some { cls := .type "list", data := .seq its.toArray n } ∧ xs.length ≤ sizeLine := by
  obtain ⟨z, its, n, r, e⟩ := I.hok p _ h
  exact ⟨its, n, r, e, z⟩
theorem slice_bounds (lo hi : Option Int) (n : Nat) : (sliceBounds lo hi none n).1 = ((HT.sIx n 0 lo : Nat) : Int) ∧ (sliceBounds lo hi none n).2.1 = ((HT.sIx n n hi : Nat) : Int) ∧ (sliceBounds lo hi none n).2.2 = 1 := by
  refine ⟨?_, ?_, rfl⟩
  · cases lo with
    | none => simp [sliceBounds, HT.sIx]
    | some i =>
      simp only [sliceBounds, HT.sIx, Option.getD_none, show (1 : Int) > 0 by decide, if_true]
      by_cases h : i < 0
      · simp only [h, if_true] <;> omega
      · simp only [h, if_false] <;> omega
  · cases hi with
    | none => simp [sliceBounds, HT.sIx]
    | some i =>
      simp only [sliceBounds, HT.sIx, Option.getD_none, show (1 : Int) > 0 by decide, if_true]
      by_cases h : i < 0
      · simp only [h, if_true] <;> omega
      · simp only [h, if_false] <;> omega
theorem slicePick_cut (its : List Value) (lo hi : Option Int) : slicePick its.toArray lo hi none = ((its.drop (HT.sIx its.length 0 lo)).take (HT.sIx its.length its.length hi - HT.sIx its.length 0 lo)).toArray := by
  obtain ⟨h1, h2, h3⟩ := slice_bounds lo hi its.toArray.size
  unfold slicePick
  rw [h1, h2, h3]
  simp only [sliceRange_one, pick_run, List.size_toArray] <;> rfl
def rSlL (K : PySem.W.Frag) : V → Option Int → Option Int → Hp → VK → Prop := fun x lo hi H Q => ∃ a xs, x = .ref a ∧ SqL K H a xs ∧ ∀ p, H p = none → Q (.ref p) (upd H p (.lst (cutV xs lo hi)))
theorem sl_list : SlR X (rSlL X.K) := by
  intro pins s σ H x v vl vu lo hi sl Q I rx hs pl pu h
  obtain ⟨a, xs, rfl, hx, q⟩ := h
  cases rx
  obtain ⟨its, r, ht, hz⟩ := I.list hx
  have hlen := r.length
  refine ⟨"list", _, slot_list_getitem.lookup, ht.isList.typeIs, ?_⟩
  refine wpAny_getItem_list_slice ht.isList hs pl pu .none (by simp) ?_ (by rw [List.size_toArray] <;> omega)
  rw [slicePick_cut, ← hlen]
  refine ⟨.ref s.heap.objs.size, _, I.laid (t' := s.toks) (o := .lst (cutV xs lo hi)) (fun b ob q => Heap.get?_push_of_some _ q) (Nat.le_refl _) ?_, rfl, q _ (I.hok.fresh (Nat.le_refl _))⟩
  exact ⟨Nat.le_trans (cutV_length xs lo hi) hz, _, 0, (r.drop (HT.sIx xs.length 0 lo)).take (HT.sIx xs.length xs.length hi - HT.sIx xs.length 0 lo), Heap.get?_push_size _ rfl⟩
def flatV : V → Bool
  | .non => true
  | .bl _ => true
  | .int _ => true
  | .str _ => true
  | _ => false
def eqV : V → V → Bool
  | .non, .non => true
  | .bl a, .bl b => a == b
  | .bl a, .int b => (if a then 1 else 0) == b
  | .int a, .bl b => a == (if b then 1 else 0)
  | .int a, .int b => a == b
  | .str a, .str b => a == b
  | _, _ => false
theorem eqAt_V {A : Around} {s : Shared} {y x : V} {u v : Value} (ry : RelV y u) (rx : RelV x v) (fy : flatV y = true) (fx : flatV x = true) : SeqAt.EqAt A s u v (eqV y x) := by
  cases y with
  | non =>
    cases ry
    cases x with
    | non => cases rx; exact SeqAt.EqAt.same _
    | bl b => cases rx; exact SeqAt.EqAt.none_bool b
    | int b => obtain ⟨t, rfl⟩ := rx; exact SeqAt.EqAt.none_int b t
    | str b => obtain ⟨t, rfl⟩ := rx; exact SeqAt.EqAt.none_str b t
    | _ => exact absurd (show false = true from fx) Bool.false_ne_true
  | bl a =>
    cases ry
    cases x with
    | non => cases rx; exact SeqAt.EqAt.bool_none a
    | bl b => cases rx; exact SeqAt.EqAt.bool_bool a b
    | int b => obtain ⟨t, rfl⟩ := rx; exact SeqAt.EqAt.bool_int a b t
    | str b => obtain ⟨t, rfl⟩ := rx; exact SeqAt.EqAt.bool_str a b t
    | _ => exact absurd (show false = true from fx) Bool.false_ne_true
  | int a =>
    obtain ⟨t', rfl⟩ := ry
    cases x with
    | non => cases rx; exact SeqAt.EqAt.int_none a t'
    | bl b => cases rx; exact SeqAt.EqAt.int_bool a t' b
    | int b => obtain ⟨t, rfl⟩ := rx; exact SeqAt.EqAt.int_int a t' b t
    | str b => obtain ⟨t, rfl⟩ := rx; exact SeqAt.EqAt.int_str a t' b t
    | _ => exact absurd (show false = true from fx) Bool.false_ne_true
  | str a =>
    obtain ⟨t', rfl⟩ := ry
    cases x with
    | non => cases rx; exact SeqAt.EqAt.str_none a t'
    | bl b => cases rx; exact SeqAt.EqAt.str_bool a t' b
    | int b => obtain ⟨t, rfl⟩ := rx; exact SeqAt.EqAt.str_int a t' b t
    | str b => obtain ⟨t, rfl⟩ := rx; exact SeqAt.EqAt.str_str a t' b t
    | _ => exact absurd (show false = true from fx) Bool.false_ne_true
  | _ => exact absurd (show false = true from fy) Bool.false_ne_true
theorem call_list_of : CallR X (.type "list") (fun xs H Q => ∃ p ys, xs = [.ref p] ∧ (SqL X.K H p ys ∨ SqT X.K H p ys) ∧ ∀ l, H l = none → Q (.ref l) (upd H l (.lst ys))) := by
  intro pins s σ H xs us Q I r h
  obtain ⟨p, ys, rfl, hq, q⟩ := h
  obtain ⟨u, rfl, rx⟩ := vals1 r
  cases rx
  have fin : ∀ (its : List Value), Vals ys its → ys.length ≤ sizeLine → ∀ (h' : Heap) (c' : Nat), (∀ b o', s.heap.get? b = some o' → h'.get? b = some o') →
      h'.get? s.heap.objs.size = some { cls := .type "list", dict := none, data := .seq its.toArray c', slots := #[] } → EP X pins σ Q (.ref s.heap.objs.size) { s with heap := h' } := fun its r' hz h' c' kp e =>
    ⟨.ref s.heap.objs.size, _, I.laid (t' := s.toks) kp (Nat.le_refl _) (show ObjOk X.prog X.w _ h' _ (.lst ys) from ⟨hz, its, c', r', e⟩), rfl, q _ (I.hok.fresh (Nat.le_refl _))⟩
  rcases hq with hq | hq
  · obtain ⟨its, r', pl, hz⟩ := I.list hq
    have hlen := r'.length
    obtain ⟨o, ho, hc, n, hd⟩ := pl.isList
    exact call_list_seq p (.inl rfl) ho hc hd (fun h' c' kp e => fin its r' hz h' c' kp e) (by simp only [List.size_toArray] <;> omega)
  · obtain ⟨its, r', pl, hz⟩ := I.tuple hq
    have hlen := r'.length
    obtain ⟨o, ho, hc, n, hd⟩ := pl
    exact call_list_seq p (.inr rfl) ho hc hd (fun h' c' kp e => fin its r' hz h' c' kp e) (by simp only [List.size_toArray] <;> omega)
def tyV (K : PySem.W.Frag) (T : String) (x : V) (H : Hp) : Prop := match x with
  | .str _ => T = "str"
  | .int _ => T = "int"
  | .ref p => (T = "list" ∧ ∃ xs, SqL K H p xs) ∨ (T = "tuple" ∧ ∃ o, K.lookup p = some o ∧ o.cls = .type "tuple" ∧ o.dict = none) ∨
      (T = "dict" ∧ ((∃ kvs, H p = some (.dK kvs)) ∨ ∃ kvs, H p = some (.dT kvs))) ∨ (T = "set" ∧ ∃ S n, H p = some (.set S n))
  | _ => False
theorem tyV_is {pins : List (Addr × Obj)} {σ : St} {H : Hp} {s : Shared} {T : String} {x : V} {v : Value} (I : Inv X pins σ H s) (r : RelV x v) (ty : tyV X.K T x H) :
    s.TypeIs v T ∧ ∀ a, v = .ref a → ∃ ob, s.heap.get? a = some ob ∧ ob.dict = none := by
  cases x with
  | str z =>
    obtain ⟨t, rfl⟩ := r
    cases (show T = "str" from ty)
    exact ⟨typeIs_str s z t, fun _ e => nomatch e⟩
  | int i =>
    obtain ⟨t, rfl⟩ := r
    cases (show T = "int" from ty)
    exact ⟨typeIs_int s i t, fun _ e => nomatch e⟩
  | ref p =>
    cases r
    rcases ty with ⟨rfl, xs, hq⟩ | ⟨rfl, o, hk, hc, hd⟩ | ⟨rfl, hk⟩ | ⟨rfl, S, n, hk⟩
    · obtain ⟨its, _, pl, _⟩ := I.list hq
      refine ⟨pl.isList.typeIs, fun a e => ?_⟩
      cases e
      obtain ⟨o, n, e, c, hd, _⟩ := pl
      exact ⟨o, e, hd⟩
    · refine ⟨⟨o, I.kIn p o hk, hc⟩, fun a e => ?_⟩
      cases e
      exact ⟨o, I.kIn _ o hk, hd⟩
    · have z : ∃ o, s.heap.get? p = some o ∧ o.ExactDict := by
        rcases hk with ⟨kvs, hk⟩ | ⟨kvs, hk⟩
        · obtain ⟨_, _, _, _, o, _, _, e, ex, _⟩ := I.hok p _ hk
          exact ⟨o, e, ex⟩
        · obtain ⟨_, _, _, _, o, _, _, e, ex, _⟩ := I.hok p _ hk
          exact ⟨o, e, ex⟩
      obtain ⟨o, e, ex⟩ := z
      refine ⟨⟨o, e, ex.1⟩, fun a e2 => ?_⟩
      cases e2
      exact ⟨o, e, ex.2.1⟩
    · obtain ⟨o, _, _, _, e, ex, _⟩ := I.hok p _ hk
      refine ⟨⟨o, e, ex.1⟩, fun a e2 => ?_⟩
      cases e2
      exact ⟨o, e, ex.2.1⟩
  | _ => exact False.elim ty
def tBM0 (K : PySem.W.Frag) (T : String) (r : V → List V → Hp → VK → Prop) (to : TE) : TE := fun σ H Q => to σ H fun x H1 => tyV K T x H1 ∧ r x [] H1 Q
def tBM (K : PySem.W.Frag) (T : String) (r : V → List V → Hp → VK → Prop) (to : TE) (t : TA) : TE := fun σ H Q => to σ H fun x H1 => tyV K T x H1 ∧ t σ H1 fun xs H2 => r x xs H2 Q
variable {o e : Expr} {es : List Expr} {to : TE} {t : TA} {name : Str} {apos cpos : Pos} {T id : String} {r : V → List V → Hp → VK → Prop}
theorem pe_bm (pa : PlainAttrs T) (slot : Slot T name id) (hty : typeOf (.builtin id) = pure (.type "method_descriptor")) (hm : MtR X id r) (ho : PE X o to) (ha : PA X (e :: es) t)
    (hbase : attributeBase o name X.env (eval o X.env) = eval o X.env := by rfl)
    (hfew : ((backTo cpos (starEach (e :: es) X.env)).all (fun x => !x.1) && (backToKw cpos (keywordEach [] X.env)).all (fun x => x.1.isSome)
      && decide ((e :: es).length + ([] : List Keyword).length + (if ([] : List Keyword).isEmpty then 0 else 1) < 30)) = true := by rfl)
    (hline : (apos.endLine == cpos.line) = true := by rfl) (hs : starEach (e :: es) X.env = (false, eval e X.env) :: starEach es X.env := by rfl) (hplain : (backTo cpos (starEach es X.env)).any (·.1) = false := by rfl) :
    PE X (.Call (.Attribute o name apos) (e :: es) [] cpos) (tBM X.K T r to t) := by
  intro pins s σ H Q I h
  refine wpAny_Call_method_late hbase hfew hline rfl (thn (ho pins s σ H _ I h) fun v s1 ⟨x, H1, I1, r1, ty, q1⟩ => ?_)
  obtain ⟨h1, h2⟩ := tyV_is I1 r1 ty
  refine ⟨T, id, pa, slot, hty, h1, h2, ?_⟩
  have hA := ha cpos pins s1 σ H1 _ I1 q1
  rw [hs] at hA ⊢
  refine Calls.callWith_builtin (by show (false || (backTo cpos (starEach es X.env)).any (·.1)) = false; rw [hplain] <;> rfl) (Calls.evalArgs_plain ?_)
  exact thn hA fun us s2 ⟨vs, H2, I2, r2, q2⟩ => hm pins s2 σ H2 x vs v us Q I2 r1 r2 q2
/- xs.append(e), list.index on a module's tuple .. are MtR facts of 06m -/
end
end L2
namespace L2
open PySem PySem.Spec PyProof.Rows
def MtM (X : Cx) (id : String) (r : V → List V → Hp → VK → Prop) : Prop :=
  ∀ (pins : List (Addr × Obj)) (s : Shared) (σ : St) (H : Hp) (x : V) (xs : List V) (v : Value) (us : List Value) (Q : VK), Inv X pins σ H s → RelV x v → Vals xs us → r x xs H Q →
    wpAny (model X.prog X.w) X.A (call (.builtin id) (v :: us)) (EP X pins σ Q) X.xe s
theorem Vals.one : ∀ {x : V} {us : List Value}, Vals [x] us → ∃ u, us = [u] ∧ RelV x u
  | _, _, .cons r .nil => ⟨_, rfl, r⟩
theorem Vals.two : ∀ {x y : V} {us : List Value}, Vals [x, y] us → ∃ u v, us = [u, v] ∧ RelV x u ∧ RelV y v
  | _, _, _, .cons r (.cons q .nil) => ⟨_, _, rfl, r, q⟩
theorem Vals.zero : ∀ {us : List Value}, Vals [] us → us = []
  | _, .nil => rfl
theorem Vals.reverse {xs : List V} {us : List Value} (h : Vals xs us) : Vals xs.reverse us.reverse := by
  induction h with
  | nil => exact .nil
  | cons r t ih => rw [List.reverse_cons, List.reverse_cons]; exact Vals.append ih (.cons r .nil)
theorem Vals.rep {xs : List V} {us : List Value} (h : Vals xs us) : ∀ k : Nat, Vals (List.replicate k xs).flatten (List.replicate k us).flatten
  | 0 => .nil
  | k + 1 => by
    rw [List.replicate_succ, List.replicate_succ, List.flatten_cons, List.flatten_cons]
    exact Vals.append h (Vals.rep h k)
theorem foldl_rep (its : List Value) : ∀ (k : Nat) (acc : List Value),
    List.foldl (fun x1 x2 => x1 ++ x2) acc.toArray (List.replicate k its.toArray) = (acc ++ (List.replicate k its).flatten).toArray
  | 0, acc => by simp
  | k + 1, acc => by
    have e : acc.toArray ++ its.toArray = (acc ++ its).toArray := by simp
    have e2 : (acc ++ its) ++ (List.replicate k its).flatten = acc ++ (List.replicate (k + 1) its).flatten := by
      rw [List.replicate_succ, List.flatten_cons, List.append_assoc]
    rw [← e2, ← foldl_rep its k (acc ++ its), ← e, List.replicate_succ, List.foldl_cons]
section
variable {X : Cx} {pins : List (Addr × Obj)} {σ : St} {H : Hp} {s : Shared} {l b : Addr} {xs ys zs : List V}
theorem Inv.lset {its its' : List Value} {n : Nat} {f : Array Value → Array Value} {t' : Nat} (I : Inv X pins σ H s) (hH : H l = some (.lst xs))
    (e : s.heap.get? l = some { cls := .type "list", data := .seq its.toArray n }) (hf : f its.toArray = its'.toArray) (hv : Vals ys its') (hz : ys.length ≤ sizeLine) :
    Inv X pins σ (upd H l (.lst ys)) { s with heap := s.heap.update l (Obj.mapSeq f), toks := t' } := by
  have q := PySem.IsL.update e f
  rw [hf] at q
  refine I.write (x := l) (e := l) (by rw [hH]; exact trivial) (.inl rfl) (fun b' u hb hu => (Heap.get?_update_other s.heap (Obj.mapSeq f) (Ne.symm hb)).trans hu) ⟨_, q⟩ ?_
  exact ⟨hz, its', _, hv, q⟩
theorem Inv.lnew {its : List Value} {t' : Nat} (I : Inv X pins σ H s) (hv : Vals ys its) (hz : ys.length ≤ sizeLine) :
    Inv X pins σ (upd H s.heap.objs.size (.lst ys)) { s with heap := s.heap.push { cls := .type "list", data := .seq its.toArray }, toks := t' } :=
  I.laid (fun _ _ q => Heap.get?_push_of_some _ q) (Nat.le_refl _) ⟨hz, its, 0, hv, Heap.get?_push_size _ rfl⟩
theorem Inv.fresh (I : Inv X pins σ H s) : H s.heap.objs.size = none := I.hok.fresh (Nat.le_refl _)
theorem Inv.lstM (I : Inv X pins σ H s) (hH : H l = some (.lst xs)) : xs.length ≤ sizeLine ∧ ∃ (its : List Value) (n : Nat), Vals xs its ∧ xs.length = its.length ∧ s.heap.get? l = some { cls := .type "list", data := .seq its.toArray n } := by
  obtain ⟨z, its, n, r, e⟩ := I.hok l _ hH
  exact ⟨z, its, n, r, r.length, e⟩
theorem notLongL {n : Nat} (h : n ≤ sizeLine) : Builtin.List.listTooLong n = false := by
  unfold Builtin.List.listTooLong
  exact decide_eq_false (by omega)
end
section
variable {X : Cx}
def rAppend : V → List V → Hp → VK → Prop := fun x vs H Q => ∃ l xs y, x = .ref l ∧ vs = [y] ∧ H l = some (.lst xs) ∧ xs.length < sizeLine ∧ Q .non (upd H l (.lst (xs ++ [y])))
theorem mt_append : MtM X "list.append" rAppend := by
  intro pins s σ H x vs v us Q I rx rv h
  obtain ⟨l, xs, y, rfl, rfl, hH, hz, q⟩ := h
  cases rx
  obtain ⟨u, rfl, ru⟩ := rv.one
  obtain ⟨z, its, n, r, hl, e⟩ := I.lstM hH
  refine call_meets F.slot_list_append ⟨_, e, rfl⟩ F.entry_list_append (F.args_list_append_2 _ _) (PySem.list_append l its.toArray n u (by rw [List.size_toArray]; omega)) ⟨e, ?_⟩
  refine ⟨.non, _, I.lset (its' := its ++ [u]) hH e (by simp) (r.append (.cons ru .nil)) ?_, rfl, q⟩
  rw [List.length_append, List.length_singleton]
  omega
def rExtend : V → List V → Hp → VK → Prop := fun x vs H Q => ∃ l b xs zs, x = .ref l ∧ vs = [.ref b] ∧ H l = some (.lst xs) ∧ H b = some (.lst zs) ∧ xs.length + zs.length ≤ sizeLine ∧ Q .non (upd H l (.lst (xs ++ zs)))
theorem mt_extend : MtM X "list.extend" rExtend := by
  intro pins s σ H x vs v us Q I rx rv h
  obtain ⟨l, b, xs, zs, rfl, rfl, hH, hB, hz, q⟩ := h
  cases rx
  obtain ⟨u, rfl, ru⟩ := rv.one
  cases ru
  obtain ⟨z, its, n, r, hl, e⟩ := I.lstM hH
  obtain ⟨z2, its2, n2, r2, hl2, e2⟩ := I.lstM hB
  have hsz : its.toArray.size + its2.toArray.size ≤ sizeLine := by rw [List.size_toArray, List.size_toArray]; omega
  have hlong : ¬ (!its.toArray.isEmpty && Builtin.List.listTooLong (its.toArray.size + its2.toArray.size)) = true := by
    rw [notLongL hsz, Bool.and_false]
    exact Bool.false_ne_true
  refine call_meets F.slot_list_extend ⟨_, e, rfl⟩ F.entry_list_extend (F.args_list_extend_2 _ _)
    (AutoSeq1.list_extend_list_list_0 l its.toArray n b its2.toArray n2 hlong (by rw [List.size_toArray]; omega) (by omega)) ⟨e, e2, ?_⟩
  refine ⟨.non, _, I.lset (its' := its ++ its2) hH e (by simp) (r.append r2) ?_, rfl, q⟩
  rw [List.length_append]
  omega
def rCat : R2 := fun x y H Q => ∃ l b xs zs, x = .ref l ∧ y = .ref b ∧ H l = some (.lst xs) ∧ H b = some (.lst zs) ∧ xs.length + zs.length ≤ sizeLine ∧ ∀ p, H p = none → Q (.ref p) (upd H p (.lst (xs ++ zs)))
theorem op_cat : OpR X (binaryOp .Add) rCat := by
  intro pins s σ H x y v u Q I rx ry h
  obtain ⟨l, b, xs, zs, rfl, rfl, hH, hB, hz, q⟩ := h
  cases rx
  cases ry
  obtain ⟨z, its, n, r, hl, e⟩ := I.lstM hH
  obtain ⟨z2, its2, n2, r2, hl2, e2⟩ := I.lstM hB
  refine PySem.P.add_list e e2 ?_ (by rw [List.size_toArray, List.size_toArray]; omega)
  have ea : its.toArray ++ its2.toArray = (its ++ its2).toArray := by simp
  rw [ea]
  exact ⟨.ref _, _, I.lnew (t' := s.toks) (r.append r2) (by rw [List.length_append]; omega), rfl, q _ I.fresh⟩
def rRep : R2 := fun x y H Q => ∃ l k xs, x = .ref l ∧ y = .int k ∧ H l = some (.lst xs) ∧ -(2 ^ 63) ≤ k ∧ k < 2 ^ 63 ∧ xs.length * k.toNat ≤ sizeLine ∧
  ∀ p, H p = none → Q (.ref p) (upd H p (.lst (List.replicate k.toNat xs).flatten))
theorem len_rep {α : Type} (xs : List α) (k : Nat) : (List.replicate k xs).flatten.length = k * xs.length := by
  induction k with
  | zero => simp
  | succ k ih => rw [List.replicate_succ, List.flatten_cons, List.length_append, ih, Nat.succ_mul, Nat.add_comm]
theorem op_rep : OpR X (binaryOp .Mult) rRep := by
  intro pins s σ H x y v u Q I rx ry h
  obtain ⟨l, k, xs, rfl, rfl, hH, h1, h2, hz, q⟩ := h
  cases rx
  obtain ⟨t, rfl⟩ := ry
  obtain ⟨z, its, n, r, hl, e⟩ := I.lstM hH
  have hlen : its.toArray.size * k.toNat ≤ sizeLine := by rw [List.size_toArray, ← hl]; exact hz
  have hcap : ¬ its.toArray.size * k.toNat > (2 ^ 63 - 1) / 8 := by
    have : (sizeLine : Nat) ≤ (2 ^ 63 - 1) / 8 := by decide
    omega
  have hfit : ¬ (!Builtin.List.listFitsIndex k) = true := by
    rw [fitsIndex_both h1 h2]
    exact Bool.false_ne_true
  have hlong : ¬ Builtin.List.listTooLong (its.toArray.size * k.toNat) = true := by
    rw [notLongL hlen]
    exact Bool.false_ne_true
  have hnew : List.foldl (fun x1 x2 => x1 ++ x2) #[] (List.replicate (if its.toArray.isEmpty = true then 0 else k.toNat) its.toArray) = (List.replicate k.toNat its).flatten.toArray := by
    have f0 : ∀ m : Nat, List.foldl (fun x1 x2 => x1 ++ x2) #[] (List.replicate m its.toArray) = (List.replicate m its).flatten.toArray := fun m => by
      have := foldl_rep its m []
      rw [List.nil_append] at this
      exact this
    rw [f0]
    cases its with
    | nil => simp
    | cons a r' => rw [if_neg (by simp)]
  refine wpAny_binaryOp_repeat_ref (T := "list") (U := "int") (by decide) ⟨_, e, rfl⟩ (fun s' => typeIs_int s' k t) noFill_list_mul F.fills_int_mul F.slot_int_rmul repeat_list F.slot_int_index.lookup
    (call_meets F.slot_int_rmul (typeIs_int s k t) F.entry_int_rmul (F.args_int_rmul_2 _ _) (int___rmul___int_list k t l its.toArray n)
      ⟨e, rfl, ⟨_, e, rfl⟩, call_meets F.slot_list_mul ⟨_, e, rfl⟩ F.entry_list_mul (F.args_list_mul_2 _ _) (AutoListH.list___mul___list_int_3 l its.toArray n k t hfit hcap hlong) ⟨e, ?_⟩⟩)
  rw [hnew]
  exact ⟨.ref _, _, I.lnew (t' := s.toks) (r.rep k.toNat) (by rw [len_rep, Nat.mul_comm]; exact hz), rfl, q _ I.fresh⟩
end
section
variable {prog : Program} {w : World} {A : Around} {E : Value → Shared → Prop} {s : Shared}
end
section
variable {X : Cx}
end
end L2
namespace Att
open PySem PySem.W PySem.Calls PyProof.Rows
theorem ints_of_wellAll {P : Params} {h : Heap} : ∀ (ns : List Int) (vs : List Value), WellAll P h vs (ns.map WData.int) → IntsAre vs ns := by
  intro ns
  induction ns with
  | nil =>
    intro vs w
    rw [List.map_nil] at w
    cases w
    exact .nil
  | cons n ns ih =>
    intro vs w
    rw [List.map_cons] at w
    cases w with
    | cons a b =>
      cases a
      exact .cons _ _ (ih _ b)
theorem script_of {l : OpenLaw} {n : Nat} (hn : l.most = some n) {P : Params} {h : Heap} {args : List WData} {vals : List Value}
    (hpre : l.row.toRowW.claim.pre args = true) (hwl : WellAll P h vals args) :
    ∃ a vs ns, vals = [Value.ref a] ∧ args = [WData.list (ns.map WData.int)] ∧ h.get? a = some { cls := .type "list", data := .seq vs.toArray } ∧ IntsAre vs ns ∧ ns.length ≤ n := by
  have hsh : WShape.hasAll [] args [.list .int] = true := (pre_splitW hpre).1
  have hc : l.pre.holds [] { args := args } = true := (pre_splitW hpre).2
  obtain ⟨d, r, rfl, h1, h2⟩ := hasAllW_cons hsh
  obtain rfl := hasAllW_nil h2
  obtain ⟨xs, rfl, h3⟩ := hasW_list h1
  obtain ⟨ns, rfl⟩ := items_int h3
  have hlen : ns.length ≤ n := by
    unfold OpenLaw.pre at hc
    have h4 : (WTm.not (.lt (.lit (.int (n : Int))) (.len (.arg 0)))).holds [] { args := [.list (ns.map .int)] } = true := by
      have h4 := (holds_andW hc).1
      rw [hn] at h4
      exact h4
    have h5 := condW_of h4 (w_not (w_lt w_lit (w_len_list (w_arg rfl))))
    rw [List.length_map] at h5
    refine Nat.le_of_not_lt fun q => ?_
    have q' : (n : Int) < ((ns.length : Nat) : Int) := by omega
    first
      | (rw [decide_eq_true q'] at h5; exact absurd h5 (by decide))
      | (simp at h5; omega)
  cases hwl with
  | cons w1 w2 =>
    cases w2
    cases w1 with
    | list ho hall => exact ⟨_, _, ns, rfl, rfl, ho, ints_of_wellAll ns _ hall, hlen⟩
theorem post_true (l : OpenLaw) (args : List WData) : l.row.toRowW.claim.post args (.bool true) args = true :=
  postW_of (r := l.row.toRowW) (X := (true == true))
    (show WShape.has [] (.bool true) .bool = true by first | rfl | decide | simp [WShape.has, WShape.arms, WShape.armsAll])
    (show (WTm.eq .res (.lit (.bool true))).value [] { args := args, res := some (.bool true), after := args } = some (.bool (true == true)) from w_eq_bool (w_res rfl) w_lit) rfl
theorem attach_call {l : OpenLaw} {n : Nat} {q : Program} {loose : List Str} {XP : (Str → Option Value) → Heap → Prop} {YP : World → Heap → Prop} {d : DefRec}
    (hn : l.most = some n) (hdf : d.params.defaults = [])
    (call : ∀ (w : World) (s₀ s₁ : Shared) (mg mb : Str → Option Value) (fa : Addr) (o : Obj) (pm cd doc : Value) (a : Addr) (vs : List Value) (ns : List Int),
      Ground q loose [] XP w s₀ mg mb s₁.heap → YP w s₁.heap →
      s₁.heap.get? fa = some o → o.data = .func (docDef d.name d.params d.body d.scope pm cd doc) → s₁.heap.CodeRec cd d.name → mg d.name = some (.ref fa) →
      s₁.heap.get? a = some { cls := .type "list", data := .seq vs.toArray } → IntsAre vs ns → ns.length ≤ n → s₁.gens = #[] →
      codeAny (model l.prog w) callerA (.call (.ref fa) ⟨[.ref a], []⟩) (fun r s' => r = .ok (.ret (.bool true)) ∧ OldK s₁.heap s'.heap ∧ s'.os = s₁.os ∧ AllBare s'.gens) s₁) :
    WalkO q loose XP YP l.row.toRowW d [] (fun f vs => PySem.call f vs) := by
  intro w s₀ s₁ mg mb G Y fa o pm cd doc dV kV ho hd hcd hD hmg hg args vals as hpre hlay hrd hwl hlo
  obtain rfl : dV = .none := Dflts.none hD hdf
  obtain rfl : kV = .none := Dflts.noKw hD
  obtain ⟨a, vs, ns, rfl, rfl, hobj, hints, hlen⟩ := script_of hn hpre hwl
  refine enter_call (codeAny_mono (call w s₀ s₁ mg mb fa o pm cd doc a vs ns G Y ho (fd_plain hd) hcd hmg hobj hints hlen hg) fun r s' hq => ?_)
  obtain ⟨rfl, h2, h3, h4⟩ := hq
  exact ⟨.inl ⟨.bool true, .bool true, [], rfl, fun _ => rfl, .bool true, post_true l _, fun _ => ⟨List.Pairwise.nil, fun _ hm => (nomatch hm)⟩⟩, h2, h3, h4⟩
section
variable {prog : Program} {w : World} {A : Around} {E : Value → Shared → Prop} {s : Shared} {K : Frag}
def ledger (h : Heap) (L d : Addr) : List (Addr × Obj) := (List.range h.objs.size).filterMap fun a => if a = L ∨ a = d then none else (h.get? a).map fun o => (a, o)
end
end Att
namespace L2
open PySem PySem.Spec PyProof.Rows
theorem vals_ints : ∀ {vs : List Value} {ns : List Int}, IntsAre vs ns → Vals (ns.map V.int) vs
  | _, _, .nil => .nil
  | _, _, .cons n t h => .cons ⟨t, rfl⟩ (vals_ints h)
def Only (H : Hp) : Prop := ∀ b, H b = none ∨ ∃ o xs, H b = some (.frz o (.lst xs))
theorem law_call {P : Program} {w : World} {K : PySem.W.Frag} {mg mb : Str → Option Value} {CX : CXT} {k : Nat} {fa a : Addr} {fd : FuncData} {x : Str} {sp : Sp} {s₁ : Shared} {vs : List Value} {ns : List Int}
    (KX : K.In s₁.heap) (hns : s₁.heap.Ns mainGlobals mg) (hb : s₁.heap.Ns builtinsNs mb) (hbb : ∀ x : Str, x ≠ "__name__" → mb x = bootBuiltins x) (hlim : s₁.heap.NoLimit) (hg : s₁.gens = #[])
    (ha : s₁.heap.get? a = some { cls := .type "list", data := .seq vs.toArray }) (hi : IntsAre vs ns) (hl : ns.length ≤ sizeLine) (hr : Room k callerA)
    (F : ∀ base : Heap, K.In base → base.Ns mainGlobals mg → FnOk P w K mg base CX k fa fd [x] sp) (hbind : ∀ (s : Shared) (u : Value), BindsTo s fd ⟨[u], []⟩ [(x, u)])
    (hsp : ∀ H : Hp, Only H → SqL K H a (ns.map V.int) → sp [.ref a] H (fun v _ => v = .bl true) fun _ _ _ => False)
    (hCX : ∀ H e s', CX [] H s₁ (fun _ _ _ => False) e s' → False) :
    codeAny (model P w) callerA (.call (.ref fa) ⟨[.ref a], []⟩) (fun r s' => r = .ok (.ret (.bool true)) ∧ OldK s₁.heap s'.heap ∧ s'.os = s₁.os ∧ AllBare s'.gens) s₁ := by
  have rv := vals_ints hi
  have lenV := hi.length
  have core : ∀ H : Hp, Only H → SqL K H a (ns.map V.int) → HOk P w H s₁.heap → (∀ b, H b ≠ none → b = a) → (H a ≠ none → K.lookup a = none) →
      codeAny (model P w) callerA (.call (.ref fa) ⟨[.ref a], []⟩) (fun r s' => r = .ok (.ret (.bool true)) ∧ OldK s₁.heap s'.heap ∧ s'.os = s₁.os ∧ AllBare s'.gens) s₁ := by
    intro H hO hS hok hA hK
    have base_of : ∀ {b : Addr} {o : Obj}, s₁.heap.get? b = some o → H b = none → (hidT s₁.heap H).get? b = some o := fun e n => hidT_get e n
    have noA : ∀ {b : Addr} {o : Obj} {es : Array DictEntry} {ep : Nat}, s₁.heap.get? b = some o → o.data = .dict es ep → H b = none := fun {b o es ep} e d => by
      cases q : H b with
      | none => rfl
      | some u =>
        have e' : b = a := hA b (by rw [q]; simp)
        subst e'
        rw [ha] at e; cases e
        have d' : Data.seq vs.toArray _ = Data.dict es ep := d
        cases d'
    have nsK : ∀ {b : Addr} {m : Str → Option Value}, s₁.heap.Ns b m → (hidT s₁.heap H).Ns b m := fun {b m} ⟨o, es, ep, e, d, r⟩ => ⟨o, es, ep, base_of e (noA e d), d, r⟩
    have hKb : K.In (hidT s₁.heap H) := fun b o e => base_of (KX b o e) (by
      cases q : H b with
      | none => rfl
      | some u =>
        have e' : b = a := hA b (by rw [q]; simp)
        subst e'
        rw [hK (by rw [q]; simp)] at e; cases e)
    have hM : Mod K mg (hidT s₁.heap H) := ⟨hKb, nsK hns, ⟨mb, nsK hb, hbb⟩, let ⟨mc, h1, h2⟩ := hlim; ⟨mc, nsK h1, h2⟩⟩
    have e0 : Env0 P w K mg (hidT s₁.heap H) callerA [] s₁ H := ⟨rfl, hM, fun b o e => of_hidT e, Nat.le_of_eq (hidT_size _ _), trivial, fun b hb => absurd (show b ∈ ([] : List Addr) from hb) (by simp), hok, .of_eq hg⟩
    refine codeAny_mono ((F _ hKb (nsK hns)).run callerA [] s₁ H ⟨[.ref a], []⟩ [.ref a] [.ref a] _ _ hr e0 (hbind s₁ (.ref a)) (.cons rfl .nil) (hsp H hO hS)) fun r s' h => ?_
    cases r with
    | error e => exact (hCX H e s' h).elim
    | ok fl =>
      cases fl with
      | next => exact False.elim h
      | brk => exact False.elim h
      | cont => exact False.elim h
      | ret u =>
        obtain ⟨v, H', os, bare, un, hok', r', q⟩ := h
        have q' : v = .bl true := q
        subst q'
        obtain rfl : u = Value.bool true := r'
        refine ⟨rfl, OldK.of_keep fun b o e => ?_, os, bare⟩
        cases q : H b with
        | none => exact un.keep b o e q (by intro z; exact absurd (show b ∈ ([] : List Addr) from z) (by simp)) (by simp)
        | some u =>
          rcases hO b with z | ⟨ob, xs, z⟩
          · rw [q] at z; cases z
          · have z2 := un.frzs b ob _ z
            obtain ⟨e1, _⟩ := hok b _ z
            obtain ⟨e2, _⟩ := hok' b _ z2
            rw [e] at e1; cases e1
            exact e2
  cases hk : K.lookup a with
  | some o =>
    have e := KX a o hk
    rw [ha] at e
    cases e
    refine core (fun _ => none) (fun _ => .inl rfl) (.inr ⟨_, vs.toArray, _, hk, rfl, rfl, rfl, by rw [List.size_toArray, lenV]; exact hl, by simpa using rv⟩) (fun b u z => by have z' : (none : Option HO) = some u := z; cases z') (fun b z => absurd rfl z) fun z => absurd rfl z
  | none =>
    refine core (fun b => if b = a then some (.frz { cls := .type "list", data := .seq vs.toArray } (.lst (ns.map V.int))) else none) (fun b => ?_) (.inl (.inr ⟨{ cls := .type "list", data := .seq vs.toArray }, if_pos rfl⟩)) (fun b u z => ?_) (fun b z => ?_) fun _ => hk
    · by_cases hb : b = a
      · exact .inr ⟨_, _, if_pos hb⟩
      · exact .inl (if_neg hb)
    · by_cases hb : b = a
      · have z' := (if_pos hb).symm.trans z
        cases z'
        subst hb
        exact ⟨ha, by rw [List.length_map]; exact hl, vs, _, rv, ha⟩
      · have z' := (if_neg hb).symm.trans z
        cases z'
    · by_cases hb : b = a
      · exact hb
      · exact absurd (if_neg hb) z
end L2
namespace L2
open PySem PySem.Spec PyProof.Rows
theorem walk_of {l : PySem.W.OpenLaw} {n k : Nat} {q : Program} {loose : List Str} {XP : (Str → Option Value) → Heap → Prop} {YP : World → Heap → Prop} {d : DefRec} {K : Params → PySem.W.Frag} {CX : World → CXT} {sp : World → Sp} {x : Str}
    (hn : l.most = some n) (hn2 : n ≤ sizeLine) (hdf : d.params.defaults = []) (hr : Room k callerA)
    (hY : ∀ (w : World) (h : Heap), YP w h → (K w.params).In h)
    (F : ∀ (w : World) (mg : Str → Option Value) (fa : Addr) (h : Heap), (K w.params).In h → h.Ns mainGlobals mg → mg d.name = some (.ref fa) →
      ∃ fd : FuncData, (∀ (s : Shared) (u : Value), BindsTo s fd ⟨[u], []⟩ [(x, u)]) ∧
        ∀ base : Heap, (K w.params).In base → base.Ns mainGlobals mg → FnOk l.prog w (K w.params) mg base (CX w) k fa fd [x] (sp w))
    (hsp : ∀ (w : World) (H : Hp) (a : Addr) (ns : List Int), ns.length ≤ n → Only H → SqL (K w.params) H a (ns.map V.int) → sp w [.ref a] H (fun v _ => v = .bl true) fun _ _ _ => False)
    (hCX : ∀ (w : World) (H : Hp) (s : Shared) (e : Value) (s' : Shared), CX w [] H s (fun _ _ _ => False) e s' → False) :
    PySem.W.WalkO q loose XP YP l.row.toRowW d [] (fun f vs => PySem.call f vs) := by
  refine Att.attach_call hn hdf fun w s₀ s₁ mg mb fa o pm cd doc a vs ns G Y ho hd hcd hmg hobj hints hlen hg => ?_
  have KX := hY w _ Y
  obtain ⟨fd, hb, hF⟩ := F w mg fa _ KX G.T.g hmg
  exact law_call KX G.T.g G.T.b G.T.builtins G.T.nolimit hg hobj hints (Nat.le_trans hlen hn2) hr hF hb (fun H hO hS => hsp w H a ns hlen hO hS) fun H e s' => hCX w H s₁ e s'
end L2
namespace L2
open PySem PySem.Spec PyProof.Rows
def inClass (s : Stmt) (j : Nat) : Stmt := match s with
  | .ClassDef _ _ _ body _ _ _ _ _ _ _ => body.getD j (.Pass ⟨0, 0, 0, 0⟩)
  | _ => .Pass ⟨0, 0, 0, 0⟩
def defArgs (s : Stmt) : Arguments := match s with
  | .FunctionDef _ a _ _ _ _ _ _ _ _ => a
  | _ => { posonlyargs := [], args := [], vararg := none, kwonlyargs := [], kw_defaults := [], kwarg := none, defaults := [] }
def defBody (s : Stmt) : List Stmt := match s with
  | .FunctionDef _ _ b _ _ _ _ _ _ _ => b
  | _ => []
def defScope (s : Stmt) : Scope := match s with
  | .FunctionDef _ _ _ _ _ _ sc _ _ _ => sc
  | _ => { kind := .function, names := [], isGenerator := false, isCoroutine := false }
abbrev CX0 : CXT := fun _ _ _ _ _ _ => False
abbrev E0 : XK := fun _ _ _ => False
theorem pass0 {X : Cx} : Passes CX0 X E0 := fun _ _ _ _ _ _ _ h => h.elim
structure Fun (K : PySem.W.Frag) (x qual : Str) (st : Stmt) (f : Addr) (fd : FuncData) : Prop where
  ex : ∃ (oc : Value) (od : Option Addr) (kV doc pm : Value) (an : Option Addr) (cdv ct : Value) (osl : Array (Option Value)),
    fd = PySem.W.fnOf x qual (defArgs st) (defBody st) (defScope st) .none kV doc pm an cdv ct ∧ K.lookup f = some ⟨oc, od, .func fd, osl⟩ ∧ PySem.W.codeIn K cdv qual = true
  kp : PySem.W.keepIn K (.ref f) = true
section
variable {P : Program} {w : World} {K : PySem.W.Frag} {mg : Str → Option Value} {base : Heap}
theorem Fun.ok {x qual : Str} {st : Stmt} {f : Addr} {fd : FuncData} {N ps : List Str} {k : Nat} {sp : Sp} (F : Fun K x qual st f fd) (S : FnScope N ps (defScope st)) (len : ∀ vs H Q E, sp vs H Q E → vs.length = ps.length)
    (hbody : ∀ (cdv : Value) (A : Around) (outer : List Env) (s : Shared) (H : Hp) (vs : List V) (Q : VK) (E : XK), Room k (A.deeper (envOfC qual (defScope st) s.heap.objs.size f cdv)) → sp vs H Q E →
      ∃ t, PSs (cxOf CX0 P w K mg base N qual (defScope st) f cdv A outer s H E).nox (defBody st) t ∧ t { nx := fun _ H' => Q .non H', rt := Q } (start N vs) H) : FnOk P w K mg base CX0 (k + 1) f fd ps sp := by
  obtain ⟨oc, od, kV, doc, pm, an, cdv, ct, osl, rfl, lk, hcd⟩ := F.ex
  refine fn_of lk hcd S len fun A outer s H vs Q E hr hsp => ?_
  obtain ⟨t, h, q⟩ := hbody cdv A outer s H vs Q E hr hsp
  exact ⟨t, h.nox, q⟩
theorem Fun.binds {x qual : Str} {st : Stmt} {f : Addr} {fd : FuncData} {ps : List Str} (F : Fun K x qual st f fd)
    (h : ∀ (kV doc pm : Value) (an : Option Addr) (cdv ct : Value) (us : List Value), us.length = ps.length → bindArgs (PySem.W.fnOf x qual (defArgs st) (defBody st) (defScope st) .none kV doc pm an cdv ct) ⟨us, []⟩ = pure (ps.zip us)) : Binds K fd ps [] := by
  obtain ⟨oc, od, kV, doc, pm, an, cdv, ct, osl, rfl, lk, hcd⟩ := F.ex
  exact .all (h kV doc pm an cdv ct)
theorem fun_mk {x qual : Str} {st : Stmt} {f : Addr} {oc : Value} {od an : Option Addr} {osl : Array (Option Value)} {kV doc pm cdv ct : Value} (l : K.lookup f = some ⟨oc, od, .func (PySem.W.fnOf x qual (defArgs st) (defBody st) (defScope st) .none kV doc pm an cdv ct), osl⟩)
    (c : PySem.W.codeIn K cdv qual = true) (k : PySem.W.keepIn K (.ref f) = true) : Fun K x qual st f (PySem.W.fnOf x qual (defArgs st) (defBody st) (defScope st) .none kV doc pm an cdv ct) := ⟨⟨oc, od, kV, doc, pm, an, cdv, ct, osl, rfl, l, c⟩, k⟩
end
section
variable {X : Cx}
theorem pv (i : Nat) {x : Str} {pos : Pos} (hN : X.N[i]? = some x := by rfl) (hv : Vis X.env.scope x := by first | exact Or.inl rfl | exact Or.inr (Or.inl rfl) | exact Or.inr (Or.inr rfl)) (hd : (x == ("__debug__" : Str)) = false := by decide)
    (hcd : (x == ("__classdict__" : Str)) = false := by decide) : PE X (.Name x pos) (tVar i) := pe_var hN hv hd hcd
end
theorem ite2 {c A B : Prop} [Decidable c] (h1 : c → A) (h2 : ¬ c → B) : if c then A else B := by
  by_cases h : c
  · rw [if_pos h]
    exact h1 h
  · rw [if_neg h]
    exact h2 h
def Same (H H' : Hp) : Prop := ∀ b o, H b = some o → H' b = some o
theorem Same.refl (H : Hp) : Same H H := fun _ _ h => h
theorem Same.trans {H H1 H2 : Hp} (a : Same H H1) (b : Same H1 H2) : Same H H2 := fun c o h => b c o (a c o h)
theorem Same.free {H H' : Hp} (e : Same H H') {l : Addr} (h : H' l = Option.none) : H l = Option.none := by
  cases q : H l with
  | none => rfl
  | some o =>
    rw [e l o q] at h
    cases h
theorem Same.seq {K : PySem.W.Frag} {H H' : Hp} {a : Addr} {xs : List V} (e : Same H H') (h : SqL K H a xs) : SqL K H' a xs := by
  rcases h with (h | ⟨o, h⟩) | h
  · exact .inl (.inl (e _ _ h))
  · exact .inl (.inr ⟨o, e _ _ h⟩)
  · exact .inr h
end L2
set_option Elab.async false
set_option linter.all false
set_option maxRecDepth 100000
set_option maxHeartbeats 4000000
namespace L3
open PySem PySem.Spec PyProof.Rows L2
abbrev St := L2.St
abbrev cs (x : Str) : List Nat := x.cps.toList
abbrev tx (l : List Nat) : Str := ⟨l.toArray⟩
theorem tx_cs (x : Str) : tx (cs x) = x := by cases x; rfl
theorem cs_tx (l : List Nat) : cs (tx l) = l := rfl
theorem len_cs (x : Str) : x.length = (cs x).length := by simp [Str.length, cs]
theorem len_tx (l : List Nat) : (tx l).length = l.length := by simp [Str.length, tx]
theorem cs_inj {x y : Str} (h : cs x = cs y) : x = y := by rw [← tx_cs x, ← tx_cs y, h]
theorem tx_inj {l m : List Nat} (h : tx l = tx m) : l = m := by rw [← cs_tx l, ← cs_tx m, h]
theorem tx_eq {l m : List Nat} : tx l = tx m ↔ l = m := ⟨tx_inj, fun h => by rw [h]⟩
theorem tx_append (l m : List Nat) : tx l ++ tx m = tx (l ++ m) := by
  apply cs_inj
  show (tx l ++ tx m).cps.toList = l ++ m
  rw [Str.cps_append]
  simp
def cut {α : Type} (l : List α) (lo hi : Option Int) : List α := (l.drop (HT.sIx l.length 0 lo)).take (HT.sIx l.length l.length hi - HT.sIx l.length 0 lo)
theorem cut_len {α : Type} (l : List α) (lo hi : Option Int) : (cut l lo hi).length ≤ l.length := by
  unfold cut
  rw [List.length_take, List.length_drop]
  omega
theorem range_nat (a b : Nat) : sliceRange (a : Int) (b : Int) 1 = (List.range (b - a)).map (fun k => a + k) := by
  unfold sliceRange
  have e : (if (1 : Int) > 0 then (if (a : Int) < b then ((b : Int) - a + 1 - 1) / 1 else 0) else (if (a : Int) > b then ((a : Int) - b - 1 - 1) / (-1) else 0)).toNat = b - a := by
    rw [if_pos (by decide)]
    by_cases h : (a : Int) < b
    · rw [if_pos h, Int.ediv_one]; omega
    · rw [if_neg h]; omega
  show (List.range ((if (1 : Int) > 0 then (if (a : Int) < b then ((b : Int) - a + 1 - 1) / 1 else 0) else (if (a : Int) > b then ((a : Int) - b - 1 - 1) / (-1) else 0)).toNat)).map _ = _
  rw [e]
  refine List.map_congr_left fun k _ => ?_
  omega
theorem idx_cut (lo hi : Option Int) (n : Nat) : Builtin.Str.strSliceIndices lo hi 1 n = (List.range (HT.sIx n n hi - HT.sIx n 0 lo)).map (fun k => HT.sIx n 0 lo + k) := by
  rw [← range_nat]
  have clip : ∀ (v : Int) (d : Nat), max 0 (min (if v < 0 then v + (n : Int) else v) (n : Int)) = ((HT.sIx n d (some v) : Nat) : Int) := fun v d => by
    show _ = (((if v < 0 then (v + (n : Int)).toNat else min v.toNat n) : Nat) : Int)
    by_cases hv : v < 0
    · simp only [if_pos hv]; omega
    · simp only [if_neg hv]; omega
  have h1 : ((1 : Int) > 0) = True := by simp
  unfold Builtin.Str.strSliceIndices
  cases lo with
  | none =>
    cases hi with
    | none => simp only [h1, if_true]; rfl
    | some j => simp only [h1, if_true, clip j n]; rfl
  | some i =>
    cases hi with
    | none => simp only [h1, if_true, clip i 0]; rfl
    | some j => simp only [h1, if_true, clip i 0, clip j n]
theorem slice_cut (x : Str) (lo hi : Option Int) : Txt.slice x lo hi = tx (cut (cs x) lo hi) := by
  have hn : x.length = x.cps.toList.length := len_cs x
  have hj : HT.sIx x.length x.length hi ≤ x.length := HT.sIx_le _ _ (Nat.le_refl _) hi
  have hi0 : HT.sIx x.length 0 lo ≤ x.length := HT.sIx_le _ _ (Nat.zero_le _) lo
  unfold Txt.slice
  rw [idx_cut]
  split
  · rename_i h
    have h' : HT.sIx x.length x.length hi - HT.sIx x.length 0 lo = x.length := by simpa using h
    apply cs_inj
    show x.cps.toList = cut x.cps.toList lo hi
    unfold cut
    rw [← hn]
    by_cases z : x.length = 0
    · have : x.cps.toList = [] := List.eq_nil_of_length_eq_zero (by omega)
      rw [this]; simp
    · have e0 : HT.sIx x.length 0 lo = 0 := by omega
      rw [e0] at h' ⊢
      rw [h', List.drop_zero, hn, List.take_length]
  · apply cs_inj
    have h := StrLaws.picks x.cps.toList (HT.sIx x.length x.length hi - HT.sIx x.length 0 lo) (HT.sIx x.length 0 lo) (by omega)
    show (List.filterMap (fun k => x.cps[k]?) _).toArray.toList = cut x.cps.toList lo hi
    unfold cut
    rw [← hn]
    simpa using h
section
variable {X : Cx}
theorem part_of {v : Value} {o : Option Int} (p : IsPart v o) : ∃ l : Option (Int × Tok), v = partValue l ∧ l.map (·.1) = o := by
  cases p with
  | none => exact ⟨none, rfl, rfl⟩
  | int i t => exact ⟨some (i, t), rfl, rfl⟩
def rSlS : V → Option Int → Option Int → Hp → VK → Prop := fun x lo hi H Q => ∃ z, x = .str z ∧ z.length ≤ sizeLine ∧ Q (.str (tx (cut (cs z) lo hi))) H
theorem sl_str : SlR X rSlS := by
  intro pins s σ H x v vl vu lo hi sl Q I rx hs pl pu h
  obtain ⟨z, rfl, hz, q⟩ := h
  obtain ⟨t, rfl⟩ := rx
  obtain ⟨l, rfl, el⟩ := part_of pl
  obtain ⟨u, rfl, eu⟩ := part_of pu
  refine ⟨"str", _, slot_str_getitem.lookup, typeIs_str s z t, ?_⟩
  refine wpAny_getItem_str_slice (l := l) (u := u) (st := none) hs rfl ?_
  have e : Txt.slice z lo hi = tx (cut (cs z) lo hi) := slice_cut z lo hi
  have hl : (tx (cut (cs z) lo hi)).length ≤ sizeLine := by rw [len_tx]; have := cut_len (cs z) lo hi; rw [← len_cs] at this; omega
  unfold sliceMade slicePicked
  rw [el, eu]
  unfold Txt.slice at e
  by_cases hc : ((1 : Int) == 1 && (Builtin.Str.strSliceIndices lo hi 1 z.length).length == z.length) = true
  · rw [if_pos hc] at e
    have hc' : (((none : Option (Int × Tok)).map (·.1)).getD 1 == 1 && (Builtin.Str.strSliceIndices lo hi (((none : Option (Int × Tok)).map (·.1)).getD 1) z.length).length == z.length) = true := hc
    rw [if_pos hc']
    exact ⟨.str (tx (cut (cs z) lo hi)), H, I, ⟨t, by rw [← e]⟩, q⟩
  · rw [if_neg hc] at e
    have hc' : ¬ (((none : Option (Int × Tok)).map (·.1)).getD 1 == 1 && (Builtin.Str.strSliceIndices lo hi (((none : Option (Int × Tok)).map (·.1)).getD 1) z.length).length == z.length) = true := hc
    rw [if_neg hc']
    show (Str.mk ((Builtin.Str.strSliceIndices lo hi 1 z.length).filterMap (z.cps[·]?)).toArray).length ≤ sizeLine ∧ _
    rw [e]
    refine ⟨hl, ?_⟩
    exact ⟨.str (tx (cut (cs z) lo hi)), H, I.tok _, ⟨_, by
      show Value.str (Str.mk ((Builtin.Str.strSliceIndices lo hi 1 z.length).filterMap (z.cps[·]?)).toArray) _ = _
      rw [e]⟩, q⟩
theorem fold_rep (l : List Nat) : ∀ (k : Nat) (acc : Array Nat), ((List.replicate k l.toArray).foldl (· ++ ·) acc).toList = acc.toList ++ (List.replicate k l).flatten
  | 0, acc => by simp
  | k + 1, acc => by
    rw [List.replicate_succ, List.foldl_cons, fold_rep l k, List.replicate_succ, List.flatten_cons]
    simp
theorem op_mul_str : OpR X (binaryOp .Mult) (fun x y H Q => ∃ z n, x = .str z ∧ y = .int n ∧ 0 ≤ n ∧ n ≤ 1000 ∧ z.length ≤ 1000 ∧ Q (.str (tx (List.replicate n.toNat (cs z)).flatten)) H) := by
  intro pins s σ H x y v u Q I rx ry h
  obtain ⟨z, n, rfl, rfl, h0, h1, hz, q⟩ := h
  obtain ⟨t, rfl⟩ := rx
  obtain ⟨t', rfl⟩ := ry
  have hs : sizeLine = 16777216 := sizeLine_eq
  have hmul : z.length * n.toNat ≤ 1000 * 1000 := Nat.mul_le_mul hz (by omega)
  have fl : ((List.replicate n.toNat (cs z)).flatten).length = n.toNat * z.length := by rw [L2.len_rep, ← len_cs]
  refine PySem.P.mul_str ?_ (fun _ _ => ?_) (fun _ _ => ?_) ?_
  · rw [decide_eq_false (by omega), decide_eq_false (by omega)]; rfl
  · have : (1000 : Int) ≤ (2 ^ 63 - 1) / n := by
      apply Int.le_ediv_of_mul_le (by omega)
      omega
    omega
  · unfold Builtin.Str.tooLong
    exact decide_eq_false (by omega)
  · by_cases c1 : n < 1
    · rw [if_pos c1]
      have e : n.toNat = 0 := by omega
      rw [e] at q
      exact ⟨by decide, .str (tx []), H, I.tok _, ⟨_, rfl⟩, q⟩
    · rw [if_neg c1]
      by_cases c2 : (n == 1 || z.length == 0) = true
      · rw [if_pos c2]
        have e : tx (List.replicate n.toNat (cs z)).flatten = z := by
          rw [Bool.or_eq_true] at c2
          rcases c2 with c | c
          · have : n.toNat = 1 := by have := eq_of_beq c; omega
            rw [this]
            simp only [List.replicate_one, List.flatten_singleton]
          · have c0 : z.length = 0 := eq_of_beq c
            have : cs z = [] := List.eq_nil_of_length_eq_zero (by rw [← len_cs]; exact c0)
            apply cs_inj
            rw [this]
            show (List.replicate n.toNat ([] : List Nat)).flatten = []
            simp only [List.flatten_replicate_nil]
        rw [e] at q
        exact ⟨.str z, H, I, ⟨_, rfl⟩, q⟩
      · rw [if_neg c2]
        have e : (⟨(List.replicate n.toNat z.cps).foldl (· ++ ·) #[]⟩ : Str) = tx (List.replicate n.toNat (cs z)).flatten := by
          apply cs_inj
          have := fold_rep (cs z) n.toNat #[]
          have e2 : (cs z).toArray = z.cps := by cases z; rfl
          rw [e2] at this
          show (List.foldl (· ++ ·) #[] (List.replicate n.toNat z.cps)).toList = (List.replicate n.toNat (cs z)).flatten
          rw [this]
          rfl
        rw [e]
        refine ⟨by rw [len_tx, fl, Nat.mul_comm]; omega, .str _, H, I.tok _, ⟨_, rfl⟩, q⟩
theorem op_le_str : OpR X (compareOp .LtE) (fun x y H Q => ∃ i j, x = .str i ∧ y = .str j ∧ Q (.bl (!(decide (cs j < cs i)))) H) := by
  intro pins s σ H x y v u Q I rx ry h
  obtain ⟨i, j, rfl, rfl, q⟩ := h
  obtain ⟨t, rfl⟩ := rx
  obtain ⟨t', rfl⟩ := ry
  exact PySem.P.le_str ⟨.bl _, H, I, rfl, q⟩
theorem op_lt_str' : OpR X (compareOp .Lt) (fun x y H Q => ∃ i j, x = .str i ∧ y = .str j ∧ Q (.bl (decide (cs i < cs j))) H) := op_lt_str
theorem mt_count : MtR X "str.count" (fun x xs H Q => ∃ z y, x = .str z ∧ xs = [.str y] ∧ Q (.int (Txt.count z y)) H) := by
  intro pins s σ H x xs v us Q I rx rv h
  obtain ⟨z, y, rfl, rfl, q⟩ := h
  obtain ⟨t, rfl⟩ := rx
  obtain ⟨u, rfl, t', rfl⟩ := vals1 rv
  exact PySem.SC.count ⟨.int _, H, I.tok _, ⟨_, rfl⟩, q⟩
theorem mt_find : MtR X "str.find" (fun x xs H Q => ∃ z y, x = .str z ∧ xs = [.str y] ∧ Q (.int (Txt.find z y)) H) := by
  intro pins s σ H x xs v us Q I rx rv h
  obtain ⟨z, y, rfl, rfl, q⟩ := h
  obtain ⟨t, rfl⟩ := rx
  obtain ⟨u, rfl, t', rfl⟩ := vals1 rv
  exact PySem.SC.find ⟨.int _, H, I.tok _, ⟨_, rfl⟩, q⟩
end
end L3
set_option Elab.async false
set_option linter.all false
set_option maxRecDepth 100000
set_option maxHeartbeats 4000000
namespace L3
open PySem PySem.Spec PyProof.Rows L2
section
variable {X : Cx} {pins : List (Addr × Obj)} {σ : St} {H : Hp} {s : Shared} {fp : List Addr} {h' : Heap} {t' : Nat}
theorem Inv.turns (I : Inv X pins σ H s) (k : ∀ b o, b ∉ fp → s.heap.get? b = some o → h'.get? b = some o) (hf : ∀ b ∈ fp, FpOk X pins H b) : Inv X pins σ H { s with heap := h', toks := t' } := by
  have nit : ∀ b u, H b = some u → b ∉ fp := fun b u e z => by rw [(hf b z).1] at e; cases e
  refine I.step (g' := s.gens) (d' := s.drawn) (ch := fp) (fun b hb => ?_) (fun b o _ _ hc e _ => k b o hc e) (fun b o _ _ hc e _ => ⟨o.slots, k b o hc e⟩) (fun _ _ _ _ n => n)
    (fun b o hc e => ⟨o, k b o hc e⟩) (fun _ _ e => e) (fun _ _ _ e => e) (fun b ps e => ⟨#[], by rw [e]; simp⟩) (fun m hm => ?_) (fun b u e => ?_) I.bare
  · obtain ⟨_, a1, _, a3, a4, a5⟩ := hf b hb
    exact ⟨a3, a1, a4, a5⟩
  · obtain ⟨o, es, ep, ho, r⟩ := hm
    exact ⟨o, es, ep, k _ o (fun z => (hf _ z).2.1 rfl) ho, r⟩
  · refine (I.hok b u e).stay (fun c v hc q => k c v ?_ q) (fun _ q => q) fun _ _ q => q
    rcases hc with z | z
    · rw [z]; exact nit b u e
    · exact nit c _ z
theorem Inv.track {a : Addr} {o : HO} (I : Inv X pins σ H s) (fa : FpOk X pins H a) (new : ObjOk X.prog X.w (upd H a o) s.heap a o) : Inv X pins σ (upd H a o) s := by
  obtain ⟨a0, a1, a2, a3, a4, a5⟩ := fa
  have e : s = { s with heap := s.heap, gens := s.gens, drawn := s.drawn, toks := s.toks } := rfl
  rw [e]
  refine I.step (g' := s.gens) (d' := s.drawn) (ch := [a]) (fun b hb => ?_) (fun b o _ _ _ e _ => e) (fun b o _ _ _ e _ => ⟨o.slots, e⟩) (fun b o hc _ n => ?_)
    (fun b o _ e => ⟨o, e⟩) (fun b xs e => ?_) (fun b u xs e => ?_) (fun b ps e => ?_) (fun m hm => hm) (fun b u e => ?_) I.bare
  · have eb : b = a := by simpa using hb
    subst eb
    exact ⟨a3, a1, a4, a5⟩
  · rw [upd_ne (by simpa using hc)]; exact n
  · rw [upd_ne (ne_of_none e a0)]; exact e
  · rw [upd_ne (ne_of_none e a0)]; exact e
  · exact ⟨#[], by rw [upd_ne (ne_of_none e a0), e]; simp⟩
  · by_cases hb : b = a
    · subst hb; rw [upd_same] at e; cases e; exact new
    · rw [upd_ne hb] at e
      exact (I.hok b u e).stay (fun c v _ q => q) (fun c q => by rw [upd_ne (ne_of_none q a0)]; exact q) fun c xs q => by rw [upd_ne (ne_of_none q a0)]; exact q
end
def Its (x : Str) : It := ⟨fun i _ => i < (cs x).length, fun i H v H' => H' = H ∧ ∃ c, (cs x)[i]? = some c ∧ v = .str (tx [c]), fun i _ => i = (cs x).length⟩
theorem turn_str {P : Program} {w : World} {K : PySem.W.Frag} {tg : Expr} {ty : String} (hty : ["enumerate", "zip", "dict_itemiterator", "dict_reverseitemiterator", "odict_iterator", "itertools.zip_longest", "itertools.pairwise"].contains ty = false) (it : Addr) (x : Str) (t : Tok)
    (W : ∀ A : Around, A.handled = none → Walks P w A it [it] [it] x.cps.size (SignAt x) fun i h => h.IsStrIter it ty x t i)
    (S : ∀ (A : Around) (i : Nat) (s : Shared) (Q : Value → Shared → Prop) (E : Value → Shared → Prop), s.heap.IsStrIter it ty x t i → Q (.ref it) s → wpAny (model P w) A (pyIter (.ref it)) Q E s) :
    Turn P w K tg (Its x) [it] it (fun i h => h.IsStrIter it ty x t i) where
  mem := by simp
  obj := fun i h st b hb => by
    have e : b = it := by simpa using hb
    subst e
    obtain ⟨o, e, c, d⟩ := st
    exact ⟨o, e, fun v z => by rw [d] at z; cases z⟩
  keep := fun i h h' st k => let ⟨o, e, r⟩ := st; ⟨o, k it (by simp) o e, r⟩
  item := by
    intro X hP hw hK hc i pins s σ H E I hf st hg
    subst hP hw hK
    obtain ⟨f0, f1, f2, f3, f4, f5⟩ := hf it (by simp)
    have hg' : i < x.cps.size := by have : i < x.cps.toList.length := hg; simpa using this
    refine (W X.A (I.ok.hd hc)).item i s _ _ hg' st fun v h' tk hv st' kk => ?_
    obtain ⟨c, u, hcc, rfl⟩ := hv
    have I1 : Inv X pins σ H { s with heap := h', toks := tk } := I.turned (fun b o hb e => kk b o (by simpa using hb) e) f0 f1 f3 f4 f5
    obtain ⟨o, e, cl, d⟩ := id st'
    refine ⟨_, rfl, go_of (s := { s with heap := h', toks := tk }) e cl d hty ⟨.str (tx [c]), H, I1, ⟨u, rfl⟩, ⟨rfl, c, ?_, rfl⟩, st', fun b hb => (hf b hb).1⟩⟩
    show x.cps.toList[i]? = some c
    simpa using hcc
  done := by
    intro X hP hw hK hc i pins s σ H E I hf st hg
    subst hP hw hK
    obtain ⟨f0, f1, f2, f3, f4, f5⟩ := hf it (by simp)
    have hi : i = x.cps.size := by have : i = x.cps.toList.length := hg; simpa using this
    rw [hi] at st
    exact (W X.A (I.ok.hd hc)).done s _ _ st fun h' tk kk => ⟨rfl, I.turned (fun b o hb e => kk b o (by simpa using hb) e) f0 f1 f3 f4 f5⟩
  self := fun A i s Q E st h => S A i s Q E st h
section
variable {X : Cx} {tg : Expr}
def iStr (tl : TE) : TI := fun σ H R => tl σ H fun v H1 => ∃ x, v = .str x ∧ R (Its x) H1
theorem pi_str {l : Expr} {tl : TE} (hl : PE X l tl) : PI X tg l (iStr tl) := by
  intro pins s σ H R I h
  refine thn (hl pins s σ H _ I h) fun v s1 ⟨y, H1, I1, r1, q1⟩ => ?_
  obtain ⟨x, e, q⟩ := q1
  subst e
  obtain ⟨t, rfl⟩ := r1
  have fin : ∀ (ty : String) (hty : ["enumerate", "zip", "dict_itemiterator", "dict_reverseitemiterator", "odict_iterator", "itertools.zip_longest", "itertools.pairwise"].contains ty = false)
      (W : ∀ A : Around, A.handled = none → Walks X.prog X.w A s1.heap.objs.size [s1.heap.objs.size] [s1.heap.objs.size] x.cps.size (SignAt x) fun i h => h.IsStrIter s1.heap.objs.size ty x t i)
      (S : ∀ (A : Around) (i : Nat) (s : Shared) (Q : Value → Shared → Prop) (E : Value → Shared → Prop), s.heap.IsStrIter s1.heap.objs.size ty x t i → Q (.ref s1.heap.objs.size) s → wpAny (model X.prog X.w) A (pyIter (.ref s1.heap.objs.size)) Q E s),
      PIE X pins σ tg R (.ref s1.heap.objs.size) { s1 with heap := s1.heap.push { cls := .type ty, data := .fields #[.str x t, .int 0 0] } } := fun ty hty W S => by
    refine ⟨s1.heap.objs.size, [s1.heap.objs.size], _, _, H1, rfl, I1.kept (t' := s1.toks) fun b o e => Heap.get?_push_of_some _ e, turn_str hty _ x t W S, ⟨_, Heap.get?_push_size _ rfl, rfl, rfl⟩, fun b hb => ?_, q⟩
    have e : b = s1.heap.objs.size := by simpa using hb
    subst e
    exact I1.fpOk (Nat.le_refl _) (I1.hok.fresh (Nat.le_refl _))
  cases ha : x.cps.all (· < 128)
  · exact wpAny_pyIter_wide ha (fin "str_iterator" (by decide) (fun A hA => Walks.strWide hA _ x t) fun A i s Q E st h => wpAny_pyIter_striter_wide st h)
  · exact wpAny_pyIter_ascii ha (fin "str_ascii_iterator" (by decide) (fun A hA => Walks.strAscii hA _ x t) fun A i s Q E st h => wpAny_pyIter_striter_ascii st h)
end
theorem for_str {x : Str} {g : TG} {tb : TS} {D : Ends} {σ : St} {H : Hp} (Pv : Nat → St → Hp → Prop) (h0 : Pv 0 σ H)
    (hs : ∀ i c σ H, (cs x)[i]? = some c → Pv i σ H → g (.str (tx [c])) σ H fun σ2 H2 => tb { D with nx := Pv (i + 1), ct := Pv (i + 1), bk := D.nx } σ2 H2) (hd : ∀ σ H, Pv (cs x).length σ H → D.nx σ H) :
    ∃ W : Nat → Nat → St → Hp → Prop, (∃ m, W 0 m σ H) ∧ ∀ i m σ H, W i m σ H →
      ((Its x).stop i H ∧ D.nx σ H) ∨ ((Its x).go i H ∧ ∃ N : St → Hp → Prop, (∀ σ' H', N σ' H' → ∃ m', m' < m ∧ W (i + 1) m' σ' H') ∧ ∀ v H', (Its x).yld i H v H' → g v σ H' fun σ2 H2 => tb { D with nx := N, ct := N, bk := D.nx } σ2 H2) := by
  refine ⟨fun i m σ H => m = (cs x).length - i ∧ i ≤ (cs x).length ∧ Pv i σ H, ⟨(cs x).length, by simp, Nat.zero_le _, h0⟩, ?_⟩
  rintro i m σ H ⟨rfl, hi, p⟩
  by_cases hlt : i < (cs x).length
  · refine .inr ⟨hlt, Pv (i + 1), fun σ' H' p' => ⟨(cs x).length - (i + 1), by omega, rfl, hlt, p'⟩, fun v H' y => ?_⟩
    obtain ⟨e, c, hc, ev⟩ := y
    subst e ev
    exact hs i c σ _ hc p
  · have e : i = (cs x).length := by omega
    subst e
    exact .inl ⟨rfl, hd σ H p⟩
def Ite (x : Str) : It := ⟨fun i _ => i < (cs x).length, fun i H v H' => ∃ p c, H p = none ∧ (cs x)[i]? = some c ∧ v = .ref p ∧ H' = upd H p (.tup [.int (i : Nat), .str (tx [c])]), fun i _ => i = (cs x).length⟩
section
variable {X : Cx}
def iEnum (ta : TA) : TI := fun σ H R => ta σ H fun vs H1 => ∃ x, vs = [.str x] ∧ R (Ite x) H1
end
end L3
set_option Elab.async false
set_option linter.all false
set_option maxRecDepth 100000
set_option maxHeartbeats 4000000
namespace L3
open PySem PySem.Spec PyProof.Rows L2
theorem closure_is {env : Env} : ∀ (names : List (Str × NameKind)) (acc : List (Str × Addr)),
    (∀ y, (y, NameKind.free) ∈ names → ∃ c, env.cells.lookup y = some c) → (∀ y c, acc.lookup y = some c → env.cells.lookup y = some c) →
    ∃ cl, (forIn names acc fun (x : Str × NameKind) (cs : List (Str × Addr)) => if (x.2 == NameKind.free) = true then (do let a ← cellOf env x.1; pure (ForInStep.yield ((x.1, a) :: cs))) else pure (ForInStep.yield cs) : Sem (List (Str × Addr))) = pure cl ∧
      (∀ y c, cl.lookup y = some c → env.cells.lookup y = some c) ∧ (∀ y, (y, NameKind.free) ∈ names ∨ (acc.lookup y).isSome = true → ∃ c, cl.lookup y = some c)
  | [], acc, _, ha => ⟨acc, rfl, ha, fun y h => by
      rcases h with h | h
      · cases h
      · exact Option.isSome_iff_exists.mp h⟩
  | (n, k) :: r, acc, hn, ha => by
    by_cases hk : k = NameKind.free
    · subst hk
      obtain ⟨c, hc⟩ := hn n (by simp)
      have ha' : ∀ y d, ((n, c) :: acc).lookup y = some d → env.cells.lookup y = some d := fun y d e => by
        rw [List.lookup_cons] at e
        by_cases hy : (y == n) = true
        · rw [hy] at e
          have : y = n := eq_of_beq hy
          subst this
          cases e
          exact hc
        · have hy' : (y == n) = false := by simpa using hy
          rw [hy'] at e
          exact ha y d e
      obtain ⟨cl, e, h1, h2⟩ := closure_is r ((n, c) :: acc) (fun y hy => hn y (List.mem_cons_of_mem _ hy)) ha'
      refine ⟨cl, ?_, h1, fun y hy => h2 y ?_⟩
      · rw [List.forIn_cons]
        have ec : cellOf env n = pure c := by unfold cellOf; rw [hc]
        simp only [beq_self_eq_true, if_true, ec, pure_bind]
        exact e
      · rcases hy with hy | hy
        · rcases List.mem_cons.mp hy with q | q
          · cases q
            exact .inr (by simp)
          · exact .inl q
        · refine .inr ?_
          rw [List.lookup_cons]
          by_cases hyn : (y == n) = true
          · rw [hyn]; rfl
          · have hy' : (y == n) = false := by simpa using hyn
            rw [hy']; exact hy
    · obtain ⟨cl, e, h1, h2⟩ := closure_is r acc (fun y hy => hn y (List.mem_cons_of_mem _ hy)) ha
      refine ⟨cl, ?_, h1, fun y hy => h2 y ?_⟩
      · rw [List.forIn_cons]
        have ek : (k == NameKind.free) = false := by simpa using hk
        simp only [ek, Bool.false_eq_true, if_false, pure_bind]
        exact e
      · rcases hy with hy | hy
        · rcases List.mem_cons.mp hy with q | q
          · cases q; exact absurd rfl hk
          · exact .inl q
        · exact .inr hy
theorem closureFor_is {scope : Scope} {env : Env} (hn : ∀ y, (y, NameKind.free) ∈ scope.names → ∃ c, env.cells.lookup y = some c) :
    ∃ cl, closureFor scope env = pure cl ∧ (∀ y c, cl.lookup y = some c → env.cells.lookup y = some c) ∧ (∀ y, (y, NameKind.free) ∈ scope.names → ∃ c, cl.lookup y = some c) := by
  obtain ⟨cl, e, h1, h2⟩ := closure_is scope.names [] hn (fun y c h => by cases h)
  refine ⟨cl, ?_, h1, fun y hy => h2 y (.inl hy)⟩
  unfold closureFor
  simp only [bind_pure]
  exact e
abbrev testsOf (ifs : List Expr) (env : Env) : Sem Bool :=
  forIn ifs true fun c r => if r = true then (do let ok ← isTrue c env (eval c env); pure (ForInStep.yield ok)) else pure (ForInStep.yield r)
theorem comp_loop {prog : Program} {w : World} {A : Around} {R : Result → Shared → Prop} {s : Shared} {elt tg iter : Expr} {ifs : List Expr} {scope : Scope} {pos : Pos} {it acc : Value} {env : Env}
    (I : Nat → Shared → Prop) {EE : Value → Shared → Prop} (hEE : EE = notedBy (model prog w) A env fun e s' => R (.error e) s')
    (turn : ∀ n s, I n s → wpAny (model prog w) A (pyNext it) (fun r s1 => match r with
      | none => R (.ok .next) s1
      | some v => wpAny (model prog w) A (letOwnedTupleGo tg it v) (fun _ s2 => wpAny (model prog w) A (assign tg env v) (fun _ s3 =>
          wpAny (model prog w) A (testsOf ifs env) (fun ok s4 => if ok = true then
            wpAny (model prog w) A (eval elt env) (fun x s5 => wpAny (model prog w) A (call (.builtin "list.append") [acc, x]) (fun _ s6 => ∃ m, m < n ∧ I m s6) EE s5) EE s4
            else ∃ m, m < n ∧ I m s4) EE s3) EE s2) EE s1) EE s) (n : Nat) (h : I n s) :
    codeAny (model prog w) A (.compLoop (.ListComp elt [⟨tg, iter, ifs, 0⟩] scope pos) 0 it acc env) R s := by
  subst hEE
  refine codeAny_loop rfl I (fun n s hI => ?_) n h
  show wpAny _ A ((compTurn (.ListComp elt [⟨tg, iter, ifs, 0⟩] scope pos) 0 it acc env).onRaise (fun x => do noteFrame x env; theTreesLotGoes x)) _ _ s
  refine wpAny_noted ?_
  rw [compTurn_list]
  refine wpAny_bind (wpAny_standAt (wpAny_bind (thn (turn n s hI) fun r s1 h1 => ?_)))
  cases r with
  | none => exact wpAny_pure h1
  | some v =>
    refine wpAny_bind (thn h1 fun _ s2 h2 => wpAny_bind (thn h2 fun _ s3 h3 => wpAny_bind (thn h3 fun ok s4 h4 => ?_)))
    cases ok with
    | false => exact wpAny_pure ⟨rfl, h4⟩
    | true => exact wpAny_bind (wpAny_bind (thn h4 fun x s5 h5 => wpAny_bind (thn h5 fun _ s6 h6 => wpAny_pure (wpAny_pure ⟨rfl, h6⟩))))
def compCx (X : Cx) (scope : Scope) (cl : List (Str × Addr)) (C : Addr) (N : List Str) (pins : List (Addr × Obj)) (s3 : Shared) (H3 : Hp) (fp : List Addr) (E : Value → Shared → Prop) : Cx :=
  { X with N := N, s₀ := s3, H₀ := H3, env := compEnvC scope cl C X.env, outer := X.stack, ex := fp, fn := fun _ => false, pn := X.pn ++ pins, xe := E }
def seen (σ : St) (own : Nat) (ix : List Nat) : St := List.replicate own none ++ ix.map fun i => (σ[i]?).join
structure CompOk (X : Cx) (scope : Scope) (own caps : List Str) (ix : List Nat) : Prop where
  kind : scope.kind = .function
  nocell : ∀ y ∈ scope.names, y.2 ≠ .cell
  names : ∀ y ∈ scope.names, y.2 = .local → scope.names.lookup y.1 = some .local
  free : ∀ y, (y, NameKind.free) ∈ scope.names → X.env.kindOf y = some .cell
  hown : ∀ y ∈ own, scope.names.lookup y = some .local
  hcaps : ∀ y ∈ caps, scope.names.lookup y = some .free
  hix : ix.map (fun i => X.N[i]?) = caps.map some
theorem lookup_mem {α β : Type} [BEq α] [LawfulBEq α] {l : List (α × β)} {a : α} {b : β} (h : l.lookup a = some b) : (a, b) ∈ l := by
  induction l with
  | nil => cases h
  | cons p r ih =>
    obtain ⟨c, d⟩ := p
    rw [List.lookup_cons] at h
    by_cases e : (a == c) = true
    · rw [e] at h
      cases h
      rw [eq_of_beq e]
      exact List.mem_cons_self
    · have e' : (a == c) = false := by simpa using e
      rw [e'] at h
      exact List.mem_cons_of_mem _ (ih h)
theorem lookup_relabel {scope : Scope} {env : Env} (hf : env.scope.kind = .function) : ∀ {names : List (Str × NameKind)} {x : Str} {k : NameKind}, names.lookup x = some k →
    (names.map fun (n, k) => if (k == NameKind.free && env.scope.kind == .function && env.kindOf n == some .cell) then (n, NameKind.cell) else (n, k)).lookup x = some (if (k == NameKind.free && env.scope.kind == .function && env.kindOf x == some .cell) = true then .cell else k)
  | [], _, _, h => by simp at h
  | (n, k') :: r, x, k, h => by
    have ih := @lookup_relabel scope env hf r x k
    show List.lookup x ((if (k' == NameKind.free && env.scope.kind == .function && env.kindOf n == some .cell) = true then (n, NameKind.cell) else (n, k')) :: _) = _
    by_cases hx : (x == n) = true
    · have hxn : x = n := eq_of_beq hx
      subst hxn
      rw [List.lookup_cons, hx] at h
      cases h
      by_cases c : (k' == NameKind.free && env.scope.kind == .function && env.kindOf x == some .cell) = true
      · rw [if_pos c, if_pos c, List.lookup_cons, hx]
      · rw [if_neg c, if_neg c, List.lookup_cons, hx]
    · have hx' : (x == n) = false := by simpa using hx
      rw [List.lookup_cons, hx'] at h
      by_cases c : (k' == NameKind.free && env.scope.kind == .function && env.kindOf n == some .cell) = true
      · rw [if_pos c, List.lookup_cons, hx']; exact ih h
      · rw [if_neg c, List.lookup_cons, hx']; exact ih h
theorem relabel_none {scope : Scope} {env : Env} : ∀ {names : List (Str × NameKind)} {x : Str}, names.lookup x = none →
    (names.map fun (n, k) => if (k == NameKind.free && env.scope.kind == .function && env.kindOf n == some .cell) then (n, NameKind.cell) else (n, k)).lookup x = none
  | [], _, _ => rfl
  | (n, k') :: r, x, h => by
    have ih := @relabel_none scope env r x
    show List.lookup x ((if (k' == NameKind.free && env.scope.kind == .function && env.kindOf n == some .cell) = true then (n, NameKind.cell) else (n, k')) :: _) = _
    by_cases hx : (x == n) = true
    · rw [List.lookup_cons, hx] at h; cases h
    · have hx' : (x == n) = false := by simpa using hx
      rw [List.lookup_cons, hx'] at h
      by_cases c : (k' == NameKind.free && env.scope.kind == .function && env.kindOf n == some .cell) = true
      · rw [if_pos c, List.lookup_cons, hx']; exact ih h
      · rw [if_neg c, List.lookup_cons, hx']; exact ih h
section
variable {X : Cx} {scope : Scope} {own caps : List Str} {ix : List Nat} {cl : List (Str × Addr)} {pins : List (Addr × Obj)} {σ : St} {H : Hp} {s : Shared} {fp : List Addr} {E : Value → Shared → Prop}
theorem comp_start (S : CompOk X scope own caps ix) (hcl1 : ∀ y c, cl.lookup y = some c → X.env.cells.lookup y = some c) (hcl2 : ∀ y, (y, NameKind.free) ∈ scope.names → ∃ c, cl.lookup y = some c)
    (I : Inv X pins σ H s) (hfp : ∀ b ∈ fp, FpOk X pins H b) (hlt : ∀ b ∈ fp, b < s.heap.objs.size) {h4 : Heap} {t4 : Nat} (hn : h4.Ns s.heap.objs.size fun _ => none) (hk : ∀ b o, s.heap.get? b = some o → h4.get? b = some o) :
    Inv (compCx X scope cl s.heap.objs.size (own ++ caps) pins s H fp E) [] (seen σ own.length ix) H { s with heap := h4, toks := t4 } := by
  have kf : X.env.scope.kind = .function := I.ok.kind
  have nofp : ∀ b ∈ fp, b ≠ s.heap.objs.size := fun b hb => Nat.ne_of_lt (hlt b hb)
  have cellLt : ∀ x c, X.env.cells.lookup x = some c → c < s.heap.objs.size := fun x c e => by
    obtain ⟨v, o, ho, _⟩ := I.cell x c e
    exact Heap.lt_size ho
  have kinds : ∀ y k, scope.names.lookup y = some k → (relabel scope X.env).names.lookup y = some (if (k == NameKind.free && X.env.scope.kind == .function && X.env.kindOf y == some .cell) = true then .cell else k) := fun y k e => lookup_relabel (scope := scope) kf e
  have back : ∀ y k, (relabel scope X.env).names.lookup y = some k → ∃ k', scope.names.lookup y = some k' ∧ k = (if (k' == NameKind.free && X.env.scope.kind == .function && X.env.kindOf y == some .cell) = true then .cell else k') := fun y k e => by
    cases q : scope.names.lookup y with
    | none =>
      have := relabel_none (scope := scope) (env := X.env) q
      have e' : (scope.names.map fun (n, k) => if (k == NameKind.free && X.env.scope.kind == .function && X.env.kindOf n == some .cell) then (n, NameKind.cell) else (n, k)).lookup y = some k := e
      rw [this] at e'; cases e'
    | some k' =>
      refine ⟨k', rfl, ?_⟩
      have := kinds y k' q
      rw [e] at this
      exact Option.some.inj this
  have isCell : ∀ y, scope.names.lookup y = some .free → (relabel scope X.env).names.lookup y = some .cell := fun y e => by
    have := kinds y _ e
    rw [this, if_pos]
    rw [S.free y (lookup_mem e), kf]
    rfl
  refine ⟨⟨I.ok.mod, ?_, I.ok.glob, I.ok.blt, Nat.le_refl _, ?_, ?_, ?_, I.ok.hd, I.ok.frames, .inl rfl, ?_, I.bs, Nat.le_trans I.ok.bsz I.sz, ?_, ?_, I.stack, I.stkFree⟩, rfl, I.bare, Un.kept hk, ⟨_, hn, ?_⟩, ?_, ?_, ?_, ?_, I.hok.kept hk, ?_⟩
  · show (relabel scope X.env).kind = .function
    exact S.kind
  · intro x y c h1 h2
    exact I.ok.inj x y c (hcl1 x c h1) (hcl1 y c h2)
  · intro y hy
    have hy' : (relabel scope X.env).names.lookup y = some .cell ∨ (relabel scope X.env).names.lookup y = some .free := hy
    have : scope.names.lookup y = some .free := by
      rcases hy' with q | q
      · obtain ⟨k', e, ek⟩ := back y _ q
        by_cases c : (k' == NameKind.free && X.env.scope.kind == .function && X.env.kindOf y == some .cell) = true
        · rw [Bool.and_eq_true, Bool.and_eq_true] at c
          rw [e, eq_of_beq c.1.1]
        · rw [if_neg c] at ek
          exact absurd ek.symm (S.nocell _ (lookup_mem e))
      · obtain ⟨k', e, ek⟩ := back y _ q
        by_cases c : (k' == NameKind.free && X.env.scope.kind == .function && X.env.kindOf y == some .cell) = true
        · rw [if_pos c] at ek; cases ek
        · rw [if_neg c] at ek
          rw [e, ← ek]
    exact hcl2 y (lookup_mem this)
  · intro x c h _
    exact absurd h (by simp [compCx])
  · intro b hb
    refine ⟨nofp b hb, fun x c e => ?_⟩
    exact (hfp b hb).2.2.2.2.1 x c (hcl1 x c e)
  · intro b o e hb
    obtain ⟨_, _, _, q, _⟩ := hfp b hb
    rcases q with q | q
    · exact I.ok.noex b o e q
    · exact absurd (Nat.lt_of_lt_of_le (Heap.lt_size e) (Nat.le_trans I.ok.bsz q)) (Nat.lt_irrefl _)
  · intro b hb z
    rcases List.mem_cons.mp (I.stkSub b z) with e | e
    · exact (hfp b hb).2.1 e
    · exact (hfp b hb).2.2.1 e
  · intro i y v h1 h2 h3
    have hi : own.length ≤ i := by
      refine Nat.le_of_not_lt fun hlt' => ?_
      unfold seen at h2
      rw [List.getElem?_append_left (by rw [List.length_replicate]; exact hlt'), List.getElem?_replicate, if_pos hlt'] at h2
      cases h2
    have h1' : caps[i - own.length]? = some y := by
      have : (own ++ caps)[i]? = some y := h1
      rw [List.getElem?_append_right hi] at this
      exact this
    have h2' : (ix.map fun i => (σ[i]?).join)[i - own.length]? = some (some v) := by
      unfold seen at h2
      rw [List.getElem?_append_right (by rw [List.length_replicate]; exact hi), List.length_replicate] at h2
      exact h2
    rw [List.getElem?_map] at h2'
    have hx := congrArg (fun l => l[i - own.length]?) S.hix
    simp only [List.getElem?_map, h1', Option.map_some] at hx
    cases q : ix[i - own.length]? with
    | none => rw [q] at h2'; cases h2'
    | some j =>
      rw [q] at h2' hx
      have hj : X.N[j]? = some y := Option.some.inj hx
      have hv : (σ[j]?).join = some v := Option.some.inj h2'
      have hσ : σ[j]? = some (some v) := by
        cases r : σ[j]? with
        | none => rw [r] at hv; cases hv
        | some z => rw [r] at hv; cases z with
          | none => cases hv
          | some z => cases hv; rfl
      have hfree : scope.names.lookup y = some .free := S.hcaps y (List.mem_of_getElem? h1')
      have hkc := S.free y (lookup_mem hfree)
      obtain ⟨m, hm, hl⟩ := I.loc
      obtain ⟨u, ru, l⟩ := hl j y v hj hσ (.inr (.inl hkc))
      refine ⟨u, ru, .inr ⟨.inl (isCell y hfree), ?_⟩⟩
      rcases l with ⟨k, _⟩ | ⟨_, c, e, z⟩
      · have : X.env.kindOf y = some .local := k
        rw [hkc] at this; cases this
      · obtain ⟨c', e'⟩ := hcl2 y (lookup_mem hfree)
        have := hcl1 y c' e'
        rw [e] at this
        cases this
        obtain ⟨o, ho, hd⟩ := z
        exact ⟨c, e', o, hk c o ho, hd⟩
  · intro x c e
    obtain ⟨v, o, ho, hd⟩ := I.cell x c (hcl1 x c e)
    exact ⟨v, o, hk c o ho, hd⟩
  · exact I.hok.fresh (Nat.le_refl _)
  · intro x c e
    exact I.freeC x c (hcl1 x c e)
  · intro p hp
    have hp' : p ∈ X.pn ++ pins := by
      have : p ∈ (X.pn ++ pins) ++ [] := hp
      rwa [List.append_nil] at this
    obtain ⟨e, n, ne, nf, d⟩ := I.pin p hp'
    refine ⟨hk _ _ e, n, ?_, fun z => ?_, d⟩
    · exact Nat.ne_of_lt (Heap.lt_size e)
    · rcases List.mem_cons.mp (I.stkSub p.1 z) with q | q
      · exact ne q
      · exact nf q
  · show (seen σ own.length ix).length = (own ++ caps).length
    have := congrArg List.length S.hix
    rw [List.length_map, List.length_map] at this
    unfold seen
    rw [List.length_append, List.length_replicate, List.length_map, List.length_append, this]
end
end L3
set_option Elab.async false
set_option linter.all false
set_option maxRecDepth 100000
set_option maxHeartbeats 4000000
namespace L3
open PySem PySem.Spec PyProof.Rows L2
def KeepsSt (σ σ' : St) : Prop := σ.length = σ'.length ∧ ∀ (i : Nat) v, σ[i]? = some (some v) → σ'[i]? = some (some v)
def PTs (X : Cx) (ifs : List Expr) (t : TT) : Prop :=
  ∀ (pins : List (Addr × Obj)) (s : Shared) (σ : St) (H : Hp) (Q : Bool → Hp → Prop), Inv X pins σ H s → t σ H Q → wpAny (model X.prog X.w) X.A (testsOf ifs X.env) (TP X pins σ Q) X.xe s
def tYes : TT := fun _ H Q => Q true H
theorem pts_nil {X : Cx} : PTs X [] tYes := fun _ _ _ H _ I h => wpAny_pure ⟨H, I, h⟩
theorem pts_one {X : Cx} {c : Expr} {t : TT} (h : PT X c t) : PTs X [c] t := fun pins s σ H Q I hq => by
  show wpAny _ _ (forIn [c] true _) _ _ s
  simp only [List.forIn_cons, List.forIn_nil, if_true]
  exact wpAny_bind (wpAny_bind (thn (h pins s σ H Q I hq) fun b s' hb => wpAny_pure (wpAny_pure hb)))
def tComp (wi : TI) (g : TG) (tt : TT) (te : TE) (own : Nat) (ix : List Nat) : TE := fun σ H Q => wi σ H fun J H1 => ∀ D, H1 D = none → ∃ W : Nat → Nat → List V → Hp → Prop, (∃ m, W 0 m [] (upd H1 D (.lst []))) ∧
  ∀ i m acc H', W i m acc H' → (J.stop i H' ∧ Q (.ref D) H') ∨ (J.go i H' ∧ ∀ x H2, J.yld i H' x H2 → g x (seen σ own ix) H2 fun σ3 H3 => KeepsSt (seen σ own ix) σ3 ∧ tt σ3 H3 fun b H4 => if b = true then
    te σ3 H4 fun v H5 => H5 D = some (.lst acc) ∧ acc.length < sizeLine ∧ ∃ m', m' < m ∧ W (i + 1) m' (acc ++ [v]) (upd H5 D (.lst (acc ++ [v])))
    else ∃ m', m' < m ∧ W (i + 1) m' acc H4)
theorem Un.but {fs ex : List Addr} {H H' : Hp} {h h1 h2 : Heap} {a : Addr} (u : Un fs ex H H' h h1) (sb : Heap.SameBut a h1 h2) (ha : h.get? a = none) : Un fs ex H H' h h2 := by
  have ne : ∀ b o, h.get? b = some o → b ≠ a := fun b o e z => by subst z; rw [ha] at e; cases e
  refine ⟨fun b o e n hb hx => (sb.2 b (ne b o e)).trans (u.keep b o e n hb hx), fun b o e n hb hx => ?_, u.free, fun b o e hx => ?_, u.tups, u.frzs, u.tbls⟩
  · obtain ⟨sl, q⟩ := u.slot b o e n hb hx
    exact ⟨sl, (sb.2 b (ne b o e)).trans q⟩
  · obtain ⟨o', q⟩ := u.there b o e hx
    exact ⟨o', (sb.2 b (ne b o e)).trans q⟩
theorem HOk.but {P : Program} {w : World} {H : Hp} {h1 h2 : Heap} {a : Addr} (ok : HOk P w H h1) (sb : Heap.SameBut a h1 h2) (ha : H a = none) : HOk P w H h2 := fun b ob e => by
  refine (ok b ob e).stay (fun c u hc q => (sb.2 c ?_).trans q) (fun _ q => q) fun _ _ q => q
  rintro rfl
  rcases hc with rfl | hc
  · rw [ha] at e; cases e
  · rw [ha] at hc; cases hc
section
variable {X : Cx} {scope : Scope} {own caps : List Str} {ix : List Nat} {elt tg iter : Expr} {ifs : List Expr} {pos : Pos} {wi : TI} {g : TG} {tt : TT} {te : TE}
theorem comp_block (hc : X.calm = true) (S : CompOk X scope own caps ix)
    (hg : ∀ cl C pins s3 H3 fp, PG (compCx X scope cl C (own ++ caps) pins s3 H3 fp fun _ _ => False) tg g)
    (ht : ∀ cl C pins s3 H3 fp, PTs (compCx X scope cl C (own ++ caps) pins s3 H3 fp fun _ _ => False) ifs tt)
    (he : ∀ cl C pins s3 H3 fp, PE (compCx X scope cl C (own ++ caps) pins s3 H3 fp fun _ _ => False) elt te)
    {cl : List (Str × Addr)} (hc1 : ∀ y c, cl.lookup y = some c → X.env.cells.lookup y = some c) (hc2 : ∀ y, (y, NameKind.free) ∈ scope.names → ∃ c, cl.lookup y = some c)
    {pins : List (Addr × Obj)} {σ : St} {H2 : Hp} {s2 : Shared} {Q : VK} {it : Addr} {fp : List Addr} {tn : Nat → Heap → Prop} {J : It} (I2 : Inv X pins σ H2 s2) (T : Turn X.prog X.w X.K tg J fp it tn) (st2 : tn 0 s2.heap) (f2 : ∀ b ∈ fp, FpOk X pins H2 b)
    (q : ∀ D, H2 D = none → ∃ W : Nat → Nat → List V → Hp → Prop, (∃ m, W 0 m [] (upd H2 D (.lst []))) ∧
      ∀ i m acc H', W i m acc H' → (J.stop i H' ∧ Q (.ref D) H') ∨ (J.go i H' ∧ ∀ x H2, J.yld i H' x H2 → g x (seen σ own.length ix) H2 fun σ3 H3 => KeepsSt (seen σ own.length ix) σ3 ∧ tt σ3 H3 fun b H4 => if b = true then
        te σ3 H4 fun v H5 => H5 D = some (.lst acc) ∧ acc.length < sizeLine ∧ ∃ m', m' < m ∧ W (i + 1) m' (acc ++ [v]) (upd H5 D (.lst (acc ++ [v])))
        else ∃ m', m' < m ∧ W (i + 1) m' acc H4))
    {RR : Value → Addr → Result → Shared → Prop} {E : Value → Shared → Prop}
    (hRR : ∀ D C m s' H', H2 D = none → s'.heap.Ns C m → FpOk X pins H' C → Inv X pins σ H' s' → Q (.ref D) H' → RR (.ref D) C (.ok .next) s') :
    wpAny (model X.prog X.w) X.A (newList []) (fun acc s3 => wpAny (model X.prog X.w) X.A (newFunctionEnv scope X.env.globals cl [] X.env.qual none .none (some X.env)) (fun cenv s4 =>
      codeAny (model X.prog X.w) X.A (.compStart (.ListComp elt [⟨tg, iter, ifs, 0⟩] scope pos) 0 (.ref it) acc { cenv with scope := relabel scope X.env }) (RR acc cenv.locals) s4) E s3) E s2 := by
  have hD : H2 s2.heap.objs.size = none := I2.hok.fresh (Nat.le_refl _)
  obtain ⟨W, ⟨m0, w0⟩, turn⟩ := q _ hD
  refine wpAny_newObj_type (wpAny_newFunctionEnv S.nocell (by intro y hy; simp at hy) (fun h1 hns1 hsb1 => ?_) S.kind)
  dsimp only at hns1 hsb1 ⊢
  have I3 : Inv X pins σ (upd H2 s2.heap.objs.size (.lst [])) { s2 with heap := s2.heap.push { cls := .type "list", dict := none, data := .seq ([] : List Value).toArray } } :=
    I2.lnew (its := []) (t' := s2.toks) .nil (Nat.zero_le _)
  generalize hs3 : ({ s2 with heap := s2.heap.push { cls := .type "list", dict := none, data := .seq ([] : List Value).toArray } } : Shared) = s3 at I3
  have e3 : s2.heap.push { cls := .type "list", dict := none, data := .seq ([] : List Value).toArray } = s3.heap := by rw [← hs3]
  rw [e3] at hns1 hsb1 ⊢
  have k1 : ∀ b o, s3.heap.get? b = some o → h1.get? b = some o := fun b o e => (hsb1.2 b (Nat.ne_of_lt (Heap.lt_size e))).trans (Heap.get?_push_of_some _ e)
  have k23 : ∀ b o, s2.heap.get? b = some o → s3.heap.get? b = some o := fun b o e => by rw [← e3]; exact Heap.get?_push_of_some _ e
  have hz : s3.heap.objs.size = s2.heap.objs.size + 1 := by rw [← e3, Heap.size_push]
  have fpObj : ∀ b ∈ fp, ∃ o, s2.heap.get? b = some o := fun b hb => let ⟨o, e, _⟩ := T.obj 0 _ st2 b hb; ⟨o, e⟩
  have fplt : ∀ b ∈ fp, b < s2.heap.objs.size := fun b hb => let ⟨o, e⟩ := fpObj b hb; Heap.lt_size e
  have f3 : ∀ b ∈ fp, FpOk X pins (upd H2 s2.heap.objs.size (.lst [])) b := fun b hb => ⟨by rw [upd_ne (Nat.ne_of_lt (fplt b hb))]; exact (f2 b hb).1, (f2 b hb).2⟩
  have I4 : Inv (compCx X scope cl s3.heap.objs.size (own ++ caps) pins s3 (upd H2 s2.heap.objs.size (.lst [])) fp fun _ _ => False) [] (seen σ own.length ix) (upd H2 s2.heap.objs.size (.lst [])) { s3 with heap := h1, toks := s3.toks + ([] : List (Str × Value)).length } :=
    comp_start S hc1 hc2 I3 f3 (fun b hb => by rw [hz]; exact Nat.lt_succ_of_lt (fplt b hb)) hns1 k1
  have st4 : tn 0 h1 := T.keep 0 _ _ st2 fun b hb o e => k1 b o (k23 b o e)
  generalize hs4 : ({ s3 with heap := h1, toks := s3.toks + ([] : List (Str × Value)).length } : Shared) = s4 at I4
  have es4 : ({ s2 with heap := h1, toks := s2.toks + ([] : List (Str × Value)).length } : Shared) = s4 := by rw [← hs4, ← hs3]
  have e4 : h1 = s4.heap := by rw [← hs4]
  have loop : codeAny (model X.prog X.w) X.A (.compLoop (.ListComp elt [⟨tg, iter, ifs, 0⟩] scope pos) 0 (.ref it) (.ref s2.heap.objs.size) (compEnvC scope cl s3.heap.objs.size X.env)) (RR (.ref s2.heap.objs.size) s3.heap.objs.size) s4 := by
    let X' := compCx X scope cl s3.heap.objs.size (own ++ caps) pins s3 (upd H2 s2.heap.objs.size (.lst [])) fp fun _ _ => False
    have fp' : ∀ {H' : Hp}, (∀ b ∈ fp, H' b = none) → ∀ b ∈ fp, FpOk X' [] H' b := fun {H'} hn b hb => by
      obtain ⟨_, a1, a2, a3, a4, a5⟩ := f3 b hb
      refine ⟨hn b hb, Nat.ne_of_lt (show b < s3.heap.objs.size from by rw [hz]; exact Nat.lt_succ_of_lt (fplt b hb)), fun z => ?_, .inl hb, fun x c e => a4 x c (hc1 x c e), fun p hp => ?_⟩
      · rcases List.mem_cons.mp (I3.stkSub b z) with e | e
        · exact a1 e
        · exact a2 e
      · have : p ∈ (X.pn ++ pins) ++ [] := hp
        rw [List.append_nil] at this
        exact a5 p this
    refine comp_loop (fun n s' => ∃ i acc H', Inv X' [] (seen σ own.length ix) H' s' ∧ tn i s'.heap ∧ (∀ b ∈ fp, H' b = none) ∧ W i n acc H') rfl ?_ m0 ⟨0, [], _, I4, by rw [← e4]; exact st4, fun b hb => (f3 b hb).1, w0⟩
    rintro n s5 ⟨i, acc, H5, I5, st5, fr5, w5⟩
    refine wpAny_noRaise ?_
    rcases turn i n acc H5 w5 with ⟨stop, qn⟩ | ⟨go, step⟩
    · refine thn (T.done X' rfl rfl rfl hc i [] s5 _ H5 _ I5 (fp' fr5) st5 stop) fun r s6 ⟨hr, I6⟩ => ?_
      subst hr
      obtain ⟨m, hm, _⟩ := I6.loc
      refine hRR _ _ m s6 H5 hD hm (I3.fpOk (Nat.le_refl _) I6.free) (I3.call' (s' := s6) I6.os I6.base I6.hok I6.bare fun b hb => ?_) qn
      obtain ⟨_, a1, a2, a3, a4, a5⟩ := f3 b hb
      exact ⟨a3, a1, a4, a5⟩
    · refine thn (T.item X' rfl rfl rfl hc i [] s5 _ H5 (fun _ _ => False) I5 (fp' fr5) st5 go) fun r s6 ⟨u, hr, h6⟩ => ?_
      subst hr
      refine wpAny_noRaise (thn h6 fun _ s7 ⟨x, H7, I7, r7, y7, st7, fr7⟩ => ?_)
      have I7' := I7.pinned (fp' fr7) (T.obj _ _ st7)
      refine wpAny_noRaise (thn (hg _ _ _ _ _ _ _ s7 _ H7 x u _ I7' r7 (step x H7 y7)) fun _ s8 ⟨σ8, H8, I8, ks, q8⟩ => ?_)
      refine wpAny_noRaise (thn (ht _ _ _ _ _ _ _ s8 σ8 H8 _ I8 q8) fun b s9 ⟨H9, I9, q9⟩ => ?_)
      have back : ∀ {s' : Shared} {H' : Hp} {acc' : List V} {m' : Nat}, Inv X' ([] ++ pinsAt fp s7.heap) σ8 H' s' → m' < n → W (i + 1) m' acc' H' → ∃ m, m < n ∧ ∃ i acc H', Inv X' [] (seen σ own.length ix) H' s' ∧ tn i s'.heap ∧ (∀ b ∈ fp, H' b = none) ∧ W i m acc H' := fun {s' H' acc' m'} J' hm w' => by
        refine ⟨m', hm, i + 1, acc', H', (J'.unpinned).weak ks.1 ks.2, T.keep _ _ _ st7 fun b hb o e => (J'.pin (b, o) (List.mem_append_right _ (List.mem_append_right _ (mem_pinsAt hb e)))).1, fun b hb => ?_, w'⟩
        obtain ⟨o, e, d⟩ := T.obj _ _ st7 b hb
        exact (J'.pin (b, o) (List.mem_append_right _ (List.mem_append_right _ (mem_pinsAt hb e)))).2.1
      cases b with
      | false =>
        rw [if_neg Bool.false_ne_true] at q9 ⊢
        obtain ⟨m', hm, w'⟩ := q9
        exact back I9 hm w'
      | true =>
        rw [if_pos rfl] at q9 ⊢
        refine wpAny_noRaise (thn (he _ _ _ _ _ _ _ s9 σ8 H9 _ I9 q9) fun v s10 ⟨y, H10, I10, r10, hD10, hsz, m', hm, w'⟩ => ?_)
        refine wpAny_noRaise ?_
        have := mt_append (X := X') _ s10 σ8 H10 (.ref s2.heap.objs.size) [y] (.ref s2.heap.objs.size) [v] (fun _ H' => H' = upd H10 s2.heap.objs.size (.lst (acc ++ [y]))) I10 rfl (.cons r10 .nil) ⟨_, acc, y, rfl, rfl, hD10, hsz, rfl⟩
        refine thn this fun _ s11 ⟨_, H11, I11, _, eH⟩ => ?_
        subst eH
        exact back I11 hm w'
  have goal : codeAny (model X.prog X.w) X.A (.compStart (.ListComp elt [⟨tg, iter, ifs, 0⟩] scope pos) 0 (.ref it) (.ref s2.heap.objs.size) (compEnvC scope cl s3.heap.objs.size X.env)) (RR (.ref s2.heap.objs.size) s3.heap.objs.size) s4 :=
    codeAny_compStart_list loop (T.self _ 0 s4 _ _ (by rw [← e4]; exact st4) loop)
  rw [← es4] at goal
  exact goal
theorem pe_comp (hc : X.calm = true) (S : CompOk X scope own caps ix) (hi : PI X tg iter wi)
    (hg : ∀ cl C pins s3 H3 fp, PG (compCx X scope cl C (own ++ caps) pins s3 H3 fp fun _ _ => False) tg g)
    (ht : ∀ cl C pins s3 H3 fp, PTs (compCx X scope cl C (own ++ caps) pins s3 H3 fp fun _ _ => False) ifs tt)
    (he : ∀ cl C pins s3 H3 fp, PE (compCx X scope cl C (own ++ caps) pins s3 H3 fp fun _ _ => False) elt te)
    (hs : ∀ x, foldedSetIterable iter X.env x = pure x := by intro _; rfl) :
    PE X (.ListComp elt [⟨tg, iter, ifs, 0⟩] scope pos) (tComp wi g tt te own.length ix) := by
  intro pins s σ H Q I h
  obtain ⟨cl, hclos, hc1, hc2⟩ := closureFor_is (scope := scope) (env := X.env) fun y hy => I.ok.has y (.inl (S.free y hy))
  rw [eval_ListComp]
  refine wpAny_comprehension_free (use := none) rfl hs hclos S.kind S.names (thn (hi pins s σ H _ I h) fun v s1 h1 => thn h1 fun itv s2 h2 => ?_)
  obtain ⟨it, fp, tn, J, H2, e, I2, T, st2, f2, q⟩ := h2
  subst e
  refine comp_block (RR := fun acc C => compPost (model X.prog X.w) X.A X.xe none (EP X pins σ Q) acc C) hc S hg ht he hc1 hc2 I2 T st2 f2 q ?_
  intro D C m s' H' _ hn fc I' qn
  obtain ⟨a0, a1, a2, a3, a4, a5⟩ := fc
  exact ⟨m, hn, fun h' sb => ⟨.ref D, H', I'.turned (t' := s'.toks) (fun b o hb e => (sb.2 b hb).trans e) a0 a1 a3 a4 a5, rfl, qn⟩⟩
def tSetComp (i : Nat) (t : TE) : TS := fun D σ H => t σ H fun x H1 => D.nx (σ.set i (some x)) H1
theorem ps_set_comp {i : Nat} {y : Str} {py spos : Pos} (hN : X.N.Nodup) (hy : X.N[i]? = some y) (hly : Loc X.env.scope y) (hf : X.fn y = true ∨ X.env.scope.names.lookup y = some .local) (hc : X.calm = true) (S : CompOk X scope own caps ix) (hi : PI X tg iter wi)
    (hg : ∀ cl C pins s3 H3 fp, PG (compCx X scope cl C (own ++ caps) pins s3 H3 fp fun _ _ => False) tg g)
    (ht : ∀ cl C pins s3 H3 fp, PTs (compCx X scope cl C (own ++ caps) pins s3 H3 fp fun _ _ => False) ifs tt)
    (he : ∀ cl C pins s3 H3 fp, PE (compCx X scope cl C (own ++ caps) pins s3 H3 fp fun _ _ => False) elt te)
    (hsw : swapsWith (.ListComp elt [⟨tg, iter, ifs, 0⟩] scope pos) (some (.Name y py)) spos.line X.env = pure true := by rfl)
    (hs : ∀ x, foldedSetIterable iter X.env x = pure x := by intro _; rfl) :
    PS X (.Assign [.Name y py] (.ListComp elt [⟨tg, iter, ifs, 0⟩] scope pos) spos) (tSetComp i (tComp wi g tt te own.length ix)) := by
  intro pins s σ H D I h
  obtain ⟨cl, hclos, hc1, hc2⟩ := closureFor_is (scope := scope) (env := X.env) fun y hy => I.ok.has y (.inl (S.free y hy))
  rw [exec_Assign_Name_used _ _ _ _ hsw]
  refine wpAny_bind (wpAny_standAt (wpAny_bind ?_))
  show wpAny _ X.A (do let _ ← comprehension (.ListComp elt [⟨tg, iter, ifs, 0⟩] scope pos) scope X.env _ (newList []) false (eval iter X.env) (some (assign (.Name y py) X.env))) _ _ s
  refine wpAny_bind (thn (wpAny_comprehension_free (use := some (assign (.Name y py) X.env)) (Q := fun _ s' => SP X pins D .next s') rfl hs hclos S.kind S.names (thn (hi pins s σ H _ I h) fun v s1 h1 => thn h1 fun itv s2 h2 => ?_)) fun _ s' hq => wpAny_pure (wpAny_pure hq))
  obtain ⟨it, fp, tn, J, H2, e, I2, T, st2, f2, q⟩ := h2
  subst e
  refine comp_block (Q := fun x H1 => D.nx (σ.set i (some x)) H1) (RR := fun acc C => compPost (model X.prog X.w) X.A X.xe (some (assign (.Name y py) X.env)) (fun _ s' => SP X pins D .next s') acc C) hc S hg ht he hc1 hc2 I2 T st2 f2 q ?_
  intro D' C m s' H1 hD' hn fc I1 nx
  obtain ⟨a0, a1, a2, a3, a4, a5⟩ := fc
  show wpAny _ X.A (assign (.Name y py) X.env (.ref D')) _ _ s'
  refine wpAny_assign_Name (store_ok2 I1 hN hy hly (v := .ref D') rfl (fun s'' I2' ⟨a, sb, ha⟩ => ?_) hf)
  have hCa : C ≠ a := by
    rcases ha with e | e
    · rw [e]; exact a1
    · exact fun z => a4 _ _ e z.symm
  refine ⟨m, hn.sameBut sb hCa, fun h' sb' => ⟨_, H1, I2'.turned (t' := s''.toks) (fun b o hb e => (sb'.2 b hb).trans e) a0 a1 a3 a4 a5, nx⟩⟩
end
end L3
set_option Elab.async false
set_option linter.all false
set_option maxRecDepth 100000
set_option maxHeartbeats 4000000
namespace L3
open PySem PySem.Spec PyProof.Rows L2
section
variable {X : Cx} {a b : Expr} {ta tb : TE} {pos : Pos}
def rAddA : R2 := fun x y H Q => (∃ i j, x = .int i ∧ y = .int j ∧ Q (.int (i + j)) H) ∨ (∃ i j, x = .str i ∧ y = .str j ∧ i.length + j.length ≤ sizeLine ∧ Q (.str (i ++ j)) H) ∨ rCat x y H Q
theorem op_addA : OpR X (binaryOp .Add) rAddA := op_add.or (op_add_str.or op_cat)
def rMulA : R2 := fun x y H Q => (∃ i j, x = .int i ∧ y = .int j ∧ CMul i j ∧ Q (.int (i * j)) H) ∨ ∃ z n, x = .str z ∧ y = .int n ∧ 0 ≤ n ∧ n ≤ 1000 ∧ z.length ≤ 1000 ∧ Q (.str (tx (List.replicate n.toNat (cs z)).flatten)) H
theorem op_mulA : OpR X (binaryOp .Mult) rMulA := op_mul.or op_mul_str
def rLtA : R2 := fun x y H Q => (∃ i j, x = .int i ∧ y = .int j ∧ Q (.bl (decide (i < j))) H) ∨ ∃ i j, x = .str i ∧ y = .str j ∧ Q (.bl (decide (cs i < cs j))) H
theorem op_ltA : OpR X (compareOp .Lt) rLtA := op_lt.or op_lt_str'
def rLeA : R2 := fun x y H Q => (∃ i j, x = .int i ∧ y = .int j ∧ Q (.bl (decide (i ≤ j))) H) ∨ ∃ i j, x = .str i ∧ y = .str j ∧ Q (.bl (!(decide (cs j < cs i)))) H
theorem op_leA : OpR X (compareOp .LtE) rLeA := op_le.or op_le_str
theorem op_gt_str : OpR X (compareOp .Gt) (fun x y H Q => ∃ i j, x = .str i ∧ y = .str j ∧ Q (.bl (decide (cs j < cs i))) H) := by
  intro pins s σ H x y v u Q I rx ry h
  obtain ⟨i, j, rfl, rfl, q⟩ := h
  obtain ⟨t, rfl⟩ := rx
  obtain ⟨t', rfl⟩ := ry
  exact PySem.P.gt_str ⟨.bl _, H, I, rfl, q⟩
def rGtA : R2 := fun x y H Q => (∃ i j, x = .int i ∧ y = .int j ∧ Q (.bl (decide (j < i))) H) ∨ ∃ i j, x = .str i ∧ y = .str j ∧ Q (.bl (decide (cs j < cs i))) H
theorem op_gtA : OpR X (compareOp .Gt) rGtA := op_gt.or op_gt_str
def rSlA (K : PySem.W.Frag) : V → Option Int → Option Int → Hp → VK → Prop := fun x lo hi H Q => rSlL K x lo hi H Q ∨ rSlS x lo hi H Q
theorem sl_any : SlR X (rSlA X.K) := sl_list.or sl_str
def cV : V → Option Value
  | .ty n => some (.type n)
  | .ref a => some (.ref a)
  | _ => none
end
end L3
set_option Elab.async false
set_option linter.all false
set_option maxRecDepth 100000
set_option maxHeartbeats 4000000
namespace L3
open PySem PySem.Spec PyProof.Rows L2
def Iel (K : PySem.W.Frag) (a : Addr) : It := ⟨fun i H => ∃ xs x, SqL K H a xs ∧ xs[i]? = some x, fun i H v H' => ∃ p x, H p = none ∧ (∀ xs, SqL K H a xs → xs[i]? = some x) ∧ v = .ref p ∧ H' = upd H p (.tup [.int (i : Nat), x]), fun i H => ∃ xs, SqL K H a xs ∧ i = xs.length⟩
theorem turn_enumL {P : Program} {w : World} {K : PySem.W.Frag} {elts : List Expr} {x1 : Nat} {tpos : Pos} (e it a : Addr) (hei : e ≠ it) :
    Turn P w K (.Tuple elts x1 tpos) (Iel K a) [e, it] e (fun i h => (∃ old, IsEnum h e it i old) ∧ h.IsListIter it a i) where
  mem := by simp
  obj := fun i h st b hb => by
    obtain ⟨⟨old, he⟩, o, e2, c, d⟩ := st
    rcases List.mem_cons.mp hb with q | q
    · subst q
      exact ⟨_, he, fun v z => by have z' : Data.fields _ = Data.cell v := z; cases z'⟩
    · have q' : b = it := by simpa using q
      subst q'
      exact ⟨o, e2, fun v z => by rw [d] at z; cases z⟩
  keep := fun i h h' st k => by
    obtain ⟨⟨old, he⟩, st⟩ := st
    exact ⟨⟨old, k e (by simp) _ he⟩, st.at fun o q => k it (by simp) o q⟩
  item := by
    intro X hP hw hK hc i pins s σ H E I hf st hg
    subst hP hw hK
    obtain ⟨⟨old, he⟩, st⟩ := st
    obtain ⟨xs, x, hq, hx⟩ := hg
    obtain ⟨its, rv, p, hz⟩ := I.list hq
    obtain ⟨u, hu, ru⟩ := rv.get hx
    have hA : X.A.in1.handled = none := I.ok.hd hc
    have pl := p.isList
    have hai : a ≠ it := fun z => by
      subst z
      obtain ⟨o1, q1, c1, _⟩ := st
      obtain ⟨o2, q2, c2, _⟩ := pl
      rw [q1] at q2; cases q2
      rw [c1] at c2
      exact absurd (Value.type.inj c2) (by decide)
    have hea : e ≠ a := fun z => by
      subst z
      obtain ⟨o2, q2, c2, _⟩ := pl
      rw [he] at q2; cases q2
      exact absurd (Value.type.inj c2) (by decide)
    refine wpAny_pyNext_enum_itemD (Draws.list (A := X.A.in1) hA it a hai its.toArray) he ⟨st, pl⟩ (by rw [List.size_toArray]; exact (List.getElem?_eq_some_iff.mp hu).1) hei (by simp [hei, hea]) fun v h' tk hv ho st' hT hsz kk => ?_
    have ev : v = u := by
      have hv' : its.toArray[i]? = some v := hv
      rw [List.getElem?_toArray, hu] at hv'
      exact (Option.some.inj hv').symm
    subst ev
    refine ⟨_, rfl, wpAny_letOwnedTupleGo_enum ho fun h2 he2 sb => ?_⟩
    have elt : e < s.heap.objs.size := Heap.lt_size he
    have ilt : it < s.heap.objs.size := by obtain ⟨o, q, _⟩ := st; exact Heap.lt_size q
    have I1 : Inv X pins σ H { s with heap := h2, toks := tk + 1 } := Inv.turns (fp := [e, it]) I (fun b o hb q => by
      have hb' : b ≠ e ∧ b ≠ it := by simpa using hb
      exact (sb.2 b hb'.1).trans (kk b o hb'.1 hb'.2 q)) hf
    have hp : H s.heap.objs.size = none := I.hok.fresh (Nat.le_refl _)
    have hT2 : h2.get? s.heap.objs.size = some { cls := .type "tuple", data := .seq #[.int (i : Nat) tk, v] } := (sb.2 _ (Nat.ne_of_gt elt)).trans hT
    have I2 : Inv X pins σ (upd H s.heap.objs.size (.tup [.int (i : Nat), x])) { s with heap := h2, toks := tk + 1 } :=
      Inv.track I1 (I.fpOk (Nat.le_refl _) hp) ⟨by show 2 ≤ sizeLine; decide, [.int (i : Nat) tk, v], .cons ⟨_, rfl⟩ (.cons ru .nil), ⟨_, hT2, rfl, _, rfl⟩⟩
    refine ⟨.ref s.heap.objs.size, _, I2, rfl, ⟨s.heap.objs.size, x, hp, fun ys hy => by rw [I.list_inj hy hq]; exact hx, rfl, rfl⟩, ⟨⟨_, by simpa using he2⟩, ?_⟩, fun b hb => ?_⟩
    · exact st'.1.at fun o q => (sb.2 it (Ne.symm hei)).trans q
    · rw [upd_ne]
      · exact (hf b hb).1
      · rcases List.mem_cons.mp hb with q | q
        · rw [q]; exact Nat.ne_of_lt elt
        · have q' : b = it := by simpa using q
          rw [q']; exact Nat.ne_of_lt ilt
  done := by
    intro X hP hw hK hc i pins s σ H E I hf st hg
    subst hP hw hK
    obtain ⟨⟨old, he⟩, st⟩ := st
    obtain ⟨xs, hq, hi⟩ := hg
    obtain ⟨its, rv, p, hz⟩ := I.list hq
    have pl := p.isList
    have hai : a ≠ it := fun z => by
      subst z
      obtain ⟨o1, q1, c1, _⟩ := st
      obtain ⟨o2, q2, c2, _⟩ := pl
      rw [q1] at q2; cases q2
      rw [c1] at c2
      exact absurd (Value.type.inj c2) (by decide)
    have hA : X.A.in1.handled = none := I.ok.hd hc
    have hi' : i = its.toArray.size := by rw [List.size_toArray, ← rv.length]; exact hi
    subst hi'
    refine wpAny_pyNext_enum_endD (Draws.list (A := X.A.in1) hA it a hai its.toArray) he ⟨st, pl⟩ fun h' hx => ⟨rfl, ?_⟩
    exact Inv.turns (fp := [e, it]) (t' := s.toks) I (fun b o hb q => hx b o (fun z => hb (by simp [z])) q) hf
  self := fun A i s Q E st h => by
    obtain ⟨⟨old, he⟩, _⟩ := st
    exact wpAny_pyIter_enum he h
section
variable {X : Cx}
def iEnumL (K : PySem.W.Frag) (ta : TA) : TI := fun σ H R => ta σ H fun vs H1 => ∃ a, vs = [.ref a] ∧ (∃ xs, SqL K H1 a xs) ∧ R (Iel K a) H1
theorem pi_enumL {a : Expr} {ta : TA} {p pos tpos : Pos} {elts : List Expr} {x1 : Nat} (hg : Gl X "enumerate") (hm : X.mg "enumerate" = none) (ha : PA X [a] ta) (hs : starEach [a] X.env = [(false, eval a X.env)] := by rfl) :
    PI X (.Tuple elts x1 tpos) (.Call (.Name "enumerate" p) [a] [] pos) (iEnumL X.K ta) := by
  intro pins s σ H R I h
  refine Call_ (ld_blt I hg hm PyProof.Rows.boot_enumerate (PyProof.Rows.callWith_type1 (thn (ha pos pins s σ H _ I h) fun us s1 ⟨vs, H1, I1, r1, q1⟩ => ?_) hs rfl))
  obtain ⟨l, e, ⟨xs, hq⟩, q⟩ := q1
  subst e
  obtain ⟨u, rfl, ru⟩ := vals1 r1
  cases ru
  obtain ⟨its, rv, pl, hz⟩ := I1.list hq
  refine call_enumerate_list pl.isList fun h' he hit hsz kk => ?_
  have I2 : Inv X pins σ H1 { s1 with heap := h' } := I1.kept (t' := s1.toks) kk
  refine wpAny_pyIter_enum (s := { s1 with heap := h' }) (i := 0) he ?_
  refine ⟨s1.heap.objs.size + 1, [s1.heap.objs.size + 1, s1.heap.objs.size], _, _, H1, rfl, I2, turn_enumL _ _ l (Nat.succ_ne_self _), ⟨⟨_, he⟩, hit⟩, fun b hb => ?_, q⟩
  have hb' : s1.heap.objs.size ≤ b := by
    rcases List.mem_cons.mp hb with e | e
    · rw [e]; exact Nat.le_succ _
    · have : b = s1.heap.objs.size := by simpa using e
      rw [this]; exact Nat.le_refl _
  exact I1.fpOk hb' (I1.hok.fresh hb')
end
def ForEL (K : PySem.W.Frag) (a : Addr) (g : TG) (tb : TS) (D : Ends) (σ : St) (H : Hp) : Prop := ∃ W : Nat → Nat → St → Hp → Prop, (∃ m, W 0 m σ H) ∧ ∀ i m σ H, W i m σ H →
  ((Iel K a).stop i H ∧ D.nx σ H) ∨ ((Iel K a).go i H ∧ ∃ N : St → Hp → Prop, (∀ σ' H', N σ' H' → ∃ m', m' < m ∧ W (i + 1) m' σ' H') ∧ ∀ x H', (Iel K a).yld i H x H' → g x σ H' fun σ2 H2 => tb { D with nx := N, ct := N, bk := D.nx } σ2 H2)
theorem rd_el {K : PySem.W.Frag} {ta : TA} {g : TG} {tb : TS} {D : Ends} {σ : St} {H : Hp} : tFor (iEnumL K ta) g tb D σ H = ta σ H fun vs H1 => ∃ a, vs = [.ref a] ∧ (∃ xs, SqL K H1 a xs) ∧ ForEL K a g tb D σ H1 := rfl
theorem ForEL.by {K : PySem.W.Frag} {a : Addr} {xs : List V} {g : TG} {tb : TS} {D : Ends} {σ : St} {H : Hp} (Pv : Nat → St → Hp → Prop) (h0 : Pv 0 σ H) (hl : ∀ i σ H, i ≤ xs.length → Pv i σ H → SqL K H a xs)
    (hs : ∀ i x σ H p, xs[i]? = some x → Pv i σ H → H p = none → g (.ref p) σ (upd H p (.tup [.int (i : Nat), x])) fun σ2 H2 => tb { D with nx := Pv (i + 1), ct := Pv (i + 1), bk := D.nx } σ2 H2) (hd : ∀ σ H, Pv xs.length σ H → D.nx σ H) : ForEL K a g tb D σ H := by
  refine ⟨fun i m σ H => m = xs.length - i ∧ i ≤ xs.length ∧ Pv i σ H, ⟨xs.length, by simp, Nat.zero_le _, h0⟩, ?_⟩
  rintro i m σ H ⟨rfl, hi, p⟩
  have q := hl i σ H hi p
  by_cases hlt : i < xs.length
  · refine .inr ⟨⟨xs, xs[i], q, by simp [hlt]⟩, Pv (i + 1), fun σ' H' p' => ⟨xs.length - (i + 1), by omega, rfl, hlt, p'⟩, fun v H' y => ?_⟩
    obtain ⟨p', x, hp, hx, ev, eH⟩ := y
    subst ev eH
    exact hs i x σ H p' (hx xs q) p hp
  · have e : i = xs.length := by omega
    subst e
    exact .inl ⟨⟨xs, q, rfl⟩, hd σ H p⟩
def ForT (K : PySem.W.Frag) (a : Addr) (g : TG) (tb : TS) (D : Ends) (σ : St) (H : Hp) : Prop := ∃ W : Nat → Nat → St → Hp → Prop, (∃ m, W 0 m σ H) ∧ ∀ i m σ H, W i m σ H →
  ((Itt K a).stop i H ∧ D.nx σ H) ∨ ((Itt K a).go i H ∧ ∃ N : St → Hp → Prop, (∀ σ' H', N σ' H' → ∃ m', m' < m ∧ W (i + 1) m' σ' H') ∧ ∀ x H', (Itt K a).yld i H x H' → g x σ H' fun σ2 H2 => tb { D with nx := N, ct := N, bk := D.nx } σ2 H2)
theorem rd_t {K : PySem.W.Frag} {tl : TE} {g : TG} {tb : TS} {D : Ends} {σ : St} {H : Hp} : tFor (iTup K tl) g tb D σ H = tl σ H fun x H1 => ∃ a, x = .ref a ∧ (∃ xs, SqT K H1 a xs) ∧ ForT K a g tb D σ H1 := rfl
def tTr (K : PySem.W.Frag) (ta : TE) : TT := fun σ H Q => ta σ H fun x H' => ∃ k, TruV K x H' k ∧ Q k H'
theorem rd_tr {K : PySem.W.Frag} {ta : TE} {σ : L2.St} {H : Hp} {Q : Bool → Hp → Prop} : tTr K ta σ H Q = ta σ H fun x H' => ∃ k, TruV K x H' k ∧ Q k H' := rfl
def tBl (ta : TE) : TT := fun σ H Q => ta σ H fun x H' => ∃ k, x = .bl k ∧ Q k H'
theorem rd_bl {ta : TE} {σ : L2.St} {H : Hp} {Q : Bool → Hp → Prop} : tBl ta σ H Q = ta σ H fun x H' => ∃ k, x = .bl k ∧ Q k H' := rfl
section
variable {X : Cx} {a : Expr} {ta : TE}
theorem pt_bl (ha : PE X a ta) (he : ∀ whole, isTrue a X.env whole = (do let v ← whole; standAt a.pos; holding [v] (truthy v))) : PT X a (tBl ta) := by
  intro pins s σ H Q I h
  refine isTrue_plain (thn (ha pins s σ H _ I h) fun v s1 ⟨x, H1, I1, r1, k, e, q1⟩ => ?_) (he _)
  subst e
  exact tru_ok pins s1 σ H1 (.bl k) v Q I1 r1 ⟨k, rfl, q1⟩
end
end L3
set_option Elab.async false
set_option linter.all false
set_option maxRecDepth 100000
set_option maxHeartbeats 4000000
namespace L3
open PySem PySem.Spec PyProof.Rows L2
def Irv (K : PySem.W.Frag) (a : Addr) (n : Nat) : It := ⟨fun i H => ∃ xs, SqL K H a xs ∧ xs.length = n ∧ i < n, fun i H v H' => H' = H ∧ ∀ xs, SqL K H a xs → xs.length = n → xs[n - 1 - i]? = some v, fun i H => i = n⟩
section
variable {X : Cx} {tg : Expr}
def iRev (K : PySem.W.Frag) (ta : TA) : TI := fun σ H R => ta σ H fun vs H1 => ∃ a xs, vs = [.ref a] ∧ SqL K H1 a xs ∧ R (Irv K a xs.length) H1
end
section
variable {prog : Program} {w : World} {A : Around} {E : Value → Shared → Prop} {s : Shared}
end
section
variable {X : Cx}
def tRevL (K : PySem.W.Frag) (ta : TA) : TE := fun σ H Q => ta σ H fun vs H1 => ∃ a xs, vs = [.ref a] ∧ SqL K H1 a xs ∧ ∀ l, H1 l = none → Q (.ref l) (upd H1 l (.lst xs.reverse))
theorem rd_revl {K : PySem.W.Frag} {ta : TA} {σ : L2.St} {H : Hp} {Q : VK} : tRevL K ta σ H Q = ta σ H fun vs H1 => ∃ a xs, vs = [.ref a] ∧ SqL K H1 a xs ∧ ∀ l, H1 l = none → Q (.ref l) (upd H1 l (.lst xs.reverse)) := rfl
end
def Izp (K : PySem.W.Frag) (a b : Addr) : It := ⟨fun i H => ∃ xs ys x y, SqL K H a xs ∧ SqL K H b ys ∧ xs[i]? = some x ∧ ys[i]? = some y, fun i H v H' => ∃ p x y, H p = none ∧ (∀ xs, SqL K H a xs → xs[i]? = some x) ∧ (∀ ys, SqL K H b ys → ys[i]? = some y) ∧ v = .ref p ∧ H' = upd H p (.tup [x, y]), fun i H => ∃ xs ys, SqL K H a xs ∧ SqL K H b ys ∧ (xs.length = i ∨ ys.length = i) ∧ i ≤ xs.length ∧ i ≤ ys.length⟩
theorem kind_ne {h : Heap} {a b : Addr} {o1 o2 : Obj} {t u : String} (h1 : h.get? a = some o1) (c1 : o1.cls = .type t) (h2 : h.get? b = some o2) (c2 : o2.cls = .type u) (hne : t ≠ u) : a ≠ b := fun z => by
  rw [z, h2] at h1
  cases h1
  rw [c2] at c1
  exact hne (Value.type.inj c1).symm
structure Apart5 (z TI TO i1 i2 : Addr) : Prop where
  TIz : TI ≠ z
  TOz : TO ≠ z
  i1z : i1 ≠ z
  i2z : i2 ≠ z
  TITO : TI ≠ TO
  TIi1 : TI ≠ i1
  TIi2 : TI ≠ i2
  TOi1 : TO ≠ i1
  TOi2 : TO ≠ i2
  i12 : i1 ≠ i2
def ZipAt (z TI TO i1 i2 l1 l2 : Addr) (i : Nat) (h : Heap) : Prop := IsZip h z TI TO .none ∧ IsPair h TI (.ref i1) (.ref i2) ∧ (∃ a b, IsPair h TO a b) ∧ h.IsListIter i1 l1 i ∧ h.IsListIter i2 l2 i
theorem ZipAt.apart {z TI TO i1 i2 l1 l2 : Addr} {i : Nat} {h : Heap} {xs ys : Array Value} (D : Apart5 z TI TO i1 i2) (st : ZipAt z TI TO i1 i2 l1 l2 i h) (h1 : h.IsList l1 xs) (h2 : h.IsList l2 ys) : ZipApart z TI TO i1 i2 l1 l2 := by
  obtain ⟨hz, hTI, ⟨a, b, hTO⟩, ⟨o1, e1, c1, _⟩, ⟨o2, e2, c2, _⟩⟩ := st
  obtain ⟨p1, q1, k1, _⟩ := h1
  obtain ⟨p2, q2, k2, _⟩ := h2
  exact ⟨D.TIz, D.TOz, D.i1z, D.i2z, D.TITO, D.TIi1, D.TIi2, D.TOi1, D.TOi2, D.i12, kind_ne q1 k1 hz rfl (by decide), kind_ne q1 k1 hTO rfl (by decide), kind_ne q1 k1 e1 c1 (by decide), kind_ne q1 k1 e2 c2 (by decide), kind_ne q2 k2 hz rfl (by decide), kind_ne q2 k2 hTO rfl (by decide), kind_ne q2 k2 e1 c1 (by decide), kind_ne q2 k2 e2 c2 (by decide)⟩
theorem turn_zip {P : Program} {w : World} {K : PySem.W.Frag} {elts : List Expr} {x1 : Nat} {tpos : Pos} (z TI TO i1 i2 l1 l2 : Addr) (D : Apart5 z TI TO i1 i2) :
    Turn P w K (.Tuple elts x1 tpos) (Izp K l1 l2) [z, TI, TO, i1, i2] z (fun i h => ZipAt z TI TO i1 i2 l1 l2 i h) where
  mem := by simp
  obj := fun i h st b hb => by
    obtain ⟨hz, hTI, ⟨a, c, hTO⟩, ⟨o1, e1, c1, d1⟩, ⟨o2, e2, c2, d2⟩⟩ := st
    simp only [List.mem_cons, List.mem_nil_iff, or_false] at hb
    rcases hb with rfl | rfl | rfl | rfl | rfl
    · exact ⟨_, hz, fun v q => by have q' : Data.fields _ = Data.cell v := q; cases q'⟩
    · exact ⟨_, hTI, fun v q => by have q' : Data.seq _ _ = Data.cell v := q; cases q'⟩
    · exact ⟨_, hTO, fun v q => by have q' : Data.seq _ _ = Data.cell v := q; cases q'⟩
    · exact ⟨o1, e1, fun v q => by rw [d1] at q; cases q⟩
    · exact ⟨o2, e2, fun v q => by rw [d2] at q; cases q⟩
  keep := fun i h h' st k => by
    obtain ⟨hz, hTI, ⟨a, c, hTO⟩, h1, h2⟩ := st
    exact ⟨k z (by simp) _ hz, k TI (by simp) _ hTI, ⟨a, c, k TO (by simp) _ hTO⟩, h1.at fun o e => k i1 (by simp) o e, h2.at fun o e => k i2 (by simp) o e⟩
  item := by
    intro X hP hw hK hc i pins s σ H E I hf st hg
    subst hP hw hK
    obtain ⟨xs, ys, x, y, hqx, hqy, hx, hy⟩ := hg
    obtain ⟨its1, rv1, p1, _⟩ := I.list hqx
    obtain ⟨its2, rv2, p2, _⟩ := I.list hqy
    obtain ⟨u1, hu1, ru1⟩ := rv1.get hx
    obtain ⟨u2, hu2, ru2⟩ := rv2.get hy
    have DA := st.apart D p1.isList p2.isList
    obtain ⟨hz, hTI, ⟨a, b, hTO⟩, h1, h2⟩ := st
    refine wpAny_pyNext_zip_item DA hz hTI hTO h1 h2 p1.isList p2.isList (x := u1) (y := u2) (by simpa using hu1) (by simpa using hu2) fun h' a1 a2 a3 a4 a5 a6 hk => ?_
    refine ⟨_, rfl, wpAny_letOwnedTupleGo_zip a1 fun h2' hz2 sb => ?_⟩
    have zlt : z < s.heap.objs.size := Heap.lt_size hz
    have TIlt : TI < s.heap.objs.size := Heap.lt_size hTI
    have TOlt : TO < s.heap.objs.size := Heap.lt_size hTO
    have i1lt : i1 < s.heap.objs.size := by obtain ⟨o, e, _⟩ := h1; exact Heap.lt_size e
    have i2lt : i2 < s.heap.objs.size := by obtain ⟨o, e, _⟩ := h2; exact Heap.lt_size e
    have I1 : Inv X pins σ H { s with heap := h2', toks := s.toks } := Inv.turns (fp := [z, TI, TO, i1, i2]) I (fun b o hb q => by
      have hb' : b ≠ z ∧ b ≠ TI ∧ b ≠ TO ∧ b ≠ i1 ∧ b ≠ i2 := by simpa using hb
      exact (sb.2 b hb'.1).trans (hk b o hb'.1 hb'.2.2.1 hb'.2.2.2.1 hb'.2.2.2.2 q)) hf
    have hp : H s.heap.objs.size = none := I.hok.fresh (Nat.le_refl _)
    have hT2 : h2'.get? s.heap.objs.size = some { cls := .type "tuple", data := .seq #[u1, u2] } := (sb.2 _ (Nat.ne_of_gt zlt)).trans a5
    have I2 : Inv X pins σ (upd H s.heap.objs.size (.tup [x, y])) { s with heap := h2', toks := s.toks } :=
      Inv.track I1 (I.fpOk (Nat.le_refl _) hp) ⟨by show 2 ≤ sizeLine; decide, [u1, u2], .cons ru1 (.cons ru2 .nil), ⟨_, hT2, rfl, _, rfl⟩⟩
    refine ⟨.ref s.heap.objs.size, _, I2, rfl, ⟨s.heap.objs.size, x, y, hp, fun zs hz' => by rw [I.list_inj hz' hqx]; exact hx, fun zs hz' => by rw [I.list_inj hz' hqy]; exact hy, rfl, rfl⟩, ⟨hz2, (sb.2 _ D.TIz).trans (hk _ _ D.TIz D.TITO D.TIi1 D.TIi2 hTI), ⟨_, _, (sb.2 _ D.TOz).trans a2⟩, a3.at fun o e => (sb.2 _ D.i1z).trans e, a4.at fun o e => (sb.2 _ D.i2z).trans e⟩, fun b hb => ?_⟩
    rw [upd_ne]
    · exact (hf b hb).1
    · simp only [List.mem_cons, List.mem_nil_iff, or_false] at hb
      rcases hb with rfl | rfl | rfl | rfl | rfl <;> exact Nat.ne_of_lt (by assumption)
  done := by
    intro X hP hw hK hc i pins s σ H E I hf st hg
    subst hP hw hK
    obtain ⟨xs, ys, hqx, hqy, hend, _, _⟩ := hg
    obtain ⟨its1, rv1, p1, _⟩ := I.list hqx
    obtain ⟨its2, rv2, p2, _⟩ := I.list hqy
    have DA := st.apart D p1.isList p2.isList
    obtain ⟨hz, hTI, ⟨a, b, hTO⟩, h1, h2⟩ := st
    have e1 := rv1.length
    have e2 := rv2.length
    refine wpAny_pyNext_zip_end (I.ok.hd hc) DA hz hTI hTO h1 h2 p1.isList p2.isList ?_ fun h' hk => ⟨rfl, ?_⟩
    · rcases hend with e | e
      · exact .inl (by simp; omega)
      · exact .inr (by simp; omega)
    · exact Inv.turns (fp := [z, TI, TO, i1, i2]) (t' := s.toks) I (fun b o hb q => by
        have hb' : b ≠ z ∧ b ≠ TI ∧ b ≠ TO ∧ b ≠ i1 ∧ b ≠ i2 := by simpa using hb
        exact hk b o hb'.1 hb'.2.2.1 hb'.2.2.2.1 hb'.2.2.2.2 q) hf
  self := fun A i s Q E st h => wpAny_pyIter_zip st.1 h
section
variable {X : Cx}
def iZip (K : PySem.W.Frag) (ta : TA) : TI := fun σ H R => ta σ H fun vs H1 => ∃ a b, vs = [.ref a, .ref b] ∧ (∃ xs, SqL K H1 a xs) ∧ (∃ ys, SqL K H1 b ys) ∧ R (Izp K a b) H1
theorem pi_zip {a b : Expr} {ta : TA} {p pos tpos : Pos} {elts : List Expr} {x1 : Nat} (hg : Gl X "zip") (hm : X.mg "zip" = none) (ha : PA X [a, b] ta) (hs : starEach [a, b] X.env = (false, eval a X.env) :: starEach [b] X.env := by rfl)
    (hpl : (backTo pos (starEach [b] X.env)).any (·.1) = false := by rfl) : PI X (.Tuple elts x1 tpos) (.Call (.Name "zip" p) [a, b] [] pos) (iZip X.K ta) := by
  intro pins s σ H R I h
  refine Call_ (ld_blt I hg hm PyProof.Rows.boot_zip (PyProof.Rows.callWith_type1 (thn (ha pos pins s σ H _ I h) fun us s1 ⟨vs, H1, I1, r1, q1⟩ => ?_) hs hpl))
  obtain ⟨l1, l2, e, ⟨xs, hqx⟩, ⟨ys, hqy⟩, q⟩ := q1
  subst e
  obtain ⟨u1, u2, rfl, ru1, ru2⟩ := vals2 r1
  cases ru1
  cases ru2
  obtain ⟨its1, rv1, p1, _⟩ := I1.list hqx
  obtain ⟨its2, rv2, p2, _⟩ := I1.list hqy
  have ne : ∀ a b : Nat, a ≠ b → s1.heap.objs.size + a ≠ s1.heap.objs.size + b := fun a b h e => h (Nat.add_left_cancel e)
  refine call_zip_2 p1.isList p2.isList fun h' hz hTI hTO h1 h2 hsz kk => ?_
  have I2 : Inv X pins σ H1 { s1 with heap := h' } := I1.kept (t' := s1.toks) kk
  refine wpAny_pyIter_zip (s := { s1 with heap := h' }) hz ?_
  refine ⟨s1.heap.objs.size + 4, [s1.heap.objs.size + 4, s1.heap.objs.size + 2, s1.heap.objs.size + 3, s1.heap.objs.size, s1.heap.objs.size + 1], _, _, H1, rfl, I2, turn_zip (s1.heap.objs.size + 4) (s1.heap.objs.size + 2) (s1.heap.objs.size + 3) s1.heap.objs.size (s1.heap.objs.size + 1) l1 l2 ⟨ne 2 4 (by decide), ne 3 4 (by decide), ne 0 4 (by decide), ne 1 4 (by decide), ne 2 3 (by decide), ne 2 0 (by decide), ne 2 1 (by decide), ne 3 0 (by decide), ne 3 1 (by decide), ne 0 1 (by decide)⟩, ⟨hz, hTI, ⟨_, _, hTO⟩, h1, h2⟩, fun b hb => ?_, q⟩
  have hb' : s1.heap.objs.size ≤ b := by
    simp only [List.mem_cons, List.mem_nil_iff, or_false] at hb
    rcases hb with e | e | e | e | e
    · rw [e]; exact Nat.le_add_right _ _
    · rw [e]; exact Nat.le_add_right _ _
    · rw [e]; exact Nat.le_add_right _ _
    · rw [e]; exact Nat.le_refl _
    · rw [e]; exact Nat.le_add_right _ _
  exact I1.fpOk hb' (I1.hok.fresh hb')
end
def ForZ (K : PySem.W.Frag) (a b : Addr) (g : TG) (tb : TS) (D : Ends) (σ : L2.St) (H : Hp) : Prop := ∃ W : Nat → Nat → L2.St → Hp → Prop, (∃ m, W 0 m σ H) ∧ ∀ i m σ H, W i m σ H →
  ((Izp K a b).stop i H ∧ D.nx σ H) ∨ ((Izp K a b).go i H ∧ ∃ N : L2.St → Hp → Prop, (∀ σ' H', N σ' H' → ∃ m', m' < m ∧ W (i + 1) m' σ' H') ∧ ∀ x H', (Izp K a b).yld i H x H' → g x σ H' fun σ2 H2 => tb { D with nx := N, ct := N, bk := D.nx } σ2 H2)
theorem rd_z {K : PySem.W.Frag} {ta : TA} {g : TG} {tb : TS} {D : Ends} {σ : L2.St} {H : Hp} : tFor (iZip K ta) g tb D σ H = ta σ H fun vs H1 => ∃ a b, vs = [.ref a, .ref b] ∧ (∃ xs, SqL K H1 a xs) ∧ (∃ ys, SqL K H1 b ys) ∧ ForZ K a b g tb D σ H1 := rfl
end L3
set_option Elab.async false
set_option linter.all false
set_option maxRecDepth 100000
set_option maxHeartbeats 4000000
namespace L3
open PySem PySem.Spec PyProof.Rows L2
abbrev xob (C : Addr) (dx : Option Addr) (t : Addr) (tb : Value) : Obj := { cls := .ref C, dict := dx, data := .fields #[.ref t, tb, .none, .none, .bool false, .none] }
abbrev xog (C : Addr) (dx : Option Addr) (t : Addr) (tb c : Value) (k : Bool) : Obj := { cls := .ref C, dict := dx, data := .fields #[.ref t, tb, c, .none, .bool k, .none] }
def TbOk (h : Heap) (x : Addr) (tb : Value) : Prop := tb = .none ∨ ∃ T oT ts, tb = .ref T ∧ T ≠ x ∧ h.get? T = some oT ∧ oT.data = .fields ts ∧ 3 < ts.size
section
variable {M : Model} {A : Around} {E : Value → Shared → Prop} {s : Shared} {base : Heap} {env env0 : Env} {outer : List Env} {L x t C : Addr} {dx : Option Addr} {cx : Value} {kx : Bool}
theorem frameOf_same (h : env.frame = env0.frame) : PySem.frameOf env = PySem.frameOf env0 := by unfold PySem.frameOf; rw [h]
theorem entry_x {tb head : Value} {hadNext : Bool} {Q : Unit → Shared → Prop} (hfr : A.frames = some (env0 :: outer)) (hl : s.heap.FunFrames base (env0 :: outer)) (hf : env0.frame = some L) (he : env.frame = some L)
    (hx : s.heap.get? x = some (xog C dx t tb cx kx))
    (h : ∀ h' oT ts, h'.get? x = some (xog C dx t (.ref s.heap.objs.size) cx kx) → s.heap.objs.size ≠ x → h'.get? s.heap.objs.size = some oT → oT.data = .fields ts → 3 < ts.size →
      (∀ b o, b ≠ x → b ∉ frs (env0 :: outer) → s.heap.get? b = some o → h'.get? b = some o) → (∀ b o, b ≠ x → s.heap.get? b = some o → ∃ sl, h'.get? b = some { o with slots := sl }) → Q () { s with heap := h' }) :
    wpAny M A (do let a ← PySem.frameOf env; let pl ← entryPlaceOf L hadNext; let b ← EntryCells.newEntry head a .none (rawInt L) .none pl; setField (.ref x) 1 b) Q E s := by
  have hxf : x ∉ frs (env0 :: outer) := fun hm => by
    obtain ⟨_, o, ho, hnf⟩ := hl.mem hm
    rw [hx] at ho
    cases ho
    exact hnf _ rfl
  rw [frameOf_same (he.trans hf.symm)]
  refine wpAny_bind (wpAny_frameOf_fun hfr hl hf fun h1 hs1 => wpAny_bind (wpAny_entryPlaceOf fun pl hpl => ?_))
  unfold EntryCells.newEntry newFields
  refine wpAny_bind (wpAny_newObj_type ?_ (hpl.sizeOk5 _ _ _ _ _))
  have hz : h1.objs.size = s.heap.objs.size := hs1.1
  have hx1 : h1.get? x = some (xog C dx t tb cx kx) := (hs1.2.1 x hxf).trans hx
  generalize ho : ({ cls := .type "traceback", dict := none, data := .fields ([head, .ref L, .none, rawInt L, .none] ++ (if pl.isEmpty then List.replicate 6 Value.none else pl)).toArray } : Obj) = ob
  have hx2 : (h1.push ob).get? x = some (xog C dx t tb cx kx) := Heap.get?_push_of_some _ hx1
  refine wpAny_setField hx2 rfl (by show 1 < 6; decide) ?_
  have hne : h1.objs.size ≠ x := Nat.ne_of_gt (Heap.lt_size hx1)
  have hx3 : ((h1.push ob).update x (Obj.mapFields (·.setIfInBounds 1 (Value.ref h1.objs.size)))).get? x = some (xog C dx t (.ref h1.objs.size) cx kx) :=
    Heap.get?_update_self (Obj.mapFields (·.setIfInBounds 1 (Value.ref h1.objs.size))) hx2 rfl
  have hT : ((h1.push ob).update x (Obj.mapFields (·.setIfInBounds 1 (Value.ref h1.objs.size)))).get? h1.objs.size = some ob :=
    (Heap.get?_update_other _ _ (Ne.symm hne)).trans (Heap.get?_push_size h1 (by rw [← ho]; rfl))
  rw [hz] at hx3 hT hne
  have kp : ∀ b o, b ≠ x → h1.get? b = some o → ((h1.push ob).update x (Obj.mapFields (·.setIfInBounds 1 (Value.ref h1.objs.size)))).get? b = some o := fun b o hb e =>
    (Heap.get?_update_other _ _ (Ne.symm hb)).trans (Heap.get?_push_of_some _ e)
  rw [hz] at kp ⊢
  refine h _ ob _ hx3 hne hT (by rw [← ho]) (by simp only [List.size_toArray, List.length_append, List.length_cons, List.length_nil] <;> omega) (fun b o hb hbf e => kp b o hb ((hs1.2.1 b hbf).trans e)) fun b o hb e => ?_
  obtain ⟨sl, q⟩ := hs1.2.2 b o e
  exact ⟨sl, kp b _ hb q⟩
theorem settle_x {tb : Value} {Q : Unit → Shared → Prop} (hfr : A.frames = some (env0 :: outer)) (hl : s.heap.FunFrames base (env0 :: outer)) (hf : env0.frame = some L) (he : env.frame = some L)
    (hx : s.heap.get? x = some (xog C dx t tb cx kx)) (htb : TbOk s.heap x tb)
    (h : ∀ h' T oT ts, h'.get? x = some (xog C dx t (.ref T) cx kx) → T ≠ x → (tb = .ref T ∨ s.heap.objs.size ≤ T) → h'.get? T = some oT → oT.data = .fields ts → 3 < ts.size →
      (∀ b o, b ≠ x → tb ≠ .ref b → b ∉ frs (env0 :: outer) → s.heap.get? b = some o → h'.get? b = some o) → (∀ b o, b ≠ x → tb ≠ .ref b → s.heap.get? b = some o → ∃ sl, h'.get? b = some { o with slots := sl }) → Q () { s with heap := h' }) :
    wpAny M A (noteFrame (.ref x) env) (fun _ s1 => wpAny M A (setFlight (.ref x) none) Q E s1) E s := by
  have land : ∀ (h1 : Heap) (T : Addr) (oT : Obj) (ts : Array Value), h1.get? x = some (xog C dx t (.ref T) cx kx) → T ≠ x → (tb = .ref T ∨ s.heap.objs.size ≤ T) → h1.get? T = some oT → oT.data = .fields ts → 3 < ts.size →
      (∀ b o, b ≠ x → tb ≠ .ref b → b ∉ frs (env0 :: outer) → s.heap.get? b = some o → h1.get? b = some o) → (∀ b o, b ≠ x → tb ≠ .ref b → s.heap.get? b = some o → ∃ sl, h1.get? b = some { o with slots := sl }) →
      wpAny M A (setFlight (.ref x) none) Q E { s with heap := h1 } := fun h1 T oT ts e1 nT oldT e2 d2 z2 k1 k2 => by
    unfold setFlight
    refine wpAny_bind (wpAny_field (s := { s with heap := h1 }) e1 rfl (x := .ref T) rfl ?_)
    rw [if_pos (show (Value.ref T != Value.none) = true from by simp)]
    refine wpAny_setField (s := { s with heap := h1 }) e2 d2 z2 ?_
    have d3 := Obj.data_mapFields d2 (·.setIfInBounds 3 ((none : Option Addr).elim Value.none fun f => rawInt f))
    have nb : ∀ b, b ≠ x → tb ≠ .ref b → (∃ o, s.heap.get? b = some o) → b ≠ T := fun b hb hbt ⟨o, eo⟩ z => by
      subst z
      rcases oldT with q | q
      · exact hbt q
      · exact absurd (Heap.lt_size eo) (Nat.not_lt.mpr q)
    refine h _ T _ _ ((Heap.get?_update_other _ _ nT).trans e1) nT oldT (Heap.get?_update_self _ e2 (Obj.isFreed_of_fields d3)) d3 (by simpa using z2) (fun b o hb hbt hbf e => ?_) fun b o hb hbt e => ?_
    · exact (Heap.get?_update_other _ _ (Ne.symm (nb b hb hbt ⟨o, e⟩))).trans (k1 b o hb hbt hbf e)
    · obtain ⟨sl, q⟩ := k2 b o hb hbt e
      exact ⟨sl, (Heap.get?_update_other _ _ (Ne.symm (nb b hb hbt ⟨o, e⟩))).trans q⟩
  unfold noteFrame
  simp only [he]
  refine wpAny_bind (wpAny_field hx rfl (x := tb) rfl ?_)
  rcases htb with rfl | ⟨T, oT, ts, rfl, nT, e2, d2, z2⟩
  · rw [if_neg (by decide)]
    refine entry_x hfr hl hf he hx fun h' oT ts e1 ne e2 d2 z2 k1 k2 => land h' _ oT ts e1 ne (.inr (Nat.le_refl _)) e2 d2 z2 (fun b o hb _ hbf e => k1 b o hb hbf e) fun b o hb _ e => k2 b o hb e
  · rw [if_pos (show (Value.ref T != Value.none) = true from by simp)]
    obtain ⟨y, hy⟩ : ∃ y, ts[3]? = some y := ⟨ts[3], by simp [z2]⟩
    refine wpAny_bind (wpAny_field e2 d2 (x := y) hy ?_)
    by_cases c : (y == rawInt L) = true
    · rw [if_pos c]
      exact wpAny_pure (land s.heap T oT ts hx nT (.inl rfl) e2 d2 z2 (fun b o _ _ _ e => e) fun b o _ _ e => ⟨o.slots, e⟩)
    · rw [if_neg c]
      refine wpAny_bind (wpAny_setField e2 d2 z2 ?_)
      have oth : ∀ b, b ≠ T → (s.heap.update T (Obj.mapFields (·.setIfInBounds 3 Value.none))).get? b = s.heap.get? b := fun b hb => Heap.get?_update_other _ _ (Ne.symm hb)
      have hl1 : (s.heap.update T (Obj.mapFields (·.setIfInBounds 3 Value.none))).FunFrames base (env0 :: outer) := hl.of_keeps fun b o hb hnf => ⟨o, (oth b fun q => by rw [q, e2] at hb; cases hb; exact hnf ts d2).trans hb, rfl⟩
      have hsz : (s.heap.update T (Obj.mapFields (·.setIfInBounds 3 Value.none))).objs.size = s.heap.objs.size := Heap.size_update ..
      refine entry_x (s := { s with heap := s.heap.update T (Obj.mapFields (·.setIfInBounds 3 Value.none)) }) hfr hl1 hf he ((oth x (Ne.symm nT)).trans hx) fun h' oT' ts' e1 ne e2' d2' z2' k1 k2 => ?_
      refine land h' _ oT' ts' e1 ne (.inr (by rw [hsz]; exact Nat.le_refl _)) e2' d2' z2' (fun b o hb hbt hbf e => k1 b o hb hbf ((oth b fun q => hbt (by rw [q])).trans e)) fun b o hb hbt e => k2 b o hb ((oth b fun q => hbt (by rw [q])).trans e)
theorem leave_x {tb : Value} {Q : Unit → Shared → Prop} (hfr : A.frames = some (env0 :: outer)) (hl : s.heap.FunFrames base (env0 :: outer)) (hf : env0.frame = some L) (he : env.frame = some L)
    (hx : s.heap.get? x = some (xog C dx t tb cx kx)) (htb : TbOk s.heap x tb)
    (h : ∀ h' T oT ts, h'.get? x = some (xog C dx t (.ref T) cx kx) → T ≠ x → (tb = .ref T ∨ s.heap.objs.size ≤ T) → h'.get? T = some oT → oT.data = .fields ts → 3 < ts.size →
      (∀ b o, b ≠ x → tb ≠ .ref b → b ∉ frs (env0 :: outer) → s.heap.get? b = some o → h'.get? b = some o) → (∀ b o, b ≠ x → tb ≠ .ref b → s.heap.get? b = some o → ∃ sl, h'.get? b = some { o with slots := sl }) → Q () { s with heap := h' }) :
    wpAny M A (leaving env (.ref x)) Q E s := wpAny_bind (settle_x hfr hl hf he hx htb h)
end
def CXx (P : Program) (w : World) : CXT := fun outer H s E e s' => ∃ (x C t : Addr) (dx : Option Addr) (tb : Value) (H' : Hp), e = .ref x ∧ s'.os = s.os ∧ AllBare s'.gens ∧ Un (frs outer) [] H H' s.heap s'.heap ∧ HOk P w H' s'.heap ∧
  s'.heap.get? x = some (xob C dx t tb) ∧ TbOk s'.heap x tb ∧ H' x = none ∧ s.heap.objs.size ≤ x ∧ (∀ T, tb = .ref T → H' T = none ∧ s.heap.objs.size ≤ T) ∧ E (.ref C) dx H'
def Flies (X : Cx) (E : XK) (e : Value) (s : Shared) : Prop := ∃ (pins : List (Addr × Obj)) (σ : St) (H : Hp) (x C t : Addr) (dx : Option Addr) (tb : Value), e = .ref x ∧ Inv X pins σ H s ∧
  s.heap.get? x = some (xob C dx t tb) ∧ TbOk s.heap x tb ∧ FpOk X pins H x ∧ (∀ T, tb = .ref T → FpOk X pins H T) ∧ E (.ref C) dx H
def XE (X : Cx) (E : XK) : Prop := ∀ e s, Flies X E e s → X.xe e s
theorem passes_x {X : Cx} {E : XK} (hx : XE X E) : Passes (CXx X.prog X.w) X E := by
  intro pins σ H s e s' I h
  obtain ⟨x, C, t, dx, tb, H', rfl, os, bare, un, hok, ob, tr, hn, hsz, hT, q⟩ := h
  have I' : Inv X pins σ H' s' := I.call' os un hok bare fun b z => absurd z (by simp)
  exact hx _ _ ⟨pins, σ, H', x, C, t, dx, tb, rfl, I', ob, tr, I.fpOk hsz hn, fun T e => I.fpOk (hT T e).2 (hT T e).1, q⟩
theorem xe_cx {P : Program} {w : World} {K : PySem.W.Frag} {mg : Str → Option Value} {base : Heap} {N : List Str} {qual : Str} {scope : Scope} {f : Addr} {cd : Value} {A : Around} {outer : List Env} {s : Shared} {H : Hp} {E : XK} :
    XE (cxOf (CXx P w) P w K mg base N qual scope f cd A outer s H E) E := by
  intro e s1 h
  obtain ⟨pins, σ, H1, x, C, t, dx, tb, rfl, I, ob, tr, fx, fT, q⟩ := h
  show wpAny _ _ (leaving _ (.ref x)) _ _ s1
  have ff := I.stack
  refine leave_x (A := (cxOf (CXx P w) P w K mg base N qual scope f cd A outer s H E).A) (env0 := envOfC qual scope s.heap.objs.size f cd) (outer := outer) I.ok.frames ff rfl rfl ob tr fun h' T oT ts e1 nT oldT e2 d2 z2 k1 k2 => ?_
  have szs : s.heap.objs.size ≤ s1.heap.objs.size := I.sz
  have hxs : s.heap.objs.size ≤ x := by
    rcases fx.2.2.2.1 with z | z
    · exact absurd z (by simp [cxOf])
    · exact z
  have hTs : s.heap.objs.size ≤ T ∧ H1 T = none := by
    rcases oldT with z | z
    · obtain ⟨a0, _, _, a3, _⟩ := fT T z
      rcases a3 with y | y
      · exact absurd y (by simp [cxOf])
      · exact ⟨y, a0⟩
    · exact ⟨Nat.le_trans szs z, I.hok.fresh z⟩
  have tbs : ∀ b, tb = .ref b → s.heap.objs.size ≤ b ∧ H1 b = none := fun b hb => by
    obtain ⟨a0, _, _, a3, _⟩ := fT b hb
    rcases a3 with y | y
    · exact absurd y (by simp [cxOf])
    · exact ⟨y, a0⟩
  have old : ∀ b o, s.heap.get? b = some o → b ≠ x ∧ tb ≠ .ref b := fun b o e => by
    have hb := Heap.lt_size e
    refine ⟨Nat.ne_of_lt (Nat.lt_of_lt_of_le hb hxs), fun z => ?_⟩
    exact absurd (Nat.lt_of_lt_of_le hb (tbs b z).1) (Nat.lt_irrefl _)
  have un : Un (frs outer) [] H H1 s.heap h' := by
    have B := I.base
    refine ⟨fun b o e n hb _ => ?_, fun b o e n hb _ => ?_, fun b o e n _ => B.free b o e n (by simp [cxOf]), fun b o e _ => ?_, B.tups, B.frzs, B.tbls⟩
    · have e1 := B.keep b o e n hb (by simp [cxOf])
      refine k1 b o (old b o e).1 (old b o e).2 (fun z => ?_) e1
      have z' := I.stkSub b z
      rcases List.mem_cons.mp z' with q | q
      · exact absurd q (Nat.ne_of_lt (Nat.lt_of_lt_of_le (Heap.lt_size e) I.ok.above))
      · exact hb q
    · obtain ⟨sl, e1⟩ := B.slot b o e n hb (by simp [cxOf])
      obtain ⟨sl', e2⟩ := k2 b _ (old b o e).1 (old b o e).2 e1
      exact ⟨sl', e2⟩
    · obtain ⟨o', e1⟩ := B.there b o e (by simp [cxOf])
      obtain ⟨sl', e2⟩ := k2 b _ (old b o e).1 (old b o e).2 e1
      exact ⟨_, e2⟩
  have hok : HOk P w H1 h' := fun b u e => by
    refine (I.hok b u e).stay (fun c v hc q => k1 c v ?_ ?_ ?_ q) (fun _ q => q) fun _ _ q => q
    · rintro rfl
      rcases hc with rfl | hc
      · rw [fx.1] at e; cases e
      · rw [fx.1] at hc; cases hc
    · intro z
      have := (tbs c z).2
      rcases hc with rfl | hc
      · rw [this] at e; cases e
      · rw [this] at hc; cases hc
    · intro z
      have := I.stkFree c z
      rcases hc with rfl | hc
      · rw [this] at e; cases e
      · rw [this] at hc; cases hc
  exact ⟨x, C, t, dx, .ref T, H1, rfl, I.os, I.bare, un, hok, e1, .inr ⟨T, oT, ts, rfl, nT, e2, d2, z2⟩, fx.1, hxs, fun T' z => by cases z; exact ⟨hTs.2, hTs.1⟩, q⟩
theorem Fun.okX {P : Program} {w : World} {K : PySem.W.Frag} {mg : Str → Option Value} {base : Heap} {x qual : Str} {st : Stmt} {f : Addr} {fd : FuncData} {N ps : List Str} {k : Nat} {sp : Sp} (F : Fun K x qual st f fd) (S : FnScope N ps (defScope st)) (len : ∀ vs H Q E, sp vs H Q E → vs.length = ps.length)
    (hbody : ∀ (cdv : Value) (A : Around) (outer : List Env) (s : Shared) (H : Hp) (vs : List V) (Q : VK) (E : XK), Room k (A.deeper (envOfC qual (defScope st) s.heap.objs.size f cdv)) → XE (cxOf (CXx P w) P w K mg base N qual (defScope st) f cdv A outer s H E) E → sp vs H Q E →
      ∃ t, PSs (cxOf (CXx P w) P w K mg base N qual (defScope st) f cdv A outer s H E) (defBody st) t ∧ t { nx := fun _ H' => Q .non H', rt := Q } (start N vs) H) : FnOk P w K mg base (CXx P w) (k + 1) f fd ps sp := by
  obtain ⟨oc, od, kV, doc, pm, an, cdv, ct, osl, rfl, lk, hcd⟩ := F.ex
  exact fn_of lk hcd S len fun A outer s H vs Q E hr hsp => hbody cdv A outer s H vs Q E hr xe_cx hsp
def FliesG (X : Cx) (E : XK) (e : Value) (s : Shared) : Prop := ∃ (cx : Value) (kx : Bool) (pins : List (Addr × Obj)) (σ : St) (H : Hp) (x C t : Addr) (dx : Option Addr) (tb : Value), e = .ref x ∧ Inv X pins σ H s ∧
  s.heap.get? x = some (xog C dx t tb cx kx) ∧ TbOk s.heap x tb ∧ FpOk X pins H x ∧ (∀ T, tb = .ref T → FpOk X pins H T) ∧ E (.ref C) dx H
def XEg (X : Cx) (E : XK) : Prop := ∀ e s, FliesG X E e s → X.xe e s
end L3
set_option Elab.async false
set_option linter.all false
set_option maxRecDepth 100000
set_option maxHeartbeats 4000000
namespace L3
open PySem PySem.Spec PyProof.Rows L2
structure RoomH (k : Nat) (A : Around) : Prop where
  dp : A.depth + 3 * k + 5 < recursionLimit
  un : A.units + 16 * k + 200 < cLine
theorem RoomH.mark {k : Nat} {A : Around} (r : RoomH k A) (e : Option Value) : RoomH k (A.mark e) := ⟨r.dp, r.un⟩
def cxH (P : Program) (w : World) (K : PySem.W.Frag) (mg : Str → Option Value) (base : Heap) (N : List Str) (qual : Str) (scope : Scope) (f : Addr) (cd : Value) (A : Around) (outer : List Env) (s : Shared) (H : Hp) : Cx :=
  { cxOf CX0 P w K mg base N qual scope f cd A outer s H E0 with calm := false, xe := fun _ _ => False }
section
variable {X : Cx} {k : Nat} {f : Addr} {fd : FuncData} {ps : List Str} {sp : Sp} {x : Str} {p pos : Pos} {e : Expr} {es : List Expr} {t : TA}
end
end L3
set_option Elab.async false
set_option linter.all false
set_option maxRecDepth 100000
set_option maxHeartbeats 4000000
namespace L3
open PySem PySem.Spec PyProof.Rows L2
abbrev bmV : List Value := [.type "ValueError", .type "Exception", .type "BaseException", .type "object"]
def xcIn (K : PySem.W.Frag) (C : Addr) : Bool := match K.lookup C with
  | some ⟨.type "type", _, .cls cd, sl⟩ => (match cd.mro, sl.toList with
    | .ref C' :: bm, [_, _, _, _, some (.builtin n), _] => C' == C && (n == "ValueError.__new__" && (!cd.hasDel && (cd.hasDict && PySem.W.tailIn K bmV bm)))
    | _, _ => false)
  | _ => false
theorem xc_obj {K : PySem.W.Frag} {C : Addr} (q : xcIn K C = true) : ∃ bm N nm qn bs sn sub ab col dd k0 k1 k2 k3 k5, K.lookup C = some (excClassObj nm qn C N bs bm true sn sub ab col dd k0 k1 k2 k3 k5 "ValueError.__new__") ∧ ∀ h : Heap, K.In h → OwnTail h bmV bm := by
  unfold xcIn at q
  split at q
  · rename_i dd cd sl ho
    split at q
    · rename_i C' bm k0 k1 k2 k3 n k5 hm hs
      simp only [Bool.and_eq_true, beq_iff_eq, Bool.not_eq_true'] at q
      obtain ⟨rfl, rfl, hdel, hdct, ht⟩ := q
      obtain ⟨nm, bs, mro, ns, qn, hd, sn, sub, ab, col, del⟩ := cd
      dsimp only at hm hdel hdct
      subst hm hdel hdct
      have hsl : sl = #[k0, k1, k2, k3, some (.builtin "ValueError.__new__"), k5] := by
        obtain ⟨l⟩ := sl
        simp only at hs
        rw [hs]
      subst hsl
      exact ⟨bm, ns, nm, qn, bs, sn, sub, ab, col, dd, k0, k1, k2, k3, k5, ho, fun h X => PySem.W.tail_of_in X ht⟩
    · cases q
  · cases q
structure XC (K : PySem.W.Frag) (C : Addr) : Prop where
  ok : xcIn K C = true
  sa : PySem.W.findIn K (.ref C) "__setattr__" = some (some (.builtin "object.__setattr__"))
  ga : PySem.W.findIn K (.ref C) "__getattribute__" = some (some (.builtin "BaseException.__getattribute__"))
  gt : PySem.W.findIn K (.ref C) "__getattr__" = some none
  kp : PySem.W.keepIn K (.ref C) = true
section
variable {prog : Program} {w : World} {A : Around} {R : Result → Shared → Prop} {h : Heap} {g : Array GenState} {d : Drawn} {t : Nat} {os : OsState} {K : PySem.W.Frag} {C : Addr}
theorem exc_call {init : Value} {rest : List Value} (X : K.In h) (q : xcIn K C = true) (hi : PySem.W.findIn K (.ref C) "__init__" = some (some init))
    (hb : ∀ self, PySem.W.Looks (model prog w) h (bindSpecial init self) (init, [self])) (hrest : rest.length ≤ sizeLine)
    (hq : codeAny (model prog w) (A.under (.builtin "type.__call__" ⟨.ref C :: rest, []⟩)) (.call init ⟨.ref (h.objs.size + 1) :: rest, []⟩) (PySem.W.InitBack (h.objs.size + 1) R) ⟨(h.push { cls := .type "tuple", data := .seq rest.toArray }).push (xob C none h.objs.size .none), g, d, t, os⟩) :
    codeAny (model prog w) A (.call (.ref C) ⟨rest, []⟩) R ⟨h, g, d, t, os⟩ := by
  obtain ⟨bm, N, nm, qn, bs, sn, sub, ab, col, dd, k0, k1, k2, k3, k5, lk, tl⟩ := xc_obj q
  have hC := X _ _ lk
  have T := tl h X
  have F := PySem.F.excBase_ValueError
  have f1 := tc_lookup
  have f2 := tc_bind (.ref C)
  have hT : (⟨h, g, d, t, os⟩ : Shared).TypeIs (.ref C) "type" := ⟨_, hC, rfl⟩
  refine codeAny_of_tree ?_
  show wpAny _ _ (callAny (.ref C) _) _ _ _
  repeat (any_goals (first | assumption | with_reducible refine wpAny_loadPart_at hC ?_ | wp_step))
  refine ⟨rfl, ?_⟩
  refine codeAny_call_builtin_at (Code.quiet_builtin _ (by decide +kernel)) entry_typeCall (wpAny_check_type_call_sub hC ?_)
  repeat (first | with_reducible refine wpAny_loadPart_at hC ?_ | with_reducible refine wpAny_madeBy_exc hC ?_ | wp_step)
  refine codeAny_call_builtin_code (Code.quiet_builtin _ F.quiet) (wpAny_check_new_subT F T hC ?_)
  refine codeAny_exc_new_subT F T hC ?_ hrest
  show wpAny _ _ _ _ _ _
  have k : ∀ b o, h.get? b = some o → ((h.push { cls := .type "tuple", data := .seq rest.toArray }).push (xob C none h.objs.size .none)).get? b = some o := fun b o e => Heap.get?_push_of_some _ (Heap.get?_push_of_some _ e)
  have hC1 := k _ _ hC
  have hget : ((h.push { cls := .type "tuple", data := .seq rest.toArray }).push (xob C none h.objs.size .none)).get? (h.objs.size + 1) = some (xob C none h.objs.size .none) := by heap_get
  have hcC : (Value.ref C :: bm).contains (.ref C) = true := by simp
  unfold isInstance
  repeat (first | with_reducible refine wpAny_loadPart_at hget ?_ | wp_step)
  refine wpAny_isSubtype_exc (C := C) hC1 ?_
  rw [hcC]
  repeat wp_step
  show wpAny _ _ (typeLookup (.ref C) _) _ _ _
  refine ((PySem.W.looks_findIn X hi).keeps k).at ?_
  refine wpAny_holding (wpAny_bind (((hb _).keeps k).at ?_))
  refine wpAny_bind (wpAny_call (codeAny_mono hq fun r s' z => ?_))
  rcases r with e | (v | _ | _ | _) <;> first | exact z | exact z.elim | skip
  obtain ⟨rfl, z⟩ := z
  exact wpAny_pure (wpAny_pure z)
end
end L3
set_option Elab.async false
set_option linter.all false
set_option maxRecDepth 100000
set_option maxHeartbeats 4000000
namespace L3
open PySem PySem.Spec PyProof.Rows L2
def XN (x C : Addr) (dx : Option Addr) : HO := .ext fun h => ∃ t, h.get? x = some (xob C dx t .none)
def XT (x C : Addr) (dx : Option Addr) : HO := .ext fun h => ∃ t tb c k, h.get? x = some (xog C dx t tb c k)
def XP (x C : Addr) (dx : Option Addr) : HO := .ext fun h => ∃ t tb, h.get? x = some (xob C dx t tb)
section
variable {nm q : Str} {C N : Addr} {bs bm : List Value} {hdct : Bool} {sn : List Str} {sub : List Value} {ab : Bool} {col : Option Bool} {dd : Option Addr} {k0 k1 k2 k3 k5 : Option Value} {newId : String} {h : Heap} {M : Model}
end
section
variable {X : Cx} {pins : List (Addr × Obj)} {σ : St} {H : Hp} {s : Shared} {A : Around} {E : Value → Shared → Prop} {x C : Addr} {f : Str} {y : V} {u : Value}
end
end L3
set_option Elab.async false
set_option linter.all false
set_option maxRecDepth 100000
set_option maxHeartbeats 4000000
namespace L3
open PySem PySem.Spec PyProof.Rows L2
section
variable {X : Cx} {o value : Expr} {f : Str} {pos pos' : Pos} {ta tv : TE}
end
section
variable {M : Model} {A : Around} {E : Value → Shared → Prop} {s : Shared} {env : Env}
theorem raise_x {K : PySem.W.Frag} {x : Sem Value} {Q : Flow → Shared → Prop} (hh : A.handled = none)
    (h : wpAny M A x (fun v s1 => ∃ e C t dx, v = .ref e ∧ K.In s1.heap ∧ xcIn K C = true ∧ s1.heap.get? e = some (xob C dx t .none) ∧ E (.ref e) s1) E s) : wpAny M A (raiseStmt env (some x) none) Q E s := by
  unfold raiseStmt
  refine wpAny_bind (thn h fun v s1 h1 => ?_)
  obtain ⟨e, C, t, dx, rfl, X, hC, he, hE⟩ := h1
  obtain ⟨bm, N, nm, qn, bs, sn, sub, ab, col, dd, k0, k1, k2, k3, k5, lk, tl⟩ := xc_obj hC
  have hCo := X _ _ lk
  have T := tl _ X
  have hcB : (Value.ref C :: bm).contains (.type "BaseException") = true := by rw [List.contains_cons, T.hasType (show bmV.contains (.type "BaseException") = true by decide +kernel), Bool.or_true]
  obtain ⟨hp, g, d, tk, os⟩ := s1
  repeat (first | with_reducible refine wpAny_loadPart_at he ?_ | with_reducible refine wpAny_loadPart_at hCo ?_ | (with_reducible refine wpAny_isSubtype_exc hCo ?_; rw [hcB]) | wp_step)
  exact wpAny_raiseNew_none hh hE
theorem Raise_x {K : PySem.W.Frag} {e : Expr} {pos : Pos} {Q : Flow → Shared → Prop} (hh : A.handled = none)
    (h : wpAny M A (eval e env) (fun v s1 => ∃ a C t dx, v = .ref a ∧ K.In s1.heap ∧ xcIn K C = true ∧ s1.heap.get? a = some (xob C dx t .none) ∧ E (.ref a) s1) E s) : wpAny M A (exec (.Raise (some e) none pos) env) Q E s := by
  rw [arm_exec_Raise]
  first
    | exact wpAny_bind (wpAny_standAt (raise_x hh (wpAny_bind (thn h fun v s1 h1 => wpAny_bind (wpAny_standAt (wpAny_pure h1))))))
    | (simp only [evalOpt, Option.map]; exact wpAny_bind (wpAny_standAt (raise_x hh (wpAny_bind (thn h fun v s1 h1 => wpAny_bind (wpAny_standAt (wpAny_pure h1)))))))
end
def del (H : Hp) (x : Addr) : Hp := fun b => if b = x then none else H b
section
variable {X : Cx} {pins : List (Addr × Obj)} {σ : St} {H : Hp} {s : Shared}
theorem run_xmake0 {C : Addr} {us : List Value} {E : Value → Shared → Prop} {Q : Value → Shared → Prop} (I : Inv X pins σ H s) (xc : xcIn X.K C = true) (hi : PySem.W.findIn X.K (.ref C) "__init__" = some (some (.builtin "ValueError.__init__"))) (hl : us.length ≤ sizeLine)
    (h : ∀ s' x t, s.heap.objs.size ≤ x → Inv X pins σ H s' → s'.heap.get? x = some (xob C none t .none) → Q (.ref x) s') : wpAny (model X.prog X.w) X.A (call (.ref C) us) Q E s := by
  have F := PySem.F.excBase_ValueError
  obtain ⟨bm, N, nm, qn, bs, sn, sub, ab, col, dd, k0, k1, k2, k3, k5, lk, tl⟩ := xc_obj xc
  have hC := I.kIn _ _ lk
  have T := tl _ I.kIn
  obtain ⟨hp, g, d, t, os⟩ := s
  have k : ∀ b o, hp.get? b = some o → ((hp.push { cls := .type "tuple", data := .seq us.toArray }).push (xob C none hp.objs.size .none)).get? b = some o := fun b o e => Heap.get?_push_of_some _ (Heap.get?_push_of_some _ e)
  refine wpAny_call (exc_call I.kIn xc hi (fun self => PySem.W.Looks.of_pure (F.init.bind self)) hl ?_)
  have hget : ((hp.push { cls := .type "tuple", data := .seq us.toArray }).push (xob C none hp.objs.size .none)).get? (hp.objs.size + 1) = some (xob C none hp.objs.size .none) := by heap_get
  refine codeAny_call_builtin F.init.plain F.initEntry (wpAny_check_init_subT F (T.keeps k) (k _ _ hC) hget rfl ?_)
  wp_walk
  refine ⟨rfl, h _ (hp.objs.size + 1) ((hp.push { cls := .type "tuple", data := .seq us.toArray }).push (xob C none hp.objs.size .none)).objs.size (Nat.le_succ _) (I.kept (t' := t) fun b o e => ?_) ?_⟩
  · exact (Heap.get?_update_other _ _ (Nat.ne_of_gt (Nat.lt_succ_of_lt (Heap.lt_size e)))).trans (Heap.get?_push_of_some _ (k b o e))
  · exact Heap.get?_update_self (Obj.mapFields fun x => x.setIfInBounds 0 (Value.ref ((hp.push { cls := .type "tuple", data := .seq us.toArray }).push (xob C none hp.objs.size .none)).objs.size)) (Heap.get?_push_of_some _ hget) rfl
def tRaise0 (E : XK) (C : Addr) (t : TA) : TS := fun _ σ H => t σ H fun vs H1 => vs.length ≤ sizeLine ∧ E (.ref C) none H1
theorem ps_raise0 {E : XK} {C : Addr} {cn : Str} {np cpos pos : Pos} {e : Expr} {es : List Expr} {t : TA} (hx : XE X E) (hc : X.calm = true) (xc : XC X.K C) (hi : PySem.W.findIn X.K (.ref C) "__init__" = some (some (.builtin "ValueError.__init__"))) (hg : Gl X cn) (hm : X.mg cn = some (.ref C)) (ha : PA X (e :: es) t)
    (hdb : (cn == ("__debug__" : Str)) = false := by decide) (he : starEach (e :: es) X.env = (false, eval e X.env) :: starEach es X.env := by rfl) (hpl : (backTo cpos (starEach es X.env)).any (·.1) = false := by rfl) :
    PS X (.Raise (some (.Call (.Name cn np) (e :: es) [] cpos)) none pos) (tRaise0 E C t) := by
  intro pins s σ H D I h
  refine Raise_x (K := X.K) (I.ok.hd hc) (wpAny_Call_Name_kw (ld_glob I hg hm ?_ hdb))
  refine PySem.W.callWith_K (h₀ := X.base) I.ok.mod.kin xc.kp (thn (ha cpos pins s σ H _ I h) fun us s1 ⟨vs, H1, I1, r, z, q⟩ => ⟨I1.kIn, ?_⟩) he hpl
  refine run_xmake0 (us := [] ++ us) I1 xc.ok hi (by show us.length ≤ sizeLine; rw [← r.length]; exact z) fun s2 x t hz I2 ob => ⟨x, C, t, none, rfl, I2.kIn, xc.ok, ob, ?_⟩
  exact hx _ _ ⟨pins, σ, H1, x, C, t, none, .none, rfl, I2, ob, .inl rfl, I1.fpOk hz (I1.hok.fresh hz), fun T z => (by cases z), q⟩
def tRaise1 (E : XK) (C : Addr) (sp : Sp) (t : TA) : TS := fun _ σ H => t σ H fun vs H1 => vs.length ≤ sizeLine ∧ ∀ x, H1 x = none → sp (.ref x :: vs) (upd H1 x (XN x C none)) (fun v H2 => v = .non ∧ ∃ dx, H2 x = some (XN x C dx) ∧ E (.ref C) dx (del H2 x)) E0
end
end L3
set_option Elab.async false
set_option linter.all false
set_option maxRecDepth 100000
set_option maxHeartbeats 4000000
namespace L3
open PySem PySem.Spec PyProof.Rows L2
abbrev TX := St → Hp → VK → XK → Prop
section
variable {X : Cx}
variable {k : Nat} {f : Addr} {fd : FuncData} {ps : List Str} {sp : Sp} {dvs : List V} {ds : List Value} {x : Str} {p pos : Pos} {e : Expr} {es : List Expr} {t : TA}
end
abbrev Cx.suite (X : Cx) (e : Value) : Cx := { X with A := X.A.mark (some e), calm := false, xe := fun _ _ => False }
theorem Inv.suite {X : Cx} {pins : List (Addr × Obj)} {σ : St} {H : Hp} {s : Shared} (I : Inv X pins σ H s) (e : Value) : Inv (Cx.suite X e) pins σ H s :=
  ⟨⟨I.ok.mod, I.ok.kind, I.ok.glob, I.ok.blt, I.ok.above, I.ok.inj, I.ok.has, I.ok.cab, fun z => absurd z (by simp [Cx.suite]), I.ok.frames, I.ok.stk, I.ok.exf, I.ok.bs, I.ok.bsz, I.ok.noex, I.ok.exfs, I.ok.funs, I.ok.frf⟩,
    I.os, I.bare, I.base, I.loc, I.cell, I.free, I.freeC, I.pin, I.hok, I.len⟩
structure Hd where
  D : Addr
  i : Nat
  ts : TS
def tHs (K : PySem.W.Frag) (C : Addr) (dx : Option Addr) (x : Addr) (Dd : Ends) (σ : St) (H : Hp) : List Hd → Prop
  | [] => False
  | h :: r => ∃ b, PySem.W.subIn K (.ref C) (.ref h.D) = some b ∧ if b = true then h.ts { Dd with nx := fun σ' H' => Dd.nx (σ'.set h.i none) H', bk := fun σ' H' => Dd.bk (σ'.set h.i none) H', ct := fun σ' H' => Dd.ct (σ'.set h.i none) H' } (σ.set h.i (some (.ref x))) H else tHs K C dx x Dd σ H r
section
variable {X : Cx} {pins : List (Addr × Obj)} {σ : St} {H : Hp} {s : Shared}
end
section
variable {X : Cx}
def tbL : Value → List Addr
  | .ref b => [b]
  | _ => []
def tTry (K : PySem.W.Frag) (i : Nat) (te : TX) (hds : List Hd) : TS := fun D σ H => te σ H (fun v H1 => D.nx (σ.set i (some v)) H1) fun cls dx H1 => ∃ C, cls = .ref C ∧ ∀ x, H1 x = none → tHs K C dx x D σ (upd H1 x (XT x C dx)) hds
end
end L3
set_option Elab.async false
set_option linter.all false
set_option maxRecDepth 100000
set_option maxHeartbeats 4000000
namespace L3
open PySem PySem.Spec PyProof.Rows L2
section
variable {prog : Program} {w : World} {A : Around} {E : Value → Shared → Prop} {s : Shared} {K : PySem.W.Frag} {x C : Addr} {ox : Obj} {od : Option Obj} {name : Str} {tk : Tok}
end
structure XI (K : PySem.W.Frag) (C : Addr) : Prop extends XC K C where
  ca : PySem.W.findIn K (.ref C) "__class__" = some (some (.builtin "object.__class__"))
  cg : PySem.W.specialIn K (.builtin "object.__class__") "__get__" = some (some (.builtin "getset_descriptor.__get__"))
  ct : PySem.W.takesIn K (.builtin "object.__class__") = some true
  mo : PySem.W.mroIn K C (.type "object") = some true
section
variable {X : Cx}
def XAt (H : Hp) (x C : Addr) (dx : Option Addr) (fs : List (Str × V)) : Prop := H x = some (XT x C dx) ∧ ((dx = none ∧ fs = []) ∨ ∃ d, dx = some d ∧ H d = some (.xd fs))
def tXget (K : PySem.W.Frag) (ta : TE) (f : Str) : TE := fun σ H Q => ta σ H fun y H1 => ∃ x C dx fs v, y = .ref x ∧ XAt H1 x C dx fs ∧ XC K C ∧ PySem.W.hasDictIn K C = true ∧ NoAttr K C f ∧ fs.lookup f = some v ∧ Q v H1
end
end L3
set_option Elab.async false
set_option linter.all false
set_option maxRecDepth 100000
set_option maxHeartbeats 4000000
namespace L3
open PySem PySem.Spec PyProof.Rows L2
structure Df (P : Program) (w : World) (K : PySem.W.Frag) (mg : Str → Option Value) (base : Heap) (CX : CXT) (k : Nat) (nm : Str) (ps : List Str) (ds : List Value) (sp : Sp) : Prop where
  ex : ∃ f fd, FnOk P w K mg base CX k f fd ps sp ∧ mg nm = some (.ref f) ∧ PySem.W.keepIn K (.ref f) = true ∧ Binds K fd ps ds
structure Bt (mg : Str → Option Value) : Prop where
  len : mg "len" = none
  range : mg "range" = none
  isi : mg "isinstance" = none
  str : mg "str" = none
  int : mg "int" = none
  tuple : mg "tuple" = none
  list : mg "list" = none
  bool : mg "bool" = none
  enum : mg "enumerate" = none
  all : mg "all" = none
  verr : mg "ValueError" = none
  max : mg "max" = none
  rev : mg "reversed" = none
  zip : mg "zip" = none
  sum : mg "sum" = none
  sorted : mg "sorted" = none
section
variable {X : Cx} {CX : CXT} {k : Nat} {ps : List Str} {sp : Sp} {ds : List Value} {dvs : List V} {E : XK} {x : Str} {p pos : Pos} {e : Expr} {es : List Expr} {t : TA}
theorem cl0 {j : Nat} (D : Df X.prog X.w X.K X.mg X.base CX0 k x ps ds sp) (hr : Room j X.A) (hd : Vals dvs ds) (hg : Gl X x) (ha : PA X (e :: es) t) (hdb : (x == ("__debug__" : Str)) = false := by decide) (he : starEach (e :: es) X.env = (false, eval e X.env) :: starEach es X.env := by rfl)
    (hpl : (backTo pos (starEach es X.env)).any (·.1) = false := by rfl) (hj : k ≤ j := by decide) : PE X (.Call (.Name x p) (e :: es) [] pos) (tCall sp dvs E0 t) := by
  obtain ⟨f, fd, F, hm, hk, hb⟩ := D.ex
  exact pe_call F (hr.mono hj) hg hm hk hb hd pass0 ha hdb he hpl
theorem clP {j : Nat} (hx : XE X E) (D : Df X.prog X.w X.K X.mg X.base (CXx X.prog X.w) k x ps ds sp) (hr : Room j X.A) (hd : Vals dvs ds) (hg : Gl X x) (ha : PA X (e :: es) t) (hdb : (x == ("__debug__" : Str)) = false := by decide) (he : starEach (e :: es) X.env = (false, eval e X.env) :: starEach es X.env := by rfl)
    (hpl : (backTo pos (starEach es X.env)).any (·.1) = false := by rfl) (hj : k ≤ j := by decide) : PE X (.Call (.Name x p) (e :: es) [] pos) (tCall sp dvs E t) := by
  obtain ⟨f, fd, F, hm, hk, hb⟩ := D.ex
  exact pe_call F (hr.mono hj) hg hm hk hb hd (passes_x hx) ha hdb he hpl
end
def TyX (K : PySem.W.Frag) (H : Hp) (x : V) (t : Value) : Prop := TyOf K H x t ∨ (∃ a C dx fs, x = .ref a ∧ t = .ref C ∧ XAt H a C dx fs ∧ XI K C) ∨ (∃ a xs, x = .ref a ∧ t = .type "list" ∧ SqL K H a xs) ∨ ∃ a xs, x = .ref a ∧ t = .type "tuple" ∧ SqT K H a xs
def rIsi (K : PySem.W.Frag) : List V → Hp → VK → Prop := fun xs H Q => ∃ x c u t b, xs = [x, c] ∧ cV c = some u ∧ TyX K H x t ∧ PySem.W.kitOne K t u = some b ∧ Q (.bl b) H
theorem cV_ref {a : Addr} : cV (.ref a) = some (.ref a) := rfl
theorem cV_ty {n : String} : cV (.ty n) = some (.type n) := rfl
theorem cxHK {P w K mg base N q sc f cd A o s H} : (cxH P w K mg base N q sc f cd A o s H).K = K := rfl
def rCount : V → List V → Hp → VK → Prop := fun x xs H Q => ∃ z y, x = .str z ∧ xs = [.str y] ∧ Q (.int (Txt.count z y)) H
theorem m_count {X : Cx} : MtR X "str.count" rCount := mt_count
def rFind : V → List V → Hp → VK → Prop := fun x xs H Q => ∃ z y, x = .str z ∧ xs = [.str y] ∧ Q (.int (Txt.find z y)) H
theorem m_find {X : Cx} : MtR X "str.find" rFind := mt_find
theorem count_l (l : List Nat) (c : Nat) : Txt.count (tx l) (tx [c]) = (l.count c : Int) := by
  have h : ∀ l : List Nat, cnt c l = (l.count c : Int) := fun l => by
    induction l with
    | nil => rfl
    | cons n r ih =>
      rw [cnt_cons, ih, List.count_cons]
      by_cases e : n = c
      · subst e; simp; omega
      · have : (n == c) = false := by simpa using e
        simp [e, this]
  exact (PyProof.Rows.count_is (tx l) c).trans (h l)
theorem lt1 {a b : Nat} : ([a] : List Nat) < [b] ↔ a < b := by rw [List.cons_lt_cons_iff]; exact ⟨fun h => h.elim id fun ⟨_, q⟩ => absurd q (List.not_lt_nil _), .inl⟩
theorem pick_perm {l : List Nat} {k v : Nat} (h : l[k]? = some v) : (v :: (l.take k ++ l.drop (k + 1))).Perm l := by
  obtain ⟨hk, e⟩ := List.getElem?_eq_some_iff.mp h
  have e2 : l.take k ++ (v :: l.drop (k + 1)) = l := by
    rw [← e, ← List.drop_eq_getElem_cons hk, List.take_append_drop]
  exact (List.perm_middle.symm.trans (by rw [e2]))
def rLen (K : PySem.W.Frag) : List V → Hp → VK → Prop := fun xs H Q => ∃ x n, xs = [x] ∧ LenV K x H n ∧ Q (.int n) H
theorem c_len {X : Cx} : CallR X (.builtin "len") (rLen X.K) := call_len
def ForR (lo : Int) (n : Nat) (g : TG) (tb : TS) (D : Ends) (σ : St) (H : Hp) : Prop := ∃ W : Nat → Nat → St → Hp → Prop, (∃ m, W 0 m σ H) ∧ ∀ i m σ H, W i m σ H →
  ((Itr lo n).stop i H ∧ D.nx σ H) ∨ ((Itr lo n).go i H ∧ ∃ N : St → Hp → Prop, (∀ σ' H', N σ' H' → ∃ m', m' < m ∧ W (i + 1) m' σ' H') ∧ ∀ x H', (Itr lo n).yld i H x H' → g x σ H' fun σ2 H2 => tb { D with nx := N, ct := N, bk := D.nx } σ2 H2)
theorem rd_r1 {ta : TA} {g : TG} {tb : TS} {D : Ends} {σ : St} {H : Hp} : tFor (iRng1 ta) g tb D σ H = ta σ H fun vs H1 => ∃ j : Int, vs = [.int j] ∧ -(2 ^ 62) ≤ j ∧ j < 2 ^ 62 ∧ ForR 0 j.toNat g tb D σ H1 := rfl
theorem rd_r2 {ta : TA} {g : TG} {tb : TS} {D : Ends} {σ : St} {H : Hp} : tFor (iRng2 ta) g tb D σ H = ta σ H fun vs H1 => ∃ i j : Int, vs = [.int i, .int j] ∧ (-(2 ^ 62) ≤ i ∧ i < 2 ^ 62 ∧ -(2 ^ 62) ≤ j ∧ j < 2 ^ 62) ∧ ForR i (j - i).toNat g tb D σ H1 := rfl
theorem ForR.by {lo : Int} {n : Nat} {g : TG} {tb : TS} {D : Ends} {σ : St} {H : Hp} (Pv : Nat → St → Hp → Prop) (h0 : Pv 0 σ H)
    (hs : ∀ i σ H, i < n → Pv i σ H → g (.int (lo + i)) σ H fun σ2 H2 => tb { D with nx := Pv (i + 1), ct := Pv (i + 1), bk := D.nx } σ2 H2) (hd : ∀ σ H, Pv n σ H → D.nx σ H) : ForR lo n g tb D σ H := for_range Pv h0 hs hd
def ForL (K : PySem.W.Frag) (a : Addr) (g : TG) (tb : TS) (D : Ends) (σ : St) (H : Hp) : Prop := ∃ W : Nat → Nat → St → Hp → Prop, (∃ m, W 0 m σ H) ∧ ∀ i m σ H, W i m σ H →
  ((Itl K a).stop i H ∧ D.nx σ H) ∨ ((Itl K a).go i H ∧ ∃ N : St → Hp → Prop, (∀ σ' H', N σ' H' → ∃ m', m' < m ∧ W (i + 1) m' σ' H') ∧ ∀ x H', (Itl K a).yld i H x H' → g x σ H' fun σ2 H2 => tb { D with nx := N, ct := N, bk := D.nx } σ2 H2)
theorem rd_l {K : PySem.W.Frag} {tl : TE} {g : TG} {tb : TS} {D : Ends} {σ : St} {H : Hp} : tFor (iList K tl) g tb D σ H = tl σ H fun x H1 => ∃ a, x = .ref a ∧ (∃ xs, SqL K H1 a xs) ∧ ForL K a g tb D σ H1 := rfl
def ForS (x : Str) (g : TG) (tb : TS) (D : Ends) (σ : St) (H : Hp) : Prop := ∃ W : Nat → Nat → St → Hp → Prop, (∃ m, W 0 m σ H) ∧ ∀ i m σ H, W i m σ H →
  ((Its x).stop i H ∧ D.nx σ H) ∨ ((Its x).go i H ∧ ∃ N : St → Hp → Prop, (∀ σ' H', N σ' H' → ∃ m', m' < m ∧ W (i + 1) m' σ' H') ∧ ∀ v H', (Its x).yld i H v H' → g v σ H' fun σ2 H2 => tb { D with nx := N, ct := N, bk := D.nx } σ2 H2)
theorem rd_s {tl : TE} {g : TG} {tb : TS} {D : Ends} {σ : St} {H : Hp} : tFor (iStr tl) g tb D σ H = tl σ H fun v H1 => ∃ x, v = .str x ∧ ForS x g tb D σ H1 := rfl
theorem ForS.by {l : List Nat} {g : TG} {tb : TS} {D : Ends} {σ : St} {H : Hp} (Pv : Nat → St → Hp → Prop) (h0 : Pv 0 σ H)
    (hs : ∀ i c σ H, l[i]? = some c → Pv i σ H → g (.str (tx [c])) σ H fun σ2 H2 => tb { D with nx := Pv (i + 1), ct := Pv (i + 1), bk := D.nx } σ2 H2) (hd : ∀ σ H, Pv l.length σ H → D.nx σ H) : ForS (tx l) g tb D σ H := for_str Pv h0 hs hd
def ForE (x : Str) (g : TG) (tb : TS) (D : Ends) (σ : St) (H : Hp) : Prop := ∃ W : Nat → Nat → St → Hp → Prop, (∃ m, W 0 m σ H) ∧ ∀ i m σ H, W i m σ H →
  ((Ite x).stop i H ∧ D.nx σ H) ∨ ((Ite x).go i H ∧ ∃ N : St → Hp → Prop, (∀ σ' H', N σ' H' → ∃ m', m' < m ∧ W (i + 1) m' σ' H') ∧ ∀ v H', (Ite x).yld i H v H' → g v σ H' fun σ2 H2 => tb { D with nx := N, ct := N, bk := D.nx } σ2 H2)
theorem rd_e {ta : TA} {g : TG} {tb : TS} {D : Ends} {σ : St} {H : Hp} : tFor (iEnum ta) g tb D σ H = ta σ H fun vs H1 => ∃ x, vs = [.str x] ∧ ForE x g tb D σ H1 := rfl
theorem cut_to {α : Type} (l : List α) {k : Int} (h : 0 ≤ k) : cut l none (some k) = l.take k.toNat := by
  obtain ⟨n, rfl⟩ := Int.eq_ofNat_of_zero_le h
  unfold cut
  rw [HT.sIx_none, HT.sIx_nat, List.drop_zero, Nat.sub_zero]
  by_cases q : n ≤ l.length
  · rw [Nat.min_eq_left q]; rfl
  · rw [Nat.min_eq_right (by omega), List.take_length, List.take_of_length_le (by simp; omega)]
theorem cut_from {α : Type} (l : List α) {k : Int} (h : 0 ≤ k) : cut l (some k) none = l.drop k.toNat := by
  obtain ⟨n, rfl⟩ := Int.eq_ofNat_of_zero_le h
  unfold cut
  rw [HT.sIx_none, HT.sIx_nat]
  by_cases q : n ≤ l.length
  · rw [Nat.min_eq_left q]
    rw [List.take_of_length_le (by rw [List.length_drop] <;> omega)]
    rfl
  · rw [Nat.min_eq_right (by omega), List.drop_length, List.drop_of_length_le (by simp; omega)]
    simp
theorem atI_of {α : Type} {xs : List α} {i : Int} (h0 : 0 ≤ i) (h1 : i < xs.length) : ∃ v, atI xs i = some v ∧ xs[i.toNat]? = some v := by
  obtain ⟨n, rfl⟩ := Int.eq_ofNat_of_zero_le h0
  have hn : n < xs.length := by omega
  exact ⟨xs[n], atI_nat (List.getElem?_eq_getElem hn), List.getElem?_eq_getElem hn⟩
def alpha : List Nat := [97, 98, 99, 100, 101, 102, 103, 104, 105, 106, 107, 108, 109, 110, 111, 112, 113, 114, 115, 116, 117, 118, 119, 120, 121, 122]
theorem alpha_txt : (("abcdefghijklmnopqrstuvwxyz" : Str)) = tx alpha := by decide +kernel
theorem sl16 : (sizeLine : Nat) = 16777216 := sizeLine_eq
theorem cxK {CX P w K mg base N q sc f cd A o s H E} : (cxOf CX P w K mg base N q sc f cd A o s H E).K = K := rfl
theorem cxP {CX P w K mg base N q sc f cd A o s H E} : (cxOf CX P w K mg base N q sc f cd A o s H E).prog = P := rfl
theorem cxW {CX P w K mg base N q sc f cd A o s H E} : (cxOf CX P w K mg base N q sc f cd A o s H E).w = w := rfl
theorem sc_ii {a b : Int} : scal (.int a) (.int b) = true := rfl
theorem sc_ss {a b : Str} : scal (.str a) (.str b) = true := rfl
theorem sc_bb {a b : Bool} : scal (.bl a) (.bl b) = true := rfl
theorem sc_ns {b : Str} : scal .non (.str b) = true := rfl
theorem sc_sn {b : Str} : scal (.str b) .non = true := rfl
theorem same_upd {H : Hp} {p : Addr} {o : HO} (h : H p = none) : Same H (upd H p o) := fun b u e => by
  rw [upd_ne (ne_of_none e h)]
  exact e
theorem take_one {α : Type} {l : List α} {i : Nat} {c : α} (h : l[i]? = some c) : l.take (i + 1) = l.take i ++ [c] := by
  rw [List.take_add_one, h]; rfl
end L3
set_option Elab.async false
set_option linter.all false
set_option maxRecDepth 100000
set_option maxHeartbeats 4000000
namespace L3
open PySem PySem.Spec PyProof.Rows L2
section
variable {X : Cx}
def rNin : R2 := fun x y H Q => ∃ c l, x = .str (tx [c]) ∧ y = .str (tx l) ∧ Q (.bl (!decide (c ∈ l))) H
def rIn1 : R2 := fun x y H Q => ∃ c l, x = .str (tx [c]) ∧ y = .str (tx l) ∧ Q (.bl (decide (c ∈ l))) H
def rIsN : R2 := fun x y H Q => y = .non ∧ Q (.bl (decide (x = .non))) H
theorem op_isN' : OpR X (compareOp .Is) rIsN := op_isN
def rNotN : R2 := fun x y H Q => y = .non ∧ Q (.bl (!decide (x = .non))) H
theorem op_notN' : OpR X (compareOp .IsNot) rNotN := op_notN
def rMax2 : List V → Hp → VK → Prop := fun xs H Q => ∃ i j, xs = [.int i, .int j] ∧ Q (.int (if j > i then j else i)) H
theorem c_max2 (hc : X.calm = true) : CallR X (.builtin "max") rMax2 := call_max2 hc
def rGe : R2 := fun x y H Q => ∃ i j, x = .int i ∧ y = .int j ∧ Q (.bl (decide (j ≤ i))) H
theorem op_ge' : OpR X (compareOp .GtE) rGe := op_ge
def tTru (K : PySem.W.Frag) (ta : TE) : TT := fun σ H Q => ta σ H fun x H' => ∃ k, TruV K x H' k ∧ Q k H'
end
theorem boot_max : bootBuiltins "max" = some (.builtin "max") := by decide +kernel
def BadAt (ls l : List Nat) (m : Int) (k : Nat) : Prop := ∃ c, l[k]? = some c ∧ (m ≤ k ∨ c ∉ ls)
def FB (ls l : List Nat) (m : Int) (k : Nat) : Prop := BadAt ls l m k ∧ ∀ j < k, ¬ BadAt ls l m j
def NB (ls l : List Nat) (m : Int) : Prop := ∀ j, ¬ BadAt ls l m j
theorem FB.nb {ls l : List Nat} {m : Int} {k : Nat} (h : FB ls l m k) (n : NB ls l m) : False := n k h.1
end L3
set_option Elab.async false
set_option linter.all false
set_option maxRecDepth 100000
set_option maxHeartbeats 4000000
namespace L3
open PySem PySem.Spec PyProof.Rows L2
inductive D where
  | non | bl (b : Bool) | int (i : Int) | str (x : Str) | lst (l : List D) | tup (l : List D)
mutual
def Is (K : PySem.W.Frag) (H : Hp) : D → V → Prop
  | .non, v => v = .non
  | .bl b, v => v = .bl b
  | .int i, v => v = .int i
  | .str x, v => v = .str x
  | .lst l, v => ∃ a xs, v = .ref a ∧ SqL K H a xs ∧ Iss K H l xs
  | .tup l, v => ∃ a xs, v = .ref a ∧ SqT K H a xs ∧ Iss K H l xs
def Iss (K : PySem.W.Frag) (H : Hp) : List D → List V → Prop
  | [], vs => vs = []
  | d :: l, vs => ∃ v r, vs = v :: r ∧ Is K H d v ∧ Iss K H l r
end
mutual
def eqD : D → D → Bool
  | .non, .non => true
  | .bl a, .bl b => a == b
  | .bl a, .int b => (if a then 1 else 0) == b
  | .int a, .bl b => a == (if b then 1 else 0)
  | .int a, .int b => a == b
  | .str a, .str b => a == b
  | .lst l, .lst m => eqDs l m
  | .tup l, .tup m => eqDs l m
  | _, _ => false
def eqDs : List D → List D → Bool
  | [], [] => true
  | d :: l, e :: m => eqD d e && eqDs l m
  | _, _ => false
end
mutual
def dpD : D → Nat
  | .lst l => dpDs l + 1
  | .tup l => dpDs l + 1
  | _ => 0
def dpDs : List D → Nat
  | [] => 0
  | d :: l => max (dpD d) (dpDs l)
end
theorem dp_at : ∀ {l : List D} {j : Nat} {d : D}, l[j]? = some d → dpD d ≤ dpDs l
  | d :: l, 0, _, h => by
    cases h
    simp only [dpDs]
    omega
  | d :: l, j + 1, e, h => by
    have := dp_at (l := l) (j := j) (d := e) h
    simp only [dpDs]
    omega
mutual
theorem eqD_refl : ∀ d : D, eqD d d = true
  | .non => rfl
  | .bl b => by simp [eqD]
  | .int i => by simp [eqD]
  | .str x => by simp [eqD]
  | .lst l => by simp only [eqD]; exact eqDs_refl l
  | .tup l => by simp only [eqD]; exact eqDs_refl l
theorem eqDs_refl : ∀ l : List D, eqDs l l = true
  | [] => rfl
  | d :: l => by simp only [eqDs, eqD_refl d, eqDs_refl l, Bool.and_self]
end
theorem Iss.len {K : PySem.W.Frag} {H : Hp} : ∀ {l : List D} {vs : List V}, Iss K H l vs → vs.length = l.length
  | [], vs, h => by simp only [Iss] at h; rw [h]; rfl
  | d :: l, vs, h => by
    simp only [Iss] at h
    obtain ⟨v, r, rfl, _, h2⟩ := h
    simp only [List.length_cons, Iss.len h2]
theorem Iss.at {K : PySem.W.Frag} {H : Hp} : ∀ {l : List D} {vs : List V} {j : Nat} {d : D}, Iss K H l vs → l[j]? = some d → ∃ v, vs[j]? = some v ∧ Is K H d v
  | d :: l, vs, 0, _, h, q => by
    cases q
    simp only [Iss] at h
    obtain ⟨v, r, rfl, h1, _⟩ := h
    exact ⟨v, rfl, h1⟩
  | d :: l, vs, j + 1, e, h, q => by
    simp only [Iss] at h
    obtain ⟨v, r, rfl, _, h2⟩ := h
    exact Iss.at (j := j) h2 q
theorem Iss.append {K : PySem.W.Frag} {H : Hp} : ∀ {l m : List D} {vs us : List V}, Iss K H l vs → Iss K H m us → Iss K H (l ++ m) (vs ++ us)
  | [], m, vs, us, h, g => by simp only [Iss] at h; rw [h]; exact g
  | d :: l, m, vs, us, h, g => by
    simp only [Iss] at h
    obtain ⟨v, r, rfl, h1, h2⟩ := h
    simp only [List.cons_append, Iss]
    exact ⟨v, r ++ us, rfl, h1, Iss.append h2 g⟩
theorem Iss.ints {K : PySem.W.Frag} {H : Hp} : ∀ (l : List Int), Iss K H (l.map D.int) (l.map V.int)
  | [] => by simp only [List.map_nil, Iss]
  | i :: l => by
    simp only [List.map_cons, Iss, Is]
    exact ⟨_, _, rfl, rfl, Iss.ints l⟩
theorem seqT_same {K : PySem.W.Frag} {H H' : Hp} {a : Addr} {xs : List V} (e : Same H H') (h : SqT K H a xs) : SqT K H' a xs := by
  rcases h with (h | ⟨o, h⟩) | h
  · exact .inl (.inl (e _ _ h))
  · exact .inl (.inr ⟨o, e _ _ h⟩)
  · exact .inr h
mutual
theorem Is.same {K : PySem.W.Frag} {H H' : Hp} (e : Same H H') : ∀ (d : D) (v : V), Is K H d v → Is K H' d v
  | .non, v, h => by simp only [Is] at h ⊢; exact h
  | .bl b, v, h => by simp only [Is] at h ⊢; exact h
  | .int b, v, h => by simp only [Is] at h ⊢; exact h
  | .str b, v, h => by simp only [Is] at h ⊢; exact h
  | .lst l, v, h => by
    simp only [Is] at h ⊢
    obtain ⟨a, xs, e1, e2, e3⟩ := h
    exact ⟨a, xs, e1, e.seq e2, Iss.same e l xs e3⟩
  | .tup l, v, h => by
    simp only [Is] at h ⊢
    obtain ⟨a, xs, e1, e2, e3⟩ := h
    exact ⟨a, xs, e1, seqT_same e e2, Iss.same e l xs e3⟩
theorem Iss.same {K : PySem.W.Frag} {H H' : Hp} (e : Same H H') : ∀ (l : List D) (vs : List V), Iss K H l vs → Iss K H' l vs
  | [], vs, h => by simp only [Iss] at h ⊢; exact h
  | d :: l, vs, h => by
    simp only [Iss] at h ⊢
    obtain ⟨v, r, e1, e2, e3⟩ := h
    exact ⟨v, r, e1, Is.same e d v e2, Iss.same e l r e3⟩
end
theorem eqDs_is : ∀ (l m : List D), eqDs l m = ((List.range (min l.length m.length)).all (fun j => eqD (l.getD j .non) (m.getD j .non)) && l.length == m.length)
  | [], [] => rfl
  | [], e :: m => by simp [eqDs]
  | d :: l, [] => by simp [eqDs]
  | d :: l, e :: m => by
    simp only [eqDs, eqDs_is l m, List.length_cons]
    have h1 : min (l.length + 1) (m.length + 1) = min l.length m.length + 1 := by omega
    rw [h1, List.range_succ_eq_map, List.all_cons, List.all_map]
    have h2 : (l.length + 1 == m.length + 1) = (l.length == m.length) := by
      rw [Bool.eq_iff_iff, beq_iff_eq, beq_iff_eq]; omega
    rw [h2]
    simp only [List.getD_cons_zero, Bool.and_assoc]
    rfl
section
variable {X : Cx} {pins : List (Addr × Obj)} {σ : St} {H : Hp} {s : Shared}
theorem seq_kinds {a : Addr} {xs ys : List V} (I : Inv X pins σ H s) (h : SqL X.K H a xs) (g : SqT X.K H a ys) : False := by
  obtain ⟨its, r, ⟨o, n, e, c, _, d⟩, _⟩ := I.list h
  obtain ⟨its', r', ⟨o', e', c', n', d'⟩, _⟩ := I.tuple g
  rw [e] at e'
  cases e'
  rw [c] at c'
  exact absurd (Value.type.inj c') (by decide)
mutual
theorem is_det (I : Inv X pins σ H s) : ∀ (d e : D) (v : V), Is X.K H d v → Is X.K H e v → d = e
  | .lst l, .lst m, v, h, g => by
    simp only [Is] at h g
    obtain ⟨a, xs, rfl, h1, h2⟩ := h
    obtain ⟨b, ys, e, g1, g2⟩ := g
    cases e
    have := I.list_inj h1 g1
    subst this
    rw [iss_det I l m xs h2 g2]
  | .tup l, .tup m, v, h, g => by
    simp only [Is] at h g
    obtain ⟨a, xs, rfl, h1, h2⟩ := h
    obtain ⟨b, ys, e, g1, g2⟩ := g
    cases e
    have := I.tuple_inj h1 g1
    subst this
    rw [iss_det I l m xs h2 g2]
  | .lst l, .tup m, v, h, g => by
    simp only [Is] at h g
    obtain ⟨a, xs, rfl, h1, h2⟩ := h
    obtain ⟨b, ys, e, g1, g2⟩ := g
    cases e
    exact (seq_kinds I h1 g1).elim
  | .tup l, .lst m, v, h, g => by
    simp only [Is] at h g
    obtain ⟨a, xs, rfl, h1, h2⟩ := h
    obtain ⟨b, ys, e, g1, g2⟩ := g
    cases e
    exact (seq_kinds I g1 h1).elim
  | .lst l, .non, v, h, g => by simp only [Is] at h g; obtain ⟨a, xs, rfl, _⟩ := h; cases g
  | .lst l, .bl _, v, h, g => by simp only [Is] at h g; obtain ⟨a, xs, rfl, _⟩ := h; cases g
  | .lst l, .int _, v, h, g => by simp only [Is] at h g; obtain ⟨a, xs, rfl, _⟩ := h; cases g
  | .lst l, .str _, v, h, g => by simp only [Is] at h g; obtain ⟨a, xs, rfl, _⟩ := h; cases g
  | .tup l, .non, v, h, g => by simp only [Is] at h g; obtain ⟨a, xs, rfl, _⟩ := h; cases g
  | .tup l, .bl _, v, h, g => by simp only [Is] at h g; obtain ⟨a, xs, rfl, _⟩ := h; cases g
  | .tup l, .int _, v, h, g => by simp only [Is] at h g; obtain ⟨a, xs, rfl, _⟩ := h; cases g
  | .tup l, .str _, v, h, g => by simp only [Is] at h g; obtain ⟨a, xs, rfl, _⟩ := h; cases g
  | .non, e, v, h, g => by
    simp only [Is] at h
    subst h
    cases e <;> simp only [Is] at g
    all_goals first | rfl | (obtain ⟨a, xs, q, _⟩ := g; cases q) | cases g
  | .bl _, e, v, h, g => by
    simp only [Is] at h
    subst h
    cases e <;> simp only [Is] at g
    all_goals first | (cases g; rfl) | (obtain ⟨a, xs, q, _⟩ := g; cases q) | cases g
  | .int _, e, v, h, g => by
    simp only [Is] at h
    subst h
    cases e <;> simp only [Is] at g
    all_goals first | (cases g; rfl) | (obtain ⟨a, xs, q, _⟩ := g; cases q) | cases g
  | .str _, e, v, h, g => by
    simp only [Is] at h
    subst h
    cases e <;> simp only [Is] at g
    all_goals first | (cases g; rfl) | (obtain ⟨a, xs, q, _⟩ := g; cases q) | cases g
theorem iss_det (I : Inv X pins σ H s) : ∀ (l m : List D) (vs : List V), Iss X.K H l vs → Iss X.K H m vs → l = m
  | [], [], _, _, _ => rfl
  | [], e :: m, vs, h, g => by
    simp only [Iss] at h g
    subst h
    obtain ⟨_, _, q, _⟩ := g
    cases q
  | d :: l, [], vs, h, g => by
    simp only [Iss] at h g
    subst g
    obtain ⟨_, _, q, _⟩ := h
    cases q
  | d :: l, e :: m, vs, h, g => by
    simp only [Iss] at h g
    obtain ⟨v, r, rfl, h1, h2⟩ := h
    obtain ⟨v', r', q, g1, g2⟩ := g
    cases q
    rw [is_det I d e v h1 g1, iss_det I l m r h2 g2]
end
theorem vals_at : ∀ {xs : List V} {us : List Value} {j : Nat} {x : V}, Vals xs us → xs[j]? = some x → ∃ u, us[j]? = some u ∧ RelV x u
  | _, _, 0, _, .cons r t, h => by cases h; exact ⟨_, rfl, r⟩
  | _, _, j + 1, _, .cons r t, h => vals_at (j := j) t h
theorem items_at {l m : List D} {xs ys : List V} {its its' : List Value} {A : Around} {n : Nat} (hl : Iss X.K H l xs) (hm : Iss X.K H m ys) (r : Vals xs its) (r' : Vals ys its') (hn : dpDs l < n)
    (ih : ∀ (d e : D) (x y : V) (u v : Value), dpD d < n → Is X.K H d x → Is X.K H e y → RelV x u → RelV y v → SeqAt.EqAt A s u v (eqD d e)) :
    ∀ j (h1 : j < its.toArray.size) (h2 : j < its'.toArray.size), SeqAt.EqAt A s its.toArray[j] its'.toArray[j] (eqD (l.getD j .non) (m.getD j .non)) := by
  intro j h1 h2
  rw [List.size_toArray] at h1 h2
  have e1 := hl.len
  have e2 := hm.len
  have e3 := r.length
  have e4 := r'.length
  have g1 : l[j]? = some l[j] := List.getElem?_eq_getElem (by omega)
  have g2 : m[j]? = some m[j] := List.getElem?_eq_getElem (by omega)
  generalize l[j] = d at g1
  generalize m[j] = e at g2
  obtain ⟨x, hx, ix⟩ := hl.at g1
  obtain ⟨y, hy, iy⟩ := hm.at g2
  obtain ⟨u, hu, ru⟩ := vals_at r hx
  obtain ⟨v, hv, rv⟩ := vals_at r' hy
  have q1 : its.toArray[j] = u := by
    have := (List.getElem?_eq_some_iff.mp hu).2
    simpa using this
  have q2 : its'.toArray[j] = v := by
    have := (List.getElem?_eq_some_iff.mp hv).2
    simpa using this
  rw [q1, q2, List.getD_eq_getElem?_getD, List.getD_eq_getElem?_getD, g1, g2]
  exact ih d e x y u v (Nat.lt_of_le_of_lt (dp_at g1) hn) ix iy ru rv
theorem eqAt_D (I : Inv X pins σ H s) : ∀ (n : Nat) (A : Around) (d e : D) (x y : V) (u v : Value), A.units + n < cLine → dpD d < n → Is X.K H d x → Is X.K H e y → RelV x u → RelV y v → SeqAt.EqAt A s u v (eqD d e) := by
  intro n
  induction n with
  | zero => intro A d e x y u v _ h; exact absurd h (Nat.not_lt_zero _)
  | succ n ih =>
    intro A d e x y u v hu hd hx hy rx ry
    have hu1 : A.units < cLine := by omega
    have huA : A.in1.units + n < cLine := by show A.units + 1 + n < cLine; omega
    cases d with
    | lst l =>
      simp only [Is] at hx
      obtain ⟨a, xs, rfl, h1, h2⟩ := hx
      cases rx
      obtain ⟨its, r, p, _⟩ := I.list h1
      cases e with
      | non => simp only [Is] at hy; subst hy; cases ry; exact SeqAt.EqAt.list_none p.isList hu1
      | bl b => simp only [Is] at hy; subst hy; cases ry; exact SeqAt.EqAt.list_bool b p.isList hu1
      | int b => simp only [Is] at hy; subst hy; obtain ⟨t, rfl⟩ := ry; exact SeqAt.EqAt.list_int b t p.isList hu1
      | str b => simp only [Is] at hy; subst hy; obtain ⟨t, rfl⟩ := ry; exact SeqAt.EqAt.list_str b t p.isList hu1
      | tup m =>
        simp only [Is] at hy
        obtain ⟨b, ys, rfl, g1, g2⟩ := hy
        cases ry
        obtain ⟨its', r', p', _⟩ := I.tuple g1
        exact SeqAt.EqAt.list_tuple p.isList p' hu1
      | lst m =>
        have hy' := hy
        simp only [Is] at hy
        obtain ⟨b, ys, rfl, g1, g2⟩ := hy
        cases ry
        obtain ⟨its', r', p', _⟩ := I.list g1
        simp only [dpD] at hd
        by_cases hab : a = b
        · subst hab
          have := is_det I (.lst l) (.lst m) (.ref a) (by simp only [Is]; exact ⟨a, xs, rfl, h1, h2⟩) hy'
          rw [this, eqD_refl]
          exact SeqAt.EqAt.same _
        · refine .of_refs hab ?_
          simp only [eqD]
          have L1 := h2.len
          have L2 := g2.len
          have L3 := r.length
          have L4 := r'.length
          by_cases hl : l.length = m.length
          · have := SeqAt.RcAt.lists (A := A) p.isList p'.isList (by simp only [List.size_toArray]; omega) hu1 (items_at h2 g2 r r' (n := n) (by omega) fun d e x y u v q1 q2 q3 q4 q5 => ih A.in1 d e x y u v huA q1 q2 q3 q4 q5)
            rw [eqDs_is, hl, Nat.min_self, beq_self_eq_true, Bool.and_true]
            have e1 : its.toArray.size = m.length := by simp only [List.size_toArray]; omega
            rw [e1] at this
            exact this
          · rw [eqDs_is, beq_eq_false_iff_ne.mpr hl, Bool.and_false]
            exact SeqAt.RcAt.lists_lengths p.isList p'.isList (by rw [bne_iff_ne]; simp only [List.size_toArray]; omega) hu1
    | tup l =>
      simp only [Is] at hx
      obtain ⟨a, xs, rfl, h1, h2⟩ := hx
      cases rx
      obtain ⟨its, r, p, _⟩ := I.tuple h1
      cases e with
      | non => simp only [Is] at hy; subst hy; cases ry; exact SeqAt.EqAt.tuple_none p hu1
      | bl b => simp only [Is] at hy; subst hy; cases ry; exact SeqAt.EqAt.tuple_bool b p hu1
      | int b => simp only [Is] at hy; subst hy; obtain ⟨t, rfl⟩ := ry; exact SeqAt.EqAt.tuple_int b t p hu1
      | str b => simp only [Is] at hy; subst hy; obtain ⟨t, rfl⟩ := ry; exact SeqAt.EqAt.tuple_str b t p hu1
      | lst m =>
        simp only [Is] at hy
        obtain ⟨b, ys, rfl, g1, g2⟩ := hy
        cases ry
        obtain ⟨its', r', p', _⟩ := I.list g1
        exact SeqAt.EqAt.tuple_list p p'.isList hu1
      | tup m =>
        have hy' := hy
        simp only [Is] at hy
        obtain ⟨b, ys, rfl, g1, g2⟩ := hy
        cases ry
        obtain ⟨its', r', p', _⟩ := I.tuple g1
        simp only [dpD] at hd
        by_cases hab : a = b
        · subst hab
          have := is_det I (.tup l) (.tup m) (.ref a) (by simp only [Is]; exact ⟨a, xs, rfl, h1, h2⟩) hy'
          rw [this, eqD_refl]
          exact SeqAt.EqAt.same _
        · refine .of_refs hab ?_
          simp only [eqD]
          have L1 := h2.len
          have L2 := g2.len
          have L3 := r.length
          have L4 := r'.length
          have := SeqAt.RcAt.tuples (A := A) p p' hu1 (items_at h2 g2 r r' (n := n) (by omega) fun d e x y u v q1 q2 q3 q4 q5 => ih A.in1 d e x y u v huA q1 q2 q3 q4 q5)
          rw [eqDs_is]
          simp only [List.size_toArray] at this
          rw [← L1, ← L2, L3, L4]
          exact this
    | non =>
      simp only [Is] at hx
      subst hx
      cases e with
      | lst m =>
        simp only [Is] at hy
        obtain ⟨b, ys, rfl, g1, g2⟩ := hy
        cases rx; cases ry
        obtain ⟨its', r', p', _⟩ := I.list g1
        exact SeqAt.EqAt.none_list p'.isList hu1
      | tup m =>
        simp only [Is] at hy
        obtain ⟨b, ys, rfl, g1, g2⟩ := hy
        cases rx; cases ry
        obtain ⟨its', r', p', _⟩ := I.tuple g1
        exact SeqAt.EqAt.none_tuple p' hu1
      | _ => simp only [Is] at hy; subst hy; exact eqAt_V rx ry rfl rfl
    | bl c =>
      simp only [Is] at hx
      subst hx
      cases e with
      | lst m =>
        simp only [Is] at hy
        obtain ⟨b, ys, rfl, g1, g2⟩ := hy
        cases rx; cases ry
        obtain ⟨its', r', p', _⟩ := I.list g1
        exact SeqAt.EqAt.bool_list _ p'.isList hu1
      | tup m =>
        simp only [Is] at hy
        obtain ⟨b, ys, rfl, g1, g2⟩ := hy
        cases rx; cases ry
        obtain ⟨its', r', p', _⟩ := I.tuple g1
        exact SeqAt.EqAt.bool_tuple _ p' hu1
      | _ => simp only [Is] at hy; subst hy; exact eqAt_V rx ry rfl rfl
    | int c =>
      simp only [Is] at hx
      subst hx
      cases e with
      | lst m =>
        simp only [Is] at hy
        obtain ⟨b, ys, rfl, g1, g2⟩ := hy
        obtain ⟨t, rfl⟩ := rx; cases ry
        obtain ⟨its', r', p', _⟩ := I.list g1
        exact SeqAt.EqAt.int_list _ _ p'.isList hu1
      | tup m =>
        simp only [Is] at hy
        obtain ⟨b, ys, rfl, g1, g2⟩ := hy
        obtain ⟨t, rfl⟩ := rx; cases ry
        obtain ⟨its', r', p', _⟩ := I.tuple g1
        exact SeqAt.EqAt.int_tuple _ _ p' hu1
      | _ => simp only [Is] at hy; subst hy; exact eqAt_V rx ry rfl rfl
    | str c =>
      simp only [Is] at hx
      subst hx
      cases e with
      | lst m =>
        simp only [Is] at hy
        obtain ⟨b, ys, rfl, g1, g2⟩ := hy
        obtain ⟨t, rfl⟩ := rx; cases ry
        obtain ⟨its', r', p', _⟩ := I.list g1
        exact SeqAt.EqAt.str_list _ _ p'.isList hu1
      | tup m =>
        simp only [Is] at hy
        obtain ⟨b, ys, rfl, g1, g2⟩ := hy
        obtain ⟨t, rfl⟩ := rx; cases ry
        obtain ⟨its', r', p', _⟩ := I.tuple g1
        exact SeqAt.EqAt.str_tuple _ _ p' hu1
      | _ => simp only [Is] at hy; subst hy; exact eqAt_V rx ry rfl rfl
def rEqL (K : PySem.W.Frag) : R2 := fun x y H Q => ∃ l m, ((Is K H (.lst l) x ∧ Is K H (.lst m) y) ∨ (Is K H (.tup l) x ∧ Is K H (.tup m) y)) ∧ dpDs l < 50 ∧ Q (.bl (eqDs l m)) H
def rNeL (K : PySem.W.Frag) : R2 := fun x y H Q => ∃ l m, ((Is K H (.lst l) x ∧ Is K H (.lst m) y) ∨ (Is K H (.tup l) x ∧ Is K H (.tup m) y)) ∧ dpDs l < 50 ∧ Q (.bl (!eqDs l m)) H
theorem op_eqL (hu : X.A.units + 100 < cLine) : OpR X (compareOp .Eq) (rEqL X.K) := by
  intro pins s σ H x y v u Q I rx ry h
  obtain ⟨l, m, hh, hd, q⟩ := h
  have hu1 : X.A.units < cLine := by omega
  have huA : X.A.in1.units + 50 < cLine := by show X.A.units + 1 + 50 < cLine; omega
  rcases hh with ⟨hx, hy⟩ | ⟨hx, hy⟩
  · simp only [Is] at hx hy
    obtain ⟨a, xs, rfl, h1, h2⟩ := hx
    obtain ⟨b, ys, rfl, g1, g2⟩ := hy
    cases rx; cases ry
    obtain ⟨its, r, p, _⟩ := I.list h1
    obtain ⟨its', r', p', _⟩ := I.list g1
    have L1 := h2.len
    have L2 := g2.len
    have L3 := r.length
    have L4 := r'.length
    by_cases hl : l.length = m.length
    · have := SeqAt.RcAt.lists (A := X.A) p.isList p'.isList (by simp only [List.size_toArray]; omega) hu1 (items_at h2 g2 r r' (n := 50) hd fun d e x y u v q1 q2 q3 q4 q5 => eqAt_D I 50 X.A.in1 d e x y u v huA q1 q2 q3 q4 q5)
      have e1 : its.toArray.size = m.length := by simp only [List.size_toArray]; omega
      rw [e1] at this
      rw [eqDs_is, hl, Nat.min_self, beq_self_eq_true, Bool.and_true] at q
      exact this X.prog X.w X.xe _ ⟨.bl _, H, I, rfl, q⟩
    · rw [eqDs_is, beq_eq_false_iff_ne.mpr hl, Bool.and_false] at q
      exact SeqAt.RcAt.lists_lengths p.isList p'.isList (by rw [bne_iff_ne]; simp only [List.size_toArray]; omega) hu1 X.prog X.w X.xe _ ⟨.bl _, H, I, rfl, q⟩
  · simp only [Is] at hx hy
    obtain ⟨a, xs, rfl, h1, h2⟩ := hx
    obtain ⟨b, ys, rfl, g1, g2⟩ := hy
    cases rx; cases ry
    obtain ⟨its, r, p, _⟩ := I.tuple h1
    obtain ⟨its', r', p', _⟩ := I.tuple g1
    have L1 := h2.len
    have L2 := g2.len
    have L3 := r.length
    have L4 := r'.length
    have := SeqAt.RcAt.tuples (A := X.A) p p' hu1 (items_at h2 g2 r r' (n := 50) hd fun d e x y u v q1 q2 q3 q4 q5 => eqAt_D I 50 X.A.in1 d e x y u v huA q1 q2 q3 q4 q5)
    simp only [List.size_toArray] at this
    rw [eqDs_is, ← L1, ← L2, L3, L4] at q
    exact this X.prog X.w X.xe _ ⟨.bl _, H, I, rfl, q⟩
theorem op_neL (hu : X.A.units + 100 < cLine) : OpR X (compareOp .NotEq) (rNeL X.K) := by
  intro pins s σ H x y v u Q I rx ry h
  obtain ⟨l, m, hh, hd, q⟩ := h
  have hu1 : X.A.units < cLine := by omega
  have huA : X.A.in1.units + 50 < cLine := by show X.A.units + 1 + 50 < cLine; omega
  rcases hh with ⟨hx, hy⟩ | ⟨hx, hy⟩
  · simp only [Is] at hx hy
    obtain ⟨a, xs, rfl, h1, h2⟩ := hx
    obtain ⟨b, ys, rfl, g1, g2⟩ := hy
    cases rx; cases ry
    obtain ⟨its, r, p, _⟩ := I.list h1
    obtain ⟨its', r', p', _⟩ := I.list g1
    have L1 := h2.len
    have L2 := g2.len
    have L3 := r.length
    have L4 := r'.length
    by_cases hl : l.length = m.length
    · have := SeqAt.RcNeAt.lists (A := X.A) p.isList p'.isList (by simp only [List.size_toArray]; omega) hu1 (items_at h2 g2 r r' (n := 50) hd fun d e x y u v q1 q2 q3 q4 q5 => eqAt_D I 50 X.A.in1 d e x y u v huA q1 q2 q3 q4 q5)
      have e1 : its.toArray.size = m.length := by simp only [List.size_toArray]; omega
      rw [e1] at this
      rw [eqDs_is, hl, Nat.min_self, beq_self_eq_true, Bool.and_true] at q
      exact this X.prog X.w X.xe _ ⟨.bl _, H, I, rfl, q⟩
    · rw [eqDs_is, beq_eq_false_iff_ne.mpr hl, Bool.and_false] at q
      exact SeqAt.RcNeAt.lists_lengths p.isList p'.isList (by rw [bne_iff_ne]; simp only [List.size_toArray]; omega) hu1 X.prog X.w X.xe _ ⟨.bl _, H, I, rfl, q⟩
  · simp only [Is] at hx hy
    obtain ⟨a, xs, rfl, h1, h2⟩ := hx
    obtain ⟨b, ys, rfl, g1, g2⟩ := hy
    cases rx; cases ry
    obtain ⟨its, r, p, _⟩ := I.tuple h1
    obtain ⟨its', r', p', _⟩ := I.tuple g1
    have L1 := h2.len
    have L2 := g2.len
    have L3 := r.length
    have L4 := r'.length
    have := SeqAt.RcNeAt.tuples (A := X.A) p p' hu1 (items_at h2 g2 r r' (n := 50) hd fun d e x y u v q1 q2 q3 q4 q5 => eqAt_D I 50 X.A.in1 d e x y u v huA q1 q2 q3 q4 q5)
    simp only [List.size_toArray] at this
    rw [eqDs_is, ← L1, ← L2, L3, L4] at q
    exact this X.prog X.w X.xe _ ⟨.bl _, H, I, rfl, q⟩
end
theorem dp_ints (l : List Int) : dpDs (l.map D.int) = 0 := by
  induction l with
  | nil => rfl
  | cons a l ih => simp only [List.map_cons, dpDs, dpD, ih]; rfl
abbrev CNx (n i : Nat) (Pv : Nat → List V → Hp → Prop) (acc : List V) (H : Hp) : Prop := ∃ m', m' < n - i ∧ (m' = n - (i + 1) ∧ i + 1 ≤ n ∧ Pv (i + 1) acc H)
theorem CNx.mk {n i : Nat} {Pv : Nat → List V → Hp → Prop} {acc : List V} {H : Hp} (hi : i < n) (h : Pv (i + 1) acc H) : CNx n i Pv acc H := ⟨n - (i + 1), by omega, rfl, hi, h⟩
def CompG (J : It) (g : TG) (tt : TT) (te : TE) (own : Nat) (ix : List Nat) (σ : St) (H1 : Hp) (Q : VK) (D : Addr) : Prop := ∃ W : Nat → Nat → List V → Hp → Prop, (∃ m, W 0 m [] (upd H1 D (.lst []))) ∧
  ∀ i m acc H', W i m acc H' → (J.stop i H' ∧ Q (.ref D) H') ∨ (J.go i H' ∧ ∀ x H2, J.yld i H' x H2 → g x (seen σ own ix) H2 fun σ3 H3 => KeepsSt (seen σ own ix) σ3 ∧ tt σ3 H3 fun b H4 => if b = true then
    te σ3 H4 fun v H5 => H5 D = some (.lst acc) ∧ acc.length < sizeLine ∧ ∃ m', m' < m ∧ W (i + 1) m' (acc ++ [v]) (upd H5 D (.lst (acc ++ [v])))
    else ∃ m', m' < m ∧ W (i + 1) m' acc H4)
def CompR (lo : Int) (n : Nat) (g : TG) (tt : TT) (te : TE) (own : Nat) (ix : List Nat) (σ : St) (H1 : Hp) (Q : VK) (D : Addr) : Prop := CompG (Itr lo n) g tt te own ix σ H1 Q D
def CompL (K : PySem.W.Frag) (a : Addr) (g : TG) (tt : TT) (te : TE) (own : Nat) (ix : List Nat) (σ : St) (H1 : Hp) (Q : VK) (D : Addr) : Prop := CompG (Itl K a) g tt te own ix σ H1 Q D
def CompS (x : Str) (g : TG) (tt : TT) (te : TE) (own : Nat) (ix : List Nat) (σ : St) (H1 : Hp) (Q : VK) (D : Addr) : Prop := CompG (Its x) g tt te own ix σ H1 Q D
theorem rd_cr1 {ta : TA} {g : TG} {tt : TT} {te : TE} {own : Nat} {ix : List Nat} {σ : St} {H : Hp} {Q : VK} : tComp (iRng1 ta) g tt te own ix σ H Q = ta σ H fun vs H1 => ∃ j : Int, vs = [.int j] ∧ -(2 ^ 62) ≤ j ∧ j < 2 ^ 62 ∧ ∀ D, H1 D = none → CompR 0 j.toNat g tt te own ix σ H1 Q D := rfl
theorem rd_cl {K : PySem.W.Frag} {tl : TE} {g : TG} {tt : TT} {te : TE} {own : Nat} {ix : List Nat} {σ : St} {H : Hp} {Q : VK} : tComp (iList K tl) g tt te own ix σ H Q = tl σ H fun x H1 => ∃ a, x = .ref a ∧ (∃ xs, SqL K H1 a xs) ∧ ∀ D, H1 D = none → CompL K a g tt te own ix σ H1 Q D := rfl
theorem rd_cs {tl : TE} {g : TG} {tt : TT} {te : TE} {own : Nat} {ix : List Nat} {σ : St} {H : Hp} {Q : VK} : tComp (iStr tl) g tt te own ix σ H Q = tl σ H fun v H1 => ∃ x, v = .str x ∧ ∀ D, H1 D = none → CompS x g tt te own ix σ H1 Q D := rfl
section
variable {g : TG} {tt : TT} {te : TE} {own : Nat} {ix : List Nat} {σ : St} {H1 : Hp} {Q : VK} {D : Addr}
theorem CompR.by {lo : Int} {n : Nat} (Pv : Nat → List V → Hp → Prop) (h0 : Pv 0 [] (upd H1 D (.lst [])))
    (hs : ∀ i acc H', i < n → Pv i acc H' → g (.int (lo + i)) (seen σ own ix) H' fun σ3 H3 => KeepsSt (seen σ own ix) σ3 ∧ tt σ3 H3 fun b H4 => if b = true then
      te σ3 H4 fun v H5 => H5 D = some (.lst acc) ∧ acc.length < sizeLine ∧ CNx n i Pv (acc ++ [v]) (upd H5 D (.lst (acc ++ [v]))) else CNx n i Pv acc H4)
    (hd : ∀ acc H', Pv n acc H' → Q (.ref D) H') : CompR lo n g tt te own ix σ H1 Q D := by
  refine ⟨fun i m acc H => m = n - i ∧ i ≤ n ∧ Pv i acc H, ⟨n, by simp, Nat.zero_le _, h0⟩, ?_⟩
  rintro i m acc H' ⟨rfl, hi, p⟩
  by_cases hlt : i < n
  · refine .inr ⟨hlt, fun x H2 y => ?_⟩
    obtain ⟨e, y⟩ := y
    subst e y
    exact hs i acc _ hlt p
  · have e : i = n := by omega
    subst e
    exact .inl ⟨Nat.le_refl _, hd acc H' p⟩
theorem CompL.by {K : PySem.W.Frag} {a : Addr} {xs : List V} (Pv : Nat → List V → Hp → Prop) (h0 : Pv 0 [] (upd H1 D (.lst []))) (hl : ∀ i acc H', i ≤ xs.length → Pv i acc H' → SqL K H' a xs)
    (hs : ∀ i x acc H', xs[i]? = some x → Pv i acc H' → g x (seen σ own ix) H' fun σ3 H3 => KeepsSt (seen σ own ix) σ3 ∧ tt σ3 H3 fun b H4 => if b = true then
      te σ3 H4 fun v H5 => H5 D = some (.lst acc) ∧ acc.length < sizeLine ∧ CNx xs.length i Pv (acc ++ [v]) (upd H5 D (.lst (acc ++ [v]))) else CNx xs.length i Pv acc H4)
    (hd : ∀ acc H', Pv xs.length acc H' → Q (.ref D) H') : CompL K a g tt te own ix σ H1 Q D := by
  refine ⟨fun i m acc H => m = xs.length - i ∧ i ≤ xs.length ∧ Pv i acc H, ⟨xs.length, by simp, Nat.zero_le _, h0⟩, ?_⟩
  rintro i m acc H' ⟨rfl, hi, p⟩
  have q := hl i acc H' hi p
  by_cases hlt : i < xs.length
  · refine .inr ⟨⟨xs, xs[i], q, by simp [hlt]⟩, fun x H2 y => ?_⟩
    obtain ⟨e, y⟩ := y
    subst e
    exact hs i x acc _ (y xs q) p
  · have e : i = xs.length := by omega
    subst e
    exact .inl ⟨⟨xs, q, Nat.le_refl _⟩, hd acc H' p⟩
end
theorem keeps0 {x : V} {r : St} : KeepsSt (none :: r) (some x :: r) := ⟨rfl, fun i v h => by
  cases i with
  | zero => cases h
  | succ i => exact h⟩
theorem compOk_of {X : Cx} {scope sc : Scope} {own caps : List Str} {ix : List Nat} (h1 : scope.kind = .function) (h2 : scope.names.all (fun y => y.2 != .cell) = true) (h3 : scope.names.all (fun y => y.2 != .local || scope.names.lookup y.1 == some .local) = true)
    (h4 : scope.names.all (fun y => y.2 != .free || sc.names.lookup y.1 == some .cell) = true) (hsc : X.env.scope = sc) (h5 : own.all (fun y => scope.names.lookup y == some .local) = true) (h6 : caps.all (fun y => scope.names.lookup y == some .free) = true) (h7 : ix.map (fun i => X.N[i]?) = caps.map some) : CompOk X scope own caps ix := by
  refine ⟨h1, fun y hy => ?_, fun y hy e => ?_, fun y hy => ?_, fun y hy => ?_, fun y hy => ?_, h7⟩
  · have := List.all_eq_true.mp h2 y hy
    simpa using this
  · have := List.all_eq_true.mp h3 y hy
    rw [e] at this
    simpa using this
  · have := List.all_eq_true.mp h4 _ hy
    have := by simpa using this
    show X.env.scope.names.lookup y = some .cell
    rw [hsc]
    exact this
  · have := List.all_eq_true.mp h5 y hy
    simpa using this
  · have := List.all_eq_true.mp h6 y hy
    simpa using this
theorem cut_mid {α : Type} (l : List α) {a b : Int} (h0 : 0 ≤ a) (h1 : a ≤ b) (h2 : b ≤ l.length) : cut l (some a) (some b) = (l.drop a.toNat).take (b - a).toNat := by
  obtain ⟨m, rfl⟩ := Int.eq_ofNat_of_zero_le h0
  obtain ⟨n, rfl⟩ := Int.eq_ofNat_of_zero_le (by omega : 0 ≤ b)
  unfold cut
  rw [HT.sIx_nat, HT.sIx_nat, Nat.min_eq_left (by omega), Nat.min_eq_left (by omega)]
  have : ((n : Int) - (m : Int)).toNat = n - m := by omega
  rw [this]
  rfl
theorem room100 {k : Nat} {A : Around} (r : Room k A) : A.units + 100 < cLine := by have := r.un; omega
end L3
set_option Elab.async false
set_option linter.all false
set_option maxRecDepth 100000
set_option maxHeartbeats 4000000
namespace L3
open PySem PySem.Spec PyProof.Rows L2
theorem use_neL {K : PySem.W.Frag} {x y : V} {H : Hp} {Q : VK} {l m : List D} (h : (Is K H (.lst l) x ∧ Is K H (.lst m) y) ∨ (Is K H (.tup l) x ∧ Is K H (.tup m) y)) (hd : dpDs l < 50) (q : Q (.bl (!eqDs l m)) H) : rNeL K x y H Q := ⟨l, m, h, hd, q⟩
def tCut (t u : TS) : TS := fun D σ H => ∃ R : St → Hp → Prop, t { D with nx := R } σ H ∧ ∀ σ' H', R σ' H' → u D σ' H'
theorem pss_cut {X : Cx} {st : Stmt} {rest : List Stmt} {t u : TS} (h1 : PS X st t) (h2 : PSs X rest u) : PSs X (st :: rest) (tCut t u) := by
  intro pins s σ H D I h
  obtain ⟨R, h, hr⟩ := h
  refine wpAny_execs_cons (thn (h1 pins s σ H { D with nx := R } I h) fun f s1 q => ?_)
  cases f with
  | next =>
    obtain ⟨σ', H', I', q⟩ := q
    exact h2 pins s1 σ' H' D I' (hr _ _ q)
  | ret v => exact q
  | brk => exact q
  | cont => exact q
theorem cut_by {t u : TS} {D : Ends} {σ : St} {H : Hp} (R : St → Hp → Prop) (h : t { D with nx := R } σ H) (hr : ∀ σ' H', R σ' H' → u D σ' H') : tCut t u D σ H := ⟨R, h, hr⟩
theorem same_over {H H' : Hp} {a : Addr} {o : HO} (h : Same H H') (e : H a = none) : Same H (upd H' a o) := fun b u q => by
  rw [upd_ne (ne_of_none q e)]
  exact h b u q
theorem ForL.by {K : PySem.W.Frag} {a : Addr} {xs : List V} {g : TG} {tb : TS} {D : Ends} {σ : St} {H : Hp} (Pv : Nat → St → Hp → Prop) (h0 : Pv 0 σ H) (hl : ∀ i σ H, i ≤ xs.length → Pv i σ H → SqL K H a xs)
    (hs : ∀ i x σ H, xs[i]? = some x → Pv i σ H → g x σ H fun σ2 H2 => tb { D with nx := Pv (i + 1), ct := Pv (i + 1), bk := D.nx } σ2 H2) (hd : ∀ σ H, Pv xs.length σ H → D.nx σ H) : ForL K a g tb D σ H := for_list Pv h0 hl hs hd
theorem iteN {A B : Prop} (h : A) : if false = false then A else B := by rw [if_pos rfl]; exact h
theorem iteM {A B : Prop} (h : B) : if true = false then A else B := by rw [if_neg (by decide)]; exact h
def CompV (K : PySem.W.Frag) (a : Addr) (n : Nat) (g : TG) (tt : TT) (te : TE) (own : Nat) (ix : List Nat) (σ : L2.St) (H1 : Hp) (Q : VK) (D : Addr) : Prop := CompG (Irv K a n) g tt te own ix σ H1 Q D
theorem rd_cv {K : PySem.W.Frag} {ta : TA} {g : TG} {tt : TT} {te : TE} {own : Nat} {ix : List Nat} {σ : L2.St} {H : Hp} {Q : VK} : tComp (iRev K ta) g tt te own ix σ H Q = ta σ H fun vs H1 => ∃ a xs, vs = [.ref a] ∧ SqL K H1 a xs ∧ ∀ D, H1 D = none → CompV K a xs.length g tt te own ix σ H1 Q D := rfl
end L3
set_option Elab.async false
set_option linter.all false
set_option maxRecDepth 100000
set_option maxHeartbeats 4000000
namespace L3
open PySem PySem.Spec PyProof.Rows L2
section
variable {X : Cx}
end
end L3
set_option Elab.async false
set_option linter.all false
set_option maxRecDepth 100000
set_option maxHeartbeats 4000000
namespace L3
open PySem PySem.Spec PyProof.Rows L2
section
variable {M : Model} {A : Around} {E : Value → Shared → Prop} {s : Shared} {base : Heap} {env env0 : Env} {outer : List Env} {L x t C : Addr} {dx : Option Addr}
end
section
variable {X : Cx} {pins : List (Addr × Obj)} {σ : St} {H1 : Hp} {s1 : Shared}
theorem Inv.noted {h' : Heap} {x T : Addr} {tb : Value} (I1 : Inv X pins σ H1 s1) (hst : X.stack = X.env :: X.outer) (fx : FpOk X pins H1 x) (fT : ∀ T, tb = .ref T → FpOk X pins H1 T) (fT' : FpOk X pins H1 T)
    (k1 : ∀ b o, b ≠ x → tb ≠ .ref b → b ∉ frs (X.env :: X.outer) → s1.heap.get? b = some o → h'.get? b = some o) (k2 : ∀ b o, b ≠ x → tb ≠ .ref b → s1.heap.get? b = some o → ∃ sl, h'.get? b = some { o with slots := sl }) : Inv X pins σ H1 { s1 with heap := h' } := by
  have tbs : ∀ b, tb = .ref b → H1 b = none := fun b hb => (fT b hb).1
  have nch : ∀ b o, s1.heap.get? b = some o → b ∉ (x :: T :: tbL tb) → b ≠ x ∧ tb ≠ .ref b := fun b o _ hb => by
    refine ⟨fun z => hb (by simp [z]), fun z => hb ?_⟩
    rw [z]
    simp [tbL]
  have un : Un (frs X.stack) (x :: T :: tbL tb) H1 H1 s1.heap h' := by
    rw [hst]
    refine ⟨fun b o e n hb hc => ?_, fun b o e n hb hc => ?_, fun b o e n _ => n, fun b o e hc => ?_, fun b xs e => e, fun b o u e => e, fun b ps e => ⟨#[], by rw [e]; simp⟩⟩
    · obtain ⟨a1, a2⟩ := nch b o e hc
      exact k1 b o a1 a2 hb e
    · obtain ⟨a1, a2⟩ := nch b o e hc
      exact k2 b o a1 a2 e
    · obtain ⟨a1, a2⟩ := nch b o e hc
      obtain ⟨sl, q⟩ := k2 b o a1 a2 e
      exact ⟨_, q⟩
  have hok : HOk X.prog X.w H1 h' := fun b u e => by
    refine (I1.hok b u e).stay (fun c v hc q => k1 c v ?_ ?_ ?_ q) (fun _ q => q) fun _ _ q => q
    · rintro rfl
      rcases hc with rfl | hc
      · rw [fx.1] at e; cases e
      · rw [fx.1] at hc; cases hc
    · intro z
      have := tbs c z
      rcases hc with rfl | hc
      · rw [this] at e; cases e
      · rw [this] at hc; cases hc
    · intro z
      rw [← hst] at z
      have := I1.stkFree c z
      rcases hc with rfl | hc
      · rw [this] at e; cases e
      · rw [this] at hc; cases hc
  exact I1.call' (s' := { s1 with heap := h' }) rfl un hok I1.bare fun b hb => by
    have fb : FpOk X pins H1 b := by
      rcases List.mem_cons.mp hb with z | z
      · rw [z]; exact fx
      · rcases List.mem_cons.mp z with z | z
        · rw [z]; exact fT'
        · cases tb with
          | ref b' =>
            have : b = b' := by simpa [tbL] using z
            rw [this]; exact fT b' rfl
          | _ => simp [tbL] at z
    obtain ⟨_, a1, _, a3, a4, a5⟩ := fb
    exact ⟨a3, a1, a4, a5⟩
end
section
variable {X : Cx} {scope : Scope} {own caps : List Str} {ix : List Nat} {cl : List (Str × Addr)}
end
section
variable {X : Cx} {scope : Scope} {own caps : List Str} {ix : List Nat} {elt tg iter : Expr} {ifs : List Expr} {pos : Pos} {wi : TI} {g : TG} {tt : TT} {te : TE}
end
end L3
set_option Elab.async false
set_option linter.all false
set_option maxRecDepth 100000
set_option maxHeartbeats 4000000
namespace L3
open PySem PySem.Spec PyProof.Rows L2
open AutoSeq1 (wpAny_loadPart')
open MeetsSeq MeetsSeq2 MeetsSeq3 SeqRoads2 SeqAt
def LtAt (A : Around) (s : Shared) (y x : Value) (b : Bool) : Prop :=
  ∀ (prog : Program) (w : World) (E : Value → Shared → Prop) (Q : Value → Shared → Prop), Q (.bool b) s → wpAny (model prog w) A (richCompare .Lt y x) Q E s
def Steps (e t r : Nat → Bool) (m n : Nat) : Prop := ∀ i, i ≤ m → i ≤ n → r i = if i < m ∧ i < n then (if e i = true then r (i + 1) else t i) else decide (m < n)
theorem lt_loopAt (l b : Addr) (items items2 : Array Value) (n n2 : Nat) (dd dd2 : Option Addr) (sl sl2 : Array (Option Value)) (e t r : Nat → Bool) (hr : Steps e t r items.size items2.size) (k : Nat) :
    ∀ i : Nat, i ≤ items.size → i ≤ items2.size → items.size - i = k → Meets (Builtin.«list.__eq__.loop» ⟨[.ref l, .ref b, rawInt i, rawInt 0], []⟩)
      (fun A R s => s.heap.get? l = some { cls := .type "list", dict := dd, data := .seq items n, slots := sl } ∧ s.heap.get? b = some { cls := .type "list", dict := dd2, data := .seq items2 n2, slots := sl2 } ∧
        (∀ j (h1 : j < items.size) (h2 : j < items2.size), EqAt A.in1 s items[j] items2[j] (e j)) ∧ (∀ j (h1 : j < items.size) (h2 : j < items2.size), e j = false → LtAt A.in1 s items[j] items2[j] (t j)) ∧
        R (.ok (.ret (.bool (r i)))) s) := by
  induction k with
  | zero =>
    intro i b1 b2 hk prog w A R s h
    obtain ⟨hp, g, d, tk, os⟩ := s; obtain ⟨hl, hb, he, ht, h⟩ := h
    have hri := hr i b1 b2
    rw [if_neg (by omega)] at hri
    rw [hri] at h
    wp_walk using wpAny_loadPart' hl, wpAny_loadPart' hb
    have hi1 : items[((i : Nat) : Int).toNat]? = none := by simp; omega
    rw [hi1]
    wp_walk using wpAny_loadPart' hl, wpAny_loadPart' hb
    exact h
  | succ k ih =>
    intro i b1 b2 hk prog w A R s h
    obtain ⟨hp, g, d, tk, os⟩ := s; obtain ⟨hl, hb, he, ht, h⟩ := h
    have hlt : i < items.size := by omega
    have hi1 : items[((i : Nat) : Int).toNat]? = some items[i] := by simp [hlt]
    have hc : ((i : Int) + 1) = ((i + 1 : Nat) : Int) := by push_cast; rfl
    have hri := hr i b1 b2
    by_cases hlt2 : i < items2.size
    · rw [if_pos ⟨hlt, hlt2⟩] at hri
      rw [hri] at h
      have hi2 : items2[((i : Nat) : Int).toNat]? = some items2[i] := by simp [hlt2]
      wp_walk using wpAny_loadPart' hl, wpAny_loadPart' hb
      rw [hi1, hi2]
      refine wpAny_bind (he i hlt hlt2 prog w _ _ ?_)
      cases hb' : e i with
      | true =>
        rw [hb', if_pos rfl] at h
        wp_walk
        rw [hc]
        exact ⟨plainId_quiet plain_eq_loop _, codeAny_builtin entry_eq_loop (by
          rw [Around.under_plainId plain_eq_loop _]
          exact ih (i + 1) (by omega) (by omega) (by omega) prog w A R _ ⟨hl, hb, he, ht, h⟩)⟩
      | false =>
        rw [hb', if_neg Bool.false_ne_true] at h
        wp_walk using wpAny_loadPart' hl, wpAny_loadPart' hb
        rw [hi1, hi2]
        refine wpAny_bind (ht i hlt hlt2 hb' prog w _ _ ?_)
        wp_walk
        exact h
    · rw [if_neg (by omega)] at hri
      rw [hri] at h
      have hi2 : items2[((i : Nat) : Int).toNat]? = none := by simp; omega
      wp_walk using wpAny_loadPart' hl, wpAny_loadPart' hb
      rw [hi1, hi2]
      wp_walk using wpAny_loadPart' hl, wpAny_loadPart' hb
      exact h
theorem list_ltAt (l b : Addr) (items items2 : Array Value) (n n2 : Nat) (dd dd2 : Option Addr) (sl sl2 : Array (Option Value)) (e t r : Nat → Bool) (hr : Steps e t r items.size items2.size) :
    Meets (Builtin.«list.__lt__» ⟨[.ref l, .ref b], []⟩)
      (fun A R s => s.heap.get? l = some { cls := .type "list", dict := dd, data := .seq items n, slots := sl } ∧ s.heap.get? b = some { cls := .type "list", dict := dd2, data := .seq items2 n2, slots := sl2 } ∧
        (∀ j (h1 : j < items.size) (h2 : j < items2.size), EqAt A.in1 s items[j] items2[j] (e j)) ∧ (∀ j (h1 : j < items.size) (h2 : j < items2.size), e j = false → LtAt A.in1 s items[j] items2[j] (t j)) ∧
        R (.ok (.ret (.bool (r 0)))) s) := by
  intro prog w A R s h
  obtain ⟨hp, g, d, tk, os⟩ := s; obtain ⟨hl, hb, he, ht, h⟩ := h
  have f3 := AutoSeq1.sub_list_list
  wp_walk using wpAny_loadPart' hl, wpAny_loadPart' hb
  exact ⟨plainId_quiet plain_eq_loop _, codeAny_builtin entry_eq_loop (by
    rw [Around.under_plainId plain_eq_loop _]
    exact lt_loopAt l b items items2 n n2 dd dd2 sl sl2 e t r hr _ 0 (Nat.zero_le _) (Nat.zero_le _) rfl prog w A R _ ⟨hl, hb, he, ht, h⟩)⟩
theorem tuple_ltAt (l b : Addr) (items items2 : Array Value) (n n2 : Nat) (dd dd2 : Option Addr) (sl sl2 : Array (Option Value)) (e t r : Nat → Bool) (hr : Steps e t r items.size items2.size) :
    Meets (Builtin.«tuple.__lt__» ⟨[.ref l, .ref b], []⟩)
      (fun A R s => s.heap.get? l = some { cls := .type "tuple", dict := dd, data := .seq items n, slots := sl } ∧ s.heap.get? b = some { cls := .type "tuple", dict := dd2, data := .seq items2 n2, slots := sl2 } ∧
        (∀ j (h1 : j < items.size) (h2 : j < items2.size), EqAt A.in1 s items[j] items2[j] (e j)) ∧ (∀ j (h1 : j < items.size) (h2 : j < items2.size), e j = false → LtAt A.in1 s items[j] items2[j] (t j)) ∧
        R (.ok (.ret (.bool (r 0)))) s) :=
  .of_wp fun prog w A R s h => by
    obtain ⟨hp, g, d, tk, os⟩ := s; obtain ⟨hl, hb, he, ht, h⟩ := h
    have f2 := AutoSeq1.sub_tuple_tuple
    have hZ : (items.toList.zip items2.toList).length = min items.size items2.size := by simp
    wp_walk using wpAny_loadPart' hl, wpAny_loadPart' hb, wpAny_forIn_list _ (fun rest b s' => b.1 = none ∧ s' = ⟨hp, g, d, tk, os⟩ ∧ ∃ i, i ≤ min items.size items2.size ∧ rest = (items.toList.zip items2.toList).drop i ∧
      R (.ok (.ret (.bool (r i)))) ⟨hp, g, d, tk, os⟩) _
    case turn =>
      rintro ⟨y, x⟩ rest b s' ⟨hb', rfl, i, hi, hz, hR⟩
      have hlt : i < (items.toList.zip items2.toList).length := by
        rcases Nat.lt_or_ge i (items.toList.zip items2.toList).length with h' | h'
        · exact h'
        · rw [List.drop_of_length_le h'] at hz; cases hz
      have hm : i < min items.size items2.size := hZ ▸ hlt
      have h1 : i < items.size := Nat.lt_of_lt_of_le hm (Nat.min_le_left _ _)
      have h2 : i < items2.size := Nat.lt_of_lt_of_le hm (Nat.min_le_right _ _)
      rw [List.drop_eq_getElem_cons hlt] at hz
      injection hz with hyx hrest
      have hy : y = items[i] := by have := congrArg Prod.fst hyx; simpa using this
      have hx : x = items2[i] := by have := congrArg Prod.snd hyx; simpa using this
      subst hy hx
      have hri := hr i (by omega) (by omega)
      rw [if_pos ⟨h1, h2⟩] at hri
      rw [hri] at hR
      refine wpAny_bind (he i h1 h2 prog w _ _ ?_)
      cases hy : e i with
      | true =>
        rw [hy, if_pos rfl] at hR
        wp_walk
        exact ⟨rfl, rfl, i + 1, by omega, hrest, hR⟩
      | false =>
        rw [hy, if_neg Bool.false_ne_true] at hR
        simp only [Bool.not_false, if_true]
        refine wpAny_bind (wpAny_rule ?_)
        refine wpAny_bind (ht i h1 h2 hy prog w _ _ ?_)
        wp_walk
        exact ⟨_, rfl, hR⟩
    case fin =>
      rintro ⟨b1, b2⟩ s' ⟨hb', rfl, i, hi, hz, hR⟩
      simp only at hb'
      subst hb'
      have hge : min items.size items2.size ≤ i := by
        rcases Nat.lt_or_ge i (items.toList.zip items2.toList).length with h' | h'
        · rw [List.drop_eq_getElem_cons h'] at hz; cases hz
        · exact hZ ▸ h'
      have hri := hr i (by omega) (by omega)
      rw [if_neg (by omega)] at hri
      rw [hri] at hR
      wp_walk
      exact ⟨_, rfl, hR⟩
    case h =>
      exact ⟨rfl, rfl, 0, Nat.zero_le _, rfl, h⟩
theorem LtAt.lists {A : Around} {s : Shared} {l b : Addr} {items items2 : Array Value} {e t r : Nat → Bool} (hl : s.heap.IsList l items) (hb : s.heap.IsList b items2) (hr : Steps e t r items.size items2.size) (hu : A.units < cLine)
    (he : ∀ j (h1 : j < items.size) (h2 : j < items2.size), EqAt A.in1 s items[j] items2[j] (e j)) (ht : ∀ j (h1 : j < items.size) (h2 : j < items2.size), e j = false → LtAt A.in1 s items[j] items2[j] (t j)) : LtAt A s (.ref l) (.ref b) (r 0) := fun prog w E Q h => by
  obtain ⟨⟨cls, dd, data, sl⟩, ho, hc, n, hd⟩ := id hl
  obtain ⟨⟨cls2, dd2, data2, sl2⟩, ho2, hc2, n2, hd2⟩ := id hb
  simp only at hc hd hc2 hd2
  subst hc hd hc2 hd2
  exact richCompare_meets_room (op := .Lt) ⟨_, ho, rfl⟩ ⟨_, ho2, rfl⟩ F.slot_list_lt F.entry_list_lt (F.args_list_lt_2 _ _) (list_ltAt l b items items2 n n2 dd dd2 sl sl2 e t r hr)
    ⟨ho, ho2, he, ht, show Value.bool (r 0) ≠ Value.notImplemented ∧ Q (.bool (r 0)) s from ⟨(fun x => nomatch x), h⟩⟩ hu
theorem LtAt.tuples {A : Around} {s : Shared} {l b : Addr} {items items2 : Array Value} {e t r : Nat → Bool} (hl : s.heap.IsTuple l items) (hb : s.heap.IsTuple b items2) (hr : Steps e t r items.size items2.size) (hu : A.units < cLine)
    (he : ∀ j (h1 : j < items.size) (h2 : j < items2.size), EqAt A.in1 s items[j] items2[j] (e j)) (ht : ∀ j (h1 : j < items.size) (h2 : j < items2.size), e j = false → LtAt A.in1 s items[j] items2[j] (t j)) : LtAt A s (.ref l) (.ref b) (r 0) := fun prog w E Q h => by
  obtain ⟨⟨cls, dd, data, sl⟩, ho, hc, n, hd⟩ := id hl
  obtain ⟨⟨cls2, dd2, data2, sl2⟩, ho2, hc2, n2, hd2⟩ := id hb
  simp only at hc hd hc2 hd2
  subst hc hd hc2 hd2
  exact richCompare_meets_room (op := .Lt) ⟨_, ho, rfl⟩ ⟨_, ho2, rfl⟩ F.slot_tuple_lt F.entry_tuple_lt (F.args_tuple_lt_2 _ _) (tuple_ltAt l b items items2 n n2 dd dd2 sl sl2 e t r hr)
    ⟨ho, ho2, he, ht, show Value.bool (r 0) ≠ Value.notImplemented ∧ Q (.bool (r 0)) s from ⟨(fun x => nomatch x), h⟩⟩ hu
end L3
set_option Elab.async false
set_option linter.all false
set_option maxRecDepth 100000
set_option maxHeartbeats 4000000
namespace L3
open PySem PySem.Spec PyProof.Rows L2
section
variable {X : Cx} {pins : List (Addr × Obj)} {σ : St} {H : Hp} {s : Shared}
end
end L3
set_option Elab.async false
set_option linter.all false
set_option maxRecDepth 100000
set_option maxHeartbeats 4000000
namespace L3
open PySem PySem.Spec PyProof.Rows L2
mutual
def flatD : D → Prop
  | .lst _ => False
  | .tup l => flatDs l
  | _ => True
def flatDs : List D → Prop
  | [] => True
  | d :: l => flatD d ∧ flatDs l
end
theorem seqT_upd {K : PySem.W.Frag} {H : Hp} {a p : Addr} {xs ys zs : List V} (hp : H p = some (.lst ys)) (h : SqT K H a xs) : SqT K (upd H p (.lst zs)) a xs := by
  rcases h with (h | ⟨o, h⟩) | h
  · refine .inl (.inl ?_)
    rw [upd_ne (fun e => by rw [e, hp] at h; cases h)]
    exact h
  · refine .inl (.inr ⟨o, ?_⟩)
    rw [upd_ne (fun e => by rw [e, hp] at h; cases h)]
    exact h
  · exact .inr h
mutual
theorem Is.updL {K : PySem.W.Frag} {H : Hp} {p : Addr} {ys zs : List V} (hp : H p = some (.lst ys)) : ∀ (d : D) (v : V), flatD d → Is K H d v → Is K (upd H p (.lst zs)) d v
  | .non, v, _, h => by simp only [Is] at h ⊢; exact h
  | .bl b, v, _, h => by simp only [Is] at h ⊢; exact h
  | .int b, v, _, h => by simp only [Is] at h ⊢; exact h
  | .str b, v, _, h => by simp only [Is] at h ⊢; exact h
  | .lst l, v, f, h => by simp only [flatD] at f
  | .tup l, v, f, h => by
    simp only [Is] at h ⊢
    simp only [flatD] at f
    obtain ⟨a, xs, e1, e2, e3⟩ := h
    exact ⟨a, xs, e1, seqT_upd hp e2, Iss.updL hp l xs f e3⟩
theorem Iss.updL {K : PySem.W.Frag} {H : Hp} {p : Addr} {ys zs : List V} (hp : H p = some (.lst ys)) : ∀ (l : List D) (vs : List V), flatDs l → Iss K H l vs → Iss K (upd H p (.lst zs)) l vs
  | [], vs, _, h => by simp only [Iss] at h ⊢; exact h
  | d :: l, vs, f, h => by
    simp only [Iss] at h ⊢
    simp only [flatDs] at f
    obtain ⟨v, r, e1, e2, e3⟩ := h
    exact ⟨v, r, e1, Is.updL hp d v f.1 e2, Iss.updL hp l r f.2 e3⟩
end
theorem flatDs_of : ∀ {l : List D}, (∀ d ∈ l, flatD d) → flatDs l
  | [], _ => by simp only [flatDs]
  | d :: l, h => by simp only [flatDs]; exact ⟨h d (by simp), flatDs_of fun e he => h e (by simp [he])⟩
theorem dpDs_of {n : Nat} : ∀ {l : List D}, (∀ d ∈ l, dpD d ≤ n) → dpDs l ≤ n
  | [], _ => by simp only [dpDs]; omega
  | d :: l, h => by
    have h1 := h d (by simp)
    have h2 := dpDs_of (n := n) (l := l) fun e he => h e (by simp [he])
    simp only [dpDs]
    omega
def LsA (K : PySem.W.Frag) (H : Hp) (a : Addr) (ds : List D) : Prop := ∃ xs, H a = some (.lst xs) ∧ Iss K H ds xs
theorem LsA.same {K : PySem.W.Frag} {H H' : Hp} {a : Addr} {ds : List D} (h : LsA K H a ds) (e : Same H H') : LsA K H' a ds := let ⟨xs, h1, h2⟩ := h; ⟨xs, e _ _ h1, Iss.same e _ _ h2⟩
theorem LsA.is {K : PySem.W.Frag} {H : Hp} {a : Addr} {ds : List D} (h : LsA K H a ds) : Is K H (.lst ds) (.ref a) := by
  obtain ⟨xs, h1, h2⟩ := h
  simp only [Is]
  exact ⟨a, xs, rfl, SqL.of h1, h2⟩
theorem LsA.nil {K : PySem.W.Frag} {H : Hp} {a : Addr} : LsA K (upd H a (.lst [])) a [] := ⟨[], upd_same, by simp only [Iss]⟩
theorem LsA.snoc {K : PySem.W.Frag} {H : Hp} {a : Addr} {ds : List D} {d : D} {xs : List V} {v : V} (h1 : H a = some (.lst xs)) (h2 : Iss K H ds xs) (f : flatDs ds) (fd : flatD d) (hv : Is K H d v) : LsA K (upd H a (.lst (xs ++ [v]))) a (ds ++ [d]) :=
  ⟨_, upd_same, Iss.append (Iss.updL h1 _ _ f h2) (by simp only [Iss]; exact ⟨v, [], rfl, Is.updL h1 _ _ fd hv, rfl⟩)⟩
theorem Is.tup {K : PySem.W.Frag} {H : Hp} {p : Addr} {vs : List V} {ds : List D} (hp : H p = none) (h : Iss K H ds vs) : Is K (upd H p (.tup vs)) (.tup ds) (.ref p) := by
  simp only [Is]
  exact ⟨p, vs, rfl, SqT.of upd_same, Iss.same (same_upd hp) _ _ h⟩
abbrev dS (l : List Nat) : D := .str (tx l)
abbrev Rule := List Nat × List Nat
def dR (r : Rule) : D := .tup [dS r.1, dS r.2]
theorem is_dR {K : PySem.W.Frag} {H : Hp} {r : Rule} {v : V} (h : Is K H (dR r) v) : ∃ p, v = .ref p ∧ SqT K H p [.str (tx r.1), .str (tx r.2)] := by
  simp only [dR, Is, Iss] at h
  obtain ⟨a, xs, e, hs, v1, r1, rfl, rfl, v2, r2, rfl, rfl, rfl⟩ := h
  exact ⟨a, e, hs⟩
theorem dR_is {K : PySem.W.Frag} {H : Hp} {p : Addr} {l m : List Nat} (h : SqT K H p [.str (tx l), .str (tx m)]) : Is K H (dR (l, m)) (.ref p) := by
  simp only [dR, Is, Iss]
  exact ⟨p, _, rfl, h, _, _, rfl, rfl, _, _, rfl, rfl, rfl⟩
theorem flat_dR (r : Rule) : flatD (dR r) := by simp only [dR, flatD, flatDs, and_self]
theorem dp_dR (r : Rule) : dpD (dR r) ≤ 1 := by simp only [dR, dpD, dpDs]; omega
theorem flat_dRs (rs : List Rule) : flatDs (rs.map dR) := flatDs_of fun d h => by obtain ⟨r, _, rfl⟩ := List.mem_map.mp h; exact flat_dR r
theorem dp_dRs (rs : List Rule) : dpDs (rs.map dR) ≤ 1 := dpDs_of fun d h => by obtain ⟨r, _, rfl⟩ := List.mem_map.mp h; exact dp_dR r
abbrev N3 := Nat × Nat × Nat
def d3 (t : N3) : D := .tup [.int (t.1 : Nat), .int (t.2.1 : Nat), .int (t.2.2 : Nat)]
theorem Iss.get {K : PySem.W.Frag} {H : Hp} {l : List D} {vs : List V} {j : Nat} {v : V} (h : Iss K H l vs) (q : vs[j]? = some v) : ∃ d, l[j]? = some d ∧ Is K H d v := by
  have hj := (List.getElem?_eq_some_iff.mp q).1
  have hl := h.len
  have g1 : l[j]? = some l[j] := List.getElem?_eq_getElem (by omega)
  obtain ⟨x, hx, ix⟩ := h.at g1
  rw [q] at hx
  cases hx
  exact ⟨_, g1, ix⟩
theorem Iss.getR {K : PySem.W.Frag} {H : Hp} {rs : List Rule} {vs : List V} {j : Nat} {v : V} (h : Iss K H (rs.map dR) vs) (q : vs[j]? = some v) : ∃ r p, rs[j]? = some r ∧ v = .ref p ∧ SqT K H p [.str (tx r.1), .str (tx r.2)] := by
  obtain ⟨d, e, i⟩ := h.get q
  rw [List.getElem?_map] at e
  obtain ⟨r, hr, rfl⟩ := Option.map_eq_some_iff.mp e
  obtain ⟨p, e1, e2⟩ := is_dR i
  exact ⟨r, p, hr, e1, e2⟩
theorem cut_an {α : Type} (l : List α) {a b : Int} (h0 : 0 ≤ a) (h1 : a ≤ b) : cut l (some a) (some b) = (l.drop a.toNat).take (b - a).toNat := by
  by_cases h2 : b ≤ l.length
  · exact cut_mid l h0 h1 h2
  · obtain ⟨m, rfl⟩ := Int.eq_ofNat_of_zero_le h0
    obtain ⟨n, rfl⟩ := Int.eq_ofNat_of_zero_le (by omega : 0 ≤ b)
    unfold cut
    rw [HT.sIx_nat, HT.sIx_nat, Nat.min_eq_right (by omega : l.length ≤ n)]
    have e : (((n : Nat) : Int) - ((m : Nat) : Int)).toNat = n - m := by omega
    have e2 : ((m : Nat) : Int).toNat = m := rfl
    rw [e, e2, List.take_of_length_le (l := l.drop m) (by rw [List.length_drop]; omega)]
    by_cases hm : m ≤ l.length
    · rw [Nat.min_eq_left hm, List.take_of_length_le (by rw [List.length_drop]; omega)]
    · rw [Nat.min_eq_right (by omega), List.drop_of_length_le (Nat.le_refl _), List.drop_of_length_le (by omega), List.take_nil]
theorem LsA.copy {K : PySem.W.Frag} {H : Hp} {a p : Addr} {ds : List D} {xs : List V} (h1 : H a = some (.lst xs)) (h2 : Iss K H ds xs) (hp : H p = none) : LsA K (upd H p (.lst xs)) p ds := ⟨xs, upd_same, Iss.same (same_upd hp) _ _ h2⟩
theorem cutV_ints (ns : List Int) {a b : Int} (h0 : 0 ≤ a) (h1 : a ≤ b) : cutV (ns.map V.int) (some a) (some b) = ((ns.drop a.toNat).take (b - a).toNat).map V.int := by
  have e : cutV (ns.map V.int) (some a) (some b) = cut (ns.map V.int) (some a) (some b) := rfl
  rw [e, cut_an _ h0 h1, List.map_take, List.map_drop]
end L3
set_option Elab.async false
set_option linter.all false
set_option maxRecDepth 100000
set_option maxHeartbeats 4000000
namespace L3
open PySem PySem.Spec PyProof.Rows L2
open Classical in
noncomputable def eqAtV (K : PySem.W.Frag) (H : Hp) (d : D) (u : Value) : Bool := decide (∃ x e, absV u = some x ∧ Is K H e x ∧ eqD e d = true)
section
variable {X : Cx} {pins : List (Addr × Obj)} {σ : L2.St} {H : Hp} {s : Shared}
open Classical in
theorem eqAtV_of (I : Inv X pins σ H s) {d e : D} {x : V} {u : Value} (r : RelV x u) (h : Is X.K H e x) : eqAtV X.K H d u = eqD e d := by
  unfold eqAtV
  cases hb : eqD e d with
  | true => exact decide_eq_true ⟨x, e, r.abs, h, hb⟩
  | false =>
    refine decide_eq_false ?_
    rintro ⟨y, e', hy, hi, hq⟩
    rw [r.abs] at hy
    cases hy
    rw [is_det I e' e x hi h, hb] at hq
    cases hq
theorem any_eqAtV (I : Inv X pins σ H s) {d : D} : ∀ {l : List D} {xs : List V} {us : List Value}, Iss X.K H l xs → Vals xs us → us.any (eqAtV X.K H d) = l.any fun e => eqD e d
  | [], xs, us, h, r => by
    simp only [Iss] at h
    subst h
    cases r
    rfl
  | e :: l, xs, us, h, r => by
    simp only [Iss] at h
    obtain ⟨v, vs, rfl, h1, h2⟩ := h
    cases r with
    | cons r1 r2 => rw [List.any_cons, List.any_cons, eqAtV_of I r1 h1, any_eqAtV I h2 r2]
theorem vals_mem : ∀ {xs : List V} {us : List Value} {l : List D} {u : Value}, Vals xs us → Iss X.K H l xs → u ∈ us → ∃ x e, RelV x u ∧ Is X.K H e x ∧ e ∈ l
  | _, _, _, _, .nil, _, h => nomatch h
  | _, _, [], u, .cons r t, hi, h => by
    simp only [Iss] at hi
    cases hi
  | _, _, e :: l, u, .cons r t, hi, h => by
    simp only [Iss] at hi
    obtain ⟨v, vs, q, h1, h2⟩ := hi
    cases q
    rcases List.mem_cons.mp h with rfl | h
    · exact ⟨_, e, r, h1, List.mem_cons_self ..⟩
    · obtain ⟨x, e', a, b, c⟩ := vals_mem t h2 h
      exact ⟨x, e', a, b, List.mem_cons_of_mem _ c⟩
theorem dp_mem {l : List D} {e : D} (h : e ∈ l) : dpD e ≤ dpDs l := by
  obtain ⟨j, hj⟩ := List.getElem?_of_mem h
  exact dp_at hj
def rInD (K : PySem.W.Frag) (neg : Bool) : R2 := fun x y H Q => ∃ p l d, y = .ref p ∧ Is K H (.lst l) y ∧ Is K H d x ∧ dpDs l < 50 ∧ Q (.bl (if neg then !(l.any fun e => eqD e d) else l.any fun e => eqD e d)) H
theorem op_inD (hu : X.A.units + 100 < cLine) : OpR X (compareOp .In) (rInD X.K false) := by
  intro pins s σ H x y v u Q I rx ry h
  obtain ⟨p, l, d, rfl, hl, hd, hp, q⟩ := h
  cases ry
  simp only [Is] at hl
  obtain ⟨_, xs, e, hq, hi⟩ := hl
  cases e
  obtain ⟨its, r, pl, hz⟩ := I.list hq
  have huA : X.A.in1.units + 50 < cLine := by show X.A.units + 1 + 50 < cLine; omega
  refine SeqAt.in_listAt (eqAtV X.K H d) pl.isList (fun w hw => ?_) ⟨.bl _, H, I, rfl, ?_⟩
  · obtain ⟨z, e, rz, iz, me⟩ := vals_mem r hi (by simpa using hw)
    rw [eqAtV_of I rz iz]
    exact eqAt_D I 50 X.A.in1 e d z x w v huA (Nat.lt_of_le_of_lt (dp_mem me) hp) iz hd rz rx
  · rw [show its.toArray.any (eqAtV X.K H d) = its.any (eqAtV X.K H d) by simp, any_eqAtV I hi r]
    exact q
theorem op_ninD (hu : X.A.units + 100 < cLine) : OpR X (compareOp .NotIn) (rInD X.K true) := by
  intro pins s σ H x y v u Q I rx ry h
  obtain ⟨p, l, d, rfl, hl, hd, hp, q⟩ := h
  cases ry
  simp only [Is] at hl
  obtain ⟨_, xs, e, hq, hi⟩ := hl
  cases e
  obtain ⟨its, r, pl, hz⟩ := I.list hq
  have huA : X.A.in1.units + 50 < cLine := by show X.A.units + 1 + 50 < cLine; omega
  refine SeqAt.notIn_listAt (eqAtV X.K H d) pl.isList (fun w hw => ?_) ⟨.bl _, H, I, rfl, ?_⟩
  · obtain ⟨z, e, rz, iz, me⟩ := vals_mem r hi (by simpa using hw)
    rw [eqAtV_of I rz iz]
    exact eqAt_D I 50 X.A.in1 e d z x w v huA (Nat.lt_of_le_of_lt (dp_mem me) hp) iz hd rz rx
  · rw [show its.toArray.any (eqAtV X.K H d) = its.any (eqAtV X.K H d) by simp, any_eqAtV I hi r]
    exact q
end
theorem use_ninD {K : PySem.W.Frag} {x : V} {p : Addr} {H : Hp} {Q : VK} {l : List D} {d : D} (h1 : Is K H (.lst l) (.ref p)) (h2 : Is K H d x) (h3 : dpDs l < 50) (q : Q (.bl (!(l.any fun e => eqD e d))) H) : rInD K true x (.ref p) H Q := ⟨p, l, d, rfl, h1, h2, h3, q⟩
end L3
set_option Elab.async false
set_option linter.all false
set_option maxRecDepth 100000
set_option maxHeartbeats 4000000
namespace L3
open PySem PySem.Spec PyProof.Rows L2
structure DM (P : Program) (w : World) (K : PySem.W.Frag) (mg : Str → Option Value) (base : Heap) (CX : CXT) (k : Nat) (C : Addr) (m : Str) (ps : List Str) (sp : Sp) : Prop where
  ex : ∃ f fd, Meth K C m f ∧ FnOk P w K mg base CX k f fd ps sp ∧ Binds K fd ps []
structure DMk (P : Program) (w : World) (K : PySem.W.Frag) (mg : Str → Option Value) (base : Heap) (CX : CXT) (k : Nat) (C : Addr) (ps : List Str) (sp : Sp) : Prop where
  ex : ∃ f fd, Mk K C f ∧ FnOk P w K mg base CX k f fd ps sp ∧ Binds K fd ps []
section
variable {X : Cx} {k j : Nat} {C : Addr} {m : Str} {ps : List Str} {sp : Sp} {o e : Expr} {es : List Expr} {ta : TE} {t : TA} {apos pos p : Pos} {x : Str} {E : XK}
theorem me0 (D : DM X.prog X.w X.K X.mg X.base CX0 k C m ps sp) (c : Cls X.K C) (hr : Room j X.A) (he : PE X o ta) {pl : Sem Bool} (ht : eval (.Call (.Attribute o m apos) [] [] pos) X.env = (do
      let ov ← eval o X.env
      standAt apos.atName
      let (f, first) ← holding [ov] (getMethod ov m pl)
      callWith pos f first (backTo pos (starEach [] X.env)) (backToKw pos (keywordEach [] X.env))) := by rfl) (hj : k ≤ j := by decide) : PE X (.Call (.Attribute o m apos) [] [] pos) (tMeth C m sp [] E0 ta tNil) := by
  obtain ⟨f, fd, hm, F, hb⟩ := D.ex
  exact pe_meth0 he c hm F (hr.mono hj) hb .nil pass0 ht
theorem me1 (D : DM X.prog X.w X.K X.mg X.base CX0 k C m ps sp) (c : Cls X.K C) (hr : Room j X.A) (he : PE X o ta) (ha : PA X (e :: es) t) {pl : Sem Bool}
    (hst : starEach (e :: es) X.env = (false, eval e X.env) :: starEach es X.env := by rfl) (hpl : (backTo pos (starEach es X.env)).any (·.1) = false := by rfl)
    (ht : eval (.Call (.Attribute o m apos) (e :: es) [] pos) X.env = (do
      let ov ← eval o X.env
      standAt apos.atName
      let (f, first) ← holding [ov] (getMethod ov m pl)
      callWith pos f first (backTo pos (starEach (e :: es) X.env)) (backToKw pos (keywordEach [] X.env))) := by rfl) (hj : k ≤ j := by decide) : PE X (.Call (.Attribute o m apos) (e :: es) [] pos) (tMeth C m sp [] E0 ta t) := by
  obtain ⟨f, fd, hm, F, hb⟩ := D.ex
  exact pe_meth he c hm F (hr.mono hj) hb .nil pass0 ha hst hpl ht
theorem me1x (hx : XE X E) (D : DM X.prog X.w X.K X.mg X.base (CXx X.prog X.w) k C m ps sp) (c : Cls X.K C) (hr : Room j X.A) (he : PE X o ta) (ha : PA X (e :: es) t) {pl : Sem Bool}
    (hst : starEach (e :: es) X.env = (false, eval e X.env) :: starEach es X.env := by rfl) (hpl : (backTo pos (starEach es X.env)).any (·.1) = false := by rfl)
    (ht : eval (.Call (.Attribute o m apos) (e :: es) [] pos) X.env = (do
      let ov ← eval o X.env
      standAt apos.atName
      let (f, first) ← holding [ov] (getMethod ov m pl)
      callWith pos f first (backTo pos (starEach (e :: es) X.env)) (backToKw pos (keywordEach [] X.env))) := by rfl) (hj : k ≤ j := by decide) : PE X (.Call (.Attribute o m apos) (e :: es) [] pos) (tMeth C m sp [] E ta t) := by
  obtain ⟨f, fd, hm, F, hb⟩ := D.ex
  exact pe_meth he c hm F (hr.mono hj) hb .nil (passes_x hx) ha hst hpl ht
end
end L3
set_option Elab.async false
set_option linter.all false
set_option maxRecDepth 100000
set_option maxHeartbeats 4000000
namespace L3
open PySem PySem.Spec PyProof.Rows L2
section
variable {X : Cx}
end
section
variable {X : Cx} {k j : Nat} {C : Addr} {m : Str} {ps : List Str} {sp : Sp} {o e : Expr} {es : List Expr} {ta : TE} {t : TA} {apos pos p : Pos}
end
end L3
set_option Elab.async false
set_option linter.all false
set_option maxRecDepth 100000
set_option maxHeartbeats 4000000
namespace L3
open PySem PySem.Spec PyProof.Rows L2
def tMethF (Fam : Addr → Prop) (m : Str) (sp : Addr → Sp) (dvs : List V) (E : XK) (ta : TE) (t : TA) : TE := fun σ H Q => ta σ H fun x H1 => ∃ C a dx fs, Fam C ∧ x = .ref a ∧ H1 a = some (.ins C dx fs) ∧ fs.lookup m = none ∧
  t σ H1 fun vs H2 => sp C (x :: (vs ++ dvs)) H2 Q E
section
variable {X : Cx} {k j : Nat} {Fam : Addr → Prop} {m : Str} {ps : List Str} {sp : Addr → Sp} {o e : Expr} {es : List Expr} {ta : TE} {t : TA} {apos pos p : Pos} {x : Str} {E : XK}
end
section
variable {X : Cx}
def rSum (K : PySem.W.Frag) : List V → Hp → VK → Prop := fun xs H Q => ∃ (p : Addr) (ns : List Int), xs = [.ref p] ∧ SqL K H p (ns.map V.int) ∧ Q (.int ns.sum) H
end
end L3
set_option Elab.async false
set_option linter.all false
set_option maxRecDepth 100000
set_option maxHeartbeats 4000000
namespace L3
open PySem PySem.Spec PyProof.Rows L2
def tRev (te ts : TE) : TE := fun σ H Q => te σ H fun x H1 => ts σ H1 fun y H2 => y = .int (-1) ∧ ∃ l : List Nat, x = .str (tx l) ∧ l.length ≤ sizeLine ∧ Q (.str (tx l.reverse)) H2
section
variable {X : Cx} {e st : Expr} {te ts : TE} {pos p2 : Pos}
end
end L3
set_option Elab.async false
set_option linter.all false
set_option maxRecDepth 100000
set_option maxHeartbeats 4000000
namespace L3
open PySem PySem.Spec PyProof.Rows L2
section
variable {X : Cx} {k j : Nat} {C : Addr} {m x : Str} {ps : List Str} {sp : Sp} {e : Expr} {es : List Expr} {t : TA} {apos pos p : Pos}
def rIndex : V → List V → Hp → VK → Prop := fun x xs H Q => ∃ (z y : Str) (i : Nat), x = .str z ∧ xs = [.str y] ∧ PySem.Txt.find z y = (i : Int) ∧ Q (.int (i : Nat)) H
theorem m_index : MtR X "str.index" rIndex := by
  intro pins s σ H x xs v us Q I rx rv h
  obtain ⟨z, y, i, rfl, rfl, hf, q⟩ := h
  obtain ⟨t, rfl⟩ := rx
  obtain ⟨u, rfl, t', rfl⟩ := vals1 rv
  unfold PySem.Txt.find at hf
  cases ho : Builtin.Str.occurrences z y 0 z.length 1 with
  | nil => rw [ho] at hf; dsimp only at hf; omega
  | cons a r =>
    rw [ho] at hf
    have : a = i := by dsimp only at hf; omega
    subst this
    exact PySem.SC.index ho ⟨.int _, H, I.tok _, ⟨_, rfl⟩, q⟩
end
end L3
set_option Elab.async false
set_option linter.all false
set_option maxRecDepth 100000
set_option maxHeartbeats 4000000
namespace L3
open PySem PySem.Spec PyProof.Rows L2
section
variable {prog : Program} {w : World} {A : Around} {E : Value → Shared → Prop} {s : Shared}
end
end L3
set_option Elab.async false
set_option linter.all false
set_option maxRecDepth 100000
set_option maxHeartbeats 4000000
namespace L3
open PySem PySem.Spec PyProof.Rows L2
section
variable {prog : Program} {w : World} {A : Around} {E : Value → Shared → Prop} {s : Shared}
end
section
variable {prog : Program} {w : World} {A : Around} {E : Value → Shared → Prop} {s : Shared}
end
end L3
set_option Elab.async false
set_option linter.all false
set_option maxRecDepth 100000
set_option maxHeartbeats 4000000
namespace L3
open PySem PySem.Spec PyProof.Rows L2
def Izs (K : PySem.W.Frag) (l : List Nat) (b : Addr) : It := ⟨fun i H => ∃ ys y, SqT K H b ys ∧ i < l.length ∧ ys[i]? = some y, fun i H v H' => ∃ p c y, H p = none ∧ l[i]? = some c ∧ (∀ ys, SqT K H b ys → ys[i]? = some y) ∧ v = .ref p ∧ H' = upd H p (.tup [.str (tx [c]), y]), fun i H => i = l.length⟩
section
variable {X : Cx}
def iZs (K : PySem.W.Frag) (ta : TA) : TI := fun σ H R => ta σ H fun vs H1 => ∃ l b, vs = [.str (tx l), .ref b] ∧ (∃ ys, SqT K H1 b ys) ∧ R (Izs K l b) H1
end
def CompZ (K : PySem.W.Frag) (l : List Nat) (b : Addr) (g : TG) (tt : TT) (te : TE) (own : Nat) (ix : List Nat) (σ : L2.St) (H1 : Hp) (Q : VK) (D : Addr) : Prop := CompG (Izs K l b) g tt te own ix σ H1 Q D
theorem rd_cz {K : PySem.W.Frag} {ta : TA} {g : TG} {tt : TT} {te : TE} {own : Nat} {ix : List Nat} {σ : L2.St} {H : Hp} {Q : VK} : tComp (iZs K ta) g tt te own ix σ H Q = ta σ H fun vs H1 => ∃ l b, vs = [.str (tx l), .ref b] ∧ (∃ ys, SqT K H1 b ys) ∧ ∀ D, H1 D = none → CompZ K l b g tt te own ix σ H1 Q D := rfl
section
variable {g : TG} {tt : TT} {te : TE} {own : Nat} {ix : List Nat} {σ : L2.St} {H1 : Hp} {Q : VK} {D : Addr}
end
end L3
set_option Elab.async false
set_option linter.all false
set_option maxRecDepth 100000
set_option maxHeartbeats 4000000
namespace L3
open PySem PySem.Spec PyProof.Rows L2
section
variable {X : Cx} {k1 k2 k3 j : Nat} {C1 C2 C3 : Addr} {m : Str} {ps : List Str} {s1 s2 s3 : Sp} {o e : Expr} {es : List Expr} {ta : TE} {t : TA} {apos pos p : Pos} {E : XK}
def tAlt (t1 t2 : TE) : TE := fun σ H Q => t1 σ H Q ∨ t2 σ H Q
end
end L3
set_option Elab.async false
set_option linter.all false
set_option maxRecDepth 100000
set_option maxHeartbeats 4000000
namespace L3
open PySem PySem.Spec PyProof.Rows L2
section
variable {X : Cx}
def rLIdx (K : PySem.W.Frag) : V → List V → Hp → VK → Prop := fun x xs H Q => ∃ (p : Addr) (ns : List Int) (z : Int), x = .ref p ∧ xs = [.int z] ∧ SqL K H p (ns.map V.int) ∧ z ∈ ns ∧ Q (.int (ns.idxOf z : Nat)) H
def eqIV (z : Int) : Value → Bool
  | .int a _ => a == z
  | _ => false
theorem m_lindex : MtR X "list.index" (rLIdx X.K) := by
  intro pins s σ H x xs v us Q I rx rv h
  obtain ⟨p, ns, z, rfl, rfl, hS, hz, q⟩ := h
  cases rx
  obtain ⟨u, rfl, tz, rfl⟩ := vals1 rv
  obtain ⟨its, r, pl, hl⟩ := I.list hS
  have s16 : (sizeLine : Nat) = 16777216 := sizeLine_eq
  have hlen := r.length
  rw [List.length_map] at hlen hl
  have hlt := List.idxOf_lt_length_of_mem hz
  have hv : ∀ (j : Nat) (n : Int), ns[j]? = some n → ∃ t, its[j]? = some (.int n t) := fun j n hn => by
    obtain ⟨u, hu, t, rfl⟩ := vals_at r (j := j) (x := .int n) (by rw [List.getElem?_map, hn]; rfl)
    exact ⟨t, hu⟩
  have hat : ∀ (j : Nat) (hj : j < its.toArray.size), ∃ n t, ns[j]? = some n ∧ its.toArray[j] = .int n t := fun j hj => by
    rw [List.size_toArray] at hj
    obtain ⟨t, ht⟩ := hv j ns[j] (List.getElem?_eq_getElem (by omega))
    exact ⟨_, t, List.getElem?_eq_getElem (by omega), by simpa using (List.getElem?_eq_some_iff.mp ht).2⟩
  obtain ⟨o, n0, e, hc, hd, hda⟩ := id pl
  obtain ⟨oc, od, oda, os⟩ := o
  simp only at hc hd hda
  subst hc hd hda
  refine call_meets F.slot_list_index ⟨_, e, rfl⟩ F.entry_list_index (F.args_list_index_2 _ _) (PySem.SeqAt.list_indexAt p its.toArray n0 _ os (.int z tz) (eqIV z) (ns.idxOf z) (by rw [List.size_toArray]; omega) (by omega) ?_ ?_) ⟨e, ?_, ?_⟩
  · obtain ⟨n, t, h1, h2⟩ := hat (ns.idxOf z) (by rw [List.size_toArray]; omega)
    rw [h2]
    rw [List.getElem?_eq_getElem hlt, List.getElem_idxOf] at h1
    cases h1
    simp [eqIV]
  · intro m hm hlt'
    obtain ⟨n, t, h1, h2⟩ := hat m hm
    rw [h2]
    have := List.not_of_lt_findIdx (p := (· == z)) hlt'
    obtain ⟨h3, h4⟩ := List.getElem?_eq_some_iff.mp h1
    simp only [h4] at this
    simpa [eqIV] using this
  · intro y hy
    obtain ⟨j, hj, rfl⟩ := Array.mem_iff_getElem.mp hy
    obtain ⟨n, t, h1, h2⟩ := hat j hj
    rw [h2]
    exact (PySem.MeetsSeq.EqGives.int n z t tz).at _ _
  · exact ⟨.int _, H, I.tok _, ⟨_, rfl⟩, q⟩
end
end L3
set_option Elab.async false
set_option linter.all false
set_option maxRecDepth 100000
set_option maxHeartbeats 4000000
namespace L3
open PySem PySem.Spec PyProof.Rows L2
section
variable {X : Cx}
end
end L3
set_option Elab.async false
set_option linter.all false
set_option maxRecDepth 100000
set_option maxHeartbeats 4000000
namespace L3
open PySem PySem.Spec PyProof.Rows L2 PySem.W PySem.Calls
section
variable {X : Cx}
end
end L3
set_option Elab.async false
set_option linter.all false
set_option maxRecDepth 100000
set_option maxHeartbeats 4000000
namespace L3
open PySem PySem.Spec PyProof.Rows L2
section
variable {X : Cx} {k j : Nat} {C : Addr} {x f' : Str} {ps : List Str} {sp : Sp} {e : Expr} {es : List Expr} {t : TA} {te : TX} {pos p : Pos}
end
section
variable {X : Cx} {k j : Nat} {C : Addr} {m x : Str} {ps : List Str} {sp : Sp} {e : Expr} {es : List Expr} {t : TA} {apos pos p : Pos} {E : XK}
end
end L3
set_option Elab.async false
set_option linter.all false
set_option maxRecDepth 100000
set_option maxHeartbeats 4000000
namespace L3
open PySem PySem.Spec PyProof.Rows L2
section
variable {prog : Program} {w : World} {A : Around} {E : Value → Shared → Prop} {s : Shared} {env : Env}
end
end L3
set_option Elab.async false
set_option linter.all false
set_option maxRecDepth 100000
set_option maxHeartbeats 4000000
namespace L3
open PySem PySem.Spec PyProof.Rows L2
theorem XEg.xe {X : Cx} {E : XK} (h : XEg X E) : XE X E := fun e s ⟨pins, σ, H, x, C, t, dx, tb, q⟩ => h e s ⟨.none, false, pins, σ, H, x, C, t, dx, tb, q⟩
section
variable {X : Cx} {k : Nat} {ps : List Str} {sp : Sp} {ds : List Value} {dvs : List V} {E : XK} {x : Str} {p pos : Pos} {e : Expr} {es : List Expr} {t : TA}
end
section
variable {X : Cx} {o e : Expr} {to : TE} {te : TX} {name : Str} {apos cpos : Pos} {T id : String} {r : V → List V → Hp → VK → Prop}
end
section
variable {X : Cx}
end
section
variable {X : Cx} {k j : Nat} {C : Addr} {ps : List Str} {sp : Sp} {e : Expr} {es : List Expr} {t : TA} {pos p : Pos} {x : Str}
end
end L3
set_option Elab.async false
set_option linter.all false
set_option maxRecDepth 100000
set_option maxHeartbeats 4000000
namespace L3
open PySem PySem.Spec PyProof.Rows L2
end L3
set_option Elab.async false
set_option linter.all false
set_option maxRecDepth 100000
set_option maxHeartbeats 4000000
namespace L3
open PySem PySem.Spec PyProof.Rows L2
section
variable {prog : Program} {w : World} {A : Around} {R : Result → Shared → Prop} {I l S : Addr}
end
section
variable {X : Cx} {id : String} {x : Str} {e : Expr} {es : List Expr} {kws : List Keyword} {ks : List Str} {p pos : Pos} {t tk : TA}
end
end L3
set_option Elab.async false
set_option linter.all false
set_option maxRecDepth 100000
set_option maxHeartbeats 4000000
namespace L3
open PySem PySem.Spec PyProof.Rows L2
end L3
set_option Elab.async false
set_option linter.all false
set_option maxRecDepth 100000
set_option maxHeartbeats 4000000
namespace L3
open PySem PySem.Spec PyProof.Rows L2
section
variable {X : Cx}
end
end L3
set_option Elab.async false
set_option linter.all false
set_option maxRecDepth 100000
set_option maxHeartbeats 4000000
namespace L3
open PySem PySem.Spec PyProof.Rows L2
section
variable {X : Cx}
end
end L3
set_option Elab.async false
set_option linter.all false
set_option maxRecDepth 100000
set_option maxHeartbeats 4000000
namespace L3
open PySem PySem.Spec PyProof.Rows L2
section
variable {X : Cx}
end
end L3
set_option Elab.async false
set_option linter.all false
set_option maxRecDepth 100000
set_option maxHeartbeats 4000000
namespace L3
open PySem PySem.Spec PyProof.Rows L2
section
variable {g : TG} {tt : TT} {te : TE} {own : Nat} {ix : List Nat} {σ : L2.St} {H1 : Hp} {Q : VK} {D : Addr}
end
end L3
set_option Elab.async false
set_option linter.all false
set_option maxRecDepth 100000
set_option maxHeartbeats 4000000
namespace L3
open PySem PySem.Spec PyProof.Rows L2
section
variable {X : Cx}
end
end L3
set_option Elab.async false
set_option linter.all false
set_option maxRecDepth 100000
set_option maxHeartbeats 4000000
namespace L3
open PySem PySem.W PyProof.Rows
def kRun (lt : Nat → Nat → Bool) {α : Type} : KasT α → α
  | .ret a => a
  | .ask i j k => kRun lt (k (lt i j))
def Kok (lt : Nat → Nat → Bool) (n : Nat) {α : Type} : KasT α → (α → Prop) → Prop
  | .ret a, Q => Q a
  | .ask i j k, Q => i < n ∧ j < n ∧ Kok lt n (k (lt i j)) Q
section
variable {lt : Nat → Nat → Bool} {n : Nat} {α β : Type}
theorem Kok.bind {f : α → KasT β} {Q : β → Prop} : ∀ (t : KasT α), Kok lt n t (fun a => Kok lt n (f a) Q) → Kok lt n (t.bind f) Q
  | .ret _, h => h
  | .ask _ _ k, h => ⟨h.1, h.2.1, Kok.bind (k _) h.2.2⟩
theorem Kok.run {Q : α → Prop} : ∀ (t : KasT α), Kok lt n t Q → Q (kRun lt t)
  | .ret _, h => h
  | .ask _ _ k, h => Kok.run (k _) h.2.2
end
section
variable {lt : Nat → Nat → Bool} {n : Nat}
abbrev pg (p : Array Nat) (i : Nat) : Nat := p.getD i 0
def Rg (n : Nat) (p : Array Nat) : Prop := p.toList.Perm (List.range n)
theorem Rg.size {p : Array Nat} (h : Rg n p) : p.size = n := by have := h.length_eq; simpa using this
theorem Rg.bd {p : Array Nat} (h : Rg n p) {i : Nat} (hi : i < n) : pg p i < n := by
  have hs := h.size
  have hi' : i < p.size := by omega
  have e : pg p i = p[i] := by simp [pg, Array.getD, hi']
  rw [e]
  have hm : p[i] ∈ p.toList := Array.mem_toList_iff.mpr (Array.getElem_mem hi')
  exact List.mem_range.mp (h.mem_iff.mp hm)
theorem Rg.rev {p : Array Nat} (h : Rg n p) (i j : Nat) : Rg n (kas_rev p i j) := (Array.perm_iff_toList_perm.mp (mirror_perm p i j _)).trans h
end
end L3
set_option Elab.async false
set_option linter.all false
set_option maxRecDepth 100000
set_option maxHeartbeats 4000000
namespace L3
open PySem PySem.Spec PyProof.Rows L2
section
variable {X : Cx} {pins : List (Addr × Obj)} {σ : L2.St} {H : Hp} {s : Shared}
end
end L3
set_option Elab.async false
set_option linter.all false
set_option maxRecDepth 100000
set_option maxHeartbeats 4000000
namespace L3
open PySem PySem.Spec PyProof.Rows L2
section
variable {X : Cx} {pins : List (Addr × Obj)} {σ : L2.St} {H : Hp} {s : Shared}
end
end L3
set_option Elab.async false
set_option linter.all false
set_option maxRecDepth 100000
set_option maxHeartbeats 4000000
namespace L3
open PySem PySem.Spec PyProof.Rows L2
section
variable {X : Cx} {pins : List (Addr × Obj)} {σ : L2.St} {H : Hp} {s : Shared}
end
end L3
set_option Elab.async false
set_option linter.all false
set_option maxRecDepth 100000
set_option maxHeartbeats 4000000
namespace L3
open PySem PySem.Spec PyProof.Rows L2
section
variable {X : Cx} {pins : List (Addr × Obj)} {σ : L2.St} {H : Hp} {s : Shared} {p y name qual : Str} {scope : Scope} {params : Arguments} {body : Expr} {f c' c : Addr} {pm ctv cv : Value} {k iy : Nat} {vy x : V} {u : Value} {Q : VK} {t : TE}
end
end L3
set_option Elab.async false
set_option linter.all false
set_option maxRecDepth 100000
set_option maxHeartbeats 4000000
namespace L3
open PySem PySem.Spec PyProof.Rows L2
def cdE (c' : Addr) (q : Str) : HO := .ext fun h => h.CodeRec (.ref c') q
def fnE (f : Addr) (o : Obj) : HO := .ext fun h => h.get? f = some o
def SamT (P : Addr) (H H' : Hp) : Prop := ∀ b o, b ≠ P → H b = some o → H' b = some o
theorem cdE_ok {P : Program} {w : World} {H : Hp} {h : Heap} {c' : Addr} {q : Str} (x : h.CodeRec (.ref c') q) : ObjOk P w H h c' (cdE c' q) := by
  refine ⟨x, ?_, fun h1 h2 a k => ?_⟩
  · obtain ⟨c, o, vs, t, e, g, _⟩ := x
    cases e
    exact ⟨o, g⟩
  · obtain ⟨c, o, vs, t, e, g, r⟩ := a
    cases e
    exact ⟨_, o, vs, t, rfl, k o g, r⟩
theorem fnE_ok {P : Program} {w : World} {H : Hp} {h : Heap} {f : Addr} {o : Obj} (x : h.get? f = some o) : ObjOk P w H h f (fnE f o) :=
  ⟨x, ⟨o, x⟩, fun h1 h2 a k => k o a⟩
section
variable {X : Cx} {pins : List (Addr × Obj)} {σ : L2.St} {H : Hp} {s : Shared}
theorem Inv.grow {P c' f : Addr} {ps more : Array Value} {o : Obj} {q : Str} {h' : Heap} {tk : Nat} (I : Inv X pins σ H s) (hP : H P = some (.tbl ps)) (hk : ∀ b u, b ≠ P → s.heap.get? b = some u → h'.get? b = some u) (hP' : h'.get? P = some { cls := .none, data := .fields (ps ++ more) })
    (hc : s.heap.objs.size ≤ c') (hf : s.heap.objs.size ≤ f) (hcf : c' ≠ f) (hcr : h'.CodeRec (.ref c') q) (hfo : h'.get? f = some o) :
    Inv X pins σ (upd (upd (upd H P (.tbl (ps ++ more))) c' (cdE c' q)) f (fnE f o)) { s with heap := h', toks := tk } := by
  have Pl : P < s.heap.objs.size := I.hok.lt hP
  have hPc : P ≠ c' := Nat.ne_of_lt (Nat.lt_of_lt_of_le Pl hc)
  have hPf : P ≠ f := Nat.ne_of_lt (Nat.lt_of_lt_of_le Pl hf)
  have old : ∀ b, b < s.heap.objs.size → b ≠ P → (upd (upd (upd H P (.tbl (ps ++ more))) c' (cdE c' q)) f (fnE f o)) b = H b := fun b hb hbP => by
    rw [upd_ne (Nat.ne_of_lt (Nat.lt_of_lt_of_le hb hf)), upd_ne (Nat.ne_of_lt (Nat.lt_of_lt_of_le hb hc)), upd_ne hbP]
  have atP : (upd (upd (upd H P (.tbl (ps ++ more))) c' (cdE c' q)) f (fnE f o)) P = some (.tbl (ps ++ more)) := by
    rw [upd_ne hPf, upd_ne hPc, upd_same]
  have neP : ∀ b, H b = none → b ≠ P := fun b e z => by rw [z, hP] at e; cases e
  refine I.un ⟨fun b u e n _ _ => hk b u (neP b n) e, fun b u e n _ _ => ⟨u.slots, hk b u (neP b n) e⟩, fun b u e n _ => ?_, fun b u e _ => ?_, fun b xs e => ?_, fun b ob u e => ?_, fun b qs e => ?_⟩ fun b u e => ?_
  · rw [old b (Heap.lt_size e) (neP b n)]
    exact n
  · by_cases hb : b = P
    · subst hb; exact ⟨_, hP'⟩
    · exact ⟨u, hk b u hb e⟩
  · rw [old b (I.hok.lt e) (fun z => by rw [z, hP] at e; cases e)]
    exact e
  · rw [old b (I.hok.lt e) (fun z => by rw [z, hP] at e; cases e)]
    exact e
  · by_cases hb : b = P
    · subst hb
      rw [hP] at e
      cases e
      exact ⟨more, atP⟩
    · rw [old b (I.hok.lt e) hb]
      exact ⟨#[], by rw [e]; simp⟩
  · by_cases hbf : b = f
    · subst hbf
      rw [upd_same] at e
      cases e
      exact fnE_ok hfo
    · rw [upd_ne hbf] at e
      by_cases hbc : b = c'
      · subst hbc
        rw [upd_same] at e
        cases e
        exact cdE_ok hcr
      · rw [upd_ne hbc] at e
        by_cases hbP : b = P
        · subst hbP
          rw [upd_same] at e
          cases e
          exact hP'
        · rw [upd_ne hbP] at e
          refine (I.hok b u e).stay (fun d v hd g => hk d v ?_ g) (fun d g => ?_) fun d xs g => ?_
          · rcases hd with z | z
            · rw [z]; exact hbP
            · intro z'; rw [z', hP] at z; cases z
          · rw [old d (I.hok.lt g) (fun z => by rw [z, hP] at g; cases g)]
            exact g
          · rw [old d (I.hok.lt g) (fun z => by rw [z, hP] at g; cases g)]
            exact g
end
end L3
set_option Elab.async false
set_option linter.all false
set_option maxRecDepth 100000
set_option maxHeartbeats 4000000
namespace L3
open PySem PySem.Spec PyProof.Rows L2
section
variable {X : Cx} {pins : List (Addr × Obj)} {σ : L2.St} {H : Hp} {s : Shared} {cc P c : Addr} {y : Str} {params : Arguments} {body : Expr} {scope : Scope} {pos : Pos} {Q : VK}
end
end L3
set_option Elab.async false
set_option linter.all false
set_option maxRecDepth 100000
set_option maxHeartbeats 4000000
namespace L3
open PySem PySem.Spec PyProof.Rows L2
section
variable {X : Cx} {cc P c : Addr} {x p y : Str} {params : Arguments} {body e : Expr} {scope : Scope} {lpos kpos pos pp : Pos} {k iy : Nat} {te tb : TE}
end
end L3
set_option Elab.async false
set_option linter.all false
set_option maxRecDepth 100000
set_option maxHeartbeats 4000000
namespace L3
open PySem PySem.Spec PyProof.Rows L2
section
variable {K : PySem.W.Frag}
theorem SamT.free {T b : Addr} {H H' : Hp} {o : HO} (s : SamT T H H') (hT : H' T = some o) (h : H' b = none) : H b = none := by
  cases e : H b with
  | none => rfl
  | some u =>
    by_cases hb : b = T
    · rw [hb, hT] at h; cases h
    · rw [s b u hb e] at h; cases h
end
end L3
set_option Elab.async false
set_option linter.all false
set_option maxRecDepth 100000
set_option maxHeartbeats 4000000
namespace L3
open PySem PySem.Spec PyProof.Rows L2
section
variable {P : Program} {w : World} {K : PySem.W.Frag} {mg mb : Str → Option Value} {CX : CXT} {k : Nat} {fa a T cc : Addr} {fd : FuncData} {x : Str} {sp : Sp} {s₁ : Shared} {vs : List Value} {ns : List Int} {ps : Array Value}
end
end L3
set_option Elab.async false
set_option linter.all false
set_option maxRecDepth 100000
set_option maxHeartbeats 4000000
namespace PySem
namespace F
end F
section
variable {prog : Program} {w : World} {A : Around} {E : Value → Shared → Prop} {s : Shared}
def Heap.IsRevS (h : Heap) (a : Addr) (x : Str) (t : Tok) (i : Int) : Prop := ∃ o, h.get? a = some o ∧ o.cls = .type "reversed" ∧ o.data = .fields #[.str x t, rawInt i]
theorem Heap.IsRevS.typeIs {a : Addr} {x : Str} {t : Tok} {i : Int} (z : s.heap.IsRevS a x t i) : s.TypeIs (.ref a) "reversed" := let ⟨o, ho, hc, _⟩ := z; ⟨o, ho, hc⟩
theorem Heap.IsRevS.at {h h' : Heap} {a : Addr} {x : Str} {t : Tok} {i : Int} (z : h.IsRevS a x t i) (e : ∀ o, h.get? a = some o → h'.get? a = some o) : h'.IsRevS a x t i := let ⟨o, ho, r⟩ := z; ⟨o, e _ ho, r⟩
end
section
variable {prog : Program} {w : World} {A : Around} {E : Value → Shared → Prop} {s : Shared}
end
end PySem
namespace L3
open PySem PySem.Spec PyProof.Rows L2
section
variable {X : Cx} {o a : Expr} {to : TE} {ta : TA} {apos cpos p pos2 : Pos}
end
end L3
set_option Elab.async false
set_option linter.all false
namespace L2
open PySem PySem.Spec PyProof.Rows
section
variable {X : Cx} {tg : Expr}
end
end L2
namespace L3
open PySem L2
section
variable {g : TG} {tt : TT} {te : TE} {own : Nat} {ix : List Nat} {σ : L2.St} {H1 : Hp} {Q : VK} {D : Addr}
end
end L3
set_option Elab.async false
set_option linter.all false
set_option maxRecDepth 100000
set_option maxHeartbeats 4000000
namespace L3
open PySem PySem.Spec PyProof.Rows L2
open AutoSeq1 (wpAny_loadPart')
open MeetsSeq MeetsSeq2 MeetsSeq3 SeqRoads2 SeqAt
def LeAt (A : Around) (s : Shared) (y x : Value) (b : Bool) : Prop :=
  ∀ (prog : Program) (w : World) (E : Value → Shared → Prop) (Q : Value → Shared → Prop), Q (.bool b) s → wpAny (model prog w) A (richCompare .LtE y x) Q E s
def StepsLe (e t r : Nat → Bool) (m n : Nat) : Prop := ∀ i, i ≤ m → i ≤ n → r i = if i < m ∧ i < n then (if e i = true then r (i + 1) else t i) else decide (m ≤ n)
theorem le_loopAt (l b : Addr) (items items2 : Array Value) (n n2 : Nat) (dd dd2 : Option Addr) (sl sl2 : Array (Option Value)) (e t r : Nat → Bool) (hr : StepsLe e t r items.size items2.size) (k : Nat) :
    ∀ i : Nat, i ≤ items.size → i ≤ items2.size → items.size - i = k → Meets (Builtin.«list.__eq__.loop» ⟨[.ref l, .ref b, rawInt i, rawInt 1], []⟩)
      (fun A R s => s.heap.get? l = some { cls := .type "list", dict := dd, data := .seq items n, slots := sl } ∧ s.heap.get? b = some { cls := .type "list", dict := dd2, data := .seq items2 n2, slots := sl2 } ∧
        (∀ j (h1 : j < items.size) (h2 : j < items2.size), EqAt A.in1 s items[j] items2[j] (e j)) ∧ (∀ j (h1 : j < items.size) (h2 : j < items2.size), e j = false → LeAt A.in1 s items[j] items2[j] (t j)) ∧
        R (.ok (.ret (.bool (r i)))) s) := by
  induction k with
  | zero =>
    intro i b1 b2 hk prog w A R s h
    obtain ⟨hp, g, d, tk, os⟩ := s; obtain ⟨hl, hb, he, ht, h⟩ := h
    have hri := hr i b1 b2
    rw [if_neg (by omega)] at hri
    rw [hri] at h
    wp_walk using wpAny_loadPart' hl, wpAny_loadPart' hb
    have hi1 : items[((i : Nat) : Int).toNat]? = none := by simp; omega
    rw [hi1]
    wp_walk using wpAny_loadPart' hl, wpAny_loadPart' hb
    exact h
  | succ k ih =>
    intro i b1 b2 hk prog w A R s h
    obtain ⟨hp, g, d, tk, os⟩ := s; obtain ⟨hl, hb, he, ht, h⟩ := h
    have hlt : i < items.size := by omega
    have hi1 : items[((i : Nat) : Int).toNat]? = some items[i] := by simp [hlt]
    have hc : ((i : Int) + 1) = ((i + 1 : Nat) : Int) := by push_cast; rfl
    have hri := hr i b1 b2
    by_cases hlt2 : i < items2.size
    · rw [if_pos ⟨hlt, hlt2⟩] at hri
      rw [hri] at h
      have hi2 : items2[((i : Nat) : Int).toNat]? = some items2[i] := by simp [hlt2]
      wp_walk using wpAny_loadPart' hl, wpAny_loadPart' hb
      rw [hi1, hi2]
      refine wpAny_bind (he i hlt hlt2 prog w _ _ ?_)
      cases hb' : e i with
      | true =>
        rw [hb', if_pos rfl] at h
        wp_walk
        rw [hc]
        exact ⟨plainId_quiet plain_eq_loop _, codeAny_builtin entry_eq_loop (by
          rw [Around.under_plainId plain_eq_loop _]
          exact ih (i + 1) (by omega) (by omega) (by omega) prog w A R _ ⟨hl, hb, he, ht, h⟩)⟩
      | false =>
        rw [hb', if_neg Bool.false_ne_true] at h
        wp_walk using wpAny_loadPart' hl, wpAny_loadPart' hb
        rw [hi1, hi2]
        refine wpAny_bind (ht i hlt hlt2 hb' prog w _ _ ?_)
        wp_walk
        exact h
    · rw [if_neg (by omega)] at hri
      rw [hri] at h
      have hi2 : items2[((i : Nat) : Int).toNat]? = none := by simp; omega
      wp_walk using wpAny_loadPart' hl, wpAny_loadPart' hb
      rw [hi1, hi2]
      wp_walk using wpAny_loadPart' hl, wpAny_loadPart' hb
      exact h
theorem list_leAt (l b : Addr) (items items2 : Array Value) (n n2 : Nat) (dd dd2 : Option Addr) (sl sl2 : Array (Option Value)) (e t r : Nat → Bool) (hr : StepsLe e t r items.size items2.size) :
    Meets (Builtin.«list.__le__» ⟨[.ref l, .ref b], []⟩)
      (fun A R s => s.heap.get? l = some { cls := .type "list", dict := dd, data := .seq items n, slots := sl } ∧ s.heap.get? b = some { cls := .type "list", dict := dd2, data := .seq items2 n2, slots := sl2 } ∧
        (∀ j (h1 : j < items.size) (h2 : j < items2.size), EqAt A.in1 s items[j] items2[j] (e j)) ∧ (∀ j (h1 : j < items.size) (h2 : j < items2.size), e j = false → LeAt A.in1 s items[j] items2[j] (t j)) ∧
        R (.ok (.ret (.bool (r 0)))) s) := by
  intro prog w A R s h
  obtain ⟨hp, g, d, tk, os⟩ := s; obtain ⟨hl, hb, he, ht, h⟩ := h
  have f3 := AutoSeq1.sub_list_list
  wp_walk using wpAny_loadPart' hl, wpAny_loadPart' hb
  exact ⟨plainId_quiet plain_eq_loop _, codeAny_builtin entry_eq_loop (by
    rw [Around.under_plainId plain_eq_loop _]
    exact le_loopAt l b items items2 n n2 dd dd2 sl sl2 e t r hr _ 0 (Nat.zero_le _) (Nat.zero_le _) rfl prog w A R _ ⟨hl, hb, he, ht, h⟩)⟩
theorem LeAt.lists {A : Around} {s : Shared} {l b : Addr} {items items2 : Array Value} {e t r : Nat → Bool} (hl : s.heap.IsList l items) (hb : s.heap.IsList b items2) (hr : StepsLe e t r items.size items2.size) (hu : A.units < cLine)
    (he : ∀ j (h1 : j < items.size) (h2 : j < items2.size), EqAt A.in1 s items[j] items2[j] (e j)) (ht : ∀ j (h1 : j < items.size) (h2 : j < items2.size), e j = false → LeAt A.in1 s items[j] items2[j] (t j)) : LeAt A s (.ref l) (.ref b) (r 0) := fun prog w E Q h => by
  obtain ⟨⟨cls, dd, data, sl⟩, ho, hc, n, hd⟩ := id hl
  obtain ⟨⟨cls2, dd2, data2, sl2⟩, ho2, hc2, n2, hd2⟩ := id hb
  simp only at hc hd hc2 hd2
  subst hc hd hc2 hd2
  exact richCompare_meets_room (op := .LtE) ⟨_, ho, rfl⟩ ⟨_, ho2, rfl⟩ F.slot_list_le F.entry_list_le (F.args_list_le_2 _ _) (list_leAt l b items items2 n n2 dd dd2 sl sl2 e t r hr)
    ⟨ho, ho2, he, ht, show Value.bool (r 0) ≠ Value.notImplemented ∧ Q (.bool (r 0)) s from ⟨(fun x => nomatch x), h⟩⟩ hu
section
variable {X : Cx} {pins : List (Addr × Obj)} {σ : St} {H : Hp} {s : Shared}
end
end L3
set_option Elab.async false
set_option linter.all false
set_option maxRecDepth 100000
set_option maxHeartbeats 4000000
namespace L3
open PySem PySem.Spec PyProof.Rows L2
section
variable {prog : Program} {w : World} {A : Around} {R : Result → Shared → Prop} {I : Addr} {fp wr : List Addr} {G : Array GenState → Array GenState → Prop} {n : Nat} {P : Nat → Value → Prop} {St : Nat → Shared → Prop}
end
section
variable {prog : Program} {w : World} {A : Around} {E : Value → Shared → Prop} {s : Shared}
end
end L3
set_option Elab.async false
set_option linter.all false
set_option maxRecDepth 100000
set_option maxHeartbeats 4000000
namespace L3
open PySem PySem.Spec PyProof.Rows L2
section
variable {X : Cx}
end
end L3
set_option Elab.async false
set_option linter.all false
set_option maxRecDepth 100000
set_option maxHeartbeats 4000000
namespace L3
open PySem PySem.Spec PyProof.Rows L2
def CompZp (K : PySem.W.Frag) (a b : Addr) (g : TG) (tt : TT) (te : TE) (own : Nat) (ix : List Nat) (σ : L2.St) (H1 : Hp) (Q : VK) (D : Addr) : Prop := CompG (Izp K a b) g tt te own ix σ H1 Q D
theorem rd_czp {K : PySem.W.Frag} {ta : TA} {g : TG} {tt : TT} {te : TE} {own : Nat} {ix : List Nat} {σ : L2.St} {H : Hp} {Q : VK} : tComp (iZip K ta) g tt te own ix σ H Q = ta σ H fun vs H1 => ∃ a b, vs = [.ref a, .ref b] ∧ (∃ xs, SqL K H1 a xs) ∧ (∃ ys, SqL K H1 b ys) ∧ ∀ D, H1 D = none → CompZp K a b g tt te own ix σ H1 Q D := rfl
section
variable {g : TG} {tt : TT} {te : TE} {own : Nat} {ix : List Nat} {σ : L2.St} {H1 : Hp} {Q : VK} {D : Addr}
theorem CompZp.by {K : PySem.W.Frag} {a b : Addr} {xs ys : List V} (Pv : Nat → List V → Hp → Prop) (hlen : xs.length = ys.length) (h0 : Pv 0 [] (upd H1 D (.lst []))) (hl : ∀ i acc H', i ≤ xs.length → Pv i acc H' → SqL K H' a xs ∧ SqL K H' b ys)
    (hs : ∀ i x y acc H' p, xs[i]? = some x → ys[i]? = some y → Pv i acc H' → H' p = none → g (.ref p) (seen σ own ix) (upd H' p (.tup [x, y])) fun σ3 H3 => KeepsSt (seen σ own ix) σ3 ∧ tt σ3 H3 fun b H4 => if b = true then
      te σ3 H4 fun v H5 => H5 D = some (.lst acc) ∧ acc.length < sizeLine ∧ CNx xs.length i Pv (acc ++ [v]) (upd H5 D (.lst (acc ++ [v]))) else CNx xs.length i Pv acc H4)
    (hd : ∀ acc H', Pv xs.length acc H' → Q (.ref D) H') : CompZp K a b g tt te own ix σ H1 Q D := by
  refine ⟨fun i m acc H => m = xs.length - i ∧ i ≤ xs.length ∧ Pv i acc H, ⟨xs.length, by simp, Nat.zero_le _, h0⟩, ?_⟩
  rintro i m acc H' ⟨rfl, hi, p⟩
  obtain ⟨qa, qb⟩ := hl i acc H' hi p
  by_cases hlt : i < xs.length
  · refine .inr ⟨⟨xs, ys, xs[i], ys[i], qa, qb, by simp [hlt], by simp [← hlen, hlt]⟩, fun v H2 y => ?_⟩
    obtain ⟨p', x, y, hp, hx, hy, ev, eH⟩ := y
    subst ev eH
    exact hs i x y acc H' p' (hx xs qa) (hy ys qb) p hp
  · have e : i = xs.length := by omega
    subst e
    exact .inl ⟨⟨xs, ys, qa, qb, .inl rfl, Nat.le_refl _, by omega⟩, hd acc H' p⟩
end
end L3
set_option Elab.async false
set_option linter.all false
set_option maxRecDepth 100000
set_option maxHeartbeats 4000000
namespace L3
open PySem PySem.Spec PyProof.Rows L2
section
variable {X : Cx} {pos : Pos}
end
end L3
set_option Elab.async false
set_option linter.all false
set_option maxRecDepth 100000
set_option maxHeartbeats 4000000
namespace L3
open PySem PySem.Spec PyProof.Rows L2
section
variable {X : Cx} {pos : Pos}
end
end L3
set_option Elab.async false
set_option linter.all false
set_option maxRecDepth 100000
set_option maxHeartbeats 4000000
namespace L3
open PySem PySem.Spec PyProof.Rows L2
section
variable {X : Cx} {scope : Scope} {own caps : List Str} {ix : List Nat} {elt tg iter : Expr} {ifs : List Expr} {pos : Pos} {wi : TI} {g : TG} {tt : TT} {te : TE}
end
end L3
set_option Elab.async false
set_option linter.all false
set_option maxRecDepth 100000
set_option maxHeartbeats 4000000
namespace L3
open PySem PySem.Spec PyProof.Rows L2
theorem cellsFrom_app : ∀ (names : List (Str × NameKind)) (n : Nat) (acc : List (Str × Addr)), cellsFrom n names acc = cellsFrom n names [] ++ acc
  | [], _, _ => rfl
  | (y, k) :: r, n, acc => by
    unfold cellsFrom
    split
    · rw [cellsFrom_app r (n + 1) ((y, n) :: acc), cellsFrom_app r (n + 1) [(y, n)], List.append_assoc]
      rfl
    · exact cellsFrom_app r n acc
theorem cellsFrom_mem : ∀ (names : List (Str × NameKind)) (n : Nat) (y : Str) (c : Addr), (y, c) ∈ cellsFrom n names [] → (y, NameKind.cell) ∈ names
  | [], _, _, _, h => by cases h
  | (x, k) :: r, n, y, c, h => by
    unfold cellsFrom at h
    split at h
    · rename_i hk
      rw [cellsFrom_app] at h
      rcases List.mem_append.mp h with h | h
      · exact List.mem_cons_of_mem _ (cellsFrom_mem r _ y c h)
      · rcases List.mem_cons.mp h with e | h
        · cases e
          rw [eq_of_beq hk]
          exact List.mem_cons_self
        · cases h
    · exact List.mem_cons_of_mem _ (cellsFrom_mem r _ y c h)
theorem one_kind : ∀ {names : List (Str × NameKind)} {y : Str} {k k' : NameKind}, (names.map Prod.fst).Nodup → (y, k) ∈ names → (y, k') ∈ names → k = k'
  | [], _, _, _, _, h, _ => by cases h
  | (x, j) :: r, y, k, k', hn, h, h' => by
    simp only [List.map_cons, List.nodup_cons, List.mem_map] at hn
    rcases List.mem_cons.mp h with e | h
    · rcases List.mem_cons.mp h' with e' | h'
      · cases e; cases e'; rfl
      · cases e
        exact absurd ⟨_, h', rfl⟩ hn.1
    · rcases List.mem_cons.mp h' with e' | h'
      · cases e'
        exact absurd ⟨_, h, rfl⟩ hn.1
      · exact one_kind hn.2 h h'
theorem lookup_or {α : Type} (l m : List (Str × α)) (y : Str) : (l ++ m).lookup y = (l.lookup y).or (m.lookup y) := by
  induction l with
  | nil => rfl
  | cons p r ih =>
    rw [List.cons_append, List.lookup_cons, List.lookup_cons]
    split
    · rfl
    · exact ih
theorem newEnvN {M : Model} {A : Around} {E : Value → Shared → Prop} {s : Shared} {scope : Scope} {globals : Addr} {cl : List (Str × Addr)} {qual : Str} {env : Env} {Q : Env → Shared → Prop}
    (h : Q { scope := scope, locals := s.heap.objs.size, globals := globals, cells := cellsFrom (s.heap.objs.size + 1) scope.names cl, qual := qual, func := none, code := env.code, frame := env.frame, builtins := env.builtins } { s with heap := pushCells (s.heap.push { cls := .type "dict", data := .dict #[] }) scope.names }) :
    wpAny M A (newFunctionEnv scope globals cl [] qual none .none (some env)) Q E s := by
  simp only [newFunctionEnv, Option.isSome_some, if_true]
  refine wpAny_bind (wpAny_alloc ?_)
  refine wpAny_bind (wpAny_layCells _ (fun name kind cells => by cases hkc : kind == NameKind.cell <;> simp [hkc]) _ _ _ _ ?_)
  rw [show ({ s with heap := s.heap.push { cls := .type "dict", data := .dict #[] } } : Shared).heap.objs.size = s.heap.objs.size + 1 from Heap.size_push ..]
  simp only [List.forIn_nil]
  exact wpAny_bind (wpAny_pure (wpAny_pure h))
def compCxN (X : Cx) (scope : Scope) (cl : List (Str × Addr)) (C : Addr) (N : List Str) (pins : List (Addr × Obj)) (s3 : Shared) (H3 : Hp) (fp : List Addr) (E : Value → Shared → Prop) : Cx :=
  { X with N := N, s₀ := s3, H₀ := H3, env := compEnvC scope cl C X.env, outer := X.stack, ex := fp, fn := fun y => scope.names.lookup y == some .cell, pn := X.pn ++ pins, xe := E }
structure CompOkN (X : Cx) (scope : Scope) (own caps : List Str) (ix : List Nat) : Prop where
  kind : scope.kind = .function
  nd : (scope.names.map Prod.fst).Nodup
  names : ∀ y ∈ scope.names, y.2 = .local → scope.names.lookup y.1 = some .local
  free : ∀ y, (y, NameKind.free) ∈ scope.names → X.env.kindOf y = some .cell
  hcaps : ∀ y ∈ caps, scope.names.lookup y = some .free
  hix : ix.map (fun i => X.N[i]?) = caps.map some
structure CellsN (X : Cx) (scope : Scope) (cl : List (Str × Addr)) (C : Addr) (h : Heap) : Prop where
  each : ∀ y c, cl.lookup y = some c → (C < c ∧ h.IsCell c none ∧ (y, NameKind.cell) ∈ scope.names) ∨ X.env.cells.lookup y = some c
  free : ∀ y, (y, NameKind.free) ∈ scope.names → ∃ c, cl.lookup y = some c ∧ X.env.cells.lookup y = some c
  cells : ∀ y, (y, NameKind.cell) ∈ scope.names → ∃ c, cl.lookup y = some c
  own : ∀ y c, (y, NameKind.cell) ∈ scope.names → cl.lookup y = some c → C < c
  apart : ∀ x y c, C < c → cl.lookup x = some c → cl.lookup y = some c → x = y
theorem cellsN {X : Cx} {scope : Scope} {cl : List (Str × Addr)} {h : Heap} (nd : (scope.names.map Prod.fst).Nodup) (hc1 : ∀ y c, cl.lookup y = some c → X.env.cells.lookup y = some c) (hc2 : ∀ y, (y, NameKind.free) ∈ scope.names → ∃ c, cl.lookup y = some c)
    (hlt : ∀ y c, X.env.cells.lookup y = some c → c < h.objs.size) :
    CellsN X scope (cellsFrom (h.objs.size + 1) scope.names cl) h.objs.size (pushCells (h.push { cls := .type "dict", data := .dict #[] }) scope.names) := by
  have ok := cellsFrom_ok scope.names (h.push { cls := .type "dict", data := .dict #[] }) (h.objs.size + 1) [] ⟨fun _ _ hm => (nomatch hm), List.Pairwise.nil⟩ (by rw [Heap.size_push]; exact Nat.le_refl _)
  rw [Heap.size_push] at ok
  rw [cellsFrom_app]
  generalize hnew : cellsFrom (h.objs.size + 1) scope.names [] = new at ok
  have isnew : ∀ y c, new.lookup y = some c → h.objs.size < c ∧ (pushCells (h.push { cls := .type "dict", data := .dict #[] }) scope.names).IsCell c none ∧ (y, NameKind.cell) ∈ scope.names := fun y c e => by
    have m := PySem.mem_of_lookup e
    have := ok.empty y c m
    rw [← hnew] at m
    exact ⟨this.2, this.1, cellsFrom_mem _ _ _ _ m⟩
  have cases' : ∀ y c, (new ++ cl).lookup y = some c → new.lookup y = some c ∨ cl.lookup y = some c := fun y c e => by
    rw [lookup_or] at e
    cases q : new.lookup y with
    | none => rw [q] at e; exact .inr e
    | some z => rw [q] at e; exact .inl e
  have some' : ∀ y, (y, NameKind.cell) ∈ scope.names → ∃ c, new.lookup y = some c := fun y hy => by
    have : scope.names.lookup y = some .cell := by
      cases q : scope.names.lookup y with
      | none =>
        have := List.lookup_eq_none_iff.mp q (y, NameKind.cell) hy
        simp at this
      | some k => rw [one_kind nd hy (lookup_mem q)]
    have := PySem.W.cellsFrom_some scope.names (h.objs.size + 1) [] (.inl this)
    rw [hnew] at this
    exact Option.isSome_iff_exists.mp this
  refine ⟨fun y c e => ?_, fun y hy => ?_, fun y hy => ?_, fun y c hy e => ?_, fun x y c hc e1 e2 => ?_⟩
  · rcases cases' y c e with q | q
    · exact .inl (isnew y c q)
    · exact .inr (hc1 y c q)
  · obtain ⟨c, e⟩ := hc2 y hy
    refine ⟨c, ?_, hc1 y c e⟩
    rw [lookup_or]
    cases q : new.lookup y with
    | none => exact e
    | some z =>
      have := one_kind nd hy (isnew y z q).2.2
      cases this
  · obtain ⟨c, e⟩ := some' y hy
    exact ⟨c, by rw [lookup_or, e]; rfl⟩
  · obtain ⟨c', e'⟩ := some' y hy
    rw [lookup_or, e'] at e
    cases e
    exact (isnew y _ e').1
  · rcases cases' x c e1 with q1 | q1
    · rcases cases' y c e2 with q2 | q2
      · exact name_of_addr ok.apart (PySem.mem_of_lookup q1) (PySem.mem_of_lookup q2)
      · exact absurd (hlt _ _ (hc1 _ _ q2)) (Nat.lt_asymm hc)
    · exact absurd (hlt _ _ (hc1 _ _ q1)) (Nat.lt_asymm hc)
section
variable {X : Cx} {scope : Scope} {own caps : List Str} {ix : List Nat} {cl : List (Str × Addr)} {pins : List (Addr × Obj)} {σ : St} {H : Hp} {s : Shared} {fp : List Addr} {E : Value → Shared → Prop}
theorem comp_startN (S : CompOkN X scope own caps ix)
    (I : Inv X pins σ H s) (hfp : ∀ b ∈ fp, FpOk X pins H b) (hlt : ∀ b ∈ fp, b < s.heap.objs.size) {h4 : Heap} {t4 : Nat} (hcl : CellsN X scope cl s.heap.objs.size h4) (hn : h4.Ns s.heap.objs.size fun _ => none) (hk : ∀ b o, s.heap.get? b = some o → h4.get? b = some o) :
    Inv (compCxN X scope cl s.heap.objs.size (own ++ caps) pins s H fp E) [] (seen σ own.length ix) H { s with heap := h4, toks := t4 } := by
  have kf : X.env.scope.kind = .function := I.ok.kind
  have nofp : ∀ b ∈ fp, b ≠ s.heap.objs.size := fun b hb => Nat.ne_of_lt (hlt b hb)
  have cellLt : ∀ x c, X.env.cells.lookup x = some c → c < s.heap.objs.size := fun x c e => by
    obtain ⟨v, o, ho, _⟩ := I.cell x c e
    exact Heap.lt_size ho
  have kinds : ∀ y k, scope.names.lookup y = some k → (relabel scope X.env).names.lookup y = some (if (k == NameKind.free && X.env.scope.kind == .function && X.env.kindOf y == some .cell) = true then .cell else k) := fun y k e => lookup_relabel (scope := scope) kf e
  have back : ∀ y k, (relabel scope X.env).names.lookup y = some k → ∃ k', scope.names.lookup y = some k' ∧ k = (if (k' == NameKind.free && X.env.scope.kind == .function && X.env.kindOf y == some .cell) = true then .cell else k') := fun y k e => by
    cases q : scope.names.lookup y with
    | none =>
      have := relabel_none (scope := scope) (env := X.env) q
      have e' : (scope.names.map fun (n, k) => if (k == NameKind.free && X.env.scope.kind == .function && X.env.kindOf n == some .cell) then (n, NameKind.cell) else (n, k)).lookup y = some k := e
      rw [this] at e'; cases e'
    | some k' =>
      refine ⟨k', rfl, ?_⟩
      have := kinds y k' q
      rw [e] at this
      exact Option.some.inj this
  have isCell : ∀ y, scope.names.lookup y = some .free → (relabel scope X.env).names.lookup y = some .cell := fun y e => by
    have := kinds y _ e
    rw [this, if_pos]
    rw [S.free y (lookup_mem e), kf]
    rfl
  refine ⟨⟨I.ok.mod, ?_, I.ok.glob, I.ok.blt, Nat.le_refl _, ?_, ?_, ?_, I.ok.hd, I.ok.frames, .inl rfl, ?_, I.bs, Nat.le_trans I.ok.bsz I.sz, ?_, ?_, I.stack, I.stkFree⟩, rfl, I.bare, Un.kept hk, ⟨_, hn, ?_⟩, ?_, ?_, ?_, ?_, I.hok.kept hk, ?_⟩
  · show (relabel scope X.env).kind = .function
    exact S.kind
  · intro x y c h1 h2
    rcases hcl.each x c h1 with q1 | q1
    · exact hcl.apart x y c q1.1 h1 h2
    · rcases hcl.each y c h2 with q2 | q2
      · exact hcl.apart x y c q2.1 h1 h2
      · exact I.ok.inj x y c q1 q2
  · intro y hy
    have hy' : (relabel scope X.env).names.lookup y = some .cell ∨ (relabel scope X.env).names.lookup y = some .free := hy
    have fr : ∀ z, scope.names.lookup z = some .free → ∃ c, cl.lookup z = some c := fun z hz => let ⟨c, e, _⟩ := hcl.free z (lookup_mem hz); ⟨c, e⟩
    rcases hy' with q | q
    · obtain ⟨k', e, ek⟩ := back y _ q
      by_cases c : (k' == NameKind.free && X.env.scope.kind == .function && X.env.kindOf y == some .cell) = true
      · rw [Bool.and_eq_true, Bool.and_eq_true] at c
        exact fr y (by rw [e, eq_of_beq c.1.1])
      · rw [if_neg c] at ek
        subst ek
        exact hcl.cells y (lookup_mem e)
    · obtain ⟨k', e, ek⟩ := back y _ q
      by_cases c : (k' == NameKind.free && X.env.scope.kind == .function && X.env.kindOf y == some .cell) = true
      · rw [if_pos c] at ek; cases ek
      · rw [if_neg c] at ek
        exact fr y (by rw [e, ← ek])
  · intro x c h e
    have h' : (scope.names.lookup x == some .cell) = true := h
    exact Nat.le_of_lt (hcl.own x c (lookup_mem (eq_of_beq h')) e)
  · intro b hb
    refine ⟨nofp b hb, fun x c e => ?_⟩
    rcases hcl.each x c e with q | q
    · exact (Nat.ne_of_lt (Nat.lt_trans (hlt b hb) q.1)).symm
    · exact (hfp b hb).2.2.2.2.1 x c q
  · intro b o e hb
    obtain ⟨_, _, _, q, _⟩ := hfp b hb
    rcases q with q | q
    · exact I.ok.noex b o e q
    · exact absurd (Nat.lt_of_lt_of_le (Heap.lt_size e) (Nat.le_trans I.ok.bsz q)) (Nat.lt_irrefl _)
  · intro b hb z
    rcases List.mem_cons.mp (I.stkSub b z) with e | e
    · exact (hfp b hb).2.1 e
    · exact (hfp b hb).2.2.1 e
  · intro i y v h1 h2 h3
    have hi : own.length ≤ i := by
      refine Nat.le_of_not_lt fun hlt' => ?_
      unfold seen at h2
      rw [List.getElem?_append_left (by rw [List.length_replicate]; exact hlt'), List.getElem?_replicate, if_pos hlt'] at h2
      cases h2
    have h1' : caps[i - own.length]? = some y := by
      have : (own ++ caps)[i]? = some y := h1
      rw [List.getElem?_append_right hi] at this
      exact this
    have h2' : (ix.map fun i => (σ[i]?).join)[i - own.length]? = some (some v) := by
      unfold seen at h2
      rw [List.getElem?_append_right (by rw [List.length_replicate]; exact hi), List.length_replicate] at h2
      exact h2
    rw [List.getElem?_map] at h2'
    have hx := congrArg (fun l => l[i - own.length]?) S.hix
    simp only [List.getElem?_map, h1', Option.map_some] at hx
    cases q : ix[i - own.length]? with
    | none => rw [q] at h2'; cases h2'
    | some j =>
      rw [q] at h2' hx
      have hj : X.N[j]? = some y := Option.some.inj hx
      have hv : (σ[j]?).join = some v := Option.some.inj h2'
      have hσ : σ[j]? = some (some v) := by
        cases r : σ[j]? with
        | none => rw [r] at hv; cases hv
        | some z => rw [r] at hv; cases z with
          | none => cases hv
          | some z => cases hv; rfl
      have hfree : scope.names.lookup y = some .free := S.hcaps y (List.mem_of_getElem? h1')
      have hkc := S.free y (lookup_mem hfree)
      obtain ⟨m, hm, hl⟩ := I.loc
      obtain ⟨u, ru, l⟩ := hl j y v hj hσ (.inr (.inl hkc))
      refine ⟨u, ru, .inr ⟨.inl (isCell y hfree), ?_⟩⟩
      rcases l with ⟨k, _⟩ | ⟨_, c, e, z⟩
      · have : X.env.kindOf y = some .local := k
        rw [hkc] at this; cases this
      · obtain ⟨c', e', this⟩ := hcl.free y (lookup_mem hfree)
        rw [e] at this
        cases this
        obtain ⟨o, ho, hd⟩ := z
        exact ⟨c, e', o, hk c o ho, hd⟩
  · intro x c e
    rcases hcl.each x c e with q | q
    · exact ⟨_, q.2.1⟩
    · obtain ⟨v, o, ho, hd⟩ := I.cell x c q
      exact ⟨v, o, hk c o ho, hd⟩
  · exact I.hok.fresh (Nat.le_refl _)
  · intro x c e
    rcases hcl.each x c e with q | q
    · exact I.hok.fresh (Nat.le_of_lt q.1)
    · exact I.freeC x c q
  · intro p hp
    have hp' : p ∈ X.pn ++ pins := by
      have : p ∈ (X.pn ++ pins) ++ [] := hp
      rwa [List.append_nil] at this
    obtain ⟨e, n, ne, nf, d⟩ := I.pin p hp'
    refine ⟨hk _ _ e, n, ?_, fun z => ?_, d⟩
    · exact Nat.ne_of_lt (Heap.lt_size e)
    · rcases List.mem_cons.mp (I.stkSub p.1 z) with q | q
      · exact ne q
      · exact nf q
  · show (seen σ own.length ix).length = (own ++ caps).length
    have := congrArg List.length S.hix
    rw [List.length_map, List.length_map] at this
    unfold seen
    rw [List.length_append, List.length_replicate, List.length_map, List.length_append, this]
end
section
variable {X : Cx} {scope : Scope} {own caps : List Str} {ix : List Nat} {elt tg iter : Expr} {ifs : List Expr} {pos : Pos} {wi : TI} {g : TG} {tt : TT} {te : TE}
theorem comp_blockN (hc : X.calm = true) (S : CompOkN X scope own caps ix)
    (hg : ∀ cl C pins s3 H3 fp, PG (compCxN X scope cl C (own ++ caps) pins s3 H3 fp fun _ _ => False) tg g)
    (ht : ∀ cl C pins s3 H3 fp, PTs (compCxN X scope cl C (own ++ caps) pins s3 H3 fp fun _ _ => False) ifs tt)
    (he : ∀ cl C pins s3 H3 fp, PE (compCxN X scope cl C (own ++ caps) pins s3 H3 fp fun _ _ => False) elt te)
    {cl : List (Str × Addr)} (hc1 : ∀ y c, cl.lookup y = some c → X.env.cells.lookup y = some c) (hc2 : ∀ y, (y, NameKind.free) ∈ scope.names → ∃ c, cl.lookup y = some c)
    {pins : List (Addr × Obj)} {σ : St} {H2 : Hp} {s2 : Shared} {Q : VK} {it : Addr} {fp : List Addr} {tn : Nat → Heap → Prop} {J : It} (I2 : Inv X pins σ H2 s2) (T : Turn X.prog X.w X.K tg J fp it tn) (st2 : tn 0 s2.heap) (f2 : ∀ b ∈ fp, FpOk X pins H2 b)
    (q : ∀ D, H2 D = none → ∃ W : Nat → Nat → List V → Hp → Prop, (∃ m, W 0 m [] (upd H2 D (.lst []))) ∧
      ∀ i m acc H', W i m acc H' → (J.stop i H' ∧ Q (.ref D) H') ∨ (J.go i H' ∧ ∀ x H2, J.yld i H' x H2 → g x (seen σ own.length ix) H2 fun σ3 H3 => KeepsSt (seen σ own.length ix) σ3 ∧ tt σ3 H3 fun b H4 => if b = true then
        te σ3 H4 fun v H5 => H5 D = some (.lst acc) ∧ acc.length < sizeLine ∧ ∃ m', m' < m ∧ W (i + 1) m' (acc ++ [v]) (upd H5 D (.lst (acc ++ [v])))
        else ∃ m', m' < m ∧ W (i + 1) m' acc H4))
    {RR : Value → Addr → Result → Shared → Prop} {E : Value → Shared → Prop}
    (hRR : ∀ D C m s' H', H2 D = none → s'.heap.Ns C m → FpOk X pins H' C → Inv X pins σ H' s' → Q (.ref D) H' → RR (.ref D) C (.ok .next) s') :
    wpAny (model X.prog X.w) X.A (newList []) (fun acc s3 => wpAny (model X.prog X.w) X.A (newFunctionEnv scope X.env.globals cl [] X.env.qual none .none (some X.env)) (fun cenv s4 =>
      codeAny (model X.prog X.w) X.A (.compStart (.ListComp elt [⟨tg, iter, ifs, 0⟩] scope pos) 0 (.ref it) acc { cenv with scope := relabel scope X.env }) (RR acc cenv.locals) s4) E s3) E s2 := by
  have hD : H2 s2.heap.objs.size = none := I2.hok.fresh (Nat.le_refl _)
  obtain ⟨W, ⟨m0, w0⟩, turn⟩ := q _ hD
  refine wpAny_newObj_type (newEnvN ?_)
  have I3 : Inv X pins σ (upd H2 s2.heap.objs.size (.lst [])) { s2 with heap := s2.heap.push { cls := .type "list", dict := none, data := .seq ([] : List Value).toArray } } :=
    I2.lnew (its := []) (t' := s2.toks) .nil (Nat.zero_le _)
  generalize hs3 : ({ s2 with heap := s2.heap.push { cls := .type "list", dict := none, data := .seq ([] : List Value).toArray } } : Shared) = s3 at I3
  have e3 : s2.heap.push { cls := .type "list", dict := none, data := .seq ([] : List Value).toArray } = s3.heap := by rw [← hs3]
  dsimp only
  have k1 : ∀ b o, s3.heap.get? b = some o → (pushCells (s3.heap.push { cls := .type "dict", data := .dict #[] }) scope.names).get? b = some o := fun b o e => pushCells_keeps _ _ b o (Heap.get?_push_of_some _ e)
  have hns1 : (pushCells (s3.heap.push { cls := .type "dict", data := .dict #[] }) scope.names).Ns s3.heap.objs.size fun _ => none := (Heap.Ns.new s3.heap (.type "dict")).keeps (pushCells_keeps _ _)
  have hcl : CellsN X scope (cellsFrom (s3.heap.objs.size + 1) scope.names cl) s3.heap.objs.size (pushCells (s3.heap.push { cls := .type "dict", data := .dict #[] }) scope.names) := cellsN S.nd hc1 hc2 fun y c e => by
    obtain ⟨v, o, ho, _⟩ := I3.cell y c e
    exact Heap.lt_size ho
  generalize (pushCells (s3.heap.push { cls := .type "dict", data := .dict #[] }) scope.names) = h1 at k1 hns1 hcl ⊢
  generalize (cellsFrom (s3.heap.objs.size + 1) scope.names cl) = cl at hcl ⊢
  have k23 : ∀ b o, s2.heap.get? b = some o → s3.heap.get? b = some o := fun b o e => by rw [← e3]; exact Heap.get?_push_of_some _ e
  have hz : s3.heap.objs.size = s2.heap.objs.size + 1 := by rw [← e3, Heap.size_push]
  have fpObj : ∀ b ∈ fp, ∃ o, s2.heap.get? b = some o := fun b hb => let ⟨o, e, _⟩ := T.obj 0 _ st2 b hb; ⟨o, e⟩
  have fplt : ∀ b ∈ fp, b < s2.heap.objs.size := fun b hb => let ⟨o, e⟩ := fpObj b hb; Heap.lt_size e
  have f3 : ∀ b ∈ fp, FpOk X pins (upd H2 s2.heap.objs.size (.lst [])) b := fun b hb => ⟨by rw [upd_ne (Nat.ne_of_lt (fplt b hb))]; exact (f2 b hb).1, (f2 b hb).2⟩
  have I4 : Inv (compCxN X scope cl s3.heap.objs.size (own ++ caps) pins s3 (upd H2 s2.heap.objs.size (.lst [])) fp fun _ _ => False) [] (seen σ own.length ix) (upd H2 s2.heap.objs.size (.lst [])) { s3 with heap := h1, toks := s3.toks } :=
    comp_startN S I3 f3 (fun b hb => by rw [hz]; exact Nat.lt_succ_of_lt (fplt b hb)) hcl hns1 k1
  have st4 : tn 0 h1 := T.keep 0 _ _ st2 fun b hb o e => k1 b o (k23 b o e)
  generalize hs4 : ({ s3 with heap := h1, toks := s3.toks } : Shared) = s4 at I4
  have e4 : h1 = s4.heap := by rw [← hs4]
  have loop : codeAny (model X.prog X.w) X.A (.compLoop (.ListComp elt [⟨tg, iter, ifs, 0⟩] scope pos) 0 (.ref it) (.ref s2.heap.objs.size) (compEnvC scope cl s3.heap.objs.size X.env)) (RR (.ref s2.heap.objs.size) s3.heap.objs.size) s4 := by
    let X' := compCxN X scope cl s3.heap.objs.size (own ++ caps) pins s3 (upd H2 s2.heap.objs.size (.lst [])) fp fun _ _ => False
    have fp' : ∀ {H' : Hp}, (∀ b ∈ fp, H' b = none) → ∀ b ∈ fp, FpOk X' [] H' b := fun {H'} hn b hb => by
      obtain ⟨_, a1, a2, a3, a4, a5⟩ := f3 b hb
      refine ⟨hn b hb, Nat.ne_of_lt (show b < s3.heap.objs.size from by rw [hz]; exact Nat.lt_succ_of_lt (fplt b hb)), fun z => ?_, .inl hb, fun x c e => ?_, fun p hp => ?_⟩
      · rcases List.mem_cons.mp (I3.stkSub b z) with e | e
        · exact a1 e
        · exact a2 e
      · rcases hcl.each x c e with q | q
        · exact (Nat.ne_of_lt (Nat.lt_trans (show b < s3.heap.objs.size from by rw [hz]; exact Nat.lt_succ_of_lt (fplt b hb)) q.1)).symm
        · exact a4 x c q
      · have : p ∈ (X.pn ++ pins) ++ [] := hp
        rw [List.append_nil] at this
        exact a5 p this
    refine comp_loop (fun n s' => ∃ i acc H', Inv X' [] (seen σ own.length ix) H' s' ∧ tn i s'.heap ∧ (∀ b ∈ fp, H' b = none) ∧ W i n acc H') rfl ?_ m0 ⟨0, [], _, I4, by rw [← e4]; exact st4, fun b hb => (f3 b hb).1, w0⟩
    rintro n s5 ⟨i, acc, H5, I5, st5, fr5, w5⟩
    refine wpAny_noRaise ?_
    rcases turn i n acc H5 w5 with ⟨stop, qn⟩ | ⟨go, step⟩
    · refine thn (T.done X' rfl rfl rfl hc i [] s5 _ H5 _ I5 (fp' fr5) st5 stop) fun r s6 ⟨hr, I6⟩ => ?_
      subst hr
      obtain ⟨m, hm, _⟩ := I6.loc
      refine hRR _ _ m s6 H5 hD hm (I3.fpOk (Nat.le_refl _) I6.free) (I3.call' (s' := s6) I6.os I6.base I6.hok I6.bare fun b hb => ?_) qn
      obtain ⟨_, a1, a2, a3, a4, a5⟩ := f3 b hb
      exact ⟨a3, a1, a4, a5⟩
    · refine thn (T.item X' rfl rfl rfl hc i [] s5 _ H5 (fun _ _ => False) I5 (fp' fr5) st5 go) fun r s6 ⟨u, hr, h6⟩ => ?_
      subst hr
      refine wpAny_noRaise (thn h6 fun _ s7 ⟨x, H7, I7, r7, y7, st7, fr7⟩ => ?_)
      have I7' := I7.pinned (fp' fr7) (T.obj _ _ st7)
      refine wpAny_noRaise (thn (hg _ _ _ _ _ _ _ s7 _ H7 x u _ I7' r7 (step x H7 y7)) fun _ s8 ⟨σ8, H8, I8, ks, q8⟩ => ?_)
      refine wpAny_noRaise (thn (ht _ _ _ _ _ _ _ s8 σ8 H8 _ I8 q8) fun b s9 ⟨H9, I9, q9⟩ => ?_)
      have back : ∀ {s' : Shared} {H' : Hp} {acc' : List V} {m' : Nat}, Inv X' ([] ++ pinsAt fp s7.heap) σ8 H' s' → m' < n → W (i + 1) m' acc' H' → ∃ m, m < n ∧ ∃ i acc H', Inv X' [] (seen σ own.length ix) H' s' ∧ tn i s'.heap ∧ (∀ b ∈ fp, H' b = none) ∧ W i m acc H' := fun {s' H' acc' m'} J' hm w' => by
        refine ⟨m', hm, i + 1, acc', H', (J'.unpinned).weak ks.1 ks.2, T.keep _ _ _ st7 fun b hb o e => (J'.pin (b, o) (List.mem_append_right _ (List.mem_append_right _ (mem_pinsAt hb e)))).1, fun b hb => ?_, w'⟩
        obtain ⟨o, e, d⟩ := T.obj _ _ st7 b hb
        exact (J'.pin (b, o) (List.mem_append_right _ (List.mem_append_right _ (mem_pinsAt hb e)))).2.1
      cases b with
      | false =>
        rw [if_neg Bool.false_ne_true] at q9 ⊢
        obtain ⟨m', hm, w'⟩ := q9
        exact back I9 hm w'
      | true =>
        rw [if_pos rfl] at q9 ⊢
        refine wpAny_noRaise (thn (he _ _ _ _ _ _ _ s9 σ8 H9 _ I9 q9) fun v s10 ⟨y, H10, I10, r10, hD10, hsz, m', hm, w'⟩ => ?_)
        refine wpAny_noRaise ?_
        have := mt_append (X := X') _ s10 σ8 H10 (.ref s2.heap.objs.size) [y] (.ref s2.heap.objs.size) [v] (fun _ H' => H' = upd H10 s2.heap.objs.size (.lst (acc ++ [y]))) I10 rfl (.cons r10 .nil) ⟨_, acc, y, rfl, rfl, hD10, hsz, rfl⟩
        refine thn this fun _ s11 ⟨_, H11, I11, _, eH⟩ => ?_
        subst eH
        exact back I11 hm w'
  have goal : codeAny (model X.prog X.w) X.A (.compStart (.ListComp elt [⟨tg, iter, ifs, 0⟩] scope pos) 0 (.ref it) (.ref s2.heap.objs.size) (compEnvC scope cl s3.heap.objs.size X.env)) (RR (.ref s2.heap.objs.size) s3.heap.objs.size) s4 :=
    codeAny_compStart_list loop (T.self _ 0 s4 _ _ (by rw [← e4]; exact st4) loop)
  exact goal
theorem pe_compN (hc : X.calm = true) (S : CompOkN X scope own caps ix) (hi : PI X tg iter wi)
    (hg : ∀ cl C pins s3 H3 fp, PG (compCxN X scope cl C (own ++ caps) pins s3 H3 fp fun _ _ => False) tg g)
    (ht : ∀ cl C pins s3 H3 fp, PTs (compCxN X scope cl C (own ++ caps) pins s3 H3 fp fun _ _ => False) ifs tt)
    (he : ∀ cl C pins s3 H3 fp, PE (compCxN X scope cl C (own ++ caps) pins s3 H3 fp fun _ _ => False) elt te)
    (hs : ∀ x, foldedSetIterable iter X.env x = pure x := by intro _; rfl) :
    PE X (.ListComp elt [⟨tg, iter, ifs, 0⟩] scope pos) (tComp wi g tt te own.length ix) := by
  intro pins s σ H Q I h
  obtain ⟨cl, hclos, hc1, hc2⟩ := closureFor_is (scope := scope) (env := X.env) fun y hy => I.ok.has y (.inl (S.free y hy))
  rw [eval_ListComp]
  refine wpAny_comprehension_free (use := none) rfl hs hclos S.kind S.names (thn (hi pins s σ H _ I h) fun v s1 h1 => thn h1 fun itv s2 h2 => ?_)
  obtain ⟨it, fp, tn, J, H2, e, I2, T, st2, f2, q⟩ := h2
  subst e
  refine comp_blockN (RR := fun acc C => compPost (model X.prog X.w) X.A X.xe none (EP X pins σ Q) acc C) hc S hg ht he hc1 hc2 I2 T st2 f2 q ?_
  intro D C m s' H' _ hn fc I' qn
  obtain ⟨a0, a1, a2, a3, a4, a5⟩ := fc
  exact ⟨m, hn, fun h' sb => ⟨.ref D, H', I'.turned (t' := s'.toks) (fun b o hb e => (sb.2 b hb).trans e) a0 a1 a3 a4 a5, rfl, qn⟩⟩
end
theorem compOkN_of {X : Cx} {scope sc : Scope} {own caps : List Str} {ix : List Nat} (h1 : scope.kind = .function) (h2 : (scope.names.map Prod.fst).Nodup) (h3 : scope.names.all (fun y => y.2 != .local || scope.names.lookup y.1 == some .local) = true)
    (h4 : scope.names.all (fun y => y.2 != .free || sc.names.lookup y.1 == some .cell) = true) (hsc : X.env.scope = sc) (h6 : caps.all (fun y => scope.names.lookup y == some .free) = true) (h7 : ix.map (fun i => X.N[i]?) = caps.map some) : CompOkN X scope own caps ix := by
  refine ⟨h1, h2, fun y hy e => ?_, fun y hy => ?_, fun y hy => ?_, h7⟩
  · have := List.all_eq_true.mp h3 y hy
    rw [e] at this
    simpa using this
  · have := List.all_eq_true.mp h4 _ hy
    have := by simpa using this
    show X.env.scope.names.lookup y = some .cell
    rw [hsc]
    exact this
  · have := List.all_eq_true.mp h6 y hy
    simpa using this
end L3
set_option maxHeartbeats 4000000
namespace LL
open PySem L2 L3
def top (i : Nat) : Stmt := PySem.Challenge.pw_letterlaw_k70_whole_chains_keep_rooms.main.body.getD i (.Pass ⟨0, 0, 0, 0⟩)
abbrev s_is_small_letter : Stmt := top 8
abbrev s_letters_of : Stmt := top 9
abbrev s_table_of : Stmt := top 12
abbrev s_crossed_table : Stmt := top 13
abbrev s_rooms_met : Stmt := top 14
abbrev s_numbered_anew : Stmt := top 15
abbrev s_world_init : Stmt := inClass (top 16) 0
abbrev s_world_rooms : Stmt := inClass (top 16) 1
abbrev s_world_table_told : Stmt := inClass (top 16) 2
abbrev s_world_led : Stmt := inClass (top 16) 3
abbrev s_world_broken : Stmt := inClass (top 16) 5
abbrev s_world_parted : Stmt := inClass (top 16) 6
abbrev s_world_crossed : Stmt := inClass (top 16) 7
abbrev s_world_reached : Stmt := inClass (top 16) 8
abbrev s_cell_at : Stmt := top 18
abbrev s_letters : Stmt := top 19
abbrev s_word : Stmt := top 20
abbrev s_rows : Stmt := top 21
abbrev s_led : Stmt := top 22
abbrev s_parted : Stmt := top 23
abbrev s_shape : Stmt := top 24
abbrev s_held : Stmt := top 25
abbrev s_at_all : Stmt := top 26
abbrev s_chain : Stmt := top 27
abbrev s_even : Stmt := top 28
abbrev s_law : Stmt := top 29
section
variable {P : Program} {w : World} {K : PySem.W.Frag} {mg : Str → Option Value} {base : Heap}
seal L2.PE L2.PS L2.PA L2.PT L2.PSs L2.PI L2.PG L2.PW L2.PGs
local macro_rules | `(tactic| rfl') => `(tactic| simp only [tSeq, rAppend, tTru, seen, Option.join_some, Option.join_none, rU, tSetComp, rd_cr1, rd_cl, rd_cs,  tNext, tRet, tIfS, tTest, tOp, tUn, tVar, tC, tCall, tCons, tNil, tCB, tAsg, gName, tDrop, tNot, tAnd, tOr, tAndV, tOrV, tNotV, tChain, tIf, rI, rI0, rAddA, rMulA, rLtA, rLeA, rGtA, rEq, rNe, rIx, rIxL, rIxT, rIxS, rSlA, rSlL, rSlS, rCat, tSl, tNoPart, tPart, rNin, rIn1, rIsN, rNotN, rMax2, rGe, tXget, decide_false, decide_true, Prod.mk.injEq, rLen, LenV, rIsi, rCount, rFind, count_l, tyV, tBM, tBM0, if_true, if_false, Bool.false_eq_true, decide_eq_true_eq, decide_eq_false_iff_not, Bool.not_eq_true', Bool.not_true, Bool.not_false, lt1, tTup, tLst, gTup, gCons, gNil, tBreak, tCont, tRetN, tRaise0, tRaise1, tTry, tHs, TruV, sc_ii, sc_ss, sc_bb, sc_ns, sc_sn, Value.ref.injEq, L2.start, rd_r1, rd_r2, rd_l, rd_s, rd_e, rd_el, rd_t, rd_tr, rd_bl, tPar, rd_z, rd_revl, rd_cv, tFld, sFld, tMeth, tMake, putF, tx_append, cs_tx, len_tx, cxHK, cV_ref, cV_ty, cxK, cxP, cxW, List.map_cons, List.map_nil, List.length_cons, List.length_nil, List.replicate_succ, List.replicate_zero, Nat.reduceAdd, Nat.reduceSub, and_assoc, tx_eq, exists_eq, exists_eq', exists_eq_left', exists_eq_left, exists_eq_right, exists_eq_right', exists_and_left, exists_and_right, V.int.injEq, V.ref.injEq, V.str.injEq, V.bl.injEq, V.ty.injEq, reduceCtorEq, false_and, and_false, true_and, and_true, or_false, false_or, exists_false, exists_const, List.getElem?_cons_zero, List.getElem?_cons_succ, Option.some.injEq, List.set_cons_zero, List.set_cons_succ, List.cons.injEq, List.append_nil, List.nil_append, List.cons_append])
theorem xe0 {X : Cx} : XE X E0 := fun e s h => by
  obtain ⟨_, _, _, _, _, _, _, _, _, _, _, _, _, _, h⟩ := h
  exact h.elim
def small (l : List Nat) : Prop := ∀ c ∈ l, 97 ≤ c ∧ c ≤ 122
instance (l : List Nat) : Decidable (small l) := by unfold small; infer_instance
def goodB (l : List Nat) : Bool := decide (1 ≤ l.length ∧ l.length ≤ 6 ∧ small l ∧ l.Nodup)
def sp_small : Sp := fun vs H Q _ => ∃ c : Nat, vs = [.str (tx [c])] ∧ Q (.bl (decide (97 ≤ c ∧ c ≤ 122))) H
theorem sc_small : FnScope ["sign"] ["sign"] (defScope s_is_small_letter) := ⟨rfl, rfl, rfl, by decide +kernel, rfl, by decide +kernel, by decide +kernel⟩
theorem ok_small {f : Addr} {fd : FuncData} (F : Fun K "is_small_letter" "is_small_letter" s_is_small_letter f fd) : FnOk P w K mg base CX0 1 f fd ["sign"] sp_small := by
  refine F.ok sc_small (fun vs H Q E h => ?_) (fun cdv A outer s H vs Q E hr h => ?_)
  · obtain ⟨a, rfl, _⟩ := h
    rfl
  · obtain ⟨c, rfl, q⟩ := h
    refine ⟨_, (pss_one (ps_ret (pe_chain op_leA op_leA pe_str (pv 0) pe_str))), ?_⟩
    have ea : cs (("a" : Str)) = [97] := rfl
    have ez : cs (("z" : Str)) = [122] := rfl
    rfl'
    simp only [ea, ez, cs_tx, lt1]
    refine ite2 (fun h => ?_) fun h => ?_
    · have e : decide (97 ≤ c ∧ c ≤ 122) = !decide (122 < c) := by
        by_cases h2 : 122 < c
        · rw [decide_eq_true h2, decide_eq_false (by omega)]; rfl
        · rw [decide_eq_false h2, decide_eq_true (by omega)]; rfl
      rw [e] at q
      exact q
    · rw [decide_eq_false (by omega)] at q
      exact q
structure TLet (K : PySem.W.Frag) (mg : Str → Option Value) (C : Addr) : Prop where
  xi : XI K C
  ini : PySem.W.findIn K (.ref C) "__init__" = some (some (.builtin "ValueError.__init__"))
  g : mg "NoLetters" = some (.ref C)
  most : ∃ t, mg "MOST_LETTERS" = some (.int 6 t)
def sp_letters_of (C : Addr) : Sp := fun vs H Q E => ∃ l : List Nat, vs = [.str (tx l)] ∧ l.length ≤ 1000 ∧ (goodB l = true → Q (.str (tx l)) H) ∧ (goodB l = false → E (.ref C) none H)
theorem sc_letters_of : FnScope ["text", "sign"] ["text"] (defScope s_letters_of) := ⟨rfl, rfl, rfl, by decide +kernel, rfl, by decide +kernel, by decide +kernel⟩
theorem ok_letters_of {f C : Addr} {fd : FuncData} (B : Bt mg) (T : TLet K mg C) (F : Fun K "letters_of" "letters_of" s_letters_of f fd) (Ds : Df P w K mg base CX0 1 "is_small_letter" ["sign"] [] sp_small) : FnOk P w K mg base (CXx P w) 2 f fd ["text"] (sp_letters_of C) := by
  refine Fun.okX F sc_letters_of (fun vs H Q E h => ?_) (fun cdv A outer s H vs Q E hr hx h => ?_)
  · obtain ⟨a, rfl, _⟩ := h
    rfl
  · obtain ⟨l, rfl, hl, q1, q2⟩ := h
    obtain ⟨t6, g6⟩ := T.most
    refine ⟨_, (pss_cons (ps_if (pt_not (pt_chain op_leA op_leA pe_int (pe_callB c_len rfl B.len PySem.boot_len (pa_cons (pv 0) pa_nil)) (pe_glob (v := .int 6) rfl g6 ⟨t6, rfl⟩)))
        (pss_one (ps_raise0 hx rfl T.xi.toXC T.ini rfl T.g (pa_cons pe_str pa_nil)))
        pss_nil)
      (pss_cons (ps_for PassesOwn.leaving rfl (pi_str (pv 0)) (pg_name (i := 1) sc_letters_of.nd rfl (Or.inl rfl))
        (pss_cons (ps_if (pt_not (pt_truth (cl0 Ds hr .nil rfl (pa_cons (pv 1) pa_nil)) (fun _ => rfl)))
          (pss_one (ps_raise0 hx rfl T.xi.toXC T.ini rfl T.g (pa_cons pe_str pa_nil)))
          pss_nil)
        (pss_one (ps_if (pt_cmpR op_gtA (pe_bm PySem.F.plainAttrs_str PySem.F.slot_str_count PySem.F.type_str_count m_count (pv 0) (pa_cons (pv 1) pa_nil)) pe_int (nomark _))
          (pss_one (ps_raise0 hx rfl T.xi.toXC T.ini rfl T.g (pa_cons pe_str pa_nil)))
          pss_nil))))
      (pss_one (ps_ret (pv 0))))), ?_⟩
    have s16 := sl16
    rfl'
    have bad : (¬ (1 ≤ l.length ∧ l.length ≤ 6 ∧ small l ∧ l.Nodup)) → ∀ H' : Hp, H' = H → E (.ref C) none H' := fun h H' e => by
      rw [e]
      exact q2 (decide_eq_false h)
    refine ⟨by omega, ite2 (fun c => ite2 (fun c2 => ⟨by omega, bad (fun h => by have := h.2.1; omega) H rfl⟩) (fun c2 => ?_)) (fun c => ⟨by omega, bad (fun h => by have := h.1; omega) H rfl⟩)⟩
    refine ForS.by (fun i σ H' => H' = H ∧ ∃ v, σ = [some (.str (tx l)), v] ∧ small (l.take i) ∧ ∀ c ∈ l.take i, l.count c ≤ 1) ⟨rfl, none, rfl, fun c h => absurd h (by simp), fun c h => absurd h (by simp)⟩ ?_ ?_
    · rintro i c σ H' hg ⟨eH, v, rfl, hs, hn⟩
      have hc := List.mem_of_getElem? hg
      rfl'
      simp only [sp_small]
      rfl'
      refine ite2 (fun h => ⟨by omega, bad (fun z => by have := z.2.2.1 c hc; omega) _ eH⟩) (fun h => ite2 (fun h2 => ⟨by omega, bad (fun z => ?_) _ eH⟩) (fun h2 => ⟨eH, ?_, ?_⟩))
      · have := List.nodup_iff_count.mp z.2.2.2 c
        omega
      · rw [take_one hg]
        intro x hx
        rcases List.mem_append.mp hx with q | q
        · exact hs x q
        · have : x = c := by simpa using q
          subst this
          omega
      · rw [take_one hg]
        intro x hx
        rcases List.mem_append.mp hx with q | q
        · exact hn x q
        · have : x = c := by simpa using q
          subst this
          omega
    · rintro σ H' ⟨eH, v, rfl, hs, hn⟩
      rw [List.take_length] at hs hn
      rfl'
      rw [eH]
      refine q1 (decide_eq_true ⟨by omega, by omega, hs, List.nodup_iff_count.mpr fun c => ?_⟩)
      by_cases hc : c ∈ l
      · exact hn c hc
      · rw [List.count_eq_zero.mpr hc]; omega
def rLstOf (K : PySem.W.Frag) : List V → Hp → VK → Prop := fun xs H Q => ∃ p ys, xs = [.ref p] ∧ (SqL K H p ys ∨ SqT K H p ys) ∧ ∀ l, H l = none → Q (.ref l) (upd H l (.lst ys))
structure TabAt (H : Hp) (t : Addr) (rs : List Addr) (tab : List (List Int)) : Prop where
  top : H t = some (.lst (rs.map V.ref))
  len : rs.length = tab.length
  row : ∀ (i : Nat) (r : Addr) (x : List Int), rs[i]? = some r → tab[i]? = some x → H r = some (.lst (x.map V.int))
theorem TabAt.same {H H' : Hp} {t : Addr} {rs : List Addr} {tab : List (List Int)} (h : TabAt H t rs tab) (e : Same H H') : TabAt H' t rs tab := ⟨e _ _ h.top, h.len, fun i r x h1 h2 => e _ _ (h.row i r x h1 h2)⟩
structure GoodT (l : List Nat) (tab : List (List Int)) : Prop where
  lo : 1 ≤ tab.length
  hi : tab.length ≤ 8
  wd : ∀ x ∈ tab, x.length = l.length
  rm : ∀ x ∈ tab, ∀ n ∈ x, 0 ≤ n ∧ n < (tab.length : Int)
theorem TabAt.get {H : Hp} {t : Addr} {rs : List Addr} {tab : List (List Int)} (h : TabAt H t rs tab) {i : Int} (h0 : 0 ≤ i) (h1 : i < (tab.length : Int)) : ∃ r x, atI (rs.map V.ref) i = some (.ref r) ∧ tab[i.toNat]? = some x ∧ H r = some (.lst (x.map V.int)) := by
  have hl := h.len
  obtain ⟨v, e1, e2⟩ := atI_of (xs := rs.map V.ref) h0 (by rw [List.length_map]; omega)
  rw [List.getElem?_map] at e2
  obtain ⟨r, hr, rfl⟩ := Option.map_eq_some_iff.mp e2
  have hx : tab[i.toNat]? = some (tab[i.toNat]'(by omega)) := List.getElem?_eq_getElem (by omega)
  exact ⟨r, _, e1, hx, h.row _ _ _ hr hx⟩
theorem comp_copy2 {H : Hp} {t : Addr} {rs : List Addr} {tab : List (List Int)} {σ : L2.St} {Q : VK} {D : Addr} {g : TG} (hg : g = gName 0) (h : TabAt H t rs tab) (hb : tab.length ≤ 1000) (hD : H D = none) (q : ∀ (rs' : List Addr) (H' : Hp), Same H H' → TabAt H' D rs' tab → (∀ r ∈ D :: rs', H r = none) → D ∉ rs' → Q (.ref D) H') :
    CompL K t g tYes (tCB (rLstOf K) (tCons (tVar 0) tNil)) 1 [] σ H Q D := by
  have s16 := sl16
  have hl := h.len
  subst hg
  refine CompL.by (xs := rs.map V.ref) (fun i acc H' => ∃ rs' : List Addr, acc = rs'.map V.ref ∧ rs'.length = i ∧ Same H H' ∧ H' D = some (.lst acc) ∧ (∀ r ∈ rs', H r = none ∧ r ≠ D) ∧ ∀ (j : Nat) (r : Addr) (x : List Int), rs'[j]? = some r → tab[j]? = some x → H' r = some (.lst (x.map V.int))) ⟨[], rfl, rfl, same_upd hD, upd_same, fun r h => (nomatch h), fun j r x h => by simp at h⟩ (fun i acc H' _ h' => by obtain ⟨_, _, _, hs, _⟩ := h'; exact SqL.of (hs _ _ h.top)) ?_ ?_
  · rintro i v acc H' hv ⟨rs', rfl, hi, hs, hH, hf, hr⟩
    rw [List.getElem?_map] at hv
    obtain ⟨r, hr0, rfl⟩ := Option.map_eq_some_iff.mp hv
    have hil := (List.getElem?_eq_some_iff.mp hr0).1
    have hx : tab[i]? = some (tab[i]'(by omega)) := List.getElem?_eq_getElem (by omega)
    generalize tab[i]'(by omega) = x at hx
    have hrow := hs _ _ (h.row i r x hr0 hx)
    simp only [tYes]
    rfl'
    simp only [rLstOf]
    rfl'
    refine ⟨keeps0, _, .inl (SqL.of hrow), fun p hp => ⟨same_upd hp _ _ hH, by rw [List.length_map]; omega, CNx.mk (by rw [List.length_map]; omega) ⟨rs' ++ [p], by rw [List.map_append]; rfl, by rw [List.length_append, hi]; rfl, same_over (hs.trans (same_upd hp)) hD, upd_same, ?_, ?_⟩⟩⟩
    · intro r' hr'
      rcases List.mem_append.mp hr' with h' | h'
      · exact hf r' h'
      · rw [List.mem_singleton.mp h']
        refine ⟨?_, fun e => by rw [e] at hp; rw [hp] at hH; cases hH⟩
        cases e : H p with
        | none => rfl
        | some o => have := hs _ _ e; rw [hp] at this; cases this
    · intro j r' x' h1 h2
      by_cases hj : j < i
      · rw [List.getElem?_append_left (by omega)] at h1
        have hm := hf r' (List.mem_of_getElem? h1)
        rw [upd_ne hm.2]
        exact same_upd hp _ _ (hr j r' x' h1 h2)
      · rw [List.getElem?_append_right (by omega)] at h1
        have hj0 : j = i := by
          have := (List.getElem?_eq_some_iff.mp h1).1
          simp at this
          omega
        subst hj0
        rw [hi, Nat.sub_self] at h1
        cases h1
        rw [hx] at h2
        cases h2
        rw [upd_ne (fun e => by rw [e] at hp; rw [hp] at hH; cases hH)]
        exact upd_same
  · rintro acc H' ⟨rs', rfl, hi, hs, hH, hf, hr⟩
    rw [List.length_map] at hi
    exact q rs' H' hs ⟨hH, by omega, hr⟩ (fun r hr' => by
      rcases List.mem_cons.mp hr' with rfl | h'
      · exact hD
      · exact (hf r h').1) fun h' => (hf D h').2 rfl
theorem comp_copy {H : Hp} {t : Addr} {rs : List Addr} {tab : List (List Int)} {σ : L2.St} {Q : VK} {D : Addr} {g : TG} (hg : g = gName 0) (h : TabAt H t rs tab) (hb : tab.length ≤ 1000) (hD : H D = none) (q : ∀ (rs' : List Addr) (H' : Hp), Same H H' → TabAt H' D rs' tab → (∀ r ∈ D :: rs', H r = none) → Q (.ref D) H') :
    CompL K t g tYes (tCB (rLstOf K) (tCons (tVar 0) tNil)) 1 [] σ H Q D :=
  comp_copy2 hg h hb hD fun rs' H' s' t' f' _ => q rs' H' s' t' f'
structure TNoWo (K : PySem.W.Frag) (mg : Str → Option Value) (C : Addr) : Prop where
  xi : XI K C
  ini : PySem.W.findIn K (.ref C) "__init__" = some (some (.builtin "ValueError.__init__"))
  g : mg "NoWorld" = some (.ref C)
  most : ∃ t, mg "MOST_ROOMS" = some (.int 8 t)
def sp_table_of : Sp := fun vs H Q _ => ∃ (l : List Nat) (a : Addr) (rs : List Addr) (tab : List (List Int)), vs = [.str (tx l), .ref a] ∧ l.length ≤ 6 ∧ TabAt H a rs tab ∧ GoodT l tab ∧ ∀ (t : Addr) (rs' : List Addr) (H' : Hp), Same H H' → TabAt H' t rs' tab → (∀ r ∈ t :: rs', H r = none) → Q (.ref t) H'
theorem sc_table_of : FnScope ["letters", "table", "row", "room"] ["letters", "table"] (defScope s_table_of) := ⟨rfl, rfl, rfl, by decide +kernel, rfl, by decide +kernel, by decide +kernel⟩
theorem ok_table_of {f CN : Addr} {fd : FuncData} (B : Bt mg) (TN : TNoWo K mg CN) (F : Fun K "table_of" "table_of" s_table_of f fd)  : FnOk P w K mg base (CXx P w) 1 f fd ["letters", "table"] sp_table_of := by
  obtain ⟨t6, g6⟩ := TN.most
  refine Fun.okX F sc_table_of (fun vs H Q E h => ?_) (fun cdv A outer s H vs Q E hr hx h => ?_)
  · obtain ⟨l, a, rs, tab, rfl, _⟩ := h
    rfl
  · obtain ⟨l, a, rs, tab, rfl, hl6, hT, hG, q⟩ := h
    refine ⟨_, (pss_cut (ps_if (pt_not (pt_chain op_leA op_leA pe_int (pe_callB c_len rfl B.len PySem.boot_len (pa_cons (pv 1) pa_nil)) (pe_glob (v := .int 8) rfl g6 ⟨t6, rfl⟩)))
        (pss_one (ps_raise0 hx rfl TN.xi.toXC TN.ini rfl TN.g (pa_cons pe_str pa_nil)))
        pss_nil)
      (pss_cut (ps_for PassesOwn.leaving rfl (pi_list (pv 1)) (pg_name (i := 2) sc_table_of.nd rfl (Or.inl rfl))
        (pss_cons (ps_if (pt_cmpR op_ne (pe_callB c_len rfl B.len PySem.boot_len (pa_cons (pv 2) pa_nil)) (pe_callB c_len rfl B.len PySem.boot_len (pa_cons (pv 0) pa_nil)) (nomark _))
          (pss_one (ps_raise0 hx rfl TN.xi.toXC TN.ini rfl TN.g (pa_cons pe_str pa_nil)))
          pss_nil)
        (pss_one (ps_for PassesOwn.leaving rfl (pi_list (pv 2)) (pg_name (i := 3) sc_table_of.nd rfl (Or.inl rfl))
          (pss_one (ps_if (pt_not (pt_chain op_leA op_ltA pe_int (pv 3) (pe_callB c_len rfl B.len PySem.boot_len (pa_cons (pv 1) pa_nil))))
            (pss_one (ps_raise0 hx rfl TN.xi.toXC TN.ini rfl TN.g (pa_cons pe_str pa_nil)))
            pss_nil))))))
      (pss_one (ps_ret (pe_comp (own := ["row"]) (caps := []) (ix := []) (tt := tYes) (te := (tCB (rLstOf K) (tCons (tVar 0) tNil))) rfl (compOk_of (sc := defScope s_table_of) rfl (by decide +kernel) (by decide +kernel) (by decide +kernel) rfl (by decide +kernel) (by decide +kernel) rfl) (pi_list (pv 1)) (fun _ _ _ _ _ _ => pg_name (i := 0) (show List.Nodup [_] by decide) rfl (Or.inl rfl)) (fun _ _ _ _ _ _ => pts_nil) (fun _ _ _ _ _ _ => (pe_callTy call_list_of rfl B.list PySem.Pv.boot_list (pa_cons (pv 0) pa_nil)))))))), ?_⟩
    have s16 := sl16
    have hlen := hT.len
    have hlo := hG.lo
    have hhi := hG.hi
    refine cut_by (fun σ H' => H' = H ∧ σ = [some (.str (tx l)), some (.ref a), none, none]) ?_ ?_
    · repeat (first | rfl' | simp only [tAlt, tMethF, rd_cz, tRev, rSum, rIndex])
      exact ⟨_, .inl ⟨_, SqL.of hT.top, rfl⟩, ite2 (fun _ => ite2 (fun h => absurd (by rw [List.length_map]; omega) h) fun _ => trivial) fun h => absurd (by rw [List.length_map]; omega) h⟩
    rintro σ H1 ⟨rfl, rfl⟩
    refine cut_by (fun σ H' => H' = H1 ∧ ∃ v2 v3, σ = [some (.str (tx l)), some (.ref a), v2, v3]) ?_ ?_
    · repeat (first | rfl' | simp only [tAlt, tMethF, rd_cz, tRev, rSum, rIndex])
      refine ⟨⟨_, SqL.of hT.top⟩, ForL.by (xs := rs.map V.ref) (fun i σ H' => H' = H1 ∧ ∃ v2 v3, σ = [some (.str (tx l)), some (.ref a), v2, v3]) ⟨rfl, none, none, rfl⟩ (fun i σ H' _ h => by rw [h.1]; exact SqL.of hT.top) ?_ fun σ H' h => h⟩
      rintro i y σ H' hy ⟨rfl, v2, v3, rfl⟩
      rw [List.getElem?_map] at hy
      obtain ⟨r, hr, rfl⟩ := Option.map_eq_some_iff.mp hy
      have hil := (List.getElem?_eq_some_iff.mp hr).1
      have hx : tab[i]? = some (tab[i]'(by omega)) := List.getElem?_eq_getElem (by omega)
      generalize tab[i]'(by omega) = x at hx
      have hrow := hT.row i r x hr hx
      have hmx := List.mem_of_getElem? hx
      have hw := hG.wd x hmx
      repeat (first | rfl' | simp only [tAlt, tMethF, rd_cz, tRev, rSum, rIndex])
      refine ⟨_, .inl ⟨_, SqL.of hrow, rfl⟩, by omega, ite2 (fun h => absurd (by rw [List.length_map]; omega) h) fun _ => ⟨⟨_, SqL.of hrow⟩, ForL.by (xs := x.map V.int) (fun i σ H'' => H'' = H' ∧ ∃ v2 v3, σ = [some (.str (tx l)), some (.ref a), v2, v3]) ⟨rfl, _, _, rfl⟩ (fun i σ H'' _ h => by rw [h.1]; exact SqL.of hrow) ?_ fun σ H' h => h⟩⟩
      rintro j y σ H'' hy ⟨rfl, v2, v3, rfl⟩
      rw [List.getElem?_map] at hy
      obtain ⟨n, hn, rfl⟩ := Option.map_eq_some_iff.mp hy
      obtain ⟨n1, n2⟩ := hG.rm x hmx n (List.mem_of_getElem? hn)
      repeat (first | rfl' | simp only [tAlt, tMethF, rd_cz, tRev, rSum, rIndex])
      exact ite2 (fun _ => ⟨_, .inl ⟨_, SqL.of hT.top, rfl⟩, ite2 (fun h => absurd (by rw [List.length_map]; omega) h) fun _ => trivial⟩) fun h => absurd n1 h
    rintro σ H2 ⟨rfl, v2, v3, rfl⟩
    repeat (first | rfl' | simp only [tAlt, tMethF, rd_cz, tRev, rSum, rIndex])
    exact ⟨⟨_, SqL.of hT.top⟩, fun D hD => comp_copy rfl hT (by omega) hD fun rs' H' s' t' f' => q D rs' H' s' t' f'⟩
structure TWor (K : PySem.W.Frag) (mg : Str → Option Value) (CH : Addr) : Prop where
  cl : Cls K CH
  g : mg "World" = some (.ref CH)
  nl : NoAttr K CH "letters"
  nt : NoAttr K CH "table"
def WorAt (CH : Addr) (H : Hp) (o : Addr) (l : List Nat) (t : Addr) (rs : List Addr) (tab : List (List Int)) : Prop := ∃ dx, H o = some (.ins CH dx [("letters", .str (tx l)), ("table", .ref t)]) ∧ TabAt H t rs tab
theorem WorAt.same {CH : Addr} {H H' : Hp} {o t : Addr} {l : List Nat} {rs : List Addr} {tab : List (List Int)} (h : WorAt CH H o l t rs tab) (e : Same H H') : WorAt CH H' o l t rs tab := by
  obtain ⟨dx, h1, h2⟩ := h
  exact ⟨dx, e _ _ h1, h2.same e⟩
theorem TabAt.updI {H : Hp} {p C dx t : Addr} {fs gs : List (Str × V)} {rs : List Addr} {tab : List (List Int)} (hp : H p = some (.ins C dx fs)) (h : TabAt H t rs tab) : TabAt (upd H p (.ins C dx gs)) t rs tab := by
  refine ⟨?_, h.len, fun i r x h1 h2 => ?_⟩
  · rw [upd_ne (fun e => by have := h.top; rw [e, hp] at this; cases this)]
    exact h.top
  · have h3 := h.row i r x h1 h2
    rw [upd_ne (fun e => by rw [e, hp] at h3; cases h3)]
    exact h3
def sp_woinit (CH : Addr) : Sp := fun vs H Q _ => ∃ (x dx a : Addr) (l : List Nat) (rs : List Addr) (tab : List (List Int)), vs = [.ref x, .str (tx l), .ref a] ∧ goodB l = true ∧ TabAt H a rs tab ∧ GoodT l tab ∧ H x = some (.ins CH dx []) ∧
  ∀ (t : Addr) (rs' : List Addr) (H' : Hp), (∀ b o, b ≠ x → H b = some o → H' b = some o) → (∀ r ∈ t :: rs', H r = none) → WorAt CH H' x l t rs' tab → Q .non H'
theorem sc_world_init : FnScope ["self", "letters", "table"] ["self", "letters", "table"] (defScope s_world_init) := ⟨rfl, rfl, rfl, by decide +kernel, rfl, by decide +kernel, by decide +kernel⟩
theorem ok_world_init {f C CH : Addr} {fd : FuncData} (B : Bt mg) (CL : TWor K mg CH) (F : Fun K "__init__" "World.__init__" s_world_init f fd) (D_letters_of : Df P w K mg base (CXx P w) 2 "letters_of" ["text"] [] (sp_letters_of C)) (D_table_of : Df P w K mg base (CXx P w) 1 "table_of" ["letters", "table"] [] sp_table_of) : FnOk P w K mg base (CXx P w) 4 f fd ["self", "letters", "table"] (sp_woinit CH) := by
  refine Fun.okX F sc_world_init (fun vs H Q E h => ?_) (fun cdv A outer s H vs Q E hr hx h => ?_)
  · obtain ⟨x, dx, a, l, rs, tab, rfl, _⟩ := h
    rfl
  · obtain ⟨x, dx, a, l, rs, tab, rfl, hg, hT, hG, hX, q⟩ := h
    refine ⟨_, (pss_cut (ps_fld (pv 0) (clP hx D_letters_of hr .nil rfl (pa_cons (pv 1) pa_nil)) rfl)
      (pss_one (ps_fld (pv 0) (clP hx D_table_of hr .nil rfl (pa_cons (pv 1) (pa_cons (pv 2) pa_nil))) rfl))), ?_⟩
    have s16 := sl16
    have hg' := of_decide_eq_true hg
    refine cut_by (fun σ H' => H' = upd H x (.ins CH dx [("letters", .str (tx l))]) ∧ σ = [some (.ref x), some (.str (tx l)), some (.ref a)]) ?_ ?_
    · repeat (first | rfl' | simp only [tAlt, tMethF, rd_cz, tRev, rSum, rIndex])
      exact ⟨l, rfl, by omega, fun _ => ⟨_, _, _, hX, CL.cl, CL.nl, by decide, rfl⟩, fun e => by rw [hg] at e; cases e⟩
    rintro σ H1 ⟨rfl, rfl⟩
    repeat (first | rfl' | simp only [tAlt, tMethF, rd_cz, tRev, rSum, rIndex])
    refine ⟨l, a, rs, tab, rfl, by omega, hT.updI hX, hG, fun t rs' H' s' t' f' => ?_⟩
    have hX2 := s' _ _ (upd_same (H := H) (a := x) (o := .ins CH dx [("letters", .str (tx l))]))
    have fr : ∀ r ∈ t :: rs', H r = none ∧ r ≠ x := fun r hr' => by
      have h1 := f' r hr'
      have h2 : r ≠ x := fun e => by rw [e, upd_same] at h1; cases h1
      rw [upd_ne h2] at h1
      exact ⟨h1, h2⟩
    exact ⟨_, _, _, hX2, CL.cl, CL.nt, by show 1 < 1000; decide, q t rs' _ (fun b o hb e => by rw [upd_ne hb]; exact s' _ _ (by rw [upd_ne hb]; exact e)) (fun r hr' => (fr r hr').1) ⟨dx, upd_same, t'.updI hX2⟩⟩
theorem use_world {CH a : Addr} {l : List Nat} {rs : List Addr} {tab : List (List Int)} {H : Hp} {R : Addr → Hp → Prop} {E : XK} (hg : goodB l = true) (hT : TabAt H a rs tab) (hG : GoodT l tab) (q : ∀ (x t : Addr) (rs' : List Addr) (H' : Hp), Same H H' → H x = none → (∀ r ∈ t :: rs', H r = none) → WorAt CH H' x l t rs' tab → R x H') :
    ∀ x dx, H x = none → H dx = none → dx ≠ x → sp_woinit CH [.ref x, .str (tx l), .ref a] (upd (upd H dx (.own x)) x (.ins CH dx [])) (fun v H2 => v = .non ∧ R x H2) E := by
  intro x dx hx hdx hne
  have sd := same_upd (o := .own x) hdx
  have hx1 : (upd H dx (.own x)) x = none := by rw [upd_ne hne.symm]; exact hx
  have sx := sd.trans (same_upd (o := .ins CH dx []) hx1)
  refine ⟨x, dx, a, l, rs, tab, rfl, hg, hT.same sx, hG, upd_same, fun t rs' H' k f hc => ⟨rfl, q x t rs' H' (fun b o e => k b o (ne_of_none e hx) (sx b o e)) hx (fun r hr => ?_) hc⟩⟩
  cases e : H r with
  | none => rfl
  | some o => have := sx _ _ e; rw [f r hr] at this; cases this
def sp_rooms (CH : Addr) : Sp := fun vs H Q _ => ∃ (o t : Addr) (l : List Nat) (rs : List Addr) (tab : List (List Int)), vs = [.ref o] ∧ WorAt CH H o l t rs tab ∧ Q (.int (tab.length : Nat)) H
theorem sc_world_rooms : FnScope ["self"] ["self"] (defScope s_world_rooms) := ⟨rfl, rfl, rfl, by decide +kernel, rfl, by decide +kernel, by decide +kernel⟩
theorem ok_world_rooms {f CH : Addr} {fd : FuncData} (B : Bt mg) (CL : TWor K mg CH) (F : Fun K "rooms" "World.rooms" s_world_rooms f fd)  : FnOk P w K mg base CX0 1 f fd ["self"] (sp_rooms CH) := by
  refine F.ok sc_world_rooms (fun vs H Q E h => ?_) (fun cdv A outer s H vs Q E hr h => ?_)
  · obtain ⟨o, t, l, rs, tab, rfl, _⟩ := h
    rfl
  · obtain ⟨o, t, l, rs, tab, rfl, hW, q⟩ := h
    refine ⟨_, (pss_one (ps_ret (pe_callB c_len rfl B.len PySem.boot_len (pa_cons (pe_fld (pv 0) rfl) pa_nil)))), ?_⟩
    have s16 := sl16
    rfl'
    obtain ⟨dx, ho, hT⟩ := hW
    exact ⟨_, _, _, ho, CL.cl, CL.nt, _, rfl, _, .inl ⟨_, SqL.of hT.top, rfl⟩, by rw [List.length_map, hT.len]; exact q⟩
theorem use_rooms {CH o t : Addr} {l : List Nat} {rs : List Addr} {tab : List (List Int)} {H : Hp} {Q : VK} {E : XK} (h : WorAt CH H o l t rs tab) (q : Q (.int (tab.length : Nat)) H) : sp_rooms CH [.ref o] H Q E := ⟨o, t, l, rs, tab, rfl, h, q⟩
def sp_told (CH : Addr) : Sp := fun vs H Q _ => ∃ (o t : Addr) (l : List Nat) (rs : List Addr) (tab : List (List Int)), vs = [.ref o] ∧ WorAt CH H o l t rs tab ∧ tab.length ≤ 1000 ∧ ∀ (D : Addr) (rs' : List Addr) (H' : Hp), Same H H' → TabAt H' D rs' tab → (∀ r ∈ D :: rs', H r = none) → D ∉ rs' → Q (.ref D) H'
theorem use_told {CH o t : Addr} {l : List Nat} {rs : List Addr} {tab : List (List Int)} {H : Hp} {Q : VK} {E : XK} (h : WorAt CH H o l t rs tab) (hb : tab.length ≤ 1000) (q : ∀ (D : Addr) (rs' : List Addr) (H' : Hp), Same H H' → TabAt H' D rs' tab → (∀ r ∈ D :: rs', H r = none) → D ∉ rs' → Q (.ref D) H') : sp_told CH [.ref o] H Q E := ⟨o, t, l, rs, tab, rfl, h, hb, q⟩
theorem sc_world_table_told : FnScope ["self"] ["self"] (defScope s_world_table_told) := ⟨rfl, rfl, rfl, by decide +kernel, rfl, by decide +kernel, by decide +kernel⟩
theorem ok_world_table_told {f CH : Addr} {fd : FuncData} (B : Bt mg) (CL : TWor K mg CH) (F : Fun K "table_told" "World.table_told" s_world_table_told f fd)  : FnOk P w K mg base CX0 1 f fd ["self"] (sp_told CH) := by
  refine F.ok sc_world_table_told (fun vs H Q E h => ?_) (fun cdv A outer s H vs Q E hr h => ?_)
  · obtain ⟨o, t, l, rs, tab, rfl, _⟩ := h
    rfl
  · obtain ⟨o, t, l, rs, tab, rfl, hW, hb, q⟩ := h
    refine ⟨_, (pss_one (ps_ret (pe_comp (own := ["row"]) (caps := []) (ix := []) (tt := tYes) (te := (tCB (rLstOf K) (tCons (tVar 0) tNil))) rfl (compOk_of (sc := defScope s_world_table_told) rfl (by decide +kernel) (by decide +kernel) (by decide +kernel) rfl (by decide +kernel) (by decide +kernel) rfl) (pi_list (pe_fld (pv 0) rfl)) (fun _ _ _ _ _ _ => pg_name (i := 0) (show List.Nodup [_] by decide) rfl (Or.inl rfl)) (fun _ _ _ _ _ _ => pts_nil) (fun _ _ _ _ _ _ => (pe_callTy call_list_of rfl B.list PySem.Pv.boot_list (pa_cons (pv 0) pa_nil)))))), ?_⟩
    have s16 := sl16
    rfl'
    obtain ⟨dx, ho, hT⟩ := hW
    exact ⟨_, _, _, ho, CL.cl, CL.nt, _, rfl, _, rfl, ⟨_, SqL.of hT.top⟩, fun D hD => comp_copy2 rfl hT hb hD fun rs' H' s' t' f' n' => q D rs' H' s' t' f' n'⟩
theorem at_c (l : List Nat) (c e : Nat) : StrLaws.At (tx l) (tx [c]) (tx l).length e ↔ l[e]? = some c := by
  unfold StrLaws.At Builtin.Str.subAt
  rw [len_tx, len_tx]
  have h1 : [c].length = 1 := rfl
  rw [h1, beq_iff_eq]
  have e1 : ((tx l).cps.extract e (e + 1)).toList = (l.drop e).take 1 := by
    show (l.toArray.extract e (e + 1)).toList = _
    simp [List.extract_eq_drop_take]
  have e2 : ((tx l).cps.extract e (e + 1) = (tx [c]).cps) ↔ (l.drop e).take 1 = [c] := by
    constructor
    · intro h
      rw [← e1, h]
    · intro h
      apply Array.toList_inj.mp
      rw [e1, h]
  constructor
  · rintro ⟨h2, h3⟩
    have := e2.mp h3
    rw [List.drop_eq_getElem_cons (by omega), List.take_succ_cons, List.take_zero] at this
    rw [List.getElem?_eq_getElem (by omega)]
    injection this with h _
    rw [h]
  · intro h
    obtain ⟨he, hx⟩ := List.getElem?_eq_some_iff.mp h
    refine ⟨by omega, e2.mpr ?_⟩
    rw [List.drop_eq_getElem_cons he, List.take_succ_cons, List.take_zero, hx]
theorem find_c {l : List Nat} {c : Nat} (h : c ∈ l) : Txt.find (tx l) (tx [c]) = ((l.idxOf c : Nat) : Int) := by
  have hlt := List.idxOf_lt_length_of_mem h
  have hg : l[l.idxOf c]? = some c := by rw [List.getElem?_eq_getElem hlt, List.getElem_idxOf]
  rcases PyProof.Rows.find_whole (tx l) (tx [c]) with ⟨h1, h2⟩ | ⟨e, h1, h2, h3⟩
  · exact absurd ((at_c l c _).mpr hg) (h2 _)
  · have he := (at_c l c e).mp h2
    have : e = l.idxOf c := by
      rcases Nat.lt_trichotomy e (l.idxOf c) with q | q | q
      · have := List.not_of_lt_findIdx (p := (· == c)) q
        obtain ⟨h4, h5⟩ := List.getElem?_eq_some_iff.mp he
        simp [h5] at this
      · exact q
      · exact absurd ((at_c l c _).mpr hg) (h3 _ q)
    rw [h1, this]
def stepT (l : List Nat) (tab : List (List Int)) (r : Int) (c : Nat) : Int := (tab.getD r.toNat []).getD (l.idxOf c) 0
def ledT (l : List Nat) (tab : List (List Int)) (r : Int) (w : List Nat) : Int := w.foldl (stepT l tab) r
theorem stepT_ok {l : List Nat} {tab : List (List Int)} (hG : GoodT l tab) {r : Int} (h0 : 0 ≤ r) (h1 : r < (tab.length : Int)) {c : Nat} (hc : c ∈ l) : 0 ≤ stepT l tab r c ∧ stepT l tab r c < (tab.length : Int) := by
  have hx : tab[r.toNat]? = some (tab[r.toNat]'(by omega)) := List.getElem?_eq_getElem (by omega)
  generalize tab[r.toNat]'(by omega) = x at hx
  have hm := List.mem_of_getElem? hx
  have hi := List.idxOf_lt_length_of_mem hc
  rw [← hG.wd x hm] at hi
  have hn : x[l.idxOf c]? = some x[l.idxOf c] := List.getElem?_eq_getElem hi
  unfold stepT
  rw [List.getD_eq_getElem?_getD (l := tab), hx, Option.getD_some, List.getD_eq_getElem?_getD, hn, Option.getD_some]
  exact hG.rm x hm _ (List.mem_of_getElem? hn)
theorem ledT_ok {l : List Nat} {tab : List (List Int)} (hG : GoodT l tab) : ∀ {w : List Nat} {r : Int}, 0 ≤ r → r < (tab.length : Int) → (∀ c ∈ w, c ∈ l) → 0 ≤ ledT l tab r w ∧ ledT l tab r w < (tab.length : Int)
  | [], r, h0, h1, _ => ⟨h0, h1⟩
  | c :: w, r, h0, h1, hw => by
    obtain ⟨a, b⟩ := stepT_ok hG h0 h1 (hw c (by simp))
    exact ledT_ok hG (w := w) a b fun x hx => hw x (by simp [hx])
theorem ledT_take {l : List Nat} {tab : List (List Int)} {r : Int} {w : List Nat} {i c : Nat} (h : w[i]? = some c) : ledT l tab r (w.take (i + 1)) = stepT l tab (ledT l tab r (w.take i)) c := by
  unfold ledT
  rw [take_one h, List.foldl_append]
  rfl
theorem row_at {l : List Nat} {tab : List (List Int)} (hG : GoodT l tab) {r : Int} {x : List Int} (hx : tab[r.toNat]? = some x) {c : Nat} (hc : c ∈ l) : atI (x.map V.int) ((l.idxOf c : Nat) : Int) = some (.int (stepT l tab r c)) := by
  have hm := List.mem_of_getElem? hx
  have hi := List.idxOf_lt_length_of_mem hc
  rw [← hG.wd x hm] at hi
  have hn : x[l.idxOf c]? = some x[l.idxOf c] := List.getElem?_eq_getElem hi
  refine atI_nat ?_
  unfold stepT
  rw [List.getElem?_map, hn, List.getD_eq_getElem?_getD (l := tab), hx, Option.getD_some, List.getD_eq_getElem?_getD, hn]
  rfl
def sp_wled (CH : Addr) : Sp := fun vs H Q _ => ∃ (o t : Addr) (l : List Nat) (rs : List Addr) (tab : List (List Int)) (r : Int) (w : List Nat), vs = [.ref o, .int r, .str (tx w)] ∧ WorAt CH H o l t rs tab ∧ GoodT l tab ∧ 0 ≤ r ∧ r < (tab.length : Int) ∧ (∀ c ∈ w, c ∈ l) ∧ Q (.int (ledT l tab r w)) H
theorem sc_world_led : FnScope ["self", "room", "word", "letter"] ["self", "room", "word"] (defScope s_world_led) := ⟨rfl, rfl, rfl, by decide +kernel, rfl, by decide +kernel, by decide +kernel⟩
theorem ok_world_led {f CH : Addr} {fd : FuncData} (B : Bt mg) (CL : TWor K mg CH) (F : Fun K "led" "World.led" s_world_led f fd)  : FnOk P w K mg base CX0 1 f fd ["self", "room", "word"] (sp_wled CH) := by
  refine F.ok sc_world_led (fun vs H Q E h => ?_) (fun cdv A outer s H vs Q E hr h => ?_)
  · obtain ⟨o, t, l, rs, tab, r, w, rfl, _⟩ := h
    rfl
  · obtain ⟨o, t, l, rs, tab, r, w, rfl, hW, hG, h0, h1, hw, q⟩ := h
    refine ⟨_, (pss_cons (ps_for PassesOwn.never rfl (pi_str (pv 2)) (pg_name (i := 3) sc_world_led.nd rfl (Or.inl rfl))
        (pss_one (ps_set (i := 1) sc_world_led.nd rfl (Or.inl rfl) (pe_ix ix_list (pe_ix ix_list (pe_fld (pv 0) rfl) (pv 1) (fun _ _ => rfl)) (pe_bm PySem.F.plainAttrs_str PySem.F.slot_str_index PySem.F.type_str_index m_index (pe_fld (pv 0) rfl) (pa_cons (pv 3) pa_nil)) (fun _ _ => rfl)))))
      (pss_one (ps_ret (pv 1)))), ?_⟩
    have s16 := sl16
    rfl'
    obtain ⟨dx, ho, hT⟩ := hW
    refine ForS.by (fun i σ H' => H' = H ∧ ∃ v3, σ = [some (.ref o), some (.int (ledT l tab r (w.take i))), some (.str (tx w)), v3]) ⟨rfl, none, rfl⟩ ?_ ?_
    · rintro i c σ H' hc ⟨rfl, v3, rfl⟩
      have hcl := hw c (List.mem_of_getElem? hc)
      obtain ⟨a, b⟩ := ledT_ok hG (w := w.take i) h0 h1 fun x hx => hw x (List.mem_of_mem_take hx)
      obtain ⟨r', x, e1, e2, e3⟩ := hT.get a b
      repeat (first | rfl' | simp only [tAlt, tMethF, rd_cz, tRev, rSum, rIndex])
      exact ⟨_, _, _, ho, CL.cl, CL.nt, _, rfl, _, rfl, _, SqL.of hT.top, _, e1, _, _, _, ho, CL.cl, CL.nl, _, rfl, trivial, _, rfl, _, find_c hcl, _, rfl, _, SqL.of e3, by rw [ledT_take hc]; exact row_at hG e2 hcl⟩
    · rintro σ H' ⟨rfl, v3, rfl⟩
      rfl'
      rw [List.take_length]
      exact q
theorem use_wled {CH o t : Addr} {l : List Nat} {rs : List Addr} {tab : List (List Int)} {r : Int} {w : List Nat} {H : Hp} {Q : VK} {E : XK} (h : WorAt CH H o l t rs tab) (hG : GoodT l tab) (h0 : 0 ≤ r) (h1 : r < (tab.length : Int)) (hw : ∀ c ∈ w, c ∈ l) (q : Q (.int (ledT l tab r w)) H) : sp_wled CH [.ref o, .int r, .str (tx w)] H Q E := ⟨o, t, l, rs, tab, r, w, rfl, h, hG, h0, h1, hw, q⟩
def visL (m row : List Int) : List Int := row.foldl (fun m x => if x ∈ m then m else m ++ [x]) m
def rowT (tab : List (List Int)) (r : Int) : List Int := tab.getD r.toNat []
def bfsL (tab : List (List Int)) : Nat → Nat → List Int → List Int
  | 0, _, m => m
  | f + 1, i, m => if i < m.length then bfsL tab f (i + 1) (visL m (rowT tab (m.getD i 0))) else m
def metT (tab : List (List Int)) : List Int := bfsL tab 9 0 [0]
theorem vis_app (m row : List Int) (x : Int) : visL m (row ++ [x]) = if x ∈ visL m row then visL m row else visL m row ++ [x] := by
  unfold visL
  rw [List.foldl_append]
  rfl
structure Ms (n : Nat) (m : List Int) : Prop where
  nd : m.Nodup
  bd : ∀ x ∈ m, 0 ≤ x ∧ x < (n : Int)
  z : m[0]? = some 0
theorem nodup_le : ∀ (n : Nat) (m : List Int), m.Nodup → (∀ x ∈ m, 0 ≤ x ∧ x < (n : Int)) → m.length ≤ n
  | 0, [], _, _ => Nat.le_refl _
  | 0, x :: m, _, h => by have := h x (by simp); omega
  | n + 1, m, hn, hb => by
    have h1 : (m.filter fun x => decide (x ≠ (n : Int))).length ≤ n := nodup_le n _ (hn.filter _) fun x hx => by
      obtain ⟨a, b⟩ := List.mem_filter.mp hx
      have := hb x a
      have := of_decide_eq_true b
      omega
    have h2 : (m.filter fun x => decide (x = (n : Int))).length ≤ 1 := by
      have h3 : (m.filter fun x => decide (x = (n : Int))).Nodup := hn.filter _
      match e : m.filter fun x => decide (x = (n : Int)) with
      | [] => exact Nat.zero_le _
      | [a] => exact Nat.le_refl _
      | a :: b :: r =>
        have ha : a ∈ m.filter fun x => decide (x = (n : Int)) := by rw [e]; simp
        have hb' : b ∈ m.filter fun x => decide (x = (n : Int)) := by rw [e]; simp
        have e1 := of_decide_eq_true (List.mem_filter.mp ha).2
        have e2 := of_decide_eq_true (List.mem_filter.mp hb').2
        rw [e] at h3
        rw [e1, e2] at h3
        simp at h3
    have h3 : m.length = (m.filter fun x => decide (x = (n : Int))).length + (m.filter fun x => decide (x ≠ (n : Int))).length := by
      clear hn hb h1 h2
      induction m with
      | nil => rfl
      | cons x m ih =>
        by_cases hx : x = (n : Int)
        · simp [hx] at ih ⊢
          omega
        · simp [hx] at ih ⊢
          omega
    omega
theorem Ms.le {n : Nat} {m : List Int} (h : Ms n m) : m.length ≤ n := nodup_le n m h.nd h.bd
theorem Ms.pos {n : Nat} {m : List Int} (h : Ms n m) : 1 ≤ m.length := by
  have := (List.getElem?_eq_some_iff.mp h.z).1
  omega
theorem Ms.add {n : Nat} {m : List Int} (h : Ms n m) {x : Int} (hx : 0 ≤ x ∧ x < (n : Int)) : Ms n (if x ∈ m then m else m ++ [x]) := by
  split
  · exact h
  · rename_i hm
    refine ⟨List.nodup_append.mpr ⟨h.nd, by simp, fun a ha b hb => by rw [List.mem_singleton.mp hb]; exact fun e => hm (by rw [← e]; exact ha)⟩, fun y hy => ?_, ?_⟩
    · rcases List.mem_append.mp hy with h' | h'
      · exact h.bd y h'
      · rw [List.mem_singleton.mp h']
        exact hx
    · rw [List.getElem?_append_left (by have := h.pos; omega)]
      exact h.z
theorem vis_sub (m : List Int) : ∀ (row : List Int), ∃ t, visL m row = m ++ t ∧ ∀ x ∈ t, x ∈ row := by
  intro row
  induction row generalizing m with
  | nil => exact ⟨[], by simp [visL], fun x h => (nomatch h)⟩
  | cons x row ih =>
    have e : visL m (x :: row) = visL (if x ∈ m then m else m ++ [x]) row := rfl
    rw [e]
    split
    · obtain ⟨t, h1, h2⟩ := ih m
      exact ⟨t, h1, fun y hy => List.mem_cons_of_mem _ (h2 y hy)⟩
    · obtain ⟨t, h1, h2⟩ := ih (m ++ [x])
      refine ⟨x :: t, by rw [h1, List.append_assoc]; rfl, fun y hy => ?_⟩
      rcases List.mem_cons.mp hy with rfl | hy
      · simp
      · exact List.mem_cons_of_mem _ (h2 y hy)
theorem vis_all (m : List Int) : ∀ (row : List Int), ∀ x ∈ row, x ∈ visL m row := by
  intro row
  induction row generalizing m with
  | nil => exact fun x h => (nomatch h)
  | cons y row ih =>
    intro x hx
    have e : visL m (y :: row) = visL (if y ∈ m then m else m ++ [y]) row := rfl
    rw [e]
    rcases List.mem_cons.mp hx with rfl | hx
    · obtain ⟨t, h1, _⟩ := vis_sub (if x ∈ m then m else m ++ [x]) row
      rw [h1]
      refine List.mem_append_left _ ?_
      split
      · assumption
      · simp
    · exact ih _ x hx
theorem Ms.vis {n : Nat} {row : List Int} (hr : ∀ x ∈ row, 0 ≤ x ∧ x < (n : Int)) : ∀ {m : List Int}, Ms n m → Ms n (visL m row) := by
  induction row with
  | nil => exact fun h => h
  | cons x row ih =>
    intro m h
    exact ih (fun y hy => hr y (by simp [hy])) (h.add (hr x (by simp)))
theorem rowT_ok {l : List Nat} {tab : List (List Int)} (hG : GoodT l tab) {r : Int} (h0 : 0 ≤ r) (h1 : r < (tab.length : Int)) : tab[r.toNat]? = some (rowT tab r) ∧ (rowT tab r).length = l.length ∧ ∀ x ∈ rowT tab r, 0 ≤ x ∧ x < (tab.length : Int) := by
  have hx : tab[r.toNat]? = some (tab[r.toNat]'(by omega)) := List.getElem?_eq_getElem (by omega)
  have e : rowT tab r = tab[r.toNat]'(by omega) := by
    unfold rowT
    rw [List.getD_eq_getElem?_getD, hx]
    rfl
  rw [e]
  have hm := List.mem_of_getElem? hx
  exact ⟨hx, hG.wd _ hm, hG.rm _ hm⟩
structure Bs (l : List Nat) (tab : List (List Int)) (i : Nat) (m : List Int) : Prop where
  ms : Ms tab.length m
  le : i ≤ m.length
  cl : ∀ (j : Nat) (r : Int), j < i → m[j]? = some r → ∀ x ∈ rowT tab r, x ∈ m
theorem Bs.step {l : List Nat} {tab : List (List Int)} (hG : GoodT l tab) {i : Nat} {m : List Int} (h : Bs l tab i m) (hi : i < m.length) : Bs l tab (i + 1) (visL m (rowT tab (m.getD i 0))) := by
  have hg : m[i]? = some m[i] := List.getElem?_eq_getElem hi
  have e : m.getD i 0 = m[i] := by rw [List.getD_eq_getElem?_getD, hg]; rfl
  obtain ⟨b1, b2⟩ := h.ms.bd _ (List.mem_of_getElem? hg)
  obtain ⟨_, _, hr⟩ := rowT_ok hG b1 b2
  rw [e]
  obtain ⟨t, ht, _⟩ := vis_sub m (rowT tab m[i])
  refine ⟨h.ms.vis hr, by rw [ht, List.length_append]; omega, fun j r hj hjr x hx => ?_⟩
  rw [ht, List.getElem?_append_left (by omega)] at hjr
  by_cases hj' : j < i
  · rw [ht]
    exact List.mem_append_left _ (h.cl j r hj' hjr x hx)
  · have : j = i := by omega
    subst this
    rw [hg] at hjr
    cases hjr
    exact vis_all m _ x hx
theorem bfs_end {l : List Nat} {tab : List (List Int)} (hG : GoodT l tab) : ∀ (f i : Nat) (m : List Int), Bs l tab i m → tab.length + 1 ≤ f + i → Bs l tab (bfsL tab f i m).length (bfsL tab f i m)
  | 0, i, m, h, hf => by
    have := h.ms.le
    have := h.le
    omega
  | f + 1, i, m, h, hf => by
    unfold bfsL
    split
    · rename_i hi
      exact bfs_end hG f (i + 1) _ (h.step hG hi) (by omega)
    · rename_i hi
      have e : i = m.length := by have := h.le; omega
      rw [e] at h
      exact h
theorem bs0 {l : List Nat} {tab : List (List Int)} (hG : GoodT l tab) : Bs l tab 0 [0] := ⟨⟨by simp, fun x hx => by rw [List.mem_singleton.mp hx]; have := hG.lo; omega, rfl⟩, Nat.zero_le _, fun j r hj => absurd hj (Nat.not_lt_zero j)⟩
theorem met_bs {l : List Nat} {tab : List (List Int)} (hG : GoodT l tab) : Bs l tab (metT tab).length (metT tab) := bfs_end hG 9 0 [0] (bs0 hG) (by have := hG.hi; omega)
theorem met_cl {l : List Nat} {tab : List (List Int)} (hG : GoodT l tab) {r : Int} (hr : r ∈ metT tab) : ∀ x ∈ rowT tab r, x ∈ metT tab := by
  obtain ⟨j, hj⟩ := List.mem_iff_getElem?.mp hr
  exact (met_bs hG).cl j r (List.getElem?_eq_some_iff.mp hj).1 hj
def numT (ms : List Int) (x : Int) : Int := ((ms.idxOf x : Nat) : Int)
def reT (tab : List (List Int)) : List (List Int) := (metT tab).map fun r => (rowT tab r).map (numT (metT tab))
theorem numT_ok {ms : List Int} {x : Int} (h : x ∈ ms) : 0 ≤ numT ms x ∧ numT ms x < (ms.length : Int) := by
  have := List.idxOf_lt_length_of_mem h
  unfold numT
  omega
theorem numT_get {ms : List Int} {x : Int} (h : x ∈ ms) : ms[(numT ms x).toNat]? = some x := by
  have := List.idxOf_lt_length_of_mem h
  unfold numT
  rw [Int.toNat_natCast, List.getElem?_eq_getElem this, List.getElem_idxOf]
theorem re_row {tab : List (List Int)} {x : Int} (h : x ∈ metT tab) : rowT (reT tab) (numT (metT tab) x) = (rowT tab x).map (numT (metT tab)) := by
  show (reT tab).getD _ [] = _
  unfold reT
  rw [List.getD_eq_getElem?_getD, List.getElem?_map, numT_get h]
  rfl
theorem re_len (tab : List (List Int)) : (reT tab).length = (metT tab).length := by
  unfold reT
  rw [List.length_map]
theorem re_good {l : List Nat} {tab : List (List Int)} (hG : GoodT l tab) : GoodT l (reT tab) := by
  have hB := met_bs hG
  have h1 := hB.ms.le
  have h2 := hB.ms.pos
  have h3 := hG.hi
  have key : ∀ x ∈ reT tab, ∃ r ∈ metT tab, (rowT tab r).map (numT (metT tab)) = x := fun x hx => by
    unfold reT at hx
    obtain ⟨r, hr, e⟩ := List.mem_map.mp hx
    exact ⟨r, hr, e⟩
  refine ⟨by rw [re_len]; omega, by rw [re_len]; omega, fun x hx => ?_, fun x hx n hn => ?_⟩
  · obtain ⟨r, hr, rfl⟩ := key x hx
    obtain ⟨b1, b2⟩ := hB.ms.bd r hr
    rw [List.length_map]
    exact (rowT_ok hG b1 b2).2.1
  · obtain ⟨r, hr, rfl⟩ := key x hx
    obtain ⟨y, hy, rfl⟩ := List.mem_map.mp hn
    rw [re_len]
    exact numT_ok (met_cl hG hr y hy)
theorem stepT_row {l : List Nat} {tab : List (List Int)} {r : Int} {c : Nat} : stepT l tab r c = (rowT tab r).getD (l.idxOf c) 0 := rfl
theorem led_re {l : List Nat} {tab : List (List Int)} (hG : GoodT l tab) : ∀ {w : List Nat} {r : Int}, r ∈ metT tab → (∀ c ∈ w, c ∈ l) → ledT l (reT tab) (numT (metT tab) r) w = numT (metT tab) (ledT l tab r w) ∧ ledT l tab r w ∈ metT tab
  | [], r, hr, _ => ⟨rfl, hr⟩
  | c :: w, r, hr, hw => by
    have hc := hw c (by simp)
    obtain ⟨b1, b2⟩ := (met_bs hG).ms.bd r hr
    obtain ⟨_, hl, _⟩ := rowT_ok hG b1 b2
    have hi := List.idxOf_lt_length_of_mem hc
    have hx : (rowT tab r)[l.idxOf c]? = some ((rowT tab r)[l.idxOf c]'(by omega)) := List.getElem?_eq_getElem (by omega)
    generalize (rowT tab r)[l.idxOf c]'(by omega) = x at hx
    have hxm := met_cl hG hr x (List.mem_of_getElem? hx)
    have e1 : stepT l tab r c = x := by rw [stepT_row, List.getD_eq_getElem?_getD, hx]; rfl
    have e2 : stepT l (reT tab) (numT (metT tab) r) c = numT (metT tab) x := by rw [stepT_row, re_row hr, List.getD_eq_getElem?_getD, List.getElem?_map, hx]; rfl
    have := led_re hG (w := w) hxm fun y hy => hw y (by simp [hy])
    show ledT l (reT tab) (stepT l (reT tab) (numT (metT tab) r) c) w = numT (metT tab) (ledT l tab (stepT l tab r c) w) ∧ ledT l tab (stepT l tab r c) w ∈ metT tab
    rw [e1, e2]
    exact this
def sp_rooms_met (K : PySem.W.Frag) : Sp := fun vs H Q _ => ∃ (t : Addr) (rs : List Addr) (tab : List (List Int)) (l : List Nat), vs = [.ref t] ∧ TabAt H t rs tab ∧ GoodT l tab ∧ ∀ (D : Addr) (H' : Hp), Same H H' → H D = none → H' D = some (.lst ((metT tab).map V.int)) → Q (.ref D) H'
theorem any_int (m : List Int) (x : Int) : ((m.map L3.D.int).any fun e => eqD e (.int x)) = decide (x ∈ m) := by
  induction m with
  | nil => rfl
  | cons y m ih =>
    rw [List.map_cons, List.any_cons, ih]
    have : eqD (.int y) (.int x) = decide (y = x) := by simp only [eqD]; rfl
    rw [this]
    by_cases h : y = x
    · simp [h]
    · have h' : ¬ x = y := fun e => h e.symm
      simp [h, h']
theorem is_intsL {H : Hp} {a : Addr} {ns : List Int} (h : H a = some (.lst (ns.map V.int))) : Is K H (.lst (ns.map L3.D.int)) (.ref a) := by
  simp only [Is]
  exact ⟨a, _, rfl, SqL.of h, Iss.ints ns⟩
theorem sc_rooms_met : FnScope ["table", "met", "at", "row", "room"] ["table"] (defScope s_rooms_met) := ⟨rfl, rfl, rfl, by decide +kernel, rfl, by decide +kernel, by decide +kernel⟩
theorem ok_rooms_met {f : Addr} {fd : FuncData} (B : Bt mg)  (F : Fun K "rooms_met" "rooms_met" s_rooms_met f fd)  : FnOk P w K mg base CX0 1 f fd ["table"] (sp_rooms_met K) := by
  refine F.ok sc_rooms_met (fun vs H Q E h => ?_) (fun cdv A outer s H vs Q E hr h => ?_)
  · obtain ⟨t, rs, tab, l, rfl, _⟩ := h
    rfl
  · obtain ⟨t, rs, tab, l, rfl, hT, hG, q⟩ := h
    refine ⟨_, (pss_cut (ps_set (i := 1) sc_rooms_met.nd rfl (Or.inl rfl) (pe_lst (pa_cons pe_int pa_nil)))
      (pss_cut (ps_set (i := 2) sc_rooms_met.nd rfl (Or.inl rfl) pe_int)
      (pss_cut (ps_while PassesOwn.never (pt_cmpR op_ltA (pv 2) (pe_callB c_len rfl B.len PySem.boot_len (pa_cons (pv 1) pa_nil)) (nomark _))
        (pss_cons (ps_set (i := 3) sc_rooms_met.nd rfl (Or.inl rfl) (pe_ix ix_list (pv 0) (pe_ix ix_list (pv 1) (pv 2) (fun _ _ => rfl)) (fun _ _ => rfl)))
        (pss_cons (ps_for PassesOwn.never rfl (pi_list (pv 3)) (pg_name (i := 4) sc_rooms_met.nd rfl (Or.inl rfl))
          (pss_one (ps_if (pt_cmpR (op_ninD (room100 hr)) (pv 4) (pv 1) (by with_unfolding_all rfl))
            (pss_one (ps_expr (pe_bm PySem.F.plainAttrs_list PySem.F.slot_list_append PySem.F.type_list_append mt_append (pv 1) (pa_cons (pv 4) pa_nil))))
            pss_nil)))
        (pss_one (ps_set (i := 2) sc_rooms_met.nd rfl (Or.inl rfl) (pe_op op_addA (pv 2) pe_int))))))
      (pss_one (ps_ret (pv 1)))))), ?_⟩
    have s16 := sl16
    have h8 := hG.hi
    refine cut_by (fun σ H' => ∃ D, Same H H' ∧ H D = none ∧ H' D = some (.lst [.int 0]) ∧ σ = [some (.ref t), some (.ref D), none, none, none]) ?_ ?_
    · rfl'
      exact ⟨by omega, fun p hp => ⟨same_upd hp, p, hp, upd_same, rfl⟩⟩
    rintro σ H1 ⟨D, s1, hD, hD1, rfl⟩
    refine cut_by (fun σ H' => H' = H1 ∧ σ = [some (.ref t), some (.ref D), some (.int 0), none, none]) ?_ ?_
    · rfl'
    rintro σ H2 ⟨rfl, rfl⟩
    refine cut_by (fun σ H' => Same H H' ∧ H' D = some (.lst ((metT tab).map V.int)) ∧ ∃ v2 v3 v4, σ = [some (.ref t), some (.ref D), v2, v3, v4]) ?_ ?_
    · unfold tWhile
      refine ⟨fun k σ H' => ∃ (i : Nat) (m : List Int), k = 9 - i ∧ Bs l tab i m ∧ bfsL tab (9 - i) i m = metT tab ∧ Same H H' ∧ H' D = some (.lst (m.map V.int)) ∧ ∃ v3 v4, σ = [some (.ref t), some (.ref D), some (.int (i : Nat)), v3, v4], ⟨9, 0, [0], rfl, bs0 hG, rfl, s1, hD1, none, none, rfl⟩, ?_⟩
      rintro k σ H' ⟨i, m, rfl, hB, hE, hs, hM, v3, v4, rfl⟩
      have hml := hB.ms.le
      have hil := hB.le
      have hT' := hT.same hs
      rfl'
      refine ⟨_, .inl ⟨_, SqL.of hM, rfl⟩, ite2 (fun hi => ?_) fun hi => ?_⟩
      · rw [List.length_map] at hi
        have hi' : i < m.length := by omega
        have e9 : 9 - i = 9 - (i + 1) + 1 := by omega
        have hg : m[i]? = some m[i] := List.getElem?_eq_getElem hi'
        have eg : m.getD i 0 = m[i] := by rw [List.getD_eq_getElem?_getD, hg]; rfl
        generalize m[i] = r at *
        obtain ⟨b1, b2⟩ := hB.ms.bd _ (List.mem_of_getElem? hg)
        have hst := hB.step hG hi'
        rw [e9] at hE
        unfold bfsL at hE
        rw [if_pos hi'] at hE
        rw [eg] at hst hE
        obtain ⟨hrt, hrl, hrb⟩ := rowT_ok hG b1 b2
        obtain ⟨ra, x, e1, e2, e3⟩ := hT.get b1 b2
        rw [hrt] at e2
        cases e2
        refine ⟨fun σ H' => ∃ m : List Int, Bs l tab (i + 1) m ∧ bfsL tab (9 - (i + 1)) (i + 1) m = metT tab ∧ Same H H' ∧ H' D = some (.lst (m.map V.int)) ∧ ∃ v3 v4, σ = [some (.ref t), some (.ref D), some (.int ((i + 1 : Nat) : Int)), v3, v4], fun σ' H' ⟨m', h1, h2, h3, h4, h5⟩ => ⟨9 - (i + 1), by omega, i + 1, rfl, m', h1, h2, h3, h4, h5⟩, ?_⟩
        have em : atI (m.map V.int) (i : Int) = some (.int r) := atI_nat (by rw [List.getElem?_map, hg]; rfl)
        refine ⟨_, SqL.of hM, _, em, _, _, rfl, SqL.of hT'.top, _, e1, _, rfl, ⟨_, SqL.of (hs _ _ e3)⟩, ?_⟩
        refine ForL.by (xs := (rowT tab r).map V.int) (fun j σ H'' => Same H H'' ∧ H'' D = some (.lst ((visL m ((rowT tab r).take j)).map V.int)) ∧ Ms tab.length (visL m ((rowT tab r).take j)) ∧ ∃ v4, σ = [some (.ref t), some (.ref D), some (.int (i : Nat)), some (.ref ra), v4]) ⟨hs, hM, hB.ms, _, rfl⟩ (fun j σ H'' _ h => SqL.of (h.1 _ _ e3)) ?_ ?_
        · rintro j y σ H'' hy ⟨hs2, hM2, hms, v4, rfl⟩
          rw [List.getElem?_map] at hy
          obtain ⟨x, hx, rfl⟩ := Option.map_eq_some_iff.mp hy
          have hml2 := hms.le
          have hxb := hrb x (List.mem_of_getElem? hx)
          have ev : visL m ((rowT tab r).take (j + 1)) = if x ∈ visL m ((rowT tab r).take j) then visL m ((rowT tab r).take j) else visL m ((rowT tab r).take j) ++ [x] := by rw [take_one hx, vis_app]
          have hms' := hms.add hxb
          rw [← ev] at hms'
          generalize visL m ((rowT tab r).take j) = mj at *
          rfl'
          refine use_ninD (l := mj.map L3.D.int) (d := .int x) (is_intsL hM2) (by simp only [Is]) (by rw [dp_ints]; decide) ?_
          rw [any_int]
          refine ⟨_, rfl, ?_⟩
          by_cases hxm : x ∈ mj
          · rw [if_pos hxm] at ev
            rw [if_neg (by simp [hxm]), ev]
            exact ⟨hs2, hM2, hms⟩
          · rw [if_neg hxm] at ev
            rw [if_pos (by simp [hxm])]
            refine ⟨.inl ⟨_, SqL.of hM2⟩, _, hM2, by rw [List.length_map]; omega, same_over hs2 hD, ?_, hms'⟩
            rw [upd_same, ev, List.map_append]
            rfl
        · rintro σ H'' ⟨hs2, hM2, hms, v4, rfl⟩
          rw [List.length_map, List.take_length] at hM2
          rfl'
          exact ⟨_, hst, hE, hs2, hM2, by omega⟩
      · rw [List.length_map] at hi
        have e9 : 9 - i = 9 - (i + 1) + 1 := by omega
        rw [e9] at hE
        unfold bfsL at hE
        rw [if_neg (by omega)] at hE
        exact ⟨hs, by rw [← hE]; exact hM⟩
    rintro σ H3 ⟨s3, hD3, v2, v3, v4, rfl⟩
    rfl'
    exact q D H3 s3 hD hD3
def sp_numb (K : PySem.W.Frag) : Sp := fun vs H Q _ => ∃ (r d : Addr) (x ms : List Int), vs = [.ref r, .ref d] ∧ H r = some (.lst (x.map V.int)) ∧ H d = some (.lst (ms.map V.int)) ∧ x.length ≤ 1000 ∧ (∀ z ∈ x, z ∈ ms) ∧ ∀ (D : Addr) (H' : Hp), Same H H' → H D = none → H' D = some (.lst ((x.map (numT ms)).map V.int)) → Q (.ref D) H'
theorem sc_numbered_anew : FnScope ["row", "met"] ["row", "met"] (defScope s_numbered_anew) := ⟨rfl, rfl, rfl, by decide +kernel, rfl, by decide +kernel, by decide +kernel⟩
theorem ok_numbered_anew {f : Addr} {fd : FuncData} (B : Bt mg)  (F : Fun K "numbered_anew" "numbered_anew" s_numbered_anew f fd)  : FnOk P w K mg base CX0 1 f fd ["row", "met"] (sp_numb K) := by
  refine F.ok sc_numbered_anew (fun vs H Q E h => ?_) (fun cdv A outer s H vs Q E hr h => ?_)
  · obtain ⟨r, d, x, ms, rfl, _⟩ := h
    rfl
  · obtain ⟨r, d, x, ms, rfl, hr', hd, hl, hm, q⟩ := h
    refine ⟨_, (pss_one (ps_ret (pe_comp (own := ["room"]) (caps := ["met"]) (ix := [1]) (tt := tYes) (te := (tBM K "list" (rLIdx K) (tVar 1) (tCons (tVar 0) tNil))) rfl (compOk_of (sc := defScope s_numbered_anew) rfl (by decide +kernel) (by decide +kernel) (by decide +kernel) rfl (by decide +kernel) (by decide +kernel) rfl) (pi_list (pv 0)) (fun _ _ _ _ _ _ => pg_name (i := 0) (show List.Nodup [_, _] by decide) rfl (Or.inl rfl)) (fun _ _ _ _ _ _ => pts_nil) (fun _ _ _ _ _ _ => (pe_bm PySem.F.plainAttrs_list PySem.F.slot_list_index PySem.F.type_list_index m_lindex (pv 1) (pa_cons (pv 0) pa_nil)))))), ?_⟩
    have s16 := sl16
    rfl'
    refine ⟨⟨_, SqL.of hr'⟩, fun D hD => CompL.by (xs := x.map V.int) (fun i acc H' => Same H H' ∧ H' D = some (.lst acc) ∧ acc = ((x.take i).map (numT ms)).map V.int) ⟨same_upd hD, upd_same, rfl⟩ (fun i acc H' _ h => SqL.of (h.1 _ _ hr')) ?_ ?_⟩
    · rintro i v acc H' hv ⟨hs, hH, rfl⟩
      rw [List.getElem?_map] at hv
      obtain ⟨z, hz, rfl⟩ := Option.map_eq_some_iff.mp hv
      have hil := (List.getElem?_eq_some_iff.mp hz).1
      simp only [tYes]
      rfl'
      simp only [rLIdx]
      rfl'
      refine ⟨keeps0, .inl ⟨_, SqL.of (hs _ _ hd)⟩, ms, SqL.of (hs _ _ hd), hm z (List.mem_of_getElem? hz), hH, by rw [List.length_map, List.length_map, List.length_take]; omega, CNx.mk (by rw [List.length_map]; exact hil) ⟨same_over hs hD, upd_same, ?_⟩⟩
      rw [take_one hz, List.map_append, List.map_append]
      rfl
    · rintro acc H' ⟨hs, hH, rfl⟩
      rw [List.length_map, List.take_length] at hH
      exact q D H' hs hD hH
def partT (l : List Nat) (tab : List (List Int)) (u v : List Nat) : Option Nat := (List.range tab.length).find? fun r => decide (ledT l tab (r : Int) u ≠ ledT l tab (r : Int) v)
def vO : Option Nat → V
  | none => .non
  | some r => .int (r : Nat)
theorem part_some {l : List Nat} {tab : List (List Int)} {u v : List Nat} {r : Nat} (h1 : r < tab.length) (h2 : ledT l tab (r : Int) u ≠ ledT l tab (r : Int) v) (h3 : ∀ j : Nat, j < r → ledT l tab (j : Int) u = ledT l tab (j : Int) v) : partT l tab u v = some r := by
  unfold partT
  rw [List.find?_eq_some_iff_getElem]
  refine ⟨by simpa using h2, r, by simpa using h1, by simp, fun j hj => ?_⟩
  simpa using h3 j hj
theorem part_none {l : List Nat} {tab : List (List Int)} {u v : List Nat} (h : ∀ j : Nat, j < tab.length → ledT l tab (j : Int) u = ledT l tab (j : Int) v) : partT l tab u v = none := by
  unfold partT
  rw [List.find?_eq_none]
  intro j hj
  simpa using h j (by simpa using hj)
def sp_wparted (CH : Addr) : Sp := fun vs H Q _ => ∃ (o t : Addr) (l : List Nat) (rs : List Addr) (tab : List (List Int)) (u v : List Nat), vs = [.ref o, .str (tx u), .str (tx v)] ∧ WorAt CH H o l t rs tab ∧ GoodT l tab ∧ (∀ c ∈ u, c ∈ l) ∧ (∀ c ∈ v, c ∈ l) ∧ Q (vO (partT l tab u v)) H
theorem use_wparted {CH o t : Addr} {l : List Nat} {rs : List Addr} {tab : List (List Int)} {u v : List Nat} {H : Hp} {Q : VK} {E : XK} (h : WorAt CH H o l t rs tab) (hG : GoodT l tab) (hu : ∀ c ∈ u, c ∈ l) (hv : ∀ c ∈ v, c ∈ l) (q : Q (vO (partT l tab u v)) H) : sp_wparted CH [.ref o, .str (tx u), .str (tx v)] H Q E := ⟨o, t, l, rs, tab, u, v, rfl, h, hG, hu, hv, q⟩
theorem sc_world_parted : FnScope ["self", "one", "other", "room"] ["self", "one", "other"] (defScope s_world_parted) := ⟨rfl, rfl, rfl, by decide +kernel, rfl, by decide +kernel, by decide +kernel⟩
theorem ok_world_parted {f CH : Addr} {fd : FuncData} (B : Bt mg) (CL : TWor K mg CH) (F : Fun K "parted" "World.parted" s_world_parted f fd) (M_world_rooms : DM P w K mg base CX0 1 CH "rooms" ["self"] (sp_rooms CH)) (M_world_led : DM P w K mg base CX0 1 CH "led" ["self", "room", "word"] (sp_wled CH)) : FnOk P w K mg base CX0 2 f fd ["self", "one", "other"] (sp_wparted CH) := by
  refine F.ok sc_world_parted (fun vs H Q E h => ?_) (fun cdv A outer s H vs Q E hr h => ?_)
  · obtain ⟨o, t, l, rs, tab, u, v, rfl, _⟩ := h
    rfl
  · obtain ⟨o, t, l, rs, tab, u, v, rfl, hW, hG, hu, hv, q⟩ := h
    refine ⟨_, (pss_cons (ps_for PassesOwn.never rfl (pi_range1 rfl B.range (pa_cons (me0 M_world_rooms CL.cl hr (pv 0)) pa_nil)) (pg_name (i := 3) sc_world_parted.nd rfl (Or.inl rfl))
        (pss_one (ps_if (pt_cmpR op_ne (me1 M_world_led CL.cl hr (pv 0) (pa_cons (pv 3) (pa_cons (pv 1) pa_nil))) (me1 M_world_led CL.cl hr (pv 0) (pa_cons (pv 3) (pa_cons (pv 2) pa_nil))) (nomark _))
          (pss_one (ps_ret (pv 3)))
          pss_nil)))
      (pss_one (ps_ret pe_non))), ?_⟩
    have s16 := sl16
    rfl'
    obtain ⟨dx, ho, hT⟩ := id hW
    have hhi := hG.hi
    refine ⟨_, _, ho, rfl, use_rooms hW ?_⟩
    refine ⟨_, rfl, by omega, by omega, ForR.by (fun i σ H' => H' = H ∧ (∀ j : Nat, j < i → ledT l tab (j : Int) u = ledT l tab (j : Int) v) ∧ ∃ v3, σ = [some (.ref o), some (.str (tx u)), some (.str (tx v)), v3]) ⟨rfl, fun j h => absurd h (Nat.not_lt_zero j), none, rfl⟩ ?_ ?_⟩
    · rintro i σ H' hi ⟨rfl, hb, v3, rfl⟩
      have hi' : i < tab.length := by omega
      have e0 : (0 : Int) + (i : Int) = (i : Int) := by omega
      repeat (first | rfl' | simp only [tAlt, tMethF, rd_cz, tRev, rSum, rIndex])
      refine ⟨_, _, ho, rfl, use_wled hW hG (by omega) (by omega) hu ⟨_, _, ho, rfl, use_wled hW hG (by omega) (by omega) hv ?_⟩⟩
      rw [e0]
      repeat (first | rfl' | simp only [tAlt, tMethF, rd_cz, tRev, rSum, rIndex])
      refine ite2 (fun h => ?_) fun h j hj => ?_
      · rw [part_some hi' h hb] at q
        exact q
      · by_cases hj' : j < i
        · exact hb j hj'
        · have : j = i := by omega
          rw [this]
          exact Decidable.not_not.mp h
    · rintro σ H' ⟨rfl, hb, v3, rfl⟩
      repeat (first | rfl' | simp only [tAlt, tMethF, rd_cz, tRev, rSum, rIndex])
      rw [part_none fun j hj => hb j (by omega)] at q
      exact q
def brokeT (l : List Nat) (tab : List (List Int)) : List Rule → Nat → Option (Nat × Nat)
  | [], _ => none
  | p :: ps, i => match partT l tab p.1 p.2 with
    | some r => some (i, r)
    | none => brokeT l tab ps (i + 1)
theorem broke_step {l : List Nat} {tab : List (List Int)} : ∀ {ps : List Rule} {i k : Nat} {p : Rule}, ps[i]? = some p → (∀ (j : Nat) (q : Rule), j < i → ps[j]? = some q → partT l tab q.1 q.2 = none) → ∀ r, partT l tab p.1 p.2 = some r → brokeT l tab ps k = some (k + i, r)
  | q :: ps, 0, k, p, h, _, r, hr => by
    cases h
    simp only [brokeT, hr, Nat.add_zero]
  | q :: ps, i + 1, k, p, h, hb, r, hr => by
    have h0 := hb 0 q (by omega) rfl
    simp only [brokeT, h0]
    rw [broke_step (ps := ps) (i := i) (k := k + 1) h (fun j q' hj e => hb (j + 1) q' (by omega) e) r hr]
    congr 2
    omega
theorem broke_none {l : List Nat} {tab : List (List Int)} : ∀ {ps : List Rule} {k : Nat}, (∀ (j : Nat) (q : Rule), ps[j]? = some q → partT l tab q.1 q.2 = none) → brokeT l tab ps k = none
  | [], _, _ => rfl
  | q :: ps, k, hb => by
    simp only [brokeT, hb 0 q rfl]
    exact broke_none fun j q' e => hb (j + 1) q' e
def sp_wbroken (K : PySem.W.Frag) (CH : Addr) : Sp := fun vs H Q _ => ∃ (o t a : Addr) (l : List Nat) (rs : List Addr) (tab : List (List Int)) (ps : List Rule), vs = [.ref o, .ref a] ∧ LsA K H a (ps.map dR) ∧ WorAt CH H o l t rs tab ∧ GoodT l tab ∧ (∀ p ∈ ps, (∀ c ∈ p.1, c ∈ l) ∧ ∀ c ∈ p.2, c ∈ l) ∧
  (brokeT l tab ps 0 = none → ∀ H', Same H H' → Q .non H') ∧ ∀ i r, brokeT l tab ps 0 = some (i, r) → ∀ p H', Same H H' → H' p = some (.tup [.int (i : Nat), .int (r : Nat)]) → Q (.ref p) H'
theorem sc_world_broken : FnScope ["self", "pacts", "number", "pact", "room"] ["self", "pacts"] (defScope s_world_broken) := ⟨rfl, rfl, rfl, by decide +kernel, rfl, by decide +kernel, by decide +kernel⟩
theorem ok_world_broken {f CH : Addr} {fd : FuncData} (B : Bt mg) (CL : TWor K mg CH) (F : Fun K "broken" "World.broken" s_world_broken f fd) (M_world_parted : DM P w K mg base CX0 2 CH "parted" ["self", "one", "other"] (sp_wparted CH)) : FnOk P w K mg base CX0 3 f fd ["self", "pacts"] (sp_wbroken K CH) := by
  refine F.ok sc_world_broken (fun vs H Q E h => ?_) (fun cdv A outer s H vs Q E hr h => ?_)
  · obtain ⟨o, t, a, l, rs, tab, ps, rfl, _⟩ := h
    rfl
  · obtain ⟨o, t, a, l, rs, tab, ps, rfl, hA, hW, hG, hp, q1, q2⟩ := h
    refine ⟨_, (pss_cons (ps_for PassesOwn.never rfl (pi_enumL rfl B.enum (pa_cons (pv 1) pa_nil)) (pg_tup (n := 2) rfl (pgs_cons (pg_name (i := 2) sc_world_broken.nd rfl (Or.inl rfl)) (pgs_cons (pg_name (i := 3) sc_world_broken.nd rfl (Or.inl rfl)) pgs_nil)))
        (pss_cons (ps_set (i := 4) sc_world_broken.nd rfl (Or.inl rfl) (me1 M_world_parted CL.cl hr (pv 0) (pa_cons (pe_ix ix_tup (pv 3) pe_int (fun _ _ => rfl)) (pa_cons (pe_ix ix_tup (pv 3) pe_int (fun _ _ => rfl)) pa_nil))))
        (pss_one (ps_if (pt_cmpR op_notN' (pv 4) pe_non (nomark _))
          (pss_one (ps_ret (pe_tup (pa_cons (pv 2) (pa_cons (pv 4) pa_nil)))))
          pss_nil))))
      (pss_one (ps_ret pe_non))), ?_⟩
    have s16 := sl16
    rfl'
    obtain ⟨xs, hX, hI⟩ := id hA
    have hXL := hI.len
    rw [List.length_map] at hXL
    refine ⟨⟨_, SqL.of hX⟩, ForEL.by (xs := xs) (fun i σ H' => Same H H' ∧ (∀ (j : Nat) (p : Rule), j < i → ps[j]? = some p → partT l tab p.1 p.2 = none) ∧ ∃ v2 v3 v4, σ = [some (.ref o), some (.ref a), v2, v3, v4]) ⟨Same.refl _, fun j p h => absurd h (Nat.not_lt_zero j), _, _, _, rfl⟩ ?_ ?_ ?_⟩
    · rintro i σ H' _ ⟨hs, _⟩
      exact SqL.of (hs _ _ hX)
    · rintro i x σ H' p hx ⟨hs, hb, v2, v3, v4, rfl⟩ hpn
      obtain ⟨r, pr, hri, rfl, hqr⟩ := hI.getR hx
      have hm := hp r (List.mem_of_getElem? hri)
      have s2 := hs.trans (same_upd (o := .tup [.int (i : Nat), .ref pr]) hpn)
      have hW2 := hW.same s2
      obtain ⟨dx, ho, _⟩ := id hW2
      have hq2 := seqT_same s2 hqr
      repeat (first | rfl' | simp only [tAlt, tMethF, rd_cz, tRev, rSum, rIndex])
      refine ⟨_, SqT.of upd_same, rfl, _, _, rfl, _, _, rfl, rfl, _, _, ho, rfl, _, rfl, _, hq2, _, rfl, _, rfl, _, hq2, _, rfl, use_wparted hW2 hG hm.1 hm.2 ?_⟩
      cases e : partT l tab r.1 r.2 with
      | none =>
        simp only [vO]
        repeat (first | rfl' | simp only [tAlt, tMethF, rd_cz, tRev, rSum, rIndex])
        refine ⟨s2, fun j p' hj hp' => ?_⟩
        by_cases hj' : j < i
        · exact hb j p' hj' hp'
        · have : j = i := by omega
          rw [this, hri] at hp'
          cases hp'
          exact e
      | some z =>
        simp only [vO]
        repeat (first | rfl' | simp only [tAlt, tMethF, rd_cz, tRev, rSum, rIndex])
        have hbr := broke_step (k := 0) hri hb z e
        rw [Nat.zero_add] at hbr
        exact ⟨by omega, fun p3 hp3 => q2 i z hbr p3 _ (s2.trans (same_upd hp3)) upd_same⟩
    · rintro σ H' ⟨hs, hb, v2, v3, v4, rfl⟩
      repeat (first | rfl' | simp only [tAlt, tMethF, rd_cz, tRev, rSum, rIndex])
      exact q1 (broke_none fun j p' e => hb j p' (by have := (List.getElem?_eq_some_iff.mp e).1; omega) e) H' hs
theorem mkCx {X : Cx} {E : XK} {k j : Nat} {C : Addr} {ps : List Str} {sp : Sp} {e : Expr} {es : List Expr} {t : TA} {pos p : Pos} {x : Str} (hx : XE X E) (D : DMk X.prog X.w X.K X.mg X.base (CXx X.prog X.w) k C ps sp) (hr : Room j X.A) (hg : Gl X x) (hm : X.mg x = some (.ref C)) (ha : PA X (e :: es) t) (hdb : (x == ("__debug__" : Str)) = false := by decide) (he : starEach (e :: es) X.env = (false, eval e X.env) :: starEach es X.env := by rfl)
    (hpl : (backTo pos (starEach es X.env)).any (·.1) = false := by rfl) (hj : k + 1 ≤ j := by decide) : PE X (.Call (.Name x p) (e :: es) [] pos) (tMake C sp [] E t) := by
  obtain ⟨f, fd, M, F, hb⟩ := D.ex
  exact pe_make M F (hr.mono hj) hg hm hb .nil (passes_x hx) ha hdb he hpl
def zipT (m : Int) (x y : List Int) : List Int := List.zipWith (fun a b => a * m + b) x y
def crossT (s t : List (List Int)) : List (List Int) := s.flatMap fun x => t.map fun y => zipT (t.length : Int) x y
theorem cross_take {s t : List (List Int)} {i : Nat} {x : List Int} (h : s[i]? = some x) : crossT (s.take (i + 1)) t = crossT (s.take i) t ++ t.map fun y => zipT (t.length : Int) x y := by
  unfold crossT
  rw [List.take_add_one, h, List.flatMap_append]
  simp
theorem cross_len : ∀ (s t : List (List Int)), (crossT s t).length = s.length * t.length
  | [], t => by simp [crossT]
  | x :: s, t => by
    have := cross_len s t
    unfold crossT at this ⊢
    rw [List.flatMap_cons, List.length_append, List.length_map, this, List.length_cons, Nat.succ_mul, Nat.add_comm]
theorem cross_at {t : List (List Int)} : ∀ {s : List (List Int)} {i j : Nat} {x y : List Int}, s[i]? = some x → t[j]? = some y → (crossT s t)[i * t.length + j]? = some (zipT (t.length : Int) x y)
  | x0 :: s, 0, j, x, y, hx, hy => by
    cases hx
    have hj := (List.getElem?_eq_some_iff.mp hy).1
    unfold crossT
    rw [List.flatMap_cons, Nat.zero_mul, Nat.zero_add, List.getElem?_append_left (by rw [List.length_map]; exact hj), List.getElem?_map, hy]
    rfl
  | x0 :: s, i + 1, j, x, y, hx, hy => by
    have ih := cross_at (t := t) (s := s) (i := i) hx hy
    unfold crossT at ih ⊢
    rw [List.flatMap_cons, List.getElem?_append_right (by rw [List.length_map, Nat.succ_mul]; omega), List.length_map, show (i + 1) * t.length + j - t.length = i * t.length + j by rw [Nat.succ_mul]; omega]
    exact ih
theorem cross_good {l : List Nat} {s t : List (List Int)} (hs : GoodT l s) (ht : GoodT l t) (h8 : s.length * t.length ≤ 8) : GoodT l (crossT s t) := by
  have hs1 := hs.lo
  have ht1 := ht.lo
  have hm : ∀ z ∈ crossT s t, ∃ x ∈ s, ∃ y ∈ t, z = zipT (t.length : Int) x y := fun z hz => by
    unfold crossT at hz
    obtain ⟨x, hx, hz⟩ := List.mem_flatMap.mp hz
    obtain ⟨y, hy, rfl⟩ := List.mem_map.mp hz
    exact ⟨x, hx, y, hy, rfl⟩
  refine ⟨by rw [cross_len]; exact Nat.mul_pos hs1 ht1, by rw [cross_len]; exact h8, fun z hz => ?_, fun z hz n hn => ?_⟩
  · obtain ⟨x, hx, y, hy, rfl⟩ := hm z hz
    have e1 := hs.wd x hx
    have e2 := ht.wd y hy
    unfold zipT
    rw [List.length_zipWith, e1, e2, Nat.min_self]
  · obtain ⟨x, hx, y, hy, rfl⟩ := hm z hz
    obtain ⟨k, hk⟩ := List.mem_iff_getElem?.mp hn
    unfold zipT at hk
    rw [List.getElem?_zipWith] at hk
    cases e1 : x[k]? with
    | none => rw [e1] at hk; simp at hk
    | some a =>
      cases e2 : y[k]? with
      | none => rw [e1, e2] at hk; simp at hk
      | some b =>
        rw [e1, e2] at hk
        have hk' : a * (t.length : Int) + b = n := by simpa using hk
        obtain ⟨a0, a1⟩ := hs.rm x hx a (List.mem_of_getElem? e1)
        obtain ⟨b0, b1⟩ := ht.rm y hy b (List.mem_of_getElem? e2)
        rw [cross_len, ← hk']
        have h1 : 0 ≤ a * (t.length : Int) := Int.mul_nonneg a0 (by omega)
        have h2 : (a + 1) * (t.length : Int) ≤ (s.length : Int) * (t.length : Int) := Int.mul_le_mul_of_nonneg_right (by omega) (by omega)
        rw [Int.add_mul, Int.one_mul] at h2
        have e3 : ((s.length * t.length : Nat) : Int) = (s.length : Int) * (t.length : Int) := by rw [Int.natCast_mul]
        rw [e3]
        exact ⟨by omega, by omega⟩
theorem room_cross {n m : Nat} {i j : Int} (i0 : 0 ≤ i) (i1 : i < (n : Int)) (j0 : 0 ≤ j) (j1 : j < (m : Int)) : 0 ≤ i * (m : Int) + j ∧ i * (m : Int) + j < ((n * m : Nat) : Int) := by
  have h1 : 0 ≤ i * (m : Int) := Int.mul_nonneg i0 (by omega)
  have h2 : (i + 1) * (m : Int) ≤ (n : Int) * (m : Int) := Int.mul_le_mul_of_nonneg_right (by omega) (by omega)
  rw [Int.add_mul, Int.one_mul] at h2
  rw [Int.natCast_mul]
  exact ⟨by omega, by omega⟩
theorem step_cross {l : List Nat} {s t : List (List Int)} (hs : GoodT l s) (ht : GoodT l t) {i j : Int} (i0 : 0 ≤ i) (i1 : i < (s.length : Int)) (j0 : 0 ≤ j) (j1 : j < (t.length : Int)) {c : Nat} (hc : c ∈ l) : stepT l (crossT s t) (i * (t.length : Int) + j) c = stepT l s i c * (t.length : Int) + stepT l t j c := by
  have hx : s[i.toNat]? = some (s[i.toNat]'(by omega)) := List.getElem?_eq_getElem (by omega)
  generalize s[i.toNat]'(by omega) = x at hx
  have hy : t[j.toNat]? = some (t[j.toNat]'(by omega)) := List.getElem?_eq_getElem (by omega)
  generalize t[j.toNat]'(by omega) = y at hy
  have hz := cross_at hx hy
  have hlx := hs.wd x (List.mem_of_getElem? hx)
  have hly := ht.wd y (List.mem_of_getElem? hy)
  have hi := List.idxOf_lt_length_of_mem hc
  have e1 : x[l.idxOf c]? = some (x[l.idxOf c]'(by omega)) := List.getElem?_eq_getElem (by omega)
  have e2 : y[l.idxOf c]? = some (y[l.idxOf c]'(by omega)) := List.getElem?_eq_getElem (by omega)
  generalize x[l.idxOf c]'(by omega) = a at e1
  generalize y[l.idxOf c]'(by omega) = b at e2
  have en : (i * (t.length : Int) + j).toNat = i.toNat * t.length + j.toNat := by
    obtain ⟨i', rfl⟩ := Int.eq_ofNat_of_zero_le i0
    obtain ⟨j', rfl⟩ := Int.eq_ofNat_of_zero_le j0
    rw [← Int.natCast_mul, ← Int.natCast_add, Int.toNat_natCast, Int.toNat_natCast, Int.toNat_natCast]
  unfold stepT
  rw [en, List.getD_eq_getElem?_getD (l := crossT s t), hz, Option.getD_some, List.getD_eq_getElem?_getD (l := s), hx, Option.getD_some, List.getD_eq_getElem?_getD (l := t), hy, Option.getD_some]
  rw [List.getD_eq_getElem?_getD, List.getD_eq_getElem?_getD, List.getD_eq_getElem?_getD, e1, e2]
  unfold zipT
  rw [List.getElem?_zipWith, e1, e2]
  rfl
theorem led_cross {l : List Nat} {s t : List (List Int)} (hs : GoodT l s) (ht : GoodT l t) : ∀ {w : List Nat} {i j : Int}, 0 ≤ i → i < (s.length : Int) → 0 ≤ j → j < (t.length : Int) → (∀ c ∈ w, c ∈ l) → ledT l (crossT s t) (i * (t.length : Int) + j) w = ledT l s i w * (t.length : Int) + ledT l t j w
  | [], i, j, _, _, _, _, _ => rfl
  | c :: w, i, j, i0, i1, j0, j1, hw => by
    have hc := hw c (by simp)
    obtain ⟨a0, a1⟩ := stepT_ok hs i0 i1 hc
    obtain ⟨b0, b1⟩ := stepT_ok ht j0 j1 hc
    have ih := led_cross hs ht (w := w) a0 a1 b0 b1 fun x hx => hw x (by simp [hx])
    unfold ledT at ih ⊢
    rw [List.foldl_cons, List.foldl_cons, List.foldl_cons, step_cross hs ht i0 i1 j0 j1 hc]
    exact ih
theorem part_iff {l : List Nat} {tab : List (List Int)} {u v : List Nat} : partT l tab u v = none ↔ ∀ j : Nat, j < tab.length → ledT l tab (j : Int) u = ledT l tab (j : Int) v := by
  unfold partT
  rw [List.find?_eq_none]
  constructor
  · intro h j hj
    have := h j (List.mem_range.mpr hj)
    simpa using this
  · intro h j hj
    simpa using h j (List.mem_range.mp hj)
theorem pair_inj {m : Nat} {a b c d : Int} (b0 : 0 ≤ b) (b1 : b < (m : Int)) (d0 : 0 ≤ d) (d1 : d < (m : Int)) (h : a * (m : Int) + b = c * (m : Int) + d) : a = c ∧ b = d := by
  have hm : (m : Int) ≠ 0 := by omega
  have e1 : (a * (m : Int) + b) / (m : Int) = a := by rw [Int.add_comm, Int.add_mul_ediv_right _ _ hm, Int.ediv_eq_zero_of_lt b0 b1, Int.zero_add]
  have e2 : (c * (m : Int) + d) / (m : Int) = c := by rw [Int.add_comm, Int.add_mul_ediv_right _ _ hm, Int.ediv_eq_zero_of_lt d0 d1, Int.zero_add]
  have e : a = c := by rw [← e1, ← e2, h]
  subst e
  exact ⟨rfl, by omega⟩
theorem part_cross {l : List Nat} {s t : List (List Int)} (hs : GoodT l s) (ht : GoodT l t) {u v : List Nat} (hu : ∀ c ∈ u, c ∈ l) (hv : ∀ c ∈ v, c ∈ l) : partT l (crossT s t) u v = none ↔ partT l s u v = none ∧ partT l t u v = none := by
  rw [part_iff, part_iff, part_iff]
  have hs1 := hs.lo
  have ht1 := ht.lo
  constructor
  · intro h
    have key : ∀ i j : Nat, i < s.length → j < t.length → ledT l s (i : Int) u = ledT l s (i : Int) v ∧ ledT l t (j : Int) u = ledT l t (j : Int) v := fun i j hi hj => by
      have hr := room_cross (n := s.length) (m := t.length) (i := (i : Int)) (j := (j : Int)) (by omega) (by omega) (by omega) (by omega)
      have := h (i * t.length + j) (by rw [cross_len]; have := hr.2; rw [← Int.natCast_mul, ← Int.natCast_add] at this; exact Int.ofNat_lt.mp this)
      rw [Int.natCast_add, Int.natCast_mul, led_cross hs ht (by omega) (by omega) (by omega) (by omega) hu, led_cross hs ht (by omega) (by omega) (by omega) (by omega) hv] at this
      have a := ledT_ok ht (w := u) (r := (j : Int)) (by omega) (by omega) hu
      have b := ledT_ok ht (w := v) (r := (j : Int)) (by omega) (by omega) hv
      exact pair_inj a.1 a.2 b.1 b.2 this
    exact ⟨fun i hi => (key i 0 hi (by omega)).1, fun j hj => (key 0 j (by omega) hj).2⟩
  · rintro ⟨h1, h2⟩ k hk
    rw [cross_len] at hk
    have hd : k / t.length < s.length := Nat.div_lt_of_lt_mul (by rw [Nat.mul_comm]; exact hk)
    have hm : k % t.length < t.length := Nat.mod_lt _ (by omega)
    have e : k = k / t.length * t.length + k % t.length := by rw [Nat.mul_comm]; exact (Nat.div_add_mod k t.length).symm
    generalize k / t.length = a at hd e
    generalize k % t.length = b at hm e
    subst e
    rw [Int.natCast_add, Int.natCast_mul, led_cross hs ht (by omega) (by omega) (by omega) (by omega) hu, led_cross hs ht (by omega) (by omega) (by omega) (by omega) hv, h1 _ hd, h2 _ hm]
structure TManX (K : PySem.W.Frag) (mg : Str → Option Value) (CT : Addr) : Prop where
  xi : XI K CT
  ini : PySem.W.findIn K (.ref CT) "__init__" = some (some (.builtin "ValueError.__init__"))
  g : mg "TooMany" = some (.ref CT)
theorem TabAt.snocN {H : Hp} {t r : Addr} {rs : List Addr} {tab : List (List Int)} {x : List Int} (h : TabAt H t rs tab) (ht : t ∉ rs) (hr : H r = some (.lst (x.map V.int))) (hne : r ≠ t) : TabAt (upd H t (.lst (rs.map V.ref ++ [.ref r]))) t (rs ++ [r]) (tab ++ [x]) := by
  have hl := h.len
  refine ⟨by rw [upd_same, List.map_append]; rfl, by rw [List.length_append, List.length_append, hl]; rfl, fun i r' x' e1 e2 => ?_⟩
  by_cases hi : i < rs.length
  · rw [List.getElem?_append_left hi] at e1
    rw [List.getElem?_append_left (by omega)] at e2
    rw [upd_ne (fun e => ht (by rw [← e]; exact List.mem_of_getElem? e1))]
    exact h.row i r' x' e1 e2
  · have hi' : i = rs.length := by
      have := (List.getElem?_eq_some_iff.mp e1).1
      simp at this
      omega
    subst hi'
    rw [List.getElem?_append_right (by omega), Nat.sub_self] at e1
    rw [List.getElem?_append_right (by omega), show rs.length - tab.length = 0 by omega] at e2
    cases e1
    cases e2
    rw [upd_ne hne]
    exact hr
theorem keeps2 {x y : V} {r : L2.St} : KeepsSt (none :: none :: r) (some x :: some y :: r) := ⟨rfl, fun i v h => by
  rcases i with _ | _ | i
  · cases h
  · cases h
  · exact h⟩
theorem comp_zip {H : Hp} {ra rb b : Addr} {x y : List Int} {ys : List V} {σ : L2.St} {Q : VK} {D : Addr} (hσ : seen σ 2 [1] = [none, none, some (.ref b)]) (ha : H ra = some (.lst (x.map V.int))) (hb : H rb = some (.lst (y.map V.int))) (ht : H b = some (.lst ys)) (hl : x.length = y.length) (hx6 : x.length ≤ 1000) (hy8 : ys.length ≤ 8) (hx8 : ∀ n ∈ x, 0 ≤ n ∧ n ≤ 8) (hD : H D = none) (q : ∀ H', Same H H' → H' D = some (.lst ((zipT (ys.length : Int) x y).map V.int)) → Q (.ref D) H') :
    CompZp K ra rb (gTup K 2 (gCons (gName 0) (gCons (gName 1) gNil))) tYes (tOp rAddA (tOp rMulA (tVar 0) (tCB (rLen K) (tCons (tVar 2) tNil))) (tVar 1)) 2 [1] σ H Q D := by
  have s16 := sl16
  refine CompZp.by (xs := x.map V.int) (ys := y.map V.int) (fun i acc H' => Same H H' ∧ H' D = some (.lst acc) ∧ acc = ((zipT (ys.length : Int) x y).take i).map V.int) (by rw [List.length_map, List.length_map]; exact hl) ⟨same_upd hD, upd_same, rfl⟩ (fun i acc H' _ h => ⟨SqL.of (h.1 _ _ ha), SqL.of (h.1 _ _ hb)⟩) ?_ ?_
  · rintro i v w acc H' p hv hw ⟨hs, hH, rfl⟩ hp
    have hi := (List.getElem?_eq_some_iff.mp hv).1
    rw [List.getElem?_map] at hv hw
    obtain ⟨m, hm, rfl⟩ := Option.map_eq_some_iff.mp hv
    obtain ⟨n, hn, rfl⟩ := Option.map_eq_some_iff.mp hw
    have hz : (zipT (ys.length : Int) x y)[i]? = some (m * (ys.length : Int) + n) := by
      unfold zipT
      rw [List.getElem?_zipWith, hm, hn]
    obtain ⟨m0, m1⟩ := hx8 m (List.mem_of_getElem? hm)
    rw [List.length_map] at hi
    simp only [tYes]
    rw [hσ]
    rfl'
    refine ⟨_, SqT.of upd_same, rfl, _, _, rfl, _, _, rfl, rfl, keeps2, _, .inl ⟨_, SqL.of (same_upd hp _ _ (hs _ _ ht)), rfl⟩, .inl ⟨_, rfl, .inl ⟨by omega, by omega⟩, _, rfl, same_upd hp _ _ hH, by rw [List.length_map, List.length_take]; omega, ?_⟩⟩
    refine CNx.mk (by rw [List.length_map]; exact hi) ⟨same_over (hs.trans (same_upd hp)) hD, upd_same, ?_⟩
    rw [take_one hz, List.map_append]
    rfl
  · rintro acc H' ⟨hs, hH, rfl⟩
    rw [List.length_map, List.take_of_length_le (by unfold zipT; rw [List.length_zipWith]; omega)] at hH
    exact q H' hs hH
def sp_ctable (K : PySem.W.Frag) : Sp := fun vs H Q _ => ∃ (a b : Addr) (rs qs : List Addr) (s t : List (List Int)) (l : List Nat), vs = [.ref a, .ref b] ∧ TabAt H a rs s ∧ TabAt H b qs t ∧ GoodT l s ∧ GoodT l t ∧ l.length ≤ 1000 ∧ ∀ (D : Addr) (ds : List Addr) (H' : Hp), Same H H' → TabAt H' D ds (crossT s t) → Q (.ref D) H'
theorem sc_crossed_table : FnScope ["one", "other", "table", "row", "beside"] ["one", "other"] (defScope s_crossed_table) := ⟨rfl, rfl, rfl, by decide +kernel, rfl, by decide +kernel, by decide +kernel⟩
theorem ok_crossed_table {f : Addr} {fd : FuncData} (B : Bt mg)  (F : Fun K "crossed_table" "crossed_table" s_crossed_table f fd)  : FnOk P w K mg base CX0 1 f fd ["one", "other"] (sp_ctable K) := by
  refine F.ok sc_crossed_table (fun vs H Q E h => ?_) (fun cdv A outer s H vs Q E hr h => ?_)
  · obtain ⟨a, b, rs, qs, s, t, l, rfl, _⟩ := h
    rfl
  · obtain ⟨a, b, rs, qs, s, t, l, rfl, hA, hB, hs, ht, hl6, q⟩ := h
    refine ⟨_, (pss_cut (ps_set (i := 2) sc_crossed_table.nd rfl (Or.inl rfl) (pe_lst pa_nil))
      (pss_cons (ps_for PassesOwn.never rfl (pi_list (pv 0)) (pg_name (i := 3) sc_crossed_table.nd rfl (Or.inl rfl))
        (pss_one (ps_for PassesOwn.never rfl (pi_list (pv 1)) (pg_name (i := 4) sc_crossed_table.nd rfl (Or.inl rfl))
          (pss_one (ps_expr (pe_bm PySem.F.plainAttrs_list PySem.F.slot_list_append PySem.F.type_list_append mt_append (pv 2) (pa_cons (pe_comp (g := gTup K 2 (gCons (gName 0) (gCons (gName 1) gNil))) (own := ["i", "j"]) (caps := ["other"]) (ix := [1]) (tt := tYes) (te := (tOp rAddA (tOp rMulA (tVar 0) (tCB (rLen K) (tCons (tVar 2) tNil))) (tVar 1))) rfl (compOk_of (sc := defScope s_crossed_table) rfl (by decide +kernel) (by decide +kernel) (by decide +kernel) rfl (by decide +kernel) (by decide +kernel) rfl) (pi_zip rfl B.zip (pa_cons (pv 3) (pa_cons (pv 4) pa_nil))) (fun _ _ _ _ _ _ => pg_tup (n := 2) rfl (pgs_cons (pg_name (i := 0) (show List.Nodup [_, _, _] by decide) rfl (Or.inl rfl)) (pgs_cons (pg_name (i := 1) (show List.Nodup [_, _, _] by decide) rfl (Or.inl rfl)) pgs_nil))) (fun _ _ _ _ _ _ => pts_nil) (fun _ _ _ _ _ _ => (pe_op op_addA (pe_op op_mulA (pv 0) (pe_callB c_len rfl B.len PySem.boot_len (pa_cons (pv 2) pa_nil))) (pv 1)))) pa_nil)))))))
      (pss_one (ps_ret (pv 2))))), ?_⟩
    have s16 := sl16
    have hAl := hA.len
    have hBl := hB.len
    have hs8 := hs.hi
    have ht8 := ht.hi
    have s16 := sl16
    refine cut_by (fun σ H' => ∃ D, Same H H' ∧ H D = none ∧ H' D = some (.lst []) ∧ σ = [some (.ref a), some (.ref b), some (.ref D), none, none]) ?_ ?_
    · rfl'
      exact ⟨by omega, fun p hp => ⟨same_upd hp, p, hp, upd_same, rfl⟩⟩
    rintro σ H1 ⟨D, s1, hD, hD1, rfl⟩
    rfl'
    refine ⟨⟨_, SqL.of (s1 _ _ hA.top)⟩, ForL.by (xs := rs.map V.ref) (fun i σ H' => ∃ (ds : List Addr) (v3 v4 : Option V), Same H H' ∧ TabAt H' D ds (crossT (s.take i) t) ∧ D ∉ ds ∧ σ = [some (.ref a), some (.ref b), some (.ref D), v3, v4]) ⟨[], none, none, s1, ⟨hD1, rfl, fun i r x e => by simp at e⟩, fun h => (nomatch h), rfl⟩ ?_ ?_ ?_⟩
    · rintro i σ H' _ ⟨ds, v3, v4, hs', _⟩
      exact SqL.of (hs' _ _ hA.top)
    · rintro i v σ H' hv ⟨ds, v3, v4, hs', hT, hn, rfl⟩
      rw [List.getElem?_map] at hv
      obtain ⟨r, hr, rfl⟩ := Option.map_eq_some_iff.mp hv
      have hil := (List.getElem?_eq_some_iff.mp hr).1
      have hx : s[i]? = some (s[i]'(by omega)) := List.getElem?_eq_getElem (by omega)
      generalize s[i]'(by omega) = x at hx
      have hrow := hA.row i r x hr hx
      have hmx := List.mem_of_getElem? hx
      rfl'
      refine ⟨⟨_, SqL.of (hs' _ _ hB.top)⟩, ForL.by (xs := qs.map V.ref) (fun j σ H'' => ∃ (ds : List Addr) (v4 : Option V), Same H H'' ∧ TabAt H'' D ds (crossT (s.take i) t ++ (t.take j).map fun y => zipT (t.length : Int) x y) ∧ D ∉ ds ∧ σ = [some (.ref a), some (.ref b), some (.ref D), some (.ref r), v4]) ⟨ds, _, hs', by rw [List.take_zero, List.map_nil, List.append_nil]; exact hT, hn, rfl⟩ ?_ ?_ ?_⟩
      · rintro j σ H'' _ ⟨ds, v4, hs2, _⟩
        exact SqL.of (hs2 _ _ hB.top)
      · rintro j v σ H'' hv ⟨ds, v4, hs2, hT2, hn2, rfl⟩
        rw [List.getElem?_map] at hv
        obtain ⟨r2, hr2, rfl⟩ := Option.map_eq_some_iff.mp hv
        have hjl := (List.getElem?_eq_some_iff.mp hr2).1
        have hy : t[j]? = some (t[j]'(by omega)) := List.getElem?_eq_getElem (by omega)
        generalize t[j]'(by omega) = y at hy
        have hrow2 := hB.row j r2 y hr2 hy
        have hmy := List.mem_of_getElem? hy
        have e1 := hs.wd x hmx
        have e2 := ht.wd y hmy
        have hT2l := hT2.len
        have hcl : (crossT (s.take i) t ++ (t.take j).map fun y => zipT (t.length : Int) x y).length ≤ 1000 := by
          rw [List.length_append, cross_len, List.length_map, List.length_take, List.length_take]
          have : min i s.length * t.length ≤ 8 * 8 := Nat.mul_le_mul (by omega) (by omega)
          omega
        rfl'
        simp only [rd_czp]
        rfl'
        refine ⟨.inl ⟨_, SqL.of hT2.top⟩, ⟨_, SqL.of (hs2 _ _ hrow)⟩, ⟨_, SqL.of (hs2 _ _ hrow2)⟩, fun E hE => comp_zip rfl (hs2 _ _ hrow) (hs2 _ _ hrow2) (hs2 _ _ hB.top) (by omega) (by omega) (by rw [List.length_map]; omega) (fun n h => by have := hs.rm x hmx n h; omega) hE fun H3 s3 hE3 => ⟨_, s3 _ _ hT2.top, by rw [List.length_map]; omega, ?_⟩⟩
        have hED : E ≠ D := fun e => by rw [e, hT2.top] at hE; cases hE
        rw [List.length_map, hBl] at hE3
        refine ⟨same_over (hs2.trans s3) hD, ds ++ [E], ?_, fun h => ?_⟩
        · rw [take_one hy, List.map_append, ← List.append_assoc]
          exact (hT2.same s3).snocN hn2 hE3 hED
        · rcases List.mem_append.mp h with h | h
          · exact hn2 h
          · exact hED (List.mem_singleton.mp h).symm
      · rintro σ H'' ⟨ds, v4, hs2, hT2, hn2, rfl⟩
        rw [List.length_map, hBl, List.take_length, ← cross_take hx] at hT2
        exact ⟨hs2, ds, hT2, hn2, _, _, rfl⟩
    · rintro σ H' ⟨ds, v3, v4, hs', hT, hn, rfl⟩
      rw [List.length_map, hAl, List.take_length] at hT
      rfl'
      exact q D ds H' hs' hT
def sp_wcrossed (CH CN CT : Addr) : Sp := fun vs H Q E => ∃ (o1 o2 t1 t2 : Addr) (l1 l2 : List Nat) (rs1 rs2 : List Addr) (s t : List (List Int)), vs = [.ref o1, .ref o2] ∧ WorAt CH H o1 l1 t1 rs1 s ∧ WorAt CH H o2 l2 t2 rs2 t ∧ GoodT l1 s ∧ GoodT l2 t ∧ goodB l1 = true ∧
  (l2 ≠ l1 → E (.ref CN) none H) ∧ (l2 = l1 → 8 < s.length * t.length → E (.ref CT) none H) ∧ (l2 = l1 → s.length * t.length ≤ 8 → ∀ (x t' : Addr) (rs' : List Addr) (H' : Hp), Same H H' → WorAt CH H' x l1 t' rs' (crossT s t) → Q (.ref x) H')
theorem sc_world_crossed : FnScope ["self", "other"] ["self", "other"] (defScope s_world_crossed) := ⟨rfl, rfl, rfl, by decide +kernel, rfl, by decide +kernel, by decide +kernel⟩
theorem ok_world_crossed {f CN CT CH : Addr} {fd : FuncData} (B : Bt mg) (TN : TNoWo K mg CN) (TM : TManX K mg CT) (CL : TWor K mg CH) (F : Fun K "crossed" "World.crossed" s_world_crossed f fd) (D_crossed_table : Df P w K mg base CX0 1 "crossed_table" ["one", "other"] [] (sp_ctable K)) (M_world_init : DMk P w K mg base (CXx P w) 4 CH ["self", "letters", "table"] (sp_woinit CH)) (M_world_rooms : DM P w K mg base CX0 1 CH "rooms" ["self"] (sp_rooms CH)) (M_world_table_told : DM P w K mg base CX0 1 CH "table_told" ["self"] (sp_told CH)) : FnOk P w K mg base (CXx P w) 6 f fd ["self", "other"] (sp_wcrossed CH CN CT) := by
  obtain ⟨t6, g6⟩ := TN.most
  refine Fun.okX F sc_world_crossed (fun vs H Q E h => ?_) (fun cdv A outer s H vs Q E hr hx h => ?_)
  · obtain ⟨o1, o2, t1, t2, l1, l2, rs1, rs2, s, t, rfl, _⟩ := h
    rfl
  · obtain ⟨o1, o2, t1, t2, l1, l2, rs1, rs2, s, t, rfl, hW1, hW2, hs, ht, hg, q1, q2, q3⟩ := h
    refine ⟨_, (pss_cut (ps_if (pt_cmpR op_ne (pe_fld (pv 1) rfl) (pe_fld (pv 0) rfl) (nomark _))
        (pss_one (ps_raise0 hx rfl TN.xi.toXC TN.ini rfl TN.g (pa_cons pe_str pa_nil)))
        pss_nil)
      (pss_cut (ps_if (pt_cmpR op_gtA (pe_op op_mulA (me0 M_world_rooms CL.cl hr (pv 0)) (me0 M_world_rooms CL.cl hr (pv 1))) (pe_glob (v := .int 8) rfl g6 ⟨t6, rfl⟩) (nomark _))
        (pss_one (ps_raise0 hx rfl TM.xi.toXC TM.ini rfl TM.g (pa_cons pe_str pa_nil)))
        pss_nil)
      (pss_one (ps_ret (mkCx hx M_world_init hr rfl CL.g (pa_cons (pe_fld (pv 0) rfl) (pa_cons (cl0 D_crossed_table hr .nil rfl (pa_cons (pe_fld (pv 0) rfl) (pa_cons (me0 M_world_table_told CL.cl hr (pv 1)) pa_nil))) pa_nil))))))), ?_⟩
    have s16 := sl16
    obtain ⟨g1, g2, g3, g4⟩ := of_decide_eq_true hg
    obtain ⟨d1, ho1, hT1⟩ := id hW1
    obtain ⟨d2, ho2, hT2⟩ := id hW2
    have hs8 := hs.hi
    have ht8 := ht.hi
    have em : ((s.length : Int) * (t.length : Int)) = ((s.length * t.length : Nat) : Int) := by rw [Int.natCast_mul]
    refine cut_by (fun σ H' => H' = H ∧ l2 = l1 ∧ σ = [some (.ref o1), some (.ref o2)]) ?_ ?_
    · rfl'
      refine ⟨_, _, _, ho2, CL.cl, CL.nl, _, rfl, _, _, _, ho1, CL.cl, CL.nl, _, rfl, rfl, ite2 (fun h => ⟨by omega, q1 fun e => h (by rw [e])⟩) fun h => ?_⟩
      have h' := Decidable.not_not.mp h
      injection h' with h'
      exact tx_inj h'
    rintro σ H1 ⟨rfl, rfl, rfl⟩
    refine cut_by (fun σ H' => H' = H1 ∧ s.length * t.length ≤ 8 ∧ σ = [some (.ref o1), some (.ref o2)]) ?_ ?_
    · rfl'
      refine ⟨_, _, ho1, rfl, use_rooms hW1 ⟨_, _, ho2, rfl, use_rooms hW2 ⟨_, rfl, _, rfl, .inl ⟨by omega, by omega⟩, ?_⟩⟩⟩
      rw [em]
      exact ite2 (fun h => ⟨by omega, q2 rfl (by omega)⟩) fun h => ⟨rfl, by omega⟩
    rintro σ H2 ⟨rfl, h8, rfl⟩
    rfl'
    refine ⟨_, _, _, ho1, CL.cl, CL.nl, _, rfl, _, _, _, ho1, CL.cl, CL.nt, _, rfl, _, _, ho2, rfl, use_told hW2 (by omega) fun D ds H' s' hD _ _ => ⟨t1, D, rs1, ds, s, t, l2, rfl, hT1.same s', hD, hs, ht, by omega, fun E es H3 s3 hE => ?_⟩⟩
    exact use_world hg hE (cross_good hs ht h8) fun x t' rs' H'' s'' _ _ hW => q3 rfl h8 x t' rs' H'' (s'.trans (s3.trans s'')) hW
theorem comp_anew {CH : Addr} {H : Hp} {o dx t d : Addr} {l : List Nat} {fs : List (Str × V)} {rs : List Addr} {tab : List (List Int)} {Q : VK} {D : Addr} {g : TG} (hg : g = gName 0) (CL : TWor K mg CH) (ho : H o = some (.ins CH dx fs)) (hfs : fs.lookup ("table" : Str) = some (.ref t)) (h : TabAt H t rs tab) (hG : GoodT l tab) (hd : H d = some (.lst ((metT tab).map V.int))) (l6 : l.length ≤ 6) (hD : H D = none)
    (q : ∀ (rs' : List Addr) (H' : Hp), Same H H' → TabAt H' D rs' (reT tab) → Q (.ref D) H') :
    CompL K d g tYes (tCall (sp_numb K) [] E0 (tCons (tOp (rIx K) (tFld K (tVar 1) "table") (tVar 0)) (tCons (tVar 2) tNil))) 1 [0, 1] [some (.ref o), some (.ref d)] H Q D := by
  have s16 := sl16
  have hB := met_bs hG
  have hml := hB.ms.le
  have h8 := hG.hi
  subst hg
  refine CompL.by (xs := (metT tab).map V.int) (fun i acc H' => ∃ rs' : List Addr, acc = rs'.map V.ref ∧ rs'.length = i ∧ Same H H' ∧ H' D = some (.lst acc) ∧ (∀ r ∈ rs', r ≠ D) ∧ ∀ (j : Nat) (r : Addr) (x : List Int), rs'[j]? = some r → (reT tab)[j]? = some x → H' r = some (.lst (x.map V.int))) ⟨[], rfl, rfl, same_upd hD, upd_same, fun r h => (nomatch h), fun j r x h => by simp at h⟩ (fun i acc H' _ h' => by obtain ⟨_, _, _, hs, _⟩ := h'; exact SqL.of (hs _ _ hd)) ?_ ?_
  · rintro i v acc H' hv ⟨rs', rfl, hi, hs, hH, hf, hr⟩
    rw [List.getElem?_map] at hv
    obtain ⟨z, hz, rfl⟩ := Option.map_eq_some_iff.mp hv
    have hil := (List.getElem?_eq_some_iff.mp hz).1
    have hzm := List.mem_of_getElem? hz
    obtain ⟨b1, b2⟩ := hB.ms.bd z hzm
    obtain ⟨a1, a2, a3⟩ := rowT_ok hG b1 b2
    obtain ⟨ra, x, e1, e2, e3⟩ := h.get b1 b2
    rw [a1] at e2
    cases e2
    have hre : (reT tab)[i]? = some ((rowT tab z).map (numT (metT tab))) := by
      unfold reT
      rw [List.getElem?_map, hz]
      rfl
    simp only [tYes]
    rfl'
    refine ⟨keeps0, _, _, _, hs _ _ ho, CL.cl, CL.nt, _, hfs, .inl ⟨_, rfl, _, SqL.of (hs _ _ h.top), _, e1, ra, d, rowT tab z, metT tab, rfl, hs _ _ e3, hs _ _ hd, by omega, met_cl hG hzm, fun p H5 s5 hp hp5 => ⟨s5 _ _ hH, by rw [List.length_map]; omega, CNx.mk (by rw [List.length_map]; exact hil) ⟨rs' ++ [p], by rw [List.map_append]; rfl, by rw [List.length_append, hi]; rfl, same_over (hs.trans s5) hD, upd_same, ?_, ?_⟩⟩⟩⟩
    · intro r' hr'
      rcases List.mem_append.mp hr' with h' | h'
      · exact hf r' h'
      · rw [List.mem_singleton.mp h']
        exact fun e => by rw [e, hH] at hp; cases hp
    · intro j r' x' h1 h2
      by_cases hj : j < i
      · rw [List.getElem?_append_left (by omega)] at h1
        rw [upd_ne (hf r' (List.mem_of_getElem? h1))]
        exact s5 _ _ (hr j r' x' h1 h2)
      · rw [List.getElem?_append_right (by omega)] at h1
        have hj0 : j = i := by
          have := (List.getElem?_eq_some_iff.mp h1).1
          simp at this
          omega
        subst hj0
        rw [hi, Nat.sub_self] at h1
        cases h1
        rw [hre] at h2
        cases h2
        rw [upd_ne (fun e => by rw [e, hH] at hp; cases hp)]
        exact hp5
  · rintro acc H' ⟨rs', rfl, hi, hs, hH, hf, hr⟩
    rw [List.length_map] at hi
    exact q rs' H' hs ⟨hH, by rw [re_len]; omega, hr⟩
def sp_reached (CH : Addr) : Sp := fun vs H Q _ => ∃ (o t : Addr) (l : List Nat) (rs : List Addr) (tab : List (List Int)), vs = [.ref o] ∧ WorAt CH H o l t rs tab ∧ GoodT l tab ∧ goodB l = true ∧ ∀ (x t' : Addr) (rs' : List Addr) (H' : Hp), Same H H' → WorAt CH H' x l t' rs' (reT tab) → Q (.ref x) H'
theorem use_reached {CH o t : Addr} {l : List Nat} {rs : List Addr} {tab : List (List Int)} {H : Hp} {Q : VK} {E : XK} (h : WorAt CH H o l t rs tab) (hG : GoodT l tab) (hg : goodB l = true) (q : ∀ (x t' : Addr) (rs' : List Addr) (H' : Hp), Same H H' → WorAt CH H' x l t' rs' (reT tab) → Q (.ref x) H') : sp_reached CH [.ref o] H Q E := ⟨o, t, l, rs, tab, rfl, h, hG, hg, q⟩
theorem sc_world_reached : FnScope ["self", "met"] ["self"] (defScope s_world_reached) := ⟨rfl, rfl, rfl, by decide +kernel, rfl, by decide +kernel, by decide +kernel⟩
theorem ok_world_reached {f CH : Addr} {fd : FuncData} (B : Bt mg) (CL : TWor K mg CH) (F : Fun K "reached" "World.reached" s_world_reached f fd) (D_rooms_met : Df P w K mg base CX0 1 "rooms_met" ["table"] [] (sp_rooms_met K)) (D_numbered_anew : Df P w K mg base CX0 1 "numbered_anew" ["row", "met"] [] (sp_numb K)) (M_world_init : DMk P w K mg base (CXx P w) 4 CH ["self", "letters", "table"] (sp_woinit CH)) : FnOk P w K mg base CX0 6 f fd ["self"] (sp_reached CH) := by
  refine F.ok sc_world_reached (fun vs H Q E h => ?_) (fun cdv A outer s H vs Q E hr h => ?_)
  · obtain ⟨o, t, l, rs, tab, rfl, _⟩ := h
    rfl
  · obtain ⟨o, t, l, rs, tab, rfl, hW, hG, hg, q⟩ := h
    refine ⟨_, (pss_cut (ps_set (i := 1) sc_world_reached.nd rfl (Or.inr rfl) (cl0 D_rooms_met hr .nil rfl (pa_cons (pe_fld (pv 0) rfl) pa_nil)))
      (pss_one (ps_ret (mkCx xe0 M_world_init hr rfl CL.g (pa_cons (pe_fld (pv 0) rfl) (pa_cons (pe_comp (own := ["room"]) (caps := ["self", "met"]) (ix := [0, 1]) (tt := tYes) (te := (tCall (sp_numb K) [] E0 (tCons (tOp (rIx K) (tFld K (tVar 1) "table") (tVar 0)) (tCons (tVar 2) tNil)))) rfl (compOk_of (sc := defScope s_world_reached) rfl (by decide +kernel) (by decide +kernel) (by decide +kernel) rfl (by decide +kernel) (by decide +kernel) rfl) (pi_list (pv 1)) (fun _ _ _ _ _ _ => pg_name (i := 0) (show List.Nodup [_, _, _] by decide) rfl (Or.inl rfl)) (fun _ _ _ _ _ _ => pts_nil) (fun _ _ _ _ _ _ => (cl0 D_numbered_anew hr .nil rfl (pa_cons (pe_ix ix_seq (pe_fld (pv 1) rfl) (pv 0) (fun _ _ => rfl)) (pa_cons (pv 2) pa_nil))))) pa_nil)))))), ?_⟩
    have s16 := sl16
    obtain ⟨l1, l6, lsm, lnd⟩ := of_decide_eq_true hg
    obtain ⟨dx, ho, hT⟩ := id hW
    refine cut_by (fun σ H' => ∃ d : Addr, Same H H' ∧ H' d = some (.lst ((metT tab).map V.int)) ∧ σ = [some (.ref o), some (.ref d)]) ?_ ?_
    · rfl'
      exact ⟨_, _, _, ho, CL.cl, CL.nt, _, rfl, t, rs, tab, l, rfl, hT, hG, fun D H' s' _ hD => ⟨s', D, hD, rfl⟩⟩
    rintro σ H1 ⟨d, s1, hd, rfl⟩
    have ho1 := s1 _ _ ho
    have hT1 := hT.same s1
    rfl'
    exact ⟨_, _, _, ho1, CL.cl, CL.nl, _, rfl, ⟨_, SqL.of hd⟩, fun D hD => comp_anew rfl CL ho1 rfl hT1 hG hd l6 hD fun rs' H' s' hT' => use_world hg hT' (re_good hG) fun x t' rs'' H'' s'' _ _ hW' => q x t' rs'' H'' (s1.trans (s'.trans s'')) hW'⟩
def sp_cell_at (K : PySem.W.Frag) : Sp := fun vs H Q _ => ∃ (a : Addr) (ns : List Int) (k : Int), vs = [.ref a, .int k] ∧ SqL K H a (ns.map V.int) ∧ 0 ≤ k ∧ ∀ c : Int, 0 ≤ c → Q (.int c) H
theorem use_cell {a : Addr} {ns : List Int} {k : Int} {H : Hp} {Q : VK} {E : XK} (hS : SqL K H a (ns.map V.int)) (hk : 0 ≤ k) (h : ∀ c : Int, 0 ≤ c → Q (.int c) H) : sp_cell_at K [.ref a, .int k] H Q E := ⟨a, ns, k, rfl, hS, hk, h⟩
theorem sc_cell_at : FnScope ["_law_script", "_law_k"] ["_law_script", "_law_k"] (defScope s_cell_at) := ⟨rfl, rfl, rfl, by decide +kernel, rfl, by decide +kernel, by decide +kernel⟩
theorem ok_cell_at {f : Addr} {fd : FuncData} (B : Bt mg)  (F : Fun K "_law_cell_at" "_law_cell_at" s_cell_at f fd)  : FnOk P w K mg base CX0 1 f fd ["_law_script", "_law_k"] (sp_cell_at K) := by
  refine F.ok sc_cell_at (fun vs H Q E h => ?_) (fun cdv A outer s H vs Q E hr h => ?_)
  · obtain ⟨a, ns, k, rfl, _⟩ := h
    rfl
  · obtain ⟨a, ns, k, rfl, hS, hk, q⟩ := h
    refine ⟨_, (pss_cons (ps_if (pt_cmpR op_ltA (pv 1) (pe_callB c_len rfl B.len PySem.boot_len (pa_cons (pv 0) pa_nil)) (nomark _))
        (pss_one (ps_ret (pe_op op_mod (pe_ix ix_seq (pv 0) (pv 1) (fun _ _ => rfl)) (pe_op op_pow pe_int pe_int))))
        pss_nil)
      (pss_one (ps_ret pe_int))), ?_⟩
    have s16 := sl16
    rfl'
    have p10 : (0 : Int) < 10 ^ Int.toNat 15 := by decide
    have c10 : CPow 10 15 := ⟨by decide, by decide, by decide⟩
    refine ⟨_, .inl ⟨_, hS, rfl⟩, ite2 (fun c => ?_) (fun c => q 0 (by decide))⟩
    obtain ⟨v, h1, h2⟩ := atI_of hk c
    rw [List.getElem?_map] at h2
    obtain ⟨z, _, rfl⟩ := Option.map_eq_some_iff.mp h2
    refine .inl ⟨_, hS, _, h1, ?_⟩
    rfl'
    exact ⟨c10, p10, q _ (Int.emod_nonneg _ (by decide))⟩
def sp_letters : Sp := fun vs H Q _ => ∃ c m : Int, vs = [.int c, .int m] ∧ 0 ≤ c ∧ 0 ≤ m ∧ m ≤ 26 ∧ ∀ l : List Nat, (l.length : Int) = m → l.Nodup → small l → Q (.str (tx l)) H
theorem use_letters {c m : Int} {H : Hp} {Q : VK} {E : XK} (h : 0 ≤ c) (h0 : 0 ≤ m) (h1 : m ≤ 26) (q : ∀ l : List Nat, (l.length : Int) = m → l.Nodup → small l → Q (.str (tx l)) H) : sp_letters [.int c, .int m] H Q E := ⟨c, m, rfl, h, h0, h1, q⟩
theorem sc_letters : FnScope ["_law_cell", "_law_many", "_law_left", "_law_told", "_law_k", "_law_at"] ["_law_cell", "_law_many"] (defScope s_letters) := ⟨rfl, rfl, rfl, by decide +kernel, rfl, by decide +kernel, by decide +kernel⟩
theorem ok_letters {f : Addr} {fd : FuncData} (B : Bt mg)  (F : Fun K "_law_letters" "_law_letters" s_letters f fd)  : FnOk P w K mg base CX0 1 f fd ["_law_cell", "_law_many"] sp_letters := by
  refine F.ok sc_letters (fun vs H Q E h => ?_) (fun cdv A outer s H vs Q E hr h => ?_)
  · obtain ⟨c, m, rfl, _⟩ := h
    rfl
  · obtain ⟨c, m, rfl, hc, h0, h1, q⟩ := h
    refine ⟨_, (pss_cons (ps_set (i := 2) sc_letters.nd rfl (Or.inl rfl) pe_str)
      (pss_cons (ps_set (i := 3) sc_letters.nd rfl (Or.inl rfl) pe_str)
      (pss_cons (ps_for PassesOwn.never rfl (pi_range1 rfl B.range (pa_cons (pv 1) pa_nil)) (pg_name (i := 4) sc_letters.nd rfl (Or.inl rfl))
        (pss_cons (ps_set (i := 5) sc_letters.nd rfl (Or.inl rfl) (pe_op op_mod (pv 0) (pe_callB c_len rfl B.len PySem.boot_len (pa_cons (pv 2) pa_nil))))
        (pss_cons (ps_set (i := 0) sc_letters.nd rfl (Or.inl rfl) (pe_op op_fdiv (pv 0) (pe_callB c_len rfl B.len PySem.boot_len (pa_cons (pv 2) pa_nil))))
        (pss_cons (ps_set (i := 3) sc_letters.nd rfl (Or.inl rfl) (pe_op op_addA (pv 3) (pe_ix ix_seq (pv 2) (pv 5) (fun _ _ => rfl))))
        (pss_one (ps_set (i := 2) sc_letters.nd rfl (Or.inl rfl) (pe_op op_addA (pe_slice sl_any (pv 2) po_none (po_some (pv 5))) (pe_slice sl_any (pv 2) (po_some (pe_op op_addA (pv 5) pe_int)) po_none))))))))
      (pss_one (ps_ret (pv 3)))))), ?_⟩
    have s16 := sl16
    rfl'
    refine ⟨by omega, by omega, ForR.by (fun i σ H' => H' = H ∧ ∃ (left found : List Nat) (number : Int) (v5 v6 : Option V), σ = [some (.int number), some (.int m), some (.str (tx left)), some (.str (tx found)), v5, v6] ∧ found.length = i ∧ (found ++ left).Perm alpha)
      ⟨rfl, alpha, [], _, none, none, by rw [alpha_txt]; rfl, rfl, .refl _⟩ ?_ ?_⟩
    · rintro i σ H' hi ⟨rfl, left, found, number, v5, v6, rfl, hf, hp⟩
      have hpl := hp.length_eq
      rw [List.length_append] at hpl
      have ha : alpha.length = 26 := rfl
      have hl : left.length + i = 26 := by omega
      have hm0 := Int.emod_nonneg number (b := (left.length : Int)) (by omega)
      have hm1 := Int.emod_lt_of_pos number (b := (left.length : Int)) (by omega)
      obtain ⟨v, e1, e2⟩ := atI_of hm0 hm1
      have hc1 := cut_len left none (some (number % (left.length : Int)))
      have hc2 := cut_len left (some (number % (left.length : Int) + 1)) none
      rfl'
      repeat (refine And.intro (by first | omega | decide | exact ⟨by omega, by omega⟩ | assumption) ?_)
      refine ⟨v, e1, ?_⟩
      repeat (refine And.intro (by first | omega | decide | exact ⟨by omega, by omega⟩ | assumption) ?_)
      refine ⟨by rw [List.length_append, hf]; rfl, ?_⟩
      rw [cut_to _ hm0, cut_from _ (by omega), List.append_assoc]
      have e3 : (number % (left.length : Int) + 1).toNat = (number % (left.length : Int)).toNat + 1 := by omega
      rw [e3]
      exact ((pick_perm e2).append_left found).trans hp
    · rintro σ H' ⟨rfl, left, found, number, v5, v6, rfl, hf, hp⟩
      rfl'
      have hnd : (found ++ left).Nodup := hp.nodup_iff.mpr (by decide)
      refine q found (by omega) (List.nodup_append.mp hnd).1 fun c hc => ?_
      have h : c ∈ alpha := hp.mem_iff.mp (List.mem_append_left _ hc)
      exact (by decide : ∀ c ∈ alpha, 97 ≤ c ∧ c ≤ 122) c h
def sp_word : Sp := fun vs H Q _ => ∃ (ls : List Nat) (c m : Int), vs = [.str (tx ls), .int c, .int m] ∧ 1 ≤ ls.length ∧ ls.length ≤ 26 ∧ 0 ≤ m ∧ m ≤ 1000 ∧ ∀ l : List Nat, (l.length : Int) = m → (∀ x ∈ l, x ∈ ls) → Q (.str (tx l)) H
theorem use_word {ls : List Nat} {c m : Int} {H : Hp} {Q : VK} {E : XK} (h1 : 1 ≤ ls.length) (h2 : ls.length ≤ 26) (h3 : 0 ≤ m) (h4 : m ≤ 1000) (h : ∀ l : List Nat, (l.length : Int) = m → (∀ x ∈ l, x ∈ ls) → Q (.str (tx l)) H) : sp_word [.str (tx ls), .int c, .int m] H Q E :=
  ⟨ls, c, m, rfl, h1, h2, h3, h4, h⟩
theorem sc_word : FnScope ["_law_letters_here", "_law_cell", "_law_size", "_law_word_here", "_law_k"] ["_law_letters_here", "_law_cell", "_law_size"] (defScope s_word) := ⟨rfl, rfl, rfl, by decide +kernel, rfl, by decide +kernel, by decide +kernel⟩
theorem ok_word {f : Addr} {fd : FuncData} (B : Bt mg)  (F : Fun K "_law_word" "_law_word" s_word f fd)  : FnOk P w K mg base CX0 1 f fd ["_law_letters_here", "_law_cell", "_law_size"] sp_word := by
  refine F.ok sc_word (fun vs H Q E h => ?_) (fun cdv A outer s H vs Q E hr h => ?_)
  · obtain ⟨ls, c, m, rfl, _⟩ := h
    rfl
  · obtain ⟨ls, c, m, rfl, h1, h2, h3, h4, q⟩ := h
    refine ⟨_, (pss_cons (ps_set (i := 3) sc_word.nd rfl (Or.inl rfl) pe_str)
      (pss_cons (ps_for PassesOwn.never rfl (pi_range1 rfl B.range (pa_cons (pv 2) pa_nil)) (pg_name (i := 4) sc_word.nd rfl (Or.inl rfl))
        (pss_cons (ps_set (i := 3) sc_word.nd rfl (Or.inl rfl) (pe_op op_addA (pv 3) (pe_ix ix_seq (pv 0) (pe_op op_mod (pv 1) (pe_callB c_len rfl B.len PySem.boot_len (pa_cons (pv 0) pa_nil))) (fun _ _ => rfl))))
        (pss_one (ps_set (i := 1) sc_word.nd rfl (Or.inl rfl) (pe_op op_fdiv (pv 1) (pe_callB c_len rfl B.len PySem.boot_len (pa_cons (pv 0) pa_nil)))))))
      (pss_one (ps_ret (pv 3))))), ?_⟩
    have s16 := sl16
    rfl'
    refine ⟨by omega, by omega, ForR.by (fun i σ H' => H' = H ∧ ∃ (found : List Nat) (number : Int) (v5 : Option V), σ = [some (.str (tx ls)), some (.int number), some (.int m), some (.str (tx found)), v5] ∧ found.length = i ∧ ∀ x ∈ found, x ∈ ls)
      ⟨rfl, [], _, none, rfl, rfl, fun x h => (nomatch h)⟩ ?_ ?_⟩
    · rintro i σ H' hi ⟨rfl, found, number, v5, rfl, hf, hm⟩
      rfl'
      have hm0 := Int.emod_nonneg number (b := (ls.length : Int)) (by omega)
      have hm1 := Int.emod_lt_of_pos number (b := (ls.length : Int)) (by omega)
      obtain ⟨v, e1, e2⟩ := atI_of hm0 hm1
      repeat (refine And.intro (by first | omega | decide | exact ⟨by omega, by omega⟩ | assumption) ?_)
      refine ⟨v, e1, ?_⟩
      repeat (refine And.intro (by first | omega | decide | exact ⟨by omega, by omega⟩ | assumption) ?_)
      refine ⟨by rw [List.length_append, hf]; rfl, fun x hx => ?_⟩
      rcases List.mem_append.mp hx with h | h
      · exact hm x h
      · rw [List.mem_singleton.mp h]
        exact List.mem_of_getElem? e2
    · rintro σ H' ⟨rfl, found, number, v5, rfl, hf, hm⟩
      rfl'
      exact q found (by omega) hm
theorem TabAt.snoc {H : Hp} {t r : Addr} {rs : List Addr} {tab : List (List Int)} {x : List Int} (h : TabAt H t rs tab) (ht : t ∉ rs) (hr : H r = some (.lst (x.map V.int))) (hne : r ≠ t) : TabAt (upd H t (.lst (rs.map V.ref ++ [.ref r]))) t (rs ++ [r]) (tab ++ [x]) := by
  have hl := h.len
  refine ⟨by rw [upd_same, List.map_append]; rfl, by rw [List.length_append, List.length_append, hl]; rfl, fun i r' x' e1 e2 => ?_⟩
  by_cases hi : i < rs.length
  · rw [List.getElem?_append_left hi] at e1
    rw [List.getElem?_append_left (by omega)] at e2
    rw [upd_ne (fun e => ht (by rw [← e]; exact List.mem_of_getElem? e1))]
    exact h.row i r' x' e1 e2
  · have hi' : i = rs.length := by
      have := (List.getElem?_eq_some_iff.mp e1).1
      simp at this
      omega
    subst hi'
    rw [List.getElem?_append_right (by omega), Nat.sub_self] at e1
    rw [List.getElem?_append_right (by omega), show rs.length - tab.length = 0 by omega] at e2
    cases e1
    cases e2
    rw [upd_ne hne]
    exact hr
def sp_rows (K : PySem.W.Frag) : Sp := fun vs H Q _ => ∃ (a : Addr) (ns : List Int) (n : Nat) (m : Nat), vs = [.ref a, .int (n : Nat), .int (m : Nat)] ∧ SqL K H a (ns.map V.int) ∧ 1 ≤ n ∧ n ≤ 8 ∧ m ≤ 26 ∧ ∀ (t : Addr) (rs : List Addr) (tab : List (List Int)) (H' : Hp), Same H H' → TabAt H' t rs tab → tab.length = n → (∀ x ∈ tab, x.length = m ∧ ∀ z ∈ x, 0 ≤ z ∧ z < (n : Int)) → (∀ r ∈ t :: rs, H r = none) → t ∉ rs → Q (.ref t) H'
theorem sc_rows : FnScope ["_law_script", "_law_size", "_law_many", "_law_seed", "_law_table", "_law_room", "_law_row", "_law_k"] ["_law_script", "_law_size", "_law_many"] (defScope s_rows) := ⟨rfl, rfl, rfl, by decide +kernel, rfl, by decide +kernel, by decide +kernel⟩
theorem ok_rows {f : Addr} {fd : FuncData} (B : Bt mg)  (F : Fun K "_law_rows" "_law_rows" s_rows f fd) (D_cell_at : Df P w K mg base CX0 1 "_law_cell_at" ["_law_script", "_law_k"] [] (sp_cell_at K)) : FnOk P w K mg base CX0 2 f fd ["_law_script", "_law_size", "_law_many"] (sp_rows K) := by
  refine F.ok sc_rows (fun vs H Q E h => ?_) (fun cdv A outer s H vs Q E hr h => ?_)
  · obtain ⟨a, ns, n, m, rfl, _⟩ := h
    rfl
  · obtain ⟨a, ns, n, m, rfl, hS, n1, n8, m26, q⟩ := h
    refine ⟨_, (pss_cons (ps_set (i := 3) sc_rows.nd rfl (Or.inl rfl) (cl0 D_cell_at hr .nil rfl (pa_cons (pv 0) (pa_cons pe_int pa_nil))))
      (pss_cons (ps_set (i := 4) sc_rows.nd rfl (Or.inl rfl) (pe_lst pa_nil))
      (pss_cons (ps_for PassesOwn.never rfl (pi_range1 rfl B.range (pa_cons (pv 1) pa_nil)) (pg_name (i := 5) sc_rows.nd rfl (Or.inl rfl))
        (pss_cons (ps_set (i := 6) sc_rows.nd rfl (Or.inl rfl) (pe_lst pa_nil))
        (pss_cons (ps_for PassesOwn.never rfl (pi_range1 rfl B.range (pa_cons (pv 2) pa_nil)) (pg_name (i := 7) sc_rows.nd rfl (Or.inl rfl))
          (pss_cons (ps_set (i := 3) sc_rows.nd rfl (Or.inl rfl) (pe_op op_mod (pe_op op_addA (pe_op op_mulA (pv 3) pe_int) (cl0 D_cell_at hr .nil rfl (pa_cons (pv 0) (pa_cons (pe_op op_addA (pe_op op_addA pe_int (pe_op op_mulA (pv 5) (pv 2))) (pv 7)) pa_nil)))) pe_int))
          (pss_one (ps_expr (pe_bm PySem.F.plainAttrs_list PySem.F.slot_list_append PySem.F.type_list_append mt_append (pv 6) (pa_cons (pe_op op_mod (pv 3) (pv 1)) pa_nil))))))
        (pss_one (ps_expr (pe_bm PySem.F.plainAttrs_list PySem.F.slot_list_append PySem.F.type_list_append mt_append (pv 4) (pa_cons (pv 6) pa_nil)))))))
      (pss_one (ps_ret (pv 4)))))), ?_⟩
    have s16 := sl16
    rfl'
    refine use_cell hS (by decide) fun c0 hc0 => ⟨by omega, fun t ht => ⟨by omega, by omega, ForR.by (fun i σ H' => ∃ (rs : List Addr) (tab : List (List Int)) (c : Int) (v5 v6 v7 : Option V), Same H H' ∧ TabAt H' t rs tab ∧ tab.length = i ∧ (∀ x ∈ tab, x.length = m ∧ ∀ z ∈ x, 0 ≤ z ∧ z < (n : Int)) ∧ (∀ r ∈ rs, H r = none) ∧ t ∉ rs ∧ σ = [some (.ref a), some (.int (n : Nat)), some (.int (m : Nat)), some (.int c), some (.ref t), v5, v6, v7])
      ⟨[], [], _, _, _, _, same_upd ht, ⟨upd_same, rfl, fun i r x e => by simp at e⟩, rfl, fun x h => (nomatch h), fun x h => (nomatch h), fun h => (nomatch h), rfl⟩ ?_ ?_⟩⟩
    · rintro i σ H' hi ⟨rs, tab, c, v5, v6, v7, hs, hT, htl, htab, hf, htn, rfl⟩
      rfl'
      refine ⟨by omega, fun r hr => ⟨by omega, by omega, ForR.by (fun j σ H'' => ∃ (x : List Int) (c : Int) (v7 : Option V), Same H' H'' ∧ H'' r = some (.lst (x.map V.int)) ∧ x.length = j ∧ (∀ z ∈ x, 0 ≤ z ∧ z < (n : Int)) ∧ σ = [some (.ref a), some (.int (n : Nat)), some (.int (m : Nat)), some (.int c), some (.ref t), some (.int (0 + (i : Nat))), some (.ref r), v7])
        ⟨[], _, _, same_upd hr, upd_same, rfl, fun x h => (nomatch h), rfl⟩ ?_ ?_⟩⟩
      · rintro j σ H'' hj ⟨x, c', v7', hs2, hx, hxl, hxb, rfl⟩
        have hij : (0 : Int) ≤ (0 + (i : Int)) * (m : Int) := Int.mul_nonneg (by omega) (by omega)
        have hrH : H r = none := by
          cases e : H r with
          | none => rfl
          | some o => have := hs _ _ e; rw [hr] at this; cases this
        rfl'
        refine ⟨.inr ⟨by omega, by omega⟩, .inr ⟨by omega, by omega⟩, use_cell (hs2.seq (hs.seq hS)) (by omega) fun c1 hc1 => ⟨_, rfl, by omega, .inl ⟨_, SqL.of hx⟩, by omega, _, hx, by rw [List.length_map]; omega, same_over hs2 hr, x ++ [_], by rw [upd_same, List.map_append]; rfl, by rw [List.length_append, hxl]; rfl, fun z hz => ?_⟩⟩
        rcases List.mem_append.mp hz with h | h
        · exact hxb z h
        · rw [List.mem_singleton.mp h]
          exact ⟨Int.emod_nonneg _ (by omega), Int.emod_lt_of_pos _ (by omega)⟩
      · rintro σ H'' ⟨x, c', v7', hs2, hx, hxl, hxb, rfl⟩
        have hrt : r ≠ t := fun e => by rw [e, hT.top] at hr; cases hr
        have hrH : H r = none := by
          cases e : H r with
          | none => rfl
          | some o => have := hs _ _ e; rw [hr] at this; cases this
        have hl := hT.len
        have hT2 := hT.same hs2
        rfl'
        refine ⟨.inl ⟨_, SqL.of hT2.top⟩, _, hT2.top, by rw [List.length_map]; omega, same_over (hs.trans hs2) ht, rs ++ [r], tab ++ [x], hT2.snoc htn hx hrt, by rw [List.length_append, htl]; rfl, fun y hy => ?_, fun y hy => ?_, fun hy => ?_⟩
        · rcases List.mem_append.mp hy with h | h
          · exact htab y h
          · rw [List.mem_singleton.mp h]
            exact ⟨by omega, hxb⟩
        · rcases List.mem_append.mp hy with h | h
          · exact hf y h
          · rw [List.mem_singleton.mp h]
            exact hrH
        · rcases List.mem_append.mp hy with h | h
          · exact htn h
          · exact hrt (List.mem_singleton.mp h).symm
    · rintro σ H' ⟨rs, tab, c, v5, v6, v7, hs, hT, htl, htab, hf, htn, rfl⟩
      rfl'
      exact q t rs tab H' hs hT (by omega) htab (fun r hr => by rcases List.mem_cons.mp hr with rfl | h; exact ht; exact hf r h) htn
theorem good_rows {l : List Nat} {n : Nat} {tab : List (List Int)} (h1 : 1 ≤ n) (h8 : n ≤ 8) (hl : tab.length = n) (h : ∀ x ∈ tab, x.length = l.length ∧ ∀ z ∈ x, 0 ≤ z ∧ z < (n : Int)) : GoodT l tab := ⟨by omega, by omega, fun x hx => (h x hx).1, fun x hx z hz => by rw [hl]; exact (h x hx).2 z hz⟩
def sp_lled : Sp := fun vs H Q _ => ∃ (t : Addr) (rs : List Addr) (tab : List (List Int)) (l : List Nat) (r : Int) (w : List Nat), vs = [.ref t, .str (tx l), .int r, .str (tx w)] ∧ TabAt H t rs tab ∧ GoodT l tab ∧ 0 ≤ r ∧ r < (tab.length : Int) ∧ (∀ c ∈ w, c ∈ l) ∧ Q (.int (ledT l tab r w)) H
theorem use_lled {t : Addr} {l : List Nat} {rs : List Addr} {tab : List (List Int)} {r : Int} {w : List Nat} {H : Hp} {Q : VK} {E : XK} (h : TabAt H t rs tab) (hG : GoodT l tab) (h0 : 0 ≤ r) (h1 : r < (tab.length : Int)) (hw : ∀ c ∈ w, c ∈ l) (q : Q (.int (ledT l tab r w)) H) : sp_lled [.ref t, .str (tx l), .int r, .str (tx w)] H Q E := ⟨t, rs, tab, l, r, w, rfl, h, hG, h0, h1, hw, q⟩
theorem sc_led : FnScope ["_law_table", "_law_letters_here", "_law_room", "_law_word_here", "_law_sign"] ["_law_table", "_law_letters_here", "_law_room", "_law_word_here"] (defScope s_led) := ⟨rfl, rfl, rfl, by decide +kernel, rfl, by decide +kernel, by decide +kernel⟩
theorem ok_led {f : Addr} {fd : FuncData} (B : Bt mg)  (F : Fun K "_law_led" "_law_led" s_led f fd)  : FnOk P w K mg base CX0 1 f fd ["_law_table", "_law_letters_here", "_law_room", "_law_word_here"] sp_lled := by
  refine F.ok sc_led (fun vs H Q E h => ?_) (fun cdv A outer s H vs Q E hr h => ?_)
  · obtain ⟨t, rs, tab, l, r, w, rfl, _⟩ := h
    rfl
  · obtain ⟨t, rs, tab, l, r, w, rfl, hT, hG, h0, h1, hw, q⟩ := h
    refine ⟨_, (pss_cons (ps_for PassesOwn.never rfl (pi_str (pv 3)) (pg_name (i := 4) sc_led.nd rfl (Or.inl rfl))
        (pss_one (ps_set (i := 2) sc_led.nd rfl (Or.inl rfl) (pe_ix ix_list (pe_ix ix_list (pv 0) (pv 2) (fun _ _ => rfl)) (pe_bm PySem.F.plainAttrs_str PySem.F.slot_str_find PySem.F.type_str_find m_find (pv 1) (pa_cons (pv 4) pa_nil)) (fun _ _ => rfl)))))
      (pss_one (ps_ret (pv 2)))), ?_⟩
    have s16 := sl16
    rfl'
    refine ForS.by (fun i σ H' => H' = H ∧ ∃ v4, σ = [some (.ref t), some (.str (tx l)), some (.int (ledT l tab r (w.take i))), some (.str (tx w)), v4]) ⟨rfl, none, rfl⟩ ?_ ?_
    · rintro i c σ H' hc ⟨rfl, v4, rfl⟩
      have hcl := hw c (List.mem_of_getElem? hc)
      obtain ⟨a, b⟩ := ledT_ok hG (w := w.take i) h0 h1 fun x hx => hw x (List.mem_of_mem_take hx)
      obtain ⟨r', x, e1, e2, e3⟩ := hT.get a b
      rfl'
      refine ⟨_, SqL.of hT.top, _, e1, _, rfl, _, SqL.of e3, ?_⟩
      rw [find_c hcl, ledT_take hc]
      exact row_at hG e2 hcl
    · rintro σ H' ⟨rfl, v4, rfl⟩
      rfl'
      rw [List.take_length]
      exact q
def sp_lparted : Sp := fun vs H Q _ => ∃ (t : Addr) (rs : List Addr) (tab : List (List Int)) (l : List Nat) (u v : List Nat), vs = [.ref t, .str (tx l), .str (tx u), .str (tx v)] ∧ TabAt H t rs tab ∧ GoodT l tab ∧ (∀ c ∈ u, c ∈ l) ∧ (∀ c ∈ v, c ∈ l) ∧ Q (vO (partT l tab u v)) H
theorem use_lparted {t : Addr} {l : List Nat} {rs : List Addr} {tab : List (List Int)} {u v : List Nat} {H : Hp} {Q : VK} {E : XK} (h : TabAt H t rs tab) (hG : GoodT l tab) (hu : ∀ c ∈ u, c ∈ l) (hv : ∀ c ∈ v, c ∈ l) (q : Q (vO (partT l tab u v)) H) : sp_lparted [.ref t, .str (tx l), .str (tx u), .str (tx v)] H Q E := ⟨t, rs, tab, l, u, v, rfl, h, hG, hu, hv, q⟩
theorem sc_parted : FnScope ["_law_table", "_law_letters_here", "_law_one", "_law_other", "_law_room"] ["_law_table", "_law_letters_here", "_law_one", "_law_other"] (defScope s_parted) := ⟨rfl, rfl, rfl, by decide +kernel, rfl, by decide +kernel, by decide +kernel⟩
theorem ok_parted {f : Addr} {fd : FuncData} (B : Bt mg)  (F : Fun K "_law_parted" "_law_parted" s_parted f fd) (D_led : Df P w K mg base CX0 1 "_law_led" ["_law_table", "_law_letters_here", "_law_room", "_law_word_here"] [] sp_lled) : FnOk P w K mg base CX0 2 f fd ["_law_table", "_law_letters_here", "_law_one", "_law_other"] sp_lparted := by
  refine F.ok sc_parted (fun vs H Q E h => ?_) (fun cdv A outer s H vs Q E hr h => ?_)
  · obtain ⟨t, rs, tab, l, u, v, rfl, _⟩ := h
    rfl
  · obtain ⟨t, rs, tab, l, u, v, rfl, hT, hG, hu, hv, q⟩ := h
    refine ⟨_, (pss_cons (ps_for PassesOwn.never rfl (pi_range1 rfl B.range (pa_cons (pe_callB c_len rfl B.len PySem.boot_len (pa_cons (pv 0) pa_nil)) pa_nil)) (pg_name (i := 4) sc_parted.nd rfl (Or.inl rfl))
        (pss_one (ps_if (pt_cmpR op_ne (cl0 D_led hr .nil rfl (pa_cons (pv 0) (pa_cons (pv 1) (pa_cons (pv 4) (pa_cons (pv 2) pa_nil))))) (cl0 D_led hr .nil rfl (pa_cons (pv 0) (pa_cons (pv 1) (pa_cons (pv 4) (pa_cons (pv 3) pa_nil))))) (nomark _))
          (pss_one (ps_ret (pv 4)))
          pss_nil)))
      (pss_one (ps_ret pe_non))), ?_⟩
    have s16 := sl16
    rfl'
    have hl := hT.len
    have hhi := hG.hi
    refine ⟨_, .inl ⟨_, SqL.of hT.top, rfl⟩, by rw [List.length_map]; omega, by rw [List.length_map]; omega, ForR.by (fun i σ H' => H' = H ∧ (∀ j : Nat, j < i → ledT l tab (j : Int) u = ledT l tab (j : Int) v) ∧ ∃ v4, σ = [some (.ref t), some (.str (tx l)), some (.str (tx u)), some (.str (tx v)), v4]) ⟨rfl, fun j h => absurd h (Nat.not_lt_zero j), none, rfl⟩ ?_ ?_⟩
    · rintro i σ H' hi ⟨rfl, hb, v4, rfl⟩
      rw [List.length_map] at hi
      have hi' : i < tab.length := by omega
      have e0 : (0 : Int) + (i : Int) = (i : Int) := by omega
      rfl'
      refine use_lled hT hG (by omega) (by omega) hu (use_lled hT hG (by omega) (by omega) hv ?_)
      rw [e0]
      rfl'
      refine ite2 (fun h => ?_) fun h j hj => ?_
      · rw [part_some hi' h hb] at q
        exact q
      · by_cases hj' : j < i
        · exact hb j hj'
        · have : j = i := by omega
          rw [this]
          exact Decidable.not_not.mp h
    · rintro σ H' ⟨rfl, hb, v4, rfl⟩
      rw [List.length_map] at hb
      rfl'
      rw [part_none fun j hj => hb j (by omega)] at q
      exact q
theorem comp_ints {te : TE} {ix : List Nat} {σ r : L2.St} {H : Hp} {Q : VK} {D : Addr} {m : Nat} (f : Nat → Int) (hσ : seen σ 1 ix = none :: r) (hD : H D = none) (hm : m ≤ 1000)
    (he : ∀ (k : Nat) (H' : Hp) (Q' : VK), k < m → Same H H' → Q' (.int (f k)) H' → te (some (.int (k : Int)) :: r) H' Q')
    (q : ∀ H', Same H H' → H' D = some (.lst (((List.range m).map f).map V.int)) → Q (.ref D) H') : CompR 0 m (gName 0) tYes te 1 ix σ H Q D := by
  have s16 := sl16
  refine CompR.by (fun i acc H' => Same H H' ∧ H' D = some (.lst acc) ∧ acc = ((List.range i).map f).map V.int) ⟨same_upd hD, upd_same, rfl⟩ ?_ ?_
  · rintro i acc H' hi ⟨hs, hH, rfl⟩
    rw [hσ]
    simp only [gName, tYes, List.set_cons_zero]
    refine ⟨keeps0, ?_⟩
    rw [if_pos trivial, Int.zero_add]
    refine he i H' _ hi hs ⟨hH, by rw [List.length_map, List.length_map, List.length_range]; omega, CNx.mk hi ⟨same_over hs hD, upd_same, ?_⟩⟩
    rw [List.range_succ, List.map_append, List.map_append]
    rfl
  · rintro acc H' ⟨hs, hH, rfl⟩
    exact q H' hs hH
theorem comp_tab {te : TE} {ix : List Nat} {σ r : L2.St} {H : Hp} {Q : VK} {D : Addr} {n : Nat} (f : Nat → List Int) (hσ : seen σ 1 ix = none :: r) (hD : H D = none) (hn : n ≤ 1000)
    (he : ∀ (k : Nat) (H' : Hp) (Q' : VK), k < n → Same H H' → (∀ (p : Addr) (H'' : Hp), Same H' H'' → H' p = none → H'' p = some (.lst ((f k).map V.int)) → Q' (.ref p) H'') → te (some (.int (k : Int)) :: r) H' Q')
    (q : ∀ (rs : List Addr) (H' : Hp), Same H H' → TabAt H' D rs ((List.range n).map f) → Q (.ref D) H') : CompR 0 n (gName 0) tYes te 1 ix σ H Q D := by
  have s16 := sl16
  refine CompR.by (fun i acc H' => ∃ rs' : List Addr, acc = rs'.map V.ref ∧ rs'.length = i ∧ Same H H' ∧ H' D = some (.lst acc) ∧ (∀ r ∈ rs', r ≠ D) ∧ ∀ (j : Nat) (r : Addr), rs'[j]? = some r → H' r = some (.lst ((f j).map V.int))) ⟨[], rfl, rfl, same_upd hD, upd_same, fun r h => (nomatch h), fun j r h => by simp at h⟩ ?_ ?_
  · rintro i acc H' hi ⟨rs', rfl, hil, hs, hH, hf, hr⟩
    rw [hσ]
    simp only [gName, tYes, List.set_cons_zero]
    refine ⟨keeps0, ?_⟩
    rw [if_pos trivial, Int.zero_add]
    refine he i H' _ hi hs fun p H5 s5 hp hp5 => ⟨s5 _ _ hH, by rw [List.length_map]; omega, CNx.mk hi ⟨rs' ++ [p], by rw [List.map_append]; rfl, by rw [List.length_append, hil]; rfl, same_over (hs.trans s5) hD, upd_same, ?_, ?_⟩⟩
    · intro r' hr'
      rcases List.mem_append.mp hr' with h' | h'
      · exact hf r' h'
      · rw [List.mem_singleton.mp h']
        exact fun e => by rw [e, hH] at hp; cases hp
    · intro j r' h1
      by_cases hj : j < i
      · rw [List.getElem?_append_left (by omega)] at h1
        rw [upd_ne (hf r' (List.mem_of_getElem? h1))]
        exact s5 _ _ (hr j r' h1)
      · rw [List.getElem?_append_right (by omega)] at h1
        have hj0 : j = i := by
          have := (List.getElem?_eq_some_iff.mp h1).1
          simp at this
          omega
        subst hj0
        rw [hil, Nat.sub_self] at h1
        cases h1
        rw [upd_ne (fun e => by rw [e, hH] at hp; cases hp)]
        exact hp5
  · rintro acc H' ⟨rs', rfl, hil, hs, hH, hf, hr⟩
    refine q rs' H' hs ⟨hH, by rw [List.length_map, List.length_range]; exact hil, fun j r' x h1 h2 => ?_⟩
    rw [List.getElem?_map] at h2
    obtain ⟨j', e, rfl⟩ := Option.map_eq_some_iff.mp h2
    have e2 : (List.range n)[j]? = some j := List.getElem?_range (by have := (List.getElem?_eq_some_iff.mp e).1; simpa using this)
    rw [e2] at e
    cases e
    exact hr _ r' h1
def sp_shape (K : PySem.W.Frag) : Sp := fun vs H Q _ => ∃ (a : Addr) (ns : List Int) (n m : Nat) (y : Int), vs = [.ref a, .int (n : Nat), .int (m : Nat), .int y] ∧ SqL K H a (ns.map V.int) ∧ 1 ≤ n ∧ n ≤ 8 ∧ m ≤ 26 ∧ ∀ (t : Addr) (rs : List Addr) (tab : List (List Int)) (H' : Hp), Same H H' → TabAt H' t rs tab → tab.length = n → (∀ x ∈ tab, x.length = m ∧ ∀ z ∈ x, 0 ≤ z ∧ z < (n : Int)) → Q (.ref t) H'
theorem sc_shape : FnScope ["_law_script", "_law_size", "_law_many", "_law_way", "_law_table"] ["_law_script", "_law_size", "_law_many", "_law_way"] (defScope s_shape) := ⟨rfl, rfl, rfl, by decide +kernel, rfl, by decide +kernel, by decide +kernel⟩
theorem ok_shape {f : Addr} {fd : FuncData} (B : Bt mg)  (F : Fun K "_law_shape" "_law_shape" s_shape f fd) (D_rows : Df P w K mg base CX0 2 "_law_rows" ["_law_script", "_law_size", "_law_many"] [] (sp_rows K)) : FnOk P w K mg base CX0 3 f fd ["_law_script", "_law_size", "_law_many", "_law_way"] (sp_shape K) := by
  refine F.ok sc_shape (fun vs H Q E h => ?_) (fun cdv A outer s H vs Q E hr h => ?_)
  · obtain ⟨a, ns, n, m, y, rfl, _⟩ := h
    rfl
  · obtain ⟨a, ns, n, m, y, rfl, hS, n1, n8, m26, q⟩ := h
    refine ⟨_, (pss_cut (ps_set (i := 4) sc_shape.nd rfl (Or.inr rfl) (cl0 D_rows hr .nil rfl (pa_cons (pv 0) (pa_cons (pv 1) (pa_cons (pv 2) pa_nil)))))
      (pss_cut (ps_if (pt_cmpR op_eq (pv 3) pe_int (nomark _))
        (pss_one (ps_ret (pe_compN (own := ["_law_room"]) (caps := ["_law_table", "_law_size", "_law_many"]) (ix := [4, 1, 2]) (tt := tYes) (te := (tComp (iRng1 (tCons (tVar 3) tNil)) (gName 0) tYes (tOp (rI (fun _ j => 0 < j) fun i j => .int (i % j)) (tOp rAddA (tVar 1) (tOp (rIx K) (tOp (rIx K) (tVar 2) (tC (.int 0))) (tVar 0))) (tVar 3)) 1 [0, 1, 2])) rfl (compOkN_of (sc := defScope s_shape) rfl (by decide +kernel) (by decide +kernel) (by decide +kernel) rfl (by decide +kernel) rfl) (pi_range1 rfl B.range (pa_cons (pv 1) pa_nil)) (fun _ _ _ _ _ _ => pg_name (i := 0) (show List.Nodup [_, _, _, _] by decide) rfl (Or.inr rfl) (Or.inl rfl)) (fun _ _ _ _ _ _ => pts_nil) (fun _ _ _ _ _ _ => (pe_comp (own := ["_law_k"]) (caps := ["_law_room", "_law_table", "_law_size"]) (ix := [0, 1, 2]) (tt := tYes) (te := (tOp (rI (fun _ j => 0 < j) fun i j => .int (i % j)) (tOp rAddA (tVar 1) (tOp (rIx K) (tOp (rIx K) (tVar 2) (tC (.int 0))) (tVar 0))) (tVar 3))) rfl (compOk_of rfl (by decide +kernel) (by decide +kernel) rfl rfl (by decide +kernel) (by decide +kernel) rfl) (pi_range1 rfl B.range (pa_cons (pv 3) pa_nil)) (fun _ _ _ _ _ _ => pg_name (i := 0) (show List.Nodup [_, _, _, _] by decide) rfl (Or.inl rfl)) (fun _ _ _ _ _ _ => pts_nil) (fun _ _ _ _ _ _ => (pe_op op_mod (pe_op op_addA (pv 1) (pe_ix ix_seq (pe_ix ix_seq (pv 2) pe_int (fun _ _ => rfl)) (pv 0) (fun _ _ => rfl))) (pv 3))))))))
        pss_nil)
      (pss_cut (ps_if (pt_cmpR op_eq (pv 3) pe_int (nomark _))
        (pss_one (ps_ret (pe_compN (own := ["_law_room"]) (caps := ["_law_table", "_law_many"]) (ix := [4, 2]) (tt := tYes) (te := (tComp (iRng1 (tCons (tVar 2) tNil)) (gName 0) tYes (tCB rMax2 (tCons (tVar 1) (tCons (tOp (rIx K) (tOp (rIx K) (tVar 2) (tC (.int 0))) (tVar 0)) tNil))) 1 [0, 1])) rfl (compOkN_of (sc := defScope s_shape) rfl (by decide +kernel) (by decide +kernel) (by decide +kernel) rfl (by decide +kernel) rfl) (pi_range1 rfl B.range (pa_cons (pv 1) pa_nil)) (fun _ _ _ _ _ _ => pg_name (i := 0) (show List.Nodup [_, _, _] by decide) rfl (Or.inr rfl) (Or.inl rfl)) (fun _ _ _ _ _ _ => pts_nil) (fun _ _ _ _ _ _ => (pe_comp (own := ["_law_k"]) (caps := ["_law_room", "_law_table"]) (ix := [0, 1]) (tt := tYes) (te := (tCB rMax2 (tCons (tVar 1) (tCons (tOp (rIx K) (tOp (rIx K) (tVar 2) (tC (.int 0))) (tVar 0)) tNil)))) rfl (compOk_of rfl (by decide +kernel) (by decide +kernel) rfl rfl (by decide +kernel) (by decide +kernel) rfl) (pi_range1 rfl B.range (pa_cons (pv 2) pa_nil)) (fun _ _ _ _ _ _ => pg_name (i := 0) (show List.Nodup [_, _, _] by decide) rfl (Or.inl rfl)) (fun _ _ _ _ _ _ => pts_nil) (fun _ _ _ _ _ _ => (pe_callB (c_max2 rfl) rfl B.max boot_max (pa_cons (pv 1) (pa_cons (pe_ix ix_seq (pe_ix ix_seq (pv 2) pe_int (fun _ _ => rfl)) (pv 0) (fun _ _ => rfl)) pa_nil)))))))))
        pss_nil)
      (pss_one (ps_ret (pv 4)))))), ?_⟩
    have s16 := sl16
    refine cut_by (fun σ H' => ∃ (t : Addr) (rs : List Addr) (tab : List (List Int)), Same H H' ∧ TabAt H' t rs tab ∧ tab.length = n ∧ (∀ x ∈ tab, x.length = m ∧ ∀ z ∈ x, 0 ≤ z ∧ z < (n : Int)) ∧ σ = [some (.ref a), some (.int (n : Nat)), some (.int (m : Nat)), some (.int y), some (.ref t)]) ?_ ?_
    · rfl'
      exact ⟨a, ns, n, m, rfl, hS, n1, n8, m26, fun t rs tab H' s' hT hl hr hf _ => ⟨s', t, rs, tab, hT, hl, hr, rfl⟩⟩
    rintro σ H1 ⟨t, rs, tab, s1, hT, htl, htr, rfl⟩
    refine cut_by (fun σ H' => H' = H1 ∧ σ = [some (.ref a), some (.int (n : Nat)), some (.int (m : Nat)), some (.int y), some (.ref t)]) ?_ ?_
    · rfl'
      refine ite2 (fun _ => ⟨by omega, by omega, fun D hD => ?_⟩) fun _ => trivial
      rw [Int.toNat_natCast]
      refine comp_tab (r := [some (.ref t), some (.int (n : Nat)), some (.int (m : Nat))]) (fun i => (List.range m).map fun k => ((i : Int) + (tab.headD []).getD k 0) % (n : Int)) rfl hD (by omega) (fun i H' Q' hi hs hq => ?_) fun rs H' s' hT' => q D rs _ H' (s1.trans s') hT' (by simp) fun x hx => ?_
      · obtain ⟨x0, rest, rfl⟩ : ∃ x0 rest, tab = x0 :: rest := by
          cases tab with
          | nil => simp at htl; omega
          | cons x0 rest => exact ⟨_, _, rfl⟩
        obtain ⟨hxl, hxb⟩ := htr x0 List.mem_cons_self
        obtain ⟨ra, x, e1, e2, e3⟩ := (hT.same hs).get (i := 0) (by omega) (by simp)
        cases e2
        rfl'
        refine ⟨by omega, by omega, fun D' hD' => ?_⟩
        rw [Int.toNat_natCast]
        refine comp_ints (r := [some (.int (i : Nat)), some (.ref t), some (.int (n : Nat))]) (fun k => ((i : Int) + x0.getD k 0) % (n : Int)) rfl hD' (by omega) (fun k H'' Q'' hk hs' hq' => ?_) fun H'' s'' hd => hq D' H'' s'' hD' hd
        have hx : x0[k]? = some (x0.getD k 0) := by rw [List.getD_eq_getElem?_getD, List.getElem?_eq_getElem (by omega)]; rfl
        rfl'
        exact .inl ⟨_, SqL.of ((hT.same hs).same hs').top, _, e1, .inl ⟨_, rfl, _, SqL.of (hs' _ _ e3), _, atI_nat (by rw [List.getElem?_map, hx]; rfl), _, rfl, by omega, hq'⟩⟩
      · obtain ⟨i, hi, rfl⟩ := List.mem_map.mp hx
        refine ⟨by simp, fun z hz => ?_⟩
        obtain ⟨k, hk, rfl⟩ := List.mem_map.mp hz
        exact ⟨Int.emod_nonneg _ (by omega), Int.emod_lt_of_pos _ (by omega)⟩
    rintro σ H2 ⟨rfl, rfl⟩
    refine cut_by (fun σ H' => H' = H2 ∧ σ = [some (.ref a), some (.int (n : Nat)), some (.int (m : Nat)), some (.int y), some (.ref t)]) ?_ ?_
    · rfl'
      refine ite2 (fun _ => ⟨by omega, by omega, fun D hD => ?_⟩) fun _ => trivial
      rw [Int.toNat_natCast]
      refine comp_tab (r := [some (.ref t), some (.int (m : Nat))]) (fun i => (List.range m).map fun k => if (tab.headD []).getD k 0 > (i : Int) then (tab.headD []).getD k 0 else (i : Int)) rfl hD (by omega) (fun i H' Q' hi hs hq => ?_) fun rs H' s' hT' => q D rs _ H' (s1.trans s') hT' (by simp) fun x hx => ?_
      · obtain ⟨x0, rest, rfl⟩ : ∃ x0 rest, tab = x0 :: rest := by
          cases tab with
          | nil => simp at htl; omega
          | cons x0 rest => exact ⟨_, _, rfl⟩
        obtain ⟨hxl, hxb⟩ := htr x0 List.mem_cons_self
        obtain ⟨ra, x, e1, e2, e3⟩ := (hT.same hs).get (i := 0) (by omega) (by simp)
        cases e2
        rfl'
        refine ⟨by omega, by omega, fun D' hD' => ?_⟩
        rw [Int.toNat_natCast]
        refine comp_ints (r := [some (.int (i : Nat)), some (.ref t)]) (fun k => if x0.getD k 0 > (i : Int) then x0.getD k 0 else (i : Int)) rfl hD' (by omega) (fun k H'' Q'' hk hs' hq' => ?_) fun H'' s'' hd => hq D' H'' s'' hD' hd
        have hx : x0[k]? = some (x0.getD k 0) := by rw [List.getD_eq_getElem?_getD, List.getElem?_eq_getElem (by omega)]; rfl
        rfl'
        exact .inl ⟨_, SqL.of ((hT.same hs).same hs').top, _, e1, .inl ⟨_, rfl, _, SqL.of (hs' _ _ e3), _, atI_nat (by rw [List.getElem?_map, hx]; rfl), _, rfl, hq'⟩⟩
      · obtain ⟨i, hi, rfl⟩ := List.mem_map.mp hx
        refine ⟨by simp, fun z hz => ?_⟩
        obtain ⟨k, hk, rfl⟩ := List.mem_map.mp hz
        obtain ⟨x0, rest, rfl⟩ : ∃ x0 rest, tab = x0 :: rest := by
          cases tab with
          | nil => simp at htl; omega
          | cons x0 rest => exact ⟨_, _, rfl⟩
        obtain ⟨hxl, hxb⟩ := htr x0 List.mem_cons_self
        have hkm : k < m := List.mem_range.mp hk
        have hin : i < n := List.mem_range.mp hi
        have hx : x0[k]? = some (x0.getD k 0) := by rw [List.getD_eq_getElem?_getD, List.getElem?_eq_getElem (by omega)]; rfl
        have := hxb _ (List.mem_of_getElem? hx)
        show 0 ≤ (if x0.getD k 0 > (i : Int) then x0.getD k 0 else (i : Int)) ∧ (if x0.getD k 0 > (i : Int) then x0.getD k 0 else (i : Int)) < (n : Int)
        by_cases h : x0.getD k 0 > (i : Int)
        · rw [if_pos h]
          exact this
        · rw [if_neg h]
          omega
    rintro σ H3 ⟨rfl, rfl⟩
    rfl'
    exact q t rs tab _ s1 hT htl htr
abbrev InL (l : List Nat) (u : List Nat) : Prop := ∀ c ∈ u, c ∈ l
structure RuO (l : List Nat) (tab : List (List Int)) (r : Rule) : Prop where
  l1 : InL l r.1
  l2 : InL l r.2
  n1 : r.1.length ≤ 3
  n2 : r.2.length ≤ 3
  pt : partT l tab r.1 r.2 = none
theorem part_self {l : List Nat} {tab : List (List Int)} {u : List Nat} : partT l tab u u = none := part_none fun _ _ => rfl
def sp_held (K : PySem.W.Frag) : Sp := fun vs H Q _ => ∃ (t : Addr) (rs : List Addr) (tab : List (List Int)) (l : List Nat) (c : Int), vs = [.ref t, .str (tx l), .int c] ∧ TabAt H t rs tab ∧ GoodT l tab ∧ 1 ≤ l.length ∧ l.length ≤ 6 ∧ 0 ≤ c ∧ ∀ (p : Addr) (r : Rule) (H' : Hp), Same H H' → SqT K H' p [.str (tx r.1), .str (tx r.2)] → RuO l tab r → Q (.ref p) H'
theorem sc_held : FnScope ["_law_table", "_law_letters_here", "_law_cell", "_law_first", "_law_second", "_law_one", "_law_turn", "_law_other"] ["_law_table", "_law_letters_here", "_law_cell"] (defScope s_held) := ⟨rfl, rfl, rfl, by decide +kernel, rfl, by decide +kernel, by decide +kernel⟩
theorem ok_held {f : Addr} {fd : FuncData} (B : Bt mg)  (F : Fun K "_law_held" "_law_held" s_held f fd) (D_word : Df P w K mg base CX0 1 "_law_word" ["_law_letters_here", "_law_cell", "_law_size"] [] sp_word) (D_parted : Df P w K mg base CX0 2 "_law_parted" ["_law_table", "_law_letters_here", "_law_one", "_law_other"] [] sp_lparted) : FnOk P w K mg base CX0 3 f fd ["_law_table", "_law_letters_here", "_law_cell"] (sp_held K) := by
  refine F.ok sc_held (fun vs H Q E h => ?_) (fun cdv A outer s H vs Q E hr h => ?_)
  · obtain ⟨t, rs, tab, l, c, rfl, _⟩ := h
    rfl
  · obtain ⟨t, rs, tab, l, c, rfl, hT, hG, l1, l6, c0, q⟩ := h
    refine ⟨_, (pss_cut (ps_if (pt_cmpR op_ge' (pv 2) (pe_op op_pow pe_int pe_int) (nomark _))
        (pss_cut (ps_set (i := 3) sc_held.nd rfl (Or.inl rfl) (cl0 D_word hr .nil rfl (pa_cons (pv 1) (pa_cons (pe_op op_mod (pe_op op_fdiv (pv 2) pe_int) pe_int) (pa_cons (pe_op op_mod (pv 2) pe_int) pa_nil)))))
        (pss_cut (ps_set (i := 4) sc_held.nd rfl (Or.inl rfl) (cl0 D_word hr .nil rfl (pa_cons (pv 1) (pa_cons (pe_op op_mod (pe_op op_fdiv (pv 2) pe_int) pe_int) (pa_cons (pe_op op_mod (pe_op op_fdiv (pv 2) pe_int) pe_int) pa_nil)))))
        (pss_one (ps_if (PW.pt (pw_and (pt_cmpR op_ne (pv 3) (pv 4) (nomark _)) (pw_and1 (pt_cmpR op_isN' (cl0 D_parted hr .nil rfl (pa_cons (pv 0) (pa_cons (pv 1) (pa_cons (pv 3) (pa_cons (pv 4) pa_nil))))) pe_non (nomark _)))))
          (pss_one (ps_ret (pe_tup (pa_cons (pv 3) (pa_cons (pv 4) pa_nil)))))
          pss_nil))))
        pss_nil)
      (pss_cut (ps_set (i := 5) sc_held.nd rfl (Or.inl rfl) (cl0 D_word hr .nil rfl (pa_cons (pv 1) (pa_cons (pe_op op_mod (pe_op op_mulA (pv 2) pe_int) pe_int) (pa_cons (pe_op op_mod (pv 2) pe_int) pa_nil)))))
      (pss_cut (ps_for PassesOwn.never rfl (pi_range1 rfl B.range (pa_cons pe_int pa_nil)) (pg_name (i := 6) sc_held.nd rfl (Or.inl rfl))
        (pss_cut (ps_set (i := 2) sc_held.nd rfl (Or.inl rfl) (pe_op op_mod (pe_op op_mulA (pe_op op_addA (pv 2) pe_int) pe_int) pe_int))
        (pss_cut (ps_set (i := 7) sc_held.nd rfl (Or.inl rfl) (cl0 D_word hr .nil rfl (pa_cons (pv 1) (pa_cons (pe_op op_fdiv (pv 2) pe_int) (pa_cons (pe_op op_mod (pv 2) pe_int) pa_nil)))))
        (pss_one (ps_if (PW.pt (pw_and (pt_cmpR op_ne (pv 7) (pv 5) (nomark _)) (pw_and1 (pt_cmpR op_isN' (cl0 D_parted hr .nil rfl (pa_cons (pv 0) (pa_cons (pv 1) (pa_cons (pv 5) (pa_cons (pv 7) pa_nil))))) pe_non (nomark _)))))
          (pss_one (ps_ret (pe_tup (pa_cons (pv 5) (pa_cons (pv 7) pa_nil)))))
          pss_nil)))))
      (pss_one (ps_ret (pe_tup (pa_cons (pv 5) (pa_cons (pv 5) pa_nil)))))))), ?_⟩
    have s16 := sl16
    have fin : ∀ {u v : List Nat}, (InL l u ∧ u.length ≤ 3) → (InL l v ∧ v.length ≤ 3) → partT l tab u v = none → ∀ p, H p = none → Q (.ref p) (upd H p (.tup [.str (tx u), .str (tx v)])) := fun hu hv hx p hp => q p (_, _) _ (same_upd hp) (SqT.of upd_same) ⟨hu.1, hv.1, hu.2, hv.2, hx⟩
    refine cut_by (fun σ H' => H' = H ∧ ∃ v3 v4, σ = [some (.ref t), some (.str (tx l)), some (.int c), v3, v4, none, none, none]) ?_ ?_
    · rfl'
      refine ⟨⟨by decide, by decide, by decide⟩, ite2 (fun _ => ?_) fun _ => trivial⟩
      refine cut_by (fun σ H' => H' = H ∧ ∃ u, (InL l u ∧ u.length ≤ 3) ∧ σ = [some (.ref t), some (.str (tx l)), some (.int c), some (.str (tx u)), none, none, none, none]) ?_ ?_
      · rfl'
        have e0 := Int.emod_nonneg c (b := 4) (by decide)
        have e1 := Int.emod_lt_of_pos c (b := 4) (by decide)
        exact ⟨⟨by decide, by decide⟩, by decide, by decide, use_word l1 (by omega) e0 (by omega) fun u hl hu => ⟨rfl, u, hu, by omega, rfl⟩⟩
      rintro σ H1 ⟨rfl, u, hu, rfl⟩
      refine cut_by (fun σ H' => H' = H1 ∧ ∃ v, (InL l v ∧ v.length ≤ 3) ∧ σ = [some (.ref t), some (.str (tx l)), some (.int c), some (.str (tx u)), some (.str (tx v)), none, none, none]) ?_ ?_
      · rfl'
        have e0 := Int.emod_nonneg (c / 4) (b := 4) (by decide)
        have e1 := Int.emod_lt_of_pos (c / 4) (b := 4) (by decide)
        exact ⟨⟨by decide, by decide⟩, by decide, ⟨by decide, by decide⟩, by decide, use_word l1 (by omega) e0 (by omega) fun u hl hu => ⟨rfl, u, hu, by omega, rfl⟩⟩
      rintro σ H2 ⟨rfl, v, hv, rfl⟩
      rfl'
      refine ite2 (fun _ => use_lparted hT hG hu.1 hv.1 ?_) fun _ => trivial
      cases e : partT l tab u v with
      | none =>
        simp only [vO]
        rfl'
        exact ⟨by omega, fun p hp => fin hu hv e p hp⟩
      | some r =>
        simp only [vO]
        rfl'
    rintro σ H1 ⟨rfl, v3, v4, rfl⟩
    refine cut_by (fun σ H' => H' = H1 ∧ ∃ u, (InL l u ∧ u.length ≤ 3) ∧ σ = [some (.ref t), some (.str (tx l)), some (.int c), v3, v4, some (.str (tx u)), none, none]) ?_ ?_
    · rfl'
      have e0 := Int.emod_nonneg c (b := 4) (by decide)
      have e1 := Int.emod_lt_of_pos c (b := 4) (by decide)
      exact ⟨.inr ⟨by decide, by decide⟩, by decide, by decide, use_word l1 (by omega) e0 (by omega) fun u hl hu => ⟨rfl, u, hu, by omega, rfl⟩⟩
    rintro σ H2 ⟨rfl, u, hu, rfl⟩
    refine cut_by (fun σ H' => H' = H2 ∧ ∃ (c : Int) (v6 v7 : Option V), σ = [some (.ref t), some (.str (tx l)), some (.int c), v3, v4, some (.str (tx u)), v6, v7]) ?_ ?_
    · rfl'
      refine ⟨by decide, by decide, ForR.by (fun i σ H' => H' = H2 ∧ ∃ (c : Int) (v6 v7 : Option V), σ = [some (.ref t), some (.str (tx l)), some (.int c), v3, v4, some (.str (tx u)), v6, v7]) ⟨rfl, _, _, _, rfl⟩ ?_ fun σ H' h => h⟩
      rintro i σ H' hi ⟨rfl, c1, v6, v7, rfl⟩
      simp only [gName, List.set_cons_succ, List.set_cons_zero]
      refine cut_by (fun σ G => G = H' ∧ ∃ (c : Int) (v6 : Option V), σ = [some (.ref t), some (.str (tx l)), some (.int c), v3, v4, some (.str (tx u)), v6, v7]) ?_ ?_
      · rfl'
        exact ⟨.inr ⟨by decide, by decide⟩, by decide⟩
      rintro σ G ⟨rfl, c2, v6', rfl⟩
      refine cut_by (fun σ G' => G' = G ∧ ∃ v, (InL l v ∧ v.length ≤ 3) ∧ σ = [some (.ref t), some (.str (tx l)), some (.int c2), v3, v4, some (.str (tx u)), v6', some (.str (tx v))]) ?_ ?_
      · rfl'
        have e0 := Int.emod_nonneg c2 (b := 4) (by decide)
        have e1 := Int.emod_lt_of_pos c2 (b := 4) (by decide)
        exact ⟨⟨by decide, by decide⟩, by decide, use_word l1 (by omega) e0 (by omega) fun u hl hu => ⟨rfl, u, hu, by omega, rfl⟩⟩
      rintro σ G1 ⟨rfl, v, hv, rfl⟩
      rfl'
      refine ite2 (fun _ => use_lparted hT hG hu.1 hv.1 ?_) fun _ => trivial
      cases e : partT l tab u v with
      | none =>
        simp only [vO]
        rfl'
        exact ⟨by omega, fun p hp => fin hu hv e p hp⟩
      | some r =>
        simp only [vO]
        rfl'
    rintro σ H3 ⟨rfl, c', v6, v7, rfl⟩
    rfl'
    exact ⟨by omega, fun p hp => fin hu hu part_self p hp⟩
def Spots (w v : List Nat) (ks : List Int) : Prop := ∀ k ∈ ks, ∃ a b : List Nat, k = (a.length : Int) ∧ w = a ++ v ++ b
def sp_atall (K : PySem.W.Frag) : Sp := fun vs H Q _ => ∃ (w v : List Nat), vs = [.str (tx w), .str (tx v)] ∧ w.length ≤ 12 ∧ v.length ≤ 3 ∧ ∀ (D : Addr) (ks : List Int) (H' : Hp), Same H H' → H' D = some (.lst (ks.map V.int)) → ks.length ≤ 13 → Spots w v ks → Q (.ref D) H'
theorem sc_at_all : FnScope ["_law_word_here", "_law_part"] ["_law_word_here", "_law_part"] (defScope s_at_all) := ⟨rfl, rfl, rfl, by decide +kernel, rfl, by decide +kernel, by decide +kernel⟩
theorem ok_at_all {f : Addr} {fd : FuncData} (B : Bt mg)  (F : Fun K "_law_at_all" "_law_at_all" s_at_all f fd)  : FnOk P w K mg base CX0 1 f fd ["_law_word_here", "_law_part"] (sp_atall K) := by
  refine F.ok sc_at_all (fun vs H Q E h => ?_) (fun cdv A outer s H vs Q E hr h => ?_)
  · obtain ⟨w, v, rfl, _⟩ := h
    rfl
  · obtain ⟨w, v, rfl, hw, hv, q⟩ := h
    refine ⟨_, (pss_one (ps_ret (pe_comp (own := ["_law_at"]) (caps := ["_law_word_here", "_law_part"]) (ix := [0, 1]) (tt := (tBl (tOp rEq (tSl (rSlA K) (tVar 1) (tPart (tVar 0)) (tPart (tOp rAddA (tVar 0) (tCB (rLen K) (tCons (tVar 2) tNil))))) (tVar 2)))) (te := (tVar 0)) rfl (compOk_of (sc := defScope s_at_all) rfl (by decide +kernel) (by decide +kernel) (by decide +kernel) rfl (by decide +kernel) (by decide +kernel) rfl) (pi_range1 rfl B.range (pa_cons (pe_op op_addA (pe_callB c_len rfl B.len PySem.boot_len (pa_cons (pv 0) pa_nil)) pe_int) pa_nil)) (fun _ _ _ _ _ _ => pg_name (i := 0) (show List.Nodup [_, _, _] by decide) rfl (Or.inl rfl)) (fun _ _ _ _ _ _ => (pts_one (pt_cmpR op_eq (pe_slice sl_any (pv 1) (po_some (pv 0)) (po_some (pe_op op_addA (pv 0) (pe_callB c_len rfl B.len PySem.boot_len (pa_cons (pv 2) pa_nil))))) (pv 2) (nomark _)))) (fun _ _ _ _ _ _ => (pv 0))))), ?_⟩
    have s16 := sl16
    rfl'
    refine ⟨by omega, by omega, by omega, fun D hD => ?_⟩
    have e1 : ((w.length : Int) + 1).toNat = w.length + 1 := by omega
    rw [e1]
    refine CompR.by (fun i acc H' => Same H H' ∧ H' D = some (.lst acc) ∧ ∃ ks : List Int, acc = ks.map V.int ∧ ks.length ≤ i ∧ Spots w v ks) ⟨same_upd hD, upd_same, [], rfl, Nat.le_refl _, fun k h => (nomatch h)⟩ ?_ ?_
    · rintro i acc H' hi ⟨hs, hH, ks, rfl, hl, hk⟩
      rfl'
      rw [Int.zero_add]
      refine ⟨keeps0, by omega, by omega, ite2 (fun he => ⟨hH, by rw [List.length_map]; omega, CNx.mk hi ⟨same_over hs hD, upd_same, ks ++ [(i : Int)], by rw [List.map_append]; rfl, by rw [List.length_append]; simp only [List.length_cons, List.length_nil]; omega, fun k hk' => ?_⟩⟩) fun _ => CNx.mk hi ⟨hs, hH, ks, rfl, by omega, hk⟩⟩
      rcases List.mem_append.mp hk' with h | h
      · exact hk k h
      · rw [List.mem_singleton.mp h]
        rw [cut_an _ (by omega) (by omega)] at he
        have e2 : ((i : Int) + (v.length : Int) - (i : Int)).toNat = v.length := by omega
        rw [e2, Int.toNat_natCast] at he
        refine ⟨w.take i, (w.drop i).drop v.length, by rw [List.length_take]; omega, ?_⟩
        calc w = w.take i ++ w.drop i := (List.take_append_drop i w).symm
          _ = w.take i ++ ((w.drop i).take v.length ++ (w.drop i).drop v.length) := by rw [List.take_append_drop v.length (w.drop i)]
          _ = w.take i ++ v ++ (w.drop i).drop v.length := by rw [he, List.append_assoc]
    · rintro acc H' ⟨hs, hH, ks, rfl, hl, hk⟩
      exact q D ks H' hs hH (by omega) hk
def EvP (ps : List Rule) : Prop := ∀ p ∈ ps, p.1.length % 2 = p.2.length % 2
structure RuS (l : List Nat) (tab : List (List Int)) (ps : List Rule) (u v : List Nat) : Prop where
  l1 : InL l u
  l2 : InL l v
  n1 : u.length ≤ 3
  n2 : v.length ≤ 3
  pt : ∀ j : Nat, j < tab.length → ledT l tab (j : Int) u = ledT l tab (j : Int) v
  ev : EvP ps → u.length % 2 = v.length % 2
theorem RuS.symm {l : List Nat} {tab : List (List Int)} {ps : List Rule} {u v : List Nat} (h : RuS l tab ps u v) : RuS l tab ps v u := ⟨h.l2, h.l1, h.n2, h.n1, fun j hj => (h.pt j hj).symm, fun e => (h.ev e).symm⟩
theorem RuO.s {l : List Nat} {tab : List (List Int)} {ps : List Rule} {r : Rule} (h : RuO l tab r) (hm : r ∈ ps) : RuS l tab ps r.1 r.2 := ⟨h.l1, h.l2, h.n1, h.n2, part_iff.mp h.pt, fun e => e r hm⟩
structure Kw (l : List Nat) (tab : List (List Int)) (ps : List Rule) (w0 w : List Nat) : Prop where
  le : w.length ≤ 12
  inl : InL l w
  led : ∀ j : Nat, j < tab.length → ledT l tab (j : Int) w = ledT l tab (j : Int) w0
  ev : EvP ps → w.length % 2 = w0.length % 2
theorem led_app {l : List Nat} {tab : List (List Int)} {r : Int} {u v : List Nat} : ledT l tab r (u ++ v) = ledT l tab (ledT l tab r u) v := List.foldl_append ..
theorem Kw.use {l : List Nat} {tab : List (List Int)} {ps : List Rule} {w0 a b u v : List Nat} (hG : GoodT l tab) (h : Kw l tab ps w0 (a ++ u ++ b)) (r : RuS l tab ps u v) (hle : (a ++ v ++ b).length ≤ 12) : Kw l tab ps w0 (a ++ v ++ b) := by
  have ia : InL l a := fun c hc => h.inl c (by simp [hc])
  have ib : InL l b := fun c hc => h.inl c (by simp [hc])
  refine ⟨hle, fun c hc => ?_, fun j hj => ?_, fun e => ?_⟩
  · rcases List.mem_append.mp hc with hc | hc
    · rcases List.mem_append.mp hc with hc | hc
      · exact ia c hc
      · exact r.l2 c hc
    · exact ib c hc
  · rw [← h.led j hj, led_app, led_app, led_app, led_app]
    obtain ⟨h1, h2⟩ := ledT_ok hG (w := a) (r := (j : Int)) (by omega) (by omega) ia
    obtain ⟨n, hn⟩ := Int.eq_ofNat_of_zero_le h1
    have e : ledT l tab (j : Int) a = ((n : Nat) : Int) := hn
    rw [e] at h2 ⊢
    rw [r.pt n (by omega)]
  · have e1 := h.ev e
    have e2 := r.ev e
    simp only [List.length_append] at e1 ⊢
    omega
abbrev tW (ws : List (List Nat)) : List V := ws.map fun w => V.str (tx w)
def sp_chain (K : PySem.W.Frag) : Sp := fun vs H Q _ => ∃ (A cs : Addr) (l : List Nat) (tab : List (List Int)) (ps : List Rule) (w0 : List Nat) (ns : List Int), vs = [.ref A, .str (tx w0), .ref cs] ∧ LsA K H A (ps.map dR) ∧ H cs = some (.lst (ns.map V.int)) ∧ GoodT l tab ∧ ps.length ≤ 5 ∧ (∀ p ∈ ps, RuO l tab p) ∧ w0.length ≤ 12 ∧ InL l w0 ∧ ns.length ≤ 55 ∧
  ∀ (D : Addr) (ws : List (List Nat)) (H' : Hp), Same H H' → H' D = some (.lst (tW (w0 :: ws))) → ws.length ≤ 55 → (∀ w ∈ w0 :: ws, Kw l tab ps w0 w) → Q (.ref D) H'
def ChS (l : List Nat) (tab : List (List Int)) (ps : List Rule) (w0 : List Nat) (H : Hp) (D A cs : Addr) (n : Nat) (σ : L2.St) (H' : Hp) : Prop := ∃ (ws : List (List Nat)) (w : List Nat) (v4 v5 v6 v7 v8 v9 v10 : Option V), Same H H' ∧ H' D = some (.lst (tW (w0 :: ws))) ∧ ws.length ≤ n ∧ (∀ w ∈ w0 :: ws, Kw l tab ps w0 w) ∧ Kw l tab ps w0 w ∧ σ = [some (.ref A), some (.str (tx w)), some (.ref cs), some (.ref D), v4, v5, v6, v7, v8, v9, v10]
theorem sc_chain : FnScope ["_law_pacts", "_law_word_here", "_law_cells", "_law_chain_here", "_law_raw", "_law_cell", "_law_left", "_law_right", "_law_spots", "_law_at", "_law_new"] ["_law_pacts", "_law_word_here", "_law_cells"] (defScope s_chain) := ⟨rfl, rfl, rfl, by decide +kernel, rfl, by decide +kernel, by decide +kernel⟩
theorem ok_chain {f : Addr} {fd : FuncData} (B : Bt mg)  (F : Fun K "_law_chain" "_law_chain" s_chain f fd) (D_at_all : Df P w K mg base CX0 1 "_law_at_all" ["_law_word_here", "_law_part"] [] (sp_atall K)) : FnOk P w K mg base CX0 2 f fd ["_law_pacts", "_law_word_here", "_law_cells"] (sp_chain K) := by
  refine F.ok sc_chain (fun vs H Q E h => ?_) (fun cdv A outer s H vs Q E hr h => ?_)
  · obtain ⟨A, cs, l, tab, ps, w0, ns, rfl, _⟩ := h
    rfl
  · obtain ⟨A, cs, l, tab, ps, w0, ns, rfl, hA, hc, hG, h5, hp, hw0, hl0, h55, q⟩ := h
    refine ⟨_, (pss_cut (ps_set (i := 3) sc_chain.nd rfl (Or.inl rfl) (pe_lst (pa_cons (pv 1) pa_nil)))
      (pss_cut (ps_for PassesOwn.never rfl (pi_list (pv 2)) (pg_name (i := 4) sc_chain.nd rfl (Or.inl rfl))
        (pss_cut (ps_set (i := 5) sc_chain.nd rfl (Or.inl rfl) (pe_op op_mod (pv 4) (pe_op op_pow pe_int pe_int)))
        (pss_one (ps_if (pt_cmpR (op_neL (room100 hr)) (pv 0) (pe_lst pa_nil) (nomark _))
          (pss_cut (ps_asg (pe_ix ix_list (pv 0) (pe_op op_mod (pv 5) (pe_callB c_len rfl B.len PySem.boot_len (pa_cons (pv 0) pa_nil))) (fun _ _ => rfl)) (pg_tup (n := 2) rfl (pgs_cons (pg_name (i := 6) sc_chain.nd rfl (Or.inl rfl)) (pgs_cons (pg_name (i := 7) sc_chain.nd rfl (Or.inl rfl)) pgs_nil))))
          (pss_cut (ps_if (pt_cmpR op_eq (pe_op op_mod (pe_op op_fdiv (pv 5) (pe_callB c_len rfl B.len PySem.boot_len (pa_cons (pv 0) pa_nil))) pe_int) pe_int (nomark _))
            (pss_one (ps_par (i := 6) (j := 7) rfl sc_chain.nd rfl rfl (by decide) rfl rfl (pa_cons (pv 7) (pa_cons (pv 6) pa_nil)) (by rfl)))
            pss_nil)
          (pss_cut (ps_set (i := 8) sc_chain.nd rfl (Or.inl rfl) (cl0 D_at_all hr .nil rfl (pa_cons (pv 1) (pa_cons (pv 6) pa_nil))))
          (pss_one (ps_if (pt_cmpR (op_neL (room100 hr)) (pv 8) (pe_lst pa_nil) (nomark _))
            (pss_cut (ps_set (i := 9) sc_chain.nd rfl (Or.inl rfl) (pe_ix ix_list (pv 8) (pe_op op_mod (pe_op op_fdiv (pe_op op_fdiv (pv 5) (pe_callB c_len rfl B.len PySem.boot_len (pa_cons (pv 0) pa_nil))) pe_int) (pe_callB c_len rfl B.len PySem.boot_len (pa_cons (pv 8) pa_nil))) (fun _ _ => rfl)))
            (pss_cut (ps_set (i := 10) sc_chain.nd rfl (Or.inl rfl) (pe_op op_addA (pe_op op_addA (pe_slice sl_any (pv 1) po_none (po_some (pv 9))) (pv 7)) (pe_slice sl_any (pv 1) (po_some (pe_op op_addA (pv 9) (pe_callB c_len rfl B.len PySem.boot_len (pa_cons (pv 6) pa_nil)))) po_none)))
            (pss_one (ps_if (pt_cmpR op_leA (pe_callB c_len rfl B.len PySem.boot_len (pa_cons (pv 10) pa_nil)) pe_int (nomark _))
              (pss_cut (ps_set (i := 1) sc_chain.nd rfl (Or.inl rfl) (pv 10))
              (pss_one (ps_expr (pe_bm PySem.F.plainAttrs_list PySem.F.slot_list_append PySem.F.type_list_append mt_append (pv 3) (pa_cons (pv 1) pa_nil)))))
              pss_nil))))
            pss_nil)))))
          pss_nil))))
      (pss_one (ps_ret (pv 3))))), ?_⟩
    have s16 := sl16
    have c10 : CPow 10 15 := ⟨by decide, by decide, by decide⟩
    have p10 : (0 : Int) < 10 ^ Int.toNat 15 := by decide
    have k0 : Kw l tab ps w0 w0 := ⟨hw0, hl0, fun _ _ => rfl, fun _ => rfl⟩
    refine cut_by (fun σ H' => ∃ D : Addr, H D = none ∧ Same H H' ∧ H' D = some (.lst (tW [w0])) ∧ σ = [some (.ref A), some (.str (tx w0)), some (.ref cs), some (.ref D), none, none, none, none, none, none, none]) ?_ ?_
    · rfl'
      exact ⟨by omega, fun p hp => ⟨p, hp, same_upd hp, upd_same, rfl⟩⟩
    rintro σ H1 ⟨D, hD, s1, hD1, rfl⟩
    refine cut_by (ChS l tab ps w0 H D A cs 55) ?_ ?_
    · rfl'
      refine ⟨⟨_, SqL.of (s1 _ _ hc)⟩, ForL.by (xs := ns.map V.int) (fun i => ChS l tab ps w0 H D A cs i) ⟨[], w0, none, none, none, none, none, none, none, s1, hD1, Nat.le_refl _, fun w h => by rw [List.mem_singleton.mp h]; exact k0, k0, rfl⟩ (fun i σ H' _ h => by obtain ⟨_, _, _, _, _, _, _, _, _, hs, _⟩ := h; exact SqL.of (hs _ _ hc)) ?_ ?_⟩
      · rintro i x σ H' hx ⟨ws, w, v4, v5, v6, v7, v8, v9, v10, hs, hH, hwl, hws, hw, rfl⟩
        have hi := (List.getElem?_eq_some_iff.mp hx).1
        rw [List.length_map] at hi
        rw [List.getElem?_map] at hx
        obtain ⟨z, _, rfl⟩ := Option.map_eq_some_iff.mp hx
        simp only [gName, List.set_cons_succ, List.set_cons_zero]
        refine cut_by (fun σ G => G = H' ∧ ∃ c : Int, 0 ≤ c ∧ σ = [some (.ref A), some (.str (tx w)), some (.ref cs), some (.ref D), some (.int z), some (.int c), v6, v7, v8, v9, v10]) ?_ ?_
        · rfl'
          exact ⟨c10, p10, Int.emod_nonneg _ (by decide)⟩
        rintro σ G ⟨rfl, c, hc0, rfl⟩
        have hA' := hA.same hs
        have stay : ∀ {G' : Hp} {v4 v5 v6 v7 v8 v9 v10 : Option V}, Same G G' → ChS l tab ps w0 H D A cs (i + 1) [some (.ref A), some (.str (tx w)), some (.ref cs), some (.ref D), v4, v5, v6, v7, v8, v9, v10] G' := fun {G' v4 v5 v6 v7 v8 v9 v10} sG => ⟨ws, w, v4, v5, v6, v7, v8, v9, v10, hs.trans sG, sG _ _ hH, by omega, hws, hw, rfl⟩
        rfl'
        refine ⟨Nat.zero_le _, fun e he => use_neL (m := []) (.inl ⟨(hA'.same (same_upd he)).is, LsA.nil.is⟩) (Nat.lt_of_le_of_lt (dp_dRs _) (by decide)) ⟨_, rfl, ?_⟩⟩
        by_cases hne : ps = []
        · subst hne
          rw [if_neg (by simp only [List.map_nil, eqDs]; decide)]
          exact stay (same_upd he)
        have hnb : (!eqDs (ps.map dR) []) = true := by
          cases ps with
          | nil => exact absurd rfl hne
          | cons p0 pr => simp only [List.map_cons, eqDs]; rfl
        rw [if_pos hnb]
        have sG : Same G (upd G e (.lst [])) := same_upd he
        generalize upd G e (.lst []) = G1 at sG
        have hps : 1 ≤ ps.length := by
          cases ps with
          | nil => exact absurd rfl hne
          | cons p0 pr => simp
        obtain ⟨xs, hX, hI⟩ := hA'.same sG
        have hxl := hI.len
        rw [List.length_map] at hxl
        refine cut_by (fun σ G' => G' = G1 ∧ ∃ u v : List Nat, RuS l tab ps u v ∧ σ = [some (.ref A), some (.str (tx w)), some (.ref cs), some (.ref D), some (.int z), some (.int c), some (.str (tx u)), some (.str (tx v)), v8, v9, v10]) ?_ ?_
        · have b1 := Int.emod_nonneg c (b := (xs.length : Int)) (by omega)
          have b2 := Int.emod_lt_of_pos c (b := (xs.length : Int)) (by omega)
          obtain ⟨x, e1, e2⟩ := atI_of b1 b2
          obtain ⟨r, pr, hri, rfl, hqr⟩ := hI.getR e2
          rfl'
          exact ⟨_, .inl ⟨_, SqL.of hX, rfl⟩, by omega, _, SqL.of hX, _, e1, _, rfl, _, hqr, rfl, _, _, rfl, _, _, rfl, rfl, _, _, (hp r (List.mem_of_getElem? hri)).s (List.mem_of_getElem? hri), rfl, rfl⟩
        rintro σ G2 ⟨rfl, u, v, huv, rfl⟩
        refine cut_by (fun σ G' => G' = G2 ∧ ∃ u v : List Nat, RuS l tab ps u v ∧ σ = [some (.ref A), some (.str (tx w)), some (.ref cs), some (.ref D), some (.int z), some (.int c), some (.str (tx u)), some (.str (tx v)), v8, v9, v10]) ?_ ?_
        · rfl'
          refine ⟨_, .inl ⟨_, SqL.of hX, rfl⟩, ⟨by omega, by omega⟩, by decide, ite2 (fun _ => ⟨_, _, huv.symm, rfl, rfl⟩) fun _ => ⟨_, _, huv, rfl, rfl⟩⟩
        clear huv
        rintro σ G3 ⟨rfl, u, v, huv, rfl⟩
        have u3 := huv.n1
        have v3 := huv.n2
        have w12 := hw.le
        refine cut_by (fun σ G' => Same G3 G' ∧ ∃ (S : Addr) (ks : List Int), G' S = some (.lst (ks.map V.int)) ∧ ks.length ≤ 13 ∧ Spots w u ks ∧ σ = [some (.ref A), some (.str (tx w)), some (.ref cs), some (.ref D), some (.int z), some (.int c), some (.str (tx u)), some (.str (tx v)), some (.ref S), v9, v10]) ?_ ?_
        · rfl'
          exact ⟨w, u, rfl, w12, u3, fun S ks H' s' hS hk hsp => ⟨s', S, ks, hS, hk, hsp, rfl⟩⟩
        rintro σ G4 ⟨s4, S, ks, hS, hk, hsp, rfl⟩
        rfl'
        refine ⟨Nat.zero_le _, fun e he => use_neL (m := []) (l := ks.map L3.D.int) (.inl ⟨(is_intsL hS).same (same_upd he), LsA.nil.is⟩) (by rw [dp_ints]; decide) ⟨_, rfl, ?_⟩⟩
        by_cases hkn : ks = []
        · subst hkn
          rw [if_neg (by simp only [List.map_nil, eqDs]; decide)]
          exact stay (sG.trans (s4.trans (same_upd he)))
        have hnk : (!eqDs (ks.map L3.D.int) []) = true := by
          cases ks with
          | nil => exact absurd rfl hkn
          | cons p0 pr => simp only [List.map_cons, eqDs]; rfl
        have hk1 : 1 ≤ ks.length := by
          cases ks with
          | nil => exact absurd rfl hkn
          | cons p0 pr => simp
        rw [if_pos hnk]
        have s5 : Same G4 (upd G4 e (.lst [])) := same_upd he
        generalize upd G4 e (.lst []) = G5 at s5
        have sG5 : Same G G5 := sG.trans (s4.trans s5)
        have hS5 := s5 _ _ hS
        have hX5 : G5 A = some (.lst xs) := s5 _ _ (s4 _ _ hX)
        refine cut_by (fun σ G' => G' = G5 ∧ ∃ a b : List Nat, w = a ++ u ++ b ∧ σ = [some (.ref A), some (.str (tx w)), some (.ref cs), some (.ref D), some (.int z), some (.int c), some (.str (tx u)), some (.str (tx v)), some (.ref S), some (.int (a.length : Nat)), v10]) ?_ ?_
        · have b1 := Int.emod_nonneg (c / (xs.length : Int) / 2) (b := ((ks.map V.int).length : Int)) (by rw [List.length_map]; omega)
          have b2 := Int.emod_lt_of_pos (c / (xs.length : Int) / 2) (b := ((ks.map V.int).length : Int)) (by rw [List.length_map]; omega)
          obtain ⟨x, e1, e2⟩ := atI_of b1 b2
          rw [List.getElem?_map] at e2
          obtain ⟨k, hkk, rfl⟩ := Option.map_eq_some_iff.mp e2
          obtain ⟨a, b, rfl, hab⟩ := hsp k (List.mem_of_getElem? hkk)
          rfl'
          exact ⟨_, .inl ⟨_, SqL.of hX5, rfl⟩, ⟨by omega, by omega⟩, ⟨by decide, by decide⟩, _, .inl ⟨_, SqL.of hS5, rfl⟩, by rw [List.length_map]; omega, _, SqL.of hS5, _, e1, a, ⟨b, hab⟩, rfl⟩
        rintro σ G6 ⟨rfl, a, b, hab, rfl⟩
        refine cut_by (fun σ G' => G' = G6 ∧ σ = [some (.ref A), some (.str (tx w)), some (.ref cs), some (.ref D), some (.int z), some (.int c), some (.str (tx u)), some (.str (tx v)), some (.ref S), some (.int (a.length : Nat)), some (.str (tx (a ++ v ++ b)))]) ?_ ?_
        · rfl'
          have e1 : cut w none (some (a.length : Int)) = a := by rw [cut_to _ (by omega), Int.toNat_natCast, hab, List.append_assoc, List.take_left]
          have e2 : cut w (some ((a.length : Int) + (u.length : Int))) none = b := by
            have : ((a.length : Int) + (u.length : Int)).toNat = (a ++ u).length := by rw [List.length_append]; omega
            rw [cut_from _ (by omega), this, hab, List.drop_left]
          have hlen : a.length + u.length + b.length ≤ 12 := by
            have := w12
            rw [hab, List.length_append, List.length_append] at this
            exact this
          rw [e1, e2]
          refine ⟨by omega, by omega, by omega, by omega, by rw [List.length_append]; omega, rfl⟩
        rintro σ G7 ⟨rfl, rfl⟩
        rfl'
        have hlen : a.length + u.length + b.length ≤ 12 := by
          have := w12
          rw [hab, List.length_append, List.length_append] at this
          exact this
        refine ⟨by rw [List.length_append, List.length_append]; omega, ite2 (fun h12 => ?_) fun _ => stay sG5⟩
        have hnew : Kw l tab ps w0 (a ++ v ++ b) := Kw.use hG (by rw [← hab]; exact hw) huv (by omega)
        refine cut_by (fun σ G' => G' = G7 ∧ σ = [some (.ref A), some (.str (tx (a ++ v ++ b))), some (.ref cs), some (.ref D), some (.int z), some (.int c), some (.str (tx u)), some (.str (tx v)), some (.ref S), some (.int (a.length : Nat)), some (.str (tx (a ++ v ++ b)))]) ?_ ?_
        · rfl'
        rintro σ G8 ⟨rfl, rfl⟩
        rfl'
        have hH8 := sG5 _ _ hH
        refine ⟨.inl ⟨_, SqL.of hH8⟩, _, hH8, by simp only [tW, List.length_map, List.length_cons]; omega, ws ++ [a ++ v ++ b], a ++ v ++ b, _, _, _, _, _, _, _, same_over (hs.trans sG5) hD, ?_, ?_, ?_, hnew, rfl⟩
        · rw [upd_same]
          simp [tW]
        · rw [List.length_append]
          simp only [List.length_cons, List.length_nil]
          omega
        · intro w' hw'
          rcases List.mem_cons.mp hw' with h | h
          · rw [h]; exact k0
          · rcases List.mem_append.mp h with h | h
            · exact hws w' (List.mem_cons_of_mem _ h)
            · rw [List.mem_singleton.mp h]; exact hnew
      · rintro σ H' ⟨ws, w, v4, v5, v6, v7, v8, v9, v10, hs, hH, hwl, hws, hw, rfl⟩
        rw [List.length_map] at hwl
        exact ⟨ws, w, v4, v5, v6, v7, v8, v9, v10, hs, hH, by omega, hws, hw, rfl⟩
    rintro σ H2 ⟨ws, w, v4, v5, v6, v7, v8, v9, v10, hs, hH, hwl, hws, hw, rfl⟩
    rfl'
    exact q D ws H2 hs hH hwl hws
def sp_even (K : PySem.W.Frag) : Sp := fun vs H Q _ => ∃ (A : Addr) (ps : List Rule), vs = [.ref A] ∧ LsA K H A (ps.map dR) ∧ (∀ p ∈ ps, p.1.length ≤ 3 ∧ p.2.length ≤ 3) ∧ ∀ b : Bool, (b = true → EvP ps) → Q (.bl b) H
theorem sc_even : FnScope ["_law_pacts", "_law_one", "_law_other"] ["_law_pacts"] (defScope s_even) := ⟨rfl, rfl, rfl, by decide +kernel, rfl, by decide +kernel, by decide +kernel⟩
theorem ok_even {f : Addr} {fd : FuncData} (B : Bt mg)  (F : Fun K "_law_even" "_law_even" s_even f fd)  : FnOk P w K mg base CX0 1 f fd ["_law_pacts"] (sp_even K) := by
  refine F.ok sc_even (fun vs H Q E h => ?_) (fun cdv A outer s H vs Q E hr h => ?_)
  · obtain ⟨A, ps, rfl, _⟩ := h
    rfl
  · obtain ⟨A, ps, rfl, hA, hl, q⟩ := h
    refine ⟨_, (pss_cons (ps_for PassesOwn.never rfl (pi_list (pv 0)) (pg_tup (n := 2) rfl (pgs_cons (pg_name (i := 1) sc_even.nd rfl (Or.inl rfl)) (pgs_cons (pg_name (i := 2) sc_even.nd rfl (Or.inl rfl)) pgs_nil)))
        (pss_one (ps_if (pt_cmpR op_ne (pe_op op_mod (pe_callB c_len rfl B.len PySem.boot_len (pa_cons (pv 1) pa_nil)) pe_int) (pe_op op_mod (pe_callB c_len rfl B.len PySem.boot_len (pa_cons (pv 2) pa_nil)) pe_int) (nomark _))
          (pss_one (ps_ret pe_bl))
          pss_nil)))
      (pss_one (ps_ret pe_bl))), ?_⟩
    have s16 := sl16
    obtain ⟨xs, hX, hI⟩ := id hA
    have hxl := hI.len
    rw [List.length_map] at hxl
    rfl'
    refine ⟨⟨_, SqL.of hX⟩, ForL.by (xs := xs) (fun i σ H' => H' = H ∧ (∀ (j : Nat) (p : Rule), j < i → ps[j]? = some p → p.1.length % 2 = p.2.length % 2) ∧ ∃ v1 v2, σ = [some (.ref A), v1, v2]) ⟨rfl, fun j p h => absurd h (Nat.not_lt_zero j), _, _, rfl⟩ (fun i σ H' _ h => by rw [h.1]; exact SqL.of hX) ?_ ?_⟩
    · rintro i x σ H' hx ⟨rfl, hb, v1, v2, rfl⟩
      obtain ⟨r, pr, hri, rfl, hqr⟩ := hI.getR hx
      have hm := hl r (List.mem_of_getElem? hri)
      rfl'
      refine ⟨_, hqr, rfl, _, _, rfl, _, _, rfl, rfl, _, ⟨by rw [len_tx]; omega, rfl⟩, by decide, _, ⟨by rw [len_tx]; omega, rfl⟩, by decide, ite2 (fun _ => q false fun h => (nomatch h)) fun he => fun j p hj hjp => ?_⟩
      rw [len_tx, len_tx] at he
      by_cases hji : j < i
      · exact hb j p hji hjp
      · have : j = i := by omega
        rw [this, hri] at hjp
        cases hjp
        omega
    · rintro σ H' ⟨rfl, hb, v1, v2, rfl⟩
      rfl'
      exact q true fun _ p hp => by
        obtain ⟨j, hj⟩ := List.mem_iff_getElem?.mp hp
        exact hb j p (by have := (List.getElem?_eq_some_iff.mp hj).1; omega) hj
theorem part_re {l : List Nat} {tab : List (List Int)} (hG : GoodT l tab) {u v : List Nat} (hu : InL l u) (hv : InL l v) (h : ∀ j : Nat, j < tab.length → ledT l tab (j : Int) u = ledT l tab (j : Int) v) : partT l (reT tab) u v = none := by
  have hB := met_bs hG
  refine part_none fun j hj => ?_
  rw [re_len] at hj
  have hm : (metT tab)[j] ∈ metT tab := List.getElem_mem hj
  have hn : numT (metT tab) (metT tab)[j] = (j : Int) := by
    unfold numT
    rw [hB.ms.nd.idxOf_getElem j hj]
  obtain ⟨b1, b2⟩ := hB.ms.bd _ hm
  obtain ⟨n, e⟩ := Int.eq_ofNat_of_zero_le b1
  rw [← hn, (led_re hG hm hu).1, (led_re hG hm hv).1, e]
  have := h n (by rw [e] at b2; exact Int.ofNat_lt.mp b2)
  exact congrArg _ this
theorem rep_flat (m : Nat) (v : V) : (List.replicate m [v]).flatten = List.replicate m v := by
  induction m with
  | zero => rfl
  | succ m ih => rw [List.replicate_succ, List.flatten_cons, ih, List.replicate_succ]; rfl
def S2 (m : Nat) : List (List Int) := [List.replicate m 1, List.replicate m 0]
theorem S2_good {l : List Nat} : GoodT l (S2 l.length) := by
  refine ⟨by simp [S2], by simp [S2], fun x hx => ?_, fun x hx z hz => ?_⟩
  · simp only [S2, List.mem_cons, List.not_mem_nil, or_false] at hx
    rcases hx with rfl | rfl <;> simp
  · simp only [S2, List.mem_cons, List.not_mem_nil, or_false] at hx
    have : (((S2 l.length).length : Nat) : Int) = 2 := rfl
    rcases hx with rfl | rfl
    · have := List.eq_of_mem_replicate hz
      omega
    · have := List.eq_of_mem_replicate hz
      omega
theorem S2_step {l : List Nat} {c : Nat} (hc : c ∈ l) {r : Int} (h0 : 0 ≤ r) (h1 : r < 2) : stepT l (S2 l.length) r c = (r + 1) % 2 := by
  have hi : l.idxOf c < l.length := List.idxOf_lt_length_of_mem hc
  have hr : r = 0 ∨ r = 1 := by omega
  rcases hr with rfl | rfl
  · show (List.replicate l.length (1 : Int)).getD (l.idxOf c) 0 = 1
    rw [List.getD_eq_getElem?_getD, List.getElem?_replicate, if_pos hi]
    rfl
  · show (List.replicate l.length (0 : Int)).getD (l.idxOf c) 0 = 0
    rw [List.getD_eq_getElem?_getD, List.getElem?_replicate, if_pos hi]
    rfl
theorem S2_led {l : List Nat} : ∀ {w : List Nat} {r : Int}, InL l w → 0 ≤ r → r < 2 → ledT l (S2 l.length) r w = (r + (w.length : Int)) % 2
  | [], r, _, h0, h1 => by
    show r = (r + ((0 : Nat) : Int)) % 2
    omega
  | c :: w, r, hw, h0, h1 => by
    show ledT l (S2 l.length) (stepT l (S2 l.length) r c) w = _
    rw [S2_step (hw c (by simp)) h0 h1, S2_led (fun x hx => hw x (by simp [hx])) (Int.emod_nonneg _ (by decide)) (Int.emod_lt_of_pos _ (by decide)), List.length_cons]
    omega
theorem S2_part {l u v : List Nat} (hu : InL l u) (hv : InL l v) (h : u.length % 2 = v.length % 2) : partT l (S2 l.length) u v = none := part_none fun j hj => by
  have : j < 2 := hj
  rw [S2_led hu (by omega) (by omega), S2_led hv (by omega) (by omega)]
  omega
theorem broke_of {l : List Nat} {tab : List (List Int)} {ps : List Rule} (h : ∀ p ∈ ps, RuO l tab p) : brokeT l tab ps 0 = none := broke_none fun j q e => (h q (List.mem_of_getElem? e)).pt
def sp_law (K : PySem.W.Frag) : Sp := fun vs H Q _ => ∃ (a : Addr) (ns : List Int), vs = [.ref a] ∧ SqL K H a (ns.map V.int) ∧ ∀ H', Q (.bl true) H'
theorem sc_law : FnScope ["_law_script", "_law_first", "_law_letters_here", "_law_size", "_law_table", "_law_pacts", "_law_world", "_law_cell", "_law_chain_here", "_law_room", "_law_word_here", "_law_swing"] ["_law_script"] (defScope s_law) := ⟨rfl, rfl, rfl, by decide +kernel, rfl, by decide +kernel, by decide +kernel⟩
theorem ok_law {f CT CN CH : Addr} {fd : FuncData} (B : Bt mg) (CL : TWor K mg CH) (F : Fun K "law" "law" s_law f fd) (D_cell_at : Df P w K mg base CX0 1 "_law_cell_at" ["_law_script", "_law_k"] [] (sp_cell_at K)) (D_letters : Df P w K mg base CX0 1 "_law_letters" ["_law_cell", "_law_many"] [] sp_letters) (D_shape : Df P w K mg base CX0 3 "_law_shape" ["_law_script", "_law_size", "_law_many", "_law_way"] [] (sp_shape K)) (D_chain : Df P w K mg base CX0 2 "_law_chain" ["_law_pacts", "_law_word_here", "_law_cells"] [] (sp_chain K)) (D_held : Df P w K mg base CX0 3 "_law_held" ["_law_table", "_law_letters_here", "_law_cell"] [] (sp_held K)) (D_word : Df P w K mg base CX0 1 "_law_word" ["_law_letters_here", "_law_cell", "_law_size"] [] sp_word) (D_even : Df P w K mg base CX0 1 "_law_even" ["_law_pacts"] [] (sp_even K)) (M_world_init : DMk P w K mg base (CXx P w) 4 CH ["self", "letters", "table"] (sp_woinit CH)) (M_world_broken : DM P w K mg base CX0 3 CH "broken" ["self", "pacts"] (sp_wbroken K CH)) (M_world_parted : DM P w K mg base CX0 2 CH "parted" ["self", "one", "other"] (sp_wparted CH)) (M_world_led : DM P w K mg base CX0 1 CH "led" ["self", "room", "word"] (sp_wled CH)) (M_world_crossed : DM P w K mg base (CXx P w) 6 CH "crossed" ["self", "other"] (sp_wcrossed CH CN CT)) (M_world_reached : DM P w K mg base CX0 6 CH "reached" ["self"] (sp_reached CH)) : FnOk P w K mg base CX0 7 f fd ["_law_script"] (sp_law K) := by
  refine F.ok sc_law (fun vs H Q E h => ?_) (fun cdv A outer s H vs Q E hr h => ?_)
  · obtain ⟨a, ns, rfl, _⟩ := h
    rfl
  · obtain ⟨a, ns, rfl, hS, q⟩ := h
    refine ⟨_, (pss_cut (ps_set (i := 1) sc_law.nd rfl (Or.inl rfl) (cl0 D_cell_at hr .nil rfl (pa_cons (pv 0) (pa_cons pe_int pa_nil))))
      (pss_cut (ps_set (i := 2) sc_law.nd rfl (Or.inr rfl) (cl0 D_letters hr .nil rfl (pa_cons (pe_op op_fdiv (pv 1) pe_int) (pa_cons (pe_op op_addA pe_int (pe_op op_mod (pv 1) pe_int)) pa_nil))))
      (pss_cut (ps_set (i := 3) sc_law.nd rfl (Or.inl rfl) (pe_op op_addA pe_int (pe_op op_mod (pe_op op_fdiv (pv 1) pe_int) pe_int)))
      (pss_cut (ps_set (i := 4) sc_law.nd rfl (Or.inr rfl) (cl0 D_shape hr .nil rfl (pa_cons (pv 0) (pa_cons (pv 3) (pa_cons (pe_callB c_len rfl B.len PySem.boot_len (pa_cons (pv 2) pa_nil)) (pa_cons (pe_op op_mod (pe_op op_fdiv (pv 1) pe_int) pe_int) pa_nil))))))
      (pss_cut (ps_set_comp (i := 5) sc_law.nd rfl (Or.inl rfl) (Or.inl rfl) (own := ["_law_raw"]) (caps := ["_law_table", "_law_letters_here"]) (ix := [4, 2]) (tt := tYes) (te := (tCall (sp_held K) [] E0 (tCons (tVar 1) (tCons (tVar 2) (tCons (tOp (rI (fun _ j => 0 < j) fun i j => .int (i % j)) (tVar 0) (tOp (rI CPow fun i j => .int (i ^ j.toNat)) (tC (.int 10)) (tC (.int 15)))) tNil))))) rfl (compOk_of (sc := defScope s_law) rfl (by decide +kernel) (by decide +kernel) (by decide +kernel) rfl (by decide +kernel) (by decide +kernel) rfl) (pi_list (pe_slice sl_any (pv 0) (po_some pe_int) (po_some pe_int))) (fun _ _ _ _ _ _ => pg_name (i := 0) (show List.Nodup [_, _, _] by decide) rfl (Or.inl rfl)) (fun _ _ _ _ _ _ => pts_nil) (fun _ _ _ _ _ _ => (cl0 D_held hr .nil rfl (pa_cons (pv 1) (pa_cons (pv 2) (pa_cons (pe_op op_mod (pv 0) (pe_op op_pow pe_int pe_int)) pa_nil))))))
      (pss_cut (ps_set (i := 6) sc_law.nd rfl (Or.inl rfl) (mkCx xe0 M_world_init hr rfl CL.g (pa_cons (pv 2) (pa_cons (pe_comp (own := ["_law_row"]) (caps := []) (ix := []) (tt := tYes) (te := (tCB (rLstOf K) (tCons (tVar 0) tNil))) rfl (compOk_of (sc := defScope s_law) rfl (by decide +kernel) (by decide +kernel) (by decide +kernel) rfl (by decide +kernel) (by decide +kernel) rfl) (pi_list (pv 4)) (fun _ _ _ _ _ _ => pg_name (i := 0) (show List.Nodup [_] by decide) rfl (Or.inl rfl)) (fun _ _ _ _ _ _ => pts_nil) (fun _ _ _ _ _ _ => (pe_callTy call_list_of rfl B.list PySem.Pv.boot_list (pa_cons (pv 0) pa_nil)))) pa_nil))))
      (pss_cut (ps_if (pt_cmpR op_notN' (me1 M_world_broken CL.cl hr (pv 6) (pa_cons (pe_callTy call_list_of rfl B.list PySem.Pv.boot_list (pa_cons (pv 5) pa_nil)) pa_nil)) pe_non (nomark _))
        (pss_one (ps_ret pe_bl))
        pss_nil)
      (pss_cut (ps_set (i := 7) sc_law.nd rfl (Or.inl rfl) (cl0 D_cell_at hr .nil rfl (pa_cons (pv 0) (pa_cons pe_int pa_nil))))
      (pss_cut (ps_set (i := 8) sc_law.nd rfl (Or.inl rfl) (cl0 D_chain hr .nil rfl (pa_cons (pv 5) (pa_cons (cl0 D_word hr .nil rfl (pa_cons (pv 2) (pa_cons (pe_op op_mod (pe_op op_mulA (pv 7) pe_int) pe_int) (pa_cons (pe_op op_mod (pv 7) pe_int) pa_nil)))) (pa_cons (pe_slice sl_any (pv 0) (po_some pe_int) (po_some pe_int)) pa_nil)))))
      (pss_cut (ps_set (i := 9) sc_law.nd rfl (Or.inl rfl) (pe_op op_mod (pe_op op_fdiv (pv 7) pe_int) (pv 3)))
      (pss_cut (ps_for PassesOwn.never rfl (pi_list (pv 8)) (pg_name (i := 10) sc_law.nd rfl (Or.inl rfl))
        (pss_one (ps_if (pt_cmpR op_ne (me1 M_world_led CL.cl hr (pv 6) (pa_cons (pv 9) (pa_cons (pv 10) pa_nil))) (me1 M_world_led CL.cl hr (pv 6) (pa_cons (pv 9) (pa_cons (pe_ix ix_list (pv 8) pe_int (fun _ _ => rfl)) pa_nil))) (nomark _))
          (pss_one (ps_ret pe_bl))
          pss_nil)))
      (pss_cut (ps_if (PW.pt (pw_or (pt_cmpR op_notN' (me1 M_world_parted CL.cl hr (pv 6) (pa_cons (pe_ix ix_list (pv 8) pe_int (fun _ _ => rfl)) (pa_cons (pe_ix ix_list (pv 8) (pe_un un_neg pe_int) (fun _ _ => rfl)) pa_nil))) pe_non (nomark _)) (pw_or1 (pt_cmpR op_notN' (me1 M_world_parted CL.cl hr (me0 M_world_reached CL.cl hr (pv 6)) (pa_cons (pe_ix ix_list (pv 8) (pe_un un_neg pe_int) (fun _ _ => rfl)) (pa_cons (pe_ix ix_list (pv 8) pe_int (fun _ _ => rfl)) pa_nil))) pe_non (nomark _)))))
        (pss_one (ps_ret pe_bl))
        pss_nil)
      (pss_cut (ps_if (PW.pt (pw_or (pt_cmpR op_gtA (pv 3) pe_int (nomark _)) (pw_or1 (pt_not (pt_bl (cl0 D_even hr .nil rfl (pa_cons (pv 5) pa_nil)) (fun _ => rfl))))))
        (pss_one (ps_ret pe_bl))
        pss_nil)
      (pss_cut (ps_set (i := 11) sc_law.nd rfl (Or.inl rfl) (mkCx xe0 M_world_init hr rfl CL.g (pa_cons (pv 2) (pa_cons (pe_lst (pa_cons (pe_op op_rep (pe_lst (pa_cons pe_int pa_nil)) (pe_callB c_len rfl B.len PySem.boot_len (pa_cons (pv 2) pa_nil))) (pa_cons (pe_op op_rep (pe_lst (pa_cons pe_int pa_nil)) (pe_callB c_len rfl B.len PySem.boot_len (pa_cons (pv 2) pa_nil))) pa_nil))) pa_nil))))
      (pss_one (ps_ret (pe_cmpR op_isN' (me1 M_world_parted CL.cl hr (me1x xe0 M_world_crossed CL.cl hr (pv 6) (pa_cons (pv 11) pa_nil)) (pa_cons (pe_ix ix_list (pv 8) pe_int (fun _ _ => rfl)) (pa_cons (pe_ix ix_list (pv 8) (pe_un un_neg pe_int) (fun _ _ => rfl)) pa_nil))) pe_non (nomark _)))))))))))))))))), ?_⟩
    have s16 := sl16
    have p10 : (0 : Int) < 10 ^ Int.toNat 15 := by decide
    have c10 : CPow 10 15 := ⟨by decide, by decide, by decide⟩
    refine cut_by (fun σ H' => H' = H ∧ ∃ f : Int, 0 ≤ f ∧ σ = [some (.ref a), some (.int f), none, none, none, none, none, none, none, none, none, none]) ?_ ?_
    · rfl'
      exact use_cell hS (by decide) fun c hc => ⟨rfl, c, hc, rfl⟩
    rintro σ H1 ⟨rfl, f, hf, rfl⟩
    refine cut_by (fun σ H' => H' = H1 ∧ ∃ l : List Nat, goodB l = true ∧ σ = [some (.ref a), some (.int f), some (.str (tx l)), none, none, none, none, none, none, none, none, none]) ?_ ?_
    · rfl'
      have y0 := Int.emod_nonneg f (b := 4) (by decide)
      have y1 := Int.emod_lt_of_pos f (b := 4) (by decide)
      exact ⟨⟨by decide, by decide⟩, by decide, use_letters (Int.ediv_nonneg hf (by decide)) (by omega) (by omega) fun l hl hn hs => ⟨rfl, l, decide_eq_true ⟨by omega, by omega, hs, hn⟩, rfl⟩⟩
    rintro σ H2 ⟨rfl, l, hg, rfl⟩
    obtain ⟨l1, l6, lsm, lnd⟩ := of_decide_eq_true hg
    refine cut_by (fun σ H' => H' = H2 ∧ ∃ n : Nat, 1 ≤ n ∧ n ≤ 8 ∧ σ = [some (.ref a), some (.int f), some (.str (tx l)), some (.int (n : Nat)), none, none, none, none, none, none, none, none]) ?_ ?_
    · rfl'
      have y0 := Int.emod_nonneg (f / 4) (b := 8) (by decide)
      have y1 := Int.emod_lt_of_pos (f / 4) (b := 8) (by decide)
      exact ⟨⟨by decide, by decide⟩, by decide, (1 + f / 4 % 8).toNat, by omega, by omega, by omega⟩
    rintro σ H3 ⟨rfl, n, n1, n8, rfl⟩
    refine cut_by (fun σ H' => ∃ (t : Addr) (rs : List Addr) (tab : List (List Int)), Same H3 H' ∧ TabAt H' t rs tab ∧ GoodT l tab ∧ tab.length = n ∧ σ = [some (.ref a), some (.int f), some (.str (tx l)), some (.int (n : Nat)), some (.ref t), none, none, none, none, none, none, none]) ?_ ?_
    · rfl'
      exact ⟨by omega, ⟨by decide, by decide⟩, by decide, a, ns, n, l.length, _, rfl, hS, n1, n8, by omega, fun t rs tab H' s' hT hl hr => ⟨s', t, rs, tab, hT, good_rows n1 n8 hl hr, hl, rfl⟩⟩
    rintro σ H4 ⟨t, rs, tab, s4, hT, hG, htl, rfl⟩
    have hS4 := s4.seq hS
    refine cut_by (fun σ H' => ∃ (D : Addr) (ps : List Rule), Same H4 H' ∧ LsA K H' D (ps.map dR) ∧ ps.length ≤ 5 ∧ (∀ p ∈ ps, RuO l tab p) ∧ σ = [some (.ref a), some (.int f), some (.str (tx l)), some (.int (n : Nat)), some (.ref t), some (.ref D), none, none, none, none, none, none]) ?_ ?_
    · rfl'
      refine ⟨_, hS4, fun p hp => ?_⟩
      rw [cutV_ints ns (by decide) (by decide)]
      have hcl : ((ns.drop (2 : Int).toNat).take ((7 : Int) - 2).toNat).length ≤ 5 := by rw [List.length_take]; exact Nat.min_le_left _ _
      generalize ((ns.drop (2 : Int).toNat).take ((7 : Int) - 2).toNat) = cs' at hcl
      have sp := same_upd (o := .lst (cs'.map V.int)) hp
      refine ⟨⟨_, SqL.of upd_same⟩, fun D hD => CompL.by (xs := cs'.map V.int) (fun i acc H' => ∃ ps : List Rule, ps.length = i ∧ Same (upd H4 p (.lst (cs'.map V.int))) H' ∧ H' D = some (.lst acc) ∧ Iss K H' (ps.map dR) acc ∧ ∀ p ∈ ps, RuO l tab p) ⟨[], rfl, same_upd hD, upd_same, by simp only [List.map_nil, Iss], fun r h => (nomatch h)⟩ (fun i acc H' _ h => by obtain ⟨_, _, hs, _⟩ := h; exact SqL.of (hs _ _ upd_same)) ?_ ?_⟩
      · rintro i v acc H' hv ⟨ps, hpl, hs, hD', hI, hP⟩
        rw [List.getElem?_map] at hv
        obtain ⟨z, hz, rfl⟩ := Option.map_eq_some_iff.mp hv
        have hi := (List.getElem?_eq_some_iff.mp hz).1
        have hlen := hI.len
        rw [List.length_map] at hlen
        simp only [tYes]
        rfl'
        refine ⟨keeps0, c10, p10, t, rs, tab, l, _, rfl, (hT.same sp).same hs, hG, l1, l6, Int.emod_nonneg _ (by decide), fun q' r G sG hq hr => ⟨sG _ _ hD', by omega, CNx.mk (by rw [List.length_map]; exact hi) ⟨ps ++ [r], by rw [List.length_append, hpl]; rfl, same_over (hs.trans sG) hD, upd_same, ?_, fun y hy => ?_⟩⟩⟩
        · have hq2 : Is K G (dR r) (.ref q') := dR_is (l := r.1) (m := r.2) hq
          obtain ⟨xs, a1, a2⟩ := LsA.snoc (sG _ _ hD') (Iss.same sG _ _ hI) (flat_dRs ps) (flat_dR r) hq2
          rw [upd_same] at a1
          cases a1
          rw [List.map_append]
          exact a2
        · rcases List.mem_append.mp hy with h | h
          · exact hP y h
          · rw [List.mem_singleton.mp h]
            exact hr
      · rintro acc H' ⟨ps, hpl, hs, hD', hI, hP⟩
        rw [List.length_map] at hpl
        exact ⟨sp.trans hs, D, ps, ⟨acc, hD', hI⟩, by omega, hP, rfl⟩
    rintro σ H5 ⟨D, ps, s5, hL, hpl, hP, rfl⟩
    have hS5 := s5.seq hS4
    have hT5 := hT.same s5
    refine cut_by (fun σ H' => ∃ (o t' : Addr) (rs' : List Addr), Same H5 H' ∧ WorAt CH H' o l t' rs' tab ∧ σ = [some (.ref a), some (.int f), some (.str (tx l)), some (.int (n : Nat)), some (.ref t), some (.ref D), some (.ref o), none, none, none, none, none]) ?_ ?_
    · rfl'
      exact ⟨⟨_, SqL.of hT5.top⟩, fun Dc hDc => comp_copy rfl hT5 (by omega) hDc fun rs' H' s' hT' _ => use_world hg hT' hG fun x t' rs'' H'' s'' _ _ hW => ⟨s'.trans s'', t', rs'', hW⟩⟩
    rintro σ H6 ⟨o, t', rs', s6, hW, rfl⟩
    have hL6 := hL.same s6
    obtain ⟨dx, ho, _⟩ := id hW
    obtain ⟨xs6, hX6, hI6⟩ := id hL6
    refine cut_by (fun σ H' => Same H6 H' ∧ σ = [some (.ref a), some (.int f), some (.str (tx l)), some (.int (n : Nat)), some (.ref t), some (.ref D), some (.ref o), none, none, none, none, none]) ?_ ?_
    · rfl'
      exact ⟨_, _, ho, rfl, _, .inl (SqL.of hX6), fun p hp => ⟨o, t', p, l, rs', tab, ps, rfl, LsA.copy hX6 hI6 hp, hW.same (same_upd hp), hG, fun q hq => ⟨(hP q hq).l1, (hP q hq).l2⟩, fun _ H' s' => ite2 (fun h => absurd rfl h) fun _ => (same_upd hp).trans s', fun i r hb => by rw [broke_of hP] at hb; cases hb⟩⟩
    rintro σ H7 ⟨s7, rfl⟩
    have hS7 : SqL K H7 a (ns.map V.int) := (s6.trans s7).seq hS5
    have hL7 := hL6.same s7
    have hW7 := hW.same s7
    refine cut_by (fun σ H' => H' = H7 ∧ ∃ c : Int, 0 ≤ c ∧ σ = [some (.ref a), some (.int f), some (.str (tx l)), some (.int (n : Nat)), some (.ref t), some (.ref D), some (.ref o), some (.int c), none, none, none, none]) ?_ ?_
    · rfl'
      exact use_cell hS7 (by decide) fun c hc => ⟨rfl, c, hc, rfl⟩
    rintro σ H8 ⟨rfl, c, hc, rfl⟩
    refine cut_by (fun σ H' => ∃ (Ch : Addr) (w0 : List Nat) (ws : List (List Nat)), Same H8 H' ∧ H' Ch = some (.lst (tW (w0 :: ws))) ∧ ws.length ≤ 55 ∧ (∀ w ∈ w0 :: ws, Kw l tab ps w0 w) ∧ σ = [some (.ref a), some (.int f), some (.str (tx l)), some (.int (n : Nat)), some (.ref t), some (.ref D), some (.ref o), some (.int c), some (.ref Ch), none, none, none]) ?_ ?_
    · rfl'
      have e0 := Int.emod_nonneg c (b := 7) (by decide)
      have e1 := Int.emod_lt_of_pos c (b := 7) (by decide)
      refine ⟨.inr ⟨by decide, by decide⟩, by decide, by decide, use_word l1 (by omega) e0 (by omega) fun w0 hwl hw0 => ⟨_, hS7, fun p hp => ?_⟩⟩
      rw [cutV_ints ns (by decide) (by decide)]
      have hcl : ((ns.drop (8 : Int).toNat).take ((63 : Int) - 8).toNat).length ≤ 55 := by rw [List.length_take]; exact Nat.min_le_left _ _
      generalize ((ns.drop (8 : Int).toNat).take ((63 : Int) - 8).toNat) = cs' at hcl
      exact ⟨D, p, l, tab, ps, w0, cs', rfl, hL7.same (same_upd hp), upd_same, hG, hpl, hP, by omega, hw0, hcl, fun Ch ws H' s' hC hl hK => ⟨(same_upd hp).trans s', Ch, w0, ws, hC, hl, hK, rfl⟩⟩
    rintro σ H9 ⟨Ch, w0, ws, s9, hC, hwl, hK, rfl⟩
    have hL9 := hL7.same s9
    have hW9 := hW7.same s9
    refine cut_by (fun σ H' => H' = H9 ∧ ∃ r : Nat, r < n ∧ σ = [some (.ref a), some (.int f), some (.str (tx l)), some (.int (n : Nat)), some (.ref t), some (.ref D), some (.ref o), some (.int c), some (.ref Ch), some (.int (r : Nat)), none, none]) ?_ ?_
    · rfl'
      have y0 := Int.emod_nonneg (c / 7) (b := (n : Int)) (by omega)
      have y1 := Int.emod_lt_of_pos (c / 7) (b := (n : Int)) (by omega)
      exact ⟨⟨by decide, by decide⟩, by omega, (c / 7 % (n : Int)).toNat, by omega, by omega⟩
    rintro σ H10 ⟨rfl, r, hr, rfl⟩
    have k0 := hK w0 List.mem_cons_self
    have at0 : atI (tW (w0 :: ws)) 0 = some (.str (tx w0)) := atI_nat (j := 0) rfl
    obtain ⟨wz, hz, at1⟩ : ∃ wz ∈ w0 :: ws, atI (tW (w0 :: ws)) (-1) = some (.str (tx wz)) := by
      have hne : w0 :: ws ≠ [] := by simp
      refine ⟨(w0 :: ws).getLast hne, List.getLast_mem hne, ?_⟩
      conv => lhs; rw [← List.dropLast_concat_getLast hne]
      rw [tW, List.map_append]
      exact atI_last _ _
    have kz := hK wz hz
    obtain ⟨dx9, ho9, _⟩ := id hW9
    refine cut_by (fun σ H' => H' = H10 ∧ ∃ v10, σ = [some (.ref a), some (.int f), some (.str (tx l)), some (.int (n : Nat)), some (.ref t), some (.ref D), some (.ref o), some (.int c), some (.ref Ch), some (.int (r : Nat)), v10, none]) ?_ ?_
    · rfl'
      refine ⟨⟨_, SqL.of hC⟩, ForL.by (xs := tW (w0 :: ws)) (fun i σ H' => H' = H10 ∧ ∃ v10, σ = [some (.ref a), some (.int f), some (.str (tx l)), some (.int (n : Nat)), some (.ref t), some (.ref D), some (.ref o), some (.int c), some (.ref Ch), some (.int (r : Nat)), v10, none]) ⟨rfl, _, rfl⟩ (fun i σ H' _ h => by rw [h.1]; exact SqL.of hC) ?_ fun σ H' h => h⟩
      rintro i x σ H' hx ⟨rfl, v10, rfl⟩
      rw [List.getElem?_map] at hx
      obtain ⟨w, hw, rfl⟩ := Option.map_eq_some_iff.mp hx
      have kw := hK w (List.mem_of_getElem? hw)
      rfl'
      refine ⟨_, _, ho9, rfl, use_wled hW9 hG (by omega) (by omega) kw.inl ⟨_, _, ho9, rfl, _, SqL.of hC, _, at0, use_wled hW9 hG (by omega) (by omega) k0.inl ?_⟩⟩
      exact ⟨rfl, ite2 (fun h => absurd (congrArg V.int (kw.led r (by omega))) h) fun _ => rfl⟩
    rintro σ H11 ⟨rfl, v10, rfl⟩
    refine cut_by (fun σ H' => Same H11 H' ∧ σ = [some (.ref a), some (.int f), some (.str (tx l)), some (.int (n : Nat)), some (.ref t), some (.ref D), some (.ref o), some (.int c), some (.ref Ch), some (.int (r : Nat)), v10, none]) ?_ ?_
    · have hRG := re_good hG
      rfl'
      refine ⟨_, _, ho9, rfl, _, SqL.of hC, _, at0, _, SqL.of hC, _, at1, use_wparted hW9 hG k0.inl kz.inl ?_⟩
      rw [part_none fun j hj => (kz.led j hj).symm]
      refine ite2 (fun h => absurd rfl h) fun _ => ⟨_, _, ho9, rfl, use_reached hW9 hG hg fun x t' rs' H' s' hW' => ?_⟩
      obtain ⟨dx', ho', _⟩ := id hW'
      refine ⟨_, rfl, _, _, ho', rfl, _, SqL.of (s' _ _ hC), _, at1, _, SqL.of (s' _ _ hC), _, at0, use_wparted hW' hRG kz.inl k0.inl ?_⟩
      rw [part_re hG kz.inl k0.inl kz.led]
      exact ite2 (fun h => absurd rfl h) fun _ => s'
    rintro σ H12 ⟨s12, rfl⟩
    have hW12 := hW9.same s12
    have hC12 := s12 _ _ hC
    have ho12 := s12 _ _ ho9
    refine cut_by (fun σ H' => H' = H12 ∧ n ≤ 4 ∧ EvP ps ∧ σ = [some (.ref a), some (.int f), some (.str (tx l)), some (.int (n : Nat)), some (.ref t), some (.ref D), some (.ref o), some (.int c), some (.ref Ch), some (.int (r : Nat)), v10, none]) ?_ ?_
    · rfl'
      refine ite2 (fun _ => q _) fun h4 => ⟨D, ps, rfl, hL9.same s12, fun p hp => ⟨(hP p hp).n1, (hP p hp).n2⟩, fun b hb => ⟨b, rfl, ?_⟩⟩
      cases b with
      | false => exact iteN (q _)
      | true => exact iteM ⟨rfl, by omega, hb rfl⟩
    rintro σ H13 ⟨rfl, n4, hev, rfl⟩
    refine cut_by (fun σ H' => ∃ (o2 t2 : Addr) (rs2 : List Addr), Same H13 H' ∧ WorAt CH H' o2 l t2 rs2 (S2 l.length) ∧ σ = [some (.ref a), some (.int f), some (.str (tx l)), some (.int (n : Nat)), some (.ref t), some (.ref D), some (.ref o), some (.int c), some (.ref Ch), some (.int (r : Nat)), v10, some (.ref o2)]) ?_ ?_
    · rfl'
      refine ⟨by omega, fun p1 h1 => ⟨by omega, p1, _, _, rfl, rfl, upd_same, by omega, by omega, by simp only [List.length_cons, List.length_nil]; omega, fun p2 h2 => ⟨by omega, fun p3 h3 => ⟨by omega, p3, _, _, rfl, rfl, upd_same, by omega, by omega, by simp only [List.length_cons, List.length_nil]; omega, fun p4 h4 => ⟨by omega, fun p5 h5 => ?_⟩⟩⟩⟩⟩
      rw [rep_flat, rep_flat, Int.toNat_natCast] at h5 ⊢
      rw [rep_flat, Int.toNat_natCast] at h3 h4
      have sA := same_upd (o := .lst [.int 1]) h1
      have sB := same_upd (o := .lst (List.replicate l.length (V.int 1))) h2
      have sC := same_upd (o := .lst [.int 0]) h3
      have sD := same_upd (o := .lst (List.replicate l.length (V.int 0))) h4
      have sE := same_upd (o := .lst [.ref p2, .ref p4]) h5
      refine use_world (rs := [p2, p4]) hg ⟨upd_same, rfl, fun i r x e1 e2 => ?_⟩ S2_good fun x t' rs' H' s' _ _ hW => ⟨sA.trans (sB.trans (sC.trans (sD.trans (sE.trans s')))), _, _, hW⟩
      rcases i with _ | _ | i
      · cases e1
        cases e2
        rw [List.map_replicate]
        exact sE _ _ (sD _ _ (sC _ _ upd_same))
      · cases e1
        cases e2
        rw [List.map_replicate]
        exact sE _ _ upd_same
      · cases e1
    rintro σ H14 ⟨o2, t2, rs2, s14, hW2, rfl⟩
    rfl'
    have hW14 := hW12.same s14
    have h8 : tab.length * (S2 l.length).length ≤ 8 := by show tab.length * 2 ≤ 8; omega
    have hC14 := s14 _ _ hC12
    refine ⟨_, _, s14 _ _ ho12, rfl, o, o2, t', t2, l, l, rs', rs2, tab, S2 l.length, rfl, hW14, hW2, hG, S2_good, hg, fun h => absurd rfl h, fun _ h => absurd h8 (by omega), fun _ _ x t3 rs3 H' s' hW3 => ?_⟩
    obtain ⟨dx3, ho3, _⟩ := id hW3
    refine ⟨_, rfl, _, _, ho3, rfl, _, SqL.of (s' _ _ hC14), _, at0, _, SqL.of (s' _ _ hC14), _, at1, use_wparted hW3 (cross_good hG S2_good h8) k0.inl kz.inl ?_⟩
    rw [(part_cross hG S2_good k0.inl kz.inl).mpr ⟨part_none fun j hj => (kz.led j hj).symm, S2_part k0.inl kz.inl (kz.ev hev).symm⟩]
    exact q _
end
theorem len1 {us : List Value} (h : us.length = 1) : ∃ a, us = [a] := List.length_eq_one_iff.mp h
theorem len2 {us : List Value} (h : us.length = 2) : ∃ a0 a1, us = [a0, a1] := by
  cases us with
  | nil => cases h
  | cons a r =>
    obtain ⟨a1, rfl⟩ := len1 (Nat.succ.inj h)
    exact ⟨a, a1, rfl⟩
theorem len3 {us : List Value} (h : us.length = 3) : ∃ a0 a1 a2, us = [a0, a1, a2] := by
  cases us with
  | nil => cases h
  | cons a r =>
    obtain ⟨a1, a2, rfl⟩ := len2 (Nat.succ.inj h)
    exact ⟨a, a1, a2, rfl⟩
theorem len4 {us : List Value} (h : us.length = 4) : ∃ a0 a1 a2 a3, us = [a0, a1, a2, a3] := by
  cases us with
  | nil => cases h
  | cons a r =>
    obtain ⟨a1, a2, a3, rfl⟩ := len3 (Nat.succ.inj h)
    exact ⟨a, a1, a2, a3, rfl⟩
theorem len5 {us : List Value} (h : us.length = 5) : ∃ a0 a1 a2 a3 a4, us = [a0, a1, a2, a3, a4] := by
  cases us with
  | nil => cases h
  | cons a r =>
    obtain ⟨a1, a2, a3, a4, rfl⟩ := len4 (Nat.succ.inj h)
    exact ⟨a, a1, a2, a3, a4, rfl⟩
theorem len6 {us : List Value} (h : us.length = 6) : ∃ a0 a1 a2 a3 a4 a5, us = [a0, a1, a2, a3, a4, a5] := by
  cases us with
  | nil => cases h
  | cons a r =>
    obtain ⟨a1, a2, a3, a4, a5, rfl⟩ := len5 (Nat.succ.inj h)
    exact ⟨a, a1, a2, a3, a4, a5, rfl⟩
theorem len7 {us : List Value} (h : us.length = 7) : ∃ a0 a1 a2 a3 a4 a5 a6, us = [a0, a1, a2, a3, a4, a5, a6] := by
  cases us with
  | nil => cases h
  | cons a r =>
    obtain ⟨a1, a2, a3, a4, a5, a6, rfl⟩ := len6 (Nat.succ.inj h)
    exact ⟨a, a1, a2, a3, a4, a5, a6, rfl⟩
theorem all_mk {l : PySem.W.OpenLaw} {w : World} {K : PySem.W.Frag} {h : Heap} {mg : Str → Option Value} {fa f0 f1 f2 f3 f4 f5 f6 f7 f8 f9 f10 f11 f12 f13 f14 f15 f16 f17 c_LetterError c_NoLetters c_NoWorld c_World c_TooMany : Addr} (X : K.In h) (G : h.Ns mainGlobals mg) (hfa : mg "law" = some (.ref fa))
    {od0 an0 : Option Addr} {sl0 : Array (Option Value)} {oc0 kV0 dc0 pm0 cd0 ct0 : Value}
    {od1 an1 : Option Addr} {sl1 : Array (Option Value)} {oc1 kV1 dc1 pm1 cd1 ct1 : Value}
    {od2 an2 : Option Addr} {sl2 : Array (Option Value)} {oc2 kV2 dc2 pm2 cd2 ct2 : Value}
    {od3 an3 : Option Addr} {sl3 : Array (Option Value)} {oc3 kV3 dc3 pm3 cd3 ct3 : Value}
    {od4 an4 : Option Addr} {sl4 : Array (Option Value)} {oc4 kV4 dc4 pm4 cd4 ct4 : Value}
    {od5 an5 : Option Addr} {sl5 : Array (Option Value)} {oc5 kV5 dc5 pm5 cd5 ct5 : Value}
    {od6 an6 : Option Addr} {sl6 : Array (Option Value)} {oc6 kV6 dc6 pm6 cd6 ct6 : Value}
    {od7 an7 : Option Addr} {sl7 : Array (Option Value)} {oc7 kV7 dc7 pm7 cd7 ct7 : Value}
    {od8 an8 : Option Addr} {sl8 : Array (Option Value)} {oc8 kV8 dc8 pm8 cd8 ct8 : Value}
    {od9 an9 : Option Addr} {sl9 : Array (Option Value)} {oc9 kV9 dc9 pm9 cd9 ct9 : Value}
    {od10 an10 : Option Addr} {sl10 : Array (Option Value)} {oc10 kV10 dc10 pm10 cd10 ct10 : Value}
    {od11 an11 : Option Addr} {sl11 : Array (Option Value)} {oc11 kV11 dc11 pm11 cd11 ct11 : Value}
    {od12 an12 : Option Addr} {sl12 : Array (Option Value)} {oc12 kV12 dc12 pm12 cd12 ct12 : Value}
    {od13 an13 : Option Addr} {sl13 : Array (Option Value)} {oc13 kV13 dc13 pm13 cd13 ct13 : Value}
    {od14 an14 : Option Addr} {sl14 : Array (Option Value)} {oc14 kV14 dc14 pm14 cd14 ct14 : Value}
    {od15 an15 : Option Addr} {sl15 : Array (Option Value)} {oc15 kV15 dc15 pm15 cd15 ct15 : Value}
    {od16 an16 : Option Addr} {sl16 : Array (Option Value)} {oc16 kV16 dc16 pm16 cd16 ct16 : Value}
    {od17 an17 : Option Addr} {sl17 : Array (Option Value)} {oc17 kV17 dc17 pm17 cd17 ct17 : Value}
    {t6 t7 : Tok}
    {fm_world_init : Addr}
    {od_world_init an_world_init : Option Addr}
    {sl_world_init : Array (Option Value)}
    {oc_world_init kV_world_init dc_world_init pm_world_init cd_world_init ct_world_init : Value}
    {fm_world_rooms : Addr}
    {od_world_rooms an_world_rooms : Option Addr}
    {sl_world_rooms : Array (Option Value)}
    {oc_world_rooms kV_world_rooms dc_world_rooms pm_world_rooms cd_world_rooms ct_world_rooms : Value}
    {fm_world_table_told : Addr}
    {od_world_table_told an_world_table_told : Option Addr}
    {sl_world_table_told : Array (Option Value)}
    {oc_world_table_told kV_world_table_told dc_world_table_told pm_world_table_told cd_world_table_told ct_world_table_told : Value}
    {fm_world_led : Addr}
    {od_world_led an_world_led : Option Addr}
    {sl_world_led : Array (Option Value)}
    {oc_world_led kV_world_led dc_world_led pm_world_led cd_world_led ct_world_led : Value}
    {fm_world_parted : Addr}
    {od_world_parted an_world_parted : Option Addr}
    {sl_world_parted : Array (Option Value)}
    {oc_world_parted kV_world_parted dc_world_parted pm_world_parted cd_world_parted ct_world_parted : Value}
    {fm_world_broken : Addr}
    {od_world_broken an_world_broken : Option Addr}
    {sl_world_broken : Array (Option Value)}
    {oc_world_broken kV_world_broken dc_world_broken pm_world_broken cd_world_broken ct_world_broken : Value}
    {fm_world_crossed : Addr}
    {od_world_crossed an_world_crossed : Option Addr}
    {sl_world_crossed : Array (Option Value)}
    {oc_world_crossed kV_world_crossed dc_world_crossed pm_world_crossed cd_world_crossed ct_world_crossed : Value}
    {fm_world_reached : Addr}
    {od_world_reached an_world_reached : Option Addr}
    {sl_world_reached : Array (Option Value)}
    {oc_world_reached kV_world_reached dc_world_reached pm_world_reached cd_world_reached ct_world_reached : Value}
    (a0 : PySem.W.nsIn K mainGlobals "is_small_letter" = some (some (.ref f0))) (l0 : K.lookup f0 = some ⟨oc0, od0, .func (PySem.W.fnOf "is_small_letter" "is_small_letter" (defArgs s_is_small_letter) (defBody s_is_small_letter) (defScope s_is_small_letter) .none kV0 dc0 pm0 an0 cd0 ct0), sl0⟩) (k0 : PySem.W.codeIn K cd0 "is_small_letter" = true) (p0 : PySem.W.keepIn K (.ref f0) = true)
    (a1 : PySem.W.nsIn K mainGlobals "letters_of" = some (some (.ref f1))) (l1 : K.lookup f1 = some ⟨oc1, od1, .func (PySem.W.fnOf "letters_of" "letters_of" (defArgs s_letters_of) (defBody s_letters_of) (defScope s_letters_of) .none kV1 dc1 pm1 an1 cd1 ct1), sl1⟩) (k1 : PySem.W.codeIn K cd1 "letters_of" = true) (p1 : PySem.W.keepIn K (.ref f1) = true)
    (a2 : PySem.W.nsIn K mainGlobals "table_of" = some (some (.ref f2))) (l2 : K.lookup f2 = some ⟨oc2, od2, .func (PySem.W.fnOf "table_of" "table_of" (defArgs s_table_of) (defBody s_table_of) (defScope s_table_of) .none kV2 dc2 pm2 an2 cd2 ct2), sl2⟩) (k2 : PySem.W.codeIn K cd2 "table_of" = true) (p2 : PySem.W.keepIn K (.ref f2) = true)
    (a3 : PySem.W.nsIn K mainGlobals "rooms_met" = some (some (.ref f3))) (l3 : K.lookup f3 = some ⟨oc3, od3, .func (PySem.W.fnOf "rooms_met" "rooms_met" (defArgs s_rooms_met) (defBody s_rooms_met) (defScope s_rooms_met) .none kV3 dc3 pm3 an3 cd3 ct3), sl3⟩) (k3 : PySem.W.codeIn K cd3 "rooms_met" = true) (p3 : PySem.W.keepIn K (.ref f3) = true)
    (a4 : PySem.W.nsIn K mainGlobals "numbered_anew" = some (some (.ref f4))) (l4 : K.lookup f4 = some ⟨oc4, od4, .func (PySem.W.fnOf "numbered_anew" "numbered_anew" (defArgs s_numbered_anew) (defBody s_numbered_anew) (defScope s_numbered_anew) .none kV4 dc4 pm4 an4 cd4 ct4), sl4⟩) (k4 : PySem.W.codeIn K cd4 "numbered_anew" = true) (p4 : PySem.W.keepIn K (.ref f4) = true)
    (a5 : PySem.W.nsIn K mainGlobals "crossed_table" = some (some (.ref f5))) (l5 : K.lookup f5 = some ⟨oc5, od5, .func (PySem.W.fnOf "crossed_table" "crossed_table" (defArgs s_crossed_table) (defBody s_crossed_table) (defScope s_crossed_table) .none kV5 dc5 pm5 an5 cd5 ct5), sl5⟩) (k5 : PySem.W.codeIn K cd5 "crossed_table" = true) (p5 : PySem.W.keepIn K (.ref f5) = true)
    (a6 : PySem.W.nsIn K mainGlobals "_law_cell_at" = some (some (.ref f6))) (l6 : K.lookup f6 = some ⟨oc6, od6, .func (PySem.W.fnOf "_law_cell_at" "_law_cell_at" (defArgs s_cell_at) (defBody s_cell_at) (defScope s_cell_at) .none kV6 dc6 pm6 an6 cd6 ct6), sl6⟩) (k6 : PySem.W.codeIn K cd6 "_law_cell_at" = true) (p6 : PySem.W.keepIn K (.ref f6) = true)
    (a7 : PySem.W.nsIn K mainGlobals "_law_letters" = some (some (.ref f7))) (l7 : K.lookup f7 = some ⟨oc7, od7, .func (PySem.W.fnOf "_law_letters" "_law_letters" (defArgs s_letters) (defBody s_letters) (defScope s_letters) .none kV7 dc7 pm7 an7 cd7 ct7), sl7⟩) (k7 : PySem.W.codeIn K cd7 "_law_letters" = true) (p7 : PySem.W.keepIn K (.ref f7) = true)
    (a8 : PySem.W.nsIn K mainGlobals "_law_word" = some (some (.ref f8))) (l8 : K.lookup f8 = some ⟨oc8, od8, .func (PySem.W.fnOf "_law_word" "_law_word" (defArgs s_word) (defBody s_word) (defScope s_word) .none kV8 dc8 pm8 an8 cd8 ct8), sl8⟩) (k8 : PySem.W.codeIn K cd8 "_law_word" = true) (p8 : PySem.W.keepIn K (.ref f8) = true)
    (a9 : PySem.W.nsIn K mainGlobals "_law_rows" = some (some (.ref f9))) (l9 : K.lookup f9 = some ⟨oc9, od9, .func (PySem.W.fnOf "_law_rows" "_law_rows" (defArgs s_rows) (defBody s_rows) (defScope s_rows) .none kV9 dc9 pm9 an9 cd9 ct9), sl9⟩) (k9 : PySem.W.codeIn K cd9 "_law_rows" = true) (p9 : PySem.W.keepIn K (.ref f9) = true)
    (a10 : PySem.W.nsIn K mainGlobals "_law_led" = some (some (.ref f10))) (l10 : K.lookup f10 = some ⟨oc10, od10, .func (PySem.W.fnOf "_law_led" "_law_led" (defArgs s_led) (defBody s_led) (defScope s_led) .none kV10 dc10 pm10 an10 cd10 ct10), sl10⟩) (k10 : PySem.W.codeIn K cd10 "_law_led" = true) (p10 : PySem.W.keepIn K (.ref f10) = true)
    (a11 : PySem.W.nsIn K mainGlobals "_law_parted" = some (some (.ref f11))) (l11 : K.lookup f11 = some ⟨oc11, od11, .func (PySem.W.fnOf "_law_parted" "_law_parted" (defArgs s_parted) (defBody s_parted) (defScope s_parted) .none kV11 dc11 pm11 an11 cd11 ct11), sl11⟩) (k11 : PySem.W.codeIn K cd11 "_law_parted" = true) (p11 : PySem.W.keepIn K (.ref f11) = true)
    (a12 : PySem.W.nsIn K mainGlobals "_law_shape" = some (some (.ref f12))) (l12 : K.lookup f12 = some ⟨oc12, od12, .func (PySem.W.fnOf "_law_shape" "_law_shape" (defArgs s_shape) (defBody s_shape) (defScope s_shape) .none kV12 dc12 pm12 an12 cd12 ct12), sl12⟩) (k12 : PySem.W.codeIn K cd12 "_law_shape" = true) (p12 : PySem.W.keepIn K (.ref f12) = true)
    (a13 : PySem.W.nsIn K mainGlobals "_law_held" = some (some (.ref f13))) (l13 : K.lookup f13 = some ⟨oc13, od13, .func (PySem.W.fnOf "_law_held" "_law_held" (defArgs s_held) (defBody s_held) (defScope s_held) .none kV13 dc13 pm13 an13 cd13 ct13), sl13⟩) (k13 : PySem.W.codeIn K cd13 "_law_held" = true) (p13 : PySem.W.keepIn K (.ref f13) = true)
    (a14 : PySem.W.nsIn K mainGlobals "_law_at_all" = some (some (.ref f14))) (l14 : K.lookup f14 = some ⟨oc14, od14, .func (PySem.W.fnOf "_law_at_all" "_law_at_all" (defArgs s_at_all) (defBody s_at_all) (defScope s_at_all) .none kV14 dc14 pm14 an14 cd14 ct14), sl14⟩) (k14 : PySem.W.codeIn K cd14 "_law_at_all" = true) (p14 : PySem.W.keepIn K (.ref f14) = true)
    (a15 : PySem.W.nsIn K mainGlobals "_law_chain" = some (some (.ref f15))) (l15 : K.lookup f15 = some ⟨oc15, od15, .func (PySem.W.fnOf "_law_chain" "_law_chain" (defArgs s_chain) (defBody s_chain) (defScope s_chain) .none kV15 dc15 pm15 an15 cd15 ct15), sl15⟩) (k15 : PySem.W.codeIn K cd15 "_law_chain" = true) (p15 : PySem.W.keepIn K (.ref f15) = true)
    (a16 : PySem.W.nsIn K mainGlobals "_law_even" = some (some (.ref f16))) (l16 : K.lookup f16 = some ⟨oc16, od16, .func (PySem.W.fnOf "_law_even" "_law_even" (defArgs s_even) (defBody s_even) (defScope s_even) .none kV16 dc16 pm16 an16 cd16 ct16), sl16⟩) (k16 : PySem.W.codeIn K cd16 "_law_even" = true) (p16 : PySem.W.keepIn K (.ref f16) = true)
    (a17 : PySem.W.nsIn K mainGlobals "law" = some (some (.ref f17))) (l17 : K.lookup f17 = some ⟨oc17, od17, .func (PySem.W.fnOf "law" "law" (defArgs s_law) (defBody s_law) (defScope s_law) .none kV17 dc17 pm17 an17 cd17 ct17), sl17⟩) (k17 : PySem.W.codeIn K cd17 "law" = true) (p17 : PySem.W.keepIn K (.ref f17) = true)
    (g_LetterError : PySem.W.nsIn K mainGlobals "LetterError" = some (some (.ref c_LetterError)))
    (g_NoLetters : PySem.W.nsIn K mainGlobals "NoLetters" = some (some (.ref c_NoLetters)))
    (g_NoWorld : PySem.W.nsIn K mainGlobals "NoWorld" = some (some (.ref c_NoWorld)))
    (g_World : PySem.W.nsIn K mainGlobals "World" = some (some (.ref c_World)))
    (g_TooMany : PySem.W.nsIn K mainGlobals "TooMany" = some (some (.ref c_TooMany)))
    (ki : PySem.W.kitOne K (.type "int") (.type "int") = some true)
    (kb : PySem.W.kitOne K (.type "int") (.type "bool") = some false)
    (kl : PySem.W.kitOne K (.type "list") (.type "list") = some true)
    (x7 : PySem.W.specialIn K (.builtin "object.__class__") "__get__" = some (some (.builtin "getset_descriptor.__get__")))
    (x8 : PySem.W.takesIn K (.builtin "object.__class__") = some true)
    (x1 : xcIn K c_NoLetters = true)
    (x2 : PySem.W.findIn K (.ref c_NoLetters) "__setattr__" = some (some (.builtin "object.__setattr__")))
    (x3 : PySem.W.findIn K (.ref c_NoLetters) "__getattribute__" = some (some (.builtin "BaseException.__getattribute__")))
    (x4 : PySem.W.findIn K (.ref c_NoLetters) "__getattr__" = some none)
    (x5 : PySem.W.keepIn K (.ref c_NoLetters) = true)
    (x6 : PySem.W.findIn K (.ref c_NoLetters) "__class__" = some (some (.builtin "object.__class__")))
    (x9 : PySem.W.mroIn K c_NoLetters (.type "object") = some true)
    (xi : PySem.W.findIn K (.ref c_NoLetters) "__init__" = some (some (.builtin "ValueError.__init__")))
    (y1 : xcIn K c_NoWorld = true)
    (y2 : PySem.W.findIn K (.ref c_NoWorld) "__setattr__" = some (some (.builtin "object.__setattr__")))
    (y3 : PySem.W.findIn K (.ref c_NoWorld) "__getattribute__" = some (some (.builtin "BaseException.__getattribute__")))
    (y4 : PySem.W.findIn K (.ref c_NoWorld) "__getattr__" = some none)
    (y5 : PySem.W.keepIn K (.ref c_NoWorld) = true)
    (y6 : PySem.W.findIn K (.ref c_NoWorld) "__class__" = some (some (.builtin "object.__class__")))
    (y9 : PySem.W.mroIn K c_NoWorld (.type "object") = some true)
    (yi : PySem.W.findIn K (.ref c_NoWorld) "__init__" = some (some (.builtin "ValueError.__init__")))
    (most : PySem.W.nsIn K mainGlobals "MOST_LETTERS" = some (some (.int 6 t6)))
    (mostr : PySem.W.nsIn K mainGlobals "MOST_ROOMS" = some (some (.int 8 t7)))
    (pg_World : PySem.W.plainGet K c_World Str.empty = true)
    (hd_World : PySem.W.hasDictIn K c_World = true)
    (po_World : PySem.W.plainOver K c_World = true)
    (sa_World : PySem.W.findIn K (.ref c_World) "__setattr__" = some (some (.builtin "object.__setattr__")))
    (mk_World : PySem.W.makesIn K c_World = true)
    (kc_World : PySem.W.keepIn K (.ref c_World) = true)
    (nl_World : PySem.W.findIn K (.ref c_World) "letters" = some none)
    (nt_World : PySem.W.findIn K (.ref c_World) "table" = some none)
    (w1 : xcIn K c_TooMany = true)
    (w2 : PySem.W.findIn K (.ref c_TooMany) "__setattr__" = some (some (.builtin "object.__setattr__")))
    (w3 : PySem.W.findIn K (.ref c_TooMany) "__getattribute__" = some (some (.builtin "BaseException.__getattribute__")))
    (w4 : PySem.W.findIn K (.ref c_TooMany) "__getattr__" = some none)
    (w5 : PySem.W.keepIn K (.ref c_TooMany) = true)
    (w6 : PySem.W.findIn K (.ref c_TooMany) "__class__" = some (some (.builtin "object.__class__")))
    (w9 : PySem.W.mroIn K c_TooMany (.type "object") = some true)
    (wi : PySem.W.findIn K (.ref c_TooMany) "__init__" = some (some (.builtin "ValueError.__init__")))
    (fi_world_init : PySem.W.findIn K (.ref c_World) "__init__" = some (some (.ref fm_world_init)))
    (lo_world_init : K.lookup fm_world_init = some ⟨oc_world_init, od_world_init, .func (PySem.W.fnOf "__init__" "World.__init__" (defArgs s_world_init) (defBody s_world_init) (defScope s_world_init) .none kV_world_init dc_world_init pm_world_init an_world_init cd_world_init ct_world_init), sl_world_init⟩)
    (co_world_init : PySem.W.codeIn K cd_world_init "World.__init__" = true)
    (ke_world_init : PySem.W.keepIn K (.ref fm_world_init) = true)
    (fn_world_init : PySem.W.isFn K (.ref fm_world_init) = true)
    (fi_world_rooms : PySem.W.findIn K (.ref c_World) "rooms" = some (some (.ref fm_world_rooms)))
    (lo_world_rooms : K.lookup fm_world_rooms = some ⟨oc_world_rooms, od_world_rooms, .func (PySem.W.fnOf "rooms" "World.rooms" (defArgs s_world_rooms) (defBody s_world_rooms) (defScope s_world_rooms) .none kV_world_rooms dc_world_rooms pm_world_rooms an_world_rooms cd_world_rooms ct_world_rooms), sl_world_rooms⟩)
    (co_world_rooms : PySem.W.codeIn K cd_world_rooms "World.rooms" = true)
    (ke_world_rooms : PySem.W.keepIn K (.ref fm_world_rooms) = true)
    (fn_world_rooms : PySem.W.isFn K (.ref fm_world_rooms) = true)
    (fi_world_table_told : PySem.W.findIn K (.ref c_World) "table_told" = some (some (.ref fm_world_table_told)))
    (lo_world_table_told : K.lookup fm_world_table_told = some ⟨oc_world_table_told, od_world_table_told, .func (PySem.W.fnOf "table_told" "World.table_told" (defArgs s_world_table_told) (defBody s_world_table_told) (defScope s_world_table_told) .none kV_world_table_told dc_world_table_told pm_world_table_told an_world_table_told cd_world_table_told ct_world_table_told), sl_world_table_told⟩)
    (co_world_table_told : PySem.W.codeIn K cd_world_table_told "World.table_told" = true)
    (ke_world_table_told : PySem.W.keepIn K (.ref fm_world_table_told) = true)
    (fn_world_table_told : PySem.W.isFn K (.ref fm_world_table_told) = true)
    (fi_world_led : PySem.W.findIn K (.ref c_World) "led" = some (some (.ref fm_world_led)))
    (lo_world_led : K.lookup fm_world_led = some ⟨oc_world_led, od_world_led, .func (PySem.W.fnOf "led" "World.led" (defArgs s_world_led) (defBody s_world_led) (defScope s_world_led) .none kV_world_led dc_world_led pm_world_led an_world_led cd_world_led ct_world_led), sl_world_led⟩)
    (co_world_led : PySem.W.codeIn K cd_world_led "World.led" = true)
    (ke_world_led : PySem.W.keepIn K (.ref fm_world_led) = true)
    (fn_world_led : PySem.W.isFn K (.ref fm_world_led) = true)
    (fi_world_parted : PySem.W.findIn K (.ref c_World) "parted" = some (some (.ref fm_world_parted)))
    (lo_world_parted : K.lookup fm_world_parted = some ⟨oc_world_parted, od_world_parted, .func (PySem.W.fnOf "parted" "World.parted" (defArgs s_world_parted) (defBody s_world_parted) (defScope s_world_parted) .none kV_world_parted dc_world_parted pm_world_parted an_world_parted cd_world_parted ct_world_parted), sl_world_parted⟩)
    (co_world_parted : PySem.W.codeIn K cd_world_parted "World.parted" = true)
    (ke_world_parted : PySem.W.keepIn K (.ref fm_world_parted) = true)
    (fn_world_parted : PySem.W.isFn K (.ref fm_world_parted) = true)
    (fi_world_broken : PySem.W.findIn K (.ref c_World) "broken" = some (some (.ref fm_world_broken)))
    (lo_world_broken : K.lookup fm_world_broken = some ⟨oc_world_broken, od_world_broken, .func (PySem.W.fnOf "broken" "World.broken" (defArgs s_world_broken) (defBody s_world_broken) (defScope s_world_broken) .none kV_world_broken dc_world_broken pm_world_broken an_world_broken cd_world_broken ct_world_broken), sl_world_broken⟩)
    (co_world_broken : PySem.W.codeIn K cd_world_broken "World.broken" = true)
    (ke_world_broken : PySem.W.keepIn K (.ref fm_world_broken) = true)
    (fn_world_broken : PySem.W.isFn K (.ref fm_world_broken) = true)
    (fi_world_crossed : PySem.W.findIn K (.ref c_World) "crossed" = some (some (.ref fm_world_crossed)))
    (lo_world_crossed : K.lookup fm_world_crossed = some ⟨oc_world_crossed, od_world_crossed, .func (PySem.W.fnOf "crossed" "World.crossed" (defArgs s_world_crossed) (defBody s_world_crossed) (defScope s_world_crossed) .none kV_world_crossed dc_world_crossed pm_world_crossed an_world_crossed cd_world_crossed ct_world_crossed), sl_world_crossed⟩)
    (co_world_crossed : PySem.W.codeIn K cd_world_crossed "World.crossed" = true)
    (ke_world_crossed : PySem.W.keepIn K (.ref fm_world_crossed) = true)
    (fn_world_crossed : PySem.W.isFn K (.ref fm_world_crossed) = true)
    (fi_world_reached : PySem.W.findIn K (.ref c_World) "reached" = some (some (.ref fm_world_reached)))
    (lo_world_reached : K.lookup fm_world_reached = some ⟨oc_world_reached, od_world_reached, .func (PySem.W.fnOf "reached" "World.reached" (defArgs s_world_reached) (defBody s_world_reached) (defScope s_world_reached) .none kV_world_reached dc_world_reached pm_world_reached an_world_reached cd_world_reached ct_world_reached), sl_world_reached⟩)
    (co_world_reached : PySem.W.codeIn K cd_world_reached "World.reached" = true)
    (ke_world_reached : PySem.W.keepIn K (.ref fm_world_reached) = true)
    (fn_world_reached : PySem.W.isFn K (.ref fm_world_reached) = true)
    (b0 : PySem.W.nsIn K mainGlobals "len" = some none)
    (b1 : PySem.W.nsIn K mainGlobals "range" = some none)
    (b2 : PySem.W.nsIn K mainGlobals "isinstance" = some none)
    (b3 : PySem.W.nsIn K mainGlobals "str" = some none)
    (b4 : PySem.W.nsIn K mainGlobals "int" = some none)
    (b5 : PySem.W.nsIn K mainGlobals "tuple" = some none)
    (b6 : PySem.W.nsIn K mainGlobals "list" = some none)
    (b7 : PySem.W.nsIn K mainGlobals "bool" = some none)
    (b8 : PySem.W.nsIn K mainGlobals "enumerate" = some none)
    (b9 : PySem.W.nsIn K mainGlobals "all" = some none)
    (b10 : PySem.W.nsIn K mainGlobals "ValueError" = some none)
    (b11 : PySem.W.nsIn K mainGlobals "max" = some none)
    (b12 : PySem.W.nsIn K mainGlobals "reversed" = some none)
    (b13 : PySem.W.nsIn K mainGlobals "zip" = some none)
    (b14 : PySem.W.nsIn K mainGlobals "sum" = some none)
    (b15 : PySem.W.nsIn K mainGlobals "sorted" = some none)
    : ∃ fd : FuncData, (∀ (s : Shared) (v : Value), BindsTo s fd ⟨[v], []⟩ [("_law_script", v)]) ∧ ∀ base : Heap, K.In base → base.Ns mainGlobals mg → FnOk l.prog w K mg base CX0 7 fa fd ["_law_script"] (sp_law K) := by
  have e := hfa.symm.trans (PySem.W.mg_of X G a17)
  cases e
  have B : Bt mg := ⟨PySem.W.mg_none_of X G b0, PySem.W.mg_none_of X G b1, PySem.W.mg_none_of X G b2, PySem.W.mg_none_of X G b3, PySem.W.mg_none_of X G b4, PySem.W.mg_none_of X G b5, PySem.W.mg_none_of X G b6, PySem.W.mg_none_of X G b7, PySem.W.mg_none_of X G b8, PySem.W.mg_none_of X G b9, PySem.W.mg_none_of X G b10, PySem.W.mg_none_of X G b11, PySem.W.mg_none_of X G b12, PySem.W.mg_none_of X G b13, PySem.W.mg_none_of X G b14, PySem.W.mg_none_of X G b15⟩
  have F0 := fun_mk (st := s_is_small_letter) l0 k0 p0
  have B0 := F0.binds (ps := ["sign"]) fun _ _ _ _ _ _ us hl => by obtain ⟨_, rfl⟩ := len1 hl; rfl
  have M0 := PySem.W.mg_of X G a0
  have F1 := fun_mk (st := s_letters_of) l1 k1 p1
  have B1 := F1.binds (ps := ["text"]) fun _ _ _ _ _ _ us hl => by obtain ⟨_, rfl⟩ := len1 hl; rfl
  have M1 := PySem.W.mg_of X G a1
  have F2 := fun_mk (st := s_table_of) l2 k2 p2
  have B2 := F2.binds (ps := ["letters", "table"]) fun _ _ _ _ _ _ us hl => by obtain ⟨_, _, rfl⟩ := len2 hl; rfl
  have M2 := PySem.W.mg_of X G a2
  have F3 := fun_mk (st := s_rooms_met) l3 k3 p3
  have B3 := F3.binds (ps := ["table"]) fun _ _ _ _ _ _ us hl => by obtain ⟨_, rfl⟩ := len1 hl; rfl
  have M3 := PySem.W.mg_of X G a3
  have F4 := fun_mk (st := s_numbered_anew) l4 k4 p4
  have B4 := F4.binds (ps := ["row", "met"]) fun _ _ _ _ _ _ us hl => by obtain ⟨_, _, rfl⟩ := len2 hl; rfl
  have M4 := PySem.W.mg_of X G a4
  have F5 := fun_mk (st := s_crossed_table) l5 k5 p5
  have B5 := F5.binds (ps := ["one", "other"]) fun _ _ _ _ _ _ us hl => by obtain ⟨_, _, rfl⟩ := len2 hl; rfl
  have M5 := PySem.W.mg_of X G a5
  have F6 := fun_mk (st := s_cell_at) l6 k6 p6
  have B6 := F6.binds (ps := ["_law_script", "_law_k"]) fun _ _ _ _ _ _ us hl => by obtain ⟨_, _, rfl⟩ := len2 hl; rfl
  have M6 := PySem.W.mg_of X G a6
  have F7 := fun_mk (st := s_letters) l7 k7 p7
  have B7 := F7.binds (ps := ["_law_cell", "_law_many"]) fun _ _ _ _ _ _ us hl => by obtain ⟨_, _, rfl⟩ := len2 hl; rfl
  have M7 := PySem.W.mg_of X G a7
  have F8 := fun_mk (st := s_word) l8 k8 p8
  have B8 := F8.binds (ps := ["_law_letters_here", "_law_cell", "_law_size"]) fun _ _ _ _ _ _ us hl => by obtain ⟨_, _, _, rfl⟩ := len3 hl; rfl
  have M8 := PySem.W.mg_of X G a8
  have F9 := fun_mk (st := s_rows) l9 k9 p9
  have B9 := F9.binds (ps := ["_law_script", "_law_size", "_law_many"]) fun _ _ _ _ _ _ us hl => by obtain ⟨_, _, _, rfl⟩ := len3 hl; rfl
  have M9 := PySem.W.mg_of X G a9
  have F10 := fun_mk (st := s_led) l10 k10 p10
  have B10 := F10.binds (ps := ["_law_table", "_law_letters_here", "_law_room", "_law_word_here"]) fun _ _ _ _ _ _ us hl => by obtain ⟨_, _, _, _, rfl⟩ := len4 hl; rfl
  have M10 := PySem.W.mg_of X G a10
  have F11 := fun_mk (st := s_parted) l11 k11 p11
  have B11 := F11.binds (ps := ["_law_table", "_law_letters_here", "_law_one", "_law_other"]) fun _ _ _ _ _ _ us hl => by obtain ⟨_, _, _, _, rfl⟩ := len4 hl; rfl
  have M11 := PySem.W.mg_of X G a11
  have F12 := fun_mk (st := s_shape) l12 k12 p12
  have B12 := F12.binds (ps := ["_law_script", "_law_size", "_law_many", "_law_way"]) fun _ _ _ _ _ _ us hl => by obtain ⟨_, _, _, _, rfl⟩ := len4 hl; rfl
  have M12 := PySem.W.mg_of X G a12
  have F13 := fun_mk (st := s_held) l13 k13 p13
  have B13 := F13.binds (ps := ["_law_table", "_law_letters_here", "_law_cell"]) fun _ _ _ _ _ _ us hl => by obtain ⟨_, _, _, rfl⟩ := len3 hl; rfl
  have M13 := PySem.W.mg_of X G a13
  have F14 := fun_mk (st := s_at_all) l14 k14 p14
  have B14 := F14.binds (ps := ["_law_word_here", "_law_part"]) fun _ _ _ _ _ _ us hl => by obtain ⟨_, _, rfl⟩ := len2 hl; rfl
  have M14 := PySem.W.mg_of X G a14
  have F15 := fun_mk (st := s_chain) l15 k15 p15
  have B15 := F15.binds (ps := ["_law_pacts", "_law_word_here", "_law_cells"]) fun _ _ _ _ _ _ us hl => by obtain ⟨_, _, _, rfl⟩ := len3 hl; rfl
  have M15 := PySem.W.mg_of X G a15
  have F16 := fun_mk (st := s_even) l16 k16 p16
  have B16 := F16.binds (ps := ["_law_pacts"]) fun _ _ _ _ _ _ us hl => by obtain ⟨_, rfl⟩ := len1 hl; rfl
  have M16 := PySem.W.mg_of X G a16
  have F17 := fun_mk (st := s_law) l17 k17 p17
  have B17 := F17.binds (ps := ["_law_script"]) fun _ _ _ _ _ _ us hl => by obtain ⟨_, rfl⟩ := len1 hl; rfl
  have M17 := PySem.W.mg_of X G a17
  refine ⟨PySem.W.fnOf "law" "law" (defArgs s_law) (defBody s_law) (defScope s_law) .none kV17 dc17 pm17 an17 cd17 ct17, fun s v => .of_eq rfl, fun base _ _ => ?_⟩
  have XIl : XI K c_NoLetters := ⟨⟨x1, x2, x3, x4, x5⟩, x6, x7, x8, x9⟩
  have XIo : XI K c_NoWorld := ⟨⟨y1, y2, y3, y4, y5⟩, y6, x7, x8, y9⟩
  have TL : TLet K mg c_NoLetters := ⟨XIl, xi, PySem.W.mg_of X G g_NoLetters, t6, PySem.W.mg_of X G most⟩
  have TN : TNoWo K mg c_NoWorld := ⟨XIo, yi, PySem.W.mg_of X G g_NoWorld, t7, PySem.W.mg_of X G mostr⟩
  have CL : TWor K mg c_World := ⟨⟨pg_World, hd_World, po_World, sa_World⟩, PySem.W.mg_of X G g_World, nl_World, nt_World⟩
  have XIt : XI K c_TooMany := ⟨⟨w1, w2, w3, w4, w5⟩, w6, x7, x8, w9⟩
  have TM : TManX K mg c_TooMany := ⟨XIt, wi, PySem.W.mg_of X G g_TooMany⟩
  have D0 : Df l.prog w K mg base CX0 1 "is_small_letter" ["sign"] [] sp_small := ⟨_, _, ok_small F0, M0, p0, B0⟩
  have D1 : Df l.prog w K mg base (CXx l.prog w) 2 "letters_of" ["text"] [] (sp_letters_of c_NoLetters) := ⟨_, _, ok_letters_of B TL F1 D0, M1, p1, B1⟩
  have D2 : Df l.prog w K mg base (CXx l.prog w) 1 "table_of" ["letters", "table"] [] sp_table_of := ⟨_, _, ok_table_of B TN F2, M2, p2, B2⟩
  have FM_world_init := fun_mk (st := s_world_init) lo_world_init co_world_init ke_world_init
  have BM_world_init := FM_world_init.binds (ps := ["self", "letters", "table"]) fun _ _ _ _ _ _ us hl => by obtain ⟨_, _, _, rfl⟩ := len3 hl; rfl
  have MM_world_init : DMk l.prog w K mg base (CXx l.prog w) 4 c_World ["self", "letters", "table"] (sp_woinit c_World) := ⟨_, _, ⟨mk_World, fi_world_init, fn_world_init, kc_World⟩, ok_world_init B CL FM_world_init D1 D2, BM_world_init⟩
  have FM_world_rooms := fun_mk (st := s_world_rooms) lo_world_rooms co_world_rooms ke_world_rooms
  have BM_world_rooms := FM_world_rooms.binds (ps := ["self"]) fun _ _ _ _ _ _ us hl => by obtain ⟨_, rfl⟩ := len1 hl; rfl
  have MM_world_rooms : DM l.prog w K mg base CX0 1 c_World "rooms" ["self"] (sp_rooms c_World) := ⟨_, _, ⟨fi_world_rooms, fn_world_rooms, ke_world_rooms⟩, ok_world_rooms B CL FM_world_rooms, BM_world_rooms⟩
  have FM_world_table_told := fun_mk (st := s_world_table_told) lo_world_table_told co_world_table_told ke_world_table_told
  have BM_world_table_told := FM_world_table_told.binds (ps := ["self"]) fun _ _ _ _ _ _ us hl => by obtain ⟨_, rfl⟩ := len1 hl; rfl
  have MM_world_table_told : DM l.prog w K mg base CX0 1 c_World "table_told" ["self"] (sp_told c_World) := ⟨_, _, ⟨fi_world_table_told, fn_world_table_told, ke_world_table_told⟩, ok_world_table_told B CL FM_world_table_told, BM_world_table_told⟩
  have FM_world_led := fun_mk (st := s_world_led) lo_world_led co_world_led ke_world_led
  have BM_world_led := FM_world_led.binds (ps := ["self", "room", "word"]) fun _ _ _ _ _ _ us hl => by obtain ⟨_, _, _, rfl⟩ := len3 hl; rfl
  have MM_world_led : DM l.prog w K mg base CX0 1 c_World "led" ["self", "room", "word"] (sp_wled c_World) := ⟨_, _, ⟨fi_world_led, fn_world_led, ke_world_led⟩, ok_world_led B CL FM_world_led, BM_world_led⟩
  have D3 : Df l.prog w K mg base CX0 1 "rooms_met" ["table"] [] (sp_rooms_met K) := ⟨_, _, ok_rooms_met B F3, M3, p3, B3⟩
  have D4 : Df l.prog w K mg base CX0 1 "numbered_anew" ["row", "met"] [] (sp_numb K) := ⟨_, _, ok_numbered_anew B F4, M4, p4, B4⟩
  have FM_world_parted := fun_mk (st := s_world_parted) lo_world_parted co_world_parted ke_world_parted
  have BM_world_parted := FM_world_parted.binds (ps := ["self", "one", "other"]) fun _ _ _ _ _ _ us hl => by obtain ⟨_, _, _, rfl⟩ := len3 hl; rfl
  have MM_world_parted : DM l.prog w K mg base CX0 2 c_World "parted" ["self", "one", "other"] (sp_wparted c_World) := ⟨_, _, ⟨fi_world_parted, fn_world_parted, ke_world_parted⟩, ok_world_parted B CL FM_world_parted MM_world_rooms MM_world_led, BM_world_parted⟩
  have FM_world_broken := fun_mk (st := s_world_broken) lo_world_broken co_world_broken ke_world_broken
  have BM_world_broken := FM_world_broken.binds (ps := ["self", "pacts"]) fun _ _ _ _ _ _ us hl => by obtain ⟨_, _, rfl⟩ := len2 hl; rfl
  have MM_world_broken : DM l.prog w K mg base CX0 3 c_World "broken" ["self", "pacts"] (sp_wbroken K c_World) := ⟨_, _, ⟨fi_world_broken, fn_world_broken, ke_world_broken⟩, ok_world_broken B CL FM_world_broken MM_world_parted, BM_world_broken⟩
  have D5 : Df l.prog w K mg base CX0 1 "crossed_table" ["one", "other"] [] (sp_ctable K) := ⟨_, _, ok_crossed_table B F5, M5, p5, B5⟩
  have FM_world_crossed := fun_mk (st := s_world_crossed) lo_world_crossed co_world_crossed ke_world_crossed
  have BM_world_crossed := FM_world_crossed.binds (ps := ["self", "other"]) fun _ _ _ _ _ _ us hl => by obtain ⟨_, _, rfl⟩ := len2 hl; rfl
  have MM_world_crossed : DM l.prog w K mg base (CXx l.prog w) 6 c_World "crossed" ["self", "other"] (sp_wcrossed c_World c_NoWorld c_TooMany) := ⟨_, _, ⟨fi_world_crossed, fn_world_crossed, ke_world_crossed⟩, ok_world_crossed B TN TM CL FM_world_crossed D5 MM_world_init MM_world_rooms MM_world_table_told, BM_world_crossed⟩
  have FM_world_reached := fun_mk (st := s_world_reached) lo_world_reached co_world_reached ke_world_reached
  have BM_world_reached := FM_world_reached.binds (ps := ["self"]) fun _ _ _ _ _ _ us hl => by obtain ⟨_, rfl⟩ := len1 hl; rfl
  have MM_world_reached : DM l.prog w K mg base CX0 6 c_World "reached" ["self"] (sp_reached c_World) := ⟨_, _, ⟨fi_world_reached, fn_world_reached, ke_world_reached⟩, ok_world_reached B CL FM_world_reached D3 D4 MM_world_init, BM_world_reached⟩
  have D6 : Df l.prog w K mg base CX0 1 "_law_cell_at" ["_law_script", "_law_k"] [] (sp_cell_at K) := ⟨_, _, ok_cell_at B F6, M6, p6, B6⟩
  have D7 : Df l.prog w K mg base CX0 1 "_law_letters" ["_law_cell", "_law_many"] [] sp_letters := ⟨_, _, ok_letters B F7, M7, p7, B7⟩
  have D8 : Df l.prog w K mg base CX0 1 "_law_word" ["_law_letters_here", "_law_cell", "_law_size"] [] sp_word := ⟨_, _, ok_word B F8, M8, p8, B8⟩
  have D9 : Df l.prog w K mg base CX0 2 "_law_rows" ["_law_script", "_law_size", "_law_many"] [] (sp_rows K) := ⟨_, _, ok_rows B F9 D6, M9, p9, B9⟩
  have D10 : Df l.prog w K mg base CX0 1 "_law_led" ["_law_table", "_law_letters_here", "_law_room", "_law_word_here"] [] sp_lled := ⟨_, _, ok_led B F10, M10, p10, B10⟩
  have D11 : Df l.prog w K mg base CX0 2 "_law_parted" ["_law_table", "_law_letters_here", "_law_one", "_law_other"] [] sp_lparted := ⟨_, _, ok_parted B F11 D10, M11, p11, B11⟩
  have D12 : Df l.prog w K mg base CX0 3 "_law_shape" ["_law_script", "_law_size", "_law_many", "_law_way"] [] (sp_shape K) := ⟨_, _, ok_shape B F12 D9, M12, p12, B12⟩
  have D13 : Df l.prog w K mg base CX0 3 "_law_held" ["_law_table", "_law_letters_here", "_law_cell"] [] (sp_held K) := ⟨_, _, ok_held B F13 D8 D11, M13, p13, B13⟩
  have D14 : Df l.prog w K mg base CX0 1 "_law_at_all" ["_law_word_here", "_law_part"] [] (sp_atall K) := ⟨_, _, ok_at_all B F14, M14, p14, B14⟩
  have D15 : Df l.prog w K mg base CX0 2 "_law_chain" ["_law_pacts", "_law_word_here", "_law_cells"] [] (sp_chain K) := ⟨_, _, ok_chain B F15 D14, M15, p15, B15⟩
  have D16 : Df l.prog w K mg base CX0 1 "_law_even" ["_law_pacts"] [] (sp_even K) := ⟨_, _, ok_even B F16, M16, p16, B16⟩
  exact ok_law B CL F17 D6 D7 D12 D15 D13 D8 D16 MM_world_init MM_world_broken MM_world_parted MM_world_led MM_world_crossed MM_world_reached
theorem walk {l : PySem.W.OpenLaw} {q : Program} {loose : List Str} {XP : (Str → Option Value) → Heap → Prop} {YP : World → Heap → Prop} {d : DefRec} {K : Params → PySem.W.Frag} (hn : l.most = some 63) (hdf : d.params.defaults = [])
    (hY : ∀ (w : World) (h : Heap), YP w h → (K w.params).In h)
    (F : ∀ (w : World) (mg : Str → Option Value) (fa : Addr) (h : Heap), (K w.params).In h → h.Ns mainGlobals mg → mg d.name = some (.ref fa) →
      ∃ fd : FuncData, (∀ (s : Shared) (u : Value), BindsTo s fd ⟨[u], []⟩ [("_law_script", u)]) ∧ ∀ base : Heap, (K w.params).In base → base.Ns mainGlobals mg → FnOk l.prog w (K w.params) mg base CX0 7 fa fd ["_law_script"] (sp_law (K w.params))) :
    PySem.W.WalkO q loose XP YP l.row.toRowW d [] (fun f vs => PySem.call f vs) :=
  L2.walk_of (n := 63) (k := 7) (x := "_law_script") (CX := fun _ => CX0) (sp := fun w => sp_law (K w.params)) hn (by decide) hdf ⟨rfl, by decide, by decide⟩ hY F (fun _ _ a ns hl hB hS => ⟨a, ns, rfl, hS, fun _ => rfl⟩) fun _ _ _ _ _ z => z
end LL
open PySem PySem.W PyProof.Rows
set_option maxRecDepth 100000 in
set_option maxHeartbeats 0 in
theorem PySem.Challenge.cw_letterlaw_k70_whole_chains_keep_rooms_holds : PySem.Challenge.rw_letterlaw_k70_whole_chains_keep_rooms.Holds := by
  w_on; o_law; k_head; (case hw => w_witness2)
  k_fill
  refine LL.walk (l := PySem.Challenge.rw_letterlaw_k70_whole_chains_keep_rooms) rfl rfl (fun w h Y => PySem.W.kIn_of Y) ?F
  case F =>
    intro w mg fa h KX G hmg
    refine' LL.all_mk KX G hmg ?a0 ?l0 ?k0 ?p0 ?a1 ?l1 ?k1 ?p1 ?a2 ?l2 ?k2 ?p2 ?a3 ?l3 ?k3 ?p3 ?a4 ?l4 ?k4 ?p4 ?a5 ?l5 ?k5 ?p5 ?a6 ?l6 ?k6 ?p6 ?a7 ?l7 ?k7 ?p7 ?a8 ?l8 ?k8 ?p8 ?a9 ?l9 ?k9 ?p9 ?a10 ?l10 ?k10 ?p10 ?a11 ?l11 ?k11 ?p11 ?a12 ?l12 ?k12 ?p12 ?a13 ?l13 ?k13 ?p13 ?a14 ?l14 ?k14 ?p14 ?a15 ?l15 ?k15 ?p15 ?a16 ?l16 ?k16 ?p16 ?a17 ?l17 ?k17 ?p17 ?g_LetterError ?g_NoLetters ?g_NoWorld ?g_World ?g_TooMany ?ki ?kb ?kl ?x7 ?x8 ?x1 ?x2 ?x3 ?x4 ?x5 ?x6 ?x9 ?xi ?y1 ?y2 ?y3 ?y4 ?y5 ?y6 ?y9 ?yi ?most ?mostr ?pg_World ?hd_World ?po_World ?sa_World ?mk_World ?kc_World ?nl_World ?nt_World ?w1 ?w2 ?w3 ?w4 ?w5 ?w6 ?w9 ?wi ?fi_world_init ?lo_world_init ?co_world_init ?ke_world_init ?fn_world_init ?fi_world_rooms ?lo_world_rooms ?co_world_rooms ?ke_world_rooms ?fn_world_rooms ?fi_world_table_told ?lo_world_table_told ?co_world_table_told ?ke_world_table_told ?fn_world_table_told ?fi_world_led ?lo_world_led ?co_world_led ?ke_world_led ?fn_world_led ?fi_world_parted ?lo_world_parted ?co_world_parted ?ke_world_parted ?fn_world_parted ?fi_world_broken ?lo_world_broken ?co_world_broken ?ke_world_broken ?fn_world_broken ?fi_world_crossed ?lo_world_crossed ?co_world_crossed ?ke_world_crossed ?fn_world_crossed ?fi_world_reached ?lo_world_reached ?co_world_reached ?ke_world_reached ?fn_world_reached ?b0 ?b1 ?b2 ?b3 ?b4 ?b5 ?b6 ?b7 ?b8 ?b9 ?b10 ?b11 ?b12 ?b13 ?b14 ?b15
    (case a0 => k_is)
    (case l0 => k_is)
    (case k0 => k_is)
    (case p0 => k_is)
    (case a1 => k_is)
    (case l1 => k_is)
    (case k1 => k_is)
    (case p1 => k_is)
    (case a2 => k_is)
    (case l2 => k_is)
    (case k2 => k_is)
    (case p2 => k_is)
    (case a3 => k_is)
    (case l3 => k_is)
    (case k3 => k_is)
    (case p3 => k_is)
    (case a4 => k_is)
    (case l4 => k_is)
    (case k4 => k_is)
    (case p4 => k_is)
    (case a5 => k_is)
    (case l5 => k_is)
    (case k5 => k_is)
    (case p5 => k_is)
    (case a6 => k_is)
    (case l6 => k_is)
    (case k6 => k_is)
    (case p6 => k_is)
    (case a7 => k_is)
    (case l7 => k_is)
    (case k7 => k_is)
    (case p7 => k_is)
    (case a8 => k_is)
    (case l8 => k_is)
    (case k8 => k_is)
    (case p8 => k_is)
    (case a9 => k_is)
    (case l9 => k_is)
    (case k9 => k_is)
    (case p9 => k_is)
    (case a10 => k_is)
    (case l10 => k_is)
    (case k10 => k_is)
    (case p10 => k_is)
    (case a11 => k_is)
    (case l11 => k_is)
    (case k11 => k_is)
    (case p11 => k_is)
    (case a12 => k_is)
    (case l12 => k_is)
    (case k12 => k_is)
    (case p12 => k_is)
    (case a13 => k_is)
    (case l13 => k_is)
    (case k13 => k_is)
    (case p13 => k_is)
    (case a14 => k_is)
    (case l14 => k_is)
    (case k14 => k_is)
    (case p14 => k_is)
    (case a15 => k_is)
    (case l15 => k_is)
    (case k15 => k_is)
    (case p15 => k_is)
    (case a16 => k_is)
    (case l16 => k_is)
    (case k16 => k_is)
    (case p16 => k_is)
    (case a17 => k_is)
    (case l17 => k_is)
    (case k17 => k_is)
    (case p17 => k_is)
    (case g_LetterError => k_is)
    (case g_NoLetters => k_is)
    (case g_NoWorld => k_is)
    (case g_World => k_is)
    (case g_TooMany => k_is)
    (case ki => first | kernel_rfl | rfl)
    (case kb => first | kernel_rfl | rfl)
    (case kl => first | kernel_rfl | rfl)
    (case x7 => k_is)
    (case x8 => k_is)
    (case x1 => first | kernel_rfl | rfl | decide +kernel)
    (case x2 => k_is)
    (case x3 => k_is)
    (case x4 => k_is)
    (case x5 => k_is)
    (case x6 => k_is)
    (case x9 => k_is)
    (case xi => k_is)
    (case y1 => first | kernel_rfl | rfl | decide +kernel)
    (case y2 => k_is)
    (case y3 => k_is)
    (case y4 => k_is)
    (case y5 => k_is)
    (case y6 => k_is)
    (case y9 => k_is)
    (case yi => k_is)
    (case most => k_is)
    (case mostr => k_is)
    (case pg_World => first | kernel_rfl | rfl | k_is | decide +kernel)
    (case hd_World => first | kernel_rfl | rfl | k_is)
    (case po_World => first | kernel_rfl | rfl | k_is | decide +kernel)
    (case sa_World => k_is)
    (case mk_World => first | kernel_rfl | rfl | k_is | decide +kernel)
    (case kc_World => k_is)
    (case nl_World => k_is)
    (case nt_World => k_is)
    (case w1 => first | kernel_rfl | rfl | decide +kernel)
    (case w2 => k_is)
    (case w3 => k_is)
    (case w4 => k_is)
    (case w5 => k_is)
    (case w6 => k_is)
    (case w9 => k_is)
    (case wi => k_is)
    (case fi_world_init => k_is)
    (case lo_world_init => k_is)
    (case co_world_init => k_is)
    (case ke_world_init => k_is)
    (case fn_world_init => first | kernel_rfl | rfl | k_is)
    (case fi_world_rooms => k_is)
    (case lo_world_rooms => k_is)
    (case co_world_rooms => k_is)
    (case ke_world_rooms => k_is)
    (case fn_world_rooms => first | kernel_rfl | rfl | k_is)
    (case fi_world_table_told => k_is)
    (case lo_world_table_told => k_is)
    (case co_world_table_told => k_is)
    (case ke_world_table_told => k_is)
    (case fn_world_table_told => first | kernel_rfl | rfl | k_is)
    (case fi_world_led => k_is)
    (case lo_world_led => k_is)
    (case co_world_led => k_is)
    (case ke_world_led => k_is)
    (case fn_world_led => first | kernel_rfl | rfl | k_is)
    (case fi_world_parted => k_is)
    (case lo_world_parted => k_is)
    (case co_world_parted => k_is)
    (case ke_world_parted => k_is)
    (case fn_world_parted => first | kernel_rfl | rfl | k_is)
    (case fi_world_broken => k_is)
    (case lo_world_broken => k_is)
    (case co_world_broken => k_is)
    (case ke_world_broken => k_is)
    (case fn_world_broken => first | kernel_rfl | rfl | k_is)
    (case fi_world_crossed => k_is)
    (case lo_world_crossed => k_is)
    (case co_world_crossed => k_is)
    (case ke_world_crossed => k_is)
    (case fn_world_crossed => first | kernel_rfl | rfl | k_is)
    (case fi_world_reached => k_is)
    (case lo_world_reached => k_is)
    (case co_world_reached => k_is)
    (case ke_world_reached => k_is)
    (case fn_world_reached => first | kernel_rfl | rfl | k_is)
    (case b0 => k_is)
    (case b1 => k_is)
    (case b2 => k_is)
    (case b3 => k_is)
    (case b4 => k_is)
    (case b5 => k_is)
    (case b6 => k_is)
    (case b7 => k_is)
    (case b8 => k_is)
    (case b9 => k_is)
    (case b10 => k_is)
    (case b11 => k_is)
    (case b12 => k_is)
    (case b13 => k_is)
    (case b14 => k_is)
    (case b15 => k_is)
#print axioms PySem.Challenge.cw_letterlaw_k70_whole_chains_keep_rooms_holds
