import PyProof.Rows.All
import Wide.All
import OpenK.AllK
import Wide.FinOn
import PyProof.EqAt
import PyProof.EqKinds
import PyProof.NeKinds
import PyProof.TupleCall
import KE.KRevIter
import PyProof.ZipIter
import PyProof.Rows.SetFrom
import PyProof.StrWalks
import PyProof.DictStraight
import PyProof.StrLawsFrom
import PyProof.Rows.StrNews2
import KE.KMinBuiltin
import PyProof.Rows.CallKwBuiltin
import PyProof.Rows.SortShell
import KE.KSortTup
import KE.KBoundM
import KE.KLam
import Lean
import PySem.Challenge.RW_letterlaw_k92_refused
set_option compiler.extract_closed false
open List renaming mem_cons→aa,getElem?_eq_some_iff→ac,mem_append→ae,mem_singleton→af,mem_map→ag,mem_range→ah,all_eq_true→ai,nodup_cons→al,mem_filter→ap,mem_filterMap→aq,nodup_iff_count→ar
open Option renaming map_eq_some_iff→aj,isSome_iff_exists→am
open Bool renaming eq_false_iff→ao
local macro_rules | `(tactic| symm)=>do `(tactic| decide +kernel)
local macro_rules | `(tactic| nofun)=>do `(tactic| exact⟨rfl,rfl,rfl,by decide +kernel,rfl,by decide +kernel,by decide +kernel⟩)
set_option Elab.async false
set_option linter.all false
set_option maxRecDepth 100000
namespace L2
open PySem PySem.Spec PyProof.Rows
noncomputable abbrev Key := Sum Int Str
noncomputable def keyIs : Key → Value → Bool
  | .inl k, v => Value.isInt k v
  | .inr x, v => Value.isStrOf x v
noncomputable def keyH (w : World) : Key → Int
  | .inl k => hashInt k
  | .inr x => hashStr w x
theorem keyIs_shape : ∀ {k : Key} {v : Value}, keyIs k v = true → (∃ i t, k = Sum.inl i ∧ v = Value.int i t) ∨ (∃ x t, k = Sum.inr x ∧ v = Value.str x t)
  | .inl i, v, h => by
    obtain ⟨t, e⟩ := Value.isInt_shape (k := i) (v := v) h
    exact .inl ⟨i, t, rfl, e⟩
  | .inr x, v, h => by
    obtain ⟨t, e⟩ := Value.isStrOf_shape (x := x) (v := v) h
    exact .inr ⟨x, t, rfl, e⟩
theorem key_ll (a b : Int) : decide ((Sum.inl a : Key) = Sum.inl b) = (a == b) := by
  by_cases e : a = b
  · subst e; simp
  · have h : ¬ (Sum.inl a : Key) = Sum.inl b := fun q => e (Sum.inl.inj q)
    rw [decide_eq_false h]
    exact (beq_eq_false_iff_ne.mpr e).symm
theorem key_rr (a b : Str) : decide ((Sum.inr a : Key) = Sum.inr b) = decide (a = b) := by
  by_cases e : a = b
  · subst e; simp
  · have h : ¬ (Sum.inr a : Key) = Sum.inr b := fun q => e (Sum.inr.inj q)
    rw [decide_eq_false h, decide_eq_false e]
theorem key_lr (a : Int) (b : Str) : decide ((Sum.inl a : Key) = Sum.inr b) = false := decide_eq_false (fun q => nomatch q)
theorem key_rl (a : Str) (b : Int) : decide ((Sum.inr a : Key) = Sum.inl b) = false := decide_eq_false (fun q => nomatch q)
noncomputable def mixKind (prog : Program) (w : World) : PySem.KeyKind prog w Key where
  is := keyIs
  hash := keyH w
  inj := fun v a b ha hb => by
    rcases keyIs_shape ha with ⟨i, t, rfl, rfl⟩ | ⟨x, t, rfl, rfl⟩
    · rcases keyIs_shape hb with ⟨j, u, rfl, e⟩ | ⟨y, u, rfl, e⟩
      · injection e with e1 _; rw [e1]
      · exact nomatch e
    · rcases keyIs_shape hb with ⟨j, u, rfl, e⟩ | ⟨y, u, rfl, e⟩
      · exact nomatch e
      · injection e with e1 _; rw [e1]
  byValue := fun k v h => by
    rcases keyIs_shape h with ⟨i, t, rfl, rfl⟩ | ⟨x, t, rfl, rfl⟩ <;> rfl
  pyHash := fun hv h => by
    rcases keyIs_shape hv with ⟨i, t, rfl, rfl⟩ | ⟨x, t, rfl, rfl⟩
    · exact wpAny_pyHash_int h
    · exact wpAny_pyHash_str h
  eqBool := fun hu hv h => by
    rcases keyIs_shape hu with ⟨i, t, rfl, rfl⟩ | ⟨x, t, rfl, rfl⟩
    · rcases keyIs_shape hv with ⟨j, u, rfl, rfl⟩ | ⟨y, u, rfl, rfl⟩
      · rw [key_ll] at h; exact wpAny_eqBool_int h
      · rw [key_lr] at h; exact SeqAt.EqAt.int_str i t y u _ _ _ _ h
    · rcases keyIs_shape hv with ⟨j, u, rfl, rfl⟩ | ⟨y, u, rfl, rfl⟩
      · rw [key_rl] at h; exact SeqAt.EqAt.str_int x t j u _ _ _ _ h
      · rw [key_rr] at h; exact wpAny_eqBool_str h
  «strs» := fun k x t v h => by
    rcases keyIs_shape h with ⟨i, u, rfl, e⟩ | ⟨y, u, rfl, e⟩
    · exact nomatch e
    · injection e with e1 _
      subst e1
      cases v <;> rfl
end L2
namespace L2
open PySem PySem.Spec PyProof.Rows
inductive V where
  | non | bl (b : Bool) | int (i : Int) | str (x : Str) | byt (b : Array UInt8) | flt (b : UInt64) | ref (a : Addr) | ty (n : String)
  deriving DecidableEq
def RelV : V → Value → Prop
  | .non, u => u = Value.none
  | .bl b, u => u = Value.bool b
  | .int i, u => ∃ t, u = Value.int i t
  | .str x, u => ∃ t, u = Value.str x t
  | .byt b, u => ∃ t, u = Value.bytes b t
  | .flt b, u => ∃ t, u = Value.float b t
  | .ref a, u => u = Value.ref a
  | .ty n, u => u = Value.type n
abbrev Vals : List V → List Value → Prop := Paired RelV
theorem Vals.length {xs : List V} {us : List Value} (r : Vals xs us) : xs.length = us.length := Paired.length r
theorem Vals.get : ∀ {xs : List V} {us : List Value} {i : Nat} {x : V}, Vals xs us → xs[i]? = some x → ∃ u, us[i]? = some u ∧ RelV x u
  | _, _, _, _, .nil, e => by simp at e
  | _, _, 0, _, .cons r _, e => by simp at e; subst e; exact ⟨_, rfl, r⟩
  | _, _, i + 1, x, .cons _ t, e => by
    obtain ⟨u, h1, h2⟩ := Vals.get (i := i) (x := x) t (by simpa using e)
    exact ⟨u, by simpa using h1, h2⟩
theorem Vals.set {x : V} {u : Value} (r : RelV x u) : ∀ {xs : List V} {us : List Value} (i : Nat), Vals xs us → Vals (xs.set i x) (us.set i u)
  | _, _, _, .nil => .nil
  | _, _, 0, .cons _ t => .cons r t
  | _, _, i + 1, .cons q t => .cons q (Vals.set r i t)
theorem Vals.append : ∀ {xs ys : List V} {us ws : List Value}, Vals xs us → Vals ys ws → Vals (xs ++ ys) (us ++ ws)
  | _, _, _, _, .nil, s => s
  | _, _, _, _, .cons r t, s => .cons r (Vals.append t s)
theorem Vals.take : ∀ {xs : List V} {us : List Value} (n : Nat), Vals xs us → Vals (xs.take n) (us.take n)
  | _, _, 0, _ => .nil
  | _, _, _ + 1, .nil => .nil
  | _, _, n + 1, .cons r t => .cons r (Vals.take n t)
theorem Vals.drop : ∀ {xs : List V} {us : List Value} (n : Nat), Vals xs us → Vals (xs.drop n) (us.drop n)
  | _, _, 0, r => r
  | _, _, _ + 1, .nil => .nil
  | _, _, n + 1, .cons _ t => Vals.drop n t
def RelO : Option V → Option Value → Prop
  | some v, some u => RelV v u
  | none, none => True
  | _, _ => False
def KV {κ : Type} : List (κ × V) → List (κ × Value) → Prop := Paired fun (p : κ × V) (q : κ × Value) => p.1 = q.1 ∧ RelV p.2 q.2
noncomputable def kV : Key → V
  | .inl i => .int i
  | .inr x => .str x
inductive HO where
    | lst (xs : List V)
    | tup (xs : List V)
    | dK (kvs : List (Key × V)) | dT (kvs : List (List Key × V))
    | set (S : Int → Bool) (n : Nat)
    | ins (C dx : Addr) (fs : List (Str × V))
    | own (x : Addr)
    | xd (fs : List (Str × V))
    | met (f x : Addr)
    | rng (lo hi : Int)
    | frz (o : Obj) (u : HO)
    | tbl (ps : Array Value)
    | ext (φ : Heap → Prop)
noncomputable abbrev Hp := Addr → Option HO
noncomputable def upd (H : Hp) (a : Addr) (o : HO) : Hp := fun b => if b = a then some o else H b
theorem upd_same {H : Hp} {a : Addr} {o : HO} : upd H a o a = some o := by unfold upd; rw [if_pos rfl]
theorem upd_ne {H : Hp} {a b : Addr} {o : HO} (h : b ≠ a) : upd H a o b = H b := by unfold upd; rw [if_neg h]
theorem ne_of_none {H : Hp} {a b : Addr} {o : HO} (h : H a = some o) (h' : H b = none) : a ≠ b := by
  intro e; subst e; rw [h] at h'; cases h'
section
variable (P : Program) (w : World)
def ObjOk (H : Hp) (h : Heap) (a : Addr) : HO → Prop
  | .lst xs => xs.length ≤ sizeLine ∧ ∃ (its : List Value) (n : Nat), Vals xs its ∧ h.get? a = some { cls := .type "list", data := .seq its.toArray n }
  | .tup xs => xs.length ≤ sizeLine ∧ ∃ its : List Value, Vals xs its ∧ IsTup h a its.toArray
  | .dK kvs => kvs.length ≤ sizeLine ∧ (a == sysModules) = false ∧ ∃ vs, KV kvs vs ∧ h.DictOf (mixKind P w) a vs
  | .dT kvs => kvs.length ≤ sizeLine ∧ (a == sysModules) = false ∧ ∃ xs : List (List Key × Addr × Value),
      Paired (fun (p : List Key × V) (q : List Key × Addr × Value) => p.1 = q.1 ∧ H q.2.1 = some (.tup (p.1.map kV)) ∧ RelV p.2 q.2.2) kvs xs ∧
      ∃ o es ep, h.get? a = some o ∧ o.ExactDict ∧ o.data = .dict es ep ∧ es.toList = xs.map (entryOfKey (tupleKind (mixKind P w))) ∧ (xs.map (·.1)).Nodup
  | .set S n => h.SetOf (intKind P w) a S n
  | .ins C dx fs => H dx = some (.own a) ∧ fs.length ≤ 1000 ∧ dx ≠ a ∧ h.get? a = some (PySem.W.instObj C dx) ∧
      ∃ mA, h.Ns1 dx mA ∧ (∀ f, RelO (fs.lookup f) (mA f)) ∧ PySem.Within mA (fs.map (·.1))
  | .own _ => ∃ o, h.get? a = some o
  | .xd fs => ∃ mA, h.Ns1 a mA ∧ ∀ f, RelO (fs.lookup f) (mA f)
  | .rng lo hi => ∃ t u v, h.get? a = some { cls := .type "range", data := .fields #[.int lo t, .int hi u, .int 1 v] }
  | .frz o u => h.get? a = some o ∧ ObjOk H h a u
  | .tbl ps => h.get? a = some { cls := .none, data := .fields ps }
  | .met f x => h.get? a = some (PySem.W.methodObj (.ref f) (.ref x))
  | .ext φ => φ h ∧ (∃ o, h.get? a = some o) ∧ ∀ h1 h2 : Heap, φ h1 → (∀ o, h1.get? a = some o → h2.get? a = some o) → φ h2
def HOk (H : Hp) (h : Heap) : Prop := ∀ a o, H a = some o → ObjOk P w H h a o
end
section
variable {P : Program} {w : World} {H H' : Hp} {h h' : Heap} {a : Addr} {o : HO}
theorem ObjOk.lt (x : ObjOk P w H h a o) : a < h.objs.size := by
  cases o with
  | lst xs => obtain ⟨_, _, _, _, e⟩ := x; exact Heap.lt_size e
  | tup xs => obtain ⟨_, _, _, p⟩ := x; exact p.lt
  | dK kvs => obtain ⟨_, _, _, _, o, _, _, e, _⟩ := x; exact Heap.lt_size e
  | dT kvs => obtain ⟨_, _, _, _, o, _, _, e, _⟩ := x; exact Heap.lt_size e
  | set S n => obtain ⟨o, _, _, _, e, _⟩ := x; exact Heap.lt_size e
  | ins C dx fs => obtain ⟨_, _, _, e, _⟩ := x; exact Heap.lt_size e
  | own y => obtain ⟨_, e⟩ := x; exact Heap.lt_size e
  | xd fs => obtain ⟨_, ⟨_, _, _, e, _⟩, _⟩ := x; exact Heap.lt_size e
  | rng lo hi => obtain ⟨_, _, _, e⟩ := x; exact Heap.lt_size e
  | frz ob u => obtain ⟨e, _⟩ := x; exact Heap.lt_size e
  | tbl ps => exact Heap.lt_size (show h.get? a = some _ from x)
  | met f y => exact Heap.lt_size (show h.get? a = some _ from x)
  | ext φ => obtain ⟨_, ⟨_, e⟩, _⟩ := x; exact Heap.lt_size e
theorem Paired.mapP {α β : Type} {F G : α → β → Prop} : ∀ {l₁ : List α} {l₂ : List β}, Paired F l₁ l₂ → (∀ a b, F a b → G a b) → Paired G l₁ l₂
  | _, _, .nil, _ => .nil
  | _, _, .cons r t, f => .cons (f _ _ r) (Paired.mapP t f)
theorem ObjOk.stay (x : ObjOk P w H h a o) (k : ∀ b u, (b = a ∨ H b = some (.own a)) → h.get? b = some u → h'.get? b = some u)
    (ho : ∀ b, H b = some (.own a) → H' b = some (.own a)) (ht : ∀ b xs, H b = some (.tup xs) → H' b = some (.tup xs)) : ObjOk P w H' h' a o := by
  induction o with
  | lst xs => obtain ⟨z, its, n, r, e⟩ := x; exact ⟨z, its, n, r, k _ _ (.inl rfl) e⟩
  | tup xs => obtain ⟨z, its, r, ob, e, c⟩ := x; exact ⟨z, its, r, ob, k _ _ (.inl rfl) e, c⟩
  | dK kvs => obtain ⟨z, y, vs, r, ob, es, ep, e, c⟩ := x; exact ⟨z, y, vs, r, ob, es, ep, k _ _ (.inl rfl) e, c⟩
  | dT kvs =>
    obtain ⟨z, y, xs, r, ob, es, ep, e, c⟩ := x
    exact ⟨z, y, xs, Paired.mapP r fun p q z => ⟨z.1, ht _ _ z.2.1, z.2.2⟩, ob, es, ep, k _ _ (.inl rfl) e, c⟩
  | set S n => obtain ⟨ob, es, ep, t, e, c⟩ := x; exact ⟨ob, es, ep, t, k _ _ (.inl rfl) e, c⟩
  | ins C dx fs =>
    obtain ⟨d, z, ne, e, mA, ⟨od, es, ep, e2, c⟩, r⟩ := x
    exact ⟨ho _ d, z, ne, k _ _ (.inl rfl) e, mA, ⟨od, es, ep, k _ _ (.inr d) e2, c⟩, r⟩
  | own y => obtain ⟨ob, e⟩ := x; exact ⟨ob, k _ _ (.inl rfl) e⟩
  | xd fs => obtain ⟨mA, ⟨od, es, ep, e, c⟩, r⟩ := x; exact ⟨mA, ⟨od, es, ep, k _ _ (.inl rfl) e, c⟩, r⟩
  | rng lo hi => obtain ⟨t, u, v, e⟩ := x; exact ⟨t, u, v, k _ _ (.inl rfl) e⟩
  | frz ob u ih => obtain ⟨e, q⟩ := x; exact ⟨k _ _ (.inl rfl) e, ih q⟩
  | tbl ps =>
    have e : h.get? a = some { cls := .none, data := .fields ps } := x
    show h'.get? a = some { cls := .none, data := .fields ps }
    exact k a _ (.inl rfl) e
  | met f y =>
    have e : h.get? a = some (PySem.W.methodObj (.ref f) (.ref y)) := x
    show h'.get? a = some (PySem.W.methodObj (.ref f) (.ref y))
    exact k a _ (.inl rfl) e
  | ext φ => obtain ⟨p, ⟨o, e⟩, st⟩ := x; exact ⟨st _ _ p fun o q => k _ _ (.inl rfl) q, ⟨o, k _ _ (.inl rfl) e⟩, st⟩
theorem HOk.lt (x : HOk P w H h) (e : H a = some o) : a < h.objs.size := (x a o e).lt
theorem HOk.fresh (x : HOk P w H h) (e : h.objs.size ≤ a) : H a = none := by
  cases q : H a with
  | none => rfl
  | some u => exact absurd (Nat.lt_of_lt_of_le (x.lt q) e) (Nat.lt_irrefl _)
theorem HOk.kept (x : HOk P w H h) (k : ∀ b u, h.get? b = some u → h'.get? b = some u) : HOk P w H h' := fun a o e =>
  (x a o e).stay (fun b u _ q => k b u q) (fun _ q => q) fun _ _ q => q
theorem HOk.laid (x : HOk P w H h) (k : ∀ b u, h.get? b = some u → h'.get? b = some u) (hp : h.objs.size ≤ a) (new : ObjOk P w (upd H a o) h' a o) : HOk P w (upd H a o) h' := fun b u e => by
  have hn := x.fresh hp
  by_cases hb : b = a
  · subst hb; rw [upd_same] at e; cases e; exact new
  · rw [upd_ne hb] at e
    exact (x b u e).stay (fun c v _ q => k c v q) (fun c q => by rw [upd_ne (ne_of_none q hn)]; exact q) fun c xs q => by rw [upd_ne (ne_of_none q hn)]; exact q
end
def Rd (H : Hp) (a : Addr) (u : HO) : Prop := H a = some u ∨ ∃ o, H a = some (.frz o u)
theorem Rd.ok {P : Program} {w : World} {H : Hp} {h : Heap} {a : Addr} {u : HO} (r : Rd H a u) (x : HOk P w H h) : ObjOk P w H h a u := by
  rcases r with r | ⟨o, r⟩
  · exact x a u r
  · obtain ⟨_, q⟩ := x a _ r
    exact q
def Mut : Option HO → Prop
  | some (.lst _) => True
  | some (.dK _) => True
  | some (.dT _) => True
  | some (.set _ _) => True
  | some (.ins _ _ _) => True
  | some (.ext _) => True
  | _ => False
section
variable {P : Program} {w : World} {H : Hp} {h h' : Heap} {x e : Addr} {o' : HO}
theorem HOk.write (ok : HOk P w H h) (mu : Mut (H x)) (he : e = x ∨ H e = some (.own x)) (k : ∀ b u, b ≠ e → h.get? b = some u → h'.get? b = some u) (heo : ∃ u, h'.get? e = some u)
    (new : ObjOk P w (upd H x o') h' x o') : HOk P w (upd H x o') h' := fun b u q => by
  have nown : ∀ c y, H c = some (.own y) → c ≠ x := fun c y r z => by subst z; rw [r] at mu; exact mu
  have ntup : ∀ c xs, H c = some (.tup xs) → c ≠ x := fun c xs r z => by subst z; rw [r] at mu; exact mu
  by_cases hb : b = x
  · subst hb; rw [upd_same] at q; cases q; exact new
  · rw [upd_ne hb] at q
    by_cases hbe : b = e
    · have q' : H b = some (.own x) := by
        rcases he with z | z
        · exact absurd (hbe.trans z) hb
        · rw [hbe]; exact z
      rw [q] at q'; cases q'
      obtain ⟨v, hv⟩ := heo
      exact ⟨v, by rw [hbe]; exact hv⟩
    · refine (ok b u q).stay (fun c v hc r => k c v ?_ r) (fun c r => by rw [upd_ne (nown c b r)]; exact r) fun c xs r => by rw [upd_ne (ntup c xs r)]; exact r
      rcases hc with rfl | hc
      · exact hbe
      · rintro rfl
        rcases he with z | z
        · exact nown c b hc z
        · rw [hc] at z; cases z; exact hb rfl
end
structure Un (fs ex : List Addr) (H H' : Hp) (h h' : Heap) : Prop where
  keep : ∀ b o, h.get? b = some o → H b = none → b ∉ fs → b ∉ ex → h'.get? b = some o
  slot : ∀ b o, h.get? b = some o → H b = none → b ∈ fs → b ∉ ex → ∃ sl, h'.get? b = some { o with slots := sl }
  free : ∀ b o, h.get? b = some o → H b = none → b ∉ ex → H' b = none
  there : ∀ b o, h.get? b = some o → b ∉ ex → ∃ o', h'.get? b = some o'
  tups : ∀ b xs, H b = some (.tup xs) → H' b = some (.tup xs)
  frzs : ∀ b o u, H b = some (.frz o u) → H' b = some (.frz o u)
  tbls : ∀ b ps, H b = some (.tbl ps) → ∃ more, H' b = some (.tbl (ps ++ more))
section
variable {fs fs' ex ex' : List Addr} {H H1 H2 : Hp} {h h1 h2 h' : Heap} {a x e : Addr} {o : HO}
theorem Un.any (u : Un fs ex H H1 h h1) {b : Addr} {ob : Obj} (q : h.get? b = some ob) (n : H b = none) (hx : b ∉ ex) : ∃ sl, h1.get? b = some { ob with slots := sl } := by
  by_cases hb : b ∈ fs
  · exact u.slot b ob q n hb hx
  · exact ⟨ob.slots, u.keep b ob q n hb hx⟩
theorem Un.kept (k : ∀ b u, h.get? b = some u → h'.get? b = some u) : Un fs ex H H h h' :=
  ⟨fun b ob q _ _ _ => k b ob q, fun b ob q _ _ _ => ⟨ob.slots, k b ob q⟩, fun _ _ _ n _ => n, fun b ob q _ => ⟨ob, k b ob q⟩, fun _ _ q => q, fun _ _ _ q => q, fun _ ps q => ⟨#[], by rw [q]; simp⟩⟩
theorem Un.refl : Un fs ex H H h h := Un.kept fun _ _ q => q
theorem Un.laid (k : ∀ b u, h.get? b = some u → h'.get? b = some u) (hp : h.objs.size ≤ a) (hn : H a = none) : Un fs ex H (upd H a o) h h' where
  keep := fun b u q _ _ _ => k b u q
  slot := fun b u q _ _ _ => ⟨u.slots, k b u q⟩
  free := fun b u q n _ => by rw [upd_ne (Nat.ne_of_lt (Nat.lt_of_lt_of_le (Heap.lt_size q) hp))]; exact n
  there := fun b u q _ => ⟨u, k b u q⟩
  tups := fun b xs q => by rw [upd_ne (ne_of_none q hn)]; exact q
  frzs := fun b u xs q => by rw [upd_ne (ne_of_none q hn)]; exact q
  tbls := fun b ps q => ⟨#[], by rw [upd_ne (ne_of_none q hn), q]; simp⟩
theorem Un.write (mu : Mut (H x)) (he : e = x ∨ H e = some (.own x)) (k : ∀ b u, b ≠ e → h.get? b = some u → h'.get? b = some u) (heo : ∃ u, h'.get? e = some u) : Un fs ex H (upd H x o) h h' := by
  have hx : ∀ b, H b = none → b ≠ x := fun b n z => by subst z; rw [n] at mu; exact mu
  have hb : ∀ b, H b = none → b ≠ e := fun b n z => by
    subst z
    rcases he with r | r
    · exact hx b n r
    · rw [n] at r; cases r
  have hm : ∀ b u, H b = some u → ¬ Mut (some u) → b ≠ x := fun b u q nm z => by subst z; rw [q] at mu; exact nm mu
  refine ⟨fun b u q n _ _ => k b u (hb b n) q, fun b u q n _ _ => ⟨u.slots, k b u (hb b n) q⟩, fun b u q n _ => by rw [upd_ne (hx b n)]; exact n, fun b u q _ => ?_,
    fun b xs q => by rw [upd_ne (hm b _ q fun z => z)]; exact q, fun b u xs q => by rw [upd_ne (hm b _ q fun z => z)]; exact q, fun b ps q => ⟨#[], by rw [upd_ne (hm b _ q fun z => z), q]; simp⟩⟩
  by_cases hbe : b = e
  · subst hbe; exact heo
  · exact ⟨u, k b u hbe q⟩
end
noncomputable def trk (h : Heap) (H : Hp) : List Addr := (List.range h.objs.size).filter fun a => (H a).isSome
noncomputable def hidT (h : Heap) (H : Hp) : Heap := PySem.W.hideAll h (trk h H)
theorem hidT_size (h : Heap) (H : Hp) : (hidT h H).objs.size = h.objs.size := PySem.W.hideAll_size _ _
theorem hidT_get {h : Heap} {H : Hp} {b : Addr} {o : Obj} (e : h.get? b = some o) (n : H b = none) : (hidT h H).get? b = some o :=
  PySem.W.hideAll_get _ e fun hm => by
    have q : (H b).isSome = true := (ap.mp hm).2
    rw [n] at q; simp at q
theorem of_hidT {h : Heap} {H : Hp} {b : Addr} {o : Obj} (e : (hidT h H).get? b = some o) : h.get? b = some o ∧ H b = none := by
  have e' : h.get? b = some o := PySem.W.of_hideAll (trk h H) e
  refine ⟨e', ?_⟩
  cases q : H b with
  | none => rfl
  | some x =>
    have hm : b ∈ trk h H := ap.mpr ⟨ah.mpr (Heap.lt_size e'), by simp [q]⟩
    have z : (hidT h H).get? b = none := PySem.W.hideAll_none (trk h H) hm
    rw [z] at e; cases e
noncomputable def allNews (g h : Heap) (L : Addr) : List (Addr × Obj) := (List.range h.objs.size).filterMap fun a => if a = L ∨ (g.get? a).isSome = true then none else (h.get? a).map fun o => (a, o)
noncomputable def rest (g h : Heap) (L d : Addr) : List (Addr × Obj) := (allNews g h L).filter fun p => decide (p.1 ≠ d)
end L2
namespace L2
open PySem PySem.Spec PyProof.Rows
structure Mod (K : PySem.W.Frag) (mg : Str → Option Value) (base : Heap) : Prop where
  kin : K.In base
  glob : base.Ns mainGlobals mg
  blt : ∃ mb, base.Ns builtinsNs mb ∧ ∀ x : Str, x ≠ "__name__" → mb x = bootBuiltins x
  nolimit : base.NoLimit
structure Cx where
  prog : Program
  w : World
  K : PySem.W.Frag
  mg : Str → Option Value
  base : Heap
  A : Around
  N : List Str
  s₀ : Shared
  H₀ : Hp
  env : Env
  outer : List Env
  stack : List Env
  ex : List Addr
  fn : Str → Bool
  calm : Bool
  pn : List (Addr × Obj)
  xe : Value → Shared → Prop
noncomputable def frs (l : List Env) : List Addr := l.filterMap (·.frame)
noncomputable abbrev Cx.fs (X : Cx) : List Addr := frs X.outer
def Vis (sc : Scope) (x : Str) : Prop := sc.names.lookup x = some .local ∨ sc.names.lookup x = some .cell ∨ sc.names.lookup x = some .free
def Loc (sc : Scope) (x : Str) : Prop := sc.names.lookup x = some .local ∨ sc.names.lookup x = some .cell
def Look (env : Env) (h : Heap) (m : Str → Option Value) (x : Str) (u : Value) : Prop :=
  (env.kindOf x = some .local ∧ m x = some u) ∨ ((env.kindOf x = some .cell ∨ env.kindOf x = some .free) ∧ ∃ c, env.cells.lookup x = some c ∧ h.IsCell c (some u))
structure Cx.Ok (X : Cx) : Prop where
  mod : Mod X.K X.mg X.base
  kind : X.env.scope.kind = .function
  glob : X.env.globals = mainGlobals
  blt : X.env.builtins = builtinsNs
  above : X.s₀.heap.objs.size ≤ X.env.locals
  inj : ∀ x y c, X.env.cells.lookup x = some c → X.env.cells.lookup y = some c → x = y
  has : ∀ x, (X.env.kindOf x = some .cell ∨ X.env.kindOf x = some .free) → ∃ c, X.env.cells.lookup x = some c
  cab : ∀ x c, X.fn x = true → X.env.cells.lookup x = some c → X.s₀.heap.objs.size ≤ c
  hd : X.calm = true → X.A.handled = none
  frames : X.A.frames = some X.stack
  stk : X.stack = X.outer ∨ (X.stack = X.env :: X.outer ∧ X.env.frame = some X.env.locals)
  exf : ∀ b ∈ X.ex, b ≠ X.env.locals ∧ ∀ x c, X.env.cells.lookup x = some c → c ≠ b
  bs : ∀ b o, X.base.get? b = some o → X.s₀.heap.get? b = some o ∧ X.H₀ b = none
  bsz : X.base.objs.size ≤ X.s₀.heap.objs.size
  noex : ∀ b o, X.base.get? b = some o → b ∉ X.ex
  exfs : ∀ b ∈ X.ex, b ∉ X.fs
  funs : X.s₀.heap.FunFrames X.base X.outer
  frf : ∀ b ∈ X.fs, X.H₀ b = none
structure Inv (X : Cx) (pins : List (Addr × Obj)) (σ : List (Option V)) (H : Hp) (s : Shared) : Prop where
  ok : X.Ok
  os : s.os = X.s₀.os
  bare : AllBare s.gens
  base : Un X.fs X.ex X.H₀ H X.s₀.heap s.heap
  loc : ∃ m, s.heap.Ns X.env.locals m ∧ ∀ (i : Nat) (x : Str) (v : V), X.N[i]? = some x → σ[i]? = some (some v) → Vis X.env.scope x → ∃ u, RelV v u ∧ Look X.env s.heap m x u
  cell : ∀ x c, X.env.cells.lookup x = some c → ∃ v, s.heap.IsCell c v
  free : H X.env.locals = none
  freeC : ∀ x c, X.env.cells.lookup x = some c → H c = none
  pin : ∀ p ∈ X.pn ++ pins, s.heap.get? p.1 = some p.2 ∧ H p.1 = none ∧ p.1 ≠ X.env.locals ∧ p.1 ∉ X.fs ∧ ∀ v, p.2.data ≠ .cell v
  hok : HOk X.prog X.w H s.heap
  len : σ.length = X.N.length
section
variable {X : Cx} {pins : List (Addr × Obj)} {σ : List (Option V)} {H H' : Hp} {s : Shared} {h' : Heap}
theorem Cx.Ok.nofr (ok : X.Ok) {b : Addr} {o : Obj} (e : X.base.get? b = some o) : b ∉ X.fs := fun hb => by
  have := (ok.funs.mem hb).1
  rw [e] at this; cases this
theorem Inv.bs (I : Inv X pins σ H s) : ∀ b o, X.base.get? b = some o → s.heap.get? b = some o ∧ H b = none := fun b o e =>
  ⟨I.base.keep b o (I.ok.bs b o e).1 (I.ok.bs b o e).2 (I.ok.nofr e) (I.ok.noex b o e), I.base.free b o (I.ok.bs b o e).1 (I.ok.bs b o e).2 (I.ok.noex b o e)⟩
theorem Inv.bk (I : Inv X pins σ H s) : ∀ b o, X.base.get? b = some o → s.heap.get? b = some o := fun b o e => (I.bs b o e).1
theorem Inv.mod (I : Inv X pins σ H s) : Mod X.K X.mg X.base := I.ok.mod
theorem Inv.kIn (I : Inv X pins σ H s) : X.K.In s.heap := I.ok.mod.kin.keeps I.bk
theorem Inv.nolimit (I : Inv X pins σ H s) : s.heap.NoLimit := I.ok.mod.nolimit.keeps I.bk
theorem Inv.fr (I : Inv X pins σ H s) : ∃ m, Fr X.base X.env.locals s.heap m :=
  let ⟨m, hn, _⟩ := I.loc
  ⟨m, hn, I.bk, Nat.le_trans I.ok.bsz I.ok.above⟩
theorem Inv.lt (I : Inv X pins σ H s) : X.env.locals < s.heap.objs.size := let ⟨_, hn, _⟩ := I.loc; hn.lt
theorem Inv.sz (I : Inv X pins σ H s) : X.s₀.heap.objs.size ≤ s.heap.objs.size := Nat.le_trans I.ok.above (Nat.le_of_lt I.lt)
theorem Inv.nofs (I : Inv X pins σ H s) {a : Addr} (h : s.heap.objs.size ≤ a) : a ∉ X.fs := fun hb => by
  obtain ⟨_, o, ho, _⟩ := I.ok.funs.mem hb
  exact absurd (Nat.lt_of_lt_of_le (Heap.lt_size ho) (Nat.le_trans I.sz h)) (Nat.lt_irrefl _)
theorem Inv.cne (I : Inv X pins σ H s) : ∀ x c, X.env.cells.lookup x = some c → c ≠ X.env.locals := fun x c e z => by
  obtain ⟨v, o, ho, hd⟩ := I.cell x c e
  obtain ⟨m, ⟨o', es, ep, ho', hd', _⟩, _⟩ := I.loc
  rw [z, ho'] at ho; cases ho; rw [hd'] at hd; cases hd
theorem Inv.funs (I : Inv X pins σ H s) : s.heap.FunFrames X.base X.outer := by
  have all : ∀ (l : List Env), (∀ b ∈ frs l, b ∈ X.fs) → X.s₀.heap.FunFrames X.base l → s.heap.FunFrames X.base l := by
    intro l
    induction l with
    | nil => intro _ _; trivial
    | cons env r ih =>
      intro hs hl
      obtain ⟨hk, ⟨L, o, hf, hn, ho, hd⟩, hr⟩ := hl
      have hL : L ∈ X.fs := hs L (by unfold frs; rw [List.filterMap_cons, hf]; exact List.mem_cons_self)
      obtain ⟨sl, e⟩ := I.base.slot L o ho (I.ok.frf L hL) hL fun z => I.ok.exfs L z hL
      exact ⟨hk, ⟨L, _, hf, hn, e, hd⟩, ih (fun b hb => hs b (by unfold frs; rw [List.filterMap_cons, hf]; exact List.mem_cons_of_mem _ hb)) hr⟩
  exact all X.outer (fun _ hb => hb) I.ok.funs
theorem Inv.stack (I : Inv X pins σ H s) : s.heap.FunFrames X.base X.stack := by
  rcases I.ok.stk with e | ⟨e, hf⟩
  · rw [e]; exact I.funs
  · rw [e]
    obtain ⟨m, hn, _⟩ := I.loc
    refine .cons (by rw [I.ok.kind]; decide) hf hn ?_ I.funs
    exact Heap.get?_none_of_le (Nat.le_trans I.ok.bsz I.ok.above)
theorem Inv.stkSub (I : Inv X pins σ H s) : ∀ b ∈ frs X.stack, b ∈ X.env.locals :: X.fs := fun b hb => by
  rcases I.ok.stk with e | ⟨e, hf⟩
  · rw [e] at hb; exact List.mem_cons_of_mem _ hb
  · rw [e] at hb
    unfold frs at hb
    rw [List.filterMap_cons, hf] at hb
    exact hb
theorem Inv.stkFree (I : Inv X pins σ H s) : ∀ b ∈ frs X.stack, H b = none := fun b hb => by
  rcases aa.mp (I.stkSub b hb) with e | hb
  · rw [e]; exact I.free
  · obtain ⟨_, o, ho, _⟩ := I.ok.funs.mem hb
    exact I.base.free b o ho (I.ok.frf b hb) fun z => I.ok.exfs b z hb
theorem Inv.step {g' : Array GenState} {t' : Nat} {d' : Drawn} {ch : List Addr} (I : Inv X pins σ H s)
    (hch : ∀ b ∈ ch, (b ∈ X.ex ∨ X.s₀.heap.objs.size ≤ b) ∧ b ≠ X.env.locals ∧ (∀ x c, X.env.cells.lookup x = some c → c ≠ b) ∧ ∀ p ∈ X.pn ++ pins, p.1 ≠ b)
    (keep : ∀ b o, b ≠ X.env.locals → b ∉ X.fs → b ∉ ch → s.heap.get? b = some o → H b = none → h'.get? b = some o)
    (slot : ∀ b o, b ≠ X.env.locals → b ∈ X.fs → b ∉ ch → s.heap.get? b = some o → H b = none → ∃ sl, h'.get? b = some { o with slots := sl }) (free : ∀ b o, b ∉ ch → s.heap.get? b = some o → H b = none → H' b = none)
    (there : ∀ b o, b ∉ ch → s.heap.get? b = some o → ∃ o', h'.get? b = some o')
    (tups : ∀ b xs, H b = some (.tup xs) → H' b = some (.tup xs)) (frzs : ∀ b o u, H b = some (.frz o u) → H' b = some (.frz o u)) (tbls : ∀ b ps, H b = some (.tbl ps) → ∃ more, H' b = some (.tbl (ps ++ more)))
    (ns : ∀ m, s.heap.Ns X.env.locals m → h'.Ns X.env.locals m) (hok : HOk X.prog X.w H' h') (hg : AllBare g') :
    Inv X pins σ H' { s with heap := h', gens := g', drawn := d', toks := t' } := by
  have neL : ∀ b o, X.s₀.heap.get? b = some o → b ≠ X.env.locals := fun b o e => Nat.ne_of_lt (Nat.lt_of_lt_of_le (Heap.lt_size e) I.ok.above)
  have neC : ∀ b o, X.s₀.heap.get? b = some o → b ∉ X.ex → b ∉ ch := fun b o e hx hb => by
    rcases (hch b hb).1 with z | z
    · exact hx z
    · exact absurd (Nat.lt_of_lt_of_le (Heap.lt_size e) z) (Nat.lt_irrefl _)
  have cellK : ∀ x c, X.env.cells.lookup x = some c → ∀ v, s.heap.IsCell c v → h'.IsCell c v := fun x c e v ⟨o, ho, hd⟩ => by
    have nch : c ∉ ch := fun z => (hch c z).2.2.1 x c e rfl
    by_cases hc : c ∈ X.fs
    · obtain ⟨sl, q⟩ := slot c o (I.cne x c e) hc nch ho (I.freeC x c e)
      exact ⟨_, q, hd⟩
    · exact ⟨o, keep c o (I.cne x c e) hc nch ho (I.freeC x c e), hd⟩
  refine ⟨I.ok, I.os, hg, ⟨fun b o e n hb hx => ?_, fun b o e n hb hx => ?_, fun b o e n hx => ?_, fun b o e hx => ?_, fun b xs e => tups b xs (I.base.tups b xs e), fun b o xs e => frzs b o xs (I.base.frzs b o xs e), fun b ps e => ?_⟩, ?_, fun x c e => ?_, ?_, fun x c e => ?_, fun p hp => ?_, hok, I.len⟩
  · exact keep b o (neL b o e) hb (neC b o e hx) (I.base.keep b o e n hb hx) (I.base.free b o e n hx)
  · obtain ⟨sl, e1⟩ := I.base.slot b o e n hb hx
    obtain ⟨sl', e2⟩ := slot b _ (neL b o e) hb (neC b o e hx) e1 (I.base.free b o e n hx)
    exact ⟨sl', e2⟩
  · obtain ⟨o', e1⟩ := I.base.there b o e hx
    exact free b o' (neC b o e hx) e1 (I.base.free b o e n hx)
  · obtain ⟨o', e1⟩ := I.base.there b o e hx
    exact there b o' (neC b o e hx) e1
  · obtain ⟨m1, e1⟩ := I.base.tbls b ps e
    obtain ⟨m2, e2⟩ := tbls b _ e1
    exact ⟨m1 ++ m2, by rw [e2, Array.append_assoc]⟩
  · obtain ⟨m, hn, hl⟩ := I.loc
    refine ⟨m, ns m hn, fun i x v e1 e2 e3 => ?_⟩
    obtain ⟨u, r, l⟩ := hl i x v e1 e2 e3
    refine ⟨u, r, ?_⟩
    rcases l with l | ⟨k, c, e, z⟩
    · exact .inl l
    · exact .inr ⟨k, c, e, cellK x c e _ z⟩
  · obtain ⟨v, z⟩ := I.cell x c e
    exact ⟨v, cellK x c e v z⟩
  · obtain ⟨m, ⟨o, _, _, ho, _⟩, _⟩ := I.loc
    exact free _ o (fun z => (hch _ z).2.1 rfl) ho I.free
  · obtain ⟨v, o, ho, hd⟩ := I.cell x c e
    exact free c o (fun z => (hch c z).2.2.1 x c e rfl) ho (I.freeC x c e)
  · obtain ⟨e, n, ne, nf, d⟩ := I.pin p hp
    have nch : p.1 ∉ ch := fun z => (hch p.1 z).2.2.2 p hp rfl
    exact ⟨keep p.1 p.2 ne nf nch e n, free p.1 p.2 nch e n, ne, nf, d⟩
theorem Inv.un {t' : Nat} (I : Inv X pins σ H s) (u : Un X.fs [] H H' s.heap h') (hok : HOk X.prog X.w H' h') : Inv X pins σ H' { s with heap := h', toks := t' } := by
  obtain ⟨m, ⟨o, es, ep, ho, r⟩, _⟩ := id I.loc
  obtain ⟨sl, hL⟩ := u.any ho I.free (by simp)
  exact I.step (g' := s.gens) (d' := s.drawn) (ch := []) (fun _ z => nomatch z) (fun b o _ hb _ e n => u.keep b o e n hb (by simp)) (fun b o _ hb _ e n => u.slot b o e n hb (by simp)) (fun b o _ e n => u.free b o e n (by simp)) (fun b o _ e => u.there b o e (by simp)) u.tups u.frzs u.tbls (fun m' hm => by
    obtain ⟨o', es', ep', ho', r'⟩ := hm
    rw [ho] at ho'; cases ho'
    exact ⟨_, es', ep', hL, r'⟩) hok I.bare
theorem Inv.call {g' : Array GenState} {t' : Nat} {d' : Drawn} {ch : List Addr} (I : Inv X pins σ H s) (u : Un (frs X.stack) ch H H' s.heap h') (hok : HOk X.prog X.w H' h') (hg : AllBare g')
    (hch : ∀ b ∈ ch, (b ∈ X.ex ∨ X.s₀.heap.objs.size ≤ b) ∧ b ≠ X.env.locals ∧ (∀ x c, X.env.cells.lookup x = some c → c ≠ b) ∧ ∀ p ∈ X.pn ++ pins, p.1 ≠ b) :
    Inv X pins σ H' { s with heap := h', gens := g', drawn := d', toks := t' } := by
  obtain ⟨m, ⟨o, es, ep, ho, r⟩, _⟩ := id I.loc
  obtain ⟨sl, hL⟩ := u.any ho I.free fun z => (hch _ z).2.1 rfl
  exact I.step (ch := ch) hch (fun b o hL hb hc e n => u.keep b o e n (fun z => (aa.mp (I.stkSub b z)).elim hL hb) hc) (fun b o _ _ hc e n => u.any e n hc) (fun b o hc e n => u.free b o e n hc) (fun b o hc e => u.there b o e hc) u.tups u.frzs u.tbls (fun m' hm => by
    obtain ⟨o', es', ep', ho', r'⟩ := hm
    rw [ho] at ho'; cases ho'
    exact ⟨_, es', ep', hL, r'⟩) hok hg
theorem Inv.turned {t' : Nat} {it : Addr} (I : Inv X pins σ H s) (k : ∀ b o, b ≠ it → s.heap.get? b = some o → h'.get? b = some o) (hn : H it = none) (hL : it ≠ X.env.locals)
    (h1 : it ∈ X.ex ∨ X.s₀.heap.objs.size ≤ it) (h2 : ∀ x c, X.env.cells.lookup x = some c → c ≠ it) (h3 : ∀ p ∈ X.pn ++ pins, p.1 ≠ it) : Inv X pins σ H { s with heap := h', toks := t' } := by
  have nit : ∀ b u, H b = some u → b ≠ it := fun b u e z => by rw [z, hn] at e; cases e
  refine I.step (g' := s.gens) (d' := s.drawn) (ch := [it]) (fun b hb => ?_) (fun b o _ _ hc e _ => k b o (fun z => hc (by simp [z])) e) (fun b o _ _ hc e _ => ⟨o.slots, k b o (fun z => hc (by simp [z])) e⟩) (fun _ _ _ _ n => n)
    (fun b o hc e => ⟨o, k b o (fun z => hc (by simp [z])) e⟩) (fun _ _ e => e) (fun _ _ _ e => e) (fun b ps e => ⟨#[], by rw [e]; simp⟩) (fun m hm => ?_) (fun b u e => ?_) I.bare
  · have e : b = it := by simpa using hb
    subst e
    exact ⟨h1, hL, h2, h3⟩
  · obtain ⟨o, es, ep, ho, r⟩ := hm
    exact ⟨o, es, ep, k _ o (Ne.symm hL) ho, r⟩
  · refine (I.hok b u e).stay (fun c v hc q => k c v ?_ q) (fun _ q => q) fun _ _ q => q
    rcases hc with z | z
    · rw [z]; exact nit b u e
    · exact nit c _ z
theorem Inv.tok (I : Inv X pins σ H s) (t : Nat) : Inv X pins σ H { s with toks := t } := I.un (h' := s.heap) (t' := t) Un.refl I.hok
theorem Inv.kept {t' : Nat} (I : Inv X pins σ H s) (k : ∀ b u, s.heap.get? b = some u → h'.get? b = some u) : Inv X pins σ H { s with heap := h', toks := t' } := I.un (Un.kept k) (I.hok.kept k)
theorem Inv.laid {a : Addr} {o : HO} {t' : Nat} (I : Inv X pins σ H s) (k : ∀ b u, s.heap.get? b = some u → h'.get? b = some u) (hp : s.heap.objs.size ≤ a) (new : ObjOk X.prog X.w (upd H a o) h' a o) :
    Inv X pins σ (upd H a o) { s with heap := h', toks := t' } := I.un (Un.laid k hp (I.hok.fresh hp)) (I.hok.laid k hp new)
theorem Inv.write {x e : Addr} {o : HO} {t' : Nat} (I : Inv X pins σ H s) (mu : Mut (H x)) (he : e = x ∨ H e = some (.own x)) (k : ∀ b u, b ≠ e → s.heap.get? b = some u → h'.get? b = some u) (heo : ∃ u, h'.get? e = some u)
    (new : ObjOk X.prog X.w (upd H x o) h' x o) : Inv X pins σ (upd H x o) { s with heap := h', toks := t' } := I.un (Un.write mu he k heo) (I.hok.write mu he k heo new)
theorem Inv.weak {σ' : List (Option V)} (I : Inv X pins σ H s) (hl : σ'.length = σ.length) (w : ∀ (i : Nat) v, σ'[i]? = some (some v) → σ[i]? = some (some v)) : Inv X pins σ' H s :=
  ⟨I.ok, I.os, I.bare, I.base, let ⟨m, hn, hl'⟩ := I.loc; ⟨m, hn, fun i x v e1 e2 e3 => hl' i x v e1 (w i v e2) e3⟩, I.cell, I.free, I.freeC, I.pin, I.hok, hl.trans I.len⟩
theorem Inv.pins_of {pins' : List (Addr × Obj)} (I : Inv X pins σ H s) (h : ∀ p ∈ pins', s.heap.get? p.1 = some p.2 ∧ H p.1 = none ∧ p.1 ≠ X.env.locals ∧ p.1 ∉ X.fs ∧ ∀ v, p.2.data ≠ .cell v) : Inv X pins' σ H s :=
  ⟨I.ok, I.os, I.bare, I.base, I.loc, I.cell, I.free, I.freeC, fun p hp => (ae.mp hp).elim (fun z => I.pin p (List.mem_append_left _ z)) (h p), I.hok, I.len⟩
theorem nodup_ix {N : List Str} (hN : N.Nodup) {i j : Nat} {x : Str} (a : N[i]? = some x) (b : N[j]? = some x) : i = j := by
  obtain ⟨h1, e1⟩ := ac.mp a
  obtain ⟨h2, e2⟩ := ac.mp b
  exact (List.getElem_inj hN).mp (e1.trans e2.symm)
theorem store_ok2 {M : Model} {A : Around} {E : Value → Shared → Prop} {i : Nat} {x : Str} {v : V} {u : Value} {Q : Unit → Shared → Prop} (I : Inv X pins σ H s) (hN : X.N.Nodup) (hi : X.N[i]? = some x) (hx : Loc X.env.scope x) (r : RelV v u)
    (h : ∀ s', Inv X pins (σ.set i (some v)) H s' → (∃ a, Heap.SameBut a s.heap s'.heap ∧ (a = X.env.locals ∨ X.env.cells.lookup x = some a)) → Q () s') (hf : X.fn x = true ∨ X.env.scope.names.lookup x = some .local := by first | exact .inl rfl | exact .inr rfl | assumption) : wpAny M A (storeName X.env x u) Q E s := by
  obtain ⟨m, hn, hl⟩ := id I.loc
  have hcls : (X.env.scope.kind == .class || (X.env.scope.kind == .module && X.env.locals != X.env.globals)) = false := by rw [I.ok.kind]; rfl
  have hiσ : i < σ.length := by rw [I.len]; exact (ac.mp hi).1
  have cne := I.cne
  have tracked : ∀ {a : Addr} {h' : Heap}, (∃ o, s.heap.get? a = some o ∧ H a = none) → Heap.SameBut a s.heap h' → HOk X.prog X.w H h' := fun {a h'} ha hs b ob e => by
    obtain ⟨_, _, hfree⟩ := ha
    refine (I.hok b ob e).stay (fun c w' hc q => (hs.2 c ?_).trans q) (fun _ q => q) fun _ _ q => q
    rintro rfl
    rcases hc with rfl | hc
    · rw [hfree] at e; cases e
    · rw [hfree] at hc; cases hc
  rcases hx with hk | hk
  · refine wpAny_storeName_local hk hn (fun h' hn' hs => ?_) hcls
    obtain ⟨oL, _, _, hoL, _⟩ := id hn
    refine h _ ⟨I.ok, I.os, I.bare, ⟨fun b o e n hb hx => ?_, fun b o e n hb hx => ?_, I.base.free, fun b o e hx => ?_, I.base.tups, I.base.frzs, I.base.tbls⟩, ⟨_, hn', fun j y v' e1 e2 e3 => ?_⟩, fun y c e => ?_, I.free, I.freeC, fun p hp => ?_, tracked ⟨oL, hoL, I.free⟩ hs, by simpa using I.len⟩ ⟨_, hs, .inl rfl⟩
    · exact (hs.2 b (Nat.ne_of_lt (Nat.lt_of_lt_of_le (Heap.lt_size e) I.ok.above))).trans (I.base.keep b o e n hb hx)
    · obtain ⟨sl, e1⟩ := I.base.slot b o e n hb hx
      exact ⟨sl, (hs.2 b (Nat.ne_of_lt (Nat.lt_of_lt_of_le (Heap.lt_size e) I.ok.above))).trans e1⟩
    · obtain ⟨o', e1⟩ := I.base.there b o e hx
      exact ⟨o', (hs.2 b (Nat.ne_of_lt (Nat.lt_of_lt_of_le (Heap.lt_size e) I.ok.above))).trans e1⟩
    · by_cases hj : j = i
      · subst hj
        rw [hi] at e1; cases e1
        rw [List.getElem?_set_self hiσ] at e2
        cases e2
        exact ⟨u, r, .inl ⟨hk, by simp⟩⟩
      · rw [List.getElem?_set_ne (Ne.symm hj)] at e2
        obtain ⟨u', r', q⟩ := hl j y v' e1 e2 e3
        refine ⟨u', r', ?_⟩
        rcases q with ⟨k, e⟩ | ⟨k, c, e, z⟩
        · refine .inl ⟨k, ?_⟩
          have : y ≠ x := fun e => hj (nodup_ix hN e1 (e ▸ hi))
          simp [this, e]
        · exact .inr ⟨k, c, e, z.sameBut hs (cne y c e)⟩
    · obtain ⟨w', z⟩ := I.cell y c e
      exact ⟨w', z.sameBut hs (cne y c e)⟩
    · obtain ⟨e, n, ne, nf, d⟩ := I.pin p hp
      exact ⟨(hs.2 p.1 ne).trans e, n, ne, nf, d⟩
  · have hfn : X.fn x = true := by
      rcases hf with z | z
      · exact z
      · rw [z] at hk; cases hk
    obtain ⟨c, hc⟩ := I.ok.has x (.inl hk)
    obtain ⟨w', z⟩ := I.cell x c hc
    refine wpAny_storeName_cell I.ok.kind hk hc z (fun h' hc' hs => ?_)
    obtain ⟨oc, hoc, hocd⟩ := id z
    refine h { s with heap := h' } ⟨I.ok, I.os, I.bare, ⟨fun b o e n hb hx => ?_, fun b o e n hb hx => ?_, I.base.free, fun b o e hx => ?_, I.base.tups, I.base.frzs, I.base.tbls⟩, ⟨m, hn.sameBut hs (Ne.symm (cne x c hc)), fun j y v' e1 e2 e3 => ?_⟩, fun y c' e => ?_, I.free, I.freeC, fun p hp => ?_, tracked ⟨oc, hoc, I.freeC x c hc⟩ hs, by simpa using I.len⟩ ⟨c, hs, .inr hc⟩
    · exact (hs.2 b (Nat.ne_of_lt (Nat.lt_of_lt_of_le (Heap.lt_size e) (I.ok.cab x c hfn hc)))).trans (I.base.keep b o e n hb hx)
    · obtain ⟨sl, e1⟩ := I.base.slot b o e n hb hx
      exact ⟨sl, (hs.2 b (Nat.ne_of_lt (Nat.lt_of_lt_of_le (Heap.lt_size e) (I.ok.cab x c hfn hc)))).trans e1⟩
    · obtain ⟨o', e1⟩ := I.base.there b o e hx
      exact ⟨o', (hs.2 b (Nat.ne_of_lt (Nat.lt_of_lt_of_le (Heap.lt_size e) (I.ok.cab x c hfn hc)))).trans e1⟩
    · by_cases hj : j = i
      · subst hj
        rw [hi] at e1; cases e1
        rw [List.getElem?_set_self hiσ] at e2
        cases e2
        exact ⟨u, r, .inr ⟨.inl hk, c, hc, hc'⟩⟩
      · rw [List.getElem?_set_ne (Ne.symm hj)] at e2
        obtain ⟨u', r', q⟩ := hl j y v' e1 e2 e3
        refine ⟨u', r', ?_⟩
        rcases q with q | ⟨k, c', e, z'⟩
        · exact .inl q
        · refine .inr ⟨k, c', e, z'.sameBut hs ?_⟩
          rintro rfl
          exact hj (nodup_ix hN e1 (I.ok.inj _ _ _ e hc ▸ hi))
    · by_cases hcc : c' = c
      · subst hcc; exact ⟨_, hc'⟩
      · obtain ⟨w2, z2⟩ := I.cell y c' e
        exact ⟨w2, z2.sameBut hs hcc⟩
    · obtain ⟨e, n, ne, nf, d⟩ := I.pin p hp
      refine ⟨(hs.2 p.1 ?_).trans e, n, ne, nf, d⟩
      intro q
      rw [q, hoc] at e
      have q' : oc = p.2 := Option.some.inj e
      exact d w' (by rw [← q']; exact hocd)
theorem store_ok {M : Model} {A : Around} {E : Value → Shared → Prop} {i : Nat} {x : Str} {v : V} {u : Value} {Q : Unit → Shared → Prop} (I : Inv X pins σ H s) (hN : X.N.Nodup) (hi : X.N[i]? = some x) (hx : Loc X.env.scope x) (r : RelV v u)
    (h : ∀ s', Inv X pins (σ.set i (some v)) H s' → Q () s') (hf : X.fn x = true ∨ X.env.scope.names.lookup x = some .local := by first | exact .inl rfl | exact .inr rfl | assumption) : wpAny M A (storeName X.env x u) Q E s :=
  store_ok2 I hN hi hx r (fun s' I' _ => h s' I') hf
theorem Inv.call' {s' : Shared} {ch : List Addr} (I : Inv X pins σ H s) (ho : s'.os = s.os) (u : Un (frs X.stack) ch H H' s.heap s'.heap) (hok : HOk X.prog X.w H' s'.heap) (hg : AllBare s'.gens)
    (hch : ∀ b ∈ ch, (b ∈ X.ex ∨ X.s₀.heap.objs.size ≤ b) ∧ b ≠ X.env.locals ∧ (∀ x c, X.env.cells.lookup x = some c → c ≠ b) ∧ ∀ p ∈ X.pn ++ pins, p.1 ≠ b) : Inv X pins σ H' s' := by
  obtain ⟨h', g', d', t', o'⟩ := s'
  have e : o' = s.os := ho
  subst e
  exact I.call (g' := g') (t' := t') (d' := d') u hok hg hch
end
noncomputable abbrev XK := Value → Option Addr → Hp → Prop
noncomputable abbrev St := List (Option V)
noncomputable abbrev VK := V → Hp → Prop
noncomputable abbrev TE := St → Hp → VK → Prop
noncomputable abbrev TT := St → Hp → (Bool → Hp → Prop) → Prop
noncomputable abbrev TA := St → Hp → (List V → Hp → Prop) → Prop
structure Ends where
  nx : St → Hp → Prop
  rt : VK
  bk : St → Hp → Prop := fun _ _ => False
  ct : St → Hp → Prop := fun _ _ => False
noncomputable abbrev TS := Ends → St → Hp → Prop
def EP (X : Cx) (pins : List (Addr × Obj)) (σ : St) (Q : VK) (u : Value) (s' : Shared) : Prop := ∃ v H', Inv X pins σ H' s' ∧ RelV v u ∧ Q v H'
def TP (X : Cx) (pins : List (Addr × Obj)) (σ : St) (Q : Bool → Hp → Prop) (b : Bool) (s' : Shared) : Prop := ∃ H', Inv X pins σ H' s' ∧ Q b H'
def AP (X : Cx) (pins : List (Addr × Obj)) (σ : St) (Q : List V → Hp → Prop) (us : List Value) (s' : Shared) : Prop := ∃ vs H', Inv X pins σ H' s' ∧ Vals vs us ∧ Q vs H'
def SP (X : Cx) (pins : List (Addr × Obj)) (D : Ends) (f : Flow) (s' : Shared) : Prop :=
  match f with
  | .next => ∃ σ' H', Inv X pins σ' H' s' ∧ D.nx σ' H'
  | .brk => ∃ σ' H', Inv X pins σ' H' s' ∧ D.bk σ' H'
  | .cont => ∃ σ' H', Inv X pins σ' H' s' ∧ D.ct σ' H'
  | .ret u => ∃ v σ' H', Inv X pins σ' H' s' ∧ RelV v u ∧ D.rt v H'
def PE (X : Cx) (e : Expr) (t : TE) : Prop :=
  ∀ (pins : List (Addr × Obj)) (s : Shared) (σ : St) (H : Hp) (Q : VK), Inv X pins σ H s → t σ H Q → wpAny (model X.prog X.w) X.A (eval e X.env) (EP X pins σ Q) X.xe s
def PT (X : Cx) (e : Expr) (t : TT) : Prop :=
  ∀ (pins : List (Addr × Obj)) (s : Shared) (σ : St) (H : Hp) (Q : Bool → Hp → Prop), Inv X pins σ H s → t σ H Q → wpAny (model X.prog X.w) X.A (isTrue e X.env (eval e X.env)) (TP X pins σ Q) X.xe s
def PW (X : Cx) (e : Expr) (t : TT) : Prop :=
  ∀ (whole : Sem Value) (pins : List (Addr × Obj)) (s : Shared) (σ : St) (H : Hp) (Q : Bool → Hp → Prop), Inv X pins σ H s → t σ H Q → wpAny (model X.prog X.w) X.A (isTrue e X.env whole) (TP X pins σ Q) X.xe s
theorem PW.pt {X : Cx} {e : Expr} {t : TT} (h : PW X e t) : PT X e t := h _
def PA (X : Cx) (es : List Expr) (t : TA) : Prop :=
  ∀ (pos : Pos) (pins : List (Addr × Obj)) (s : Shared) (σ : St) (H : Hp) (Q : List V → Hp → Prop), Inv X pins σ H s → t σ H Q → wpAny (model X.prog X.w) X.A (spliced (backTo pos (starEach es X.env))) (AP X pins σ Q) X.xe s
def PS (X : Cx) (st : Stmt) (t : TS) : Prop :=
  ∀ (pins : List (Addr × Obj)) (s : Shared) (σ : St) (H : Hp) (D : Ends), Inv X pins σ H s → t D σ H → wpAny (model X.prog X.w) X.A (exec st X.env) (SP X pins D) X.xe s
def PSs (X : Cx) (st : List Stmt) (t : TS) : Prop :=
  ∀ (pins : List (Addr × Obj)) (s : Shared) (σ : St) (H : Hp) (D : Ends), Inv X pins σ H s → t D σ H → wpAny (model X.prog X.w) X.A (execs st X.env) (SP X pins D) X.xe s
theorem thn {α : Type} {t : Sem α} {Q Q' : α → Shared → Prop} {M : Model} {A : Around} {E : Value → Shared → Prop} {s : Shared} (h : wpAny M A t Q E s) (hQ : ∀ a s, Q a s → Q' a s) : wpAny M A t Q' E s := wpAny_mono h hQ fun _ _ x => x
end L2
namespace L2
open PySem PySem.Spec PyProof.Rows
section
variable {X : Cx}
theorem bin {a b : Expr} {ta tb : TE} (ha : PE X a ta) (hb : PE X b tb) {pins : List (Addr × Obj)} {s : Shared} {σ : St} {H : Hp} {R : V → V → Hp → Prop} (I : Inv X pins σ H s) (h : ta σ H fun x H1 => tb σ H1 fun y H2 => R x y H2)
    {α : Type} {Q : α → Shared → Prop} {f : Value → Value → Sem α}
    (hf : ∀ v u s2 x y H2, Inv X pins σ H2 s2 → RelV x v → RelV y u → R x y H2 → wpAny (model X.prog X.w) X.A (f v u) Q X.xe s2) :
    wpAny (model X.prog X.w) X.A (eval a X.env) (fun v s₁ => wpAny (model X.prog X.w) X.A (eval b X.env) (fun u s₂ => wpAny (model X.prog X.w) X.A (f v u) Q X.xe s₂) X.xe s₁) X.xe s := by
  refine thn (ha pins s σ H _ I h) fun v s1 ⟨x, H1, I1, r1, q1⟩ => ?_
  refine thn (hb pins s1 σ H1 _ I1 q1) fun u s2 ⟨y, H2, I2, r2, q2⟩ => ?_
  exact hf v u s2 x y H2 I2 r1 r2 q2
def tVar (i : Nat) : TE := fun σ H Q => ∃ v, σ[i]? = some (some v) ∧ Q v H
def tC (v : V) : TE := fun _ H Q => Q v H
theorem pe_var {i : Nat} {x : Str} {pos : Pos} (hN : X.N[i]? = some x) (hv : Vis X.env.scope x) (hd : (x == ("__debug__" : Str)) = false := by decide) (hcd : (x == ("__classdict__" : Str)) = false := by decide) : PE X (.Name x pos) (tVar i) := by
  intro pins s σ H Q I h
  obtain ⟨v, e, h⟩ := h
  obtain ⟨m, hn, hl⟩ := I.loc
  obtain ⟨u, r, l⟩ := hl i x v hN e hv
  have fin : EP X pins σ Q u s := ⟨v, H, I, r, h⟩
  rcases l with ⟨hk, hm⟩ | ⟨hk, c, hc, hcell⟩
  · exact wpAny_Name (wpAny_loadName_local I.ok.kind hk hn hm fin) hd
  · rcases hk with hk | hk
    · exact wpAny_Name (wpAny_loadName_cell I.ok.kind hk hc hcell fin) hd
    · exact wpAny_Name (wpAny_loadName_free I.ok.kind hk hc hcell fin hcd) hd
theorem pe_int {i j pos} : PE X (.Constant (.int i) j pos) (tC (.int i)) := fun _ _ _ H _ I h => wpAny_Constant_int ⟨.int i, H, I.tok _, ⟨_, rfl⟩, h⟩
theorem pe_bl {b j pos} : PE X (.Constant (.bool b) j pos) (tC (.bl b)) := fun _ _ _ H _ I h => Constant_bool ⟨.bl b, H, I, rfl, h⟩
theorem pe_non {j pos} : PE X (.Constant .none j pos) (tC .non) := fun _ _ _ H _ I h => Constant_none ⟨.non, H, I, rfl, h⟩
theorem pe_str {x j pos} : PE X (.Constant (.str x) j pos) (tC (.str x)) := fun _ _ _ H _ I h => Calls.Constant_str ⟨.str x, H, I.tok _, ⟨_, rfl⟩, h⟩
def Gl (X : Cx) (x : Str) : Prop := X.env.kindOf x = some .globalImplicit
theorem ld_glob {E : Value → Shared → Prop} {pins : List (Addr × Obj)} {s : Shared} {σ : St} {H : Hp} {x : Str} {u : Value} {pos : Pos} {Q : Value → Shared → Prop} (I : Inv X pins σ H s) (hg : Gl X x) (hm : X.mg x = some u) (h : Q u s)
    (hd : (x == ("__debug__" : Str)) = false := by decide) : wpAny (model X.prog X.w) X.A (eval (.Name x pos) X.env) Q E s :=
  Calls.Name_function_global I.ok.kind hg (Calls.loadGlobal_global (by rw [I.ok.glob]; exact I.mod.glob.keeps I.bk) hm h) hd
theorem ld_blt {E : Value → Shared → Prop} {pins : List (Addr × Obj)} {s : Shared} {σ : St} {H : Hp} {x : Str} {u : Value} {pos : Pos} {Q : Value → Shared → Prop} (I : Inv X pins σ H s) (hg : Gl X x) (hm : X.mg x = none) (hv : bootBuiltins x = some u) (h : Q u s)
    (hn : x ≠ "__name__" := by decide) (hd : (x == ("__debug__" : Str)) = false := by decide) : wpAny (model X.prog X.w) X.A (eval (.Name x pos) X.env) Q E s := by
  obtain ⟨mb, h1, h2⟩ := I.mod.blt
  exact Calls.Name_function_global I.ok.kind hg (Calls.loadGlobal_builtin (by rw [I.ok.glob]; exact I.mod.glob.keeps I.bk) hm (by rw [I.ok.blt]; exact h1.keeps I.bk) ((h2 x hn).trans hv) h) hd
theorem pe_glob {x : Str} {v : V} {u : Value} {pos : Pos} (hg : Gl X x) (hm : X.mg x = some u) (r : RelV v u) (hd : (x == ("__debug__" : Str)) = false := by decide) : PE X (.Name x pos) (tC v) :=
  fun _ _ _ H _ I h => ld_glob I hg hm ⟨v, H, I, r, h⟩ hd
theorem pe_bltn {x : Str} {v : V} {u : Value} {pos : Pos} (hg : Gl X x) (hm : X.mg x = none) (hv : bootBuiltins x = some u) (r : RelV v u) (hn : x ≠ "__name__" := by decide) (hd : (x == ("__debug__" : Str)) = false := by decide) : PE X (.Name x pos) (tC v) :=
  fun _ _ _ H _ I h => ld_blt I hg hm hv ⟨v, H, I, r, h⟩ hn hd
def t2I (ta tb : TE) (k : Int → Int → Hp → Prop) : St → Hp → Prop := fun σ H => ta σ H fun x H1 => tb σ H1 fun y H2 => ∃ i j, x = .int i ∧ y = .int j ∧ k i j H2
variable {a b : Expr} {ta tb : TE} {pos : Pos}
def tCmp (p : Int → Int → Bool) (ta tb : TE) : TE := fun σ H Q => t2I ta tb (fun i j H2 => Q (.bl (p i j)) H2) σ H
noncomputable abbrev tLe : TE → TE → TE := tCmp fun i j => decide (i ≤ j)
def tB (t : TE) : TT := fun σ H Q => t σ H fun x H1 => ∃ c, x = .bl c ∧ Q c H1
variable {tA tB' : TT} {rest : List Expr}
def tAnd (t u : TT) : TT := fun σ H Q => t σ H fun c H1 => if c = true then u σ H1 Q else Q false H1
def tOr (t u : TT) : TT := fun σ H Q => t σ H fun c H1 => if c = true then Q true H1 else u σ H1 Q
def tNot (t : TT) : TT := fun σ H Q => t σ H fun c H1 => Q (!c) H1
theorem pw_and1 (ha : PT X a tA) : PW X (.BoolOp .And [a] pos) tA := by
  intro wh pins s σ H Q I h
  refine isTrue_and (thn (ha pins s σ H Q I h) fun c s1 e => ?_)
  cases c with
  | true => exact isTrue_and_nil e
  | false => exact e
theorem pw_or1 (ha : PT X a tA) : PW X (.BoolOp .Or [a] pos) tA := by
  intro wh pins s σ H Q I h
  refine isTrue_or (thn (ha pins s σ H Q I h) fun c s1 e => ?_)
  cases c with
  | false => exact isTrue_or_nil e
  | true => exact e
theorem pw_and (ha : PT X a tA) (hb : PW X (.BoolOp .And (b :: rest) pos) tB') : PW X (.BoolOp .And (a :: b :: rest) pos) (tAnd tA tB') := by
  intro wh pins s σ H Q I h
  refine isTrue_and (thn (ha pins s σ H _ I h) fun c s1 ⟨H1, I1, q1⟩ => ?_)
  cases c with
  | true => exact hb wh pins s1 σ H1 Q I1 q1
  | false => exact ⟨H1, I1, q1⟩
theorem pw_or (ha : PT X a tA) (hb : PW X (.BoolOp .Or (b :: rest) pos) tB') : PW X (.BoolOp .Or (a :: b :: rest) pos) (tOr tA tB') := by
  intro wh pins s σ H Q I h
  refine isTrue_or (thn (ha pins s σ H _ I h) fun c s1 ⟨H1, I1, q1⟩ => ?_)
  cases c with
  | true => exact ⟨H1, I1, q1⟩
  | false => exact hb wh pins s1 σ H1 Q I1 q1
theorem pt_not (ha : PT X a tA) : PT X (.UnaryOp .Not a pos) (tNot tA) := by
  intro pins s σ H Q I h
  exact isTrue_not (ha pins s σ H (fun c H1 => Q (!c) H1) I h)
def tAndV (ta tb : TE) : TE := fun σ H Q => ta σ H fun x H1 => ∃ c, x = .bl c ∧ if c = true then tb σ H1 Q else Q (.bl false) H1
def tOrV (ta tb : TE) : TE := fun σ H Q => ta σ H fun x H1 => ∃ c, x = .bl c ∧ if c = true then Q (.bl true) H1 else tb σ H1 Q
def tNotV (ta : TE) : TE := fun σ H Q => ta σ H fun x H1 => ∃ c, x = .bl c ∧ Q (.bl (!c)) H1
theorem pe_one {op} {t : TE} (h : PE X a t) : PE X (.BoolOp op [a] pos) t := fun pins s σ H Q I hw => BoolOp_one (h pins s σ H Q I hw)
theorem pe_and (ha : PE X a ta) (hb : PE X (.BoolOp .And (b :: rest) pos) tb) : PE X (.BoolOp .And (a :: b :: rest) pos) (tAndV ta tb) := by
  intro pins s σ H Q I h
  refine BoolOp_and (thn (ha pins s σ H _ I h) fun v s1 ⟨x, H1, I1, r1, q1⟩ => ?_)
  obtain ⟨c, rfl, q1⟩ := q1
  cases r1
  refine wpAny_truthy_bool ?_
  cases c with
  | true => exact hb pins s1 σ H1 Q I1 q1
  | false => exact ⟨.bl false, H1, I1, rfl, q1⟩
def tIf (t : TT) (ta tb : TE) : TE := fun σ H Q => t σ H fun c H1 => if c = true then ta σ H1 Q else tb σ H1 Q
theorem pe_ifExp {c : Expr} (hc : PT X c tA) (ha : PE X a ta) (hb : PE X b tb) : PE X (.IfExp c a b pos) (tIf tA ta tb) := by
  intro pins s σ H Q I h
  refine wpAny_IfExp (thn (hc pins s σ H _ I h) fun d s1 ⟨H1, I1, q1⟩ => ?_)
  cases d with
  | true => exact ha pins s1 σ H1 Q I1 q1
  | false => exact hb pins s1 σ H1 Q I1 q1
end
end L2
namespace L2
open PySem PySem.Spec PyProof.Rows
def SqL (K : PySem.W.Frag) (H : Hp) (a : Addr) (xs : List V) : Prop :=
  Rd H a (.lst xs) ∨
    ∃ (o : Obj) (its : Array Value) (n : Nat), K.lookup a = some o ∧ o.cls = .type "list" ∧ o.dict = none ∧ o.data = .seq its n ∧ its.size ≤ sizeLine ∧ Vals xs its.toList
def SqT (K : PySem.W.Frag) (H : Hp) (a : Addr) (xs : List V) : Prop :=
  Rd H a (.tup xs) ∨
    ∃ (o : Obj) (its : Array Value) (n : Nat), K.lookup a = some o ∧ o.cls = .type "tuple" ∧ o.data = .seq its n ∧ its.size ≤ sizeLine ∧ Vals xs its.toList
noncomputable def absV : Value → Option V
  | .none => some .non
  | .bool b => some (.bl b)
  | .int i _ => some (.int i)
  | .str x _ => some (.str x)
  | .bytes b _ => some (.byt b)
  | .float b _ => some (.flt b)
  | .ref a => some (.ref a)
  | .type n => some (.ty n)
  | _ => none
theorem RelV.abs {x : V} {u : Value} (r : RelV x u) : absV u = some x := by
  cases x with
  | non => cases r; rfl
  | bl _ => cases r; rfl
  | int _ => obtain ⟨t, rfl⟩ := r; rfl
  | str _ => obtain ⟨t, rfl⟩ := r; rfl
  | byt _ => obtain ⟨t, rfl⟩ := r; rfl
  | flt _ => obtain ⟨t, rfl⟩ := r; rfl
  | ref _ => cases r; rfl
  | ty _ => cases r; rfl
theorem RelV.inj {x y : V} {u : Value} (r : RelV x u) (q : RelV y u) : x = y := Option.some.inj (r.abs.symm.trans q.abs)
theorem Vals.inj : ∀ {xs ys : List V} {us : List Value}, Vals xs us → Vals ys us → xs = ys
  | _, _, _, .nil, .nil => rfl
  | _, _, _, .cons r t, .cons r' t' => by rw [r.inj r', Vals.inj t t']
section
variable {X : Cx} {pins : List (Addr × Obj)} {σ : St} {H : Hp} {s : Shared} {a : Addr} {xs ys : List V}
theorem SqL.of {K : PySem.W.Frag} (h : H a = some (.lst xs)) : SqL K H a xs := .inl (.inl h)
theorem SqT.of {K : PySem.W.Frag} (h : H a = some (.tup xs)) : SqT K H a xs := .inl (.inl h)
theorem Inv.list (I : Inv X pins σ H s) (h : SqL X.K H a xs) : ∃ its : List Value, Vals xs its ∧ PlainL s.heap a its.toArray ∧ xs.length ≤ sizeLine := by
  rcases h with h | ⟨o, its, n, hk, hc, hd, hs, hz, r⟩
  · obtain ⟨z, its, n, r, e⟩ := h.ok I.hok
    exact ⟨its, r, ⟨_, n, e, rfl, rfl, rfl⟩, z⟩
  · refine ⟨its.toList, r, ⟨o, n, I.kIn a o hk, hc, hd, by simpa using hs⟩, ?_⟩
    have e := r.length
    simp only [Array.length_toList] at e
    lia
theorem Inv.tuple (I : Inv X pins σ H s) (h : SqT X.K H a xs) : ∃ its : List Value, Vals xs its ∧ IsTup s.heap a its.toArray ∧ xs.length ≤ sizeLine := by
  rcases h with h | ⟨o, its, n, hk, hc, hs, hz, r⟩
  · obtain ⟨z, its, r, p⟩ := h.ok I.hok
    exact ⟨its, r, p, z⟩
  · refine ⟨its.toList, r, ⟨o, I.kIn a o hk, hc, n, by simpa using hs⟩, ?_⟩
    have e := r.length
    simp only [Array.length_toList] at e
    lia
theorem Inv.list_inj (I : Inv X pins σ H s) (h : SqL X.K H a xs) (h' : SqL X.K H a ys) : xs = ys := by
  obtain ⟨its, r, ⟨o, n, e, _, _, d⟩, _⟩ := I.list h
  obtain ⟨its', r', ⟨o', n', e', _, _, d'⟩, _⟩ := I.list h'
  rw [e] at e'; cases e'
  rw [d] at d'
  injection d' with d1 _
  have : its = its' := by simpa using congrArg Array.toList d1
  subst this
  exact r.inj r'
theorem Inv.tuple_inj (I : Inv X pins σ H s) (h : SqT X.K H a xs) (h' : SqT X.K H a ys) : xs = ys := by
  obtain ⟨its, r, ⟨o, e, _, n, d⟩, _⟩ := I.tuple h
  obtain ⟨its', r', ⟨o', e', _, n', d'⟩, _⟩ := I.tuple h'
  rw [e] at e'; cases e'
  rw [d] at d'
  injection d' with d1 _
  have : its = its' := by simpa using congrArg Array.toList d1
  subst this
  exact r.inj r'
end
noncomputable abbrev Cx.wish (X : Cx) (E : Value → Shared → Prop) : Cx := { X with xe := E }
noncomputable abbrev Cx.nox (X : Cx) : Cx := X.wish fun _ _ => False
theorem Cx.Ok.wish {X : Cx} (ok : X.Ok) (E : Value → Shared → Prop) : (X.wish E).Ok :=
  ⟨ok.mod, ok.kind, ok.glob, ok.blt, ok.above, ok.inj, ok.has, ok.cab, ok.hd, ok.frames, ok.stk, ok.exf, ok.bs, ok.bsz, ok.noex, ok.exfs, ok.funs, ok.frf⟩
theorem Cx.Ok.unwish {X : Cx} {E : Value → Shared → Prop} (ok : (X.wish E).Ok) : X.Ok :=
  ⟨ok.mod, ok.kind, ok.glob, ok.blt, ok.above, ok.inj, ok.has, ok.cab, ok.hd, ok.frames, ok.stk, ok.exf, ok.bs, ok.bsz, ok.noex, ok.exfs, ok.funs, ok.frf⟩
section
variable {X : Cx} {pins : List (Addr × Obj)} {σ : St} {H : Hp} {s : Shared} {E : Value → Shared → Prop}
theorem Inv.wish (I : Inv X pins σ H s) (E : Value → Shared → Prop) : Inv (X.wish E) pins σ H s := ⟨I.ok.wish E, I.os, I.bare, I.base, I.loc, I.cell, I.free, I.freeC, I.pin, I.hok, I.len⟩
theorem Inv.unwish (I : Inv (X.wish E) pins σ H s) : Inv X pins σ H s := ⟨I.ok.unwish, I.os, I.bare, I.base, I.loc, I.cell, I.free, I.freeC, I.pin, I.hok, I.len⟩
theorem SP.unwish {D : Ends} {f : Flow} {s' : Shared} (h : SP (X.wish E) pins D f s') : SP X pins D f s' := by
  cases f with
  | next => obtain ⟨σ', H', I, q⟩ := h; exact ⟨σ', H', I.unwish, q⟩
  | brk => obtain ⟨σ', H', I, q⟩ := h; exact ⟨σ', H', I.unwish, q⟩
  | cont => obtain ⟨σ', H', I, q⟩ := h; exact ⟨σ', H', I.unwish, q⟩
  | ret u => obtain ⟨v, σ', H', I, r, q⟩ := h; exact ⟨v, σ', H', I.unwish, r, q⟩
theorem PSs.nox {st : List Stmt} {t : TS} (h : PSs X.nox st t) : PSs X st t := fun pins s σ H D I hw =>
  wpAny_mono (h pins s σ H D (I.wish _) hw) (fun _ _ q => q.unwish) fun _ _ z => False.elim z
end
section
variable {X : Cx} {st : Stmt} {rest : List Stmt} {t u : TS} {e : Expr} {te : TE} {pos : Pos}
def tNext : TS := fun D σ H => D.nx σ H
def tSeq (t u : TS) : TS := fun D σ H => t { D with nx := u D } σ H
theorem pss_nil : PSs X [] tNext := fun _ _ σ H _ I h => wpAny_execs_nil ⟨σ, H, I, h⟩
theorem pss_cons (h1 : PS X st t) (h2 : PSs X rest u) : PSs X (st :: rest) (tSeq t u) := by
  intro pins s σ H D I h
  refine wpAny_execs_cons (thn (h1 pins s σ H { D with nx := u D } I h) fun f s1 q => ?_)
  cases f with
  | next =>
    obtain ⟨σ', H', I', q⟩ := q
    exact h2 pins s1 σ' H' D I' q
  | ret v => exact q
  | brk => exact q
  | cont => exact q
theorem pss_one (h1 : PS X st t) : PSs X [st] t := by
  intro pins s σ H D I h
  refine wpAny_execs_cons (thn (h1 pins s σ H D I h) fun f s1 q => ?_)
  cases f with
  | next => exact wpAny_execs_nil q
  | ret v => exact q
  | brk => exact q
  | cont => exact q
def tBreak : TS := fun D σ H => D.bk σ H
def tCont : TS := fun D σ H => D.ct σ H
theorem Inv.quiet {pins : List (Addr × Obj)} {σ : St} {H : Hp} {s : Shared} (I : Inv X pins σ H s) : interactive X.env = false := by simp [interactive, I.ok.kind]
def tDrop (te : TE) : TS := fun D σ H => te σ H fun _ H1 => D.nx σ H1
theorem ps_expr (he : PE X e te) (hs : swapsWith e none pos.line X.env = pure false := by rfl) : PS X (.Expr e pos) (tDrop te) := by
  intro pins s σ H D I h
  exact wpAny_Expr_any (thn (he pins s σ H _ I h) fun v s1 ⟨x, H1, I1, r1, q1⟩ => ⟨σ, H1, I1, q1⟩) I.quiet hs
def tRet (te : TE) : TS := fun D σ H => te σ H D.rt
theorem ps_ret (he : PE X e te) : PS X (.Return (some e) pos) (tRet te) := by
  intro pins s σ H D I h
  exact wpAny_Return_some (thn (he pins s σ H _ I h) fun v s1 ⟨x, H1, I1, r1, q1⟩ => ⟨x, σ, H1, I1, r1, q1⟩)
def tRetN : TS := fun D _ H => D.rt .non H
def tIfS (c : TT) (t u : TS) : TS := fun D σ H => c σ H fun b H1 => if b = true then t D σ H1 else u D σ H1
theorem ps_if {c : Expr} {a b : List Stmt} {tc : TT} (hc : PT X c tc) (ha : PSs X a t) (hb : PSs X b u) : PS X (.If c a b pos) (tIfS tc t u) := by
  intro pins s σ H D I h
  refine wpAny_If (thn (hc pins s σ H _ I h) fun d s1 ⟨H1, I1, q1⟩ => ?_)
  cases d with
  | true => exact ha pins s1 σ H1 D I1 q1
  | false => exact hb pins s1 σ H1 D I1 q1
end
noncomputable abbrev TG := V → St → Hp → (St → Hp → Prop) → Prop
noncomputable abbrev TGs := List V → St → Hp → (St → Hp → Prop) → Prop
def PG (X : Cx) (target : Expr) (t : TG) : Prop :=
  ∀ (pins : List (Addr × Obj)) (s : Shared) (σ : St) (H : Hp) (v : V) (u : Value) (Q : St → Hp → Prop), Inv X pins σ H s → RelV v u → t v σ H Q →
    wpAny (model X.prog X.w) X.A (assign target X.env u) (fun _ s' => ∃ σ' H', Inv X pins σ' H' s' ∧ Q σ' H') X.xe s
def PGs (X : Cx) (ts : List Expr) (t : TGs) : Prop :=
  ∀ (pins : List (Addr × Obj)) (s : Shared) (σ : St) (H : Hp) (vs : List V) (us : List Value) (Q : St → Hp → Prop), Inv X pins σ H s → Vals vs us → t vs σ H Q →
    wpAny (model X.prog X.w) X.A (assignInOrder ((assignEach ts X.env).map (·.2)) us) (fun _ s' => ∃ σ' H', Inv X pins σ' H' s' ∧ Q σ' H') X.xe s
section
variable {X : Cx} {pos : Pos}
def gName (i : Nat) : TG := fun v σ H Q => Q (σ.set i (some v)) H
theorem pg_name {i : Nat} {x : Str} (hN : X.N.Nodup) (hi : X.N[i]? = some x) (hx : Loc X.env.scope x) (hf : X.fn x = true ∨ X.env.scope.names.lookup x = some .local := by first | exact .inl rfl | exact .inr rfl | assumption) : PG X (.Name x pos) (gName i) := by
  intro pins s σ H v u Q I r h
  exact wpAny_assign_Name (store_ok I hN hi hx r (fun s' I' => ⟨_, H, I', h⟩) hf)
def gNil : TGs := fun vs σ H Q => vs = [] ∧ Q σ H
def gCons (t : TG) (u : TGs) : TGs := fun vs σ H Q => ∃ v r, vs = v :: r ∧ t v σ H fun σ' H' => u r σ' H' Q
theorem pgs_nil : PGs X [] gNil := by
  intro pins s σ H vs us Q I r h
  obtain ⟨e, h⟩ := h
  subst e
  cases r
  exact assignInOrder_nil ⟨σ, H, I, h⟩
theorem pgs_cons {e : Expr} {es : List Expr} {t : TG} {u : TGs} (h1 : PG X e t) (h2 : PGs X es u)
    (hs : (assignEach (e :: es) X.env).map (·.2) = assign e X.env :: (assignEach es X.env).map (·.2) := by rfl) : PGs X (e :: es) (gCons t u) := by
  intro pins s σ H vs us Q I r h
  obtain ⟨v, vr, e1, h⟩ := h
  subst e1
  cases r with
  | cons r rr =>
    rw [hs]
    refine assignInOrder_cons (thn (h1 pins s σ H _ _ _ I r h) fun _ s1 ⟨σ1, H1, I1, q1⟩ => ?_)
    exact h2 pins s1 σ1 H1 _ _ Q I1 rr q1
def gTup (K : PySem.W.Frag) (n : Nat) (t : TGs) : TG := fun v σ H Q => ∃ a xs, v = .ref a ∧ SqT K H a xs ∧ xs.length = n ∧ t xs σ H Q
theorem pg_tup {es : List Expr} {k : Nat} {t : TGs} {n : Nat} (hc : X.calm = true) (h : PGs X es t)
    (hn : (assignEach es X.env).length = n := by rfl) (hst : (assignEach es X.env).findIdx? (·.1) = none := by rfl) : PG X (.Tuple es k pos) (gTup X.K n t) := by
  intro pins s σ H v u Q I r hw
  obtain ⟨a, xs, e1, hq, hl, hw⟩ := hw
  subst e1
  cases r
  obtain ⟨its, rv, ht, hz⟩ := I.tuple hq
  refine assign_Tuple_tuple (I.ok.hd hc) ht (by simp [hn, ← hl, rv.length]) hst fun h' hx => ?_
  have I1 : Inv X pins σ H { s with heap := h' } := I.kept (t' := s.toks) fun b o e => hx b o (Nat.ne_of_lt (Heap.lt_size e)) e
  exact h pins _ σ H xs _ Q I1 (by simpa using rv) hw
def tAsg (te : TE) (g : TG) : TS := fun D σ H => te σ H fun x H1 => g x σ H1 D.nx
theorem ps_asg {tg e : Expr} {te : TE} {g : TG} (he : PE X e te) (hg : PG X tg g) (hs : swapsWithSole [tg] e pos.line X.env = pure false := by rfl) (hw : swappedStores [tg] e X.env = pure none := by rfl)
    (h1 : (assignEach [tg] X.env).map (·.2) = [assign tg X.env] := by rfl) : PS X (.Assign [tg] e pos) (tAsg te g) := by
  intro pins s σ H D I h
  refine wpAny_Assign_stores (thn (he pins s σ H _ I h) fun v s1 ⟨x, H1, I1, r1, q1⟩ => ?_) hs hw
  rw [h1]
  exact thn (hg pins s1 σ H1 x v _ I1 r1 q1) fun _ s2 q => q
theorem ps_set {i : Nat} {x : Str} {e : Expr} {te : TE} {pos' : Pos} (hN : X.N.Nodup) (hi : X.N[i]? = some x) (hx : Loc X.env.scope x) (he : PE X e te) (hs : swapsWith e (some (.Name x pos')) pos.line X.env = pure false := by rfl) (hf : X.fn x = true ∨ X.env.scope.names.lookup x = some .local := by first | exact .inl rfl | exact .inr rfl | assumption) :
    PS X (.Assign [.Name x pos'] e pos) (tAsg te (gName i)) := by
  intro pins s σ H D I h
  refine wpAny_Assign_Name (thn (he pins s σ H _ I h) fun v s1 ⟨y, H1, I1, r1, q1⟩ => ?_) hs
  exact store_ok I1 hN hi hx r1 (fun s2 I2 => ⟨_, H1, I2, q1⟩) hf
def tPar (i j : Nat) (ta : TA) : TS := fun D σ H => ta σ H fun vs H1 => ∃ v w, vs = [v, w] ∧ D.nx ((σ.set i (some v)).set j (some w)) H1
end
section
variable {X : Cx} {pos : Pos}
def tWhile (c : TT) (tb : TS) : TS := fun D σ H => ∃ W : Nat → St → Hp → Prop, (∃ m, W m σ H) ∧ ∀ m σ H, W m σ H →
  c σ H fun b H1 => if b = true then ∃ N : St → Hp → Prop, (∀ σ' H', N σ' H' → ∃ m', m' < m ∧ W m' σ' H') ∧ tb { D with nx := N, ct := N, bk := D.nx } σ H1 else D.nx σ H1
theorem ps_while {c : Expr} {body : List Stmt} {tc : TT} {tb : TS} (hp : PassesOwn (model X.prog X.w) X.A X.env X.xe) (hc : PT X c tc) (hb : PSs X body tb) : PS X (.While c body [] pos) (tWhile tc tb) := by
  intro pins s σ H D I h
  obtain ⟨W, ⟨m0, w0⟩, turn⟩ := h
  refine wpAny_While (codeAny_whileLoop (fun n s' => ∃ σ' H', Inv X pins σ' H' s' ∧ W n σ' H') ?_ m0 ⟨σ, H, I, w0⟩)
  rintro n s1 ⟨σ1, H1, I1, w1⟩
  refine wpAny_passesOwn hp (thn (hc pins s1 σ1 H1 _ I1 (turn n σ1 H1 w1)) fun b s2 ⟨H2, I2, q2⟩ => ?_)
  cases b with
  | true =>
    obtain ⟨N, hN, q2⟩ := q2
    rw [if_pos rfl]
    refine wpAny_passesOwn hp (thn (hb pins s2 σ1 H2 _ I2 q2) fun f s3 q3 => ?_)
    cases f with
    | next =>
      obtain ⟨σ3, H3, I3, n3⟩ := q3
      obtain ⟨m', hm, w3⟩ := hN σ3 H3 n3
      exact ⟨m', hm, σ3, H3, I3, w3⟩
    | cont =>
      obtain ⟨σ3, H3, I3, n3⟩ := q3
      obtain ⟨m', hm, w3⟩ := hN σ3 H3 n3
      exact ⟨m', hm, σ3, H3, I3, w3⟩
    | brk => exact q3
    | ret v => exact q3
  | false =>
    rw [if_neg Bool.false_ne_true]
    exact wpAny_execs_nil ⟨σ1, H2, I2, q2⟩
end
structure It where
  go : Nat → Hp → Prop
  yld : Nat → Hp → V → Hp → Prop
  stop : Nat → Hp → Prop
def FpOk (X : Cx) (pins : List (Addr × Obj)) (H : Hp) (b : Addr) : Prop :=
  H b = none ∧ b ≠ X.env.locals ∧ b ∉ X.fs ∧ (b ∈ X.ex ∨ X.s₀.heap.objs.size ≤ b) ∧ (∀ x c, X.env.cells.lookup x = some c → c ≠ b) ∧ ∀ p ∈ X.pn ++ pins, p.1 ≠ b
theorem Inv.fpOk {X : Cx} {pins : List (Addr × Obj)} {σ : St} {H H' : Hp} {s : Shared} {b : Addr} (I : Inv X pins σ H s) (hb : s.heap.objs.size ≤ b) (hn : H' b = none) : FpOk X pins H' b := by
  refine ⟨hn, Nat.ne_of_gt (Nat.lt_of_lt_of_le I.lt hb), I.nofs hb, .inr (Nat.le_trans I.sz hb), fun x c e z => ?_, fun p hp z => ?_⟩
  · obtain ⟨v, q⟩ := I.cell x c e
    exact absurd (Nat.lt_of_lt_of_le q.lt (by rw [z]; exact hb)) (Nat.lt_irrefl _)
  · exact absurd (Nat.lt_of_lt_of_le (Heap.lt_size (I.pin p hp).1) (by rw [z]; exact hb)) (Nat.lt_irrefl _)
structure Turn (P : Program) (w : World) (K : PySem.W.Frag) (tg : Expr) (J : It) (fp : List Addr) (it : Addr) (tn : Nat → Heap → Prop) : Prop where
  mem : it ∈ fp
  obj : ∀ i h, tn i h → ∀ b ∈ fp, ∃ o, h.get? b = some o ∧ ∀ v, o.data ≠ .cell v
  keep : ∀ i h h', tn i h → (∀ b ∈ fp, ∀ o, h.get? b = some o → h'.get? b = some o) → tn i h'
  item : ∀ (X : Cx), X.prog = P → X.w = w → X.K = K → X.calm = true → ∀ (i : Nat) (pins : List (Addr × Obj)) (s : Shared) (σ : St) (H : Hp) (E : Value → Shared → Prop), Inv X pins σ H s → (∀ b ∈ fp, FpOk X pins H b) → tn i s.heap → J.go i H →
    wpAny (model P w) X.A (pyNext (.ref it)) (fun r s1 => ∃ u, r = some u ∧
      wpAny (model P w) X.A (letOwnedTupleGo tg (.ref it) u) (fun _ s2 => ∃ x H', Inv X pins σ H' s2 ∧ RelV x u ∧ J.yld i H x H' ∧ tn (i + 1) s2.heap ∧ ∀ b ∈ fp, H' b = none) E s1) E s
  done : ∀ (X : Cx), X.prog = P → X.w = w → X.K = K → X.calm = true → ∀ (i : Nat) (pins : List (Addr × Obj)) (s : Shared) (σ : St) (H : Hp) (E : Value → Shared → Prop), Inv X pins σ H s → (∀ b ∈ fp, FpOk X pins H b) → tn i s.heap → J.stop i H →
    wpAny (model P w) X.A (pyNext (.ref it)) (fun r s1 => r = none ∧ Inv X pins σ H s1) E s
  self : ∀ (A : Around) (i : Nat) (s : Shared) (Q : Value → Shared → Prop) (E : Value → Shared → Prop), tn i s.heap → Q (.ref it) s → wpAny (model P w) A (pyIter (.ref it)) Q E s
noncomputable abbrev TI := St → Hp → (It → Hp → Prop) → Prop
def PIE (X : Cx) (pins : List (Addr × Obj)) (σ : St) (tg : Expr) (R : It → Hp → Prop) (itv : Value) (s2 : Shared) : Prop :=
  ∃ (it : Addr) (fp : List Addr) (tn : Nat → Heap → Prop) (J : It) (H' : Hp), itv = .ref it ∧ Inv X pins σ H' s2 ∧ Turn X.prog X.w X.K tg J fp it tn ∧ tn 0 s2.heap ∧ (∀ b ∈ fp, FpOk X pins H' b) ∧ R J H'
def PI (X : Cx) (tg iter : Expr) (wi : TI) : Prop :=
  ∀ (pins : List (Addr × Obj)) (s : Shared) (σ : St) (H : Hp) (R : It → Hp → Prop), Inv X pins σ H s → wi σ H R →
    wpAny (model X.prog X.w) X.A (eval iter X.env) (fun v s1 => wpAny (model X.prog X.w) X.A (pyIter v) (PIE X pins σ tg R) X.xe s1) X.xe s
theorem go_of {M : Model} {A : Around} {E : Value → Shared → Prop} {s : Shared} {tg : Expr} {it : Addr} {u : Value} {o : Obj} {n : String} {vs : Array Value} {Q : Unit → Shared → Prop} (ho : s.heap.get? it = some o) (hc : o.cls = .type n) (hd : o.data = .fields vs)
    (hn : ["enumerate", "zip", "dict_itemiterator", "dict_reverseitemiterator", "odict_iterator", "itertools.zip_longest", "itertools.pairwise"].contains n = false) (hQ : Q () s) : wpAny M A (letOwnedTupleGo tg (.ref it) u) Q E s := by
  unfold letOwnedTupleGo
  cases tg <;> first
    | exact wpAny_pure hQ
    | (cases u <;> first
        | exact wpAny_pure hQ
        | (refine wpAny_bind (wpAny_load ho ?_)
           rw [hc, hd]
           show wpAny M A (if (["enumerate", "zip", "dict_itemiterator", "dict_reverseitemiterator", "odict_iterator", "itertools.zip_longest", "itertools.pairwise"].contains n && vs[0]? == some (rawInt _)) = true then _ else _) Q E s
           rw [if_neg (by intro h; rw [hn, Bool.false_and] at h; cases h)]
           exact wpAny_pure hQ))
noncomputable def Itl (K : PySem.W.Frag) (a : Addr) : It :=
  ⟨fun i H => ∃ xs x, SqL K H a xs ∧ xs[i]? = some x, fun i H x H' => H' = H ∧ ∀ xs, SqL K H a xs → xs[i]? = some x, fun i H => ∃ xs, SqL K H a xs ∧ xs.length ≤ i⟩
noncomputable def Itt (K : PySem.W.Frag) (a : Addr) : It :=
  ⟨fun i H => ∃ xs x, SqT K H a xs ∧ xs[i]? = some x, fun i H x H' => H' = H ∧ ∀ xs, SqT K H a xs → xs[i]? = some x, fun i H => ∃ xs, SqT K H a xs ∧ xs.length ≤ i⟩
noncomputable def Itr (lo : Int) (n : Nat) : It := ⟨fun i _ => i < n, fun i H x H' => H' = H ∧ x = .int (lo + i), fun i _ => n ≤ i⟩
theorem turn_list {P : Program} {w : World} {K : PySem.W.Frag} {tg : Expr} (a it : Addr) : Turn P w K tg (Itl K a) [it] it (fun i h => h.IsListIter it a i) where
  mem := by simp
  obj := fun i h st b hb => by
    have e : b = it := by simpa using hb
    subst e
    obtain ⟨o, e, c, d⟩ := st
    exact ⟨o, e, fun v z => by rw [d] at z; cases z⟩
  keep := fun i h h' st k => st.at fun o e => k it (by simp) o e
  item := by
    intro X hP hw hK hc i pins s σ H E I hf st hg
    subst hP hw hK
    obtain ⟨xs, x, hq, hx⟩ := hg
    obtain ⟨its, rv, p, hz⟩ := I.list hq
    obtain ⟨u, hu, ru⟩ := rv.get hx
    obtain ⟨f0, f1, f2, f3, f4, f5⟩ := hf it (by simp)
    refine wpAny_pyNext_list_item st p.isList (x := u) (by simpa using hu) fun h' st' sb => ?_
    have I1 : Inv X pins σ H { s with heap := h' } := I.turned (t' := s.toks) (fun b o hb e => (sb.2 b hb).trans e) f0 f1 f3 f4 f5
    obtain ⟨o, e, c, d⟩ := id st'
    exact ⟨u, rfl, go_of (s := { s with heap := h' }) e c d (by decide) ⟨x, H, I1, ru, ⟨rfl, fun ys hy => by rw [I.list_inj hy hq]; exact hx⟩, st', fun b hb => (hf b hb).1⟩⟩
  done := by
    intro X hP hw hK hc i pins s σ H E I hf st hg
    subst hP hw hK
    obtain ⟨xs, hq, hx⟩ := hg
    obtain ⟨its, rv, p, hz⟩ := I.list hq
    obtain ⟨f0, f1, f2, f3, f4, f5⟩ := hf it (by simp)
    have hl := rv.length
    exact wpAny_pyNext_list_end (I.ok.hd hc) st p.isList (by simp; lia) fun h' eb => ⟨rfl, I.turned (t' := s.toks) (fun b o hb e => eb b o hb e) f0 f1 f3 f4 f5⟩
  self := fun _ _ _ _ _ st h => wpAny_pyIter_listiter st h
theorem turn_range {P : Program} {w : World} {K : PySem.W.Frag} {tg : Expr} (it : Addr) (lo : Int) (n : Nat) : Turn P w K tg (Itr lo n) [it] it (fun i h => IsRangeIter h it (lo + (i : Nat) * 1) ((n : Int) - (i : Nat)) 1) where
  mem := by simp
  obj := fun i h st b hb => by
    have e : b = it := by simpa using hb
    subst e
    exact ⟨_, st, fun v z => by
      have z' : Data.fields _ = Data.cell v := z
      cases z'⟩
  keep := fun i h h' st k => k it (by simp) _ st
  item := by
    intro X hP hw hK hc i pins s σ H E I hf st hg
    subst hP hw hK
    obtain ⟨f0, f1, f2, f3, f4, f5⟩ := hf it (by simp)
    have W := Walks.range (prog := X.prog) (w := X.w) (I.ok.hd hc) it lo 1 n
    refine W.item i s _ _ hg st fun v h' tk hv st' kk => ?_
    obtain ⟨t, rfl⟩ := hv
    have I1 : Inv X pins σ H { s with heap := h', toks := tk } := I.turned (fun b o hb e => kk b o (by simpa using hb) e) f0 f1 f3 f4 f5
    refine ⟨_, rfl, go_of (s := { s with heap := h', toks := tk }) (n := "range_iterator") st' rfl rfl (by decide) ⟨.int (lo + i), H, I1, ⟨t, ?_⟩, ⟨rfl, rfl⟩, st', fun b hb => (hf b hb).1⟩⟩
    rw [Int.mul_one]
  done := by
    intro X hP hw hK hc i pins s σ H E I hf st hg
    subst hP hw hK
    obtain ⟨f0, f1, f2, f3, f4, f5⟩ := hf it (by simp)
    exact wpAny_pyNext_range_end (I.ok.hd hc) st (by have : n ≤ i := hg; lia) fun h' eb => ⟨rfl, I.turned (t' := s.toks) (fun b o hb e => eb b o hb e) f0 f1 f3 f4 f5⟩
  self := fun _ _ _ _ _ st h => wpAny_pyIter_rangeiter st h
end L2
namespace L2
open PySem PySem.Spec PyProof.Rows
section
variable {X : Cx} {tg : Expr}
def iList (K : PySem.W.Frag) (tl : TE) : TI := fun σ H R => tl σ H fun x H1 => ∃ a, x = .ref a ∧ (∃ xs, SqL K H1 a xs) ∧ R (Itl K a) H1
def iTup (K : PySem.W.Frag) (tl : TE) : TI := fun σ H R => tl σ H fun x H1 => ∃ a, x = .ref a ∧ (∃ xs, SqT K H1 a xs) ∧ R (Itt K a) H1
theorem pi_list {l : Expr} {tl : TE} (hl : PE X l tl) : PI X tg l (iList X.K tl) := by
  intro pins s σ H R I h
  refine thn (hl pins s σ H _ I h) fun v s1 ⟨x, H1, I1, r1, q1⟩ => ?_
  obtain ⟨a, e, ⟨xs, hq⟩, q⟩ := q1
  subst e
  cases r1
  obtain ⟨its, rv, p, hz⟩ := I1.list hq
  refine wpAny_pyIter_list p.isList ?_
  refine ⟨s1.heap.objs.size, [s1.heap.objs.size], _, _, H1, rfl, I1.kept (t' := s1.toks) fun b o e => Heap.get?_push_of_some _ e, turn_list a _, ⟨_, Heap.get?_push_size _ rfl, rfl, rfl⟩, fun b hb => ?_, q⟩
  have e : b = s1.heap.objs.size := by simpa using hb
  subst e
  exact I1.fpOk (Nat.le_refl _) (I1.hok.fresh (Nat.le_refl _))
theorem range_it {pins : List (Addr × Obj)} {σ : St} {H : Hp} {s : Shared} {R : It → Hp → Prop} {E : Value → Shared → Prop} {lo hi : Int} {t u v : Tok} {tk : Nat} (I : Inv X pins σ H s) (h1 : -(2 ^ 62) ≤ lo) (h2 : lo < 2 ^ 62) (h3 : -(2 ^ 62) ≤ hi) (h4 : hi < 2 ^ 62)
    (q : R (Itr lo (hi - lo).toNat) H) : wpAny (model X.prog X.w) X.A (pyIter (.ref s.heap.objs.size)) (PIE X pins σ tg R) E { s with heap := s.heap.push { cls := .type "range", data := .fields #[.int lo t, .int hi u, .int 1 v] }, toks := tk } := by
  refine wpAny_pyIter_range (IsRange.new ..) (small_one h1 h2 h3 h4) ?_
  have I1 : Inv X pins σ H { s with heap := s.heap.push { cls := .type "range", data := .fields #[.int lo t, .int hi u, .int 1 v] }, toks := tk } := I.kept fun b o e => Heap.get?_push_of_some _ e
  refine ⟨(s.heap.push { cls := .type "range", data := .fields #[.int lo t, .int hi u, .int 1 v] }).objs.size, [(s.heap.push { cls := .type "range", data := .fields #[.int lo t, .int hi u, .int 1 v] }).objs.size], _, _, H, rfl,
    I1.kept (t' := tk) fun b o e => Heap.get?_push_of_some _ e, turn_range _ lo (hi - lo).toNat, ?_, fun b hb => ?_, q⟩
  · have e1 : lo + ((0 : Nat) : Int) * 1 = lo := by simp
    have e2 : (((hi - lo).toNat : Nat) : Int) - ((0 : Nat) : Int) = Builtin.Range.rangeSize lo hi 1 := by rw [rangeSize_one]; split <;> lia
    show IsRangeIter _ _ (lo + ((0 : Nat) : Int) * 1) ((((hi - lo).toNat : Nat) : Int) - ((0 : Nat) : Int)) 1
    rw [e1, e2]
    exact Heap.get?_push_size _ rfl
  · have e : b = (s.heap.push { cls := .type "range", data := .fields #[.int lo t, .int hi u, .int 1 v] }).objs.size := by simpa using hb
    subst e
    exact I1.fpOk (Nat.le_refl _) (I1.hok.fresh (Nat.le_refl _))
def iRng1 (ta : TA) : TI := fun σ H R => ta σ H fun vs H1 => ∃ j : Int, vs = [.int j] ∧ -(2 ^ 62) ≤ j ∧ j < 2 ^ 62 ∧ R (Itr 0 j.toNat) H1
def iRng2 (ta : TA) : TI := fun σ H R => ta σ H fun vs H1 => ∃ i j : Int, vs = [.int i, .int j] ∧ (-(2 ^ 62) ≤ i ∧ i < 2 ^ 62 ∧ -(2 ^ 62) ≤ j ∧ j < 2 ^ 62) ∧ R (Itr i (j - i).toNat) H1
theorem pi_range1 {a : Expr} {ta : TA} {p pos : Pos} (hg : Gl X "range") (hm : X.mg "range" = none) (ha : PA X [a] ta) (hs : starEach [a] X.env = [(false, eval a X.env)] := by rfl) : PI X tg (.Call (.Name "range" p) [a] [] pos) (iRng1 ta) := by
  intro pins s σ H R I h
  refine Call_ (ld_blt I hg hm boot_range (PyProof.Rows.callWith_type1 (thn (ha pos pins s σ H _ I h) fun us s1 ⟨vs, H1, I1, r1, q1⟩ => ?_) hs rfl))
  obtain ⟨j, e, q1, q2, q⟩ := q1
  subst e
  cases r1 with
  | cons r rr =>
    cases rr
    obtain ⟨t, rfl⟩ := r
    exact call_range_1 (range_it I1 (by lia) (by lia) q1 q2 (by simpa using q))
def tFor (wi : TI) (g : TG) (tb : TS) : TS := fun D σ H => wi σ H fun J H1 => ∃ W : Nat → Nat → St → Hp → Prop, (∃ m, W 0 m σ H1) ∧ ∀ i m σ H, W i m σ H →
  (J.stop i H ∧ D.nx σ H) ∨ (J.go i H ∧ ∃ N : St → Hp → Prop, (∀ σ' H', N σ' H' → ∃ m', m' < m ∧ W (i + 1) m' σ' H') ∧ ∀ x H', J.yld i H x H' → g x σ H' fun σ2 H2 => tb { D with nx := N, ct := N, bk := D.nx } σ2 H2)
noncomputable def pinsAt (fp : List Addr) (h : Heap) : List (Addr × Obj) := fp.filterMap fun b => (h.get? b).map fun o => (b, o)
theorem mem_pinsAt {fp : List Addr} {h : Heap} {b : Addr} {o : Obj} (hb : b ∈ fp) (e : h.get? b = some o) : (b, o) ∈ pinsAt fp h := aq.mpr ⟨b, hb, by rw [e]; rfl⟩
theorem of_pinsAt {fp : List Addr} {h : Heap} {p : Addr × Obj} (hp : p ∈ pinsAt fp h) : p.1 ∈ fp ∧ h.get? p.1 = some p.2 := by
  obtain ⟨b, hb, e⟩ := aq.mp hp
  cases q : h.get? b with
  | none => rw [q] at e; cases e
  | some o =>
    rw [q] at e
    have e' : (b, o) = p := Option.some.inj e
    subst e'
    exact ⟨hb, q⟩
theorem Inv.pinned {pins : List (Addr × Obj)} {σ : St} {H : Hp} {s : Shared} {fp : List Addr} (I : Inv X pins σ H s) (hf : ∀ b ∈ fp, FpOk X pins H b) (ho : ∀ b ∈ fp, ∃ o, s.heap.get? b = some o ∧ ∀ v, o.data ≠ .cell v) : Inv X (pins ++ pinsAt fp s.heap) σ H s :=
  I.pins_of fun p hp => (ae.mp hp).elim (fun z => I.pin p (List.mem_append_right _ z)) fun z => by
    obtain ⟨hb, e⟩ := of_pinsAt z
    obtain ⟨f0, f1, f2, _⟩ := hf p.1 hb
    obtain ⟨o, e', d⟩ := ho p.1 hb
    rw [e] at e'; cases e'
    exact ⟨e, f0, f1, f2, d⟩
theorem Inv.unpinned {pins pl : List (Addr × Obj)} {σ : St} {H : Hp} {s : Shared} (I : Inv X (pins ++ pl) σ H s) : Inv X pins σ H s := I.pins_of fun p hp => I.pin p (List.mem_append_right _ (List.mem_append_left _ hp))
theorem ps_for {iter : Expr} {body : List Stmt} {wi : TI} {g : TG} {tb : TS} {pos : Pos} (hp : PassesOwn (model X.prog X.w) X.A X.env X.xe) (hc : X.calm = true) (hi : PI X tg iter wi) (hg : PG X tg g) (hb : PSs X body tb)
    (hs : ∀ x, foldedSetIterable iter X.env x = pure x := by intro _; rfl) : PS X (.For tg iter body [] pos) (tFor wi g tb) := by
  intro pins s σ H D I h
  refine wpAny_For (thn (hi pins s σ H _ I h) fun v s1 h1 => thn h1 fun itv s2 h2 => ?_) hs
  obtain ⟨it, fp, tn, J, H2, e, I2, T, st2, f2, W, ⟨m0, w0⟩, turn⟩ := h2
  subst e
  have stat : ∀ {H' : Hp}, (∀ b ∈ fp, H' b = none) → ∀ b ∈ fp, FpOk X pins H' b := fun hn b hb => ⟨hn b hb, (f2 b hb).2⟩
  refine codeAny_forLoop_any (fun n s' => ∃ i σ' H', Inv X pins σ' H' s' ∧ tn i s'.heap ∧ (∀ b ∈ fp, H' b = none) ∧ W i n σ' H') ?_ m0 ⟨0, σ, H2, I2, st2, fun b hb => (f2 b hb).1, w0⟩
  rintro n s3 ⟨i, σ3, H3, I3, st3, fr3, w3⟩
  rcases turn i n σ3 H3 w3 with ⟨stop, qn⟩ | ⟨go, N, hN, step⟩
  · refine wpAny_passesOwn hp (thn (T.done X rfl rfl rfl hc i pins s3 σ3 H3 X.xe I3 (stat fr3) st3 stop) fun r s4 ⟨hr, I4⟩ => ?_)
    subst hr
    exact wpAny_execs_nil ⟨σ3, H3, I4, qn⟩
  · refine wpAny_passesOwn hp (thn (T.item X rfl rfl rfl hc i pins s3 σ3 H3 X.xe I3 (stat fr3) st3 go) fun r s4 ⟨u, hr, h4⟩ => ?_)
    subst hr
    refine wpAny_passesOwn hp (thn h4 fun _ s5 ⟨x, H5, I5, r5, y5, st5, fr5⟩ => ?_)
    have I5' := I5.pinned (stat fr5) (T.obj _ _ st5)
    refine wpAny_passesOwn hp (thn (hg _ s5 σ3 H5 x u _ I5' r5 (step x H5 y5)) fun _ s6 ⟨σ6, H6, I6, q6⟩ => ?_)
    refine wpAny_passesOwn hp (thn (hb _ s6 σ6 H6 _ I6 q6) fun f s7 q7 => ?_)
    have again : ∀ {σ7 : St} {H7 : Hp}, Inv X (pins ++ pinsAt fp s5.heap) σ7 H7 s7 → N σ7 H7 → ∃ m, m < n ∧ ∃ i σ' H', Inv X pins σ' H' s7 ∧ tn i s7.heap ∧ (∀ b ∈ fp, H' b = none) ∧ W i m σ' H' := fun {σ7 H7} I7 n7 => by
      obtain ⟨m', hm, w7⟩ := hN σ7 H7 n7
      refine ⟨m', hm, i + 1, σ7, H7, I7.unpinned, T.keep _ _ _ st5 fun b hb o e => (I7.pin (b, o) (List.mem_append_right _ (List.mem_append_right _ (mem_pinsAt hb e)))).1, fun b hb => ?_, w7⟩
      obtain ⟨o, e, d⟩ := T.obj _ _ st5 b hb
      exact (I7.pin (b, o) (List.mem_append_right _ (List.mem_append_right _ (mem_pinsAt hb e)))).2.1
    cases f with
    | next => obtain ⟨σ7, H7, I7, n7⟩ := q7; exact again I7 n7
    | cont => obtain ⟨σ7, H7, I7, n7⟩ := q7; exact again I7 n7
    | brk => obtain ⟨σ7, H7, I7, q7⟩ := q7; exact ⟨σ7, H7, I7.unpinned, q7⟩
    | ret v => obtain ⟨x7, σ7, H7, I7, r7, q7⟩ := q7; exact ⟨x7, σ7, H7, I7.unpinned, r7, q7⟩
end
theorem for_list {K : PySem.W.Frag} {a : Addr} {xs : List V} {g : TG} {tb : TS} {D : Ends} {σ : St} {H : Hp} (Pv : Nat → St → Hp → Prop) (h0 : Pv 0 σ H) (hl : ∀ i σ H, i ≤ xs.length → Pv i σ H → SqL K H a xs)
    (hs : ∀ i x σ H, xs[i]? = some x → Pv i σ H → g x σ H fun σ2 H2 => tb { D with nx := Pv (i + 1), ct := Pv (i + 1), bk := D.nx } σ2 H2) (hd : ∀ σ H, Pv xs.length σ H → D.nx σ H) :
    ∃ W : Nat → Nat → St → Hp → Prop, (∃ m, W 0 m σ H) ∧ ∀ i m σ H, W i m σ H →
      ((Itl K a).stop i H ∧ D.nx σ H) ∨ ((Itl K a).go i H ∧ ∃ N : St → Hp → Prop, (∀ σ' H', N σ' H' → ∃ m', m' < m ∧ W (i + 1) m' σ' H') ∧ ∀ x H', (Itl K a).yld i H x H' → g x σ H' fun σ2 H2 => tb { D with nx := N, ct := N, bk := D.nx } σ2 H2) := by
  refine ⟨fun i m σ H => m = xs.length - i ∧ i ≤ xs.length ∧ Pv i σ H, ⟨xs.length, by simp, Nat.zero_le _, h0⟩, ?_⟩
  rintro i m σ H ⟨rfl, hi, p⟩
  have q := hl i σ H hi p
  by_cases hlt : i < xs.length
  · refine .inr ⟨⟨xs, xs[i], q, by simp [hlt]⟩, Pv (i + 1), fun σ' H' p' => ⟨xs.length - (i + 1), by lia, rfl, hlt, p'⟩, fun x H' y => ?_⟩
    obtain ⟨e, y⟩ := y
    subst e
    exact hs i x σ _ (y xs q) p
  · have e : i = xs.length := by lia
    subst e
    exact .inl ⟨⟨xs, q, Nat.le_refl _⟩, hd σ H p⟩
theorem for_range {lo : Int} {n : Nat} {g : TG} {tb : TS} {D : Ends} {σ : St} {H : Hp} (Pv : Nat → St → Hp → Prop) (h0 : Pv 0 σ H)
    (hs : ∀ i σ H, i < n → Pv i σ H → g (.int (lo + i)) σ H fun σ2 H2 => tb { D with nx := Pv (i + 1), ct := Pv (i + 1), bk := D.nx } σ2 H2) (hd : ∀ σ H, Pv n σ H → D.nx σ H) :
    ∃ W : Nat → Nat → St → Hp → Prop, (∃ m, W 0 m σ H) ∧ ∀ i m σ H, W i m σ H →
      ((Itr lo n).stop i H ∧ D.nx σ H) ∨ ((Itr lo n).go i H ∧ ∃ N : St → Hp → Prop, (∀ σ' H', N σ' H' → ∃ m', m' < m ∧ W (i + 1) m' σ' H') ∧ ∀ x H', (Itr lo n).yld i H x H' → g x σ H' fun σ2 H2 => tb { D with nx := N, ct := N, bk := D.nx } σ2 H2) := by
  refine ⟨fun i m σ H => m = n - i ∧ i ≤ n ∧ Pv i σ H, ⟨n, by simp, Nat.zero_le _, h0⟩, ?_⟩
  rintro i m σ H ⟨rfl, hi, p⟩
  by_cases hlt : i < n
  · refine .inr ⟨hlt, Pv (i + 1), fun σ' H' p' => ⟨n - (i + 1), by lia, rfl, hlt, p'⟩, fun x H' y => ?_⟩
    obtain ⟨e, y⟩ := y
    subst e y
    exact hs i σ _ hlt p
  · have e : i = n := by lia
    subst e
    exact .inl ⟨Nat.le_refl _, hd σ H p⟩
end L2
namespace L2
open PySem PySem.Spec PyProof.Rows
noncomputable abbrev R2 := V → V → Hp → VK → Prop
def OpR (X : Cx) (f : Value → Value → Sem Value) (r : R2) : Prop :=
  ∀ (pins : List (Addr × Obj)) (s : Shared) (σ : St) (H : Hp) (x y : V) (v u : Value) (Q : VK), Inv X pins σ H s → RelV x v → RelV y u → r x y H Q →
    wpAny (model X.prog X.w) X.A (f v u) (EP X pins σ Q) X.xe s
def UnR (X : Cx) (f : Value → Sem Value) (r : V → Hp → VK → Prop) : Prop :=
  ∀ (pins : List (Addr × Obj)) (s : Shared) (σ : St) (H : Hp) (x : V) (v : Value) (Q : VK), Inv X pins σ H s → RelV x v → r x H Q →
    wpAny (model X.prog X.w) X.A (f v) (EP X pins σ Q) X.xe s
def CallR (X : Cx) (f : Value) (r : List V → Hp → VK → Prop) : Prop :=
  ∀ (pins : List (Addr × Obj)) (s : Shared) (σ : St) (H : Hp) (xs : List V) (us : List Value) (Q : VK), Inv X pins σ H s → Vals xs us → r xs H Q →
    wpAny (model X.prog X.w) X.A (call f us) (EP X pins σ Q) X.xe s
def TruR (X : Cx) (r : V → Hp → (Bool → Hp → Prop) → Prop) : Prop :=
  ∀ (pins : List (Addr × Obj)) (s : Shared) (σ : St) (H : Hp) (x : V) (v : Value) (Q : Bool → Hp → Prop), Inv X pins σ H s → RelV x v → r x H Q →
    wpAny (model X.prog X.w) X.A (truthy v) (TP X pins σ Q) X.xe s
def tOp (r : R2) (ta tb : TE) : TE := fun σ H Q => ta σ H fun x H1 => tb σ H1 fun y H2 => r x y H2 Q
def tUn (r : V → Hp → VK → Prop) (ta : TE) : TE := fun σ H Q => ta σ H fun x H1 => r x H1 Q
def rI (C : Int → Int → Prop) (g : Int → Int → V) : R2 := fun x y H Q => ∃ i j, x = .int i ∧ y = .int j ∧ C i j ∧ Q (g i j) H
def rI0 (g : Int → Int → V) : R2 := fun x y H Q => ∃ i j, x = .int i ∧ y = .int j ∧ Q (g i j) H
def rU (g : Int → V) : V → Hp → VK → Prop := fun x H Q => ∃ i, x = .int i ∧ Q (g i) H
section
variable {X : Cx} {a b c : Expr} {ta tb tc : TE} {pos : Pos}
theorem binT (ha : PE X a ta) (hb : PE X b tb) {pins : List (Addr × Obj)} {s : Shared} {σ : St} {H : Hp} {R : V → V → Hp → Prop} (I : Inv X pins σ H s)
    (h : ta σ H fun x H1 => tb σ H1 fun y H2 => R x y H2) {Q : Value → Shared → Prop} {f : Value → Value → Sem Value}
    (hf : ∀ v u s2 x y H2, Inv X pins σ H2 s2 → RelV x v → RelV y u → R x y H2 → wpAny (model X.prog X.w) X.A (f v u) Q X.xe s2) :
    wpAny (model X.prog X.w) X.A (eval a X.env) (fun v s₁ => wpAny (model X.prog X.w) X.A (eval b X.env) (fun u s₂ => wpAny (model X.prog X.w) X.A (f v u) Q X.xe s₂) X.xe s₁) X.xe s := by
  refine thn (ha pins s σ H _ I h) fun v s1 ⟨x, H1, I1, r1, q1⟩ => ?_
  refine thn (hb pins s1 σ H1 _ I1 q1) fun u s2 ⟨y, H2, I2, r2, q2⟩ => ?_
  exact hf v u s2 x y H2 I2 r1 r2 q2
theorem pe_op {op : Operator} {r : R2} (ho : OpR X (binaryOp op) r) (ha : PE X a ta) (hb : PE X b tb) : PE X (.BinOp a op b pos) (tOp r ta tb) := by
  intro pins s σ H Q I h
  exact wpAny_BinOp (binT ha hb I h fun v u s2 x y H2 I2 rx ry q => ho pins s2 σ H2 x y v u Q I2 rx ry q)
theorem pe_un {op : UnaryOp} {r : V → Hp → VK → Prop} (ho : UnR X (unaryOp op) r) (ha : PE X a ta) : PE X (.UnaryOp op a pos) (tUn r ta) := by
  intro pins s σ H Q I h
  exact UnaryOp_ (thn (ha pins s σ H _ I h) fun v s1 ⟨x, H1, I1, r1, q1⟩ => ho pins s1 σ H1 x v Q I1 r1 q1)
theorem opI {f : Value → Value → Sem Value} {C : Int → Int → Prop} {g : Int → Int → Int}
    (rule : ∀ (i j : Int) (t u : Tok) (s : Shared) (Q : Value → Shared → Prop) (E : Value → Shared → Prop), C i j → Q (.int (g i j) s.toks) { s with toks := s.toks + 1 } → wpAny (model X.prog X.w) X.A (f (.int i t) (.int j u)) Q E s) :
    OpR X f (rI C fun i j => .int (g i j)) := by
  intro pins s σ H x y v u Q I rx ry h
  obtain ⟨i, j, rfl, rfl, hc, q⟩ := h
  obtain ⟨t, rfl⟩ := rx
  obtain ⟨t', rfl⟩ := ry
  exact rule i j t t' s _ _ hc ⟨.int (g i j), H, I.tok _, ⟨_, rfl⟩, q⟩
theorem opI0 {f : Value → Value → Sem Value} {g : Int → Int → Int}
    (rule : ∀ (i j : Int) (t u : Tok) (s : Shared) (Q : Value → Shared → Prop) (E : Value → Shared → Prop), Q (.int (g i j) s.toks) { s with toks := s.toks + 1 } → wpAny (model X.prog X.w) X.A (f (.int i t) (.int j u)) Q E s) :
    OpR X f (rI0 fun i j => .int (g i j)) := by
  intro pins s σ H x y v u Q I rx ry h
  obtain ⟨i, j, rfl, rfl, q⟩ := h
  obtain ⟨t, rfl⟩ := rx
  obtain ⟨t', rfl⟩ := ry
  exact rule i j t t' s _ _ ⟨.int (g i j), H, I.tok _, ⟨_, rfl⟩, q⟩
theorem opB0 {f : Value → Value → Sem Value} {g : Int → Int → Bool}
    (rule : ∀ (i j : Int) (t u : Tok) (s : Shared) (Q : Value → Shared → Prop) (E : Value → Shared → Prop), Q (.bool (g i j)) s → wpAny (model X.prog X.w) X.A (f (.int i t) (.int j u)) Q E s) :
    OpR X f (rI0 fun i j => .bl (g i j)) := by
  intro pins s σ H x y v u Q I rx ry h
  obtain ⟨i, j, rfl, rfl, q⟩ := h
  obtain ⟨t, rfl⟩ := rx
  obtain ⟨t', rfl⟩ := ry
  exact rule i j t t' s _ _ ⟨.bl (g i j), H, I, rfl, q⟩
def CDiv (i j : Int) : Prop := 0 < j ∧ j < 1073741824
def CMul (i j : Int) : Prop := (-(2 ^ 64) < i ∧ i < 2 ^ 64) ∨ (-(2 ^ 64) < j ∧ j < 2 ^ 64)
theorem CMul.ok {i j : Int} (h : CMul i j) : IntMulOk i j := by
  rcases h with ⟨h1, h2⟩ | ⟨h1, h2⟩
  · exact .of_left (intBits_le_64 h1 h2)
  · exact .of_right (intBits_le_64 h1 h2)
theorem op_add : OpR X (binaryOp .Add) (rI0 fun i j => .int (i + j)) := opI0 fun _ _ _ _ _ _ _ q => add_int q
theorem op_sub : OpR X (binaryOp .Sub) (rI0 fun i j => .int (i - j)) := opI0 fun _ _ _ _ _ _ _ q => sub_int q
theorem op_mul : OpR X (binaryOp .Mult) (rI CMul fun i j => .int (i * j)) := opI fun _ _ _ _ _ _ _ hc q => mul_int q hc.ok
theorem op_fdiv : OpR X (binaryOp .FloorDiv) (rI CDiv fun i j => .int (i / j)) := opI fun i j _ _ _ _ _ hc q => by
  have h1 : (0 : Int) < j := hc.1
  have h2 : j < 1073741824 := hc.2
  exact floordiv_int (by lia) (by rw [Int.fdiv_eq_ediv_of_nonneg i (by lia)]; exact q) (.inl (PyProof.noPylong_small (by lia)))
theorem op_mod : OpR X (binaryOp .Mod) (rI (fun _ j => 0 < j) fun i j => .int (i % j)) := opI fun i j _ _ _ _ _ hc q => by
  have h1 : (0 : Int) < j := hc
  exact mod_int' (by lia) (by rw [Int.fmod_eq_emod_of_nonneg i (by lia)]; exact q)
theorem unI {f : Value → Sem Value} {g : Int → Int}
    (rule : ∀ (i : Int) (t : Tok) (s : Shared) (Q : Value → Shared → Prop) (E : Value → Shared → Prop), Q (.int (g i) s.toks) { s with toks := s.toks + 1 } → wpAny (model X.prog X.w) X.A (f (.int i t)) Q E s) :
    UnR X f (rU fun i => .int (g i)) := by
  intro pins s σ H x v Q I rx h
  obtain ⟨i, rfl, q⟩ := h
  obtain ⟨t, rfl⟩ := rx
  exact rule i t s _ _ ⟨.int (g i), H, I.tok _, ⟨_, rfl⟩, q⟩
theorem un_neg : UnR X (unaryOp .USub) (rU fun i => .int (-i)) := unI fun _ _ _ _ _ q => neg_int q
end
noncomputable def scal : V → V → Bool
  | .non, .non => true | .non, .int _ => true | .int _, .non => true | .non, .bl _ => true | .bl _, .non => true | .non, .str _ => true | .str _, .non => true
  | .int _, .int _ => true | .bl _, .bl _ => true | .str _, .str _ => true | .byt _, .byt _ => true
  | .int _, .str _ => true | .str _, .int _ => true | .bl _, .str _ => true | .str _, .bl _ => true
  | _, _ => false
def rEq : R2 := fun x y H Q => scal x y = true ∧ Q (.bl (decide (x = y))) H
def rNe : R2 := fun x y H Q => scal x y = true ∧ Q (.bl (!decide (x = y))) H
theorem dec_int {i j : Int} : decide (V.int i = V.int j) = (i == j) := by
  rw [Bool.eq_iff_iff]
  simp
theorem dec_bl {i j : Bool} : decide (V.bl i = V.bl j) = (i == j) := by
  rw [Bool.eq_iff_iff]
  simp
theorem dec_str {i j : Str} : decide (V.str i = V.str j) = (i == j) := by
  rw [Bool.eq_iff_iff]
  simp
theorem dec_byt {i j : Array UInt8} : decide (V.byt i = V.byt j) = (i.toList == j.toList) := by
  rw [Bool.eq_iff_iff]
  cases i
  cases j
  simp
section
variable {X : Cx} {a b c : Expr} {ta tb tc : TE} {pos : Pos}
theorem fin_bl {pins : List (Addr × Obj)} {σ : St} {H : Hp} {s : Shared} {Q : VK} {k k' : Bool} (I : Inv X pins σ H s) (q : Q (.bl k) H) (e : k = k') : EP X pins σ Q (.bool k') s := by
  subst e
  exact ⟨.bl k, H, I, rfl, q⟩
theorem op_eq : OpR X (compareOp .Eq) rEq := by
  intro pins s σ H x y v u Q I rx ry h
  obtain ⟨hs, q⟩ := h
  cases x with
  | non =>
    cases rx
    cases y with
    | non => cases ry; exact PySem.EqNone.eq_none_none (fin_bl I q (by simp))
    | bl j => cases ry; exact PySem.EqNone.eq_none_bool (fin_bl I q (by simp))
    | int j => obtain ⟨t', rfl⟩ := ry; exact PySem.EqNone.eq_none_int (fin_bl I q (by simp))
    | str j => obtain ⟨t', rfl⟩ := ry; exact PySem.EqNone.eq_none_str (fin_bl I q (by simp))
    | _ => exact absurd (show false = true from hs) Bool.false_ne_true
  | bl i =>
    cases rx
    cases y with
    | non => cases ry; exact PySem.EqNone.eq_bool_none (fin_bl I q (by simp))
    | bl j => cases ry; exact eq_bool (fin_bl I q dec_bl)
    | str j => obtain ⟨t', rfl⟩ := ry; exact PySem.EqMixed.eq_bool_str (fin_bl I q (by simp))
    | _ => exact absurd (show false = true from hs) Bool.false_ne_true
  | int i =>
    obtain ⟨t, rfl⟩ := rx
    cases y with
    | non => cases ry; exact PySem.EqNone.eq_int_none (fin_bl I q (by simp))
    | int j => obtain ⟨t', rfl⟩ := ry; exact eq_int (fin_bl I q dec_int)
    | str j => obtain ⟨t', rfl⟩ := ry; exact PySem.EqMixed.eq_int_str (fin_bl I q (by simp))
    | _ => exact absurd (show false = true from hs) Bool.false_ne_true
  | str i =>
    obtain ⟨t, rfl⟩ := rx
    cases y with
    | non => cases ry; exact PySem.EqNone.eq_str_none (fin_bl I q (by simp))
    | bl j => cases ry; exact PySem.EqMixed.eq_str_bool (fin_bl I q (by simp))
    | int j => obtain ⟨t', rfl⟩ := ry; exact PySem.EqMixed.eq_str_int (fin_bl I q (by simp))
    | str j => obtain ⟨t', rfl⟩ := ry; exact eq_str (fin_bl I q dec_str)
    | _ => exact absurd (show false = true from hs) Bool.false_ne_true
  | byt i =>
    obtain ⟨t, rfl⟩ := rx
    cases y with
    | byt j => obtain ⟨t', rfl⟩ := ry; exact PySem.W.eq_bytes (fin_bl I q dec_byt)
    | _ => exact absurd (show false = true from hs) Bool.false_ne_true
  | _ => cases y <;> exact absurd (show false = true from hs) Bool.false_ne_true
theorem op_ne : OpR X (compareOp .NotEq) rNe := by
  intro pins s σ H x y v u Q I rx ry h
  obtain ⟨hs, q⟩ := h
  cases x with
  | non =>
    cases rx
    cases y with
    | non => cases ry; exact PySem.EqNone.ne_none_none (fin_bl I q (by simp))
    | bl j => cases ry; exact PySem.EqNone.ne_none_bool (fin_bl I q (by simp))
    | int j => obtain ⟨t', rfl⟩ := ry; exact PySem.EqNone.ne_none_int (fin_bl I q (by simp))
    | str j => obtain ⟨t', rfl⟩ := ry; exact PySem.EqNone.ne_none_str (fin_bl I q (by simp))
    | _ => exact absurd (show false = true from hs) Bool.false_ne_true
  | bl i =>
    cases rx
    cases y with
    | non => cases ry; exact PySem.EqNone.ne_bool_none (fin_bl I q (by simp))
    | bl j => cases ry; exact ne_bool (fin_bl I q (congrArg not dec_bl))
    | str j => obtain ⟨t', rfl⟩ := ry; exact PySem.EqMixed.ne_bool_str (fin_bl I q (by simp))
    | _ => exact absurd (show false = true from hs) Bool.false_ne_true
  | int i =>
    obtain ⟨t, rfl⟩ := rx
    cases y with
    | non => cases ry; exact PySem.EqNone.ne_int_none (fin_bl I q (by simp))
    | int j => obtain ⟨t', rfl⟩ := ry; exact ne_int (fin_bl I q (congrArg not dec_int))
    | str j => obtain ⟨t', rfl⟩ := ry; exact PySem.EqMixed.ne_int_str (fin_bl I q (by simp))
    | _ => exact absurd (show false = true from hs) Bool.false_ne_true
  | str i =>
    obtain ⟨t, rfl⟩ := rx
    cases y with
    | non => cases ry; exact PySem.EqNone.ne_str_none (fin_bl I q (by simp))
    | bl j => cases ry; exact PySem.EqMixed.ne_str_bool (fin_bl I q (by simp))
    | int j => obtain ⟨t', rfl⟩ := ry; exact PySem.EqMixed.ne_str_int (fin_bl I q (by simp))
    | str j => obtain ⟨t', rfl⟩ := ry; exact ne_str (fin_bl I q (congrArg not dec_str))
    | _ => exact absurd (show false = true from hs) Bool.false_ne_true
  | byt i =>
    obtain ⟨t, rfl⟩ := rx
    cases y with
    | byt j => obtain ⟨t', rfl⟩ := ry; exact PySem.W.ne_bytes (fin_bl I q (congrArg not dec_byt))
    | _ => exact absurd (show false = true from hs) Bool.false_ne_true
  | _ => cases y <;> exact absurd (show false = true from hs) Bool.false_ne_true
theorem op_lt : OpR X (compareOp .Lt) (rI0 fun i j => .bl (decide (i < j))) := opB0 fun _ _ _ _ _ _ _ q => lt_int q
theorem op_le : OpR X (compareOp .LtE) (rI0 fun i j => .bl (decide (i ≤ j))) := opB0 fun _ _ _ _ _ _ _ q => le_int q
theorem op_gt : OpR X (compareOp .Gt) (rI0 fun i j => .bl (decide (j < i))) := opB0 fun _ _ _ _ _ _ _ q => gt_int q
theorem op_ge : OpR X (compareOp .GtE) (rI0 fun i j => .bl (decide (j ≤ i))) := opB0 fun _ _ _ _ _ _ _ q => ge_int q
theorem op_in_str : OpR X (compareOp .In) (fun x y H Q => ∃ i j, x = .str i ∧ y = .str j ∧ Q (.bl (!(Builtin.Str.occurrences j i 0 j.length 1).isEmpty)) H) := by
  intro pins s σ H x y v u Q I rx ry h
  obtain ⟨i, j, rfl, rfl, q⟩ := h
  obtain ⟨t, rfl⟩ := rx
  obtain ⟨t', rfl⟩ := ry
  exact in_str (fin_bl I q rfl)
theorem op_isN : OpR X (compareOp .Is) (fun x y H Q => y = .non ∧ Q (.bl (decide (x = .non))) H) := by
  intro pins s σ H x y v u Q I rx ry h
  obtain ⟨rfl, q⟩ := h
  cases ry
  refine is_none_gen (fin_bl I q ?_)
  cases x <;> first
    | (cases rx; rfl)
    | (obtain ⟨t, rfl⟩ := rx; rfl)
theorem op_notN : OpR X (compareOp .IsNot) (fun x y H Q => y = .non ∧ Q (.bl (!decide (x = .non))) H) := by
  intro pins s σ H x y v u Q I rx ry h
  obtain ⟨rfl, q⟩ := h
  cases ry
  refine isnot_none_gen (fin_bl I q ?_)
  cases x <;> first
    | (cases rx; rfl)
    | (obtain ⟨t, rfl⟩ := rx; rfl)
theorem op_notin_str : OpR X (compareOp .NotIn) (fun x y H Q => ∃ i j, x = .str i ∧ y = .str j ∧ Q (.bl (!(!(Builtin.Str.occurrences j i 0 j.length 1).isEmpty))) H) := by
  intro pins s σ H x y v u Q I rx ry h
  obtain ⟨i, j, rfl, rfl, q⟩ := h
  obtain ⟨t, rfl⟩ := rx
  obtain ⟨t', rfl⟩ := ry
  exact notIn_str (fin_bl I q rfl)
theorem OpR.or {f : Value → Value → Sem Value} {r r' : R2} (h : OpR X f r) (h' : OpR X f r') : OpR X f (fun x y H Q => r x y H Q ∨ r' x y H Q) := by
  intro pins s σ H x y v u Q I rx ry q
  rcases q with q | q
  · exact h pins s σ H x y v u Q I rx ry q
  · exact h' pins s σ H x y v u Q I rx ry q
theorem nomark (b : Expr) {op : CmpOp} (h : op ≠ .In := by decide) (h2 : op ≠ .NotIn := by decide) : behindInMarks op b = false := by
  have e1 : (op == CmpOp.In) = false := by cases op <;> first | rfl | exact absurd rfl h
  have e2 : (op == CmpOp.NotIn) = false := by cases op <;> first | rfl | exact absurd rfl h2
  cases b <;> simp [behindInMarks, e1, e2]
theorem pe_cmpR {op : CmpOp} {r : R2} (ho : OpR X (compareOp op) r) (ha : PE X a ta) (hb : PE X b tb) (hm : behindInMarks op b = false) : PE X (.Compare a [op] [b] pos) (tOp r ta tb) := by
  intro pins s σ H Q I h
  exact wpAny_Compare1 (binT ha hb I h fun v u s2 x y H2 I2 rx ry q => ho pins s2 σ H2 x y v u Q I2 rx ry q) hm
def tTest (t : TE) : TT := fun σ H Q => t σ H fun x H' => ∃ k, x = .bl k ∧ Q k H'
theorem pt_cmpR {op : CmpOp} {r : R2} (ho : OpR X (compareOp op) r) (ha : PE X a ta) (hb : PE X b tb) (hm : behindInMarks op b = false) : PT X (.Compare a [op] [b] pos) (tTest (tOp r ta tb)) := by
  intro pins s σ H Q I h
  refine wpAny_isTrue_Compare1 (thn (ha pins s σ H _ I h) fun v s1 ⟨x, H1, I1, r1, q1⟩ => thn (hb pins s1 σ H1 _ I1 q1) fun u s2 ⟨y, H2, I2, r2, q2⟩ =>
    thn (ho pins s2 σ H2 x y v u _ I2 r1 r2 q2) fun c s3 ⟨z, H3, I3, r3, k, e, q3⟩ => ?_) hm
  subst e
  cases r3
  exact wpAny_truthy_bool ⟨H3, I3, q3⟩
def tChain (r r' : R2) (ta tb tc : TE) : TE := fun σ H Q => ta σ H fun x H1 => tb σ H1 fun y H2 => r x y H2 fun z H3 => ∃ k, z = .bl k ∧
  (if k = true then tc σ H3 fun w' H4 => r' y w' H4 Q else Q (.bl false) H3)
theorem pe_chain {op op' : CmpOp} {r r' : R2} (ho : OpR X (compareOp op) r) (ho' : OpR X (compareOp op') r') (ha : PE X a ta) (hb : PE X b tb) (hc : PE X c tc)
    (hm : lastMarks [op, op'] [b, c] = false := by with_unfolding_all rfl) : PE X (.Compare a [op, op'] [b, c] pos) (tChain r r' ta tb tc) := by
  intro pins s σ H Q I h
  refine Compare_chain (thn (ha pins s σ H _ I h) fun v s1 ⟨x, H1, I1, r1, q1⟩ => chain_link (thn (hb pins s1 σ H1 _ I1 q1) fun u s2 ⟨y, H2, I2, r2, q2⟩ =>
    thn (ho pins s2 σ H2 x y v u _ I2 r1 r2 q2) fun d s3 ⟨z, H3, I3, r3, k, e, q3⟩ => ?_)) hm
  subst e
  cases r3
  refine wpAny_truthy_bool ?_
  cases k with
  | false => exact ite_ff ⟨.bl false, H3, I3, rfl, q3⟩
  | true => exact ite_tt (chain_last (thn (hc pins s3 σ H3 _ I3 q3) fun w' s4 ⟨z', H4, I4, r4, q4⟩ => ho' pins s4 σ H4 y z' u w' Q I4 r2 r4 q4))
theorem pt_chain {op op' : CmpOp} {r r' : R2} (ho : OpR X (compareOp op) r) (ho' : OpR X (compareOp op') r') (ha : PE X a ta) (hb : PE X b tb) (hc : PE X c tc)
    (hm : lastMarks [op, op'] [b, c] = false := by with_unfolding_all rfl) : PT X (.Compare a [op, op'] [b, c] pos) (tTest (tChain r r' ta tb tc)) := by
  intro pins s σ H Q I h
  refine isTrue_chain (thn (ha pins s σ H _ I h) fun v s1 ⟨x, H1, I1, r1, q1⟩ => test_link (thn (hb pins s1 σ H1 _ I1 q1) fun u s2 ⟨y, H2, I2, r2, q2⟩ =>
    thn (ho pins s2 σ H2 x y v u _ I2 r1 r2 q2) fun d s3 ⟨z, H3, I3, r3, k, e, q3⟩ => ?_)) hm
  subst e
  cases r3
  refine wpAny_truthy_bool ?_
  cases k with
  | false =>
    obtain ⟨k', e', q'⟩ := q3
    cases e'
    exact ite_ff ⟨H3, I3, q'⟩
  | true =>
    refine ite_tt (test_last (thn (hc pins s3 σ H3 _ I3 q3) fun w' s4 ⟨z', H4, I4, r4, q4⟩ => thn (ho' pins s4 σ H4 y z' u w' _ I4 r2 r4 q4) fun d' s5 ⟨z2, H5, I5, r5, k2, e2, q5⟩ => ?_))
    subst e2
    cases r5
    exact wpAny_truthy_bool ⟨H5, I5, q5⟩
def TruV (K : PySem.W.Frag) (x : V) (H : Hp) (k : Bool) : Prop :=
  match x with
  | .non => k = false
  | .bl b => k = b
  | .int i => k = (i != 0)
  | .str y => y.length ≤ sizeLine ∧ k = ((y.length : Int) != 0)
  | .byt y => y.size ≤ sizeLine ∧ k = ((y.size : Int) != 0)
  | .ref p => (∃ xs, SqL K H p xs ∧ k = !xs.isEmpty) ∨ (∃ xs, SqT K H p xs ∧ k = !xs.isEmpty) ∨ ∃ kvs, H p = some (.dK kvs) ∧ k = !kvs.isEmpty
  | _ => False
theorem isEmpty_kv {κ : Type} {kvs : List (κ × V)} {vs : List (κ × Value)} (r : KV kvs vs) : (!vs.isEmpty) = !kvs.isEmpty := by
  cases r <;> rfl
theorem isEmpty_of {xs : List V} {its : List Value} (r : Vals xs its) : (!its.toArray.isEmpty) = !xs.isEmpty := by
  cases r <;> simp
theorem line63 : (sizeLine : Nat) < 2 ^ 63 := by rw [sizeLine_eq]; decide
theorem tru_ok : TruR X (fun x H Q => ∃ k, TruV X.K x H k ∧ Q k H) := by
  intro pins s σ H x v Q I rx h
  obtain ⟨k, e, q⟩ := h
  have hl := line63
  have hs : sizeLine = 16777216 := sizeLine_eq
  cases x with
  | non =>
    cases rx
    have e' : k = false := e
    subst e'
    exact truthy_none ⟨H, I, q⟩
  | bl b =>
    cases rx
    have e' : k = b := e
    subst e'
    exact wpAny_truthy_bool ⟨H, I, q⟩
  | int i =>
    obtain ⟨t, rfl⟩ := rx
    have e' : k = (i != 0) := e
    subst e'
    exact PySem.P.truthy_int ⟨H, I, q⟩
  | str y =>
    obtain ⟨t, rfl⟩ := rx
    obtain ⟨hy, e'⟩ : y.length ≤ sizeLine ∧ k = ((y.length : Int) != 0) := e
    subst e'
    exact PySem.P.truthy_str (by lia) ⟨H, I.tok _, q⟩
  | byt y =>
    obtain ⟨t, rfl⟩ := rx
    obtain ⟨hy, e'⟩ : y.size ≤ sizeLine ∧ k = ((y.size : Int) != 0) := e
    subst e'
    exact PySem.W.truthy_bytes (by lia) ⟨H, I.tok _, q⟩
  | ref p =>
    cases rx
    have e' : (∃ xs, SqL X.K H p xs ∧ k = !xs.isEmpty) ∨ (∃ xs, SqT X.K H p xs ∧ k = !xs.isEmpty) ∨ ∃ kvs, H p = some (.dK kvs) ∧ k = !kvs.isEmpty := e
    rcases e' with ⟨xs, hx, e'⟩ | ⟨xs, hx, e'⟩ | ⟨kvs, hx, e'⟩
    · subst e'
      obtain ⟨its, r, pl, hz⟩ := I.list hx
      have hlen := r.length
      exact wpAny_truthy_list pl.isList (by simp only [List.size_toArray]; lia) ⟨H, I.tok _, by rw [isEmpty_of r]; exact q⟩
    · subst e'
      obtain ⟨its, r, pl, hz⟩ := I.tuple hx
      have hlen := r.length
      exact truthy_tuple pl (by simp only [List.size_toArray]; lia) ⟨H, I.tok _, by rw [isEmpty_of r]; exact q⟩
    · subst e'
      obtain ⟨hz, hS, vs, r, m⟩ : kvs.length ≤ sizeLine ∧ (p == sysModules) = false ∧ ∃ vs, KV kvs vs ∧ s.heap.DictOf (mixKind X.prog X.w) p vs := I.hok p _ hx
      have hlen : kvs.length = vs.length := Paired.length r
      exact wpAny_truthy_dict hS m (by lia) ⟨H, I.tok _, by rw [isEmpty_kv r]; exact q⟩
  | _ => exact (show False from e).elim
theorem pt_truth (ha : PE X a ta) (he : ∀ whole, isTrue a X.env whole = (do let v ← whole; standAt a.pos; holding [v] (truthy v))) :
    PT X a (fun σ H Q => ta σ H fun x H' => ∃ k, TruV X.K x H' k ∧ Q k H') := by
  intro pins s σ H Q I h
  exact isTrue_plain (thn (ha pins s σ H _ I h) fun v s1 ⟨x, H1, I1, r1, q1⟩ => tru_ok pins s1 σ H1 x v Q I1 r1 q1) (he _)
theorem op_add_str : OpR X (binaryOp .Add) (fun x y H Q => ∃ i j, x = .str i ∧ y = .str j ∧ i.length + j.length ≤ sizeLine ∧ Q (.str (i ++ j)) H) := by
  intro pins s σ H x y v u Q I rx ry h
  obtain ⟨i, j, rfl, rfl, hz, q⟩ := h
  obtain ⟨t, rfl⟩ := rx
  obtain ⟨t', rfl⟩ := ry
  exact add_str (fun t' tk => ⟨.str (i ++ j), H, I.tok _, ⟨_, rfl⟩, q⟩) hz
theorem vals1 {x : V} {us : List Value} (r : Vals [x] us) : ∃ u, us = [u] ∧ RelV x u := by
  cases r with
  | cons r1 r2 => cases r2; exact ⟨_, rfl, r1⟩
theorem vals2 {x y : V} {us : List Value} (r : Vals [x, y] us) : ∃ u w', us = [u, w'] ∧ RelV x u ∧ RelV y w' := by
  cases r with
  | cons r1 r2 =>
    cases r2 with
    | cons r3 r4 => cases r4; exact ⟨_, _, rfl, r1, r3⟩
theorem call_str_int : CallR X (.type "str") (fun xs H Q => ∃ i, xs = [.int i] ∧ i.natAbs.log2 < 1920 ∧ Q (.str (toString i)) H) := by
  intro pins s σ H xs us Q I r h
  obtain ⟨i, rfl, hz, q⟩ := h
  obtain ⟨u, rfl, t, rfl⟩ := vals1 r
  exact PySem.P.str_of_int hz ⟨.str _, H, I.tok _, ⟨_, rfl⟩, q⟩
def LenV (K : PySem.W.Frag) (x : V) (H : Hp) (n : Nat) : Prop :=
  match x with
  | .str y => y.length ≤ sizeLine ∧ n = y.length
  | .byt y => y.size ≤ sizeLine ∧ n = y.size
  | .ref p => (∃ xs, SqL K H p xs ∧ n = xs.length) ∨ ∃ xs, SqT K H p xs ∧ n = xs.length
  | _ => False
theorem call_len : CallR X (.builtin "len") (fun xs H Q => ∃ x n, xs = [x] ∧ LenV X.K x H n ∧ Q (.int n) H) := by
  intro pins s σ H xs us Q I r h
  obtain ⟨x, n, rfl, e, q⟩ := h
  obtain ⟨u, rfl, rx⟩ := vals1 r
  have hl := line63
  have hs : sizeLine = 16777216 := sizeLine_eq
  cases x with
  | str y =>
    obtain ⟨t, rfl⟩ := rx
    obtain ⟨hy, e'⟩ : y.length ≤ sizeLine ∧ n = y.length := e
    subst e'
    exact len_str (by lia) ⟨.int _, H, I.tok _, ⟨_, rfl⟩, q⟩
  | byt y =>
    obtain ⟨t, rfl⟩ := rx
    obtain ⟨hy, e'⟩ : y.size ≤ sizeLine ∧ n = y.size := e
    subst e'
    exact PySem.W.len_bytes (by lia) ⟨.int _, H, I.tok _, ⟨_, rfl⟩, q⟩
  | ref p =>
    cases rx
    have e' : (∃ xs, SqL X.K H p xs ∧ n = xs.length) ∨ ∃ xs, SqT X.K H p xs ∧ n = xs.length := e
    rcases e' with ⟨xs, hx, e'⟩ | ⟨xs, hx, e'⟩
    · subst e'
      obtain ⟨its, r', pl, hz⟩ := I.list hx
      have hlen := r'.length
      exact Calls.call_len_list pl.isList (by simp only [List.size_toArray]; lia) ⟨.int xs.length, H, I.tok _, ⟨_, by simp only [List.size_toArray]; rw [hlen]⟩, q⟩
    · subst e'
      obtain ⟨its, r', pl, hz⟩ := I.tuple hx
      have hlen := r'.length
      exact len_tuple pl (by simp only [List.size_toArray]; lia) ⟨.int xs.length, H, I.tok _, ⟨_, by simp only [List.size_toArray]; rw [hlen]⟩, q⟩
  | _ => exact (show False from e).elim
end
end L2
namespace L2
open PySem PySem.Spec PyProof.Rows
structure ObjM (h : Heap) (x dx C : Addr) (mA : Str → Option Value) : Prop where
  obj : h.get? x = some (PySem.W.instObj C dx)
  ns : h.Ns1 dx mA
  ne : dx ≠ x
theorem lookIn_ns {h : Heap} {dx : Addr} {mA : Str → Option Value} (n : h.Ns1 dx mA) : ∃ od, h.get? dx = some od ∧ ∀ name, PySem.W.lookIn name od = some (mA name) := by
  obtain ⟨o, es, ep, ho, hd, hk, _, hm⟩ := n
  refine ⟨o, ho, fun name => ?_⟩
  have e := hm name
  unfold nsFind findBy at e
  rw [← Array.find?_toList] at e
  unfold PySem.W.lookIn
  rw [hd]
  dsimp only
  split
  · rename_i y q
    rw [q] at e
    exact congrArg some e
  · rename_i q
    rw [q] at e
    have a : es.toList.any (·.refKey) = false := by
      rw [List.any_eq_false]
      intro y hy
      obtain ⟨z, t, hkey⟩ := hk y (Array.mem_toList_iff.mp hy)
      simp [DictEntry.refKey, hkey]
    have a' : ¬ es.toList.any (·.refKey) = true := by rw [a]; exact Bool.false_ne_true
    rw [if_neg a']
    exact congrArg some e
theorem ObjM.look {h : Heap} {x dx C : Addr} {mA : Str → Option Value} (I : ObjM h x dx C mA) : ∃ od, PySem.W.InstAt h x (PySem.W.instObj C dx) C (some od) ∧ ∀ name, PySem.W.lookIn name od = some (mA name) :=
  let ⟨od, ho, hl⟩ := lookIn_ns I.ns
  ⟨od, ⟨I.obj, rfl, rfl, ho⟩, hl⟩
section
variable {prog : Program} {w : World} {A : Around} {E : Value → Shared → Prop} {s : Shared} {K : PySem.W.Frag} {x dx C f : Addr} {mA : Str → Option Value} {name : Str} {v : Value}
theorem get_map {expr : Bool} {Q : Value → Shared → Prop} (X : K.In s.heap) (I : ObjM s.heap x dx C mA) (hg : PySem.W.plainGet K C name = true) (hh : PySem.W.hasDictIn K C = true)
    (ha : PySem.W.findIn K (.ref C) name = some none) (hv : mA name = some v) (hv' : PySem.W.handedIn v = true) (h : Q v { s with toks := s.toks + 1 }) :
    wpAny (model prog w) A (getAttr (.ref x) name expr) Q E s := by
  obtain ⟨od, J, hl⟩ := I.look
  exact PySem.W.get_value X J (PySem.W.plainGet_of hg).1 (PySem.W.findObj_own hh ha rfl (by rw [hl, hv])) hv' h
theorem get_meth {pl : Sem Bool} {Q : Value × List Value → Shared → Prop} (X : K.In s.heap) (I : ObjM s.heap x dx C mA) (hg : PySem.W.plainGet K C name = true)
    (hf : PySem.W.findIn K (.ref C) name = some (some (.ref f))) (ht : PySem.W.isFn K (.ref f) = true) (hv : mA name = none) (h : Q (.ref f, [.ref x]) s) :
    wpAny (model prog w) A (getMethod (.ref x) name pl) Q E s := by
  obtain ⟨od, J, hl⟩ := I.look
  exact PySem.W.method_fn X J (PySem.W.plainGet_of hg).1 (PySem.W.plainGet_of hg).2 hf (beq_iff_eq.mp ht) (by show (PySem.W.lookIn name od).map (·.isSome) = some false; rw [hl, hv]; rfl) h
theorem set_map {ns : List Str} {Q : Unit → Shared → Prop} (X : K.In s.heap) (I : ObjM s.heap x dx C mA)
    (hs : PySem.W.findIn K (.ref C) "__setattr__" = some (some (.builtin "object.__setattr__"))) (hp : PySem.W.plainOver K C = true) (ht : PySem.W.takerIn K C name = some none) (hh : PySem.W.hasDictIn K C = true)
    (hw : PySem.Within mA ns) (hsz : ns.length ≤ sizeLine)
    (h : ∀ h', ObjM h' x dx C (fun y => if y = name then some v else mA y) → Heap.SameBut dx s.heap h' → Q () { s with heap := h', toks := s.toks + 2 }) :
    wpAny (model prog w) A (setAttr (.ref x) name v) Q E s := by
  obtain ⟨od, J, hl⟩ := I.look
  refine PySem.W.set_plain X J hs (PySem.W.osa_open (s := { s with toks := s.toks + 1 }) (r := none) X J hp ht fun b => ?_)
  obtain ⟨cd, hc, hd'⟩ := PySem.W.any_some hh
  have hx : s.heap.get? x = some ⟨.ref C, some dx, .plain, #[]⟩ := I.obj
  refine wpAny_bind (wpAny_pure (wpAny_bind (wpAny_bind (wpAny_loadPart hx (wpAny_bind (PySem.W.Looks.here (s := { s with toks := s.toks + 1 }) (PySem.W.looks_clsIn X hc) ?_))))))
  rw [hd']
  refine wpAny_pure (a := some dx) (wpAny_bind (wpAny_pure (wpAny_bind ?_)))
  refine wpAny_nsSet1 (s := { s with toks := s.toks + 1 }) I.ns fun h' hn2 hs2 => ?_
  obtain ⟨oD, esD, epD, hoD, hdD, hcD⟩ := hn2.count (PySem.Within.cons name v hw)
  refine wpAny_bind (wpAny_lookBehind hoD (by rw [hdD]; exact pastItsLine_dict (Nat.le_trans hcD (by rw [List.length_cons]; lia))) ?_)
  exact wpAny_pure (h _ ⟨(hs2.2 _ (Ne.symm I.ne)).trans I.obj, hn2, I.ne⟩ hs2)
theorem make_map {R : Result → Shared → Prop} {vs : List Value} {kw : List (Str × Value)} (X : K.In s.heap) (hm : PySem.W.makesIn K C = true)
    (hi : PySem.W.findIn K (.ref C) "__init__" = some (some (.ref f))) (hf : PySem.W.typeIn K (.ref f) = some (.type "function"))
    (h : codeAny (model prog w) (A.under (.builtin "type.__call__" ⟨.ref C :: vs, kw⟩)) (.call (.ref f) ⟨.ref (s.heap.objs.size + 1) :: vs, kw⟩) (PySem.W.InitBack (s.heap.objs.size + 1) R)
      { s with heap := (s.heap.push PySem.W.emptyDict).push (PySem.W.instObj C s.heap.objs.size) }) :
    codeAny (model prog w) A (.call (.ref C) ⟨vs, kw⟩) R s := by
  obtain ⟨hh, g, d, t, os⟩ := s
  exact PySem.W.make_core (PySem.W.makes_of X hm) (PySem.W.looks_findIn X hi) (fun self => PySem.W.bind_fn X self hf) (.inl rfl) h
end
noncomputable def putF (f : Str) (v : V) : List (Str × V) → List (Str × V)
  | [] => [(f, v)]
  | (g, x) :: r => if g = f then (g, v) :: r else (g, x) :: putF f v r
theorem lookup_putF (f g : Str) (v : V) : ∀ fs : List (Str × V), (putF f v fs).lookup g = if g = f then some v else fs.lookup g
  | [] => by
    show List.lookup g [(f, v)] = _
    by_cases h : g = f
    · have hb : (g == f) = true := beq_iff_eq.mpr h
      simp only [List.lookup, hb, if_pos h]
    · have hb : (g == f) = false := beq_eq_false_iff_ne.mpr h
      simp only [List.lookup, hb, if_neg h]
  | (k, x) :: r => by
    have ih := lookup_putF f g v r
    rw [show putF f v ((k, x) :: r) = (if k = f then (k, v) :: r else (k, x) :: putF f v r) from rfl]
    by_cases hk : k = f
    · rw [if_pos hk]
      by_cases h : g = k
      · have hb : (g == k) = true := beq_iff_eq.mpr h
        simp only [List.lookup, hb, if_pos (h.trans hk)]
      · have hb : (g == k) = false := beq_eq_false_iff_ne.mpr h
        simp only [List.lookup, hb, if_neg (fun e : g = f => h (e.trans hk.symm))]
    · rw [if_neg hk]
      by_cases h : g = k
      · have hb : (g == k) = true := beq_iff_eq.mpr h
        simp only [List.lookup, hb, if_neg (fun e : g = f => hk (h.symm.trans e))]
      · have hb : (g == k) = false := beq_eq_false_iff_ne.mpr h
        simp only [List.lookup, hb]
        exact ih
theorem keys_putF (f : Str) (v : V) : ∀ fs : List (Str × V), f ∈ (putF f v fs).map (·.1) ∧ ∀ g, g ∈ fs.map (·.1) → g ∈ (putF f v fs).map (·.1)
  | [] => ⟨by simp [putF], fun g h => by simp at h⟩
  | (k, x) :: r => by
    obtain ⟨i1, i2⟩ := keys_putF f v r
    rw [show putF f v ((k, x) :: r) = (if k = f then (k, v) :: r else (k, x) :: putF f v r) from rfl]
    by_cases hk : k = f
    · rw [if_pos hk]
      subst hk
      exact ⟨by simp, fun g h => by simpa using h⟩
    · rw [if_neg hk]
      refine ⟨?_, fun g h => ?_⟩
      · rw [List.map_cons]
        exact List.mem_cons_of_mem _ i1
      · rw [List.map_cons] at h ⊢
        rcases aa.mp h with e | e
        · exact aa.mpr (.inl e)
        · exact List.mem_cons_of_mem _ (i2 g e)
theorem length_putF (f : Str) (v : V) : ∀ fs : List (Str × V), (putF f v fs).length ≤ fs.length + 1
  | [] => by simp [putF]
  | (k, x) :: r => by
    have ih := length_putF f v r
    rw [show putF f v ((k, x) :: r) = (if k = f then (k, v) :: r else (k, x) :: putF f v r) from rfl]
    by_cases hk : k = f
    · rw [if_pos hk, List.length_cons, List.length_cons]; lia
    · rw [if_neg hk, List.length_cons, List.length_cons]; lia
theorem RelO.some_of {v : V} {o : Option Value} (r : RelO (some v) o) : ∃ u, o = some u ∧ RelV v u := by
  cases o with
  | none => exact (show False from r).elim
  | some u => exact ⟨u, rfl, r⟩
theorem RelO.none_of {o : Option Value} (r : RelO none o) : o = none := by
  cases o with
  | none => rfl
  | some u => exact (show False from r).elim
theorem handed_of {v : V} {u : Value} (r : RelV v u) : PySem.W.handedIn u = true := by
  cases v with
  | non => cases (show u = Value.none from r); rfl
  | bl b => cases (show u = Value.bool b from r); rfl
  | int i => obtain ⟨t, e⟩ := (show ∃ t, u = Value.int i t from r); cases e; rfl
  | str x => obtain ⟨t, e⟩ := (show ∃ t, u = Value.str x t from r); cases e; rfl
  | byt b => obtain ⟨t, e⟩ := (show ∃ t, u = Value.bytes b t from r); cases e; rfl
  | flt b => obtain ⟨t, e⟩ := (show ∃ t, u = Value.float b t from r); cases e; rfl
  | ref a => cases (show u = Value.ref a from r); rfl
  | ty n => cases (show u = Value.type n from r); rfl
section
variable {P : Program} {w : World} {H H' : Hp} {h h' : Heap} {a C dx : Addr} {fs fs' : List (Str × V)}
theorem ins_get (hok : HOk P w H h) (e : H a = some (.ins C dx fs)) : ∃ mA, ObjM h a dx C mA ∧ (∀ f, RelO (fs.lookup f) (mA f)) ∧ PySem.Within mA (fs.map (·.1)) ∧ fs.length ≤ 1000 ∧ H dx = some (.own a) := by
  obtain ⟨d, z, ne, ob, mA, n, r, q⟩ := (show ObjOk P w H h a (.ins C dx fs) from hok a _ e)
  exact ⟨mA, ⟨ob, n, ne⟩, r, q, z, d⟩
end
structure Cls (K : PySem.W.Frag) (C : Addr) : Prop where
  pg : PySem.W.plainGet K C Str.empty = true
  hd : PySem.W.hasDictIn K C = true
  po : PySem.W.plainOver K C = true
  sa : PySem.W.findIn K (.ref C) "__setattr__" = some (some (.builtin "object.__setattr__"))
theorem Cls.get {K : PySem.W.Frag} {C : Addr} (c : Cls K C) (f : Str) : PySem.W.plainGet K C f = true := c.pg
def NoAttr (K : PySem.W.Frag) (C : Addr) (f : Str) : Prop := PySem.W.findIn K (.ref C) f = some none
theorem NoAttr.taker {K : PySem.W.Frag} {C : Addr} {f : Str} (n : NoAttr K C f) : PySem.W.takerIn K C f = some none := by
  unfold PySem.W.takerIn
  rw [show PySem.W.findIn K (.ref C) f = some none from n]
  rfl
structure Meth (K : PySem.W.Frag) (C : Addr) (m : Str) (f : Addr) : Prop where
  at_ : PySem.W.findIn K (.ref C) m = some (some (.ref f))
  fn : PySem.W.isFn K (.ref f) = true
  kp : PySem.W.keepIn K (.ref f) = true
section
variable {X : Cx} {pins : List (Addr × Obj)} {σ : St} {H : Hp} {s : Shared} {a C dx : Addr} {fs : List (Str × V)} {f : Str} {v : V} {A : Around} {E : Value → Shared → Prop}
theorem getattr_ok {b : Bool} {Q : Value → Shared → Prop} (I : Inv X pins σ H s) (e : H a = some (.ins C dx fs)) (c : Cls X.K C) (n : NoAttr X.K C f) (l : fs.lookup f = some v)
    (h : ∀ u s', Inv X pins σ H s' → RelV v u → Q u s') : wpAny (model X.prog X.w) A (getAttr (.ref a) f b) Q E s := by
  obtain ⟨mA, O, r, _, _, _⟩ := ins_get I.hok e
  obtain ⟨u, hu, ru⟩ := RelO.some_of (v := v) (o := mA f) (by rw [← l]; exact r f)
  exact get_map I.kIn O (c.get f) c.hd n hu (handed_of ru) (h u _ (I.tok _) ru)
theorem getmeth_ok {m : Str} {g : Addr} {pl : Sem Bool} {Q : Value × List Value → Shared → Prop} (I : Inv X pins σ H s) (e : H a = some (.ins C dx fs)) (c : Cls X.K C) (k : Meth X.K C m g) (l : fs.lookup m = none)
    (h : Q (.ref g, [.ref a]) s) : wpAny (model X.prog X.w) A (getMethod (.ref a) m pl) Q E s := by
  obtain ⟨mA, O, r, _, _, _⟩ := ins_get I.hok e
  have hn : mA m = none := RelO.none_of (by rw [← l]; exact r m)
  exact get_meth I.kIn O (c.get m) k.at_ k.fn hn h
theorem setattr_ok {y : V} {u : Value} {Q : Unit → Shared → Prop} (I : Inv X pins σ H s) (e : H a = some (.ins C dx fs)) (c : Cls X.K C) (n : NoAttr X.K C f) (hl : fs.length < 1000) (ry : RelV y u)
    (h : ∀ s', Inv X pins σ (upd H a (.ins C dx (putF f y fs))) s' → Q () s') : wpAny (model X.prog X.w) A (setAttr (.ref a) f u) Q E s := by
  obtain ⟨mA, O, r, wi, _, ho⟩ := ins_get I.hok e
  have hz : (fs.map (·.1)).length ≤ sizeLine := by rw [List.length_map, sizeLine_eq]; lia
  refine set_map I.kIn O c.sa c.po n.taker c.hd wi hz fun h' O' sb => h _ ?_
  have hd : ∃ o, h'.get? dx = some o := let ⟨o, _, _, e', _⟩ := O'.ns; ⟨o, e'⟩
  refine I.write (x := a) (e := dx) (by rw [e]; exact True.intro) (.inr ho) (fun b q hb z => (sb.2 b hb).trans z) hd ?_
  refine ⟨by rw [upd_ne O.ne]; exact ho, ?_, O.ne, O'.obj, _, O'.ns, fun g => ?_, fun g hg => ?_⟩
  · have := length_putF f y fs; lia
  · show RelO ((putF f y fs).lookup g) (if g = f then some u else mA g)
    rw [lookup_putF]
    by_cases q : g = f
    · rw [if_pos q, if_pos q]; exact ry
    · rw [if_neg q, if_neg q]; exact r g
  · by_cases q : g = f
    · rw [q]; exact (keys_putF f y fs).1
    · refine (keys_putF f y fs).2 g (wi g fun z => hg ?_)
      show (if g = f then some u else mA g) = none
      rw [if_neg q]; exact z
theorem Inv.made (I : Inv X pins σ H s) : Inv X pins σ (upd (upd H s.heap.objs.size (.own (s.heap.objs.size + 1))) (s.heap.objs.size + 1) (.ins C s.heap.objs.size []))
    { s with heap := (s.heap.push PySem.W.emptyDict).push (PySem.W.instObj C s.heap.objs.size) } := by
  have e1 : (s.heap.push PySem.W.emptyDict).get? s.heap.objs.size = some PySem.W.emptyDict := Heap.get?_push_size s.heap rfl
  have e2 : ((s.heap.push PySem.W.emptyDict).push (PySem.W.instObj C s.heap.objs.size)).get? (s.heap.objs.size + 1) = some (PySem.W.instObj C s.heap.objs.size) := by
    have := Heap.get?_push_size (s.heap.push PySem.W.emptyDict) (o := PySem.W.instObj C s.heap.objs.size) rfl
    rwa [Heap.size_push] at this
  have e3 : (s.heap.push PySem.W.emptyDict).Ns s.heap.objs.size (fun _ => none) := ⟨PySem.W.emptyDict, #[], _, e1, rfl, (fun e he => absurd he (by simp)), fun _ => rfl⟩
  have I1 := I.laid (a := s.heap.objs.size) (o := .own (s.heap.objs.size + 1)) (h' := s.heap.push PySem.W.emptyDict) (t' := s.toks) (fun b u q => Heap.get?_push_of_some _ q) (Nat.le_refl _) ⟨_, e1⟩
  refine I1.laid (a := s.heap.objs.size + 1) (o := .ins C s.heap.objs.size []) (t' := s.toks) (fun b u q => Heap.get?_push_of_some _ q) (Nat.le_of_eq (Heap.size_push _ _)) ?_
  have ne : s.heap.objs.size ≠ s.heap.objs.size + 1 := Nat.ne_of_lt (Nat.lt_succ_self _)
  refine ⟨by rw [upd_ne ne, upd_same], Nat.zero_le _, ne, e2, fun _ => none, (Heap.Ns1.of_empty e3).at fun o q => Heap.get?_push_of_some _ q, fun _ => True.intro, fun y hy => absurd rfl hy⟩
theorem attr_of {prog : Program} {w : World} {env : Env} {e : Expr} {f : Str} {pos : Pos} {s : Shared} {Q : Value → Shared → Prop} (hb : attributeBase e f env (eval e env) = eval e env)
    (h : wpAny (model prog w) A (eval e env) (fun o s₁ => wpAny (model prog w) A (getAttr o f true) Q E s₁) E s) : wpAny (model prog w) A (eval (.Attribute e f pos) env) Q E s :=
  Attribute_any_ h (by rw [arm_eval_Attribute, hb])
end
def tFld (K : PySem.W.Frag) (ta : TE) (f : Str) : TE := fun σ H Q => ta σ H fun x H1 => ∃ a C dx fs v, x = .ref a ∧ H1 a = some (.ins C dx fs) ∧ Cls K C ∧ NoAttr K C f ∧ fs.lookup f = some v ∧ Q v H1
def sFld (K : PySem.W.Frag) (ta tv : TE) (f : Str) : TS := fun D σ H => tv σ H fun y H1 => ta σ H1 fun x H2 => ∃ a C dx fs, x = .ref a ∧ H2 a = some (.ins C dx fs) ∧ Cls K C ∧ NoAttr K C f ∧ fs.length < 1000 ∧
  D.nx σ (upd H2 a (.ins C dx (putF f y fs)))
section
variable {X : Cx} {o e value : Expr} {f : Str} {pos pos' tpos : Pos} {ta tv : TE}
theorem pe_fld (he : PE X e ta) (hb : attributeBase e f X.env (eval e X.env) = eval e X.env) : PE X (.Attribute e f pos) (tFld X.K ta f) := by
  intro pins s σ H Q I h
  refine attr_of hb (thn (he pins s σ H _ I h) fun u s1 ⟨x, H1, I1, rx, a, C, dx, fs, v, ex, ea, c, n, l, q⟩ => ?_)
  subst ex
  obtain rfl : u = Value.ref a := rx
  exact getattr_ok I1 ea c n l fun u' s2 I2 ru => ⟨v, H1, I2, ru, q⟩
theorem ps_fld (ha : PE X o ta) (hv : PE X value tv) (hs : swapsWith value (some (.Attribute o f pos')) pos.line X.env = pure false) : PS X (.Assign [.Attribute o f pos'] value pos) (sFld X.K ta tv f) := by
  intro pins s σ H D I h
  refine plainObj_wpAny_Assign_Attribute (thn (hv pins s σ H _ I h) fun u s1 ⟨y, H1, I1, ry, q⟩ => thn (ha pins s1 σ H1 _ I1 q) fun ov s2 ⟨x, H2, I2, rx, a, C, dx, fs, ex, ea, c, n, l, q2⟩ => ?_) hs
  subst ex
  obtain rfl : ov = Value.ref a := rx
  exact setattr_ok I2 ea c n l ry fun s3 I3 => ⟨σ, _, I3, q2⟩
theorem methcall_of {pl : Sem Bool} {m : Str} {apos : Pos} {args : List Expr} {pins : List (Addr × Obj)} {s : Shared} {σ : St} {H : Hp} {Q : Value → Shared → Prop} {te : TE} (he : PE X e te) (I : Inv X pins σ H s)
    (h : te σ H fun x H1 => ∃ a C dx fs g, x = .ref a ∧ H1 a = some (.ins C dx fs) ∧ Cls X.K C ∧ Meth X.K C m g ∧ fs.lookup m = none ∧
      ∀ s1, Inv X pins σ H1 s1 → wpAny (model X.prog X.w) X.A (callWith pos (.ref g) [.ref a] (backTo pos (starEach args X.env)) (backToKw pos (keywordEach [] X.env))) Q X.xe s1)
    (ht : eval (.Call (.Attribute e m apos) args [] pos) X.env = (do
      let ov ← eval e X.env
      standAt apos.atName
      let (f, first) ← holding [ov] (getMethod ov m pl)
      callWith pos f first (backTo pos (starEach args X.env)) (backToKw pos (keywordEach [] X.env)))) :
    wpAny (model X.prog X.w) X.A (eval (.Call (.Attribute e m apos) args [] pos) X.env) Q X.xe s := by
  refine PySem.W.methodCall_KW (pl := pl) (thn (he pins s σ H _ I h) fun u s1 ⟨x, H1, I1, rx, a, C, dx, fs, g, ex, ea, c, k, l, q⟩ => ?_) ht
  subst ex
  obtain rfl : u = Value.ref a := rx
  exact getmeth_ok I1 ea c k l (q s1 I1)
end
section
variable {X : Cx} {pins : List (Addr × Obj)} {σ : St} {H : Hp} {s : Shared} {A : Around} {E : Value → Shared → Prop} {Q : Value → Shared → Prop} {c : Value} {b : Bool}
inductive TyOf (K : PySem.W.Frag) (H : Hp) : V → Value → Prop where
  | non : TyOf K H .non (.type "NoneType")
  | bl (x : Bool) : TyOf K H (.bl x) (.type "bool")
  | int (i : Int) : TyOf K H (.int i) (.type "int")
  | str (x : Str) : TyOf K H (.str x) (.type "str")
  | flt (x : UInt64) : TyOf K H (.flt x) (.type "float")
  | lst {a : Addr} {xs : List V} (e : H a = some (.lst xs)) : TyOf K H (.ref a) (.type "list")
  | frz {a : Addr} {o : Obj} {xs : List V} (e : H a = some (.frz o (.lst xs))) : TyOf K H (.ref a) (.type "list")
  | tup {a : Addr} {xs : List V} (e : H a = some (.tup xs)) : TyOf K H (.ref a) (.type "tuple")
  | dK {a : Addr} {kvs : List (Key × V)} (e : H a = some (.dK kvs)) : TyOf K H (.ref a) (.type "dict")
  | dT {a : Addr} {kvs : List (List Key × V)} (e : H a = some (.dT kvs)) : TyOf K H (.ref a) (.type "dict")
  | ins {a C dx : Addr} {fs : List (Str × V)} (e : H a = some (.ins C dx fs)) (cl : Cls K C) (ha : PySem.W.findIn K (.ref C) "__class__" = some (some (.builtin "object.__class__")))
      (hn : PySem.W.specialIn K (.builtin "object.__class__") "__get__" = some (some (.builtin "getset_descriptor.__get__"))) (htk : PySem.W.takesIn K (.builtin "object.__class__") = some true)
      (hm : PySem.W.mroIn K C (.type "object") = some true) : TyOf K H (.ref a) (.ref C)
theorem isinst_ok {x : V} {u t : Value} (I : Inv X pins σ H s) (rx : RelV x u) (ty : TyOf X.K H x t) (e : PySem.W.kitOne X.K t c = some b) (h : ∀ tk, Q (.bool b) { s with toks := tk }) :
    wpAny (model X.prog X.w) A (call (.builtin "isinstance") [u, c]) Q E s := by
  cases ty with
  | non => cases (show u = Value.none from rx); exact PySem.W.kia_one PySem.W.kitx_none I.kIn True.intro e (fun z => nomatch z) h
  | bl y => cases (show u = Value.bool y from rx); exact PySem.W.kia_one PySem.W.kitx_bool I.kIn True.intro e (fun z => nomatch z) h
  | int i => obtain ⟨t, q⟩ := (show ∃ t, u = Value.int i t from rx); cases q; exact PySem.W.kia_one PySem.W.kitx_int I.kIn True.intro e (fun z => nomatch z) h
  | str y => obtain ⟨t, q⟩ := (show ∃ t, u = Value.str y t from rx); cases q; exact PySem.W.kia_one PySem.W.kitx_str I.kIn True.intro e (fun z => nomatch z) h
  | flt y => obtain ⟨t, q⟩ := (show ∃ t, u = Value.float y t from rx); cases q; exact PySem.W.kia_one PySem.W.kitx_float I.kIn True.intro e (fun z => nomatch z) h
  | @lst a xs ea =>
    cases (show u = Value.ref a from rx)
    obtain ⟨_, _, n, _, h1⟩ := (show ObjOk X.prog X.w H s.heap a (.lst xs) from I.hok a _ ea)
    exact PySem.W.kia_one PySem.W.kitx_list I.kIn ⟨_, h1, rfl⟩ e (fun z => nomatch z) h
  | @frz a ob xs ea =>
    cases (show u = Value.ref a from rx)
    obtain ⟨_, _, _, n, _, h1⟩ := (show ObjOk X.prog X.w H s.heap a (.frz ob (.lst xs)) from I.hok a _ ea)
    exact PySem.W.kia_one PySem.W.kitx_list I.kIn ⟨_, h1, rfl⟩ e (fun z => nomatch z) h
  | @tup a xs ea =>
    cases (show u = Value.ref a from rx)
    obtain ⟨_, _, _, p⟩ := (show ObjOk X.prog X.w H s.heap a (.tup xs) from I.hok a _ ea)
    obtain ⟨o, h1, h2, _⟩ := p
    exact PySem.W.kia_one PySem.W.kitx_tuple I.kIn ⟨o, h1, h2⟩ e (fun z => nomatch z) h
  | @dK a kvs ea =>
    cases (show u = Value.ref a from rx)
    obtain ⟨_, _, vs, _, p⟩ := (show ObjOk X.prog X.w H s.heap a (.dK kvs) from I.hok a _ ea)
    obtain ⟨o, es, ep, h1, h2, _⟩ := p
    exact PySem.W.kia_one PySem.W.kitx_dict I.kIn ⟨o, h1, h2.1⟩ e (fun z => nomatch z) h
  | @dT a kvs ea =>
    cases (show u = Value.ref a from rx)
    obtain ⟨_, _, xs, _, o, es, ep, h1, h2, _⟩ := (show ObjOk X.prog X.w H s.heap a (.dT kvs) from I.hok a _ ea)
    exact PySem.W.kia_one PySem.W.kitx_dict I.kIn ⟨o, h1, h2.1⟩ e (fun z => nomatch z) h
  | @ins a C dx fs ea cl ha hn htk hm =>
    cases (show u = Value.ref a from rx)
    obtain ⟨mA, O, _⟩ := ins_get I.hok ea
    obtain ⟨od, J, _⟩ := O.look
    exact PySem.W.kia_one (PySem.W.kitx_own (cl.get _) cl.hd ha hn htk hm) I.kIn J e (fun z => nomatch z) h
end
end L2
namespace L2
open PySem PySem.Spec PyProof.Rows
structure Room (k : Nat) (A : Around) : Prop where
  hd : A.handled = none
  dp : A.depth + 3 * k + 5 < recursionLimit
  un : A.units + 16 * k + 200 < cLine
theorem Room.mono {j k : Nat} {A : Around} (r : Room k A) (h : j ≤ k) : Room j A := ⟨r.hd, by have := r.dp; lia, by have := r.un; lia⟩
theorem Room.deeper {k : Nat} {A : Around} (r : Room (k + 1) A) (env : Env) : Room k (A.deeper env) :=
  ⟨r.hd, by have := r.dp; show A.depth + 1 + 3 * k + 5 < _; lia, by have := r.un; show A.units + 3 + 16 * k + 200 < _; lia⟩
theorem Room.in1 {k : Nat} {A : Around} (r : Room (k + 1) A) : Room k A.in1 :=
  ⟨r.hd, by have := r.dp; show A.depth + 3 * k + 5 < _; lia, by have := r.un; show A.units + 1 + 16 * k + 200 < _; lia⟩
theorem make_depth {A : Around} {C : Addr} {us : List Value} {kw : List (Str × Value)} : (A.under (.builtin "type.__call__" ⟨.ref C :: us, kw⟩)).depth = A.depth + 1 := by
  first | rfl | simp [Around.under, Code.weight, Code.isCreation, Code.isGuard, Code.isCaller, Code.frames, Code.isFrame, guardIds]
theorem make_units {A : Around} {C : Addr} {us : List Value} {kw : List (Str × Value)} : (A.under (.builtin "type.__call__" ⟨.ref C :: us, kw⟩)).units = A.units + 1 := by
  first | rfl | simp [Around.under, Code.cUnits, Code.frames, Code.isFrame]
theorem Room.make {k : Nat} {A : Around} (r : Room (k + 1) A) (C : Addr) (us : List Value) (kw : List (Str × Value)) : Room k (A.under (.builtin "type.__call__" ⟨.ref C :: us, kw⟩)) :=
  ⟨r.hd, by have := r.dp; rw [make_depth]; lia, by have := r.un; rw [make_units]; lia⟩
theorem Room.depth {k : Nat} {A : Around} (r : Room k A) : A.depth < recursionLimit := by have := r.dp; lia
theorem Room.units {k : Nat} {A : Around} (r : Room k A) : A.units + 64 < cLine := by have := r.un; lia
def tNil : TA := fun _ H Q => Q [] H
def tCons (ta : TE) (tr : TA) : TA := fun σ H Q => ta σ H fun x H1 => tr σ H1 fun xs H2 => Q (x :: xs) H2
section
variable {X : Cx} {e : Expr} {es : List Expr} {te : TE} {t : TA} {pos : Pos}
theorem pa_nil : PA X [] tNil := fun _ _ _ _ H Q I h => Calls.spliced_nil ⟨[], H, I, .nil, h⟩
theorem pa_cons (ha : PE X e te) (hr : PA X es t) (hs : starEach (e :: es) X.env = (false, eval e X.env) :: starEach es X.env := by rfl) : PA X (e :: es) (tCons te t) := by
  intro pos pins s σ H Q I h
  rw [hs]
  show wpAny _ _ (spliced ((false, eval e X.env) :: backTo pos (starEach es X.env))) _ _ s
  refine Calls.spliced_cons (thn (ha pins s σ H _ I h) fun u s1 ⟨x, H1, I1, r1, q1⟩ => ?_)
  exact thn (hr pos pins s1 σ H1 _ I1 q1) fun us s2 ⟨xs, H2, I2, r2, q2⟩ => ⟨x :: xs, H2, I2, .cons r1 r2, q2⟩
def tTup (t : TA) : TE := fun σ H Q => t σ H fun xs H1 => xs.length ≤ sizeLine ∧ ∀ p, H1 p = none → Q (.ref p) (upd H1 p (.tup xs))
def tLst (t : TA) : TE := fun σ H Q => t σ H fun xs H1 => xs.length ≤ sizeLine ∧ ∀ p, H1 p = none → Q (.ref p) (upd H1 p (.lst xs))
theorem pe_tup {x1} (h : PA X es t) : PE X (.Tuple es x1 pos) (tTup t) := by
  intro pins s σ H Q I hq
  refine wpAny_Tuple_spliced (thn (h pos pins s σ H _ I hq) fun us s1 ⟨xs, H1, I1, r, z, q⟩ => ⟨by rw [← r.length]; exact z, ?_⟩)
  have hf : H1 s1.heap.objs.size = none := I1.hok.fresh (Nat.le_refl _)
  refine ⟨.ref s1.heap.objs.size, upd H1 s1.heap.objs.size (.tup xs), I1.laid (t' := s1.toks) (fun b u e => Heap.get?_push_of_some _ e) (Nat.le_refl _) ?_, rfl, q _ hf⟩
  exact ⟨z, us, r, ⟨_, Heap.get?_push_size _ rfl, rfl, _, rfl⟩⟩
theorem pe_lst (h : PA X es t) : PE X (.List es pos) (tLst t) := by
  intro pins s σ H Q I hq
  refine wpAny_List_spliced (thn (h pos pins s σ H _ I hq) fun us s1 ⟨xs, H1, I1, r, z, q⟩ => ⟨by rw [← r.length]; exact z, ?_⟩)
  have hf : H1 s1.heap.objs.size = none := I1.hok.fresh (Nat.le_refl _)
  refine ⟨.ref s1.heap.objs.size, upd H1 s1.heap.objs.size (.lst xs), I1.laid (t' := s1.toks) (fun b u e => Heap.get?_push_of_some _ e) (Nat.le_refl _) ?_, rfl, q _ hf⟩
  exact ⟨z, us, 0, r, Heap.get?_push_size _ rfl⟩
end
noncomputable abbrev Sp := List V → Hp → VK → XK → Prop
noncomputable abbrev CXT := List Env → Hp → Shared → XK → Value → Shared → Prop
structure Env0 (P : Program) (w : World) (K : PySem.W.Frag) (mg : Str → Option Value) (base : Heap) (A : Around) (outer : List Env) (s : Shared) (H : Hp) : Prop where
  frames : A.frames = some outer
  mod : Mod K mg base
  bs : ∀ b o, base.get? b = some o → s.heap.get? b = some o ∧ H b = none
  bsz : base.objs.size ≤ s.heap.objs.size
  funs : s.heap.FunFrames base outer
  frf : ∀ b ∈ frs outer, H b = none
  hok : HOk P w H s.heap
  bare : AllBare s.gens
def CE (outer : List Env) (P : Program) (w : World) (H : Hp) (s : Shared) (Q : VK) (u : Value) (s' : Shared) : Prop :=
  ∃ v H', s'.os = s.os ∧ AllBare s'.gens ∧ Un (frs outer) [] H H' s.heap s'.heap ∧ HOk P w H' s'.heap ∧ RelV v u ∧ Q v H'
def CR (CX : CXT) (outer : List Env) (P : Program) (w : World) (H : Hp) (s : Shared) (Q : VK) (E : XK) (r : Result) (s' : Shared) : Prop :=
  match r with
  | .ok (.ret u) => CE outer P w H s Q u s'
  | .ok _ => False
  | .error e => CX outer H s E e s'
structure FnOk (P : Program) (w : World) (K : PySem.W.Frag) (mg : Str → Option Value) (base : Heap) (CX : CXT) (k : Nat) (f : Addr) (fd : FuncData) (ps : List Str) (sp : Sp) : Prop where
  len : ∀ vs H Q E, sp vs H Q E → vs.length = ps.length
  run : ∀ (A : Around) (outer : List Env) (s : Shared) (H : Hp) (args : Args) (us : List Value) (vs : List V) (Q : VK) (E : XK), Room k A → Env0 P w K mg base A outer s H → BindsTo s fd args (ps.zip us) → Vals vs us → sp vs H Q E →
    codeAny (model P w) A (.call (.ref f) args) (CR CX outer P w H s Q E) s
theorem Env0.make {P : Program} {w : World} {K : PySem.W.Frag} {mg : Str → Option Value} {base : Heap} {A : Around} {outer : List Env} {s : Shared} {H : Hp} (e : Env0 P w K mg base A outer s H) (C : Addr) (us : List Value) (kw : List (Str × Value)) :
    Env0 P w K mg base (A.under (.builtin "type.__call__" ⟨.ref C :: us, kw⟩)) outer s H := ⟨by first | exact e.frames | (simpa [Around.under, Code.envs, Code.isFrame, pushEnvs] using e.frames), e.mod, e.bs, e.bsz, e.funs, e.frf, e.hok, e.bare⟩
theorem Env0.in1 {P : Program} {w : World} {K : PySem.W.Frag} {mg : Str → Option Value} {base : Heap} {A : Around} {outer : List Env} {s : Shared} {H : Hp} (e : Env0 P w K mg base A outer s H) :
    Env0 P w K mg base A.in1 outer s H := ⟨e.frames, e.mod, e.bs, e.bsz, e.funs, e.frf, e.hok, e.bare⟩
section
variable {X : Cx} {pins : List (Addr × Obj)} {σ : St} {H : Hp} {s s' : Shared}
theorem Inv.env0 (I : Inv X pins σ H s) : Env0 X.prog X.w X.K X.mg X.base X.A X.stack s H :=
  ⟨I.ok.frames, I.ok.mod, I.bs, Nat.le_trans I.ok.bsz I.sz, I.stack, I.stkFree, I.hok, I.bare⟩
theorem Inv.after {Q : VK} {u : Value} (I : Inv X pins σ H s) (h : CE X.stack X.prog X.w H s Q u s') : EP X pins σ Q u s' := by
  obtain ⟨v, H', os, bare, un, hok, r, q⟩ := h
  obtain ⟨hh, g, d, t, os'⟩ := s'
  obtain rfl : os' = s.os := os
  exact ⟨v, H', I.call (h' := hh) (g' := g) (d' := d) (t' := t) (ch := []) un hok bare (fun b z => absurd z (by simp)), r, q⟩
end
def tCall (sp : Sp) (dvs : List V) (E : XK) (t : TA) : TE := fun σ H Q => t σ H fun vs H1 => sp (vs ++ dvs) H1 Q E
def tMeth (C : Addr) (m : Str) (sp : Sp) (dvs : List V) (E : XK) (ta : TE) (t : TA) : TE := fun σ H Q => ta σ H fun x H1 => ∃ a dx fs, x = .ref a ∧ H1 a = some (.ins C dx fs) ∧ fs.lookup m = none ∧
  t σ H1 fun vs H2 => sp (x :: (vs ++ dvs)) H2 Q E
def tMake (C : Addr) (sp : Sp) (dvs : List V) (E : XK) (t : TA) : TE := fun σ H Q => t σ H fun vs H1 => ∀ x dx, H1 x = none → H1 dx = none → dx ≠ x →
  sp (.ref x :: (vs ++ dvs)) (upd (upd H1 dx (.own x)) x (.ins C dx [])) (fun v H2 => v = .non ∧ Q (.ref x) H2) E
def Binds (K : PySem.W.Frag) (fd : FuncData) (ps : List Str) (ds : List Value) : Prop :=
  ∀ (s : Shared) (us : List Value), K.In s.heap → (us ++ ds).length = ps.length → BindsTo s fd ⟨us, []⟩ (ps.zip (us ++ ds))
theorem Binds.all {K : PySem.W.Frag} {fd : FuncData} {ps : List Str} (h : ∀ us : List Value, us.length = ps.length → bindArgs fd ⟨us, []⟩ = pure (ps.zip us)) : Binds K fd ps [] := fun s us _ hl => by
  rw [List.append_nil] at hl ⊢
  exact .of_eq (h us hl)
def Passes (CX : CXT) (X : Cx) (E : XK) : Prop := ∀ (pins : List (Addr × Obj)) (σ : St) (H : Hp) (s : Shared) (e : Value) (s' : Shared), Inv X pins σ H s → CX X.stack H s E e s' → X.xe e s'
section
variable {X : Cx} {CX : CXT} {k : Nat} {f C : Addr} {fd : FuncData} {ps : List Str} {sp : Sp} {dvs : List V} {ds : List Value} {E : XK} {x m : Str} {p pos apos : Pos} {e o : Expr} {es : List Expr} {ta : TE} {t : TA}
theorem run_fn {pins : List (Addr × Obj)} {σ : St} {H : Hp} {s : Shared} {Q : VK} {us : List Value} {vs : List V} (F : FnOk X.prog X.w X.K X.mg X.base CX k f fd ps sp) (hr : Room k X.A) (hb : Binds X.K fd ps ds) (hd : Vals dvs ds) (hx : Passes CX X E)
    (I : Inv X pins σ H s) (r : Vals vs us) (h : sp (vs ++ dvs) H Q E) : wpAny (model X.prog X.w) X.A (call (.ref f) us) (EP X pins σ Q) X.xe s := by
  have r2 : Vals (vs ++ dvs) (us ++ ds) := r.append hd
  have hl : (us ++ ds).length = ps.length := by rw [← r2.length]; exact F.len _ _ _ _ h
  refine wpAny_call (codeAny_mono (F.run X.A X.stack s H ⟨us, []⟩ (us ++ ds) (vs ++ dvs) Q E hr I.env0 (hb s us I.kIn hl) r2 h) fun r s' hq => ?_)
  cases r with
  | error e => exact hx pins σ H s e s' I hq
  | ok fl =>
    cases fl with
    | ret u => exact I.after hq
    | next => exact False.elim hq
    | brk => exact False.elim hq
    | cont => exact False.elim hq
theorem pe_call (F : FnOk X.prog X.w X.K X.mg X.base CX k f fd ps sp) (hr : Room k X.A) (hg : Gl X x) (hm : X.mg x = some (.ref f)) (hk : PySem.W.keepIn X.K (.ref f) = true) (hb : Binds X.K fd ps ds) (hd : Vals dvs ds) (hx : Passes CX X E)
    (ha : PA X (e :: es) t) (hdb : (x == ("__debug__" : Str)) = false := by decide) (he : starEach (e :: es) X.env = (false, eval e X.env) :: starEach es X.env := by rfl) (hpl : (backTo pos (starEach es X.env)).any (·.1) = false := by rfl) :
    PE X (.Call (.Name x p) (e :: es) [] pos) (tCall sp dvs E t) := by
  intro pins s σ H Q I h
  refine wpAny_Call_Name_kw (ld_glob I hg hm ?_ hdb)
  refine PySem.W.callWith_K (h₀ := X.base) I.ok.mod.kin hk (thn (ha pos pins s σ H _ I h) fun us s1 ⟨vs, H1, I1, r, q⟩ => ⟨I1.kIn, ?_⟩) he hpl
  exact run_fn F hr hb hd hx I1 r q
theorem pe_meth {pl : Sem Bool} (he : PE X o ta) (c : Cls X.K C) (hm : Meth X.K C m f) (F : FnOk X.prog X.w X.K X.mg X.base CX k f fd ps sp) (hr : Room k X.A) (hb : Binds X.K fd ps ds) (hd : Vals dvs ds) (hx : Passes CX X E) (ha : PA X (e :: es) t)
    (hst : starEach (e :: es) X.env = (false, eval e X.env) :: starEach es X.env := by rfl) (hpl : (backTo pos (starEach es X.env)).any (·.1) = false := by rfl)
    (ht : eval (.Call (.Attribute o m apos) (e :: es) [] pos) X.env = (do
      let ov ← eval o X.env
      standAt apos.atName
      let (f, first) ← holding [ov] (getMethod ov m pl)
      callWith pos f first (backTo pos (starEach (e :: es) X.env)) (backToKw pos (keywordEach [] X.env))) := by rfl) :
    PE X (.Call (.Attribute o m apos) (e :: es) [] pos) (tMeth C m sp dvs E ta t) := by
  intro pins s σ H Q I h
  refine PySem.W.methodCall_KW (pl := pl) (thn (he pins s σ H _ I h) fun u s1 ⟨x, H1, I1, rx, a, dx, fs, ex, ea, l, q⟩ => ?_) ht
  subst ex
  obtain rfl : u = Value.ref a := rx
  refine getmeth_ok I1 ea c hm l ?_
  refine PySem.W.callWith_K (first := [.ref a]) (h₀ := X.base) I.ok.mod.kin hm.kp (thn (ha pos pins s1 σ H1 _ I1 q) fun us s2 ⟨vs, H2, I2, r, q2⟩ => ⟨I2.kIn, ?_⟩) hst hpl
  exact run_fn (us := .ref a :: us) (vs := .ref a :: vs) F hr hb hd hx I2 (.cons rfl r) q2
theorem pe_meth0 {pl : Sem Bool} (he : PE X o ta) (c : Cls X.K C) (hm : Meth X.K C m f) (F : FnOk X.prog X.w X.K X.mg X.base CX k f fd ps sp) (hr : Room k X.A) (hb : Binds X.K fd ps ds) (hd : Vals dvs ds) (hx : Passes CX X E)
    (ht : eval (.Call (.Attribute o m apos) [] [] pos) X.env = (do
      let ov ← eval o X.env
      standAt apos.atName
      let (f, first) ← holding [ov] (getMethod ov m pl)
      callWith pos f first (backTo pos (starEach [] X.env)) (backToKw pos (keywordEach [] X.env))) := by rfl) :
    PE X (.Call (.Attribute o m apos) [] [] pos) (tMeth C m sp dvs E ta tNil) := by
  intro pins s σ H Q I h
  refine PySem.W.methodCall_KW (pl := pl) (thn (he pins s σ H _ I h) fun u s1 ⟨x, H1, I1, rx, a, dx, fs, ex, ea, l, q⟩ => ?_) ht
  subst ex
  obtain rfl : u = Value.ref a := rx
  refine getmeth_ok I1 ea c hm l ?_
  exact PySem.W.callWith_K0 (first := [.ref a]) I1.kIn hm.kp (run_fn (us := [.ref a]) (vs := [.ref a]) F hr hb hd hx I1 (.cons rfl .nil) q)
structure Mk (K : PySem.W.Frag) (C f : Addr) : Prop where
  makes : PySem.W.makesIn K C = true
  init : PySem.W.findIn K (.ref C) "__init__" = some (some (.ref f))
  fn : PySem.W.isFn K (.ref f) = true
  kp : PySem.W.keepIn K (.ref C) = true
theorem run_make {pins : List (Addr × Obj)} {σ : St} {H : Hp} {s : Shared} {Q : VK} {us : List Value} {vs : List V} (M : Mk X.K C f) (F : FnOk X.prog X.w X.K X.mg X.base CX k f fd ps sp) (hr : Room (k + 1) X.A) (hb : Binds X.K fd ps ds) (hd : Vals dvs ds)
    (hx : Passes CX X E) (I : Inv X pins σ H s) (r : Vals vs us)
    (h : ∀ x dx, H x = none → H dx = none → dx ≠ x → sp (.ref x :: (vs ++ dvs)) (upd (upd H dx (.own x)) x (.ins C dx [])) (fun v H2 => v = .non ∧ Q (.ref x) H2) E) :
    wpAny (model X.prog X.w) X.A (call (.ref C) us) (EP X pins σ Q) X.xe s := by
  have hq := h (s.heap.objs.size + 1) s.heap.objs.size (I.hok.fresh (Nat.le_succ _)) (I.hok.fresh (Nat.le_refl _)) (Nat.ne_of_lt (Nat.lt_succ_self _))
  have I2 := Inv.made (C := C) I
  have r2 : Vals (V.ref (s.heap.objs.size + 1) :: (vs ++ dvs)) (Value.ref (s.heap.objs.size + 1) :: (us ++ ds)) := .cons rfl (r.append hd)
  have hl : (Value.ref (s.heap.objs.size + 1) :: us ++ ds).length = ps.length := by
    have e := r2.length
    rw [F.len _ _ _ _ hq] at e
    exact e.symm
  refine wpAny_call (make_map (f := f) I.kIn M.makes M.init (beq_iff_eq.mp M.fn) (codeAny_mono (F.run _ X.stack _ _ ⟨Value.ref (s.heap.objs.size + 1) :: us, []⟩ (Value.ref (s.heap.objs.size + 1) :: (us ++ ds)) _ _ E (hr.make C us [])
    (I2.env0.make C us []) (hb _ (Value.ref (s.heap.objs.size + 1) :: us) I2.kIn hl) r2 hq) fun r s' hq' => ?_))
  cases r with
  | error e => exact hx pins σ _ _ e s' I2 hq'
  | ok fl =>
    cases fl with
    | ret u =>
      obtain ⟨v, H', I3, rv, ev, q3⟩ := I2.after hq'
      subst ev
      exact ⟨rv, ⟨V.ref (s.heap.objs.size + 1), H', I3, rfl, q3⟩⟩
    | next => exact False.elim hq'
    | brk => exact False.elim hq'
    | cont => exact False.elim hq'
theorem pe_make (M : Mk X.K C f) (F : FnOk X.prog X.w X.K X.mg X.base CX k f fd ps sp) (hr : Room (k + 1) X.A) (hg : Gl X x) (hm : X.mg x = some (.ref C)) (hb : Binds X.K fd ps ds) (hd : Vals dvs ds) (hx : Passes CX X E)
    (ha : PA X (e :: es) t) (hdb : (x == ("__debug__" : Str)) = false := by decide) (he : starEach (e :: es) X.env = (false, eval e X.env) :: starEach es X.env := by rfl) (hpl : (backTo pos (starEach es X.env)).any (·.1) = false := by rfl) :
    PE X (.Call (.Name x p) (e :: es) [] pos) (tMake C sp dvs E t) := by
  intro pins s σ H Q I h
  refine wpAny_Call_Name_kw (ld_glob I hg hm ?_ hdb)
  refine PySem.W.callWith_K (h₀ := X.base) I.ok.mod.kin M.kp (thn (ha pos pins s σ H _ I h) fun us s1 ⟨vs, H1, I1, r, q⟩ => ⟨I1.kIn, ?_⟩) he hpl
  exact run_make M F hr hb hd hx I1 r q
theorem pe_make0 (M : Mk X.K C f) (F : FnOk X.prog X.w X.K X.mg X.base CX k f fd ps sp) (hr : Room (k + 1) X.A) (hg : Gl X x) (hm : X.mg x = some (.ref C)) (hb : Binds X.K fd ps ds) (hd : Vals dvs ds) (hx : Passes CX X E)
    (hdb : (x == ("__debug__" : Str)) = false := by decide) : PE X (.Call (.Name x p) [] [] pos) (tMake C sp dvs E tNil) := by
  intro pins s σ H Q I h
  refine wpAny_Call_Name_kw (ld_glob I hg hm ?_ hdb)
  exact PySem.W.callWith_K0 I.kIn M.kp (run_make (us := []) M F hr hb hd hx I .nil h)
end
section
variable {X : Cx} {CX : CXT} {k : Nat} {f C : Addr} {fd : FuncData} {ps ks : List Str} {sp : Sp} {E : XK} {x m : Str} {p pos apos kpos : Pos} {e o : Expr} {es : List Expr} {kws : List Keyword} {te ta : TE} {t tk : TA} {nm : Option Str}
variable {g : List Value → List Value → List Value} {gV : List V → List V → List V}
end
structure FnScope (N P : List Str) (sc : Scope) : Prop where
  kind : sc.kind = .function
  co : sc.isCoroutine = false
  gen : sc.isGenerator = false
  nd : N.Nodup
  pre : N.take P.length = P
  par : ∀ x ∈ P, sc.names.lookup x = some .local ∨ sc.names.lookup x = some .cell
  nofree : ∀ y ∈ sc.names, y.2 ≠ .free
theorem bindL_out {kindOf : Str → Option NameKind} {x : Str} : ∀ {binds : List (Str × Value)} {m : Str → Option Value}, (∀ v, (x, v) ∉ binds) → bindL kindOf binds m x = m x
  | [], _, _ => rfl
  | (n, v) :: r, m, h => by
    unfold bindL
    rw [bindL_out fun w hw => h w (List.mem_cons_of_mem _ hw)]
    split
    · have : x ≠ n := by rintro rfl; exact h v List.mem_cons_self
      simp [this]
    · rfl
theorem bindC_out {kindOf : Str → Option NameKind} {x : Str} : ∀ {binds : List (Str × Value)} {m : Str → Option Value}, (∀ v, (x, v) ∉ binds) → bindC kindOf binds m x = m x
  | [], _, _ => rfl
  | (n, v) :: r, m, h => by
    unfold bindC
    rw [bindC_out fun w hw => h w (List.mem_cons_of_mem _ hw)]
    split
    · rfl
    · have : x ≠ n := by rintro rfl; exact h v List.mem_cons_self
      simp [this]
theorem bindL_get {kindOf : Str → Option NameKind} {x : Str} {v : Value} : ∀ {P : List Str} {vs : List Value} {i : Nat} {m : Str → Option Value}, P.Nodup → P[i]? = some x → vs[i]? = some v → kindOf x = some .local →
    bindL kindOf (P.zip vs) m x = some v
  | [], _, _, _, _, h, _, _ => by simp at h
  | _ :: _, [], _, _, _, _, h, _ => by simp at h
  | p :: P, w :: vs, 0, m, nd, h1, h2, hk => by
    simp at h1 h2; subst h1; subst h2
    show bindL kindOf ((p, w) :: P.zip vs) m p = _
    unfold bindL
    rw [bindL_out fun v hv => (al.mp nd).1 (List.of_mem_zip hv).1, if_pos hk]
    simp
  | p :: P, w :: vs, i + 1, m, nd, h1, h2, hk => by
    show bindL kindOf ((p, w) :: P.zip vs) m x = _
    unfold bindL
    exact bindL_get (i := i) (al.mp nd).2 (by simpa using h1) (by simpa using h2) hk
theorem bindC_get {kindOf : Str → Option NameKind} {x : Str} {v : Value} : ∀ {P : List Str} {vs : List Value} {i : Nat} {m : Str → Option Value}, P.Nodup → P[i]? = some x → vs[i]? = some v → kindOf x ≠ some .local →
    bindC kindOf (P.zip vs) m x = some v
  | [], _, _, _, _, h, _, _ => by simp at h
  | _ :: _, [], _, _, _, _, h, _ => by simp at h
  | p :: P, w :: vs, 0, m, nd, h1, h2, hk => by
    simp at h1 h2; subst h1; subst h2
    show bindC kindOf ((p, w) :: P.zip vs) m p = _
    unfold bindC
    rw [bindC_out fun v hv => (al.mp nd).1 (List.of_mem_zip hv).1, if_neg hk]
    simp
  | p :: P, w :: vs, i + 1, m, nd, h1, h2, hk => by
    show bindC kindOf ((p, w) :: P.zip vs) m x = _
    unfold bindC
    exact bindC_get (i := i) (al.mp nd).2 (by simpa using h1) (by simpa using h2) hk
noncomputable def start (N : List Str) (vs : List V) : St := vs.map some ++ List.replicate (N.length - vs.length) none
noncomputable def cxOf (CX : CXT) (P : Program) (w : World) (K : PySem.W.Frag) (mg : Str → Option Value) (base : Heap) (N : List Str) (qual : Str) (scope : Scope) (f : Addr) (cd : Value) (A : Around) (outer : List Env) (s : Shared) (H : Hp) (E : XK) : Cx where
  prog := P
  w := w
  K := K
  mg := mg
  base := base
  A := A.deeper (envOfC qual scope s.heap.objs.size f cd)
  N := N
  s₀ := s
  H₀ := H
  env := envOfC qual scope s.heap.objs.size f cd
  outer := outer
  stack := envOfC qual scope s.heap.objs.size f cd :: outer
  ex := []
  calm := true
  fn := fun _ => true
  pn := []
  xe := fun e s' => wpAny (model P w) (A.deeper (envOfC qual scope s.heap.objs.size f cd)) (leaving (envOfC qual scope s.heap.objs.size f cd) e) (fun _ s'' => CX outer H s E e s'') (fun e' s'' => CX outer H s E e' s'') s'
theorem cell_has {sc : Scope} {n : Nat} {x : Str} (h : sc.names.lookup x = some .cell) : ∃ c, (cellsFrom n sc.names []).lookup x = some c := by
  have q := PySem.W.cellsFrom_some sc.names n [] (.inl h)
  exact am.mp q
theorem inv_start {CX : CXT} {P : Program} {w : World} {K : PySem.W.Frag} {mg : Str → Option Value} {base : Heap} {N ps : List Str} {qual : Str} {scope : Scope} {f : Addr} {cd : Value} {A : Around} {outer : List Env} {s s1 : Shared} {H : Hp} {E : XK} {us : List Value} {vs : List V}
    (S : FnScope N ps scope) (hd : A.handled = none) (e0 : Env0 P w K mg base A outer s H) (hl : vs.length = ps.length) (r : Vals vs us)
    (x : InCallC s s.heap.objs.size (bindL (envOfC qual scope s.heap.objs.size f cd).kindOf (ps.zip us) fun _ => none) (cellsFrom (s.heap.objs.size + 1) scope.names []) (bindC (envOfC qual scope s.heap.objs.size f cd).kindOf (ps.zip us) fun _ => none) s1) :
    Inv (cxOf CX P w K mg base N qual scope f cd A outer s H E) [] (start N vs) H s1 := by
  have hpl : ps.length ≤ N.length := by have := congrArg List.length S.pre; rw [List.length_take] at this; lia
  obtain ⟨h1, tk, rfl, hk⟩ := x.done
  have noA : ∀ b : Addr, b ∉ (cxOf CX P w K mg base N qual scope f cd A outer s H E).ex := fun b z => absurd (show b ∈ ([] : List Addr) from z) (by simp)
  refine ⟨⟨e0.mod, S.kind, rfl, rfl, Nat.le_refl _, fun y z c h1 h2 => ?_, fun y hy => ?_, fun y c _ h => ?_, fun _ => hd, Around.frames_deeper e0.frames, .inr ⟨rfl, rfl⟩, fun b z => absurd z (noA b), e0.bs, e0.bsz, fun b _ _ => noA b, fun b z => absurd z (noA b), e0.funs, e0.frf⟩,
    rfl, e0.bare, Un.kept hk, ⟨_, x.toInCall.ns, fun i y v h1 h2 h3 => ?_⟩, fun y c h => ⟨_, x.cell y c h⟩, e0.hok.fresh (Nat.le_refl _), fun y c h => ?_, fun p hp => absurd (show p ∈ ([] : List (Addr × Obj)) from hp) (by simp), e0.hok.kept hk, ?_⟩
  · exact name_of_addr x.apart (PySem.mem_of_lookup h1) (PySem.mem_of_lookup h2)
  · have hy : scope.names.lookup y = some .cell ∨ scope.names.lookup y = some .free := hy
    rcases hy with hy | hy
    · exact cell_has hy
    · exact absurd rfl (S.nofree _ (PySem.mem_of_lookup hy))
  · exact Nat.le_of_lt (x.above y c (PySem.mem_of_lookup h))
  · have hi : i < vs.length := by
      unfold start at h2
      by_cases hi : i < vs.length
      · exact hi
      · rw [List.getElem?_append_right (by simpa using hi)] at h2
        rw [List.getElem?_replicate] at h2
        split at h2 <;> cases h2
    have ha : vs[i]? = some v := by
      unfold start at h2
      rw [List.getElem?_append_left (by simpa using hi), List.getElem?_map] at h2
      cases e : vs[i]? with
      | none => rw [e] at h2; cases h2
      | some a => rw [e] at h2; cases h2; rfl
    obtain ⟨u, hu, rv⟩ := r.get ha
    have hp : ps[i]? = some y := by
      rw [← S.pre, List.getElem?_take_of_lt (by lia)]; exact h1
    have ndP : ps.Nodup := by rw [← S.pre]; exact S.nd.sublist (List.take_sublist _ _)
    refine ⟨u, rv, ?_⟩
    rcases S.par y (List.mem_of_getElem? hp) with k | k
    · exact .inl ⟨k, bindL_get ndP hp hu k⟩
    · obtain ⟨c, e⟩ := cell_has (n := s.heap.objs.size + 1) k
      refine .inr ⟨.inl k, c, e, ?_⟩
      have q := x.cell y c e
      rw [bindC_get ndP hp hu (by show scope.names.lookup y ≠ _; rw [k]; decide)] at q
      exact q
  · exact e0.hok.fresh (Nat.le_of_lt (x.above y c (PySem.mem_of_lookup h)))
  · unfold start
    show _ = N.length
    rw [List.length_append, List.length_map, List.length_replicate]
    lia
theorem fn_of {CX : CXT} {P : Program} {w : World} {K : PySem.W.Frag} {mg : Str → Option Value} {base : Heap} {k : Nat} {f : Addr} {name qual : Str} {params : Arguments} {body : List Stmt} {scope : Scope} {dV kV doc pm cdv ct oc : Value} {an od : Option Addr}
    {osl : Array (Option Value)} {N ps : List Str} {sp : Sp} (lk : K.lookup f = some ⟨oc, od, .func (PySem.W.fnOf name qual params body scope dV kV doc pm an cdv ct), osl⟩) (hcd : PySem.W.codeIn K cdv qual = true) (S : FnScope N ps scope)
    (len : ∀ vs H Q E, sp vs H Q E → vs.length = ps.length)
    (hbody : ∀ (A : Around) (outer : List Env) (s : Shared) (H : Hp) (vs : List V) (Q : VK) (E : XK), Room k (A.deeper (envOfC qual scope s.heap.objs.size f cdv)) → sp vs H Q E →
      ∃ t, PSs (cxOf CX P w K mg base N qual scope f cdv A outer s H E) body t ∧ t { nx := fun _ H' => Q .non H', rt := Q } (start N vs) H) :
    FnOk P w K mg base CX (k + 1) f (PySem.W.fnOf name qual params body scope dV kV doc pm an cdv ct) ps sp := by
  refine ⟨len, fun A outer s H args us vs Q E hr e0 hb r hsp => ?_⟩
  have hl := len _ _ _ _ hsp
  have KX : K.In s.heap := e0.mod.kin.keeps fun b o e => (e0.bs b o e).1
  have lim : s.heap.NoLimit := e0.mod.nolimit.keeps fun b o e => (e0.bs b o e).1
  have hkind : ∀ y ∈ ps.zip us, scope.names.lookup y.1 = some .local ∨ (scope.names.lookup y.1 = some .cell ∧ ((cellsFrom (s.heap.objs.size + 1) scope.names []).lookup y.1).isSome = true) := fun ⟨n, v⟩ hy => by
    rcases S.par n (List.of_mem_zip hy).1 with q | q
    · exact .inl q
    · exact .inr ⟨q, PySem.W.cellsFrom_some _ _ _ (.inl q)⟩
  refine codeAny_call_function hr.depth (KX _ _ lk) rfl S.co S.gen rfl (PySem.W.codeRec_of KX hcd) (hb _ _ _ _ ?_)
  refine wpAny_newFunctionEnv_cells S.kind hkind fun env he s1 x => ?_
  subst he
  refine ⟨lim.keeps x.toInCall.keep, codeAny_func ?_⟩
  obtain ⟨t, ht, hq⟩ := hbody A outer s H vs Q E (hr.deeper _) hsp
  have I : Inv (cxOf CX P w K mg base N qual scope f cdv A outer s H E) [] (start N vs) H s1 := inv_start S hr.hd e0 hl r x
  refine wpAny_mono (ht [] s1 (start N vs) H _ I hq) (fun fl s' hs => ?_) fun e s' hs => hs
  have fin : ∀ {σ' : St} {H' : Hp} {v : V} {u : Value}, Inv (cxOf CX P w K mg base N qual scope f cdv A outer s H E) [] σ' H' s' → RelV v u → Q v H' → CE outer P w H s Q u s' :=
    fun {σ' H' v u} J rv q => ⟨v, H', J.os, J.bare, J.base, J.hok, rv, q⟩
  cases fl with
  | ret u =>
    obtain ⟨v, σ', H', J, rv, q⟩ := hs
    exact fin J rv q
  | next =>
    obtain ⟨σ', H', J, q⟩ := hs
    exact fin (v := V.non) (u := Value.none) J rfl q
  | brk =>
    obtain ⟨_, _, _, q⟩ := hs
    exact False.elim q
  | cont =>
    obtain ⟨_, _, _, q⟩ := hs
    exact False.elim q
end L2
namespace L2
open PySem PySem.Spec PyProof.Rows
section
variable {X : Cx} {x : Str} {p pos : Pos} {e : Expr} {es : List Expr} {t : TA} {id T : String} {r : List V → Hp → VK → Prop}
def tCB (r : List V → Hp → VK → Prop) (t : TA) : TE := fun σ H Q => t σ H fun vs H1 => r vs H1 Q
theorem pe_callB (hc : CallR X (.builtin id) r) (hg : Gl X x) (hm : X.mg x = none) (hv : bootBuiltins x = some (.builtin id)) (ha : PA X (e :: es) t) (hn : x ≠ "__name__" := by decide) (hdb : (x == ("__debug__" : Str)) = false := by decide)
    (he : starEach (e :: es) X.env = (false, eval e X.env) :: starEach es X.env := by rfl) (hpl : (backTo pos (starEach es X.env)).any (·.1) = false := by rfl) : PE X (.Call (.Name x p) (e :: es) [] pos) (tCB r t) := by
  intro pins s σ H Q I h
  refine wpAny_Call_Name_kw (ld_blt I hg hm hv ?_ hn hdb)
  exact PyProof.Rows.callWith_builtin1 (thn (ha pos pins s σ H _ I h) fun us s1 ⟨vs, H1, I1, r1, q1⟩ => hc pins s1 σ H1 vs us Q I1 r1 q1) he hpl
theorem pe_callTy (hc : CallR X (.type T) r) (hg : Gl X x) (hm : X.mg x = none) (hv : bootBuiltins x = some (.type T)) (ha : PA X (e :: es) t) (hn : x ≠ "__name__" := by decide) (hdb : (x == ("__debug__" : Str)) = false := by decide)
    (he : starEach (e :: es) X.env = (false, eval e X.env) :: starEach es X.env := by rfl) (hpl : (backTo pos (starEach es X.env)).any (·.1) = false := by rfl) : PE X (.Call (.Name x p) (e :: es) [] pos) (tCB r t) := by
  intro pins s σ H Q I h
  refine wpAny_Call_Name_kw (ld_blt I hg hm hv ?_ hn hdb)
  exact PyProof.Rows.callWith_type1 (thn (ha pos pins s σ H _ I h) fun us s1 ⟨vs, H1, I1, r1, q1⟩ => hc pins s1 σ H1 vs us Q I1 r1 q1) he hpl
end
end L2
namespace HT
open PySem PyProof.Rows
section
open PySem.SeqAt
open PySem.AutoSeq1 (wpAny_loadPart')
open PySem.MeetsSeq PySem.MeetsSeq2 PySem.MeetsSeq3
end
section
variable {prog : Program} {w : World} {A : Around} {E : Value → Shared → Prop} {s : Shared}
noncomputable def sIx (n d : Nat) : Option Int → Nat
  | none => d
  | some v => if v < 0 then (v + (n : Int)).toNat else min v.toNat n
theorem sIx_none (n d : Nat) : sIx n d none = d := rfl
theorem sIx_nat (n d k : Nat) : sIx n d (some (k : Int)) = min k n := by
  show (if (k : Int) < 0 then ((k : Int) + (n : Int)).toNat else min (k : Int).toNat n) = min k n
  rw [if_neg (by lia), Int.toNat_natCast]
theorem sIx_le (n d : Nat) (hd : d ≤ n) (o : Option Int) : sIx n d o ≤ n := by
  cases o with
  | none => exact hd
  | some v =>
    show (if v < 0 then (v + (n : Int)).toNat else min v.toNat n) ≤ n
    by_cases hv : v < 0
    · rw [if_pos hv]; lia
    · rw [if_neg hv]; exact Nat.min_le_right _ _
end
end HT
namespace L2
open PySem PySem.Spec PyProof.Rows
noncomputable abbrev TO := St → Hp → (Option Int → Hp → Prop) → Prop
def PO (X : Cx) (e : Option Expr) (t : TO) : Prop :=
  ∀ (pins : List (Addr × Obj)) (s : Shared) (σ : St) (H : Hp) (Q : Option Int → Hp → Prop), Inv X pins σ H s → t σ H Q →
    wpAny (model X.prog X.w) X.A (evalPart e X.env) (fun u s' => ∃ o H', Inv X pins σ H' s' ∧ IsPart u o ∧ Q o H') X.xe s
def tNoPart : TO := fun _ H Q => Q none H
def tPart (t : TE) : TO := fun σ H Q => t σ H fun x H1 => ∃ i, x = .int i ∧ Q (some i) H1
section
variable {X : Cx} {e : Expr} {te : TE} {lo hi : Option Expr} {tl th : TO} {pos p2 : Pos}
theorem po_none : PO X none tNoPart := by
  intro pins s σ H Q I h
  rw [evalPart_none]
  exact wpAny_pure ⟨none, H, I, .none, h⟩
theorem po_some (h : PE X e te) : PO X (some e) (tPart te) := by
  intro pins s σ H Q I hw
  rw [evalPart_some]
  refine thn (h pins s σ H _ I hw) fun u s1 ⟨x, H1, I1, r1, q1⟩ => ?_
  obtain ⟨i, rfl, q⟩ := q1
  obtain ⟨t, rfl⟩ := r1
  exact ⟨some i, H1, I1, .int i t, q⟩
def SlR (X : Cx) (r : V → Option Int → Option Int → Hp → VK → Prop) : Prop :=
  ∀ (pins : List (Addr × Obj)) (s : Shared) (σ : St) (H : Hp) (x : V) (v vl vu : Value) (lo hi : Option Int) (sl : Addr) (Q : VK), Inv X pins σ H s → RelV x v → s.heap.IsSliceOf sl vl vu .none → IsPart vl lo → IsPart vu hi → r x lo hi H Q →
    ∃ T id, typeLookup (.type T) "__getitem__" = pure (some (.builtin id)) ∧ s.TypeIs v T ∧ wpAny (model X.prog X.w) X.A (getItem v (.ref sl)) (EP X pins σ Q) X.xe s
def tSl (r : V → Option Int → Option Int → Hp → VK → Prop) (te : TE) (tl th : TO) : TE := fun σ H Q => te σ H fun x H1 => tl σ H1 fun l H2 => th σ H2 fun u H3 => r x l u H3 Q
theorem pe_slice {r : V → Option Int → Option Int → Hp → VK → Prop} (hr : SlR X r) (he : PE X e te) (hl : PO X lo tl) (hu : PO X hi th) : PE X (.Subscript e (.Slice lo hi none p2) pos) (tSl r te tl th) := by
  intro pins s σ H Q I h
  refine Subscript_ (thn (he pins s σ H _ I h) fun v s1 ⟨x, H1, I1, r1, q1⟩ => ?_)
  refine wpAny_Slice (thn (hl pins s1 σ H1 _ I1 q1) fun vl s2 ⟨l, H2, I2, pl, q2⟩ => thn (hu pins s2 σ H2 _ I2 q2) fun vu s3 ⟨u, H3, I3, pu, q3⟩ => ?_)
  rw [evalPart_none]
  refine wpAny_pure ?_
  have I4 : Inv X pins σ H3 { s3 with heap := s3.heap.push { cls := .type "slice", data := .fields #[vl, vu, .none] } } := I3.kept (t' := s3.toks) fun b ob q => Heap.get?_push_of_some _ q
  obtain ⟨T, id, hT, ht, hg⟩ := hr pins { s3 with heap := s3.heap.push { cls := .type "slice", data := .fields #[vl, vu, .none] } } σ H3 x v vl vu l u s3.heap.objs.size Q I4 r1 (Heap.IsSliceOf.new ..) pl pu q3
  show wpAny (model X.prog X.w) X.A (subscriptTail e (.Slice lo hi none p2) v (.ref s3.heap.objs.size)) (EP X pins σ Q) X.xe { s3 with heap := s3.heap.push { cls := .type "slice", data := .fields #[vl, vu, .none] } }
  exact tail_any (ops := [.ref s3.heap.objs.size, v]) ht hT hg (by with_unfolding_all rfl)
noncomputable def cutV (xs : List V) (lo hi : Option Int) : List V := (xs.drop (HT.sIx xs.length 0 lo)).take (HT.sIx xs.length xs.length hi - HT.sIx xs.length 0 lo)
theorem cutV_length (xs : List V) (lo hi : Option Int) : (cutV xs lo hi).length ≤ xs.length := by
  unfold cutV
  rw [List.length_take, List.length_drop]
  lia
end
end L2
namespace L2
open PySem PySem.Spec PyProof.Rows
noncomputable def ixN (n : Nat) (i : Int) : Option Nat := if 0 ≤ i then (if i < n then some i.toNat else none) else if -(n : Int) ≤ i then some (i + n).toNat else none
noncomputable def atI {α : Type} (xs : List α) (i : Int) : Option α := (ixN xs.length i).bind fun j => xs[j]?
theorem ixN_seq {n : Nat} {i : Int} {j : Nat} (h : ixN n i = some j) : seqIndex? i n = some j ∧ j < n ∧ -(n : Int) ≤ i ∧ i < n := by
  unfold ixN at h
  by_cases h0 : 0 ≤ i
  · rw [if_pos h0] at h
    by_cases h1 : i < n
    · rw [if_pos h1] at h
      have e : i.toNat = j := Option.some.inj h
      exact ⟨by rw [seqIndex_of h0 h1, e], by lia, by lia, h1⟩
    · rw [if_neg h1] at h; cases h
  · rw [if_neg h0] at h
    by_cases h1 : -(n : Int) ≤ i
    · rw [if_pos h1] at h
      have e : (i + n).toNat = j := Option.some.inj h
      exact ⟨by rw [seqIndex_neg (by lia) h1, e], by lia, h1, by lia⟩
    · rw [if_neg h1] at h; cases h
theorem atI_get {α : Type} {xs : List α} {i : Int} {v : α} (h : atI xs i = some v) : ∃ j, seqIndex? i xs.length = some j ∧ xs[j]? = some v ∧ j < xs.length ∧ -(xs.length : Int) ≤ i ∧ i < xs.length := by
  unfold atI at h
  cases e : ixN xs.length i with
  | none => rw [e] at h; cases h
  | some j =>
    rw [e] at h
    obtain ⟨h1, h2, h3, h4⟩ := ixN_seq e
    exact ⟨j, h1, h, h2, h3, h4⟩
theorem atI_nat {α : Type} {xs : List α} {j : Nat} {v : α} (h : xs[j]? = some v) : atI xs (j : Int) = some v := by
  have hj : j < xs.length := (ac.mp h).1
  have e : ixN xs.length (j : Int) = some j := by
    unfold ixN
    rw [if_pos (by lia), if_pos (by lia)]; simp
  unfold atI; rw [e]; exact h
theorem atI_last {α : Type} (xs : List α) (v : α) : atI (xs ++ [v]) (-1) = some v := by
  have hl : (xs ++ [v]).length = xs.length + 1 := by simp
  have e : ixN (xs ++ [v]).length (-1) = some xs.length := by
    unfold ixN
    rw [hl, if_neg (by decide), if_pos (by lia)]
    congr 1
    lia
  unfold atI
  rw [e]
  show (xs ++ [v])[xs.length]? = some v
  simp
def PlainIx (b : Expr) : Prop := ∀ o i, subscripted b false o i = operate [o, i] (getItem o i)
def IxR (X : Cx) (r : R2) : Prop :=
  ∀ (value slice : Expr) (pins : List (Addr × Obj)) (s : Shared) (σ : St) (H : Hp) (x y : V) (v u : Value) (Q : VK), Inv X pins σ H s → RelV x v → RelV y u → r x y H Q →
    subscripted slice false v u = operate [v, u] (getItem v u) → wpAny (model X.prog X.w) X.A (subscriptTail value slice v u) (EP X pins σ Q) X.xe s
def MtR (X : Cx) (id : String) (r : V → List V → Hp → VK → Prop) : Prop :=
  ∀ (pins : List (Addr × Obj)) (s : Shared) (σ : St) (H : Hp) (x : V) (xs : List V) (v : Value) (us : List Value) (Q : VK), Inv X pins σ H s → RelV x v → Vals xs us → r x xs H Q →
    wpAny (model X.prog X.w) X.A (call (.builtin id) (v :: us)) (EP X pins σ Q) X.xe s
section
variable {X : Cx} {a b : Expr} {ta tb : TE} {pos : Pos}
theorem IxR.or {r r' : R2} (h : IxR X r) (h' : IxR X r') : IxR X (fun x y H Q => r x y H Q ∨ r' x y H Q) := by
  intro value slice pins s σ H x y v u Q I rx ry q hs
  rcases q with q | q
  · exact h value slice pins s σ H x y v u Q I rx ry q hs
  · exact h' value slice pins s σ H x y v u Q I rx ry q hs
theorem pe_ix {r : R2} (hr : IxR X r) (ha : PE X a ta) (hb : PE X b tb) (hs : PlainIx b) : PE X (.Subscript a b pos) (tOp r ta tb) := by
  intro pins s σ H Q I h
  exact Subscript_ (binT ha hb I h fun v u s2 x y H2 I2 rx ry q => hr a b pins s2 σ H2 x y v u Q I2 rx ry q (hs _ _))
def rIxL (K : PySem.W.Frag) : R2 := fun x y H Q => ∃ p xs i v, x = .ref p ∧ y = .int i ∧ SqL K H p xs ∧ atI xs i = some v ∧ Q v H
def rIxT (K : PySem.W.Frag) : R2 := fun x y H Q => ∃ p xs i v, x = .ref p ∧ y = .int i ∧ SqT K H p xs ∧ atI xs i = some v ∧ Q v H
def rIxS : R2 := fun x y H Q => ∃ z i c, x = .str z ∧ y = .int i ∧ z.length ≤ sizeLine ∧ atI z.cps.toList i = some c ∧ Q (.str ⟨#[c]⟩) H
theorem ix_list : IxR X (rIxL X.K) := by
  intro value slice pins s σ H x y v u Q I rx ry h hs
  obtain ⟨p, xs, i, z, rfl, rfl, hq, he, q⟩ := h
  cases rx
  obtain ⟨t, rfl⟩ := ry
  obtain ⟨its, r, pl, hz⟩ := I.list hq
  obtain ⟨j, h1, h2, h3, h4, h5⟩ := atI_get he
  obtain ⟨w, ew, rw'⟩ := r.get h2
  have hl := r.length
  have hn := line63
  have fin : EP X pins σ Q w s := ⟨z, H, I, rw', q⟩
  by_cases h0 : 0 ≤ i
  · have hj : i.toNat = j := by
      rw [seqIndex_of h0 h5] at h1
      exact Option.some.inj h1
    exact item_listR pl.isList h0 (by lia) (by rw [hj]; simpa using ew) fin hs
  · have hj : (i + (its.toArray.size : Int)).toNat = j := by
      rw [seqIndex_neg (by lia) h4] at h1
      rw [List.size_toArray, ← hl]
      exact Option.some.inj h1
    exact subscriptTail_builtinR (x := w) pl.isList.typeIs slot_list_getitem.lookup
      (wpAny_getItem_list_neg (Q := fun r s' => r = w ∧ EP X pins σ Q r s') pl.isList (by lia) (by rw [List.size_toArray] <;> lia) (by lia) (by rw [hj]; simpa using ew) ⟨rfl, fin⟩) hs
theorem ix_tup : IxR X (rIxT X.K) := by
  intro value slice pins s σ H x y v u Q I rx ry h hs
  obtain ⟨p, xs, i, z, rfl, rfl, hq, he, q⟩ := h
  cases rx
  obtain ⟨t, rfl⟩ := ry
  obtain ⟨its, r, pl, hz⟩ := I.tuple hq
  obtain ⟨j, h1, h2, h3, h4, h5⟩ := atI_get he
  obtain ⟨w, ew, rw'⟩ := r.get h2
  have hl := r.length
  have hn := line63
  have fin : EP X pins σ Q w s := ⟨z, H, I, rw', q⟩
  exact subscriptTail_builtinR (x := w) pl.typeIs slot_tuple_getitem.lookup
    (getItem_tuple (j := j) (Q := fun r s' => r = w ∧ EP X pins σ Q r s') pl (by lia) (by lia) (by rw [List.size_toArray, ← hl]; exact h1) (by simpa using ew) ⟨rfl, fin⟩) hs
theorem ix_str : IxR X rIxS := by
  intro value slice pins s σ H x y v u Q I rx ry h hs
  obtain ⟨z, i, c, rfl, rfl, hz, he, q⟩ := h
  obtain ⟨t, rfl⟩ := rx
  obtain ⟨t', rfl⟩ := ry
  obtain ⟨j, h1, h2, h3, h4, h5⟩ := atI_get he
  have hl : z.cps.toList.length = z.length := by simp [Str.length]
  rw [hl] at h1 h4 h5
  have hn := line63
  exact tail_any (typeIs_str s z t) slot_str_getitem.lookup (getItem_str (c := c) (by
    have e1 : decide (i < -(2 ^ 63 : Int)) = false := decide_eq_false (by lia)
    have e2 : decide (i ≥ 2 ^ 63) = false := decide_eq_false (by lia)
    rw [e1, e2, Bool.or_false]) (by rw [h1]; simpa using h2) ⟨.str ⟨#[c]⟩, H, I.tok _, ⟨_, rfl⟩, q⟩) hs
def rIx (K : PySem.W.Frag) : R2 := fun x y H Q => rIxL K x y H Q ∨ rIxT K x y H Q ∨ rIxS x y H Q
theorem ix_seq : IxR X (rIx X.K) := ix_list.or (ix_tup.or ix_str)
theorem Inv.lst {pins : List (Addr × Obj)} {σ : St} {H : Hp} {s : Shared} {p : Addr} {xs : List V} (I : Inv X pins σ H s) (h : H p = some (.lst xs)) :
    ∃ (its : List Value) (n : Nat), Vals xs its ∧ s.heap.get? p = some { cls := .type "list", data := .seq its.toArray n } ∧ xs.length ≤ sizeLine := by
  obtain ⟨z, its, n, r, e⟩ := I.hok p _ h
  exact ⟨its, n, r, e, z⟩
theorem slice_bounds (lo hi : Option Int) (n : Nat) : (sliceBounds lo hi none n).1 = ((HT.sIx n 0 lo : Nat) : Int) ∧ (sliceBounds lo hi none n).2.1 = ((HT.sIx n n hi : Nat) : Int) ∧ (sliceBounds lo hi none n).2.2 = 1 := by
  refine ⟨?_, ?_, rfl⟩
  · cases lo with
    | none => simp [sliceBounds, HT.sIx]
    | some i =>
      simp only [sliceBounds, HT.sIx, Option.getD_none, show (1 : Int) > 0 by decide, if_true]
      by_cases h : i < 0
      · simp only [h, if_true] <;> lia
      · simp only [h, if_false] <;> lia
  · cases hi with
    | none => simp [sliceBounds, HT.sIx]
    | some i =>
      simp only [sliceBounds, HT.sIx, Option.getD_none, show (1 : Int) > 0 by decide, if_true]
      by_cases h : i < 0
      · simp only [h, if_true] <;> lia
      · simp only [h, if_false] <;> lia
theorem slicePick_cut (its : List Value) (lo hi : Option Int) : slicePick its.toArray lo hi none = ((its.drop (HT.sIx its.length 0 lo)).take (HT.sIx its.length its.length hi - HT.sIx its.length 0 lo)).toArray := by
  obtain ⟨h1, h2, h3⟩ := slice_bounds lo hi its.toArray.size
  unfold slicePick
  rw [h1, h2, h3]
  simp only [sliceRange_one, pick_run, List.size_toArray] <;> rfl
def rSlL (K : PySem.W.Frag) : V → Option Int → Option Int → Hp → VK → Prop := fun x lo hi H Q => ∃ a xs, x = .ref a ∧ SqL K H a xs ∧ ∀ p, H p = none → Q (.ref p) (upd H p (.lst (cutV xs lo hi)))
theorem sl_list : SlR X (rSlL X.K) := by
  intro pins s σ H x v vl vu lo hi sl Q I rx hs pl pu h
  obtain ⟨a, xs, rfl, hx, q⟩ := h
  cases rx
  obtain ⟨its, r, ht, hz⟩ := I.list hx
  have hlen := r.length
  refine ⟨"list", _, slot_list_getitem.lookup, ht.isList.typeIs, ?_⟩
  refine wpAny_getItem_list_slice ht.isList hs pl pu .none (by simp) ?_ (by rw [List.size_toArray] <;> lia)
  rw [slicePick_cut, ← hlen]
  refine ⟨.ref s.heap.objs.size, _, I.laid (t' := s.toks) (o := .lst (cutV xs lo hi)) (fun b ob q => Heap.get?_push_of_some _ q) (Nat.le_refl _) ?_, rfl, q _ (I.hok.fresh (Nat.le_refl _))⟩
  exact ⟨Nat.le_trans (cutV_length xs lo hi) hz, _, 0, (r.drop (HT.sIx xs.length 0 lo)).take (HT.sIx xs.length xs.length hi - HT.sIx xs.length 0 lo), Heap.get?_push_size _ rfl⟩
noncomputable def flatV : V → Bool
  | .non => true
  | .bl _ => true
  | .int _ => true
  | .str _ => true
  | _ => false
noncomputable def eqV : V → V → Bool
  | .non, .non => true
  | .bl a, .bl b => a == b
  | .bl a, .int b => (if a then 1 else 0) == b
  | .int a, .bl b => a == (if b then 1 else 0)
  | .int a, .int b => a == b
  | .str a, .str b => a == b
  | _, _ => false
theorem eqAt_V {A : Around} {s : Shared} {y x : V} {u v : Value} (ry : RelV y u) (rx : RelV x v) (fy : flatV y = true) (fx : flatV x = true) : SeqAt.EqAt A s u v (eqV y x) := by
  cases y with
  | non =>
    cases ry
    cases x with
    | non => cases rx; exact SeqAt.EqAt.same _
    | bl b => cases rx; exact SeqAt.EqAt.none_bool b
    | int b => obtain ⟨t, rfl⟩ := rx; exact SeqAt.EqAt.none_int b t
    | str b => obtain ⟨t, rfl⟩ := rx; exact SeqAt.EqAt.none_str b t
    | _ => exact absurd (show false = true from fx) Bool.false_ne_true
  | bl a =>
    cases ry
    cases x with
    | non => cases rx; exact SeqAt.EqAt.bool_none a
    | bl b => cases rx; exact SeqAt.EqAt.bool_bool a b
    | int b => obtain ⟨t, rfl⟩ := rx; exact SeqAt.EqAt.bool_int a b t
    | str b => obtain ⟨t, rfl⟩ := rx; exact SeqAt.EqAt.bool_str a b t
    | _ => exact absurd (show false = true from fx) Bool.false_ne_true
  | int a =>
    obtain ⟨t', rfl⟩ := ry
    cases x with
    | non => cases rx; exact SeqAt.EqAt.int_none a t'
    | bl b => cases rx; exact SeqAt.EqAt.int_bool a t' b
    | int b => obtain ⟨t, rfl⟩ := rx; exact SeqAt.EqAt.int_int a t' b t
    | str b => obtain ⟨t, rfl⟩ := rx; exact SeqAt.EqAt.int_str a t' b t
    | _ => exact absurd (show false = true from fx) Bool.false_ne_true
  | str a =>
    obtain ⟨t', rfl⟩ := ry
    cases x with
    | non => cases rx; exact SeqAt.EqAt.str_none a t'
    | bl b => cases rx; exact SeqAt.EqAt.str_bool a t' b
    | int b => obtain ⟨t, rfl⟩ := rx; exact SeqAt.EqAt.str_int a t' b t
    | str b => obtain ⟨t, rfl⟩ := rx; exact SeqAt.EqAt.str_str a t' b t
    | _ => exact absurd (show false = true from fx) Bool.false_ne_true
  | _ => exact absurd (show false = true from fy) Bool.false_ne_true
theorem call_tuple_of : CallR X (.type "tuple") (fun xs H Q => ∃ p ys, xs = [.ref p] ∧ ((SqL X.K H p ys ∧ ∀ l, H l = none → Q (.ref l) (upd H l (.tup ys))) ∨ (SqT X.K H p ys ∧ Q (.ref p) H))) := by
  intro pins s σ H xs us Q I r h
  obtain ⟨p, ys, rfl, h⟩ := h
  obtain ⟨u, rfl, rx⟩ := vals1 r
  cases rx
  rcases h with ⟨hq, q⟩ | ⟨hq, q⟩
  · obtain ⟨its, r', pl, hz⟩ := I.list hq
    have hlen := r'.length
    refine call_tuple_list pl.isList (fun h' kp => ?_) (by simp only [List.size_toArray] <;> lia)
    have I1 : Inv X pins σ H { s with heap := h' } := I.kept (t' := s.toks) kp
    have I2 : Inv X pins σ (upd H h'.objs.size (.tup ys)) { s with heap := h'.push { cls := .type "tuple", data := .seq its.toArray } } :=
      I1.laid (t' := s.toks) (fun b o e => Heap.get?_push_of_some _ e) (Nat.le_refl _) (show ObjOk X.prog X.w _ _ _ (.tup ys) from ⟨hz, its, r', IsTup.new _ _⟩)
    exact ⟨.ref h'.objs.size, _, I2, rfl, q _ (I1.hok.fresh (Nat.le_refl _))⟩
  · obtain ⟨its, r', pl, hz⟩ := I.tuple hq
    exact call_tuple_same pl ⟨.ref p, H, I, rfl, q⟩
def tyV (K : PySem.W.Frag) (T : String) (x : V) (H : Hp) : Prop := match x with
  | .str _ => T = "str"
  | .int _ => T = "int"
  | .ref p => (T = "list" ∧ ∃ xs, SqL K H p xs) ∨ (T = "tuple" ∧ ∃ o, K.lookup p = some o ∧ o.cls = .type "tuple" ∧ o.dict = none) ∨
      (T = "dict" ∧ ((∃ kvs, H p = some (.dK kvs)) ∨ ∃ kvs, H p = some (.dT kvs))) ∨ (T = "set" ∧ ∃ S n, H p = some (.set S n))
  | _ => False
theorem tyV_is {pins : List (Addr × Obj)} {σ : St} {H : Hp} {s : Shared} {T : String} {x : V} {v : Value} (I : Inv X pins σ H s) (r : RelV x v) (ty : tyV X.K T x H) :
    s.TypeIs v T ∧ ∀ a, v = .ref a → ∃ ob, s.heap.get? a = some ob ∧ ob.dict = none := by
  cases x with
  | str z =>
    obtain ⟨t, rfl⟩ := r
    cases (show T = "str" from ty)
    exact ⟨typeIs_str s z t, fun _ e => nomatch e⟩
  | int i =>
    obtain ⟨t, rfl⟩ := r
    cases (show T = "int" from ty)
    exact ⟨typeIs_int s i t, fun _ e => nomatch e⟩
  | ref p =>
    cases r
    rcases ty with ⟨rfl, xs, hq⟩ | ⟨rfl, o, hk, hc, hd⟩ | ⟨rfl, hk⟩ | ⟨rfl, S, n, hk⟩
    · obtain ⟨its, _, pl, _⟩ := I.list hq
      refine ⟨pl.isList.typeIs, fun a e => ?_⟩
      cases e
      obtain ⟨o, n, e, c, hd, _⟩ := pl
      exact ⟨o, e, hd⟩
    · refine ⟨⟨o, I.kIn p o hk, hc⟩, fun a e => ?_⟩
      cases e
      exact ⟨o, I.kIn _ o hk, hd⟩
    · have z : ∃ o, s.heap.get? p = some o ∧ o.ExactDict := by
        rcases hk with ⟨kvs, hk⟩ | ⟨kvs, hk⟩
        · obtain ⟨_, _, _, _, o, _, _, e, ex, _⟩ := I.hok p _ hk
          exact ⟨o, e, ex⟩
        · obtain ⟨_, _, _, _, o, _, _, e, ex, _⟩ := I.hok p _ hk
          exact ⟨o, e, ex⟩
      obtain ⟨o, e, ex⟩ := z
      refine ⟨⟨o, e, ex.1⟩, fun a e2 => ?_⟩
      cases e2
      exact ⟨o, e, ex.2.1⟩
    · obtain ⟨o, _, _, _, e, ex, _⟩ := I.hok p _ hk
      refine ⟨⟨o, e, ex.1⟩, fun a e2 => ?_⟩
      cases e2
      exact ⟨o, e, ex.2.1⟩
  | _ => exact False.elim ty
def tBM0 (K : PySem.W.Frag) (T : String) (r : V → List V → Hp → VK → Prop) (to : TE) : TE := fun σ H Q => to σ H fun x H1 => tyV K T x H1 ∧ r x [] H1 Q
def tBM (K : PySem.W.Frag) (T : String) (r : V → List V → Hp → VK → Prop) (to : TE) (t : TA) : TE := fun σ H Q => to σ H fun x H1 => tyV K T x H1 ∧ t σ H1 fun xs H2 => r x xs H2 Q
variable {o e : Expr} {es : List Expr} {to : TE} {t : TA} {name : Str} {apos cpos : Pos} {T id : String} {r : V → List V → Hp → VK → Prop}
theorem pe_bm0 (pa : PlainAttrs T) (slot : Slot T name id) (hty : typeOf (.builtin id) = pure (.type "method_descriptor")) (hm : MtR X id r) (ho : PE X o to)
    (hbase : attributeBase o name X.env (eval o X.env) = eval o X.env := by rfl) (hline : (apos.endLine == cpos.line) = true := by rfl) : PE X (.Call (.Attribute o name apos) [] [] cpos) (tBM0 X.K T r to) := by
  intro pins s σ H Q I h
  refine wpAny_Call_method0_late hbase hline (thn (ho pins s σ H _ I h) fun v s1 ⟨x, H1, I1, r1, ty, q1⟩ => ?_)
  obtain ⟨h1, h2⟩ := tyV_is I1 r1 ty
  exact ⟨T, id, pa, slot, hty, h1, h2, Calls.callWith_builtin rfl (PySem.evalArgs_none (hm pins s1 σ H1 x [] v [] Q I1 r1 .nil q1))⟩
theorem pe_bm (pa : PlainAttrs T) (slot : Slot T name id) (hty : typeOf (.builtin id) = pure (.type "method_descriptor")) (hm : MtR X id r) (ho : PE X o to) (ha : PA X (e :: es) t)
    (hbase : attributeBase o name X.env (eval o X.env) = eval o X.env := by rfl)
    (hfew : ((backTo cpos (starEach (e :: es) X.env)).all (fun x => !x.1) && (backToKw cpos (keywordEach [] X.env)).all (fun x => x.1.isSome)
      && decide ((e :: es).length + ([] : List Keyword).length + (if ([] : List Keyword).isEmpty then 0 else 1) < 30)) = true := by rfl)
    (hline : (apos.endLine == cpos.line) = true := by rfl) (hs : starEach (e :: es) X.env = (false, eval e X.env) :: starEach es X.env := by rfl) (hplain : (backTo cpos (starEach es X.env)).any (·.1) = false := by rfl) :
    PE X (.Call (.Attribute o name apos) (e :: es) [] cpos) (tBM X.K T r to t) := by
  intro pins s σ H Q I h
  refine wpAny_Call_method_late hbase hfew hline rfl (thn (ho pins s σ H _ I h) fun v s1 ⟨x, H1, I1, r1, ty, q1⟩ => ?_)
  obtain ⟨h1, h2⟩ := tyV_is I1 r1 ty
  refine ⟨T, id, pa, slot, hty, h1, h2, ?_⟩
  have hA := ha cpos pins s1 σ H1 _ I1 q1
  rw [hs] at hA ⊢
  refine Calls.callWith_builtin (by show (false || (backTo cpos (starEach es X.env)).any (·.1)) = false; rw [hplain] <;> rfl) (Calls.evalArgs_plain ?_)
  exact thn hA fun us s2 ⟨vs, H2, I2, r2, q2⟩ => hm pins s2 σ H2 x vs v us Q I2 r1 r2 q2
/- xs.append(e), list.index on a module's tuple .. are MtR facts of 06m -/
end
end L2
namespace L2
open PySem PySem.Spec PyProof.Rows
def MtM (X : Cx) (id : String) (r : V → List V → Hp → VK → Prop) : Prop :=
  ∀ (pins : List (Addr × Obj)) (s : Shared) (σ : St) (H : Hp) (x : V) (xs : List V) (v : Value) (us : List Value) (Q : VK), Inv X pins σ H s → RelV x v → Vals xs us → r x xs H Q →
    wpAny (model X.prog X.w) X.A (call (.builtin id) (v :: us)) (EP X pins σ Q) X.xe s
theorem Vals.one : ∀ {x : V} {us : List Value}, Vals [x] us → ∃ u, us = [u] ∧ RelV x u
  | _, _, .cons r .nil => ⟨_, rfl, r⟩
theorem Vals.two : ∀ {x y : V} {us : List Value}, Vals [x, y] us → ∃ u v, us = [u, v] ∧ RelV x u ∧ RelV y v
  | _, _, _, .cons r (.cons q .nil) => ⟨_, _, rfl, r, q⟩
theorem Vals.zero : ∀ {us : List Value}, Vals [] us → us = []
  | _, .nil => rfl
theorem Vals.dropLast {xs : List V} {us : List Value} (h : Vals xs us) : Vals xs.dropLast us.dropLast := by
  induction h with
  | nil => exact .nil
  | cons r t ih =>
    cases t with
    | nil => exact .nil
    | cons q t' => exact .cons r ih
theorem Vals.eraseIdx : ∀ {xs : List V} {us : List Value} (i : Nat), Vals xs us → Vals (xs.eraseIdx i) (us.eraseIdx i)
  | _, _, _, .nil => .nil
  | _, _, 0, .cons _ t => t
  | _, _, i + 1, .cons r t => .cons r (Vals.eraseIdx i t)
theorem Vals.reverse {xs : List V} {us : List Value} (h : Vals xs us) : Vals xs.reverse us.reverse := by
  induction h with
  | nil => exact .nil
  | cons r t ih => rw [List.reverse_cons, List.reverse_cons]; exact Vals.append ih (.cons r .nil)
theorem erase_last {α : Type} (l : List α) : l.eraseIdx (l.length - 1) = l.dropLast := by
  induction l with
  | nil => rfl
  | cons a r ih =>
    cases r with
    | nil => rfl
    | cons b r =>
      have e : (a :: b :: r).length - 1 = ((b :: r).length - 1) + 1 := by
        have h1 : (a :: b :: r).length = r.length + 2 := rfl
        have h2 : (b :: r).length = r.length + 1 := rfl
        lia
      rw [e, List.eraseIdx_cons_succ, ih]
      all_goals rfl
section
variable {X : Cx} {pins : List (Addr × Obj)} {σ : St} {H : Hp} {s : Shared} {l b : Addr} {xs ys zs : List V}
theorem Inv.lset {its its' : List Value} {n : Nat} {f : Array Value → Array Value} {t' : Nat} (I : Inv X pins σ H s) (hH : H l = some (.lst xs))
    (e : s.heap.get? l = some { cls := .type "list", data := .seq its.toArray n }) (hf : f its.toArray = its'.toArray) (hv : Vals ys its') (hz : ys.length ≤ sizeLine) :
    Inv X pins σ (upd H l (.lst ys)) { s with heap := s.heap.update l (Obj.mapSeq f), toks := t' } := by
  have q := PySem.IsL.update e f
  rw [hf] at q
  refine I.write (x := l) (e := l) (by rw [hH]; exact trivial) (.inl rfl) (fun b' u hb hu => (Heap.get?_update_other s.heap (Obj.mapSeq f) (Ne.symm hb)).trans hu) ⟨_, q⟩ ?_
  exact ⟨hz, its', _, hv, q⟩
theorem Inv.lnew {its : List Value} {t' : Nat} (I : Inv X pins σ H s) (hv : Vals ys its) (hz : ys.length ≤ sizeLine) :
    Inv X pins σ (upd H s.heap.objs.size (.lst ys)) { s with heap := s.heap.push { cls := .type "list", data := .seq its.toArray }, toks := t' } :=
  I.laid (fun _ _ q => Heap.get?_push_of_some _ q) (Nat.le_refl _) ⟨hz, its, 0, hv, Heap.get?_push_size _ rfl⟩
theorem Inv.fresh (I : Inv X pins σ H s) : H s.heap.objs.size = none := I.hok.fresh (Nat.le_refl _)
theorem Inv.lstM (I : Inv X pins σ H s) (hH : H l = some (.lst xs)) : xs.length ≤ sizeLine ∧ ∃ (its : List Value) (n : Nat), Vals xs its ∧ xs.length = its.length ∧ s.heap.get? l = some { cls := .type "list", data := .seq its.toArray n } := by
  obtain ⟨z, its, n, r, e⟩ := I.hok l _ hH
  exact ⟨z, its, n, r, r.length, e⟩
theorem notLongL {n : Nat} (h : n ≤ sizeLine) : Builtin.List.listTooLong n = false := by
  unfold Builtin.List.listTooLong
  exact decide_eq_false (by lia)
end
section
variable {X : Cx}
def rAppend : V → List V → Hp → VK → Prop := fun x vs H Q => ∃ l xs y, x = .ref l ∧ vs = [y] ∧ H l = some (.lst xs) ∧ xs.length < sizeLine ∧ Q .non (upd H l (.lst (xs ++ [y])))
theorem mt_append : MtM X "list.append" rAppend := by
  intro pins s σ H x vs v us Q I rx rv h
  obtain ⟨l, xs, y, rfl, rfl, hH, hz, q⟩ := h
  cases rx
  obtain ⟨u, rfl, ru⟩ := rv.one
  obtain ⟨z, its, n, r, hl, e⟩ := I.lstM hH
  refine call_meets F.slot_list_append ⟨_, e, rfl⟩ F.entry_list_append (F.args_list_append_2 _ _) (PySem.list_append l its.toArray n u (by rw [List.size_toArray]; lia)) ⟨e, ?_⟩
  refine ⟨.non, _, I.lset (its' := its ++ [u]) hH e (by simp) (r.append (.cons ru .nil)) ?_, rfl, q⟩
  rw [List.length_append, List.length_singleton]
  lia
def rExtend : V → List V → Hp → VK → Prop := fun x vs H Q => ∃ l b xs zs, x = .ref l ∧ vs = [.ref b] ∧ H l = some (.lst xs) ∧ H b = some (.lst zs) ∧ xs.length + zs.length ≤ sizeLine ∧ Q .non (upd H l (.lst (xs ++ zs)))
theorem mt_extend : MtM X "list.extend" rExtend := by
  intro pins s σ H x vs v us Q I rx rv h
  obtain ⟨l, b, xs, zs, rfl, rfl, hH, hB, hz, q⟩ := h
  cases rx
  obtain ⟨u, rfl, ru⟩ := rv.one
  cases ru
  obtain ⟨z, its, n, r, hl, e⟩ := I.lstM hH
  obtain ⟨z2, its2, n2, r2, hl2, e2⟩ := I.lstM hB
  have hsz : its.toArray.size + its2.toArray.size ≤ sizeLine := by rw [List.size_toArray, List.size_toArray]; lia
  have hlong : ¬ (!its.toArray.isEmpty && Builtin.List.listTooLong (its.toArray.size + its2.toArray.size)) = true := by
    rw [notLongL hsz, Bool.and_false]
    exact Bool.false_ne_true
  refine call_meets F.slot_list_extend ⟨_, e, rfl⟩ F.entry_list_extend (F.args_list_extend_2 _ _)
    (AutoSeq1.list_extend_list_list_0 l its.toArray n b its2.toArray n2 hlong (by rw [List.size_toArray]; lia) (by lia)) ⟨e, e2, ?_⟩
  refine ⟨.non, _, I.lset (its' := its ++ its2) hH e (by simp) (r.append r2) ?_, rfl, q⟩
  rw [List.length_append]
  lia
def rPop : V → List V → Hp → VK → Prop := fun x vs H Q => ∃ l xs y, x = .ref l ∧ vs = [] ∧ H l = some (.lst xs) ∧ xs[xs.length - 1]? = some y ∧ Q y (upd H l (.lst xs.dropLast))
theorem mt_pop : MtM X "list.pop" rPop := by
  intro pins s σ H x vs v us Q I rx rv h
  obtain ⟨l, xs, y, rfl, rfl, hH, hy, q⟩ := h
  cases rx
  have hus := rv.zero
  subst hus
  obtain ⟨z, its, n, r, hl, e⟩ := I.lstM hH
  obtain ⟨u, hu, ru⟩ := r.get hy
  have hy' : its.toArray[its.toArray.size - 1]? = some u := by
    show its.toArray[its.length - 1]? = some u
    rw [← Array.getElem?_toList, ← hl]
    exact hu
  refine call_meets F.slot_list_pop ⟨_, e, rfl⟩ F.entry_list_pop (F.args_list_pop_1 _) (MeetsSeq.list_pop_last l its.toArray n u hy' (by rw [List.size_toArray]; lia)) ⟨e, ?_⟩
  refine ⟨y, _, I.lset (its' := its.dropLast) hH e ?_ r.dropLast ?_, ru, q⟩
  · show its.toArray.eraseIdxIfInBounds (its.toArray.size - 1) = its.dropLast.toArray
    rw [List.size_toArray, List.eraseIdxIfInBounds_toArray, erase_last]
  · rw [List.length_dropLast]
    lia
def rCat : R2 := fun x y H Q => ∃ l b xs zs, x = .ref l ∧ y = .ref b ∧ H l = some (.lst xs) ∧ H b = some (.lst zs) ∧ xs.length + zs.length ≤ sizeLine ∧ ∀ p, H p = none → Q (.ref p) (upd H p (.lst (xs ++ zs)))
theorem op_cat : OpR X (binaryOp .Add) rCat := by
  intro pins s σ H x y v u Q I rx ry h
  obtain ⟨l, b, xs, zs, rfl, rfl, hH, hB, hz, q⟩ := h
  cases rx
  cases ry
  obtain ⟨z, its, n, r, hl, e⟩ := I.lstM hH
  obtain ⟨z2, its2, n2, r2, hl2, e2⟩ := I.lstM hB
  refine PySem.P.add_list e e2 ?_ (by rw [List.size_toArray, List.size_toArray]; lia)
  have ea : its.toArray ++ its2.toArray = (its ++ its2).toArray := by simp
  rw [ea]
  exact ⟨.ref _, _, I.lnew (t' := s.toks) (r.append r2) (by rw [List.length_append]; lia), rfl, q _ I.fresh⟩
theorem len_rep {α : Type} (xs : List α) (k : Nat) : (List.replicate k xs).flatten.length = k * xs.length := by
  induction k with
  | zero => simp
  | succ k ih => rw [List.replicate_succ, List.flatten_cons, List.length_append, ih, Nat.succ_mul, Nat.add_comm]
end
section
variable {prog : Program} {w : World} {A : Around} {E : Value → Shared → Prop} {s : Shared}
end
section
variable {X : Cx}
end
end L2
namespace Att
open PySem PySem.W PySem.Calls PyProof.Rows
theorem ints_of_wellAll {P : Params} {h : Heap} : ∀ (ns : List Int) (vs : List Value), WellAll P h vs (ns.map WData.int) → IntsAre vs ns := by
  intro ns
  induction ns with
  | nil =>
    intro vs w
    rw [List.map_nil] at w
    cases w
    exact .nil
  | cons n ns ih =>
    intro vs w
    rw [List.map_cons] at w
    cases w with
    | cons a b =>
      cases a
      exact .cons _ _ (ih _ b)
theorem script_of {l : OpenLaw} {n : Nat} (hn : l.most = some n) {P : Params} {h : Heap} {args : List WData} {vals : List Value}
    (hpre : l.row.toRowW.claim.pre args = true) (hwl : WellAll P h vals args) :
    ∃ a vs ns, vals = [Value.ref a] ∧ args = [WData.list (ns.map WData.int)] ∧ h.get? a = some { cls := .type "list", data := .seq vs.toArray } ∧ IntsAre vs ns ∧ ns.length ≤ n := by
  have hsh : WShape.hasAll [] args [.list .int] = true := (pre_splitW hpre).1
  have hc : l.pre.holds [] { args := args } = true := (pre_splitW hpre).2
  obtain ⟨d, r, rfl, h1, h2⟩ := hasAllW_cons hsh
  obtain rfl := hasAllW_nil h2
  obtain ⟨xs, rfl, h3⟩ := hasW_list h1
  obtain ⟨ns, rfl⟩ := items_int h3
  have hlen : ns.length ≤ n := by
    unfold OpenLaw.pre at hc
    have h4 : (WTm.not (.lt (.lit (.int (n : Int))) (.len (.arg 0)))).holds [] { args := [.list (ns.map .int)] } = true := by
      have h4 := (holds_andW hc).1
      rw [hn] at h4
      exact h4
    have h5 := condW_of h4 (w_not (w_lt w_lit (w_len_list (w_arg rfl))))
    rw [List.length_map] at h5
    refine Nat.le_of_not_lt fun q => ?_
    have q' : (n : Int) < ((ns.length : Nat) : Int) := by lia
    first
      | (rw [decide_eq_true q'] at h5; exact absurd h5 (by decide))
      | (simp at h5; lia)
  cases hwl with
  | cons w1 w2 =>
    cases w2
    cases w1 with
    | list ho hall => exact ⟨_, _, ns, rfl, rfl, ho, ints_of_wellAll ns _ hall, hlen⟩
theorem post_true (l : OpenLaw) (args : List WData) : l.row.toRowW.claim.post args (.bool true) args = true :=
  postW_of (r := l.row.toRowW) (X := (true == true))
    (show WShape.has [] (.bool true) .bool = true by first | rfl | decide | simp [WShape.has, WShape.arms, WShape.armsAll])
    (show (WTm.eq .res (.lit (.bool true))).value [] { args := args, res := some (.bool true), after := args } = some (.bool (true == true)) from w_eq_bool (w_res rfl) w_lit) rfl
section
variable {prog : Program} {w : World} {A : Around} {E : Value → Shared → Prop} {s : Shared} {K : Frag}
noncomputable def ledger (h : Heap) (L d : Addr) : List (Addr × Obj) := (List.range h.objs.size).filterMap fun a => if a = L ∨ a = d then none else (h.get? a).map fun o => (a, o)
end
end Att
namespace L2
open PySem PySem.Spec PyProof.Rows
theorem vals_ints : ∀ {vs : List Value} {ns : List Int}, IntsAre vs ns → Vals (ns.map V.int) vs
  | _, _, .nil => .nil
  | _, _, .cons n t h => .cons ⟨t, rfl⟩ (vals_ints h)
def Only (H : Hp) : Prop := ∀ b, H b = none ∨ ∃ o xs, H b = some (.frz o (.lst xs))
theorem law_call {P : Program} {w : World} {K : PySem.W.Frag} {mg mb : Str → Option Value} {CX : CXT} {k : Nat} {fa a : Addr} {fd : FuncData} {x : Str} {sp : Sp} {s₁ : Shared} {vs : List Value} {ns : List Int}
    (KX : K.In s₁.heap) (hns : s₁.heap.Ns mainGlobals mg) (hb : s₁.heap.Ns builtinsNs mb) (hbb : ∀ x : Str, x ≠ "__name__" → mb x = bootBuiltins x) (hlim : s₁.heap.NoLimit) (hg : s₁.gens = #[])
    (ha : s₁.heap.get? a = some { cls := .type "list", data := .seq vs.toArray }) (hi : IntsAre vs ns) (hl : ns.length ≤ sizeLine) (hr : Room k callerA)
    (F : ∀ base : Heap, K.In base → base.Ns mainGlobals mg → FnOk P w K mg base CX k fa fd [x] sp) (hbind : ∀ (s : Shared) (u : Value), BindsTo s fd ⟨[u], []⟩ [(x, u)])
    (hsp : ∀ H : Hp, Only H → SqL K H a (ns.map V.int) → sp [.ref a] H (fun v _ => v = .bl true) fun _ _ _ => False)
    (hCX : ∀ H e s', CX [] H s₁ (fun _ _ _ => False) e s' → False) :
    codeAny (model P w) callerA (.call (.ref fa) ⟨[.ref a], []⟩) (fun r s' => r = .ok (.ret (.bool true)) ∧ OldK s₁.heap s'.heap ∧ s'.os = s₁.os ∧ AllBare s'.gens) s₁ := by
  have rv := vals_ints hi
  have lenV := hi.length
  have core : ∀ H : Hp, Only H → SqL K H a (ns.map V.int) → HOk P w H s₁.heap → (∀ b, H b ≠ none → b = a) → (H a ≠ none → K.lookup a = none) →
      codeAny (model P w) callerA (.call (.ref fa) ⟨[.ref a], []⟩) (fun r s' => r = .ok (.ret (.bool true)) ∧ OldK s₁.heap s'.heap ∧ s'.os = s₁.os ∧ AllBare s'.gens) s₁ := by
    intro H hO hS hok hA hK
    have base_of : ∀ {b : Addr} {o : Obj}, s₁.heap.get? b = some o → H b = none → (hidT s₁.heap H).get? b = some o := fun e n => hidT_get e n
    have noA : ∀ {b : Addr} {o : Obj} {es : Array DictEntry} {ep : Nat}, s₁.heap.get? b = some o → o.data = .dict es ep → H b = none := fun {b o es ep} e d => by
      cases q : H b with
      | none => rfl
      | some u =>
        have e' : b = a := hA b (by rw [q]; simp)
        subst e'
        rw [ha] at e; cases e
        have d' : Data.seq vs.toArray _ = Data.dict es ep := d
        cases d'
    have nsK : ∀ {b : Addr} {m : Str → Option Value}, s₁.heap.Ns b m → (hidT s₁.heap H).Ns b m := fun {b m} ⟨o, es, ep, e, d, r⟩ => ⟨o, es, ep, base_of e (noA e d), d, r⟩
    have hKb : K.In (hidT s₁.heap H) := fun b o e => base_of (KX b o e) (by
      cases q : H b with
      | none => rfl
      | some u =>
        have e' : b = a := hA b (by rw [q]; simp)
        subst e'
        rw [hK (by rw [q]; simp)] at e; cases e)
    have hM : Mod K mg (hidT s₁.heap H) := ⟨hKb, nsK hns, ⟨mb, nsK hb, hbb⟩, let ⟨mc, h1, h2⟩ := hlim; ⟨mc, nsK h1, h2⟩⟩
    have e0 : Env0 P w K mg (hidT s₁.heap H) callerA [] s₁ H := ⟨rfl, hM, fun b o e => of_hidT e, Nat.le_of_eq (hidT_size _ _), trivial, fun b hb => absurd (show b ∈ ([] : List Addr) from hb) (by simp), hok, .of_eq hg⟩
    refine codeAny_mono ((F _ hKb (nsK hns)).run callerA [] s₁ H ⟨[.ref a], []⟩ [.ref a] [.ref a] _ _ hr e0 (hbind s₁ (.ref a)) (.cons rfl .nil) (hsp H hO hS)) fun r s' h => ?_
    cases r with
    | error e => exact (hCX H e s' h).elim
    | ok fl =>
      cases fl with
      | next => exact False.elim h
      | brk => exact False.elim h
      | cont => exact False.elim h
      | ret u =>
        obtain ⟨v, H', os, bare, un, hok', r', q⟩ := h
        have q' : v = .bl true := q
        subst q'
        obtain rfl : u = Value.bool true := r'
        refine ⟨rfl, OldK.of_keep fun b o e => ?_, os, bare⟩
        cases q : H b with
        | none => exact un.keep b o e q (by intro z; exact absurd (show b ∈ ([] : List Addr) from z) (by simp)) (by simp)
        | some u =>
          rcases hO b with z | ⟨ob, xs, z⟩
          · rw [q] at z; cases z
          · have z2 := un.frzs b ob _ z
            obtain ⟨e1, _⟩ := hok b _ z
            obtain ⟨e2, _⟩ := hok' b _ z2
            rw [e] at e1; cases e1
            exact e2
  cases hk : K.lookup a with
  | some o =>
    have e := KX a o hk
    rw [ha] at e
    cases e
    refine core (fun _ => none) (fun _ => .inl rfl) (.inr ⟨_, vs.toArray, _, hk, rfl, rfl, rfl, by rw [List.size_toArray, lenV]; exact hl, by simpa using rv⟩) (fun b u z => by have z' : (none : Option HO) = some u := z; cases z') (fun b z => absurd rfl z) fun z => absurd rfl z
  | none =>
    refine core (fun b => if b = a then some (.frz { cls := .type "list", data := .seq vs.toArray } (.lst (ns.map V.int))) else none) (fun b => ?_) (.inl (.inr ⟨{ cls := .type "list", data := .seq vs.toArray }, if_pos rfl⟩)) (fun b u z => ?_) (fun b z => ?_) fun _ => hk
    · by_cases hb : b = a
      · exact .inr ⟨_, _, if_pos hb⟩
      · exact .inl (if_neg hb)
    · by_cases hb : b = a
      · have z' := (if_pos hb).symm.trans z
        cases z'
        subst hb
        exact ⟨ha, by rw [List.length_map]; exact hl, vs, _, rv, ha⟩
      · have z' := (if_neg hb).symm.trans z
        cases z'
    · by_cases hb : b = a
      · exact hb
      · exact absurd (if_neg hb) z
end L2
namespace L2
open PySem PySem.Spec PyProof.Rows
end L2
namespace L2
open PySem PySem.Spec PyProof.Rows
noncomputable def inClass (s : Stmt) (j : Nat) : Stmt := match s with
  | .ClassDef _ _ _ body _ _ _ _ _ _ _ => body.getD j (.Pass ⟨0, 0, 0, 0⟩)
  | _ => .Pass ⟨0, 0, 0, 0⟩
noncomputable def defArgs (s : Stmt) : Arguments := match s with
  | .FunctionDef _ a _ _ _ _ _ _ _ _ => a
  | _ => { posonlyargs := [], args := [], vararg := none, kwonlyargs := [], kw_defaults := [], kwarg := none, defaults := [] }
noncomputable def defBody (s : Stmt) : List Stmt := match s with
  | .FunctionDef _ _ b _ _ _ _ _ _ _ => b
  | _ => []
noncomputable def defScope (s : Stmt) : Scope := match s with
  | .FunctionDef _ _ _ _ _ _ sc _ _ _ => sc
  | _ => { kind := .function, names := [], isGenerator := false, isCoroutine := false }
abbrev CX0 : CXT := fun _ _ _ _ _ _ => False
noncomputable abbrev E0 : XK := fun _ _ _ => False
theorem pass0 {X : Cx} : Passes CX0 X E0 := fun _ _ _ _ _ _ _ h => h.elim
structure Fun (K : PySem.W.Frag) (x qual : Str) (st : Stmt) (f : Addr) (fd : FuncData) : Prop where
  ex : ∃ (oc : Value) (od : Option Addr) (kV doc pm : Value) (an : Option Addr) (cdv ct : Value) (osl : Array (Option Value)),
    fd = PySem.W.fnOf x qual (defArgs st) (defBody st) (defScope st) .none kV doc pm an cdv ct ∧ K.lookup f = some ⟨oc, od, .func fd, osl⟩ ∧ PySem.W.codeIn K cdv qual = true
  kp : PySem.W.keepIn K (.ref f) = true
section
variable {P : Program} {w : World} {K : PySem.W.Frag} {mg : Str → Option Value} {base : Heap}
theorem Fun.ok {x qual : Str} {st : Stmt} {f : Addr} {fd : FuncData} {N ps : List Str} {k : Nat} {sp : Sp} (F : Fun K x qual st f fd) (S : FnScope N ps (defScope st)) (len : ∀ vs H Q E, sp vs H Q E → vs.length = ps.length)
    (hbody : ∀ (cdv : Value) (A : Around) (outer : List Env) (s : Shared) (H : Hp) (vs : List V) (Q : VK) (E : XK), Room k (A.deeper (envOfC qual (defScope st) s.heap.objs.size f cdv)) → sp vs H Q E →
      ∃ t, PSs (cxOf CX0 P w K mg base N qual (defScope st) f cdv A outer s H E).nox (defBody st) t ∧ t { nx := fun _ H' => Q .non H', rt := Q } (start N vs) H) : FnOk P w K mg base CX0 (k + 1) f fd ps sp := by
  obtain ⟨oc, od, kV, doc, pm, an, cdv, ct, osl, rfl, lk, hcd⟩ := F.ex
  refine fn_of lk hcd S len fun A outer s H vs Q E hr hsp => ?_
  obtain ⟨t, h, q⟩ := hbody cdv A outer s H vs Q E hr hsp
  exact ⟨t, h.nox, q⟩
theorem Fun.binds {x qual : Str} {st : Stmt} {f : Addr} {fd : FuncData} {ps : List Str} (F : Fun K x qual st f fd)
    (h : ∀ (kV doc pm : Value) (an : Option Addr) (cdv ct : Value) (us : List Value), us.length = ps.length → bindArgs (PySem.W.fnOf x qual (defArgs st) (defBody st) (defScope st) .none kV doc pm an cdv ct) ⟨us, []⟩ = pure (ps.zip us)) : Binds K fd ps [] := by
  obtain ⟨oc, od, kV, doc, pm, an, cdv, ct, osl, rfl, lk, hcd⟩ := F.ex
  exact .all (h kV doc pm an cdv ct)
theorem fun_mk {x qual : Str} {st : Stmt} {f : Addr} {oc : Value} {od an : Option Addr} {osl : Array (Option Value)} {kV doc pm cdv ct : Value} (l : K.lookup f = some ⟨oc, od, .func (PySem.W.fnOf x qual (defArgs st) (defBody st) (defScope st) .none kV doc pm an cdv ct), osl⟩)
    (c : PySem.W.codeIn K cdv qual = true) (k : PySem.W.keepIn K (.ref f) = true) : Fun K x qual st f (PySem.W.fnOf x qual (defArgs st) (defBody st) (defScope st) .none kV doc pm an cdv ct) := ⟨⟨oc, od, kV, doc, pm, an, cdv, ct, osl, rfl, l, c⟩, k⟩
end
section
variable {X : Cx}
theorem pv (i : Nat) {x : Str} {pos : Pos} (hN : X.N[i]? = some x := by rfl) (hv : Vis X.env.scope x := by first | exact Or.inl rfl | exact Or.inr (.inl rfl) | exact Or.inr (Or.inr rfl)) (hd : (x == ("__debug__" : Str)) = false := by decide)
    (hcd : (x == ("__classdict__" : Str)) = false := by decide) : PE X (.Name x pos) (tVar i) := pe_var hN hv hd hcd
end
theorem iteF {A B : Prop} (h : B) : if false = true then A else B := by
  rw [if_neg Bool.false_ne_true]
  exact h
theorem iteT {A B : Prop} (h : A) : if true = true then A else B := by
  rw [if_pos rfl]
  exact h
theorem ite2 {c A B : Prop} [Decidable c] (h1 : c → A) (h2 : ¬ c → B) : if c then A else B := by
  by_cases h : c
  · rw [if_pos h]
    exact h1 h
  · rw [if_neg h]
    exact h2 h
def Same (H H' : Hp) : Prop := ∀ b o, H b = some o → H' b = some o
theorem Same.refl (H : Hp) : Same H H := fun _ _ h => h
theorem Same.trans {H H1 H2 : Hp} (a : Same H H1) (b : Same H1 H2) : Same H H2 := fun c o h => b c o (a c o h)
theorem Same.free {H H' : Hp} (e : Same H H') {l : Addr} (h : H' l = Option.none) : H l = Option.none := by
  cases q : H l with
  | none => rfl
  | some o =>
    rw [e l o q] at h
    cases h
theorem Same.seq {K : PySem.W.Frag} {H H' : Hp} {a : Addr} {xs : List V} (e : Same H H') (h : SqL K H a xs) : SqL K H' a xs := by
  rcases h with (h | ⟨o, h⟩) | h
  · exact .inl (.inl (e _ _ h))
  · exact .inl (.inr ⟨o, e _ _ h⟩)
  · exact .inr h
end L2
set_option Elab.async false
set_option linter.all false
set_option maxRecDepth 100000
set_option maxHeartbeats 4000000
namespace L3
open PySem PySem.Spec PyProof.Rows L2
noncomputable abbrev St := L2.St
noncomputable abbrev cs (x : Str) : List Nat := x.cps.toList
noncomputable abbrev tx (l : List Nat) : Str := ⟨l.toArray⟩
theorem tx_cs (x : Str) : tx (cs x) = x := by cases x; rfl
theorem cs_tx (l : List Nat) : cs (tx l) = l := rfl
theorem len_cs (x : Str) : x.length = (cs x).length := by simp [Str.length, cs]
theorem len_tx (l : List Nat) : (tx l).length = l.length := by simp [Str.length, tx]
theorem cs_inj {x y : Str} (h : cs x = cs y) : x = y := by rw [← tx_cs x, ← tx_cs y, h]
theorem tx_inj {l m : List Nat} (h : tx l = tx m) : l = m := by rw [← cs_tx l, ← cs_tx m, h]
theorem tx_eq {l m : List Nat} : tx l = tx m ↔ l = m := ⟨tx_inj, fun h => by rw [h]⟩
theorem tx_append (l m : List Nat) : tx l ++ tx m = tx (l ++ m) := by
  apply cs_inj
  show (tx l ++ tx m).cps.toList = l ++ m
  rw [Str.cps_append]
  simp
noncomputable def cut {α : Type} (l : List α) (lo hi : Option Int) : List α := (l.drop (HT.sIx l.length 0 lo)).take (HT.sIx l.length l.length hi - HT.sIx l.length 0 lo)
theorem cut_len {α : Type} (l : List α) (lo hi : Option Int) : (cut l lo hi).length ≤ l.length := by
  unfold cut
  rw [List.length_take, List.length_drop]
  lia
theorem range_nat (a b : Nat) : sliceRange (a : Int) (b : Int) 1 = (List.range (b - a)).map (fun k => a + k) := by
  unfold sliceRange
  have e : (if (1 : Int) > 0 then (if (a : Int) < b then ((b : Int) - a + 1 - 1) / 1 else 0) else (if (a : Int) > b then ((a : Int) - b - 1 - 1) / (-1) else 0)).toNat = b - a := by
    rw [if_pos (by decide)]
    by_cases h : (a : Int) < b
    · rw [if_pos h, Int.ediv_one]; lia
    · rw [if_neg h]; lia
  show (List.range ((if (1 : Int) > 0 then (if (a : Int) < b then ((b : Int) - a + 1 - 1) / 1 else 0) else (if (a : Int) > b then ((a : Int) - b - 1 - 1) / (-1) else 0)).toNat)).map _ = _
  rw [e]
  refine List.map_congr_left fun k _ => ?_
  lia
theorem idx_cut (lo hi : Option Int) (n : Nat) : Builtin.Str.strSliceIndices lo hi 1 n = (List.range (HT.sIx n n hi - HT.sIx n 0 lo)).map (fun k => HT.sIx n 0 lo + k) := by
  rw [← range_nat]
  have clip : ∀ (v : Int) (d : Nat), max 0 (min (if v < 0 then v + (n : Int) else v) (n : Int)) = ((HT.sIx n d (some v) : Nat) : Int) := fun v d => by
    show _ = (((if v < 0 then (v + (n : Int)).toNat else min v.toNat n) : Nat) : Int)
    by_cases hv : v < 0
    · simp only [if_pos hv]; lia
    · simp only [if_neg hv]; lia
  have h1 : ((1 : Int) > 0) = True := by simp
  unfold Builtin.Str.strSliceIndices
  cases lo with
  | none =>
    cases hi with
    | none => simp only [h1, if_true]; rfl
    | some j => simp only [h1, if_true, clip j n]; rfl
  | some i =>
    cases hi with
    | none => simp only [h1, if_true, clip i 0]; rfl
    | some j => simp only [h1, if_true, clip i 0, clip j n]
theorem slice_cut (x : Str) (lo hi : Option Int) : Txt.slice x lo hi = tx (cut (cs x) lo hi) := by
  have hn : x.length = x.cps.toList.length := len_cs x
  have hj : HT.sIx x.length x.length hi ≤ x.length := HT.sIx_le _ _ (Nat.le_refl _) hi
  have hi0 : HT.sIx x.length 0 lo ≤ x.length := HT.sIx_le _ _ (Nat.zero_le _) lo
  unfold Txt.slice
  rw [idx_cut]
  split
  · rename_i h
    have h' : HT.sIx x.length x.length hi - HT.sIx x.length 0 lo = x.length := by simpa using h
    apply cs_inj
    show x.cps.toList = cut x.cps.toList lo hi
    unfold cut
    rw [← hn]
    by_cases z : x.length = 0
    · have : x.cps.toList = [] := List.eq_nil_of_length_eq_zero (by lia)
      rw [this]; simp
    · have e0 : HT.sIx x.length 0 lo = 0 := by lia
      rw [e0] at h' ⊢
      rw [h', List.drop_zero, hn, List.take_length]
  · apply cs_inj
    have h := StrLaws.picks x.cps.toList (HT.sIx x.length x.length hi - HT.sIx x.length 0 lo) (HT.sIx x.length 0 lo) (by lia)
    show (List.filterMap (fun k => x.cps[k]?) _).toArray.toList = cut x.cps.toList lo hi
    unfold cut
    rw [← hn]
    simpa using h
section
variable {X : Cx}
theorem part_of {v : Value} {o : Option Int} (p : IsPart v o) : ∃ l : Option (Int × Tok), v = partValue l ∧ l.map (·.1) = o := by
  cases p with
  | none => exact ⟨none, rfl, rfl⟩
  | int i t => exact ⟨some (i, t), rfl, rfl⟩
def rSlS : V → Option Int → Option Int → Hp → VK → Prop := fun x lo hi H Q => ∃ z, x = .str z ∧ z.length ≤ sizeLine ∧ Q (.str (tx (cut (cs z) lo hi))) H
theorem sl_str : SlR X rSlS := by
  intro pins s σ H x v vl vu lo hi sl Q I rx hs pl pu h
  obtain ⟨z, rfl, hz, q⟩ := h
  obtain ⟨t, rfl⟩ := rx
  obtain ⟨l, rfl, el⟩ := part_of pl
  obtain ⟨u, rfl, eu⟩ := part_of pu
  refine ⟨"str", _, slot_str_getitem.lookup, typeIs_str s z t, ?_⟩
  refine wpAny_getItem_str_slice (l := l) (u := u) (st := none) hs rfl ?_
  have e : Txt.slice z lo hi = tx (cut (cs z) lo hi) := slice_cut z lo hi
  have hl : (tx (cut (cs z) lo hi)).length ≤ sizeLine := by rw [len_tx]; have := cut_len (cs z) lo hi; rw [← len_cs] at this; lia
  unfold sliceMade slicePicked
  rw [el, eu]
  unfold Txt.slice at e
  by_cases hc : ((1 : Int) == 1 && (Builtin.Str.strSliceIndices lo hi 1 z.length).length == z.length) = true
  · rw [if_pos hc] at e
    have hc' : (((none : Option (Int × Tok)).map (·.1)).getD 1 == 1 && (Builtin.Str.strSliceIndices lo hi (((none : Option (Int × Tok)).map (·.1)).getD 1) z.length).length == z.length) = true := hc
    rw [if_pos hc']
    exact ⟨.str (tx (cut (cs z) lo hi)), H, I, ⟨t, by rw [← e]⟩, q⟩
  · rw [if_neg hc] at e
    have hc' : ¬ (((none : Option (Int × Tok)).map (·.1)).getD 1 == 1 && (Builtin.Str.strSliceIndices lo hi (((none : Option (Int × Tok)).map (·.1)).getD 1) z.length).length == z.length) = true := hc
    rw [if_neg hc']
    show (Str.mk ((Builtin.Str.strSliceIndices lo hi 1 z.length).filterMap (z.cps[·]?)).toArray).length ≤ sizeLine ∧ _
    rw [e]
    refine ⟨hl, ?_⟩
    exact ⟨.str (tx (cut (cs z) lo hi)), H, I.tok _, ⟨_, by
      show Value.str (Str.mk ((Builtin.Str.strSliceIndices lo hi 1 z.length).filterMap (z.cps[·]?)).toArray) _ = _
      rw [e]⟩, q⟩
theorem fold_rep (l : List Nat) : ∀ (k : Nat) (acc : Array Nat), ((List.replicate k l.toArray).foldl (· ++ ·) acc).toList = acc.toList ++ (List.replicate k l).flatten
  | 0, acc => by simp
  | k + 1, acc => by
    rw [List.replicate_succ, List.foldl_cons, fold_rep l k, List.replicate_succ, List.flatten_cons]
    simp
theorem op_mul_str : OpR X (binaryOp .Mult) (fun x y H Q => ∃ z n, x = .str z ∧ y = .int n ∧ 0 ≤ n ∧ n ≤ 1000 ∧ z.length ≤ 1000 ∧ Q (.str (tx (List.replicate n.toNat (cs z)).flatten)) H) := by
  intro pins s σ H x y v u Q I rx ry h
  obtain ⟨z, n, rfl, rfl, h0, h1, hz, q⟩ := h
  obtain ⟨t, rfl⟩ := rx
  obtain ⟨t', rfl⟩ := ry
  have hs : sizeLine = 16777216 := sizeLine_eq
  have hmul : z.length * n.toNat ≤ 1000 * 1000 := Nat.mul_le_mul hz (by lia)
  have fl : ((List.replicate n.toNat (cs z)).flatten).length = n.toNat * z.length := by rw [L2.len_rep, ← len_cs]
  refine PySem.P.mul_str ?_ (fun _ _ => ?_) (fun _ _ => ?_) ?_
  · rw [decide_eq_false (by lia), decide_eq_false (by lia)]; rfl
  · have : (1000 : Int) ≤ (2 ^ 63 - 1) / n := by
      apply Int.le_ediv_of_mul_le (by lia)
      lia
    lia
  · unfold Builtin.Str.tooLong
    exact decide_eq_false (by lia)
  · by_cases c1 : n < 1
    · rw [if_pos c1]
      have e : n.toNat = 0 := by lia
      rw [e] at q
      exact ⟨by decide, .str (tx []), H, I.tok _, ⟨_, rfl⟩, q⟩
    · rw [if_neg c1]
      by_cases c2 : (n == 1 || z.length == 0) = true
      · rw [if_pos c2]
        have e : tx (List.replicate n.toNat (cs z)).flatten = z := by
          rw [Bool.or_eq_true] at c2
          rcases c2 with c | c
          · have : n.toNat = 1 := by have := eq_of_beq c; lia
            rw [this]
            simp only [List.replicate_one, List.flatten_singleton]
          · have c0 : z.length = 0 := eq_of_beq c
            have : cs z = [] := List.eq_nil_of_length_eq_zero (by rw [← len_cs]; exact c0)
            apply cs_inj
            rw [this]
            show (List.replicate n.toNat ([] : List Nat)).flatten = []
            simp only [List.flatten_replicate_nil]
        rw [e] at q
        exact ⟨.str z, H, I, ⟨_, rfl⟩, q⟩
      · rw [if_neg c2]
        have e : (⟨(List.replicate n.toNat z.cps).foldl (· ++ ·) #[]⟩ : Str) = tx (List.replicate n.toNat (cs z)).flatten := by
          apply cs_inj
          have := fold_rep (cs z) n.toNat #[]
          have e2 : (cs z).toArray = z.cps := by cases z; rfl
          rw [e2] at this
          show (List.foldl (· ++ ·) #[] (List.replicate n.toNat z.cps)).toList = (List.replicate n.toNat (cs z)).flatten
          rw [this]
          rfl
        rw [e]
        refine ⟨by rw [len_tx, fl, Nat.mul_comm]; lia, .str _, H, I.tok _, ⟨_, rfl⟩, q⟩
theorem op_le_str : OpR X (compareOp .LtE) (fun x y H Q => ∃ i j, x = .str i ∧ y = .str j ∧ Q (.bl (!(decide (cs j < cs i)))) H) := by
  intro pins s σ H x y v u Q I rx ry h
  obtain ⟨i, j, rfl, rfl, q⟩ := h
  obtain ⟨t, rfl⟩ := rx
  obtain ⟨t', rfl⟩ := ry
  exact PySem.P.le_str ⟨.bl _, H, I, rfl, q⟩
theorem in_one (x : Str) (c : Nat) : (!(Builtin.Str.occurrences x (tx [c]) 0 x.length 1).isEmpty) = decide (c ∈ cs x) := StrLaws.found_one x c
theorem mt_count : MtR X "str.count" (fun x xs H Q => ∃ z y, x = .str z ∧ xs = [.str y] ∧ Q (.int (Txt.count z y)) H) := by
  intro pins s σ H x xs v us Q I rx rv h
  obtain ⟨z, y, rfl, rfl, q⟩ := h
  obtain ⟨t, rfl⟩ := rx
  obtain ⟨u, rfl, t', rfl⟩ := vals1 rv
  exact PySem.SC.count ⟨.int _, H, I.tok _, ⟨_, rfl⟩, q⟩
theorem mt_find : MtR X "str.find" (fun x xs H Q => ∃ z y, x = .str z ∧ xs = [.str y] ∧ Q (.int (Txt.find z y)) H) := by
  intro pins s σ H x xs v us Q I rx rv h
  obtain ⟨z, y, rfl, rfl, q⟩ := h
  obtain ⟨t, rfl⟩ := rx
  obtain ⟨u, rfl, t', rfl⟩ := vals1 rv
  exact PySem.SC.find ⟨.int _, H, I.tok _, ⟨_, rfl⟩, q⟩
end
end L3
set_option Elab.async false
set_option linter.all false
set_option maxRecDepth 100000
set_option maxHeartbeats 4000000
namespace L3
open PySem PySem.Spec PyProof.Rows L2
section
variable {X : Cx} {pins : List (Addr × Obj)} {σ : St} {H : Hp} {s : Shared} {fp : List Addr} {h' : Heap} {t' : Nat}
theorem Inv.turns (I : Inv X pins σ H s) (k : ∀ b o, b ∉ fp → s.heap.get? b = some o → h'.get? b = some o) (hf : ∀ b ∈ fp, FpOk X pins H b) : Inv X pins σ H { s with heap := h', toks := t' } := by
  have nit : ∀ b u, H b = some u → b ∉ fp := fun b u e z => by rw [(hf b z).1] at e; cases e
  refine I.step (g' := s.gens) (d' := s.drawn) (ch := fp) (fun b hb => ?_) (fun b o _ _ hc e _ => k b o hc e) (fun b o _ _ hc e _ => ⟨o.slots, k b o hc e⟩) (fun _ _ _ _ n => n)
    (fun b o hc e => ⟨o, k b o hc e⟩) (fun _ _ e => e) (fun _ _ _ e => e) (fun b ps e => ⟨#[], by rw [e]; simp⟩) (fun m hm => ?_) (fun b u e => ?_) I.bare
  · obtain ⟨_, a1, _, a3, a4, a5⟩ := hf b hb
    exact ⟨a3, a1, a4, a5⟩
  · obtain ⟨o, es, ep, ho, r⟩ := hm
    exact ⟨o, es, ep, k _ o (fun z => (hf _ z).2.1 rfl) ho, r⟩
  · refine (I.hok b u e).stay (fun c v hc q => k c v ?_ q) (fun _ q => q) fun _ _ q => q
    rcases hc with z | z
    · rw [z]; exact nit b u e
    · exact nit c _ z
theorem Inv.track {a : Addr} {o : HO} (I : Inv X pins σ H s) (fa : FpOk X pins H a) (new : ObjOk X.prog X.w (upd H a o) s.heap a o) : Inv X pins σ (upd H a o) s := by
  obtain ⟨a0, a1, a2, a3, a4, a5⟩ := fa
  have e : s = { s with heap := s.heap, gens := s.gens, drawn := s.drawn, toks := s.toks } := rfl
  rw [e]
  refine I.step (g' := s.gens) (d' := s.drawn) (ch := [a]) (fun b hb => ?_) (fun b o _ _ _ e _ => e) (fun b o _ _ _ e _ => ⟨o.slots, e⟩) (fun b o hc _ n => ?_)
    (fun b o _ e => ⟨o, e⟩) (fun b xs e => ?_) (fun b u xs e => ?_) (fun b ps e => ?_) (fun m hm => hm) (fun b u e => ?_) I.bare
  · have eb : b = a := by simpa using hb
    subst eb
    exact ⟨a3, a1, a4, a5⟩
  · rw [upd_ne (by simpa using hc)]; exact n
  · rw [upd_ne (ne_of_none e a0)]; exact e
  · rw [upd_ne (ne_of_none e a0)]; exact e
  · exact ⟨#[], by rw [upd_ne (ne_of_none e a0), e]; simp⟩
  · by_cases hb : b = a
    · subst hb; rw [upd_same] at e; cases e; exact new
    · rw [upd_ne hb] at e
      exact (I.hok b u e).stay (fun c v _ q => q) (fun c q => by rw [upd_ne (ne_of_none q a0)]; exact q) fun c xs q => by rw [upd_ne (ne_of_none q a0)]; exact q
end
noncomputable def Its (x : Str) : It := ⟨fun i _ => i < (cs x).length, fun i H v H' => H' = H ∧ ∃ c, (cs x)[i]? = some c ∧ v = .str (tx [c]), fun i _ => i = (cs x).length⟩
theorem turn_str {P : Program} {w : World} {K : PySem.W.Frag} {tg : Expr} {ty : String} (hty : ["enumerate", "zip", "dict_itemiterator", "dict_reverseitemiterator", "odict_iterator", "itertools.zip_longest", "itertools.pairwise"].contains ty = false) (it : Addr) (x : Str) (t : Tok)
    (W : ∀ A : Around, A.handled = none → Walks P w A it [it] [it] x.cps.size (SignAt x) fun i h => h.IsStrIter it ty x t i)
    (S : ∀ (A : Around) (i : Nat) (s : Shared) (Q : Value → Shared → Prop) (E : Value → Shared → Prop), s.heap.IsStrIter it ty x t i → Q (.ref it) s → wpAny (model P w) A (pyIter (.ref it)) Q E s) :
    Turn P w K tg (Its x) [it] it (fun i h => h.IsStrIter it ty x t i) where
  mem := by simp
  obj := fun i h st b hb => by
    have e : b = it := by simpa using hb
    subst e
    obtain ⟨o, e, c, d⟩ := st
    exact ⟨o, e, fun v z => by rw [d] at z; cases z⟩
  keep := fun i h h' st k => let ⟨o, e, r⟩ := st; ⟨o, k it (by simp) o e, r⟩
  item := by
    intro X hP hw hK hc i pins s σ H E I hf st hg
    subst hP hw hK
    obtain ⟨f0, f1, f2, f3, f4, f5⟩ := hf it (by simp)
    have hg' : i < x.cps.size := by have : i < x.cps.toList.length := hg; simpa using this
    refine (W X.A (I.ok.hd hc)).item i s _ _ hg' st fun v h' tk hv st' kk => ?_
    obtain ⟨c, u, hcc, rfl⟩ := hv
    have I1 : Inv X pins σ H { s with heap := h', toks := tk } := I.turned (fun b o hb e => kk b o (by simpa using hb) e) f0 f1 f3 f4 f5
    obtain ⟨o, e, cl, d⟩ := id st'
    refine ⟨_, rfl, go_of (s := { s with heap := h', toks := tk }) e cl d hty ⟨.str (tx [c]), H, I1, ⟨u, rfl⟩, ⟨rfl, c, ?_, rfl⟩, st', fun b hb => (hf b hb).1⟩⟩
    show x.cps.toList[i]? = some c
    simpa using hcc
  done := by
    intro X hP hw hK hc i pins s σ H E I hf st hg
    subst hP hw hK
    obtain ⟨f0, f1, f2, f3, f4, f5⟩ := hf it (by simp)
    have hi : i = x.cps.size := by have : i = x.cps.toList.length := hg; simpa using this
    rw [hi] at st
    exact (W X.A (I.ok.hd hc)).done s _ _ st fun h' tk kk => ⟨rfl, I.turned (fun b o hb e => kk b o (by simpa using hb) e) f0 f1 f3 f4 f5⟩
  self := fun A i s Q E st h => S A i s Q E st h
section
variable {X : Cx} {tg : Expr}
def iStr (tl : TE) : TI := fun σ H R => tl σ H fun v H1 => ∃ x, v = .str x ∧ R (Its x) H1
theorem pi_str {l : Expr} {tl : TE} (hl : PE X l tl) : PI X tg l (iStr tl) := by
  intro pins s σ H R I h
  refine thn (hl pins s σ H _ I h) fun v s1 ⟨y, H1, I1, r1, q1⟩ => ?_
  obtain ⟨x, e, q⟩ := q1
  subst e
  obtain ⟨t, rfl⟩ := r1
  have fin : ∀ (ty : String) (hty : ["enumerate", "zip", "dict_itemiterator", "dict_reverseitemiterator", "odict_iterator", "itertools.zip_longest", "itertools.pairwise"].contains ty = false)
      (W : ∀ A : Around, A.handled = none → Walks X.prog X.w A s1.heap.objs.size [s1.heap.objs.size] [s1.heap.objs.size] x.cps.size (SignAt x) fun i h => h.IsStrIter s1.heap.objs.size ty x t i)
      (S : ∀ (A : Around) (i : Nat) (s : Shared) (Q : Value → Shared → Prop) (E : Value → Shared → Prop), s.heap.IsStrIter s1.heap.objs.size ty x t i → Q (.ref s1.heap.objs.size) s → wpAny (model X.prog X.w) A (pyIter (.ref s1.heap.objs.size)) Q E s),
      PIE X pins σ tg R (.ref s1.heap.objs.size) { s1 with heap := s1.heap.push { cls := .type ty, data := .fields #[.str x t, .int 0 0] } } := fun ty hty W S => by
    refine ⟨s1.heap.objs.size, [s1.heap.objs.size], _, _, H1, rfl, I1.kept (t' := s1.toks) fun b o e => Heap.get?_push_of_some _ e, turn_str hty _ x t W S, ⟨_, Heap.get?_push_size _ rfl, rfl, rfl⟩, fun b hb => ?_, q⟩
    have e : b = s1.heap.objs.size := by simpa using hb
    subst e
    exact I1.fpOk (Nat.le_refl _) (I1.hok.fresh (Nat.le_refl _))
  cases ha : x.cps.all (· < 128)
  · exact wpAny_pyIter_wide ha (fin "str_iterator" (by decide) (fun A hA => Walks.strWide hA _ x t) fun A i s Q E st h => wpAny_pyIter_striter_wide st h)
  · exact wpAny_pyIter_ascii ha (fin "str_ascii_iterator" (by decide) (fun A hA => Walks.strAscii hA _ x t) fun A i s Q E st h => wpAny_pyIter_striter_ascii st h)
end
theorem for_str {x : Str} {g : TG} {tb : TS} {D : Ends} {σ : St} {H : Hp} (Pv : Nat → St → Hp → Prop) (h0 : Pv 0 σ H)
    (hs : ∀ i c σ H, (cs x)[i]? = some c → Pv i σ H → g (.str (tx [c])) σ H fun σ2 H2 => tb { D with nx := Pv (i + 1), ct := Pv (i + 1), bk := D.nx } σ2 H2) (hd : ∀ σ H, Pv (cs x).length σ H → D.nx σ H) :
    ∃ W : Nat → Nat → St → Hp → Prop, (∃ m, W 0 m σ H) ∧ ∀ i m σ H, W i m σ H →
      ((Its x).stop i H ∧ D.nx σ H) ∨ ((Its x).go i H ∧ ∃ N : St → Hp → Prop, (∀ σ' H', N σ' H' → ∃ m', m' < m ∧ W (i + 1) m' σ' H') ∧ ∀ v H', (Its x).yld i H v H' → g v σ H' fun σ2 H2 => tb { D with nx := N, ct := N, bk := D.nx } σ2 H2) := by
  refine ⟨fun i m σ H => m = (cs x).length - i ∧ i ≤ (cs x).length ∧ Pv i σ H, ⟨(cs x).length, by simp, Nat.zero_le _, h0⟩, ?_⟩
  rintro i m σ H ⟨rfl, hi, p⟩
  by_cases hlt : i < (cs x).length
  · refine .inr ⟨hlt, Pv (i + 1), fun σ' H' p' => ⟨(cs x).length - (i + 1), by lia, rfl, hlt, p'⟩, fun v H' y => ?_⟩
    obtain ⟨e, c, hc, ev⟩ := y
    subst e ev
    exact hs i c σ _ hc p
  · have e : i = (cs x).length := by lia
    subst e
    exact .inl ⟨rfl, hd σ H p⟩
noncomputable def Ite (x : Str) : It := ⟨fun i _ => i < (cs x).length, fun i H v H' => ∃ p c, H p = none ∧ (cs x)[i]? = some c ∧ v = .ref p ∧ H' = upd H p (.tup [.int (i : Nat), .str (tx [c])]), fun i _ => i = (cs x).length⟩
theorem turn_enum {P : Program} {w : World} {K : PySem.W.Frag} {elts : List Expr} {x1 : Nat} {tpos : Pos} {ty : String} (e it : Addr) (hei : e ≠ it) (x : Str) (t : Tok)
    (D : ∀ A : Around, A.handled = none → Draws P w A it [it] x.cps.size (fun i v => ∃ c u, x.cps[i]? = some c ∧ v = .str ⟨#[c]⟩ u) fun i h => h.IsStrIter it ty x t i) :
    Turn P w K (.Tuple elts x1 tpos) (Ite x) [e, it] e (fun i h => (∃ old, IsEnum h e it i old) ∧ h.IsStrIter it ty x t i) where
  mem := by simp
  obj := fun i h st b hb => by
    obtain ⟨⟨old, he⟩, o, e2, c, d⟩ := st
    rcases aa.mp hb with q | q
    · subst q
      exact ⟨_, he, fun v z => by have z' : Data.fields _ = Data.cell v := z; cases z'⟩
    · have q' : b = it := by simpa using q
      subst q'
      exact ⟨o, e2, fun v z => by rw [d] at z; cases z⟩
  keep := fun i h h' st k => by
    obtain ⟨⟨old, he⟩, o, e2, r⟩ := st
    exact ⟨⟨old, k e (by simp) _ he⟩, o, k it (by simp) o e2, r⟩
  item := by
    intro X hP hw hK hc i pins s σ H E I hf st hg
    subst hP hw hK
    obtain ⟨⟨old, he⟩, st⟩ := st
    have hg' : i < x.cps.size := by have : i < x.cps.toList.length := hg; simpa using this
    have hA : X.A.in1.handled = none := I.ok.hd hc
    refine wpAny_pyNext_enum_itemD (D X.A.in1 hA) he st hg' hei (by simpa using hei) fun v h' tk hv ho st' hT hsz kk => ?_
    obtain ⟨c, u, hcc, rfl⟩ := hv
    refine ⟨_, rfl, wpAny_letOwnedTupleGo_enum ho fun h2 he2 sb => ?_⟩
    have elt : e < s.heap.objs.size := Heap.lt_size he
    have ilt : it < s.heap.objs.size := by obtain ⟨o, q, _⟩ := st; exact Heap.lt_size q
    have I1 : Inv X pins σ H { s with heap := h2, toks := tk + 1 } := Inv.turns (fp := [e, it]) I (fun b o hb q => by
      have hb' : b ≠ e ∧ b ≠ it := by simpa using hb
      exact (sb.2 b hb'.1).trans (kk b o hb'.1 hb'.2 q)) hf
    have hp : H s.heap.objs.size = none := I.hok.fresh (Nat.le_refl _)
    have hT2 : h2.get? s.heap.objs.size = some { cls := .type "tuple", data := .seq #[.int (i : Nat) tk, .str ⟨#[c]⟩ u] } := (sb.2 _ (Nat.ne_of_gt elt)).trans hT
    have I2 : Inv X pins σ (upd H s.heap.objs.size (.tup [.int (i : Nat), .str (tx [c])])) { s with heap := h2, toks := tk + 1 } :=
      Inv.track I1 (I.fpOk (Nat.le_refl _) hp) ⟨by show 2 ≤ sizeLine; decide, [.int (i : Nat) tk, .str ⟨#[c]⟩ u], .cons ⟨_, rfl⟩ (.cons ⟨_, rfl⟩ .nil), ⟨_, hT2, rfl, _, rfl⟩⟩
    refine ⟨.ref s.heap.objs.size, _, I2, rfl, ⟨s.heap.objs.size, c, hp, ?_, rfl, rfl⟩, ⟨⟨_, by simpa using he2⟩, ?_⟩, fun b hb => ?_⟩
    · show x.cps.toList[i]? = some c
      simpa using hcc
    · obtain ⟨o, q, r⟩ := st'
      exact ⟨o, (sb.2 it (Ne.symm hei)).trans q, r⟩
    · rw [upd_ne]
      · exact (hf b hb).1
      · rcases aa.mp hb with q | q
        · rw [q]; exact Nat.ne_of_lt elt
        · have q' : b = it := by simpa using q
          rw [q']; exact Nat.ne_of_lt ilt
  done := by
    intro X hP hw hK hc i pins s σ H E I hf st hg
    subst hP hw hK
    obtain ⟨⟨old, he⟩, st⟩ := st
    have hi : i = x.cps.size := by have : i = x.cps.toList.length := hg; simpa using this
    have hA : X.A.in1.handled = none := I.ok.hd hc
    rw [hi] at st
    refine wpAny_pyNext_enum_endD (D X.A.in1 hA) he st fun h' hx => ⟨rfl, ?_⟩
    exact Inv.turns (fp := [e, it]) (t' := s.toks) I (fun b o hb q => hx b o (fun z => hb (by simp [z])) q) hf
  self := fun A i s Q E st h => by
    obtain ⟨⟨old, he⟩, _⟩ := st
    exact wpAny_pyIter_enum he h
section
variable {X : Cx}
def iEnum (ta : TA) : TI := fun σ H R => ta σ H fun vs H1 => ∃ x, vs = [.str x] ∧ R (Ite x) H1
theorem pi_enum {a : Expr} {ta : TA} {p pos tpos : Pos} {elts : List Expr} {x1 : Nat} (hg : Gl X "enumerate") (hm : X.mg "enumerate" = none) (ha : PA X [a] ta) (hs : starEach [a] X.env = [(false, eval a X.env)] := by rfl) :
    PI X (.Tuple elts x1 tpos) (.Call (.Name "enumerate" p) [a] [] pos) (iEnum ta) := by
  intro pins s σ H R I h
  refine Call_ (ld_blt I hg hm boot_enumerate (PyProof.Rows.callWith_type1 (thn (ha pos pins s σ H _ I h) fun us s1 ⟨vs, H1, I1, r1, q1⟩ => ?_) hs rfl))
  obtain ⟨x, e, q⟩ := q1
  subst e
  obtain ⟨u, rfl, t, rfl⟩ := vals1 r1
  refine call_enumerate_str fun h' he hit hsz kk => ?_
  have I2 : Inv X pins σ H1 { s1 with heap := h' } := I1.kept (t' := s1.toks) kk
  refine wpAny_pyIter_enum (s := { s1 with heap := h' }) (i := 0) he ?_
  have fin : ∀ (ty : String) (hi : h'.IsStrIter s1.heap.objs.size ty x t 0) (D : ∀ A : Around, A.handled = none → Draws X.prog X.w A s1.heap.objs.size [s1.heap.objs.size] x.cps.size (fun i v => ∃ c u, x.cps[i]? = some c ∧ v = .str ⟨#[c]⟩ u) fun i h => h.IsStrIter s1.heap.objs.size ty x t i),
      PIE X pins σ (.Tuple elts x1 tpos) R (.ref (s1.heap.objs.size + 1)) { s1 with heap := h' } := fun ty hi D => by
    refine ⟨s1.heap.objs.size + 1, [s1.heap.objs.size + 1, s1.heap.objs.size], _, _, H1, rfl, I2, turn_enum _ _ (Nat.succ_ne_self _) x t D, ⟨⟨_, he⟩, hi⟩, fun b hb => ?_, q⟩
    have hb' : s1.heap.objs.size ≤ b := by
      rcases aa.mp hb with e | e
      · rw [e]; exact Nat.le_succ _
      · have : b = s1.heap.objs.size := by simpa using e
        rw [this]; exact Nat.le_refl _
    exact I1.fpOk hb' (I1.hok.fresh hb')
  cases ha : x.cps.all (· < 128)
  · have e : strIterType x = "str_iterator" := by simp [strIterType, ha]
    rw [e] at hit
    exact fin _ hit fun A hA => Draws.strWide hA _ x t
  · have e : strIterType x = "str_ascii_iterator" := by simp [strIterType, ha]
    rw [e] at hit
    exact fin _ hit fun A hA => Draws.strAscii hA _ x t
end
theorem for_enum {x : Str} {g : TG} {tb : TS} {D : Ends} {σ : St} {H : Hp} (Pv : Nat → St → Hp → Prop) (h0 : Pv 0 σ H)
    (hs : ∀ i c σ H p, (cs x)[i]? = some c → Pv i σ H → H p = none → g (.ref p) σ (upd H p (.tup [.int (i : Nat), .str (tx [c])])) fun σ2 H2 => tb { D with nx := Pv (i + 1), ct := Pv (i + 1), bk := D.nx } σ2 H2) (hd : ∀ σ H, Pv (cs x).length σ H → D.nx σ H) :
    ∃ W : Nat → Nat → St → Hp → Prop, (∃ m, W 0 m σ H) ∧ ∀ i m σ H, W i m σ H →
      ((Ite x).stop i H ∧ D.nx σ H) ∨ ((Ite x).go i H ∧ ∃ N : St → Hp → Prop, (∀ σ' H', N σ' H' → ∃ m', m' < m ∧ W (i + 1) m' σ' H') ∧ ∀ v H', (Ite x).yld i H v H' → g v σ H' fun σ2 H2 => tb { D with nx := N, ct := N, bk := D.nx } σ2 H2) := by
  refine ⟨fun i m σ H => m = (cs x).length - i ∧ i ≤ (cs x).length ∧ Pv i σ H, ⟨(cs x).length, by simp, Nat.zero_le _, h0⟩, ?_⟩
  rintro i m σ H ⟨rfl, hi, p⟩
  by_cases hlt : i < (cs x).length
  · refine .inr ⟨hlt, Pv (i + 1), fun σ' H' p' => ⟨(cs x).length - (i + 1), by lia, rfl, hlt, p'⟩, fun v H' y => ?_⟩
    obtain ⟨p', c, hp, hc, ev, eH⟩ := y
    subst ev eH
    exact hs i c σ H p' hc p hp
  · have e : i = (cs x).length := by lia
    subst e
    exact .inl ⟨rfl, hd σ H p⟩
end L3
set_option Elab.async false
set_option linter.all false
set_option maxRecDepth 100000
set_option maxHeartbeats 4000000
namespace L3
open PySem PySem.Spec PyProof.Rows L2
theorem closure_is {env : Env} : ∀ (names : List (Str × NameKind)) (acc : List (Str × Addr)),
    (∀ y, (y, NameKind.free) ∈ names → ∃ c, env.cells.lookup y = some c) → (∀ y c, acc.lookup y = some c → env.cells.lookup y = some c) →
    ∃ cl, (forIn names acc fun (x : Str × NameKind) (cs : List (Str × Addr)) => if (x.2 == NameKind.free) = true then (do let a ← cellOf env x.1; pure (ForInStep.yield ((x.1, a) :: cs))) else pure (ForInStep.yield cs) : Sem (List (Str × Addr))) = pure cl ∧
      (∀ y c, cl.lookup y = some c → env.cells.lookup y = some c) ∧ (∀ y, (y, NameKind.free) ∈ names ∨ (acc.lookup y).isSome = true → ∃ c, cl.lookup y = some c)
  | [], acc, _, ha => ⟨acc, rfl, ha, fun y h => by
      rcases h with h | h
      · cases h
      · exact am.mp h⟩
  | (n, k) :: r, acc, hn, ha => by
    by_cases hk : k = NameKind.free
    · subst hk
      obtain ⟨c, hc⟩ := hn n (by simp)
      have ha' : ∀ y d, ((n, c) :: acc).lookup y = some d → env.cells.lookup y = some d := fun y d e => by
        rw [List.lookup_cons] at e
        by_cases hy : (y == n) = true
        · rw [hy] at e
          have : y = n := eq_of_beq hy
          subst this
          cases e
          exact hc
        · have hy' : (y == n) = false := by simpa using hy
          rw [hy'] at e
          exact ha y d e
      obtain ⟨cl, e, h1, h2⟩ := closure_is r ((n, c) :: acc) (fun y hy => hn y (List.mem_cons_of_mem _ hy)) ha'
      refine ⟨cl, ?_, h1, fun y hy => h2 y ?_⟩
      · rw [List.forIn_cons]
        have ec : cellOf env n = pure c := by unfold cellOf; rw [hc]
        simp only [beq_self_eq_true, if_true, ec, pure_bind]
        exact e
      · rcases hy with hy | hy
        · rcases aa.mp hy with q | q
          · cases q
            exact .inr (by simp)
          · exact .inl q
        · refine .inr ?_
          rw [List.lookup_cons]
          by_cases hyn : (y == n) = true
          · rw [hyn]; rfl
          · have hy' : (y == n) = false := by simpa using hyn
            rw [hy']; exact hy
    · obtain ⟨cl, e, h1, h2⟩ := closure_is r acc (fun y hy => hn y (List.mem_cons_of_mem _ hy)) ha
      refine ⟨cl, ?_, h1, fun y hy => h2 y ?_⟩
      · rw [List.forIn_cons]
        have ek : (k == NameKind.free) = false := by simpa using hk
        simp only [ek, Bool.false_eq_true, if_false, pure_bind]
        exact e
      · rcases hy with hy | hy
        · rcases aa.mp hy with q | q
          · cases q; exact absurd rfl hk
          · exact .inl q
        · exact .inr hy
theorem closureFor_is {scope : Scope} {env : Env} (hn : ∀ y, (y, NameKind.free) ∈ scope.names → ∃ c, env.cells.lookup y = some c) :
    ∃ cl, closureFor scope env = pure cl ∧ (∀ y c, cl.lookup y = some c → env.cells.lookup y = some c) ∧ (∀ y, (y, NameKind.free) ∈ scope.names → ∃ c, cl.lookup y = some c) := by
  obtain ⟨cl, e, h1, h2⟩ := closure_is scope.names [] hn (fun y c h => by cases h)
  refine ⟨cl, ?_, h1, fun y hy => h2 y (.inl hy)⟩
  unfold closureFor
  simp only [bind_pure]
  exact e
noncomputable abbrev testsOf (ifs : List Expr) (env : Env) : Sem Bool :=
  forIn ifs true fun c r => if r = true then (do let ok ← isTrue c env (eval c env); pure (ForInStep.yield ok)) else pure (ForInStep.yield r)
theorem comp_loop {prog : Program} {w : World} {A : Around} {R : Result → Shared → Prop} {s : Shared} {elt tg iter : Expr} {ifs : List Expr} {scope : Scope} {pos : Pos} {it acc : Value} {env : Env}
    (I : Nat → Shared → Prop) {EE : Value → Shared → Prop} (hEE : EE = notedBy (model prog w) A env fun e s' => R (.error e) s')
    (turn : ∀ n s, I n s → wpAny (model prog w) A (pyNext it) (fun r s1 => match r with
      | none => R (.ok .next) s1
      | some v => wpAny (model prog w) A (letOwnedTupleGo tg it v) (fun _ s2 => wpAny (model prog w) A (assign tg env v) (fun _ s3 =>
          wpAny (model prog w) A (testsOf ifs env) (fun ok s4 => if ok = true then
            wpAny (model prog w) A (eval elt env) (fun x s5 => wpAny (model prog w) A (call (.builtin "list.append") [acc, x]) (fun _ s6 => ∃ m, m < n ∧ I m s6) EE s5) EE s4
            else ∃ m, m < n ∧ I m s4) EE s3) EE s2) EE s1) EE s) (n : Nat) (h : I n s) :
    codeAny (model prog w) A (.compLoop (.ListComp elt [⟨tg, iter, ifs, 0⟩] scope pos) 0 it acc env) R s := by
  subst hEE
  refine codeAny_loop rfl I (fun n s hI => ?_) n h
  show wpAny _ A ((compTurn (.ListComp elt [⟨tg, iter, ifs, 0⟩] scope pos) 0 it acc env).onRaise (fun x => do noteFrame x env; theTreesLotGoes x)) _ _ s
  refine wpAny_noted ?_
  rw [compTurn_list]
  refine wpAny_bind (wpAny_standAt (wpAny_bind (thn (turn n s hI) fun r s1 h1 => ?_)))
  cases r with
  | none => exact wpAny_pure h1
  | some v =>
    refine wpAny_bind (thn h1 fun _ s2 h2 => wpAny_bind (thn h2 fun _ s3 h3 => wpAny_bind (thn h3 fun ok s4 h4 => ?_)))
    cases ok with
    | false => exact wpAny_pure ⟨rfl, h4⟩
    | true => exact wpAny_bind (wpAny_bind (thn h4 fun x s5 h5 => wpAny_bind (thn h5 fun _ s6 h6 => wpAny_pure (wpAny_pure ⟨rfl, h6⟩))))
noncomputable def compCx (X : Cx) (scope : Scope) (cl : List (Str × Addr)) (C : Addr) (N : List Str) (pins : List (Addr × Obj)) (s3 : Shared) (H3 : Hp) (fp : List Addr) (E : Value → Shared → Prop) : Cx :=
  { X with N := N, s₀ := s3, H₀ := H3, env := compEnvC scope cl C X.env, outer := X.stack, ex := fp, fn := fun _ => false, pn := X.pn ++ pins, xe := E }
noncomputable def seen (σ : St) (own : Nat) (ix : List Nat) : St := List.replicate own none ++ ix.map fun i => (σ[i]?).join
structure CompOk (X : Cx) (scope : Scope) (own caps : List Str) (ix : List Nat) : Prop where
  kind : scope.kind = .function
  nocell : ∀ y ∈ scope.names, y.2 ≠ .cell
  names : ∀ y ∈ scope.names, y.2 = .local → scope.names.lookup y.1 = some .local
  free : ∀ y, (y, NameKind.free) ∈ scope.names → X.env.kindOf y = some .cell
  hown : ∀ y ∈ own, scope.names.lookup y = some .local
  hcaps : ∀ y ∈ caps, scope.names.lookup y = some .free
  hix : ix.map (fun i => X.N[i]?) = caps.map some
theorem lookup_mem {α β : Type} [BEq α] [LawfulBEq α] {l : List (α × β)} {a : α} {b : β} (h : l.lookup a = some b) : (a, b) ∈ l := by
  induction l with
  | nil => cases h
  | cons p r ih =>
    obtain ⟨c, d⟩ := p
    rw [List.lookup_cons] at h
    by_cases e : (a == c) = true
    · rw [e] at h
      cases h
      rw [eq_of_beq e]
      exact List.mem_cons_self
    · have e' : (a == c) = false := by simpa using e
      rw [e'] at h
      exact List.mem_cons_of_mem _ (ih h)
theorem lookup_relabel {scope : Scope} {env : Env} (hf : env.scope.kind = .function) : ∀ {names : List (Str × NameKind)} {x : Str} {k : NameKind}, names.lookup x = some k →
    (names.map fun (n, k) => if (k == NameKind.free && env.scope.kind == .function && env.kindOf n == some .cell) then (n, NameKind.cell) else (n, k)).lookup x = some (if (k == NameKind.free && env.scope.kind == .function && env.kindOf x == some .cell) = true then .cell else k)
  | [], _, _, h => by simp at h
  | (n, k') :: r, x, k, h => by
    have ih := @lookup_relabel scope env hf r x k
    show List.lookup x ((if (k' == NameKind.free && env.scope.kind == .function && env.kindOf n == some .cell) = true then (n, NameKind.cell) else (n, k')) :: _) = _
    by_cases hx : (x == n) = true
    · have hxn : x = n := eq_of_beq hx
      subst hxn
      rw [List.lookup_cons, hx] at h
      cases h
      by_cases c : (k' == NameKind.free && env.scope.kind == .function && env.kindOf x == some .cell) = true
      · rw [if_pos c, if_pos c, List.lookup_cons, hx]
      · rw [if_neg c, if_neg c, List.lookup_cons, hx]
    · have hx' : (x == n) = false := by simpa using hx
      rw [List.lookup_cons, hx'] at h
      by_cases c : (k' == NameKind.free && env.scope.kind == .function && env.kindOf n == some .cell) = true
      · rw [if_pos c, List.lookup_cons, hx']; exact ih h
      · rw [if_neg c, List.lookup_cons, hx']; exact ih h
theorem relabel_none {scope : Scope} {env : Env} : ∀ {names : List (Str × NameKind)} {x : Str}, names.lookup x = none →
    (names.map fun (n, k) => if (k == NameKind.free && env.scope.kind == .function && env.kindOf n == some .cell) then (n, NameKind.cell) else (n, k)).lookup x = none
  | [], _, _ => rfl
  | (n, k') :: r, x, h => by
    have ih := @relabel_none scope env r x
    show List.lookup x ((if (k' == NameKind.free && env.scope.kind == .function && env.kindOf n == some .cell) = true then (n, NameKind.cell) else (n, k')) :: _) = _
    by_cases hx : (x == n) = true
    · rw [List.lookup_cons, hx] at h; cases h
    · have hx' : (x == n) = false := by simpa using hx
      rw [List.lookup_cons, hx'] at h
      by_cases c : (k' == NameKind.free && env.scope.kind == .function && env.kindOf n == some .cell) = true
      · rw [if_pos c, List.lookup_cons, hx']; exact ih h
      · rw [if_neg c, List.lookup_cons, hx']; exact ih h
section
variable {X : Cx} {scope : Scope} {own caps : List Str} {ix : List Nat} {cl : List (Str × Addr)} {pins : List (Addr × Obj)} {σ : St} {H : Hp} {s : Shared} {fp : List Addr} {E : Value → Shared → Prop}
theorem comp_start (S : CompOk X scope own caps ix) (hcl1 : ∀ y c, cl.lookup y = some c → X.env.cells.lookup y = some c) (hcl2 : ∀ y, (y, NameKind.free) ∈ scope.names → ∃ c, cl.lookup y = some c)
    (I : Inv X pins σ H s) (hfp : ∀ b ∈ fp, FpOk X pins H b) (hlt : ∀ b ∈ fp, b < s.heap.objs.size) {h4 : Heap} {t4 : Nat} (hn : h4.Ns s.heap.objs.size fun _ => none) (hk : ∀ b o, s.heap.get? b = some o → h4.get? b = some o) :
    Inv (compCx X scope cl s.heap.objs.size (own ++ caps) pins s H fp E) [] (seen σ own.length ix) H { s with heap := h4, toks := t4 } := by
  have kf : X.env.scope.kind = .function := I.ok.kind
  have nofp : ∀ b ∈ fp, b ≠ s.heap.objs.size := fun b hb => Nat.ne_of_lt (hlt b hb)
  have cellLt : ∀ x c, X.env.cells.lookup x = some c → c < s.heap.objs.size := fun x c e => by
    obtain ⟨v, o, ho, _⟩ := I.cell x c e
    exact Heap.lt_size ho
  have kinds : ∀ y k, scope.names.lookup y = some k → (relabel scope X.env).names.lookup y = some (if (k == NameKind.free && X.env.scope.kind == .function && X.env.kindOf y == some .cell) = true then .cell else k) := fun y k e => lookup_relabel (scope := scope) kf e
  have back : ∀ y k, (relabel scope X.env).names.lookup y = some k → ∃ k', scope.names.lookup y = some k' ∧ k = (if (k' == NameKind.free && X.env.scope.kind == .function && X.env.kindOf y == some .cell) = true then .cell else k') := fun y k e => by
    cases q : scope.names.lookup y with
    | none =>
      have := relabel_none (scope := scope) (env := X.env) q
      have e' : (scope.names.map fun (n, k) => if (k == NameKind.free && X.env.scope.kind == .function && X.env.kindOf n == some .cell) then (n, NameKind.cell) else (n, k)).lookup y = some k := e
      rw [this] at e'; cases e'
    | some k' =>
      refine ⟨k', rfl, ?_⟩
      have := kinds y k' q
      rw [e] at this
      exact Option.some.inj this
  have isCell : ∀ y, scope.names.lookup y = some .free → (relabel scope X.env).names.lookup y = some .cell := fun y e => by
    have := kinds y _ e
    rw [this, if_pos]
    rw [S.free y (lookup_mem e), kf]
    rfl
  refine ⟨⟨I.ok.mod, ?_, I.ok.glob, I.ok.blt, Nat.le_refl _, ?_, ?_, ?_, I.ok.hd, I.ok.frames, .inl rfl, ?_, I.bs, Nat.le_trans I.ok.bsz I.sz, ?_, ?_, I.stack, I.stkFree⟩, rfl, I.bare, Un.kept hk, ⟨_, hn, ?_⟩, ?_, ?_, ?_, ?_, I.hok.kept hk, ?_⟩
  · show (relabel scope X.env).kind = .function
    exact S.kind
  · intro x y c h1 h2
    exact I.ok.inj x y c (hcl1 x c h1) (hcl1 y c h2)
  · intro y hy
    have hy' : (relabel scope X.env).names.lookup y = some .cell ∨ (relabel scope X.env).names.lookup y = some .free := hy
    have : scope.names.lookup y = some .free := by
      rcases hy' with q | q
      · obtain ⟨k', e, ek⟩ := back y _ q
        by_cases c : (k' == NameKind.free && X.env.scope.kind == .function && X.env.kindOf y == some .cell) = true
        · rw [Bool.and_eq_true, Bool.and_eq_true] at c
          rw [e, eq_of_beq c.1.1]
        · rw [if_neg c] at ek
          exact absurd ek.symm (S.nocell _ (lookup_mem e))
      · obtain ⟨k', e, ek⟩ := back y _ q
        by_cases c : (k' == NameKind.free && X.env.scope.kind == .function && X.env.kindOf y == some .cell) = true
        · rw [if_pos c] at ek; cases ek
        · rw [if_neg c] at ek
          rw [e, ← ek]
    exact hcl2 y (lookup_mem this)
  · intro x c h _
    exact absurd h (by simp [compCx])
  · intro b hb
    refine ⟨nofp b hb, fun x c e => ?_⟩
    exact (hfp b hb).2.2.2.2.1 x c (hcl1 x c e)
  · intro b o e hb
    obtain ⟨_, _, _, q, _⟩ := hfp b hb
    rcases q with q | q
    · exact I.ok.noex b o e q
    · exact absurd (Nat.lt_of_lt_of_le (Heap.lt_size e) (Nat.le_trans I.ok.bsz q)) (Nat.lt_irrefl _)
  · intro b hb z
    rcases aa.mp (I.stkSub b z) with e | e
    · exact (hfp b hb).2.1 e
    · exact (hfp b hb).2.2.1 e
  · intro i y v h1 h2 h3
    have hi : own.length ≤ i := by
      refine Nat.le_of_not_lt fun hlt' => ?_
      unfold seen at h2
      rw [List.getElem?_append_left (by rw [List.length_replicate]; exact hlt'), List.getElem?_replicate, if_pos hlt'] at h2
      cases h2
    have h1' : caps[i - own.length]? = some y := by
      have : (own ++ caps)[i]? = some y := h1
      rw [List.getElem?_append_right hi] at this
      exact this
    have h2' : (ix.map fun i => (σ[i]?).join)[i - own.length]? = some (some v) := by
      unfold seen at h2
      rw [List.getElem?_append_right (by rw [List.length_replicate]; exact hi), List.length_replicate] at h2
      exact h2
    rw [List.getElem?_map] at h2'
    have hx := congrArg (fun l => l[i - own.length]?) S.hix
    simp only [List.getElem?_map, h1', Option.map_some] at hx
    cases q : ix[i - own.length]? with
    | none => rw [q] at h2'; cases h2'
    | some j =>
      rw [q] at h2' hx
      have hj : X.N[j]? = some y := Option.some.inj hx
      have hv : (σ[j]?).join = some v := Option.some.inj h2'
      have hσ : σ[j]? = some (some v) := by
        cases r : σ[j]? with
        | none => rw [r] at hv; cases hv
        | some z => rw [r] at hv; cases z with
          | none => cases hv
          | some z => cases hv; rfl
      have hfree : scope.names.lookup y = some .free := S.hcaps y (List.mem_of_getElem? h1')
      have hkc := S.free y (lookup_mem hfree)
      obtain ⟨m, hm, hl⟩ := I.loc
      obtain ⟨u, ru, l⟩ := hl j y v hj hσ (.inr (.inl hkc))
      refine ⟨u, ru, .inr ⟨.inl (isCell y hfree), ?_⟩⟩
      rcases l with ⟨k, _⟩ | ⟨_, c, e, z⟩
      · have : X.env.kindOf y = some .local := k
        rw [hkc] at this; cases this
      · obtain ⟨c', e'⟩ := hcl2 y (lookup_mem hfree)
        have := hcl1 y c' e'
        rw [e] at this
        cases this
        obtain ⟨o, ho, hd⟩ := z
        exact ⟨c, e', o, hk c o ho, hd⟩
  · intro x c e
    obtain ⟨v, o, ho, hd⟩ := I.cell x c (hcl1 x c e)
    exact ⟨v, o, hk c o ho, hd⟩
  · exact I.hok.fresh (Nat.le_refl _)
  · intro x c e
    exact I.freeC x c (hcl1 x c e)
  · intro p hp
    have hp' : p ∈ X.pn ++ pins := by
      have : p ∈ (X.pn ++ pins) ++ [] := hp
      rwa [List.append_nil] at this
    obtain ⟨e, n, ne, nf, d⟩ := I.pin p hp'
    refine ⟨hk _ _ e, n, ?_, fun z => ?_, d⟩
    · exact Nat.ne_of_lt (Heap.lt_size e)
    · rcases aa.mp (I.stkSub p.1 z) with q | q
      · exact ne q
      · exact nf q
  · show (seen σ own.length ix).length = (own ++ caps).length
    have := congrArg List.length S.hix
    rw [List.length_map, List.length_map] at this
    unfold seen
    rw [List.length_append, List.length_replicate, List.length_map, List.length_append, this]
end
end L3
set_option Elab.async false
set_option linter.all false
set_option maxRecDepth 100000
set_option maxHeartbeats 4000000
namespace L3
open PySem PySem.Spec PyProof.Rows L2
def KeepsSt (σ σ' : St) : Prop := σ.length = σ'.length ∧ ∀ (i : Nat) v, σ[i]? = some (some v) → σ'[i]? = some (some v)
def PTs (X : Cx) (ifs : List Expr) (t : TT) : Prop :=
  ∀ (pins : List (Addr × Obj)) (s : Shared) (σ : St) (H : Hp) (Q : Bool → Hp → Prop), Inv X pins σ H s → t σ H Q → wpAny (model X.prog X.w) X.A (testsOf ifs X.env) (TP X pins σ Q) X.xe s
def tYes : TT := fun _ H Q => Q true H
theorem pts_nil {X : Cx} : PTs X [] tYes := fun _ _ _ H _ I h => wpAny_pure ⟨H, I, h⟩
theorem pts_one {X : Cx} {c : Expr} {t : TT} (h : PT X c t) : PTs X [c] t := fun pins s σ H Q I hq => by
  show wpAny _ _ (forIn [c] true _) _ _ s
  simp only [List.forIn_cons, List.forIn_nil, if_true]
  exact wpAny_bind (wpAny_bind (thn (h pins s σ H Q I hq) fun b s' hb => wpAny_pure (wpAny_pure hb)))
def tComp (wi : TI) (g : TG) (tt : TT) (te : TE) (own : Nat) (ix : List Nat) : TE := fun σ H Q => wi σ H fun J H1 => ∀ D, H1 D = none → ∃ W : Nat → Nat → List V → Hp → Prop, (∃ m, W 0 m [] (upd H1 D (.lst []))) ∧
  ∀ i m acc H', W i m acc H' → (J.stop i H' ∧ Q (.ref D) H') ∨ (J.go i H' ∧ ∀ x H2, J.yld i H' x H2 → g x (seen σ own ix) H2 fun σ3 H3 => KeepsSt (seen σ own ix) σ3 ∧ tt σ3 H3 fun b H4 => if b = true then
    te σ3 H4 fun v H5 => H5 D = some (.lst acc) ∧ acc.length < sizeLine ∧ ∃ m', m' < m ∧ W (i + 1) m' (acc ++ [v]) (upd H5 D (.lst (acc ++ [v])))
    else ∃ m', m' < m ∧ W (i + 1) m' acc H4)
theorem HOk.but {P : Program} {w : World} {H : Hp} {h1 h2 : Heap} {a : Addr} (ok : HOk P w H h1) (sb : Heap.SameBut a h1 h2) (ha : H a = none) : HOk P w H h2 := fun b ob e => by
  refine (ok b ob e).stay (fun c u hc q => (sb.2 c ?_).trans q) (fun _ q => q) fun _ _ q => q
  rintro rfl
  rcases hc with rfl | hc
  · rw [ha] at e; cases e
  · rw [ha] at hc; cases hc
section
variable {X : Cx} {scope : Scope} {own caps : List Str} {ix : List Nat} {elt tg iter : Expr} {ifs : List Expr} {pos : Pos} {wi : TI} {g : TG} {tt : TT} {te : TE}
theorem comp_block (hc : X.calm = true) (S : CompOk X scope own caps ix)
    (hg : ∀ cl C pins s3 H3 fp, PG (compCx X scope cl C (own ++ caps) pins s3 H3 fp fun _ _ => False) tg g)
    (ht : ∀ cl C pins s3 H3 fp, PTs (compCx X scope cl C (own ++ caps) pins s3 H3 fp fun _ _ => False) ifs tt)
    (he : ∀ cl C pins s3 H3 fp, PE (compCx X scope cl C (own ++ caps) pins s3 H3 fp fun _ _ => False) elt te)
    {cl : List (Str × Addr)} (hc1 : ∀ y c, cl.lookup y = some c → X.env.cells.lookup y = some c) (hc2 : ∀ y, (y, NameKind.free) ∈ scope.names → ∃ c, cl.lookup y = some c)
    {pins : List (Addr × Obj)} {σ : St} {H2 : Hp} {s2 : Shared} {Q : VK} {it : Addr} {fp : List Addr} {tn : Nat → Heap → Prop} {J : It} (I2 : Inv X pins σ H2 s2) (T : Turn X.prog X.w X.K tg J fp it tn) (st2 : tn 0 s2.heap) (f2 : ∀ b ∈ fp, FpOk X pins H2 b)
    (q : ∀ D, H2 D = none → ∃ W : Nat → Nat → List V → Hp → Prop, (∃ m, W 0 m [] (upd H2 D (.lst []))) ∧
      ∀ i m acc H', W i m acc H' → (J.stop i H' ∧ Q (.ref D) H') ∨ (J.go i H' ∧ ∀ x H2, J.yld i H' x H2 → g x (seen σ own.length ix) H2 fun σ3 H3 => KeepsSt (seen σ own.length ix) σ3 ∧ tt σ3 H3 fun b H4 => if b = true then
        te σ3 H4 fun v H5 => H5 D = some (.lst acc) ∧ acc.length < sizeLine ∧ ∃ m', m' < m ∧ W (i + 1) m' (acc ++ [v]) (upd H5 D (.lst (acc ++ [v])))
        else ∃ m', m' < m ∧ W (i + 1) m' acc H4))
    {RR : Value → Addr → Result → Shared → Prop} {E : Value → Shared → Prop}
    (hRR : ∀ D C m s' H', H2 D = none → s'.heap.Ns C m → FpOk X pins H' C → Inv X pins σ H' s' → Q (.ref D) H' → RR (.ref D) C (.ok .next) s') :
    wpAny (model X.prog X.w) X.A (newList []) (fun acc s3 => wpAny (model X.prog X.w) X.A (newFunctionEnv scope X.env.globals cl [] X.env.qual none .none (some X.env)) (fun cenv s4 =>
      codeAny (model X.prog X.w) X.A (.compStart (.ListComp elt [⟨tg, iter, ifs, 0⟩] scope pos) 0 (.ref it) acc { cenv with scope := relabel scope X.env }) (RR acc cenv.locals) s4) E s3) E s2 := by
  have hD : H2 s2.heap.objs.size = none := I2.hok.fresh (Nat.le_refl _)
  obtain ⟨W, ⟨m0, w0⟩, turn⟩ := q _ hD
  refine wpAny_newObj_type (wpAny_newFunctionEnv S.nocell (by intro y hy; simp at hy) (fun h1 hns1 hsb1 => ?_) S.kind)
  dsimp only at hns1 hsb1 ⊢
  have I3 : Inv X pins σ (upd H2 s2.heap.objs.size (.lst [])) { s2 with heap := s2.heap.push { cls := .type "list", dict := none, data := .seq ([] : List Value).toArray } } :=
    I2.lnew (its := []) (t' := s2.toks) .nil (Nat.zero_le _)
  generalize hs3 : ({ s2 with heap := s2.heap.push { cls := .type "list", dict := none, data := .seq ([] : List Value).toArray } } : Shared) = s3 at I3
  have e3 : s2.heap.push { cls := .type "list", dict := none, data := .seq ([] : List Value).toArray } = s3.heap := by rw [← hs3]
  rw [e3] at hns1 hsb1 ⊢
  have k1 : ∀ b o, s3.heap.get? b = some o → h1.get? b = some o := fun b o e => (hsb1.2 b (Nat.ne_of_lt (Heap.lt_size e))).trans (Heap.get?_push_of_some _ e)
  have k23 : ∀ b o, s2.heap.get? b = some o → s3.heap.get? b = some o := fun b o e => by rw [← e3]; exact Heap.get?_push_of_some _ e
  have hz : s3.heap.objs.size = s2.heap.objs.size + 1 := by rw [← e3, Heap.size_push]
  have fpObj : ∀ b ∈ fp, ∃ o, s2.heap.get? b = some o := fun b hb => let ⟨o, e, _⟩ := T.obj 0 _ st2 b hb; ⟨o, e⟩
  have fplt : ∀ b ∈ fp, b < s2.heap.objs.size := fun b hb => let ⟨o, e⟩ := fpObj b hb; Heap.lt_size e
  have f3 : ∀ b ∈ fp, FpOk X pins (upd H2 s2.heap.objs.size (.lst [])) b := fun b hb => ⟨by rw [upd_ne (Nat.ne_of_lt (fplt b hb))]; exact (f2 b hb).1, (f2 b hb).2⟩
  have I4 : Inv (compCx X scope cl s3.heap.objs.size (own ++ caps) pins s3 (upd H2 s2.heap.objs.size (.lst [])) fp fun _ _ => False) [] (seen σ own.length ix) (upd H2 s2.heap.objs.size (.lst [])) { s3 with heap := h1, toks := s3.toks + ([] : List (Str × Value)).length } :=
    comp_start S hc1 hc2 I3 f3 (fun b hb => by rw [hz]; exact Nat.lt_succ_of_lt (fplt b hb)) hns1 k1
  have st4 : tn 0 h1 := T.keep 0 _ _ st2 fun b hb o e => k1 b o (k23 b o e)
  generalize hs4 : ({ s3 with heap := h1, toks := s3.toks + ([] : List (Str × Value)).length } : Shared) = s4 at I4
  have es4 : ({ s2 with heap := h1, toks := s2.toks + ([] : List (Str × Value)).length } : Shared) = s4 := by rw [← hs4, ← hs3]
  have e4 : h1 = s4.heap := by rw [← hs4]
  have loop : codeAny (model X.prog X.w) X.A (.compLoop (.ListComp elt [⟨tg, iter, ifs, 0⟩] scope pos) 0 (.ref it) (.ref s2.heap.objs.size) (compEnvC scope cl s3.heap.objs.size X.env)) (RR (.ref s2.heap.objs.size) s3.heap.objs.size) s4 := by
    let X' := compCx X scope cl s3.heap.objs.size (own ++ caps) pins s3 (upd H2 s2.heap.objs.size (.lst [])) fp fun _ _ => False
    have fp' : ∀ {H' : Hp}, (∀ b ∈ fp, H' b = none) → ∀ b ∈ fp, FpOk X' [] H' b := fun {H'} hn b hb => by
      obtain ⟨_, a1, a2, a3, a4, a5⟩ := f3 b hb
      refine ⟨hn b hb, Nat.ne_of_lt (show b < s3.heap.objs.size from by rw [hz]; exact Nat.lt_succ_of_lt (fplt b hb)), fun z => ?_, .inl hb, fun x c e => a4 x c (hc1 x c e), fun p hp => ?_⟩
      · rcases aa.mp (I3.stkSub b z) with e | e
        · exact a1 e
        · exact a2 e
      · have : p ∈ (X.pn ++ pins) ++ [] := hp
        rw [List.append_nil] at this
        exact a5 p this
    refine comp_loop (fun n s' => ∃ i acc H', Inv X' [] (seen σ own.length ix) H' s' ∧ tn i s'.heap ∧ (∀ b ∈ fp, H' b = none) ∧ W i n acc H') rfl ?_ m0 ⟨0, [], _, I4, by rw [← e4]; exact st4, fun b hb => (f3 b hb).1, w0⟩
    rintro n s5 ⟨i, acc, H5, I5, st5, fr5, w5⟩
    refine wpAny_noRaise ?_
    rcases turn i n acc H5 w5 with ⟨stop, qn⟩ | ⟨go, step⟩
    · refine thn (T.done X' rfl rfl rfl hc i [] s5 _ H5 _ I5 (fp' fr5) st5 stop) fun r s6 ⟨hr, I6⟩ => ?_
      subst hr
      obtain ⟨m, hm, _⟩ := I6.loc
      refine hRR _ _ m s6 H5 hD hm (I3.fpOk (Nat.le_refl _) I6.free) (I3.call' (s' := s6) I6.os I6.base I6.hok I6.bare fun b hb => ?_) qn
      obtain ⟨_, a1, a2, a3, a4, a5⟩ := f3 b hb
      exact ⟨a3, a1, a4, a5⟩
    · refine thn (T.item X' rfl rfl rfl hc i [] s5 _ H5 (fun _ _ => False) I5 (fp' fr5) st5 go) fun r s6 ⟨u, hr, h6⟩ => ?_
      subst hr
      refine wpAny_noRaise (thn h6 fun _ s7 ⟨x, H7, I7, r7, y7, st7, fr7⟩ => ?_)
      have I7' := I7.pinned (fp' fr7) (T.obj _ _ st7)
      refine wpAny_noRaise (thn (hg _ _ _ _ _ _ _ s7 _ H7 x u _ I7' r7 (step x H7 y7)) fun _ s8 ⟨σ8, H8, I8, ks, q8⟩ => ?_)
      refine wpAny_noRaise (thn (ht _ _ _ _ _ _ _ s8 σ8 H8 _ I8 q8) fun b s9 ⟨H9, I9, q9⟩ => ?_)
      have back : ∀ {s' : Shared} {H' : Hp} {acc' : List V} {m' : Nat}, Inv X' ([] ++ pinsAt fp s7.heap) σ8 H' s' → m' < n → W (i + 1) m' acc' H' → ∃ m, m < n ∧ ∃ i acc H', Inv X' [] (seen σ own.length ix) H' s' ∧ tn i s'.heap ∧ (∀ b ∈ fp, H' b = none) ∧ W i m acc H' := fun {s' H' acc' m'} J' hm w' => by
        refine ⟨m', hm, i + 1, acc', H', (J'.unpinned).weak ks.1 ks.2, T.keep _ _ _ st7 fun b hb o e => (J'.pin (b, o) (List.mem_append_right _ (List.mem_append_right _ (mem_pinsAt hb e)))).1, fun b hb => ?_, w'⟩
        obtain ⟨o, e, d⟩ := T.obj _ _ st7 b hb
        exact (J'.pin (b, o) (List.mem_append_right _ (List.mem_append_right _ (mem_pinsAt hb e)))).2.1
      cases b with
      | false =>
        rw [if_neg Bool.false_ne_true] at q9 ⊢
        obtain ⟨m', hm, w'⟩ := q9
        exact back I9 hm w'
      | true =>
        rw [if_pos rfl] at q9 ⊢
        refine wpAny_noRaise (thn (he _ _ _ _ _ _ _ s9 σ8 H9 _ I9 q9) fun v s10 ⟨y, H10, I10, r10, hD10, hsz, m', hm, w'⟩ => ?_)
        refine wpAny_noRaise ?_
        have := mt_append (X := X') _ s10 σ8 H10 (.ref s2.heap.objs.size) [y] (.ref s2.heap.objs.size) [v] (fun _ H' => H' = upd H10 s2.heap.objs.size (.lst (acc ++ [y]))) I10 rfl (.cons r10 .nil) ⟨_, acc, y, rfl, rfl, hD10, hsz, rfl⟩
        refine thn this fun _ s11 ⟨_, H11, I11, _, eH⟩ => ?_
        subst eH
        exact back I11 hm w'
  have goal : codeAny (model X.prog X.w) X.A (.compStart (.ListComp elt [⟨tg, iter, ifs, 0⟩] scope pos) 0 (.ref it) (.ref s2.heap.objs.size) (compEnvC scope cl s3.heap.objs.size X.env)) (RR (.ref s2.heap.objs.size) s3.heap.objs.size) s4 :=
    codeAny_compStart_list loop (T.self _ 0 s4 _ _ (by rw [← e4]; exact st4) loop)
  rw [← es4] at goal
  exact goal
theorem pe_comp (hc : X.calm = true) (S : CompOk X scope own caps ix) (hi : PI X tg iter wi)
    (hg : ∀ cl C pins s3 H3 fp, PG (compCx X scope cl C (own ++ caps) pins s3 H3 fp fun _ _ => False) tg g)
    (ht : ∀ cl C pins s3 H3 fp, PTs (compCx X scope cl C (own ++ caps) pins s3 H3 fp fun _ _ => False) ifs tt)
    (he : ∀ cl C pins s3 H3 fp, PE (compCx X scope cl C (own ++ caps) pins s3 H3 fp fun _ _ => False) elt te)
    (hs : ∀ x, foldedSetIterable iter X.env x = pure x := by intro _; rfl) :
    PE X (.ListComp elt [⟨tg, iter, ifs, 0⟩] scope pos) (tComp wi g tt te own.length ix) := by
  intro pins s σ H Q I h
  obtain ⟨cl, hclos, hc1, hc2⟩ := closureFor_is (scope := scope) (env := X.env) fun y hy => I.ok.has y (.inl (S.free y hy))
  rw [eval_ListComp]
  refine wpAny_comprehension_free (use := none) rfl hs hclos S.kind S.names (thn (hi pins s σ H _ I h) fun v s1 h1 => thn h1 fun itv s2 h2 => ?_)
  obtain ⟨it, fp, tn, J, H2, e, I2, T, st2, f2, q⟩ := h2
  subst e
  refine comp_block (RR := fun acc C => compPost (model X.prog X.w) X.A X.xe none (EP X pins σ Q) acc C) hc S hg ht he hc1 hc2 I2 T st2 f2 q ?_
  intro D C m s' H' _ hn fc I' qn
  obtain ⟨a0, a1, a2, a3, a4, a5⟩ := fc
  exact ⟨m, hn, fun h' sb => ⟨.ref D, H', I'.turned (t' := s'.toks) (fun b o hb e => (sb.2 b hb).trans e) a0 a1 a3 a4 a5, rfl, qn⟩⟩
def tSetComp (i : Nat) (t : TE) : TS := fun D σ H => t σ H fun x H1 => D.nx (σ.set i (some x)) H1
end
end L3
set_option Elab.async false
set_option linter.all false
set_option maxRecDepth 100000
set_option maxHeartbeats 4000000
namespace L3
open PySem PySem.Spec PyProof.Rows L2
section
variable {X : Cx} {a b : Expr} {ta tb : TE} {pos : Pos}
def rAddA : R2 := fun x y H Q => (∃ i j, x = .int i ∧ y = .int j ∧ Q (.int (i + j)) H) ∨ (∃ i j, x = .str i ∧ y = .str j ∧ i.length + j.length ≤ sizeLine ∧ Q (.str (i ++ j)) H) ∨ rCat x y H Q
theorem op_addA : OpR X (binaryOp .Add) rAddA := op_add.or (op_add_str.or op_cat)
def rMulA : R2 := fun x y H Q => (∃ i j, x = .int i ∧ y = .int j ∧ CMul i j ∧ Q (.int (i * j)) H) ∨ ∃ z n, x = .str z ∧ y = .int n ∧ 0 ≤ n ∧ n ≤ 1000 ∧ z.length ≤ 1000 ∧ Q (.str (tx (List.replicate n.toNat (cs z)).flatten)) H
theorem op_mulA : OpR X (binaryOp .Mult) rMulA := op_mul.or op_mul_str
def rLtA : R2 := fun x y H Q => (∃ i j, x = .int i ∧ y = .int j ∧ Q (.bl (decide (i < j))) H) ∨ ∃ i j, x = .str i ∧ y = .str j ∧ Q (.bl (decide (cs i < cs j))) H
def rLeA : R2 := fun x y H Q => (∃ i j, x = .int i ∧ y = .int j ∧ Q (.bl (decide (i ≤ j))) H) ∨ ∃ i j, x = .str i ∧ y = .str j ∧ Q (.bl (!(decide (cs j < cs i)))) H
theorem op_leA : OpR X (compareOp .LtE) rLeA := op_le.or op_le_str
theorem op_gt_str : OpR X (compareOp .Gt) (fun x y H Q => ∃ i j, x = .str i ∧ y = .str j ∧ Q (.bl (decide (cs j < cs i))) H) := by
  intro pins s σ H x y v u Q I rx ry h
  obtain ⟨i, j, rfl, rfl, q⟩ := h
  obtain ⟨t, rfl⟩ := rx
  obtain ⟨t', rfl⟩ := ry
  exact PySem.P.gt_str ⟨.bl _, H, I, rfl, q⟩
def rGtA : R2 := fun x y H Q => (∃ i j, x = .int i ∧ y = .int j ∧ Q (.bl (decide (j < i))) H) ∨ ∃ i j, x = .str i ∧ y = .str j ∧ Q (.bl (decide (cs j < cs i))) H
theorem op_gtA : OpR X (compareOp .Gt) rGtA := op_gt.or op_gt_str
def rSlA (K : PySem.W.Frag) : V → Option Int → Option Int → Hp → VK → Prop := fun x lo hi H Q => rSlL K x lo hi H Q ∨ rSlS x lo hi H Q
noncomputable def cV : V → Option Value
  | .ty n => some (.type n)
  | .ref a => some (.ref a)
  | _ => none
theorem call_isi : CallR X (.builtin "isinstance") (fun xs H Q => ∃ x c u t b, xs = [x, c] ∧ cV c = some u ∧ TyOf X.K H x t ∧ PySem.W.kitOne X.K t u = some b ∧ Q (.bl b) H) := by
  intro pins s σ H xs us Q I r h
  obtain ⟨x, c, u, t, b, rfl, hc, ty, e, q⟩ := h
  obtain ⟨v, w', rfl, rx, rc⟩ := vals2 r
  have : w' = u := by
    cases c with
    | ty n => cases hc; exact rc
    | ref a => cases hc; exact rc
    | _ => cases hc
  subst this
  exact isinst_ok I rx ty e fun tk => ⟨.bl b, H, I.tok tk, rfl, q⟩
end
end L3
set_option Elab.async false
set_option linter.all false
set_option maxRecDepth 100000
set_option maxHeartbeats 4000000
namespace L3
open PySem PySem.Spec PyProof.Rows L2
noncomputable def Iel (K : PySem.W.Frag) (a : Addr) : It := ⟨fun i H => ∃ xs x, SqL K H a xs ∧ xs[i]? = some x, fun i H v H' => ∃ p x, H p = none ∧ (∀ xs, SqL K H a xs → xs[i]? = some x) ∧ v = .ref p ∧ H' = upd H p (.tup [.int (i : Nat), x]), fun i H => ∃ xs, SqL K H a xs ∧ i = xs.length⟩
section
variable {X : Cx}
def iEnumL (K : PySem.W.Frag) (ta : TA) : TI := fun σ H R => ta σ H fun vs H1 => ∃ a, vs = [.ref a] ∧ (∃ xs, SqL K H1 a xs) ∧ R (Iel K a) H1
end
def ForEL (K : PySem.W.Frag) (a : Addr) (g : TG) (tb : TS) (D : Ends) (σ : St) (H : Hp) : Prop := ∃ W : Nat → Nat → St → Hp → Prop, (∃ m, W 0 m σ H) ∧ ∀ i m σ H, W i m σ H →
  ((Iel K a).stop i H ∧ D.nx σ H) ∨ ((Iel K a).go i H ∧ ∃ N : St → Hp → Prop, (∀ σ' H', N σ' H' → ∃ m', m' < m ∧ W (i + 1) m' σ' H') ∧ ∀ x H', (Iel K a).yld i H x H' → g x σ H' fun σ2 H2 => tb { D with nx := N, ct := N, bk := D.nx } σ2 H2)
theorem rd_el {K : PySem.W.Frag} {ta : TA} {g : TG} {tb : TS} {D : Ends} {σ : St} {H : Hp} : tFor (iEnumL K ta) g tb D σ H = ta σ H fun vs H1 => ∃ a, vs = [.ref a] ∧ (∃ xs, SqL K H1 a xs) ∧ ForEL K a g tb D σ H1 := rfl
def ForT (K : PySem.W.Frag) (a : Addr) (g : TG) (tb : TS) (D : Ends) (σ : St) (H : Hp) : Prop := ∃ W : Nat → Nat → St → Hp → Prop, (∃ m, W 0 m σ H) ∧ ∀ i m σ H, W i m σ H →
  ((Itt K a).stop i H ∧ D.nx σ H) ∨ ((Itt K a).go i H ∧ ∃ N : St → Hp → Prop, (∀ σ' H', N σ' H' → ∃ m', m' < m ∧ W (i + 1) m' σ' H') ∧ ∀ x H', (Itt K a).yld i H x H' → g x σ H' fun σ2 H2 => tb { D with nx := N, ct := N, bk := D.nx } σ2 H2)
theorem rd_t {K : PySem.W.Frag} {tl : TE} {g : TG} {tb : TS} {D : Ends} {σ : St} {H : Hp} : tFor (iTup K tl) g tb D σ H = tl σ H fun x H1 => ∃ a, x = .ref a ∧ (∃ xs, SqT K H1 a xs) ∧ ForT K a g tb D σ H1 := rfl
def tTr (K : PySem.W.Frag) (ta : TE) : TT := fun σ H Q => ta σ H fun x H' => ∃ k, TruV K x H' k ∧ Q k H'
theorem rd_tr {K : PySem.W.Frag} {ta : TE} {σ : L2.St} {H : Hp} {Q : Bool → Hp → Prop} : tTr K ta σ H Q = ta σ H fun x H' => ∃ k, TruV K x H' k ∧ Q k H' := rfl
def tBl (ta : TE) : TT := fun σ H Q => ta σ H fun x H' => ∃ k, x = .bl k ∧ Q k H'
theorem rd_bl {ta : TE} {σ : L2.St} {H : Hp} {Q : Bool → Hp → Prop} : tBl ta σ H Q = ta σ H fun x H' => ∃ k, x = .bl k ∧ Q k H' := rfl
section
variable {X : Cx} {a : Expr} {ta : TE}
theorem pt_bl (ha : PE X a ta) (he : ∀ whole, isTrue a X.env whole = (do let v ← whole; standAt a.pos; holding [v] (truthy v))) : PT X a (tBl ta) := by
  intro pins s σ H Q I h
  refine isTrue_plain (thn (ha pins s σ H _ I h) fun v s1 ⟨x, H1, I1, r1, k, e, q1⟩ => ?_) (he _)
  subst e
  exact tru_ok pins s1 σ H1 (.bl k) v Q I1 r1 ⟨k, rfl, q1⟩
end
end L3
set_option Elab.async false
set_option linter.all false
set_option maxRecDepth 100000
set_option maxHeartbeats 4000000
namespace L3
open PySem PySem.Spec PyProof.Rows L2
noncomputable def Irv (K : PySem.W.Frag) (a : Addr) (n : Nat) : It := ⟨fun i H => ∃ xs, SqL K H a xs ∧ xs.length = n ∧ i < n, fun i H v H' => H' = H ∧ ∀ xs, SqL K H a xs → xs.length = n → xs[n - 1 - i]? = some v, fun i H => i = n⟩
section
variable {X : Cx} {tg : Expr}
def iRev (K : PySem.W.Frag) (ta : TA) : TI := fun σ H R => ta σ H fun vs H1 => ∃ a xs, vs = [.ref a] ∧ SqL K H1 a xs ∧ R (Irv K a xs.length) H1
end
section
variable {prog : Program} {w : World} {A : Around} {E : Value → Shared → Prop} {s : Shared}
end
section
variable {X : Cx}
def tRevL (K : PySem.W.Frag) (ta : TA) : TE := fun σ H Q => ta σ H fun vs H1 => ∃ a xs, vs = [.ref a] ∧ SqL K H1 a xs ∧ ∀ l, H1 l = none → Q (.ref l) (upd H1 l (.lst xs.reverse))
theorem rd_revl {K : PySem.W.Frag} {ta : TA} {σ : L2.St} {H : Hp} {Q : VK} : tRevL K ta σ H Q = ta σ H fun vs H1 => ∃ a xs, vs = [.ref a] ∧ SqL K H1 a xs ∧ ∀ l, H1 l = none → Q (.ref l) (upd H1 l (.lst xs.reverse)) := rfl
end
noncomputable def Izp (K : PySem.W.Frag) (a b : Addr) : It := ⟨fun i H => ∃ xs ys x y, SqL K H a xs ∧ SqL K H b ys ∧ xs[i]? = some x ∧ ys[i]? = some y, fun i H v H' => ∃ p x y, H p = none ∧ (∀ xs, SqL K H a xs → xs[i]? = some x) ∧ (∀ ys, SqL K H b ys → ys[i]? = some y) ∧ v = .ref p ∧ H' = upd H p (.tup [x, y]), fun i H => ∃ xs ys, SqL K H a xs ∧ SqL K H b ys ∧ (xs.length = i ∨ ys.length = i) ∧ i ≤ xs.length ∧ i ≤ ys.length⟩
theorem kind_ne {h : Heap} {a b : Addr} {o1 o2 : Obj} {t u : String} (h1 : h.get? a = some o1) (c1 : o1.cls = .type t) (h2 : h.get? b = some o2) (c2 : o2.cls = .type u) (hne : t ≠ u) : a ≠ b := fun z => by
  rw [z, h2] at h1
  cases h1
  rw [c2] at c1
  exact hne (Value.type.inj c1).symm
structure Apart5 (z TI TO i1 i2 : Addr) : Prop where
  TIz : TI ≠ z
  TOz : TO ≠ z
  i1z : i1 ≠ z
  i2z : i2 ≠ z
  TITO : TI ≠ TO
  TIi1 : TI ≠ i1
  TIi2 : TI ≠ i2
  TOi1 : TO ≠ i1
  TOi2 : TO ≠ i2
  i12 : i1 ≠ i2
def ZipAt (z TI TO i1 i2 l1 l2 : Addr) (i : Nat) (h : Heap) : Prop := IsZip h z TI TO .none ∧ IsPair h TI (.ref i1) (.ref i2) ∧ (∃ a b, IsPair h TO a b) ∧ h.IsListIter i1 l1 i ∧ h.IsListIter i2 l2 i
theorem ZipAt.apart {z TI TO i1 i2 l1 l2 : Addr} {i : Nat} {h : Heap} {xs ys : Array Value} (D : Apart5 z TI TO i1 i2) (st : ZipAt z TI TO i1 i2 l1 l2 i h) (h1 : h.IsList l1 xs) (h2 : h.IsList l2 ys) : ZipApart z TI TO i1 i2 l1 l2 := by
  obtain ⟨hz, hTI, ⟨a, b, hTO⟩, ⟨o1, e1, c1, _⟩, ⟨o2, e2, c2, _⟩⟩ := st
  obtain ⟨p1, q1, k1, _⟩ := h1
  obtain ⟨p2, q2, k2, _⟩ := h2
  exact ⟨D.TIz, D.TOz, D.i1z, D.i2z, D.TITO, D.TIi1, D.TIi2, D.TOi1, D.TOi2, D.i12, kind_ne q1 k1 hz rfl (by decide), kind_ne q1 k1 hTO rfl (by decide), kind_ne q1 k1 e1 c1 (by decide), kind_ne q1 k1 e2 c2 (by decide), kind_ne q2 k2 hz rfl (by decide), kind_ne q2 k2 hTO rfl (by decide), kind_ne q2 k2 e1 c1 (by decide), kind_ne q2 k2 e2 c2 (by decide)⟩
section
variable {X : Cx}
def iZip (K : PySem.W.Frag) (ta : TA) : TI := fun σ H R => ta σ H fun vs H1 => ∃ a b, vs = [.ref a, .ref b] ∧ (∃ xs, SqL K H1 a xs) ∧ (∃ ys, SqL K H1 b ys) ∧ R (Izp K a b) H1
end
def ForZ (K : PySem.W.Frag) (a b : Addr) (g : TG) (tb : TS) (D : Ends) (σ : L2.St) (H : Hp) : Prop := ∃ W : Nat → Nat → L2.St → Hp → Prop, (∃ m, W 0 m σ H) ∧ ∀ i m σ H, W i m σ H →
  ((Izp K a b).stop i H ∧ D.nx σ H) ∨ ((Izp K a b).go i H ∧ ∃ N : L2.St → Hp → Prop, (∀ σ' H', N σ' H' → ∃ m', m' < m ∧ W (i + 1) m' σ' H') ∧ ∀ x H', (Izp K a b).yld i H x H' → g x σ H' fun σ2 H2 => tb { D with nx := N, ct := N, bk := D.nx } σ2 H2)
theorem rd_z {K : PySem.W.Frag} {ta : TA} {g : TG} {tb : TS} {D : Ends} {σ : L2.St} {H : Hp} : tFor (iZip K ta) g tb D σ H = ta σ H fun vs H1 => ∃ a b, vs = [.ref a, .ref b] ∧ (∃ xs, SqL K H1 a xs) ∧ (∃ ys, SqL K H1 b ys) ∧ ForZ K a b g tb D σ H1 := rfl
end L3
set_option Elab.async false
set_option linter.all false
set_option maxRecDepth 100000
set_option maxHeartbeats 4000000
namespace L3
open PySem PySem.Spec PyProof.Rows L2
noncomputable abbrev xob (C : Addr) (dx : Option Addr) (t : Addr) (tb : Value) : Obj := { cls := .ref C, dict := dx, data := .fields #[.ref t, tb, .none, .none, .bool false, .none] }
noncomputable abbrev xog (C : Addr) (dx : Option Addr) (t : Addr) (tb c : Value) (k : Bool) : Obj := { cls := .ref C, dict := dx, data := .fields #[.ref t, tb, c, .none, .bool k, .none] }
def TbOk (h : Heap) (x : Addr) (tb : Value) : Prop := tb = .none ∨ ∃ T oT ts, tb = .ref T ∧ T ≠ x ∧ h.get? T = some oT ∧ oT.data = .fields ts ∧ 3 < ts.size
section
variable {M : Model} {A : Around} {E : Value → Shared → Prop} {s : Shared} {base : Heap} {env env0 : Env} {outer : List Env} {L x t C : Addr} {dx : Option Addr} {cx : Value} {kx : Bool}
theorem frameOf_same (h : env.frame = env0.frame) : PySem.frameOf env = PySem.frameOf env0 := by unfold PySem.frameOf; rw [h]
theorem entry_x {tb head : Value} {hadNext : Bool} {Q : Unit → Shared → Prop} (hfr : A.frames = some (env0 :: outer)) (hl : s.heap.FunFrames base (env0 :: outer)) (hf : env0.frame = some L) (he : env.frame = some L)
    (hx : s.heap.get? x = some (xog C dx t tb cx kx))
    (h : ∀ h' oT ts, h'.get? x = some (xog C dx t (.ref s.heap.objs.size) cx kx) → s.heap.objs.size ≠ x → h'.get? s.heap.objs.size = some oT → oT.data = .fields ts → 3 < ts.size →
      (∀ b o, b ≠ x → b ∉ frs (env0 :: outer) → s.heap.get? b = some o → h'.get? b = some o) → (∀ b o, b ≠ x → s.heap.get? b = some o → ∃ sl, h'.get? b = some { o with slots := sl }) → Q () { s with heap := h' }) :
    wpAny M A (do let a ← PySem.frameOf env; let pl ← entryPlaceOf L hadNext; let b ← EntryCells.newEntry head a .none (rawInt L) .none pl; setField (.ref x) 1 b) Q E s := by
  have hxf : x ∉ frs (env0 :: outer) := fun hm => by
    obtain ⟨_, o, ho, hnf⟩ := hl.mem hm
    rw [hx] at ho
    cases ho
    exact hnf _ rfl
  rw [frameOf_same (he.trans hf.symm)]
  refine wpAny_bind (wpAny_frameOf_fun hfr hl hf fun h1 hs1 => wpAny_bind (wpAny_entryPlaceOf fun pl hpl => ?_))
  unfold EntryCells.newEntry newFields
  refine wpAny_bind (wpAny_newObj_type ?_ (hpl.sizeOk5 _ _ _ _ _))
  have hz : h1.objs.size = s.heap.objs.size := hs1.1
  have hx1 : h1.get? x = some (xog C dx t tb cx kx) := (hs1.2.1 x hxf).trans hx
  generalize ho : ({ cls := .type "traceback", dict := none, data := .fields ([head, .ref L, .none, rawInt L, .none] ++ (if pl.isEmpty then List.replicate 6 Value.none else pl)).toArray } : Obj) = ob
  have hx2 : (h1.push ob).get? x = some (xog C dx t tb cx kx) := Heap.get?_push_of_some _ hx1
  refine wpAny_setField hx2 rfl (by show 1 < 6; decide) ?_
  have hne : h1.objs.size ≠ x := Nat.ne_of_gt (Heap.lt_size hx1)
  have hx3 : ((h1.push ob).update x (Obj.mapFields (·.setIfInBounds 1 (Value.ref h1.objs.size)))).get? x = some (xog C dx t (.ref h1.objs.size) cx kx) :=
    Heap.get?_update_self (Obj.mapFields (·.setIfInBounds 1 (Value.ref h1.objs.size))) hx2 rfl
  have hT : ((h1.push ob).update x (Obj.mapFields (·.setIfInBounds 1 (Value.ref h1.objs.size)))).get? h1.objs.size = some ob :=
    (Heap.get?_update_other _ _ (Ne.symm hne)).trans (Heap.get?_push_size h1 (by rw [← ho]; rfl))
  rw [hz] at hx3 hT hne
  have kp : ∀ b o, b ≠ x → h1.get? b = some o → ((h1.push ob).update x (Obj.mapFields (·.setIfInBounds 1 (Value.ref h1.objs.size)))).get? b = some o := fun b o hb e =>
    (Heap.get?_update_other _ _ (Ne.symm hb)).trans (Heap.get?_push_of_some _ e)
  rw [hz] at kp ⊢
  refine h _ ob _ hx3 hne hT (by rw [← ho]) (by simp only [List.size_toArray, List.length_append, List.length_cons, List.length_nil] <;> lia) (fun b o hb hbf e => kp b o hb ((hs1.2.1 b hbf).trans e)) fun b o hb e => ?_
  obtain ⟨sl, q⟩ := hs1.2.2 b o e
  exact ⟨sl, kp b _ hb q⟩
theorem settle_x {tb : Value} {Q : Unit → Shared → Prop} (hfr : A.frames = some (env0 :: outer)) (hl : s.heap.FunFrames base (env0 :: outer)) (hf : env0.frame = some L) (he : env.frame = some L)
    (hx : s.heap.get? x = some (xog C dx t tb cx kx)) (htb : TbOk s.heap x tb)
    (h : ∀ h' T oT ts, h'.get? x = some (xog C dx t (.ref T) cx kx) → T ≠ x → (tb = .ref T ∨ s.heap.objs.size ≤ T) → h'.get? T = some oT → oT.data = .fields ts → 3 < ts.size →
      (∀ b o, b ≠ x → tb ≠ .ref b → b ∉ frs (env0 :: outer) → s.heap.get? b = some o → h'.get? b = some o) → (∀ b o, b ≠ x → tb ≠ .ref b → s.heap.get? b = some o → ∃ sl, h'.get? b = some { o with slots := sl }) → Q () { s with heap := h' }) :
    wpAny M A (noteFrame (.ref x) env) (fun _ s1 => wpAny M A (setFlight (.ref x) none) Q E s1) E s := by
  have land : ∀ (h1 : Heap) (T : Addr) (oT : Obj) (ts : Array Value), h1.get? x = some (xog C dx t (.ref T) cx kx) → T ≠ x → (tb = .ref T ∨ s.heap.objs.size ≤ T) → h1.get? T = some oT → oT.data = .fields ts → 3 < ts.size →
      (∀ b o, b ≠ x → tb ≠ .ref b → b ∉ frs (env0 :: outer) → s.heap.get? b = some o → h1.get? b = some o) → (∀ b o, b ≠ x → tb ≠ .ref b → s.heap.get? b = some o → ∃ sl, h1.get? b = some { o with slots := sl }) →
      wpAny M A (setFlight (.ref x) none) Q E { s with heap := h1 } := fun h1 T oT ts e1 nT oldT e2 d2 z2 k1 k2 => by
    unfold setFlight
    refine wpAny_bind (wpAny_field (s := { s with heap := h1 }) e1 rfl (x := .ref T) rfl ?_)
    rw [if_pos (show (Value.ref T != Value.none) = true from by simp)]
    refine wpAny_setField (s := { s with heap := h1 }) e2 d2 z2 ?_
    have d3 := Obj.data_mapFields d2 (·.setIfInBounds 3 ((none : Option Addr).elim Value.none fun f => rawInt f))
    have nb : ∀ b, b ≠ x → tb ≠ .ref b → (∃ o, s.heap.get? b = some o) → b ≠ T := fun b hb hbt ⟨o, eo⟩ z => by
      subst z
      rcases oldT with q | q
      · exact hbt q
      · exact absurd (Heap.lt_size eo) (Nat.not_lt.mpr q)
    refine h _ T _ _ ((Heap.get?_update_other _ _ nT).trans e1) nT oldT (Heap.get?_update_self _ e2 (Obj.isFreed_of_fields d3)) d3 (by simpa using z2) (fun b o hb hbt hbf e => ?_) fun b o hb hbt e => ?_
    · exact (Heap.get?_update_other _ _ (Ne.symm (nb b hb hbt ⟨o, e⟩))).trans (k1 b o hb hbt hbf e)
    · obtain ⟨sl, q⟩ := k2 b o hb hbt e
      exact ⟨sl, (Heap.get?_update_other _ _ (Ne.symm (nb b hb hbt ⟨o, e⟩))).trans q⟩
  unfold noteFrame
  simp only [he]
  refine wpAny_bind (wpAny_field hx rfl (x := tb) rfl ?_)
  rcases htb with rfl | ⟨T, oT, ts, rfl, nT, e2, d2, z2⟩
  · rw [if_neg (by decide)]
    refine entry_x hfr hl hf he hx fun h' oT ts e1 ne e2 d2 z2 k1 k2 => land h' _ oT ts e1 ne (.inr (Nat.le_refl _)) e2 d2 z2 (fun b o hb _ hbf e => k1 b o hb hbf e) fun b o hb _ e => k2 b o hb e
  · rw [if_pos (show (Value.ref T != Value.none) = true from by simp)]
    obtain ⟨y, hy⟩ : ∃ y, ts[3]? = some y := ⟨ts[3], by simp [z2]⟩
    refine wpAny_bind (wpAny_field e2 d2 (x := y) hy ?_)
    by_cases c : (y == rawInt L) = true
    · rw [if_pos c]
      exact wpAny_pure (land s.heap T oT ts hx nT (.inl rfl) e2 d2 z2 (fun b o _ _ _ e => e) fun b o _ _ e => ⟨o.slots, e⟩)
    · rw [if_neg c]
      refine wpAny_bind (wpAny_setField e2 d2 z2 ?_)
      have oth : ∀ b, b ≠ T → (s.heap.update T (Obj.mapFields (·.setIfInBounds 3 Value.none))).get? b = s.heap.get? b := fun b hb => Heap.get?_update_other _ _ (Ne.symm hb)
      have hl1 : (s.heap.update T (Obj.mapFields (·.setIfInBounds 3 Value.none))).FunFrames base (env0 :: outer) := hl.of_keeps fun b o hb hnf => ⟨o, (oth b fun q => by rw [q, e2] at hb; cases hb; exact hnf ts d2).trans hb, rfl⟩
      have hsz : (s.heap.update T (Obj.mapFields (·.setIfInBounds 3 Value.none))).objs.size = s.heap.objs.size := Heap.size_update ..
      refine entry_x (s := { s with heap := s.heap.update T (Obj.mapFields (·.setIfInBounds 3 Value.none)) }) hfr hl1 hf he ((oth x (Ne.symm nT)).trans hx) fun h' oT' ts' e1 ne e2' d2' z2' k1 k2 => ?_
      refine land h' _ oT' ts' e1 ne (.inr (by rw [hsz]; exact Nat.le_refl _)) e2' d2' z2' (fun b o hb hbt hbf e => k1 b o hb hbf ((oth b fun q => hbt (by rw [q])).trans e)) fun b o hb hbt e => k2 b o hb ((oth b fun q => hbt (by rw [q])).trans e)
theorem leave_x {tb : Value} {Q : Unit → Shared → Prop} (hfr : A.frames = some (env0 :: outer)) (hl : s.heap.FunFrames base (env0 :: outer)) (hf : env0.frame = some L) (he : env.frame = some L)
    (hx : s.heap.get? x = some (xog C dx t tb cx kx)) (htb : TbOk s.heap x tb)
    (h : ∀ h' T oT ts, h'.get? x = some (xog C dx t (.ref T) cx kx) → T ≠ x → (tb = .ref T ∨ s.heap.objs.size ≤ T) → h'.get? T = some oT → oT.data = .fields ts → 3 < ts.size →
      (∀ b o, b ≠ x → tb ≠ .ref b → b ∉ frs (env0 :: outer) → s.heap.get? b = some o → h'.get? b = some o) → (∀ b o, b ≠ x → tb ≠ .ref b → s.heap.get? b = some o → ∃ sl, h'.get? b = some { o with slots := sl }) → Q () { s with heap := h' }) :
    wpAny M A (leaving env (.ref x)) Q E s := wpAny_bind (settle_x hfr hl hf he hx htb h)
end
def CXx (P : Program) (w : World) : CXT := fun outer H s E e s' => ∃ (x C t : Addr) (dx : Option Addr) (tb : Value) (H' : Hp), e = .ref x ∧ s'.os = s.os ∧ AllBare s'.gens ∧ Un (frs outer) [] H H' s.heap s'.heap ∧ HOk P w H' s'.heap ∧
  s'.heap.get? x = some (xob C dx t tb) ∧ TbOk s'.heap x tb ∧ H' x = none ∧ s.heap.objs.size ≤ x ∧ (∀ T, tb = .ref T → H' T = none ∧ s.heap.objs.size ≤ T) ∧ E (.ref C) dx H'
def Flies (X : Cx) (E : XK) (e : Value) (s : Shared) : Prop := ∃ (pins : List (Addr × Obj)) (σ : St) (H : Hp) (x C t : Addr) (dx : Option Addr) (tb : Value), e = .ref x ∧ Inv X pins σ H s ∧
  s.heap.get? x = some (xob C dx t tb) ∧ TbOk s.heap x tb ∧ FpOk X pins H x ∧ (∀ T, tb = .ref T → FpOk X pins H T) ∧ E (.ref C) dx H
def XE (X : Cx) (E : XK) : Prop := ∀ e s, Flies X E e s → X.xe e s
theorem passes_x {X : Cx} {E : XK} (hx : XE X E) : Passes (CXx X.prog X.w) X E := by
  intro pins σ H s e s' I h
  obtain ⟨x, C, t, dx, tb, H', rfl, os, bare, un, hok, ob, tr, hn, hsz, hT, q⟩ := h
  have I' : Inv X pins σ H' s' := I.call' os un hok bare fun b z => absurd z (by simp)
  exact hx _ _ ⟨pins, σ, H', x, C, t, dx, tb, rfl, I', ob, tr, I.fpOk hsz hn, fun T e => I.fpOk (hT T e).2 (hT T e).1, q⟩
theorem xe_cx {P : Program} {w : World} {K : PySem.W.Frag} {mg : Str → Option Value} {base : Heap} {N : List Str} {qual : Str} {scope : Scope} {f : Addr} {cd : Value} {A : Around} {outer : List Env} {s : Shared} {H : Hp} {E : XK} :
    XE (cxOf (CXx P w) P w K mg base N qual scope f cd A outer s H E) E := by
  intro e s1 h
  obtain ⟨pins, σ, H1, x, C, t, dx, tb, rfl, I, ob, tr, fx, fT, q⟩ := h
  show wpAny _ _ (leaving _ (.ref x)) _ _ s1
  have ff := I.stack
  refine leave_x (A := (cxOf (CXx P w) P w K mg base N qual scope f cd A outer s H E).A) (env0 := envOfC qual scope s.heap.objs.size f cd) (outer := outer) I.ok.frames ff rfl rfl ob tr fun h' T oT ts e1 nT oldT e2 d2 z2 k1 k2 => ?_
  have szs : s.heap.objs.size ≤ s1.heap.objs.size := I.sz
  have hxs : s.heap.objs.size ≤ x := by
    rcases fx.2.2.2.1 with z | z
    · exact absurd z (by simp [cxOf])
    · exact z
  have hTs : s.heap.objs.size ≤ T ∧ H1 T = none := by
    rcases oldT with z | z
    · obtain ⟨a0, _, _, a3, _⟩ := fT T z
      rcases a3 with y | y
      · exact absurd y (by simp [cxOf])
      · exact ⟨y, a0⟩
    · exact ⟨Nat.le_trans szs z, I.hok.fresh z⟩
  have tbs : ∀ b, tb = .ref b → s.heap.objs.size ≤ b ∧ H1 b = none := fun b hb => by
    obtain ⟨a0, _, _, a3, _⟩ := fT b hb
    rcases a3 with y | y
    · exact absurd y (by simp [cxOf])
    · exact ⟨y, a0⟩
  have old : ∀ b o, s.heap.get? b = some o → b ≠ x ∧ tb ≠ .ref b := fun b o e => by
    have hb := Heap.lt_size e
    refine ⟨Nat.ne_of_lt (Nat.lt_of_lt_of_le hb hxs), fun z => ?_⟩
    exact absurd (Nat.lt_of_lt_of_le hb (tbs b z).1) (Nat.lt_irrefl _)
  have un : Un (frs outer) [] H H1 s.heap h' := by
    have B := I.base
    refine ⟨fun b o e n hb _ => ?_, fun b o e n hb _ => ?_, fun b o e n _ => B.free b o e n (by simp [cxOf]), fun b o e _ => ?_, B.tups, B.frzs, B.tbls⟩
    · have e1 := B.keep b o e n hb (by simp [cxOf])
      refine k1 b o (old b o e).1 (old b o e).2 (fun z => ?_) e1
      have z' := I.stkSub b z
      rcases aa.mp z' with q | q
      · exact absurd q (Nat.ne_of_lt (Nat.lt_of_lt_of_le (Heap.lt_size e) I.ok.above))
      · exact hb q
    · obtain ⟨sl, e1⟩ := B.slot b o e n hb (by simp [cxOf])
      obtain ⟨sl', e2⟩ := k2 b _ (old b o e).1 (old b o e).2 e1
      exact ⟨sl', e2⟩
    · obtain ⟨o', e1⟩ := B.there b o e (by simp [cxOf])
      obtain ⟨sl', e2⟩ := k2 b _ (old b o e).1 (old b o e).2 e1
      exact ⟨_, e2⟩
  have hok : HOk P w H1 h' := fun b u e => by
    refine (I.hok b u e).stay (fun c v hc q => k1 c v ?_ ?_ ?_ q) (fun _ q => q) fun _ _ q => q
    · rintro rfl
      rcases hc with rfl | hc
      · rw [fx.1] at e; cases e
      · rw [fx.1] at hc; cases hc
    · intro z
      have := (tbs c z).2
      rcases hc with rfl | hc
      · rw [this] at e; cases e
      · rw [this] at hc; cases hc
    · intro z
      have := I.stkFree c z
      rcases hc with rfl | hc
      · rw [this] at e; cases e
      · rw [this] at hc; cases hc
  exact ⟨x, C, t, dx, .ref T, H1, rfl, I.os, I.bare, un, hok, e1, .inr ⟨T, oT, ts, rfl, nT, e2, d2, z2⟩, fx.1, hxs, fun T' z => by cases z; exact ⟨hTs.2, hTs.1⟩, q⟩
theorem Fun.okX {P : Program} {w : World} {K : PySem.W.Frag} {mg : Str → Option Value} {base : Heap} {x qual : Str} {st : Stmt} {f : Addr} {fd : FuncData} {N ps : List Str} {k : Nat} {sp : Sp} (F : Fun K x qual st f fd) (S : FnScope N ps (defScope st)) (len : ∀ vs H Q E, sp vs H Q E → vs.length = ps.length)
    (hbody : ∀ (cdv : Value) (A : Around) (outer : List Env) (s : Shared) (H : Hp) (vs : List V) (Q : VK) (E : XK), Room k (A.deeper (envOfC qual (defScope st) s.heap.objs.size f cdv)) → XE (cxOf (CXx P w) P w K mg base N qual (defScope st) f cdv A outer s H E) E → sp vs H Q E →
      ∃ t, PSs (cxOf (CXx P w) P w K mg base N qual (defScope st) f cdv A outer s H E) (defBody st) t ∧ t { nx := fun _ H' => Q .non H', rt := Q } (start N vs) H) : FnOk P w K mg base (CXx P w) (k + 1) f fd ps sp := by
  obtain ⟨oc, od, kV, doc, pm, an, cdv, ct, osl, rfl, lk, hcd⟩ := F.ex
  exact fn_of lk hcd S len fun A outer s H vs Q E hr hsp => hbody cdv A outer s H vs Q E hr xe_cx hsp
def FliesG (X : Cx) (E : XK) (e : Value) (s : Shared) : Prop := ∃ (cx : Value) (kx : Bool) (pins : List (Addr × Obj)) (σ : St) (H : Hp) (x C t : Addr) (dx : Option Addr) (tb : Value), e = .ref x ∧ Inv X pins σ H s ∧
  s.heap.get? x = some (xog C dx t tb cx kx) ∧ TbOk s.heap x tb ∧ FpOk X pins H x ∧ (∀ T, tb = .ref T → FpOk X pins H T) ∧ E (.ref C) dx H
def XEg (X : Cx) (E : XK) : Prop := ∀ e s, FliesG X E e s → X.xe e s
end L3
set_option Elab.async false
set_option linter.all false
set_option maxRecDepth 100000
set_option maxHeartbeats 4000000
namespace L3
open PySem PySem.Spec PyProof.Rows L2
structure RoomH (k : Nat) (A : Around) : Prop where
  dp : A.depth + 3 * k + 5 < recursionLimit
  un : A.units + 16 * k + 200 < cLine
theorem RoomH.mark {k : Nat} {A : Around} (r : RoomH k A) (e : Option Value) : RoomH k (A.mark e) := ⟨r.dp, r.un⟩
noncomputable def cxH (P : Program) (w : World) (K : PySem.W.Frag) (mg : Str → Option Value) (base : Heap) (N : List Str) (qual : Str) (scope : Scope) (f : Addr) (cd : Value) (A : Around) (outer : List Env) (s : Shared) (H : Hp) : Cx :=
  { cxOf CX0 P w K mg base N qual scope f cd A outer s H E0 with calm := false, xe := fun _ _ => False }
section
variable {X : Cx} {k : Nat} {f : Addr} {fd : FuncData} {ps : List Str} {sp : Sp} {x : Str} {p pos : Pos} {e : Expr} {es : List Expr} {t : TA}
end
end L3
set_option Elab.async false
set_option linter.all false
set_option maxRecDepth 100000
set_option maxHeartbeats 4000000
namespace L3
open PySem PySem.Spec PyProof.Rows L2
noncomputable abbrev bmV : List Value := [.type "ValueError", .type "Exception", .type "BaseException", .type "object"]
noncomputable def xcIn (K : PySem.W.Frag) (C : Addr) : Bool := match K.lookup C with
  | some ⟨.type "type", _, .cls cd, sl⟩ => (match cd.mro, sl.toList with
    | .ref C' :: bm, [_, _, _, _, some (.builtin n), _] => C' == C && (n == "ValueError.__new__" && (!cd.hasDel && (cd.hasDict && PySem.W.tailIn K bmV bm)))
    | _, _ => false)
  | _ => false
theorem xc_obj {K : PySem.W.Frag} {C : Addr} (q : xcIn K C = true) : ∃ bm N nm qn bs sn sub ab col dd k0 k1 k2 k3 k5, K.lookup C = some (excClassObj nm qn C N bs bm true sn sub ab col dd k0 k1 k2 k3 k5 "ValueError.__new__") ∧ ∀ h : Heap, K.In h → OwnTail h bmV bm := by
  unfold xcIn at q
  split at q
  · rename_i dd cd sl ho
    split at q
    · rename_i C' bm k0 k1 k2 k3 n k5 hm hs
      simp only [Bool.and_eq_true, beq_iff_eq, Bool.not_eq_true'] at q
      obtain ⟨rfl, rfl, hdel, hdct, ht⟩ := q
      obtain ⟨nm, bs, mro, ns, qn, hd, sn, sub, ab, col, del⟩ := cd
      dsimp only at hm hdel hdct
      subst hm hdel hdct
      have hsl : sl = #[k0, k1, k2, k3, some (.builtin "ValueError.__new__"), k5] := by
        obtain ⟨l⟩ := sl
        simp only at hs
        rw [hs]
      subst hsl
      exact ⟨bm, ns, nm, qn, bs, sn, sub, ab, col, dd, k0, k1, k2, k3, k5, ho, fun h X => PySem.W.tail_of_in X ht⟩
    · cases q
  · cases q
structure XC (K : PySem.W.Frag) (C : Addr) : Prop where
  ok : xcIn K C = true
  sa : PySem.W.findIn K (.ref C) "__setattr__" = some (some (.builtin "object.__setattr__"))
  ga : PySem.W.findIn K (.ref C) "__getattribute__" = some (some (.builtin "BaseException.__getattribute__"))
  gt : PySem.W.findIn K (.ref C) "__getattr__" = some none
  kp : PySem.W.keepIn K (.ref C) = true
section
variable {prog : Program} {w : World} {A : Around} {R : Result → Shared → Prop} {h : Heap} {g : Array GenState} {d : Drawn} {t : Nat} {os : OsState} {K : PySem.W.Frag} {C : Addr}
theorem exc_call {init : Value} {rest : List Value} (X : K.In h) (q : xcIn K C = true) (hi : PySem.W.findIn K (.ref C) "__init__" = some (some init))
    (hb : ∀ self, PySem.W.Looks (model prog w) h (bindSpecial init self) (init, [self])) (hrest : rest.length ≤ sizeLine)
    (hq : codeAny (model prog w) (A.under (.builtin "type.__call__" ⟨.ref C :: rest, []⟩)) (.call init ⟨.ref (h.objs.size + 1) :: rest, []⟩) (PySem.W.InitBack (h.objs.size + 1) R) ⟨(h.push { cls := .type "tuple", data := .seq rest.toArray }).push (xob C none h.objs.size .none), g, d, t, os⟩) :
    codeAny (model prog w) A (.call (.ref C) ⟨rest, []⟩) R ⟨h, g, d, t, os⟩ := by
  obtain ⟨bm, N, nm, qn, bs, sn, sub, ab, col, dd, k0, k1, k2, k3, k5, lk, tl⟩ := xc_obj q
  have hC := X _ _ lk
  have T := tl h X
  have F := PySem.F.excBase_ValueError
  have f1 := tc_lookup
  have f2 := tc_bind (.ref C)
  have hT : (⟨h, g, d, t, os⟩ : Shared).TypeIs (.ref C) "type" := ⟨_, hC, rfl⟩
  refine codeAny_of_tree ?_
  show wpAny _ _ (callAny (.ref C) _) _ _ _
  repeat (any_goals (first | assumption | with_reducible refine wpAny_loadPart_at hC ?_ | wp_step))
  refine ⟨rfl, ?_⟩
  refine codeAny_call_builtin_at (Code.quiet_builtin _ (by symm)) entry_typeCall (wpAny_check_type_call_sub hC ?_)
  repeat (first | with_reducible refine wpAny_loadPart_at hC ?_ | with_reducible refine wpAny_madeBy_exc hC ?_ | wp_step)
  refine codeAny_call_builtin_code (Code.quiet_builtin _ F.quiet) (wpAny_check_new_subT F T hC ?_)
  refine codeAny_exc_new_subT F T hC ?_ hrest
  show wpAny _ _ _ _ _ _
  have k : ∀ b o, h.get? b = some o → ((h.push { cls := .type "tuple", data := .seq rest.toArray }).push (xob C none h.objs.size .none)).get? b = some o := fun b o e => Heap.get?_push_of_some _ (Heap.get?_push_of_some _ e)
  have hC1 := k _ _ hC
  have hget : ((h.push { cls := .type "tuple", data := .seq rest.toArray }).push (xob C none h.objs.size .none)).get? (h.objs.size + 1) = some (xob C none h.objs.size .none) := by heap_get
  have hcC : (Value.ref C :: bm).contains (.ref C) = true := by simp
  unfold isInstance
  repeat (first | with_reducible refine wpAny_loadPart_at hget ?_ | wp_step)
  refine wpAny_isSubtype_exc (C := C) hC1 ?_
  rw [hcC]
  repeat wp_step
  show wpAny _ _ (typeLookup (.ref C) _) _ _ _
  refine ((PySem.W.looks_findIn X hi).keeps k).at ?_
  refine wpAny_holding (wpAny_bind (((hb _).keeps k).at ?_))
  refine wpAny_bind (wpAny_call (codeAny_mono hq fun r s' z => ?_))
  rcases r with e | (v | _ | _ | _) <;> first | exact z | exact z.elim | skip
  obtain ⟨rfl, z⟩ := z
  exact wpAny_pure (wpAny_pure z)
end
end L3
set_option Elab.async false
set_option linter.all false
set_option maxRecDepth 100000
set_option maxHeartbeats 4000000
namespace L3
open PySem PySem.Spec PyProof.Rows L2
noncomputable def XN (x C : Addr) (dx : Option Addr) : HO := .ext fun h => ∃ t, h.get? x = some (xob C dx t .none)
noncomputable def XT (x C : Addr) (dx : Option Addr) : HO := .ext fun h => ∃ t tb c k, h.get? x = some (xog C dx t tb c k)
noncomputable def XP (x C : Addr) (dx : Option Addr) : HO := .ext fun h => ∃ t tb, h.get? x = some (xob C dx t tb)
theorem xn_ok {P : Program} {w : World} {H : Hp} {h : Heap} {x C t : Addr} {dx : Option Addr} (e : h.get? x = some (xob C dx t .none)) : ObjOk P w H h x (XN x C dx) :=
  ⟨⟨t, e⟩, ⟨_, e⟩, fun h1 h2 ⟨t, q⟩ k => ⟨t, k _ q⟩⟩
theorem xt_ok {P : Program} {w : World} {H : Hp} {h : Heap} {x C t : Addr} {dx : Option Addr} {tb c : Value} {k : Bool} (e : h.get? x = some (xog C dx t tb c k)) : ObjOk P w H h x (XT x C dx) :=
  ⟨⟨t, tb, c, k, e⟩, ⟨_, e⟩, fun h1 h2 ⟨t, tb, c, k', q⟩ k => ⟨t, tb, c, k', k _ q⟩⟩
theorem xn_at {P : Program} {w : World} {H : Hp} {h : Heap} {x C : Addr} {dx : Option Addr} (o : ObjOk P w H h x (XN x C dx)) : ∃ t, h.get? x = some (xob C dx t .none) := o.1
theorem xt_at {P : Program} {w : World} {H : Hp} {h : Heap} {x C : Addr} {dx : Option Addr} (o : ObjOk P w H h x (XT x C dx)) : ∃ t tb c k, h.get? x = some (xog C dx t tb c k) := o.1
section
variable {nm q : Str} {C N : Addr} {bs bm : List Value} {hdct : Bool} {sn : List Str} {sub : List Value} {ab : Bool} {col : Option Bool} {dd : Option Addr} {k0 k1 k2 k3 k5 : Option Value} {newId : String} {h : Heap} {M : Model}
theorem sub_looks (hC : h.get? C = some (excClassObj nm q C N bs bm hdct sn sub ab col dd k0 k1 k2 k3 k5 newId)) (base : Value) : PySem.W.Looks M h (isSubtype (.ref C) base) ((Value.ref C :: bm).contains base) := fun A Q E s k z => by
  obtain ⟨hp, g, d, t, os⟩ := s
  exact wpAny_isSubtype_exc (k _ _ hC) z
theorem mro_looks (hC : h.get? C = some (excClassObj nm q C N bs bm hdct sn sub ab col dd k0 k1 k2 k3 k5 newId)) : PySem.W.Looks M h (mroOf (.ref C)) (.ref C :: bm) := fun A Q E s k z => by
  obtain ⟨hp, g, d, t, os⟩ := s
  exact wpAny_mroOf_exc (k _ _ hC) z
theorem cls_looks (hC : h.get? C = some (excClassObj nm q C N bs bm hdct sn sub ab col dd k0 k1 k2 k3 k5 newId)) : PySem.W.Looks M h (classData C) { name := nm, bases := bs, mro := .ref C :: bm, ns := N, qualname := q, hasDict := hdct, slotNames := sn, subclasses := sub, abstract := ab, collection := col, hasDel := false } := fun A Q E s k z => by
  unfold classData
  exact wpAny_bind (wpAny_load (k _ _ hC) (wpAny_pure z))
theorem tail_passes {bmB bm : List Value} (T : OwnTail h bmB bm) (self : Value) (hp : refuseLoop self "__setattr__" bmB = pure ()) : refuseLoop self "__setattr__" bm = pure () := by
  induction T with
  | base => exact hp
  | own _ _ _ _ ih => rw [refuseLoop_ref]; exact ih
end
section
variable {X : Cx} {pins : List (Addr × Obj)} {σ : St} {H : Hp} {s : Shared} {A : Around} {E : Value → Shared → Prop} {x C : Addr} {f : Str} {y : V} {u : Value}
theorem xset_ok {Q : Unit → Shared → Prop} (I : Inv X pins σ H s) (e : H x = some (XN x C none)) (xc : XC X.K C) (n : NoAttr X.K C f) (ry : RelV y u)
    (h : ∀ s' dx, H dx = none → Inv X pins σ (upd (upd H dx (.xd [(f, y)])) x (XN x C (some dx))) s' → Q () s') : wpAny (model X.prog X.w) A (setAttr (.ref x) f u) Q E s := by
  obtain ⟨t, ob⟩ := xn_at (I.hok x _ e)
  obtain ⟨bm, N, nm, qn, bs, sn, sub, ab, col, dd, k0, k1, k2, k3, k5, lk, tl⟩ := xc_obj xc.ok
  have hC := I.kIn _ _ lk
  have T := tl _ I.kIn
  have SF := PySem.F.store_ValueError
  have J : PySem.W.InstAt s.heap x (xob C none t .none) C none := ⟨ob, rfl, rfl, trivial⟩
  have hob : (Value.ref C :: bm).contains (.type "object") = true := by rw [List.contains_cons, T.hasType (show bmV.contains (.type "object") = true by symm), Bool.or_true]
  have isO : PySem.W.Looks (model X.prog X.w) s.heap (isInstance (.ref x) (.type "object")) true := J.type.andThen (by have := sub_looks (M := model X.prog X.w) hC (.type "object"); rw [hob] at this; exact this)
  refine PySem.W.set_plain I.kIn J xc.sa ?_
  refine codeAny_call_builtin SF.slot.plain SF.entry (@PySem.W.check_slot (model X.prog X.w) _ _ { s with toks := s.toks + 1 } "object.__setattr__" "object" "__setattr__" (.ref x) [.str f s.toks, u] [] _ SF.kind SF.split isO (SF.args _ _ _) ?_)
  rw [PySem.W.osa_eq, refuse_eq]
  refine wpAny_bind (wpAny_bind (J.type.here (s := { s with toks := s.toks + 1 }) (wpAny_bind ((mro_looks hC).here (s := { s with toks := s.toks + 1 }) ?_))))
  rw [refuseLoop_ref, tail_passes T _ (SF.passes _)]
  refine wpAny_pure (wpAny_bind (J.type.here (s := { s with toks := s.toks + 1 }) (wpAny_bind ((PySem.W.looks_findIn I.kIn n).here (s := { s with toks := s.toks + 1 }) (wpAny_bind (wpAny_pure ?_))))))
  show wpAny _ _ (Builtin.ObjectAttr.storeInOwnDict (.ref x) (.ref C) (.str f s.toks) f u false) _ _ _
  have hx1 : (s.heap.push { cls := .type "dict", data := .dict #[] }).get? x = some (xob C none t .none) := Heap.get?_push_of_some _ ob
  have hxs : x ≠ s.heap.objs.size := Nat.ne_of_lt (Heap.lt_size ob)
  refine wpAny_bind (wpAny_pure (wpAny_bind (wpAny_bind (wpAny_loadPart ob (wpAny_bind ((cls_looks hC).here (s := { s with toks := s.toks + 1 }) ?_))))))
  rw [if_neg (by simp)]
  show wpAny _ _ (if (!true || !typeHasDict (.ref C)) = true then _ else _) _ _ _
  rw [if_neg (by simp [typeHasDict])]
  have hgd : ((s.heap.push { cls := .type "dict", data := .dict #[] }).update x fun o => { cls := o.cls, dict := some s.heap.objs.size, data := o.data, slots := o.slots }).get? s.heap.objs.size = some { cls := .type "dict", data := .dict #[] } :=
    (Heap.get?_update_other _ _ hxs).trans (Heap.get?_push_at rfl rfl)
  have hgx : ((s.heap.push { cls := .type "dict", data := .dict #[] }).update x fun o => { cls := o.cls, dict := some s.heap.objs.size, data := o.data, slots := o.slots }).get? x = some (xob C (some s.heap.objs.size) t .none) :=
    Heap.get?_update_self _ hx1 rfl
  have hnd : ((s.heap.push { cls := .type "dict", data := .dict #[] }).update x fun o => { cls := o.cls, dict := some s.heap.objs.size, data := o.data, slots := o.slots }).Ns s.heap.objs.size (fun _ => none) :=
    ⟨_, #[], _, hgd, rfl, fun e he => absurd he (by simp), fun _ => rfl⟩
  refine wpAny_bind (wpAny_alloc' (wpAny_bind (wpAny_update' hx1 (wpAny_pure ?_))))
  show wpAny _ _ (Builtin.ObjectAttr.storeInDict s.heap.objs.size (.str f s.toks) f u) _ _ _
  unfold Builtin.ObjectAttr.storeInDict Builtin.ObjectAttr.newKeyGuard
  refine wpAny_bind (wpAny_pure (wpAny_bind (wpAny_nsSet1 (Heap.Ns1.of_empty hnd) fun h' hn' hs => ?_)))
  obtain ⟨oD, esD, epD, hoD, hdD, hcD⟩ := hn'.count (Within.cons f u Within.nil)
  refine wpAny_bind (wpAny_lookBehind hoD (by rw [hdD]; exact pastItsLine_dict (Nat.le_trans hcD (by rw [List.length_cons, List.length_nil, sizeLine_eq]; lia))) ?_)
  refine wpAny_pure ?_
  have hx2 : h'.get? x = some (xob C (some s.heap.objs.size) t .none) := (hs.2 x hxs).trans hgx
  have hfr : H s.heap.objs.size = none := I.hok.fresh (Nat.le_refl _)
  have hxe : x ≠ s.heap.objs.size := hxs
  refine h _ s.heap.objs.size hfr ?_
  have k0 : ∀ b o, b ≠ x → s.heap.get? b = some o → h'.get? b = some o := fun b o hb q =>
    (hs.2 b (Nat.ne_of_lt (Heap.lt_size q))).trans ((Heap.get?_update_other _ _ (Ne.symm hb)).trans (Heap.get?_push_of_some _ q))
  have I1 : Inv X pins σ (upd H x (XN x C (some s.heap.objs.size))) { s with heap := h', toks := s.toks + 1 + 1 } :=
    I.write (x := x) (e := x) (by rw [e]; exact True.intro) (.inl rfl) k0 ⟨_, hx2⟩ (xn_ok hx2)
  have hd2 : ObjOk X.prog X.w (upd (upd H x (XN x C (some s.heap.objs.size))) s.heap.objs.size (.xd [(f, y)])) h' s.heap.objs.size (.xd [(f, y)]) := by
    refine ⟨_, hn', fun g => ?_⟩
    show RelO (List.lookup g [(f, y)]) (if g = f then some u else none)
    by_cases q : g = f
    · subst q
      rw [if_pos rfl]
      simp [List.lookup, RelO, ry]
    · rw [if_neg q]
      have q' : (g == f) = false := by simpa using q
      simp [List.lookup, q', RelO]
  have fd : FpOk X pins (upd H x (XN x C (some s.heap.objs.size))) s.heap.objs.size := I.fpOk (Nat.le_refl _) (by rw [upd_ne (Ne.symm hxe)]; exact hfr)
  have I2 := Inv.track I1 fd hd2
  have eH : upd (upd H x (XN x C (some s.heap.objs.size))) s.heap.objs.size (.xd [(f, y)]) = upd (upd H s.heap.objs.size (.xd [(f, y)])) x (XN x C (some s.heap.objs.size)) := by
    funext b
    unfold upd
    by_cases b1 : b = s.heap.objs.size
    · subst b1
      rw [if_pos rfl, if_neg (Ne.symm hxe), if_pos rfl]
    · by_cases b2 : b = x
      · subst b2
        rw [if_neg b1, if_pos rfl, if_pos rfl]
      · rw [if_neg b1, if_neg b2, if_neg b2, if_neg b1]
  rw [eH] at I2
  exact I2
end
end L3
set_option Elab.async false
set_option linter.all false
set_option maxRecDepth 100000
set_option maxHeartbeats 4000000
namespace L3
open PySem PySem.Spec PyProof.Rows L2
def sXfld (K : PySem.W.Frag) (ta tv : TE) (f : Str) : TS := fun D σ H => tv σ H fun y H1 => ta σ H1 fun o H2 => ∃ x C, o = .ref x ∧ H2 x = some (XN x C none) ∧ XC K C ∧ NoAttr K C f ∧ ∀ dx, H2 dx = none → D.nx σ (upd (upd H2 dx (.xd [(f, y)])) x (XN x C (some dx)))
section
variable {X : Cx} {o value : Expr} {f : Str} {pos pos' : Pos} {ta tv : TE}
theorem ps_xfld (ha : PE X o ta) (hv : PE X value tv) (hs : swapsWith value (some (.Attribute o f pos')) pos.line X.env = pure false) : PS X (.Assign [.Attribute o f pos'] value pos) (sXfld X.K ta tv f) := by
  intro pins s σ H D I h
  refine plainObj_wpAny_Assign_Attribute (thn (hv pins s σ H _ I h) fun u s1 ⟨y, H1, I1, ry, q⟩ => thn (ha pins s1 σ H1 _ I1 q) fun ov s2 ⟨x', H2, I2, rx, x, C, ex, e, xc, n, q2⟩ => ?_) hs
  subst ex
  obtain rfl : ov = Value.ref x := rx
  exact xset_ok I2 e xc n ry fun s3 dx hdx I3 => ⟨σ, _, I3, q2 dx hdx⟩
end
section
variable {M : Model} {A : Around} {E : Value → Shared → Prop} {s : Shared} {env : Env}
theorem raise_x {K : PySem.W.Frag} {x : Sem Value} {Q : Flow → Shared → Prop} (hh : A.handled = none)
    (h : wpAny M A x (fun v s1 => ∃ e C t dx, v = .ref e ∧ K.In s1.heap ∧ xcIn K C = true ∧ s1.heap.get? e = some (xob C dx t .none) ∧ E (.ref e) s1) E s) : wpAny M A (raiseStmt env (some x) none) Q E s := by
  unfold raiseStmt
  refine wpAny_bind (thn h fun v s1 h1 => ?_)
  obtain ⟨e, C, t, dx, rfl, X, hC, he, hE⟩ := h1
  obtain ⟨bm, N, nm, qn, bs, sn, sub, ab, col, dd, k0, k1, k2, k3, k5, lk, tl⟩ := xc_obj hC
  have hCo := X _ _ lk
  have T := tl _ X
  have hcB : (Value.ref C :: bm).contains (.type "BaseException") = true := by rw [List.contains_cons, T.hasType (show bmV.contains (.type "BaseException") = true by symm), Bool.or_true]
  obtain ⟨hp, g, d, tk, os⟩ := s1
  repeat (first | with_reducible refine wpAny_loadPart_at he ?_ | with_reducible refine wpAny_loadPart_at hCo ?_ | (with_reducible refine wpAny_isSubtype_exc hCo ?_; rw [hcB]) | wp_step)
  exact wpAny_raiseNew_none hh hE
theorem Raise_x {K : PySem.W.Frag} {e : Expr} {pos : Pos} {Q : Flow → Shared → Prop} (hh : A.handled = none)
    (h : wpAny M A (eval e env) (fun v s1 => ∃ a C t dx, v = .ref a ∧ K.In s1.heap ∧ xcIn K C = true ∧ s1.heap.get? a = some (xob C dx t .none) ∧ E (.ref a) s1) E s) : wpAny M A (exec (.Raise (some e) none pos) env) Q E s := by
  rw [arm_exec_Raise]
  first
    | exact wpAny_bind (wpAny_standAt (raise_x hh (wpAny_bind (thn h fun v s1 h1 => wpAny_bind (wpAny_standAt (wpAny_pure h1))))))
    | (simp only [evalOpt, Option.map]; exact wpAny_bind (wpAny_standAt (raise_x hh (wpAny_bind (thn h fun v s1 h1 => wpAny_bind (wpAny_standAt (wpAny_pure h1)))))))
end
noncomputable def del (H : Hp) (x : Addr) : Hp := fun b => if b = x then none else H b
theorem del_ne {H : Hp} {x b : Addr} (h : b ≠ x) : del H x b = H b := if_neg h
theorem del_same {H : Hp} {x : Addr} : del H x x = none := if_pos rfl
section
variable {X : Cx} {pins : List (Addr × Obj)} {σ : St} {H : Hp} {s : Shared}
theorem Inv.untrack {x : Addr} {φ : Heap → Prop} (I : Inv X pins σ H s) (e : H x = some (.ext φ)) (hs : X.s₀.heap.objs.size ≤ x) : Inv X pins σ (del H x) s := by
  have nx : ∀ b u, H b = some u → (∀ ψ, u ≠ .ext ψ) → b ≠ x := fun b u q nu z => by subst z; rw [e] at q; cases q; exact nu _ rfl
  have hn : ∀ b, b ≠ x → del H x b = H b := fun b hb => del_ne hb
  have es : s = { s with heap := s.heap, gens := s.gens, drawn := s.drawn, toks := s.toks } := rfl
  rw [es]
  refine I.step (g' := s.gens) (d' := s.drawn) (ch := [x]) (fun b hb => ?_) (fun b o _ _ _ q _ => q) (fun b o _ _ _ q _ => ⟨o.slots, q⟩) (fun b o hc _ n => ?_)
    (fun b o _ q => ⟨o, q⟩) (fun b xs q => ?_) (fun b u xs q => ?_) (fun b ps q => ?_) (fun m hm => hm) (fun b u q => ?_) I.bare
  · have eb : b = x := by simpa using hb
    subst eb
    refine ⟨.inr hs, fun z => ?_, fun y c q z => ?_, fun p hp z => ?_⟩
    · rw [z, I.free] at e; cases e
    · have := I.freeC y c q; rw [z, e] at this; cases this
    · have := (I.pin p hp).2.1; rw [z, e] at this; cases this
  · rw [hn b (by simpa using hc)]; exact n
  · rw [hn b (nx b _ q fun _ z => by cases z)]; exact q
  · rw [hn b (nx b _ q fun _ z => by cases z)]; exact q
  · exact ⟨#[], by rw [hn b (nx b _ q fun _ z => by cases z), q]; simp⟩
  · by_cases hb : b = x
    · subst hb
      rw [del_same] at q
      cases q
    · rw [hn b hb] at q
      exact (I.hok b u q).stay (fun c v _ z => z) (fun c z => by rw [hn c (nx c _ z fun _ y => by cases y)]; exact z) fun c xs z => by rw [hn c (nx c _ z fun _ y => by cases y)]; exact z
theorem run_xmake0 {C : Addr} {us : List Value} {E : Value → Shared → Prop} {Q : Value → Shared → Prop} (I : Inv X pins σ H s) (xc : xcIn X.K C = true) (hi : PySem.W.findIn X.K (.ref C) "__init__" = some (some (.builtin "ValueError.__init__"))) (hl : us.length ≤ sizeLine)
    (h : ∀ s' x t, s.heap.objs.size ≤ x → Inv X pins σ H s' → s'.heap.get? x = some (xob C none t .none) → Q (.ref x) s') : wpAny (model X.prog X.w) X.A (call (.ref C) us) Q E s := by
  have F := PySem.F.excBase_ValueError
  obtain ⟨bm, N, nm, qn, bs, sn, sub, ab, col, dd, k0, k1, k2, k3, k5, lk, tl⟩ := xc_obj xc
  have hC := I.kIn _ _ lk
  have T := tl _ I.kIn
  obtain ⟨hp, g, d, t, os⟩ := s
  have k : ∀ b o, hp.get? b = some o → ((hp.push { cls := .type "tuple", data := .seq us.toArray }).push (xob C none hp.objs.size .none)).get? b = some o := fun b o e => Heap.get?_push_of_some _ (Heap.get?_push_of_some _ e)
  refine wpAny_call (exc_call I.kIn xc hi (fun self => PySem.W.Looks.of_pure (F.init.bind self)) hl ?_)
  have hget : ((hp.push { cls := .type "tuple", data := .seq us.toArray }).push (xob C none hp.objs.size .none)).get? (hp.objs.size + 1) = some (xob C none hp.objs.size .none) := by heap_get
  refine codeAny_call_builtin F.init.plain F.initEntry (wpAny_check_init_subT F (T.keeps k) (k _ _ hC) hget rfl ?_)
  wp_walk
  refine ⟨rfl, h _ (hp.objs.size + 1) ((hp.push { cls := .type "tuple", data := .seq us.toArray }).push (xob C none hp.objs.size .none)).objs.size (Nat.le_succ _) (I.kept (t' := t) fun b o e => ?_) ?_⟩
  · exact (Heap.get?_update_other _ _ (Nat.ne_of_gt (Nat.lt_succ_of_lt (Heap.lt_size e)))).trans (Heap.get?_push_of_some _ (k b o e))
  · exact Heap.get?_update_self (Obj.mapFields fun x => x.setIfInBounds 0 (Value.ref ((hp.push { cls := .type "tuple", data := .seq us.toArray }).push (xob C none hp.objs.size .none)).objs.size)) (Heap.get?_push_of_some _ hget) rfl
def tRaise0 (E : XK) (C : Addr) (t : TA) : TS := fun _ σ H => t σ H fun vs H1 => vs.length ≤ sizeLine ∧ E (.ref C) none H1
theorem ps_raise0 {E : XK} {C : Addr} {cn : Str} {np cpos pos : Pos} {e : Expr} {es : List Expr} {t : TA} (hx : XE X E) (hc : X.calm = true) (xc : XC X.K C) (hi : PySem.W.findIn X.K (.ref C) "__init__" = some (some (.builtin "ValueError.__init__"))) (hg : Gl X cn) (hm : X.mg cn = some (.ref C)) (ha : PA X (e :: es) t)
    (hdb : (cn == ("__debug__" : Str)) = false := by decide) (he : starEach (e :: es) X.env = (false, eval e X.env) :: starEach es X.env := by rfl) (hpl : (backTo cpos (starEach es X.env)).any (·.1) = false := by rfl) :
    PS X (.Raise (some (.Call (.Name cn np) (e :: es) [] cpos)) none pos) (tRaise0 E C t) := by
  intro pins s σ H D I h
  refine Raise_x (K := X.K) (I.ok.hd hc) (wpAny_Call_Name_kw (ld_glob I hg hm ?_ hdb))
  refine PySem.W.callWith_K (h₀ := X.base) I.ok.mod.kin xc.kp (thn (ha cpos pins s σ H _ I h) fun us s1 ⟨vs, H1, I1, r, z, q⟩ => ⟨I1.kIn, ?_⟩) he hpl
  refine run_xmake0 (us := [] ++ us) I1 xc.ok hi (by show us.length ≤ sizeLine; rw [← r.length]; exact z) fun s2 x t hz I2 ob => ⟨x, C, t, none, rfl, I2.kIn, xc.ok, ob, ?_⟩
  exact hx _ _ ⟨pins, σ, H1, x, C, t, none, .none, rfl, I2, ob, .inl rfl, I1.fpOk hz (I1.hok.fresh hz), fun T z => (by cases z), q⟩
theorem exc_under {A : Around} {C : Addr} {us : List Value} {k : Nat} (r : Room (k + 1) A) : Room k (A.under (.builtin "type.__call__" ⟨.ref C :: us, []⟩)) := r.make C us []
def tRaise1 (E : XK) (C : Addr) (sp : Sp) (t : TA) : TS := fun _ σ H => t σ H fun vs H1 => vs.length ≤ sizeLine ∧ ∀ x, H1 x = none → sp (.ref x :: vs) (upd H1 x (XN x C none)) (fun v H2 => v = .non ∧ ∃ dx, H2 x = some (XN x C dx) ∧ E (.ref C) dx (del H2 x)) E0
theorem ps_raise1 {E : XK} {C f : Addr} {fd : FuncData} {k : Nat} {ps : List Str} {sp : Sp} {cn : Str} {np cpos pos : Pos} {e : Expr} {es : List Expr} {t : TA} (hx : XE X E) (hc : X.calm = true) (xc : XC X.K C) (hi : PySem.W.findIn X.K (.ref C) "__init__" = some (some (.ref f))) (hfn : PySem.W.isFn X.K (.ref f) = true)
    (F : FnOk X.prog X.w X.K X.mg X.base CX0 k f fd ps sp) (hr : Room (k + 1) X.A) (hb : Binds X.K fd ps []) (hg : Gl X cn) (hm : X.mg cn = some (.ref C)) (ha : PA X (e :: es) t)
    (hdb : (cn == ("__debug__" : Str)) = false := by decide) (he : starEach (e :: es) X.env = (false, eval e X.env) :: starEach es X.env := by rfl) (hpl : (backTo cpos (starEach es X.env)).any (·.1) = false := by rfl) :
    PS X (.Raise (some (.Call (.Name cn np) (e :: es) [] cpos)) none pos) (tRaise1 E C sp t) := by
  intro pins s σ H D I h
  refine Raise_x (K := X.K) (I.ok.hd hc) (wpAny_Call_Name_kw (ld_glob I hg hm ?_ hdb))
  refine PySem.W.callWith_K (h₀ := X.base) I.ok.mod.kin xc.kp (thn (ha cpos pins s σ H _ I h) fun us s1 ⟨vs, H1, I1, r, z, q⟩ => ⟨I1.kIn, ?_⟩) he hpl
  have hl : us.length ≤ sizeLine := by rw [← r.length]; exact z
  have ob : ((s1.heap.push { cls := .type "tuple", data := .seq us.toArray }).push (xob C none s1.heap.objs.size .none)).get? (s1.heap.objs.size + 1) = some (xob C none s1.heap.objs.size .none) := by heap_get
  have hfr : H1 (s1.heap.objs.size + 1) = none := I1.hok.fresh (Nat.le_succ _)
  have I2 : Inv X pins σ (upd H1 (s1.heap.objs.size + 1) (XN (s1.heap.objs.size + 1) C none)) { s1 with heap := (s1.heap.push { cls := .type "tuple", data := .seq us.toArray }).push (xob C none s1.heap.objs.size .none) } :=
    I1.laid (t' := s1.toks) (fun b o e => Heap.get?_push_of_some _ (Heap.get?_push_of_some _ e)) (Nat.le_succ _) (xn_ok ob)
  have q1 := q _ hfr
  have r2 : Vals (V.ref (s1.heap.objs.size + 1) :: vs) (Value.ref (s1.heap.objs.size + 1) :: us) := .cons rfl r
  have hlen : (Value.ref (s1.heap.objs.size + 1) :: us ++ ([] : List Value)).length = ps.length := by
    rw [List.append_nil, ← r2.length]
    exact F.len _ _ _ _ q1
  have hb2 := hb { s1 with heap := (s1.heap.push { cls := .type "tuple", data := .seq us.toArray }).push (xob C none s1.heap.objs.size .none) } (Value.ref (s1.heap.objs.size + 1) :: us) I2.kIn hlen
  rw [List.append_nil] at hb2
  have run := F.run _ X.stack _ _ ⟨Value.ref (s1.heap.objs.size + 1) :: us, []⟩ (Value.ref (s1.heap.objs.size + 1) :: us) _ _ E0 (exc_under (C := C) (us := us) hr) (I2.env0.make C us []) hb2 r2 q1
  have sz0 : X.s₀.heap.objs.size ≤ s1.heap.objs.size + 1 := Nat.le_trans I1.sz (Nat.le_succ _)
  show wpAny (model X.prog X.w) X.A (call (.ref C) us) _ X.xe s1
  refine wpAny_call ?_
  refine exc_call (h := s1.heap) (g := s1.gens) (d := s1.drawn) (t := s1.toks) (os := s1.os) (rest := us) I1.kIn xc.ok hi (fun self => PySem.W.bind_fn I1.kIn self (beq_iff_eq.mp hfn)) hl (codeAny_mono run fun r s' hq => ?_)
  cases r with
  | error e => exact False.elim hq
  | ok fl =>
    cases fl with
    | ret u =>
      obtain ⟨v, H', I3, rv, ev, dx, hx3, q3⟩ := I2.after hq
      subst ev
      refine ⟨rv, ?_⟩
      obtain ⟨t, ob3⟩ := xn_at (I3.hok _ _ hx3)
      have I4 := Inv.untrack I3 hx3 sz0
      refine ⟨_, C, t, dx, rfl, I3.kIn, xc.ok, ob3, hx _ _ ⟨pins, σ, _, _, C, t, dx, .none, rfl, I4, ob3, .inl rfl, ?_, fun T z => (by cases z), q3⟩⟩
      exact I1.fpOk (Nat.le_succ _) del_same
    | next => exact False.elim hq
    | brk => exact False.elim hq
    | cont => exact False.elim hq
end
end L3
set_option Elab.async false
set_option linter.all false
set_option maxRecDepth 100000
set_option maxHeartbeats 4000000
namespace L3
open PySem PySem.Spec PyProof.Rows L2
def FliesAt (X : Cx) (pins : List (Addr × Obj)) (σ : St) (E : XK) (e : Value) (s : Shared) : Prop := ∃ (cx : Value) (kx : Bool) (H : Hp) (x C t : Addr) (dx : Option Addr) (tb : Value), e = .ref x ∧ Inv X pins σ H s ∧
  s.heap.get? x = some (xog C dx t tb cx kx) ∧ TbOk s.heap x tb ∧ FpOk X pins H x ∧ (∀ T, tb = .ref T → FpOk X pins H T) ∧ E (.ref C) dx H
noncomputable abbrev TX := St → Hp → VK → XK → Prop
def PEX (X : Cx) (e : Expr) (t : TX) : Prop :=
  ∀ (pins : List (Addr × Obj)) (s : Shared) (σ : St) (H : Hp) (Q : VK) (E : XK), Inv X pins σ H s → t σ H Q E → wpAny (model X.prog X.w) X.A (eval e X.env) (EP X pins σ Q) (FliesAt X pins σ E) s
section
variable {X : Cx}
variable {k : Nat} {f : Addr} {fd : FuncData} {ps : List Str} {sp : Sp} {dvs : List V} {ds : List Value} {x : Str} {p pos : Pos} {e : Expr} {es : List Expr} {t : TA}
end
noncomputable abbrev Cx.suite (X : Cx) (e : Value) : Cx := { X with A := X.A.mark (some e), calm := false, xe := fun _ _ => False }
theorem Inv.suite {X : Cx} {pins : List (Addr × Obj)} {σ : St} {H : Hp} {s : Shared} (I : Inv X pins σ H s) (e : Value) : Inv (Cx.suite X e) pins σ H s :=
  ⟨⟨I.ok.mod, I.ok.kind, I.ok.glob, I.ok.blt, I.ok.above, I.ok.inj, I.ok.has, I.ok.cab, fun z => absurd z (by simp [Cx.suite]), I.ok.frames, I.ok.stk, I.ok.exf, I.ok.bs, I.ok.bsz, I.ok.noex, I.ok.exfs, I.ok.funs, I.ok.frf⟩,
    I.os, I.bare, I.base, I.loc, I.cell, I.free, I.freeC, I.pin, I.hok, I.len⟩
theorem Inv.unsuite {X : Cx} {pins : List (Addr × Obj)} {σ σ' : St} {H H' : Hp} {s s' : Shared} {e : Value} (J : Inv X pins σ' H' s') (I : Inv (Cx.suite X e) pins σ H s) : Inv X pins σ H s :=
  ⟨J.ok, I.os, I.bare, I.base, I.loc, I.cell, I.free, I.freeC, I.pin, I.hok, I.len⟩
structure Hd where
  D : Addr
  i : Nat
  ts : TS
def tHs (K : PySem.W.Frag) (C : Addr) (dx : Option Addr) (x : Addr) (Dd : Ends) (σ : St) (H : Hp) : List Hd → Prop
  | [] => False
  | h :: r => ∃ b, PySem.W.subIn K (.ref C) (.ref h.D) = some b ∧ if b = true then h.ts { Dd with nx := fun σ' H' => Dd.nx (σ'.set h.i none) H', bk := fun σ' H' => Dd.bk (σ'.set h.i none) H', ct := fun σ' H' => Dd.ct (σ'.set h.i none) H' } (σ.set h.i (some (.ref x))) H else tHs K C dx x Dd σ H r
section
variable {X : Cx} {pins : List (Addr × Obj)} {σ : St} {H : Hp} {s : Shared}
theorem name_gone {M : Model} {A : Around} {E : Value → Shared → Prop} {i : Nat} {n : Str} {pos : Pos} {Q : Unit → Shared → Prop} (I : Inv X pins σ H s) (hN : X.N.Nodup) (hi : X.N[i]? = some n) (hk : X.env.scope.names.lookup n = some .local)
    (h : ∀ s', Inv X pins (σ.set i none) H s' → Q () s') : wpAny M A (do bindName X.env n .none; unbindBehindTheSuite X.env n pos) Q E s := by
  obtain ⟨m, hn, hl⟩ := id I.loc
  have hcls : (X.env.scope.kind == .class || (X.env.scope.kind == .module && X.env.locals != X.env.globals)) = false := by rw [I.ok.kind]; rfl
  have hiσ : i < σ.length := by rw [I.len]; exact (ac.mp hi).1
  have cne := I.cne
  refine wpAny_nameGoes_keeps hk hn hcls fun h' v hn' hs => ?_
  obtain ⟨oL, _, _, hoL, _⟩ := id hn
  refine h _ ⟨I.ok, I.os, I.bare, ⟨fun b o e n hb hx => ?_, fun b o e n hb hx => ?_, I.base.free, fun b o e hx => ?_, I.base.tups, I.base.frzs, I.base.tbls⟩, ⟨_, hn', fun j y v' e1 e2 e3 => ?_⟩, fun y c e => ?_, I.free, I.freeC, fun p hp => ?_, ?_, by simpa using I.len⟩
  · exact (hs.2 b (Nat.ne_of_lt (Nat.lt_of_lt_of_le (Heap.lt_size e) I.ok.above))).trans (I.base.keep b o e n hb hx)
  · obtain ⟨sl, e1⟩ := I.base.slot b o e n hb hx
    exact ⟨sl, (hs.2 b (Nat.ne_of_lt (Nat.lt_of_lt_of_le (Heap.lt_size e) I.ok.above))).trans e1⟩
  · obtain ⟨o', e1⟩ := I.base.there b o e hx
    exact ⟨o', (hs.2 b (Nat.ne_of_lt (Nat.lt_of_lt_of_le (Heap.lt_size e) I.ok.above))).trans e1⟩
  · by_cases hj : j = i
    · subst hj
      rw [List.getElem?_set_self hiσ] at e2
      cases e2
    · rw [List.getElem?_set_ne (Ne.symm hj)] at e2
      obtain ⟨u', r', q⟩ := hl j y v' e1 e2 e3
      refine ⟨u', r', ?_⟩
      rcases q with ⟨k, e⟩ | ⟨k, c, e, z⟩
      · refine .inl ⟨k, ?_⟩
        have : y ≠ n := fun e => hj (nodup_ix hN e1 (e ▸ hi))
        simp [this, e]
      · exact .inr ⟨k, c, e, z.sameBut hs (cne y c e)⟩
  · obtain ⟨w', z⟩ := I.cell y c e
    exact ⟨w', z.sameBut hs (cne y c e)⟩
  · obtain ⟨e, n, ne, nf, d⟩ := I.pin p hp
    exact ⟨(hs.2 p.1 ne).trans e, n, ne, nf, d⟩
  · exact HOk.but I.hok hs I.free
end
theorem xmatch {M : Model} {A : Around} {E : Value → Shared → Prop} {K : PySem.W.Frag} {s : Shared} {x C D t : Addr} {dx : Option Addr} {tb cx : Value} {kx : Bool} {b : Bool} {Q : Bool → Shared → Prop} (X : K.In s.heap) (hD : xcIn K D = true) (he : s.heap.get? x = some (xog C dx t tb cx kx))
    (hs : PySem.W.subIn K (.ref C) (.ref D) = some b) (h : Q b s) : wpAny M A (excMatches (.ref x) (.ref D)) Q E s := by
  obtain ⟨bm, N, nm, qn, bs, sn, sub, ab, col, dd, k0, k1, k2, k3, k5, lk, tl⟩ := xc_obj hD
  have hDo := X _ _ lk
  have T := tl _ X
  have hcB : (Value.ref D :: bm).contains (.type "BaseException") = true := by rw [List.contains_cons, T.hasType (show bmV.contains (.type "BaseException") = true by symm), Bool.or_true]
  have L := PySem.W.looks_subIn (M := M) X hs
  have f := tc_notTuple
  obtain ⟨hp, g, d, tk, os⟩ := s
  unfold excMatches
  repeat (first | with_reducible refine wpAny_loadPart_at he ?_ | with_reducible refine wpAny_loadPart_at hDo ?_ | (with_reducible refine wpAny_isSubtype_exc hDo ?_; rw [hcB]) | (with_reducible refine PySem.W.Looks.at L ?_) | wp_step)
  cases b with
  | false => exact wpAny_pure (wpAny_pure (wpAny_pure h))
  | true => exact wpAny_pure (wpAny_pure (wpAny_pure h))
section
variable {X : Cx}
noncomputable def tbL : Value → List Addr
  | .ref b => [b]
  | _ => []
def tTry (K : PySem.W.Frag) (i : Nat) (te : TX) (hds : List Hd) : TS := fun D σ H => te σ H (fun v H1 => D.nx (σ.set i (some v)) H1) fun cls dx H1 => ∃ C, cls = .ref C ∧ ∀ x, H1 x = none → tHs K C dx x D σ (upd H1 x (XT x C dx)) hds
end
end L3
set_option Elab.async false
set_option linter.all false
set_option maxRecDepth 100000
set_option maxHeartbeats 4000000
namespace L3
open PySem PySem.Spec PyProof.Rows L2
section
variable {prog : Program} {w : World} {A : Around} {E : Value → Shared → Prop} {s : Shared} {K : PySem.W.Frag} {x C : Addr} {ox : Obj} {od : Option Obj} {name : Str} {tk : Tok}
theorem xga_by {fill expr : Bool} {Q : Value → Shared → Prop} (X : K.In s.heap) (xc : XC K C) (J : PySem.W.InstAt s.heap x ox C od)
    (h : wpAny (model prog w) A.in1 (Builtin.«object.__getattribute__» ⟨[.ref x, .str name tk], []⟩) (fun fin s' => match fin with | .done (.ret v) => wpAny (model prog w) A (handedOut v) Q E s' | _ => False) (fun _ _ => False) s) :
    wpAny (model prog w) A (getAttrBy (.ref x) (.str name tk) fill expr) Q E s := by
  obtain ⟨bm, N, nm, qn, bs, sn, sub, ab, col, dd, k0, k1, k2, k3, k5, lk, tl⟩ := xc_obj xc.ok
  have hC := X _ _ lk
  have T := tl _ X
  have FB := PySem.F.attrBase_ValueError
  have L0 := J.type (M := model prog w)
  have L1 := PySem.W.looks_findIn (M := model prog w) X xc.ga
  have L2 := PySem.W.looks_findIn (M := model prog w) X xc.gt
  have hcB : (Value.ref C :: bm).contains (.type "BaseException") = true := by rw [List.contains_cons, T.hasType (show bmV.contains (.type "BaseException") = true by symm), Bool.or_true]
  have isB : PySem.W.Looks (model prog w) s.heap (isInstance (.ref x) (.type "BaseException")) true := L0.andThen (by have := sub_looks (M := model prog w) hC (.type "BaseException"); rw [hcB] at this; exact this)
  have f3 := FB.ga.bind (.ref x)
  have hx0 : (expr && onTheHeap (Value.builtin "BaseException.__getattribute__")) = false := by cases expr <;> rfl
  have hx2 : (Value.builtin "BaseException.__getattribute__" == Value.builtin "object.__getattribute__") = false := by symm
  have hx1 : (onTheHeap (Value.ref C) && Value.builtin "BaseException.__getattribute__" == Value.builtin "object.__getattribute__") = false := by rw [hx2]; rfl
  unfold getAttrBy
  refine wpAny_holding (wpAny_bind (L0.here (wpAny_bind (L1.here ?_))))
  show wpAny _ _ (if (onTheHeap (Value.ref C) && Value.builtin "BaseException.__getattribute__" == Value.builtin "object.__getattribute__") = true then _ else _) _ _ _
  rw [hx1, if_neg Bool.false_ne_true]
  unfold getAttrByItsOwn hookBefore
  rw [if_pos (by rfl)]
  refine wpAny_bind (L2.here (wpAny_bind (wpAny_attempt (wpAny_holding ?_))))
  unfold callGetattribute
  rw [hx0, if_neg Bool.false_ne_true]
  unfold boundAndCalled
  rw [f3]
  refine wpAny_bind (wpAny_pure ?_)
  show wpAny (model prog w) A (call (.builtin "BaseException.__getattribute__") [.ref x, .str name tk]) _ _ s
  refine wpAny_call (codeAny_call_builtin FB.ga.plain PySem.F.entry_bexc_ga (@PySem.W.check_slot (model prog w) _ _ s "BaseException.__getattribute__" "BaseException" "__getattribute__" (.ref x) [.str name tk] [] _ (by symm) (by symm) isB (PySem.F.args_bexc_ga _ _) ?_))
  refine wpAny_mono h (fun fin s' z => ?_) fun _ _ z => z.elim
  rcases fin with (_ | _ | _ | v) | _ <;> first | exact z | exact z.elim
theorem xget {expr : Bool} {v : Value} {Q : Value → Shared → Prop} (X : K.In s.heap) (xc : XC K C) (J : PySem.W.InstAt s.heap x ox C od) (hf : PySem.W.findObj K C od name = some (.value v)) (hv : PySem.W.handedIn v = true)
    (h : Q v { s with toks := s.toks + 1 }) : wpAny (model prog w) A (getAttr (.ref x) name expr) Q E s := by
  unfold getAttr
  refine wpAny_bind (wpAny_mkText (xga_by (s := { s with toks := s.toks + 1 }) X xc J ?_))
  have L0 := J.type (M := model prog w)
  have L1 := PySem.W.looks_find (M := model prog w) X J hf
  unfold Builtin.«object.__getattribute__»
  refine wpAny_bind (wpAny_pure (wpAny_bind (wpAny_pure (wpAny_bind (L0.here (s := { s with toks := s.toks + 1 }) (wpAny_bind (L1.here (s := { s with toks := s.toks + 1 }) ?_)))))))
  refine wpAny_pure ?_
  show wpAny _ _ (handedOut v) _ _ _
  rw [PySem.W.handedOut_of hv]
  exact wpAny_pure h
theorem xclass {Q : Option Value → Shared → Prop} (X : K.In s.heap) (xc : XC K C) (J : PySem.W.InstAt s.heap x ox C od) (ha : PySem.W.findIn K (.ref C) "__class__" = some (some (.builtin "object.__class__")))
    (hn : PySem.W.specialIn K (.builtin "object.__class__") "__get__" = some (some (.builtin "getset_descriptor.__get__"))) (htk : PySem.W.takesIn K (.builtin "object.__class__") = some true) (hm : PySem.W.mroIn K C (.type "object") = some true)
    (h : Q (some (.ref C)) { s with toks := s.toks + 1 }) : wpAny (model prog w) A (getAttr? (.ref x) "__class__") Q E s := by
  have hf : PySem.W.findObj K C od "__class__" = some (.bind (.builtin "getset_descriptor.__get__") (.builtin "object.__class__")) := by
    obtain ⟨bm, N, nm, qn, bs, sn, sub, ab, col, dd, k0, k1, k2, k3, k5, lk, tl⟩ := xc_obj xc.ok
    have hcl : (PySem.W.clsIn K C).isSome = true := by unfold PySem.W.clsIn; rw [lk]; rfl
    obtain ⟨cd, hc⟩ := am.mp hcl
    unfold PySem.W.findObj
    rw [hc, Option.bind_some, ha, Option.bind_some]
    simp [hn, htk]
  unfold getAttr? getAttrBy?
  refine wpAny_bind (wpAny_mkText (wpAny_bind (wpAny_attempt (xga_by (s := { s with toks := s.toks + 1 }) X xc J ?_))))
  have L0 := J.type (M := model prog w)
  have L1 := PySem.W.looks_find (M := model prog w) X J hf
  unfold Builtin.«object.__getattribute__»
  refine wpAny_bind (wpAny_pure (wpAny_bind (wpAny_pure (wpAny_bind (L0.here (s := { s with toks := s.toks + 1 }) (wpAny_bind (L1.here (s := { s with toks := s.toks + 1 }) ?_)))))))
  show wpAny _ _ (holding [.builtin "object.__class__"] (call (.builtin "getset_descriptor.__get__") [.builtin "object.__class__", .ref x, .ref C]) >>= ret) _ _ _
  refine wpAny_bind (wpAny_holding (wpAny_call (PySem.W.class_get (s := { s with toks := s.toks + 1 }) X J hm ?_)))
  refine wpAny_pure ?_
  show wpAny _ _ (handedOut (.ref C)) _ _ _
  rw [PySem.W.handedOut_of rfl]
  exact wpAny_pure (wpAny_pure h)
end
structure XI (K : PySem.W.Frag) (C : Addr) : Prop extends XC K C where
  ca : PySem.W.findIn K (.ref C) "__class__" = some (some (.builtin "object.__class__"))
  cg : PySem.W.specialIn K (.builtin "object.__class__") "__get__" = some (some (.builtin "getset_descriptor.__get__"))
  ct : PySem.W.takesIn K (.builtin "object.__class__") = some true
  mo : PySem.W.mroIn K C (.type "object") = some true
theorem inst_x {h : Heap} {x C t : Addr} {tb c : Value} {k : Bool} (ob : h.get? x = some (xog C none t tb c k)) : PySem.W.InstAt h x (xog C none t tb c k) C none := ⟨ob, rfl, rfl, trivial⟩
theorem kit_x {K : PySem.W.Frag} {x C : Addr} {dx : Option Addr} (xi : XI K C) : PySem.W.KitX K (.ref x) (.ref C) (fun h => (∃ t tb c k, h.get? x = some (xog C dx t tb c k)) ∧ ∀ d, dx = some d → ∃ o, h.get? d = some o) where
  ty := fun M h X ⟨⟨t, tb, c, k', ob⟩, _⟩ => (PySem.W.Looks.ld ob).andThen .now
  it := fun M h X _ => by
    obtain ⟨bm, N, nm, qn, bs, sn, sub, ab, col, dd, k0, k1, k2, k3, k5, lk, tl⟩ := xc_obj xi.ok
    intro A' Q' E' s' k q
    unfold isType loadHead
    exact wpAny_bind (wpAny_loadPart (k _ _ (X _ _ lk)) (wpAny_pure q))
  ne := fun h tp dd its n sl X htp => by
    obtain ⟨bm, N, nm, qn, bs, sn, sub, ab, col, dd, k0, k1, k2, k3, k5, lk, tl⟩ := xc_obj xi.ok
    refine ao.mpr fun q => ?_
    have e : C = tp := Value.ref.inj (beq_iff_eq.mp q)
    subst e
    have z := congrArg (fun o : Option Obj => o.map fun o => match o.data with | .cls _ => true | _ => false) ((X _ _ lk).symm.trans htp)
    exact absurd (show true = false from Option.some.inj z) (by decide)
  ca := fun {prog w A E Q s} X ⟨⟨t, tb, c, k', ob⟩, hd⟩ k => by
    cases dx with
    | none => exact xclass X xi.toXC (inst_x ob) xi.ca xi.cg xi.ct xi.mo k
    | some d =>
      obtain ⟨o, e⟩ := hd d rfl
      exact xclass (od := some o) X xi.toXC ⟨ob, rfl, rfl, e⟩ xi.ca xi.cg xi.ct xi.mo k
section
variable {X : Cx}
def XAt (H : Hp) (x C : Addr) (dx : Option Addr) (fs : List (Str × V)) : Prop := H x = some (XT x C dx) ∧ ((dx = none ∧ fs = []) ∨ ∃ d, dx = some d ∧ H d = some (.xd fs))
theorem call_isiX : CallR X (.builtin "isinstance") (fun xs H Q => ∃ x C dx fs c u b, xs = [.ref x, c] ∧ cV c = some u ∧ XAt H x C dx fs ∧ XI X.K C ∧ PySem.W.kitOne X.K (.ref C) u = some b ∧ Q (.bl b) H) := by
  intro pins s σ H xs us Q I r h
  obtain ⟨x, C, dx, fs, c, u, b, rfl, hc, ⟨hx, hd⟩, xi, e, q⟩ := h
  obtain ⟨v, w', rfl, rx, rc⟩ := vals2 r
  cases rx
  have : w' = u := by
    cases c with
    | ty n => cases hc; exact rc
    | ref a => cases hc; exact rc
    | _ => cases hc
  subst this
  refine PySem.W.kia_one (kit_x (dx := dx) xi) I.kIn ⟨xt_at (I.hok _ _ hx), fun d z => ?_⟩ e (fun z => nomatch z) fun tk => ⟨.bl b, H, I.tok tk, rfl, q⟩
  rcases hd with ⟨z', _⟩ | ⟨d', z', hd'⟩
  · rw [z'] at z; cases z
  · rw [z'] at z; cases z
    obtain ⟨mA, ⟨o, es, ep, ho, _⟩, _⟩ := I.hok _ _ hd'
    exact ⟨o, ho⟩
def tXget (K : PySem.W.Frag) (ta : TE) (f : Str) : TE := fun σ H Q => ta σ H fun y H1 => ∃ x C dx fs v, y = .ref x ∧ XAt H1 x C dx fs ∧ XC K C ∧ PySem.W.hasDictIn K C = true ∧ NoAttr K C f ∧ fs.lookup f = some v ∧ Q v H1
theorem pe_xget {e : Expr} {f : Str} {pos : Pos} {ta : TE} (he : PE X e ta) (hb : attributeBase e f X.env (eval e X.env) = eval e X.env) : PE X (.Attribute e f pos) (tXget X.K ta f) := by
  intro pins s σ H Q I h
  refine attr_of hb (thn (he pins s σ H _ I h) fun u s1 ⟨y, H1, I1, ry, x, C, dx, fs, v, ey, ⟨hx, hd⟩, xc, hh, n, l, q⟩ => ?_)
  subst ey
  obtain rfl : u = Value.ref x := ry
  obtain ⟨t, tb, c, k, ob⟩ := xt_at (I1.hok _ _ hx)
  rcases hd with ⟨_, z⟩ | ⟨d, rfl, hd⟩
  · rw [z] at l; cases l
  · obtain ⟨mA, hN, rl⟩ := I1.hok _ _ hd
    obtain ⟨uv, hu, ru⟩ := RelO.some_of (v := v) (o := mA f) (by rw [← l]; exact rl f)
    obtain ⟨od, ho, hlk⟩ := lookIn_ns hN
    have J : PySem.W.InstAt s1.heap x (xog C (some d) t tb c k) C (some od) := ⟨ob, rfl, rfl, ho⟩
    refine xget I1.kIn xc J (PySem.W.findObj_own hh n rfl (by rw [hlk, hu])) (handed_of ru) ⟨v, H1, I1.tok _, ru, q⟩
end
end L3
set_option Elab.async false
set_option linter.all false
set_option maxRecDepth 100000
set_option maxHeartbeats 4000000
namespace L3
open PySem PySem.Spec PyProof.Rows L2
structure Df (P : Program) (w : World) (K : PySem.W.Frag) (mg : Str → Option Value) (base : Heap) (CX : CXT) (k : Nat) (nm : Str) (ps : List Str) (ds : List Value) (sp : Sp) : Prop where
  ex : ∃ f fd, FnOk P w K mg base CX k f fd ps sp ∧ mg nm = some (.ref f) ∧ PySem.W.keepIn K (.ref f) = true ∧ Binds K fd ps ds
structure Bt (mg : Str → Option Value) : Prop where
  len : mg "len" = none
  range : mg "range" = none
  isi : mg "isinstance" = none
  str : mg "str" = none
  int : mg "int" = none
  tuple : mg "tuple" = none
  list : mg "list" = none
  bool : mg "bool" = none
  enum : mg "enumerate" = none
  all : mg "all" = none
  verr : mg "ValueError" = none
  max : mg "max" = none
  rev : mg "reversed" = none
  zip : mg "zip" = none
  sum : mg "sum" = none
  sorted : mg "sorted" = none
section
variable {X : Cx} {CX : CXT} {k : Nat} {ps : List Str} {sp : Sp} {ds : List Value} {dvs : List V} {E : XK} {x : Str} {p pos : Pos} {e : Expr} {es : List Expr} {t : TA}
theorem cl0 {j : Nat} (D : Df X.prog X.w X.K X.mg X.base CX0 k x ps ds sp) (hr : Room j X.A) (hd : Vals dvs ds) (hg : Gl X x) (ha : PA X (e :: es) t) (hdb : (x == ("__debug__" : Str)) = false := by decide) (he : starEach (e :: es) X.env = (false, eval e X.env) :: starEach es X.env := by rfl)
    (hpl : (backTo pos (starEach es X.env)).any (·.1) = false := by rfl) (hj : k ≤ j := by decide) : PE X (.Call (.Name x p) (e :: es) [] pos) (tCall sp dvs E0 t) := by
  obtain ⟨f, fd, F, hm, hk, hb⟩ := D.ex
  exact pe_call F (hr.mono hj) hg hm hk hb hd pass0 ha hdb he hpl
theorem clP {j : Nat} (hx : XE X E) (D : Df X.prog X.w X.K X.mg X.base (CXx X.prog X.w) k x ps ds sp) (hr : Room j X.A) (hd : Vals dvs ds) (hg : Gl X x) (ha : PA X (e :: es) t) (hdb : (x == ("__debug__" : Str)) = false := by decide) (he : starEach (e :: es) X.env = (false, eval e X.env) :: starEach es X.env := by rfl)
    (hpl : (backTo pos (starEach es X.env)).any (·.1) = false := by rfl) (hj : k ≤ j := by decide) : PE X (.Call (.Name x p) (e :: es) [] pos) (tCall sp dvs E t) := by
  obtain ⟨f, fd, F, hm, hk, hb⟩ := D.ex
  exact pe_call F (hr.mono hj) hg hm hk hb hd (passes_x hx) ha hdb he hpl
end
def TyX (K : PySem.W.Frag) (H : Hp) (x : V) (t : Value) : Prop := TyOf K H x t ∨ (∃ a C dx fs, x = .ref a ∧ t = .ref C ∧ XAt H a C dx fs ∧ XI K C) ∨ (∃ a xs, x = .ref a ∧ t = .type "list" ∧ SqL K H a xs) ∨ ∃ a xs, x = .ref a ∧ t = .type "tuple" ∧ SqT K H a xs
def rIsi (K : PySem.W.Frag) : List V → Hp → VK → Prop := fun xs H Q => ∃ x c u t b, xs = [x, c] ∧ cV c = some u ∧ TyX K H x t ∧ PySem.W.kitOne K t u = some b ∧ Q (.bl b) H
theorem c_isi {X : Cx} : CallR X (.builtin "isinstance") (rIsi X.K) := by
  intro pins s σ H xs us Q I r h
  obtain ⟨x, c, u, t, b, rfl, hc, ty, e, q⟩ := h
  rcases ty with ty | ⟨a, C, dx, fs, rfl, rfl, ha, xi⟩ | ⟨a, ys, rfl, rfl, hq⟩ | ⟨a, ys, rfl, rfl, hq⟩
  · exact call_isi pins s σ H _ us Q I r ⟨x, c, u, t, b, rfl, hc, ty, e, q⟩
  · exact call_isiX pins s σ H _ us Q I r ⟨a, C, dx, fs, c, u, b, rfl, hc, ha, xi, e, q⟩
  all_goals
    obtain ⟨v, w', rfl, rx, rc⟩ := vals2 r
    have : w' = u := by
      cases c with
      | ty n => cases hc; exact rc
      | ref a => cases hc; exact rc
      | _ => cases hc
    subst this
    cases rx
  · obtain ⟨its, _, p, _⟩ := I.list hq
    obtain ⟨o, h1, h2, _⟩ := p.isList
    exact PySem.W.kia_one PySem.W.kitx_list I.kIn ⟨o, h1, h2⟩ e (fun z => nomatch z) fun tk => ⟨.bl b, H, I.tok tk, rfl, q⟩
  · obtain ⟨its, _, p, _⟩ := I.tuple hq
    obtain ⟨o, h1, h2, _⟩ := p
    exact PySem.W.kia_one PySem.W.kitx_tuple I.kIn ⟨o, h1, h2⟩ e (fun z => nomatch z) fun tk => ⟨.bl b, H, I.tok tk, rfl, q⟩
theorem pe_isiB {X : Cx} {e : Expr} {te : TE} {c : Str} {n : String} {p q pos : Pos} (h1 : Gl X "isinstance") (h2 : X.mg "isinstance" = none) (he : PE X e te) (hg : Gl X c) (hm : X.mg c = none) (hv : bootBuiltins c = some (.type n)) (hn : c ≠ "__name__" := by decide) (hd : (c == ("__debug__" : Str)) = false := by decide)
    (hs1 : starEach [e, .Name c q] X.env = (false, eval e X.env) :: starEach [.Name c q] X.env := by rfl) (hs3 : starEach [.Name c q] X.env = (false, eval (.Name c q) X.env) :: starEach [] X.env := by rfl) (hs2 : (backTo pos (starEach [.Name c q] X.env)).any (·.1) = false := by rfl) : PE X (.Call (.Name "isinstance" p) [e, .Name c q] [] pos) (tCB (rIsi X.K) (tCons te (tCons (tC (.ty n)) tNil))) :=
  pe_callB c_isi h1 h2 boot_isinstance (pa_cons he (pa_cons (pe_bltn hg hm hv rfl hn hd) pa_nil hs3) hs1) (he := hs1) (hpl := hs2)
theorem cV_ref {a : Addr} : cV (.ref a) = some (.ref a) := rfl
theorem cV_ty {n : String} : cV (.ty n) = some (.type n) := rfl
theorem cxHK {P w K mg base N q sc f cd A o s H} : (cxH P w K mg base N q sc f cd A o s H).K = K := rfl
def rCount : V → List V → Hp → VK → Prop := fun x xs H Q => ∃ z y, x = .str z ∧ xs = [.str y] ∧ Q (.int (Txt.count z y)) H
theorem m_count {X : Cx} : MtR X "str.count" rCount := mt_count
def rFind : V → List V → Hp → VK → Prop := fun x xs H Q => ∃ z y, x = .str z ∧ xs = [.str y] ∧ Q (.int (Txt.find z y)) H
theorem m_find {X : Cx} : MtR X "str.find" rFind := mt_find
theorem count_l (l : List Nat) (c : Nat) : Txt.count (tx l) (tx [c]) = (l.count c : Int) := by
  have h : ∀ l : List Nat, cnt c l = (l.count c : Int) := fun l => by
    induction l with
    | nil => rfl
    | cons n r ih =>
      rw [cnt_cons, ih, List.count_cons]
      by_cases e : n = c
      · subst e; simp; lia
      · have : (n == c) = false := by simpa using e
        simp [e, this]
  exact (PyProof.Rows.count_is (tx l) c).trans (h l)
theorem lt1 {a b : Nat} : ([a] : List Nat) < [b] ↔ a < b := by rw [List.cons_lt_cons_iff]; exact ⟨fun h => h.elim id fun ⟨_, q⟩ => absurd q (List.not_lt_nil _), .inl⟩
def rLen (K : PySem.W.Frag) : List V → Hp → VK → Prop := fun xs H Q => ∃ x n, xs = [x] ∧ LenV K x H n ∧ Q (.int n) H
theorem c_len {X : Cx} : CallR X (.builtin "len") (rLen X.K) := call_len
def ForR (lo : Int) (n : Nat) (g : TG) (tb : TS) (D : Ends) (σ : St) (H : Hp) : Prop := ∃ W : Nat → Nat → St → Hp → Prop, (∃ m, W 0 m σ H) ∧ ∀ i m σ H, W i m σ H →
  ((Itr lo n).stop i H ∧ D.nx σ H) ∨ ((Itr lo n).go i H ∧ ∃ N : St → Hp → Prop, (∀ σ' H', N σ' H' → ∃ m', m' < m ∧ W (i + 1) m' σ' H') ∧ ∀ x H', (Itr lo n).yld i H x H' → g x σ H' fun σ2 H2 => tb { D with nx := N, ct := N, bk := D.nx } σ2 H2)
theorem rd_r1 {ta : TA} {g : TG} {tb : TS} {D : Ends} {σ : St} {H : Hp} : tFor (iRng1 ta) g tb D σ H = ta σ H fun vs H1 => ∃ j : Int, vs = [.int j] ∧ -(2 ^ 62) ≤ j ∧ j < 2 ^ 62 ∧ ForR 0 j.toNat g tb D σ H1 := rfl
theorem rd_r2 {ta : TA} {g : TG} {tb : TS} {D : Ends} {σ : St} {H : Hp} : tFor (iRng2 ta) g tb D σ H = ta σ H fun vs H1 => ∃ i j : Int, vs = [.int i, .int j] ∧ (-(2 ^ 62) ≤ i ∧ i < 2 ^ 62 ∧ -(2 ^ 62) ≤ j ∧ j < 2 ^ 62) ∧ ForR i (j - i).toNat g tb D σ H1 := rfl
theorem ForR.by {lo : Int} {n : Nat} {g : TG} {tb : TS} {D : Ends} {σ : St} {H : Hp} (Pv : Nat → St → Hp → Prop) (h0 : Pv 0 σ H)
    (hs : ∀ i σ H, i < n → Pv i σ H → g (.int (lo + i)) σ H fun σ2 H2 => tb { D with nx := Pv (i + 1), ct := Pv (i + 1), bk := D.nx } σ2 H2) (hd : ∀ σ H, Pv n σ H → D.nx σ H) : ForR lo n g tb D σ H := for_range Pv h0 hs hd
def ForL (K : PySem.W.Frag) (a : Addr) (g : TG) (tb : TS) (D : Ends) (σ : St) (H : Hp) : Prop := ∃ W : Nat → Nat → St → Hp → Prop, (∃ m, W 0 m σ H) ∧ ∀ i m σ H, W i m σ H →
  ((Itl K a).stop i H ∧ D.nx σ H) ∨ ((Itl K a).go i H ∧ ∃ N : St → Hp → Prop, (∀ σ' H', N σ' H' → ∃ m', m' < m ∧ W (i + 1) m' σ' H') ∧ ∀ x H', (Itl K a).yld i H x H' → g x σ H' fun σ2 H2 => tb { D with nx := N, ct := N, bk := D.nx } σ2 H2)
theorem rd_l {K : PySem.W.Frag} {tl : TE} {g : TG} {tb : TS} {D : Ends} {σ : St} {H : Hp} : tFor (iList K tl) g tb D σ H = tl σ H fun x H1 => ∃ a, x = .ref a ∧ (∃ xs, SqL K H1 a xs) ∧ ForL K a g tb D σ H1 := rfl
def ForS (x : Str) (g : TG) (tb : TS) (D : Ends) (σ : St) (H : Hp) : Prop := ∃ W : Nat → Nat → St → Hp → Prop, (∃ m, W 0 m σ H) ∧ ∀ i m σ H, W i m σ H →
  ((Its x).stop i H ∧ D.nx σ H) ∨ ((Its x).go i H ∧ ∃ N : St → Hp → Prop, (∀ σ' H', N σ' H' → ∃ m', m' < m ∧ W (i + 1) m' σ' H') ∧ ∀ v H', (Its x).yld i H v H' → g v σ H' fun σ2 H2 => tb { D with nx := N, ct := N, bk := D.nx } σ2 H2)
theorem rd_s {tl : TE} {g : TG} {tb : TS} {D : Ends} {σ : St} {H : Hp} : tFor (iStr tl) g tb D σ H = tl σ H fun v H1 => ∃ x, v = .str x ∧ ForS x g tb D σ H1 := rfl
theorem ForS.by {l : List Nat} {g : TG} {tb : TS} {D : Ends} {σ : St} {H : Hp} (Pv : Nat → St → Hp → Prop) (h0 : Pv 0 σ H)
    (hs : ∀ i c σ H, l[i]? = some c → Pv i σ H → g (.str (tx [c])) σ H fun σ2 H2 => tb { D with nx := Pv (i + 1), ct := Pv (i + 1), bk := D.nx } σ2 H2) (hd : ∀ σ H, Pv l.length σ H → D.nx σ H) : ForS (tx l) g tb D σ H := for_str Pv h0 hs hd
def ForE (x : Str) (g : TG) (tb : TS) (D : Ends) (σ : St) (H : Hp) : Prop := ∃ W : Nat → Nat → St → Hp → Prop, (∃ m, W 0 m σ H) ∧ ∀ i m σ H, W i m σ H →
  ((Ite x).stop i H ∧ D.nx σ H) ∨ ((Ite x).go i H ∧ ∃ N : St → Hp → Prop, (∀ σ' H', N σ' H' → ∃ m', m' < m ∧ W (i + 1) m' σ' H') ∧ ∀ v H', (Ite x).yld i H v H' → g v σ H' fun σ2 H2 => tb { D with nx := N, ct := N, bk := D.nx } σ2 H2)
theorem rd_e {ta : TA} {g : TG} {tb : TS} {D : Ends} {σ : St} {H : Hp} : tFor (iEnum ta) g tb D σ H = ta σ H fun vs H1 => ∃ x, vs = [.str x] ∧ ForE x g tb D σ H1 := rfl
theorem ForE.by {l : List Nat} {g : TG} {tb : TS} {D : Ends} {σ : St} {H : Hp} (Pv : Nat → St → Hp → Prop) (h0 : Pv 0 σ H)
    (hs : ∀ i c σ H p, l[i]? = some c → Pv i σ H → H p = none → g (.ref p) σ (upd H p (.tup [.int (i : Nat), .str (tx [c])])) fun σ2 H2 => tb { D with nx := Pv (i + 1), ct := Pv (i + 1), bk := D.nx } σ2 H2) (hd : ∀ σ H, Pv l.length σ H → D.nx σ H) : ForE (tx l) g tb D σ H := for_enum Pv h0 hs hd
theorem cut_to {α : Type} (l : List α) {k : Int} (h : 0 ≤ k) : cut l none (some k) = l.take k.toNat := by
  obtain ⟨n, rfl⟩ := Int.eq_ofNat_of_zero_le h
  unfold cut
  rw [HT.sIx_none, HT.sIx_nat, List.drop_zero, Nat.sub_zero]
  by_cases q : n ≤ l.length
  · rw [Nat.min_eq_left q]; rfl
  · rw [Nat.min_eq_right (by lia), List.take_length, List.take_of_length_le (by simp; lia)]
theorem cut_from {α : Type} (l : List α) {k : Int} (h : 0 ≤ k) : cut l (some k) none = l.drop k.toNat := by
  obtain ⟨n, rfl⟩ := Int.eq_ofNat_of_zero_le h
  unfold cut
  rw [HT.sIx_none, HT.sIx_nat]
  by_cases q : n ≤ l.length
  · rw [Nat.min_eq_left q]
    rw [List.take_of_length_le (by rw [List.length_drop] <;> lia)]
    rfl
  · rw [Nat.min_eq_right (by lia), List.drop_length, List.drop_of_length_le (by simp; lia)]
    simp
theorem atI_of {α : Type} {xs : List α} {i : Int} (h0 : 0 ≤ i) (h1 : i < xs.length) : ∃ v, atI xs i = some v ∧ xs[i.toNat]? = some v := by
  obtain ⟨n, rfl⟩ := Int.eq_ofNat_of_zero_le h0
  have hn : n < xs.length := by lia
  exact ⟨xs[n], atI_nat (List.getElem?_eq_getElem hn), List.getElem?_eq_getElem hn⟩
theorem sl16 : (sizeLine : Nat) = 16777216 := sizeLine_eq
theorem cxK {CX P w K mg base N q sc f cd A o s H E} : (cxOf CX P w K mg base N q sc f cd A o s H E).K = K := rfl
theorem cxP {CX P w K mg base N q sc f cd A o s H E} : (cxOf CX P w K mg base N q sc f cd A o s H E).prog = P := rfl
theorem cxW {CX P w K mg base N q sc f cd A o s H E} : (cxOf CX P w K mg base N q sc f cd A o s H E).w = w := rfl
theorem sc_ii {a b : Int} : scal (.int a) (.int b) = true := rfl
theorem sc_ss {a b : Str} : scal (.str a) (.str b) = true := rfl
theorem sc_bb {a b : Bool} : scal (.bl a) (.bl b) = true := rfl
theorem sc_ns {b : Str} : scal .non (.str b) = true := rfl
theorem sc_sn {b : Str} : scal (.str b) .non = true := rfl
theorem same_upd {H : Hp} {p : Addr} {o : HO} (h : H p = none) : Same H (upd H p o) := fun b u e => by
  rw [upd_ne (ne_of_none e h)]
  exact e
theorem take_one {α : Type} {l : List α} {i : Nat} {c : α} (h : l[i]? = some c) : l.take (i + 1) = l.take i ++ [c] := by
  rw [List.take_add_one, h]; rfl
end L3
set_option Elab.async false
set_option linter.all false
set_option maxRecDepth 100000
set_option maxHeartbeats 4000000
namespace L3
open PySem PySem.Spec PyProof.Rows L2
structure FunD (K : PySem.W.Frag) (x qual : Str) (st : Stmt) (dV : Value) (f : Addr) (fd : FuncData) : Prop where
  ex : ∃ (oc : Value) (od : Option Addr) (kV doc pm : Value) (an : Option Addr) (cdv ct : Value) (osl : Array (Option Value)),
    fd = PySem.W.fnOf x qual (defArgs st) (defBody st) (defScope st) dV kV doc pm an cdv ct ∧ K.lookup f = some ⟨oc, od, .func fd, osl⟩ ∧ PySem.W.codeIn K cdv qual = true
theorem FunD.okX {P : Program} {w : World} {K : PySem.W.Frag} {mg : Str → Option Value} {base : Heap} {x qual : Str} {st : Stmt} {dV : Value} {f : Addr} {fd : FuncData} {N ps : List Str} {k : Nat} {sp : Sp} (F : FunD K x qual st dV f fd) (S : FnScope N ps (defScope st)) (len : ∀ vs H Q E, sp vs H Q E → vs.length = ps.length)
    (hbody : ∀ (cdv : Value) (A : Around) (outer : List Env) (s : Shared) (H : Hp) (vs : List V) (Q : VK) (E : XK), Room k (A.deeper (envOfC qual (defScope st) s.heap.objs.size f cdv)) → XE (cxOf (CXx P w) P w K mg base N qual (defScope st) f cdv A outer s H E) E → sp vs H Q E →
      ∃ t, PSs (cxOf (CXx P w) P w K mg base N qual (defScope st) f cdv A outer s H E) (defBody st) t ∧ t { nx := fun _ H' => Q .non H', rt := Q } (start N vs) H) : FnOk P w K mg base (CXx P w) (k + 1) f fd ps sp := by
  obtain ⟨oc, od, kV, doc, pm, an, cdv, ct, osl, rfl, lk, hcd⟩ := F.ex
  exact fn_of lk hcd S len fun A outer s H vs Q E hr hsp => hbody cdv A outer s H vs Q E hr xe_cx hsp
def sp_init1 (C : Addr) (f : Str) : Sp := fun vs H Q _ => ∃ x v, vs = [.ref x, v] ∧ H x = some (XN x C none) ∧ ∀ dx, H dx = none → Q .non (upd (upd H dx (.xd [(f, v)])) x (XN x C (some dx)))
def Fell (H : Hp) (d : Addr) (f : Str) (v : V) (H' : Hp) : Prop := H d = none ∧ Same H H' ∧ H' d = some (.xd [(f, v)])
theorem fell_of {E : XK} {C : Addr} {f : Str} {v : V} {H : Hp} (h : ∀ d H', Fell H d f v H' → E (.ref C) (some d) H') : ∀ x, H x = none → sp_init1 C f [.ref x, v] (upd H x (XN x C none)) (fun u H2 => u = .non ∧ ∃ dx, H2 x = some (XN x C dx) ∧ E (.ref C) dx (del H2 x)) E0 := by
  intro x hx
  refine ⟨x, v, rfl, upd_same, fun dx hd => ⟨rfl, some dx, upd_same, h dx _ ⟨?_, ?_, ?_⟩⟩⟩
  · by_cases e : dx = x
    · rw [e]; exact hx
    · rw [upd_ne e] at hd; exact hd
  · have hne : dx ≠ x := fun e => by rw [e, upd_same] at hd; cases hd
    rw [upd_ne hne] at hd
    intro b o q
    have b1 : b ≠ x := ne_of_none q hx
    have b2 : b ≠ dx := ne_of_none q hd
    rw [del_ne b1, upd_ne b1, upd_ne b2, upd_ne b1]
    exact q
  · have hne : dx ≠ x := fun e => by rw [e, upd_same] at hd; cases hd
    rw [del_ne hne, upd_ne hne, upd_same]
theorem Fell.xat {H H' : Hp} {d x C : Addr} {f : Str} {v : V} (h : Fell H d f v H') (hx : H' x = none) : XAt (upd H' x (XT x C (some d))) x C (some d) [(f, v)] :=
  ⟨upd_same, .inr ⟨d, rfl, by rw [upd_ne (ne_of_none h.2.2 hx)]; exact h.2.2⟩⟩
section
variable {X : Cx}
def rNin : R2 := fun x y H Q => ∃ c l, x = .str (tx [c]) ∧ y = .str (tx l) ∧ Q (.bl (!decide (c ∈ l))) H
theorem op_nin : OpR X (compareOp .NotIn) rNin := by
  intro pins s σ H x y v u Q I rx ry h
  obtain ⟨c, l, rfl, rfl, q⟩ := h
  refine op_notin_str pins s σ H _ _ v u Q I rx ry ⟨_, _, rfl, rfl, ?_⟩
  rw [in_one]
  exact q
def rIn1 : R2 := fun x y H Q => ∃ c l, x = .str (tx [c]) ∧ y = .str (tx l) ∧ Q (.bl (decide (c ∈ l))) H
theorem op_in1 : OpR X (compareOp .In) rIn1 := by
  intro pins s σ H x y v u Q I rx ry h
  obtain ⟨c, l, rfl, rfl, q⟩ := h
  refine op_in_str pins s σ H _ _ v u Q I rx ry ⟨_, _, rfl, rfl, ?_⟩
  rw [in_one]
  exact q
def rIsN : R2 := fun x y H Q => y = .non ∧ Q (.bl (decide (x = .non))) H
theorem op_isN' : OpR X (compareOp .Is) rIsN := op_isN
def rNotN : R2 := fun x y H Q => y = .non ∧ Q (.bl (!decide (x = .non))) H
theorem op_notN' : OpR X (compareOp .IsNot) rNotN := op_notN
def rMax2 : List V → Hp → VK → Prop := fun xs H Q => ∃ i j, xs = [.int i, .int j] ∧ Q (.int (if j > i then j else i)) H
def rGe : R2 := fun x y H Q => ∃ i j, x = .int i ∧ y = .int j ∧ Q (.bl (decide (j ≤ i))) H
theorem op_ge' : OpR X (compareOp .GtE) rGe := op_ge
def tTru (K : PySem.W.Frag) (ta : TE) : TT := fun σ H Q => ta σ H fun x H' => ∃ k, TruV K x H' k ∧ Q k H'
end
def BadAt (ls l : List Nat) (m : Int) (k : Nat) : Prop := ∃ c, l[k]? = some c ∧ (m ≤ k ∨ c ∉ ls)
def FB (ls l : List Nat) (m : Int) (k : Nat) : Prop := BadAt ls l m k ∧ ∀ j < k, ¬ BadAt ls l m j
def NB (ls l : List Nat) (m : Int) : Prop := ∀ j, ¬ BadAt ls l m j
theorem FB.nb {ls l : List Nat} {m : Int} {k : Nat} (h : FB ls l m k) (n : NB ls l m) : False := n k h.1
end L3
set_option Elab.async false
set_option linter.all false
set_option maxRecDepth 100000
set_option maxHeartbeats 4000000
namespace L3
open PySem PySem.Spec PyProof.Rows L2
inductive D where
  | non | bl (b : Bool) | int (i : Int) | str (x : Str) | lst (l : List D) | tup (l : List D)
mutual
def Is (K : PySem.W.Frag) (H : Hp) : D → V → Prop
  | .non, v => v = .non
  | .bl b, v => v = .bl b
  | .int i, v => v = .int i
  | .str x, v => v = .str x
  | .lst l, v => ∃ a xs, v = .ref a ∧ SqL K H a xs ∧ Iss K H l xs
  | .tup l, v => ∃ a xs, v = .ref a ∧ SqT K H a xs ∧ Iss K H l xs
def Iss (K : PySem.W.Frag) (H : Hp) : List D → List V → Prop
  | [], vs => vs = []
  | d :: l, vs => ∃ v r, vs = v :: r ∧ Is K H d v ∧ Iss K H l r
end
mutual
noncomputable def eqD : D → D → Bool
  | .non, .non => true
  | .bl a, .bl b => a == b
  | .bl a, .int b => (if a then 1 else 0) == b
  | .int a, .bl b => a == (if b then 1 else 0)
  | .int a, .int b => a == b
  | .str a, .str b => a == b
  | .lst l, .lst m => eqDs l m
  | .tup l, .tup m => eqDs l m
  | _, _ => false
noncomputable def eqDs : List D → List D → Bool
  | [], [] => true
  | d :: l, e :: m => eqD d e && eqDs l m
  | _, _ => false
end
mutual
noncomputable def dpD : D → Nat
  | .lst l => dpDs l + 1
  | .tup l => dpDs l + 1
  | _ => 0
noncomputable def dpDs : List D → Nat
  | [] => 0
  | d :: l => max (dpD d) (dpDs l)
end
theorem dp_at : ∀ {l : List D} {j : Nat} {d : D}, l[j]? = some d → dpD d ≤ dpDs l
  | d :: l, 0, _, h => by
    cases h
    simp only [dpDs]
    lia
  | d :: l, j + 1, e, h => by
    have := dp_at (l := l) (j := j) (d := e) h
    simp only [dpDs]
    lia
mutual
theorem eqD_refl : ∀ d : D, eqD d d = true
  | .non => rfl
  | .bl b => by simp [eqD]
  | .int i => by simp [eqD]
  | .str x => by simp [eqD]
  | .lst l => by simp only [eqD]; exact eqDs_refl l
  | .tup l => by simp only [eqD]; exact eqDs_refl l
theorem eqDs_refl : ∀ l : List D, eqDs l l = true
  | [] => rfl
  | d :: l => by simp only [eqDs, eqD_refl d, eqDs_refl l, Bool.and_self]
end
theorem Iss.len {K : PySem.W.Frag} {H : Hp} : ∀ {l : List D} {vs : List V}, Iss K H l vs → vs.length = l.length
  | [], vs, h => by simp only [Iss] at h; rw [h]; rfl
  | d :: l, vs, h => by
    simp only [Iss] at h
    obtain ⟨v, r, rfl, _, h2⟩ := h
    simp only [List.length_cons, Iss.len h2]
theorem Iss.at {K : PySem.W.Frag} {H : Hp} : ∀ {l : List D} {vs : List V} {j : Nat} {d : D}, Iss K H l vs → l[j]? = some d → ∃ v, vs[j]? = some v ∧ Is K H d v
  | d :: l, vs, 0, _, h, q => by
    cases q
    simp only [Iss] at h
    obtain ⟨v, r, rfl, h1, _⟩ := h
    exact ⟨v, rfl, h1⟩
  | d :: l, vs, j + 1, e, h, q => by
    simp only [Iss] at h
    obtain ⟨v, r, rfl, _, h2⟩ := h
    exact Iss.at (j := j) h2 q
theorem Iss.ints {K : PySem.W.Frag} {H : Hp} : ∀ (l : List Int), Iss K H (l.map D.int) (l.map V.int)
  | [] => by simp only [List.map_nil, Iss]
  | i :: l => by
    simp only [List.map_cons, Iss, Is]
    exact ⟨_, _, rfl, rfl, Iss.ints l⟩
theorem seqT_same {K : PySem.W.Frag} {H H' : Hp} {a : Addr} {xs : List V} (e : Same H H') (h : SqT K H a xs) : SqT K H' a xs := by
  rcases h with (h | ⟨o, h⟩) | h
  · exact .inl (.inl (e _ _ h))
  · exact .inl (.inr ⟨o, e _ _ h⟩)
  · exact .inr h
mutual
theorem Is.same {K : PySem.W.Frag} {H H' : Hp} (e : Same H H') : ∀ (d : D) (v : V), Is K H d v → Is K H' d v
  | .non, v, h => by simp only [Is] at h ⊢; exact h
  | .bl b, v, h => by simp only [Is] at h ⊢; exact h
  | .int b, v, h => by simp only [Is] at h ⊢; exact h
  | .str b, v, h => by simp only [Is] at h ⊢; exact h
  | .lst l, v, h => by
    simp only [Is] at h ⊢
    obtain ⟨a, xs, e1, e2, e3⟩ := h
    exact ⟨a, xs, e1, e.seq e2, Iss.same e l xs e3⟩
  | .tup l, v, h => by
    simp only [Is] at h ⊢
    obtain ⟨a, xs, e1, e2, e3⟩ := h
    exact ⟨a, xs, e1, seqT_same e e2, Iss.same e l xs e3⟩
theorem Iss.same {K : PySem.W.Frag} {H H' : Hp} (e : Same H H') : ∀ (l : List D) (vs : List V), Iss K H l vs → Iss K H' l vs
  | [], vs, h => by simp only [Iss] at h ⊢; exact h
  | d :: l, vs, h => by
    simp only [Iss] at h ⊢
    obtain ⟨v, r, e1, e2, e3⟩ := h
    exact ⟨v, r, e1, Is.same e d v e2, Iss.same e l r e3⟩
end
theorem eqDs_is : ∀ (l m : List D), eqDs l m = ((List.range (min l.length m.length)).all (fun j => eqD (l.getD j .non) (m.getD j .non)) && l.length == m.length)
  | [], [] => rfl
  | [], e :: m => by simp [eqDs]
  | d :: l, [] => by simp [eqDs]
  | d :: l, e :: m => by
    simp only [eqDs, eqDs_is l m, List.length_cons]
    have h1 : min (l.length + 1) (m.length + 1) = min l.length m.length + 1 := by lia
    rw [h1, List.range_succ_eq_map, List.all_cons, List.all_map]
    have h2 : (l.length + 1 == m.length + 1) = (l.length == m.length) := by
      rw [Bool.eq_iff_iff, beq_iff_eq, beq_iff_eq]; lia
    rw [h2]
    simp only [List.getD_cons_zero, Bool.and_assoc]
    rfl
section
variable {X : Cx} {pins : List (Addr × Obj)} {σ : St} {H : Hp} {s : Shared}
theorem seq_kinds {a : Addr} {xs ys : List V} (I : Inv X pins σ H s) (h : SqL X.K H a xs) (g : SqT X.K H a ys) : False := by
  obtain ⟨its, r, ⟨o, n, e, c, _, d⟩, _⟩ := I.list h
  obtain ⟨its', r', ⟨o', e', c', n', d'⟩, _⟩ := I.tuple g
  rw [e] at e'
  cases e'
  rw [c] at c'
  exact absurd (Value.type.inj c') (by decide)
mutual
theorem is_det (I : Inv X pins σ H s) : ∀ (d e : D) (v : V), Is X.K H d v → Is X.K H e v → d = e
  | .lst l, .lst m, v, h, g => by
    simp only [Is] at h g
    obtain ⟨a, xs, rfl, h1, h2⟩ := h
    obtain ⟨b, ys, e, g1, g2⟩ := g
    cases e
    have := I.list_inj h1 g1
    subst this
    rw [iss_det I l m xs h2 g2]
  | .tup l, .tup m, v, h, g => by
    simp only [Is] at h g
    obtain ⟨a, xs, rfl, h1, h2⟩ := h
    obtain ⟨b, ys, e, g1, g2⟩ := g
    cases e
    have := I.tuple_inj h1 g1
    subst this
    rw [iss_det I l m xs h2 g2]
  | .lst l, .tup m, v, h, g => by
    simp only [Is] at h g
    obtain ⟨a, xs, rfl, h1, h2⟩ := h
    obtain ⟨b, ys, e, g1, g2⟩ := g
    cases e
    exact (seq_kinds I h1 g1).elim
  | .tup l, .lst m, v, h, g => by
    simp only [Is] at h g
    obtain ⟨a, xs, rfl, h1, h2⟩ := h
    obtain ⟨b, ys, e, g1, g2⟩ := g
    cases e
    exact (seq_kinds I g1 h1).elim
  | .lst l, .non, v, h, g => by simp only [Is] at h g; obtain ⟨a, xs, rfl, _⟩ := h; cases g
  | .lst l, .bl _, v, h, g => by simp only [Is] at h g; obtain ⟨a, xs, rfl, _⟩ := h; cases g
  | .lst l, .int _, v, h, g => by simp only [Is] at h g; obtain ⟨a, xs, rfl, _⟩ := h; cases g
  | .lst l, .str _, v, h, g => by simp only [Is] at h g; obtain ⟨a, xs, rfl, _⟩ := h; cases g
  | .tup l, .non, v, h, g => by simp only [Is] at h g; obtain ⟨a, xs, rfl, _⟩ := h; cases g
  | .tup l, .bl _, v, h, g => by simp only [Is] at h g; obtain ⟨a, xs, rfl, _⟩ := h; cases g
  | .tup l, .int _, v, h, g => by simp only [Is] at h g; obtain ⟨a, xs, rfl, _⟩ := h; cases g
  | .tup l, .str _, v, h, g => by simp only [Is] at h g; obtain ⟨a, xs, rfl, _⟩ := h; cases g
  | .non, e, v, h, g => by
    simp only [Is] at h
    subst h
    cases e <;> simp only [Is] at g
    all_goals first | rfl | (obtain ⟨a, xs, q, _⟩ := g; cases q) | cases g
  | .bl _, e, v, h, g => by
    simp only [Is] at h
    subst h
    cases e <;> simp only [Is] at g
    all_goals first | (cases g; rfl) | (obtain ⟨a, xs, q, _⟩ := g; cases q) | cases g
  | .int _, e, v, h, g => by
    simp only [Is] at h
    subst h
    cases e <;> simp only [Is] at g
    all_goals first | (cases g; rfl) | (obtain ⟨a, xs, q, _⟩ := g; cases q) | cases g
  | .str _, e, v, h, g => by
    simp only [Is] at h
    subst h
    cases e <;> simp only [Is] at g
    all_goals first | (cases g; rfl) | (obtain ⟨a, xs, q, _⟩ := g; cases q) | cases g
theorem iss_det (I : Inv X pins σ H s) : ∀ (l m : List D) (vs : List V), Iss X.K H l vs → Iss X.K H m vs → l = m
  | [], [], _, _, _ => rfl
  | [], e :: m, vs, h, g => by
    simp only [Iss] at h g
    subst h
    obtain ⟨_, _, q, _⟩ := g
    cases q
  | d :: l, [], vs, h, g => by
    simp only [Iss] at h g
    subst g
    obtain ⟨_, _, q, _⟩ := h
    cases q
  | d :: l, e :: m, vs, h, g => by
    simp only [Iss] at h g
    obtain ⟨v, r, rfl, h1, h2⟩ := h
    obtain ⟨v', r', q, g1, g2⟩ := g
    cases q
    rw [is_det I d e v h1 g1, iss_det I l m r h2 g2]
end
theorem vals_at : ∀ {xs : List V} {us : List Value} {j : Nat} {x : V}, Vals xs us → xs[j]? = some x → ∃ u, us[j]? = some u ∧ RelV x u
  | _, _, 0, _, .cons r t, h => by cases h; exact ⟨_, rfl, r⟩
  | _, _, j + 1, _, .cons r t, h => vals_at (j := j) t h
theorem items_at {l m : List D} {xs ys : List V} {its its' : List Value} {A : Around} {n : Nat} (hl : Iss X.K H l xs) (hm : Iss X.K H m ys) (r : Vals xs its) (r' : Vals ys its') (hn : dpDs l < n)
    (ih : ∀ (d e : D) (x y : V) (u v : Value), dpD d < n → Is X.K H d x → Is X.K H e y → RelV x u → RelV y v → SeqAt.EqAt A s u v (eqD d e)) :
    ∀ j (h1 : j < its.toArray.size) (h2 : j < its'.toArray.size), SeqAt.EqAt A s its.toArray[j] its'.toArray[j] (eqD (l.getD j .non) (m.getD j .non)) := by
  intro j h1 h2
  rw [List.size_toArray] at h1 h2
  have e1 := hl.len
  have e2 := hm.len
  have e3 := r.length
  have e4 := r'.length
  have g1 : l[j]? = some l[j] := List.getElem?_eq_getElem (by lia)
  have g2 : m[j]? = some m[j] := List.getElem?_eq_getElem (by lia)
  generalize l[j] = d at g1
  generalize m[j] = e at g2
  obtain ⟨x, hx, ix⟩ := hl.at g1
  obtain ⟨y, hy, iy⟩ := hm.at g2
  obtain ⟨u, hu, ru⟩ := vals_at r hx
  obtain ⟨v, hv, rv⟩ := vals_at r' hy
  have q1 : its.toArray[j] = u := by
    have := (ac.mp hu).2
    simpa using this
  have q2 : its'.toArray[j] = v := by
    have := (ac.mp hv).2
    simpa using this
  rw [q1, q2, List.getD_eq_getElem?_getD, List.getD_eq_getElem?_getD, g1, g2]
  exact ih d e x y u v (Nat.lt_of_le_of_lt (dp_at g1) hn) ix iy ru rv
theorem eqAt_D (I : Inv X pins σ H s) : ∀ (n : Nat) (A : Around) (d e : D) (x y : V) (u v : Value), A.units + n < cLine → dpD d < n → Is X.K H d x → Is X.K H e y → RelV x u → RelV y v → SeqAt.EqAt A s u v (eqD d e) := by
  intro n
  induction n with
  | zero => intro A d e x y u v _ h; exact absurd h (Nat.not_lt_zero _)
  | succ n ih =>
    intro A d e x y u v hu hd hx hy rx ry
    have hu1 : A.units < cLine := by lia
    have huA : A.in1.units + n < cLine := by show A.units + 1 + n < cLine; lia
    cases d with
    | lst l =>
      simp only [Is] at hx
      obtain ⟨a, xs, rfl, h1, h2⟩ := hx
      cases rx
      obtain ⟨its, r, p, _⟩ := I.list h1
      cases e with
      | non => simp only [Is] at hy; subst hy; cases ry; exact SeqAt.EqAt.list_none p.isList hu1
      | bl b => simp only [Is] at hy; subst hy; cases ry; exact SeqAt.EqAt.list_bool b p.isList hu1
      | int b => simp only [Is] at hy; subst hy; obtain ⟨t, rfl⟩ := ry; exact SeqAt.EqAt.list_int b t p.isList hu1
      | str b => simp only [Is] at hy; subst hy; obtain ⟨t, rfl⟩ := ry; exact SeqAt.EqAt.list_str b t p.isList hu1
      | tup m =>
        simp only [Is] at hy
        obtain ⟨b, ys, rfl, g1, g2⟩ := hy
        cases ry
        obtain ⟨its', r', p', _⟩ := I.tuple g1
        exact SeqAt.EqAt.list_tuple p.isList p' hu1
      | lst m =>
        have hy' := hy
        simp only [Is] at hy
        obtain ⟨b, ys, rfl, g1, g2⟩ := hy
        cases ry
        obtain ⟨its', r', p', _⟩ := I.list g1
        simp only [dpD] at hd
        by_cases hab : a = b
        · subst hab
          have := is_det I (.lst l) (.lst m) (.ref a) (by simp only [Is]; exact ⟨a, xs, rfl, h1, h2⟩) hy'
          rw [this, eqD_refl]
          exact SeqAt.EqAt.same _
        · refine .of_refs hab ?_
          simp only [eqD]
          have L1 := h2.len
          have L2 := g2.len
          have L3 := r.length
          have L4 := r'.length
          by_cases hl : l.length = m.length
          · have := SeqAt.RcAt.lists (A := A) p.isList p'.isList (by simp only [List.size_toArray]; lia) hu1 (items_at h2 g2 r r' (n := n) (by lia) fun d e x y u v q1 q2 q3 q4 q5 => ih A.in1 d e x y u v huA q1 q2 q3 q4 q5)
            rw [eqDs_is, hl, Nat.min_self, beq_self_eq_true, Bool.and_true]
            have e1 : its.toArray.size = m.length := by simp only [List.size_toArray]; lia
            rw [e1] at this
            exact this
          · rw [eqDs_is, beq_eq_false_iff_ne.mpr hl, Bool.and_false]
            exact SeqAt.RcAt.lists_lengths p.isList p'.isList (by rw [bne_iff_ne]; simp only [List.size_toArray]; lia) hu1
    | tup l =>
      simp only [Is] at hx
      obtain ⟨a, xs, rfl, h1, h2⟩ := hx
      cases rx
      obtain ⟨its, r, p, _⟩ := I.tuple h1
      cases e with
      | non => simp only [Is] at hy; subst hy; cases ry; exact SeqAt.EqAt.tuple_none p hu1
      | bl b => simp only [Is] at hy; subst hy; cases ry; exact SeqAt.EqAt.tuple_bool b p hu1
      | int b => simp only [Is] at hy; subst hy; obtain ⟨t, rfl⟩ := ry; exact SeqAt.EqAt.tuple_int b t p hu1
      | str b => simp only [Is] at hy; subst hy; obtain ⟨t, rfl⟩ := ry; exact SeqAt.EqAt.tuple_str b t p hu1
      | lst m =>
        simp only [Is] at hy
        obtain ⟨b, ys, rfl, g1, g2⟩ := hy
        cases ry
        obtain ⟨its', r', p', _⟩ := I.list g1
        exact SeqAt.EqAt.tuple_list p p'.isList hu1
      | tup m =>
        have hy' := hy
        simp only [Is] at hy
        obtain ⟨b, ys, rfl, g1, g2⟩ := hy
        cases ry
        obtain ⟨its', r', p', _⟩ := I.tuple g1
        simp only [dpD] at hd
        by_cases hab : a = b
        · subst hab
          have := is_det I (.tup l) (.tup m) (.ref a) (by simp only [Is]; exact ⟨a, xs, rfl, h1, h2⟩) hy'
          rw [this, eqD_refl]
          exact SeqAt.EqAt.same _
        · refine .of_refs hab ?_
          simp only [eqD]
          have L1 := h2.len
          have L2 := g2.len
          have L3 := r.length
          have L4 := r'.length
          have := SeqAt.RcAt.tuples (A := A) p p' hu1 (items_at h2 g2 r r' (n := n) (by lia) fun d e x y u v q1 q2 q3 q4 q5 => ih A.in1 d e x y u v huA q1 q2 q3 q4 q5)
          rw [eqDs_is]
          simp only [List.size_toArray] at this
          rw [← L1, ← L2, L3, L4]
          exact this
    | non =>
      simp only [Is] at hx
      subst hx
      cases e with
      | lst m =>
        simp only [Is] at hy
        obtain ⟨b, ys, rfl, g1, g2⟩ := hy
        cases rx; cases ry
        obtain ⟨its', r', p', _⟩ := I.list g1
        exact SeqAt.EqAt.none_list p'.isList hu1
      | tup m =>
        simp only [Is] at hy
        obtain ⟨b, ys, rfl, g1, g2⟩ := hy
        cases rx; cases ry
        obtain ⟨its', r', p', _⟩ := I.tuple g1
        exact SeqAt.EqAt.none_tuple p' hu1
      | _ => simp only [Is] at hy; subst hy; exact eqAt_V rx ry rfl rfl
    | bl c =>
      simp only [Is] at hx
      subst hx
      cases e with
      | lst m =>
        simp only [Is] at hy
        obtain ⟨b, ys, rfl, g1, g2⟩ := hy
        cases rx; cases ry
        obtain ⟨its', r', p', _⟩ := I.list g1
        exact SeqAt.EqAt.bool_list _ p'.isList hu1
      | tup m =>
        simp only [Is] at hy
        obtain ⟨b, ys, rfl, g1, g2⟩ := hy
        cases rx; cases ry
        obtain ⟨its', r', p', _⟩ := I.tuple g1
        exact SeqAt.EqAt.bool_tuple _ p' hu1
      | _ => simp only [Is] at hy; subst hy; exact eqAt_V rx ry rfl rfl
    | int c =>
      simp only [Is] at hx
      subst hx
      cases e with
      | lst m =>
        simp only [Is] at hy
        obtain ⟨b, ys, rfl, g1, g2⟩ := hy
        obtain ⟨t, rfl⟩ := rx; cases ry
        obtain ⟨its', r', p', _⟩ := I.list g1
        exact SeqAt.EqAt.int_list _ _ p'.isList hu1
      | tup m =>
        simp only [Is] at hy
        obtain ⟨b, ys, rfl, g1, g2⟩ := hy
        obtain ⟨t, rfl⟩ := rx; cases ry
        obtain ⟨its', r', p', _⟩ := I.tuple g1
        exact SeqAt.EqAt.int_tuple _ _ p' hu1
      | _ => simp only [Is] at hy; subst hy; exact eqAt_V rx ry rfl rfl
    | str c =>
      simp only [Is] at hx
      subst hx
      cases e with
      | lst m =>
        simp only [Is] at hy
        obtain ⟨b, ys, rfl, g1, g2⟩ := hy
        obtain ⟨t, rfl⟩ := rx; cases ry
        obtain ⟨its', r', p', _⟩ := I.list g1
        exact SeqAt.EqAt.str_list _ _ p'.isList hu1
      | tup m =>
        simp only [Is] at hy
        obtain ⟨b, ys, rfl, g1, g2⟩ := hy
        obtain ⟨t, rfl⟩ := rx; cases ry
        obtain ⟨its', r', p', _⟩ := I.tuple g1
        exact SeqAt.EqAt.str_tuple _ _ p' hu1
      | _ => simp only [Is] at hy; subst hy; exact eqAt_V rx ry rfl rfl
def rEqL (K : PySem.W.Frag) : R2 := fun x y H Q => ∃ l m, ((Is K H (.lst l) x ∧ Is K H (.lst m) y) ∨ (Is K H (.tup l) x ∧ Is K H (.tup m) y)) ∧ dpDs l < 50 ∧ Q (.bl (eqDs l m)) H
def rNeL (K : PySem.W.Frag) : R2 := fun x y H Q => ∃ l m, ((Is K H (.lst l) x ∧ Is K H (.lst m) y) ∨ (Is K H (.tup l) x ∧ Is K H (.tup m) y)) ∧ dpDs l < 50 ∧ Q (.bl (!eqDs l m)) H
theorem op_eqL (hu : X.A.units + 100 < cLine) : OpR X (compareOp .Eq) (rEqL X.K) := by
  intro pins s σ H x y v u Q I rx ry h
  obtain ⟨l, m, hh, hd, q⟩ := h
  have hu1 : X.A.units < cLine := by lia
  have huA : X.A.in1.units + 50 < cLine := by show X.A.units + 1 + 50 < cLine; lia
  rcases hh with ⟨hx, hy⟩ | ⟨hx, hy⟩
  · simp only [Is] at hx hy
    obtain ⟨a, xs, rfl, h1, h2⟩ := hx
    obtain ⟨b, ys, rfl, g1, g2⟩ := hy
    cases rx; cases ry
    obtain ⟨its, r, p, _⟩ := I.list h1
    obtain ⟨its', r', p', _⟩ := I.list g1
    have L1 := h2.len
    have L2 := g2.len
    have L3 := r.length
    have L4 := r'.length
    by_cases hl : l.length = m.length
    · have := SeqAt.RcAt.lists (A := X.A) p.isList p'.isList (by simp only [List.size_toArray]; lia) hu1 (items_at h2 g2 r r' (n := 50) hd fun d e x y u v q1 q2 q3 q4 q5 => eqAt_D I 50 X.A.in1 d e x y u v huA q1 q2 q3 q4 q5)
      have e1 : its.toArray.size = m.length := by simp only [List.size_toArray]; lia
      rw [e1] at this
      rw [eqDs_is, hl, Nat.min_self, beq_self_eq_true, Bool.and_true] at q
      exact this X.prog X.w X.xe _ ⟨.bl _, H, I, rfl, q⟩
    · rw [eqDs_is, beq_eq_false_iff_ne.mpr hl, Bool.and_false] at q
      exact SeqAt.RcAt.lists_lengths p.isList p'.isList (by rw [bne_iff_ne]; simp only [List.size_toArray]; lia) hu1 X.prog X.w X.xe _ ⟨.bl _, H, I, rfl, q⟩
  · simp only [Is] at hx hy
    obtain ⟨a, xs, rfl, h1, h2⟩ := hx
    obtain ⟨b, ys, rfl, g1, g2⟩ := hy
    cases rx; cases ry
    obtain ⟨its, r, p, _⟩ := I.tuple h1
    obtain ⟨its', r', p', _⟩ := I.tuple g1
    have L1 := h2.len
    have L2 := g2.len
    have L3 := r.length
    have L4 := r'.length
    have := SeqAt.RcAt.tuples (A := X.A) p p' hu1 (items_at h2 g2 r r' (n := 50) hd fun d e x y u v q1 q2 q3 q4 q5 => eqAt_D I 50 X.A.in1 d e x y u v huA q1 q2 q3 q4 q5)
    simp only [List.size_toArray] at this
    rw [eqDs_is, ← L1, ← L2, L3, L4] at q
    exact this X.prog X.w X.xe _ ⟨.bl _, H, I, rfl, q⟩
theorem op_neL (hu : X.A.units + 100 < cLine) : OpR X (compareOp .NotEq) (rNeL X.K) := by
  intro pins s σ H x y v u Q I rx ry h
  obtain ⟨l, m, hh, hd, q⟩ := h
  have hu1 : X.A.units < cLine := by lia
  have huA : X.A.in1.units + 50 < cLine := by show X.A.units + 1 + 50 < cLine; lia
  rcases hh with ⟨hx, hy⟩ | ⟨hx, hy⟩
  · simp only [Is] at hx hy
    obtain ⟨a, xs, rfl, h1, h2⟩ := hx
    obtain ⟨b, ys, rfl, g1, g2⟩ := hy
    cases rx; cases ry
    obtain ⟨its, r, p, _⟩ := I.list h1
    obtain ⟨its', r', p', _⟩ := I.list g1
    have L1 := h2.len
    have L2 := g2.len
    have L3 := r.length
    have L4 := r'.length
    by_cases hl : l.length = m.length
    · have := SeqAt.RcNeAt.lists (A := X.A) p.isList p'.isList (by simp only [List.size_toArray]; lia) hu1 (items_at h2 g2 r r' (n := 50) hd fun d e x y u v q1 q2 q3 q4 q5 => eqAt_D I 50 X.A.in1 d e x y u v huA q1 q2 q3 q4 q5)
      have e1 : its.toArray.size = m.length := by simp only [List.size_toArray]; lia
      rw [e1] at this
      rw [eqDs_is, hl, Nat.min_self, beq_self_eq_true, Bool.and_true] at q
      exact this X.prog X.w X.xe _ ⟨.bl _, H, I, rfl, q⟩
    · rw [eqDs_is, beq_eq_false_iff_ne.mpr hl, Bool.and_false] at q
      exact SeqAt.RcNeAt.lists_lengths p.isList p'.isList (by rw [bne_iff_ne]; simp only [List.size_toArray]; lia) hu1 X.prog X.w X.xe _ ⟨.bl _, H, I, rfl, q⟩
  · simp only [Is] at hx hy
    obtain ⟨a, xs, rfl, h1, h2⟩ := hx
    obtain ⟨b, ys, rfl, g1, g2⟩ := hy
    cases rx; cases ry
    obtain ⟨its, r, p, _⟩ := I.tuple h1
    obtain ⟨its', r', p', _⟩ := I.tuple g1
    have L1 := h2.len
    have L2 := g2.len
    have L3 := r.length
    have L4 := r'.length
    have := SeqAt.RcNeAt.tuples (A := X.A) p p' hu1 (items_at h2 g2 r r' (n := 50) hd fun d e x y u v q1 q2 q3 q4 q5 => eqAt_D I 50 X.A.in1 d e x y u v huA q1 q2 q3 q4 q5)
    simp only [List.size_toArray] at this
    rw [eqDs_is, ← L1, ← L2, L3, L4] at q
    exact this X.prog X.w X.xe _ ⟨.bl _, H, I, rfl, q⟩
end
abbrev CNx (n i : Nat) (Pv : Nat → List V → Hp → Prop) (acc : List V) (H : Hp) : Prop := ∃ m', m' < n - i ∧ (m' = n - (i + 1) ∧ i + 1 ≤ n ∧ Pv (i + 1) acc H)
theorem CNx.mk {n i : Nat} {Pv : Nat → List V → Hp → Prop} {acc : List V} {H : Hp} (hi : i < n) (h : Pv (i + 1) acc H) : CNx n i Pv acc H := ⟨n - (i + 1), by lia, rfl, hi, h⟩
def CompG (J : It) (g : TG) (tt : TT) (te : TE) (own : Nat) (ix : List Nat) (σ : St) (H1 : Hp) (Q : VK) (D : Addr) : Prop := ∃ W : Nat → Nat → List V → Hp → Prop, (∃ m, W 0 m [] (upd H1 D (.lst []))) ∧
  ∀ i m acc H', W i m acc H' → (J.stop i H' ∧ Q (.ref D) H') ∨ (J.go i H' ∧ ∀ x H2, J.yld i H' x H2 → g x (seen σ own ix) H2 fun σ3 H3 => KeepsSt (seen σ own ix) σ3 ∧ tt σ3 H3 fun b H4 => if b = true then
    te σ3 H4 fun v H5 => H5 D = some (.lst acc) ∧ acc.length < sizeLine ∧ ∃ m', m' < m ∧ W (i + 1) m' (acc ++ [v]) (upd H5 D (.lst (acc ++ [v])))
    else ∃ m', m' < m ∧ W (i + 1) m' acc H4)
def CompR (lo : Int) (n : Nat) (g : TG) (tt : TT) (te : TE) (own : Nat) (ix : List Nat) (σ : St) (H1 : Hp) (Q : VK) (D : Addr) : Prop := CompG (Itr lo n) g tt te own ix σ H1 Q D
def CompL (K : PySem.W.Frag) (a : Addr) (g : TG) (tt : TT) (te : TE) (own : Nat) (ix : List Nat) (σ : St) (H1 : Hp) (Q : VK) (D : Addr) : Prop := CompG (Itl K a) g tt te own ix σ H1 Q D
def CompS (x : Str) (g : TG) (tt : TT) (te : TE) (own : Nat) (ix : List Nat) (σ : St) (H1 : Hp) (Q : VK) (D : Addr) : Prop := CompG (Its x) g tt te own ix σ H1 Q D
theorem rd_cr1 {ta : TA} {g : TG} {tt : TT} {te : TE} {own : Nat} {ix : List Nat} {σ : St} {H : Hp} {Q : VK} : tComp (iRng1 ta) g tt te own ix σ H Q = ta σ H fun vs H1 => ∃ j : Int, vs = [.int j] ∧ -(2 ^ 62) ≤ j ∧ j < 2 ^ 62 ∧ ∀ D, H1 D = none → CompR 0 j.toNat g tt te own ix σ H1 Q D := rfl
theorem rd_cl {K : PySem.W.Frag} {tl : TE} {g : TG} {tt : TT} {te : TE} {own : Nat} {ix : List Nat} {σ : St} {H : Hp} {Q : VK} : tComp (iList K tl) g tt te own ix σ H Q = tl σ H fun x H1 => ∃ a, x = .ref a ∧ (∃ xs, SqL K H1 a xs) ∧ ∀ D, H1 D = none → CompL K a g tt te own ix σ H1 Q D := rfl
theorem rd_cs {tl : TE} {g : TG} {tt : TT} {te : TE} {own : Nat} {ix : List Nat} {σ : St} {H : Hp} {Q : VK} : tComp (iStr tl) g tt te own ix σ H Q = tl σ H fun v H1 => ∃ x, v = .str x ∧ ∀ D, H1 D = none → CompS x g tt te own ix σ H1 Q D := rfl
section
variable {g : TG} {tt : TT} {te : TE} {own : Nat} {ix : List Nat} {σ : St} {H1 : Hp} {Q : VK} {D : Addr}
theorem CompR.by {lo : Int} {n : Nat} (Pv : Nat → List V → Hp → Prop) (h0 : Pv 0 [] (upd H1 D (.lst [])))
    (hs : ∀ i acc H', i < n → Pv i acc H' → g (.int (lo + i)) (seen σ own ix) H' fun σ3 H3 => KeepsSt (seen σ own ix) σ3 ∧ tt σ3 H3 fun b H4 => if b = true then
      te σ3 H4 fun v H5 => H5 D = some (.lst acc) ∧ acc.length < sizeLine ∧ CNx n i Pv (acc ++ [v]) (upd H5 D (.lst (acc ++ [v]))) else CNx n i Pv acc H4)
    (hd : ∀ acc H', Pv n acc H' → Q (.ref D) H') : CompR lo n g tt te own ix σ H1 Q D := by
  refine ⟨fun i m acc H => m = n - i ∧ i ≤ n ∧ Pv i acc H, ⟨n, by simp, Nat.zero_le _, h0⟩, ?_⟩
  rintro i m acc H' ⟨rfl, hi, p⟩
  by_cases hlt : i < n
  · refine .inr ⟨hlt, fun x H2 y => ?_⟩
    obtain ⟨e, y⟩ := y
    subst e y
    exact hs i acc _ hlt p
  · have e : i = n := by lia
    subst e
    exact .inl ⟨Nat.le_refl _, hd acc H' p⟩
theorem CompL.by {K : PySem.W.Frag} {a : Addr} {xs : List V} (Pv : Nat → List V → Hp → Prop) (h0 : Pv 0 [] (upd H1 D (.lst []))) (hl : ∀ i acc H', i ≤ xs.length → Pv i acc H' → SqL K H' a xs)
    (hs : ∀ i x acc H', xs[i]? = some x → Pv i acc H' → g x (seen σ own ix) H' fun σ3 H3 => KeepsSt (seen σ own ix) σ3 ∧ tt σ3 H3 fun b H4 => if b = true then
      te σ3 H4 fun v H5 => H5 D = some (.lst acc) ∧ acc.length < sizeLine ∧ CNx xs.length i Pv (acc ++ [v]) (upd H5 D (.lst (acc ++ [v]))) else CNx xs.length i Pv acc H4)
    (hd : ∀ acc H', Pv xs.length acc H' → Q (.ref D) H') : CompL K a g tt te own ix σ H1 Q D := by
  refine ⟨fun i m acc H => m = xs.length - i ∧ i ≤ xs.length ∧ Pv i acc H, ⟨xs.length, by simp, Nat.zero_le _, h0⟩, ?_⟩
  rintro i m acc H' ⟨rfl, hi, p⟩
  have q := hl i acc H' hi p
  by_cases hlt : i < xs.length
  · refine .inr ⟨⟨xs, xs[i], q, by simp [hlt]⟩, fun x H2 y => ?_⟩
    obtain ⟨e, y⟩ := y
    subst e
    exact hs i x acc _ (y xs q) p
  · have e : i = xs.length := by lia
    subst e
    exact .inl ⟨⟨xs, q, Nat.le_refl _⟩, hd acc H' p⟩
theorem CompS.by {l : List Nat} (Pv : Nat → List V → Hp → Prop) (h0 : Pv 0 [] (upd H1 D (.lst [])))
    (hs : ∀ i c acc H', l[i]? = some c → Pv i acc H' → g (.str (tx [c])) (seen σ own ix) H' fun σ3 H3 => KeepsSt (seen σ own ix) σ3 ∧ tt σ3 H3 fun b H4 => if b = true then
      te σ3 H4 fun v H5 => H5 D = some (.lst acc) ∧ acc.length < sizeLine ∧ CNx l.length i Pv (acc ++ [v]) (upd H5 D (.lst (acc ++ [v]))) else CNx l.length i Pv acc H4)
    (hd : ∀ acc H', Pv l.length acc H' → Q (.ref D) H') : CompS (tx l) g tt te own ix σ H1 Q D := by
  refine ⟨fun i m acc H => m = l.length - i ∧ i ≤ l.length ∧ Pv i acc H, ⟨l.length, by simp, Nat.zero_le _, h0⟩, ?_⟩
  rintro i m acc H' ⟨rfl, hi, p⟩
  by_cases hlt : i < l.length
  · refine .inr ⟨hlt, fun v H2 y => ?_⟩
    obtain ⟨e, c, hc, ev⟩ := y
    subst e ev
    exact hs i c acc _ hc p
  · have e : i = l.length := by lia
    subst e
    exact .inl ⟨rfl, hd acc H' p⟩
end
theorem keeps0 {x : V} {r : St} : KeepsSt (none :: r) (some x :: r) := ⟨rfl, fun i v h => by
  cases i with
  | zero => cases h
  | succ i => exact h⟩
theorem compOk_of {X : Cx} {scope sc : Scope} {own caps : List Str} {ix : List Nat} (h1 : scope.kind = .function) (h2 : scope.names.all (fun y => y.2 != .cell) = true) (h3 : scope.names.all (fun y => y.2 != .local || scope.names.lookup y.1 == some .local) = true)
    (h4 : scope.names.all (fun y => y.2 != .free || sc.names.lookup y.1 == some .cell) = true) (hsc : X.env.scope = sc) (h5 : own.all (fun y => scope.names.lookup y == some .local) = true) (h6 : caps.all (fun y => scope.names.lookup y == some .free) = true) (h7 : ix.map (fun i => X.N[i]?) = caps.map some) : CompOk X scope own caps ix := by
  refine ⟨h1, fun y hy => ?_, fun y hy e => ?_, fun y hy => ?_, fun y hy => ?_, fun y hy => ?_, h7⟩
  · have := ai.mp h2 y hy
    simpa using this
  · have := ai.mp h3 y hy
    rw [e] at this
    simpa using this
  · have := ai.mp h4 _ hy
    have := by simpa using this
    show X.env.scope.names.lookup y = some .cell
    rw [hsc]
    exact this
  · have := ai.mp h5 y hy
    simpa using this
  · have := ai.mp h6 y hy
    simpa using this
theorem cut_mid {α : Type} (l : List α) {a b : Int} (h0 : 0 ≤ a) (h1 : a ≤ b) (h2 : b ≤ l.length) : cut l (some a) (some b) = (l.drop a.toNat).take (b - a).toNat := by
  obtain ⟨m, rfl⟩ := Int.eq_ofNat_of_zero_le h0
  obtain ⟨n, rfl⟩ := Int.eq_ofNat_of_zero_le (by lia : 0 ≤ b)
  unfold cut
  rw [HT.sIx_nat, HT.sIx_nat, Nat.min_eq_left (by lia), Nat.min_eq_left (by lia)]
  have : ((n : Int) - (m : Int)).toNat = n - m := by lia
  rw [this]
  rfl
theorem room100 {k : Nat} {A : Around} (r : Room k A) : A.units + 100 < cLine := by have := r.un; lia
end L3
set_option Elab.async false
set_option linter.all false
set_option maxRecDepth 100000
set_option maxHeartbeats 4000000
namespace L3
open PySem PySem.Spec PyProof.Rows L2
def tCut (t u : TS) : TS := fun D σ H => ∃ R : St → Hp → Prop, t { D with nx := R } σ H ∧ ∀ σ' H', R σ' H' → u D σ' H'
theorem pss_cut {X : Cx} {st : Stmt} {rest : List Stmt} {t u : TS} (h1 : PS X st t) (h2 : PSs X rest u) : PSs X (st :: rest) (tCut t u) := by
  intro pins s σ H D I h
  obtain ⟨R, h, hr⟩ := h
  refine wpAny_execs_cons (thn (h1 pins s σ H { D with nx := R } I h) fun f s1 q => ?_)
  cases f with
  | next =>
    obtain ⟨σ', H', I', q⟩ := q
    exact h2 pins s1 σ' H' D I' (hr _ _ q)
  | ret v => exact q
  | brk => exact q
  | cont => exact q
theorem cut_by {t u : TS} {D : Ends} {σ : St} {H : Hp} (R : St → Hp → Prop) (h : t { D with nx := R } σ H) (hr : ∀ σ' H', R σ' H' → u D σ' H') : tCut t u D σ H := ⟨R, h, hr⟩
theorem same_over {H H' : Hp} {a : Addr} {o : HO} (h : Same H H') (e : H a = none) : Same H (upd H' a o) := fun b u q => by
  rw [upd_ne (ne_of_none q e)]
  exact h b u q
theorem ForL.by {K : PySem.W.Frag} {a : Addr} {xs : List V} {g : TG} {tb : TS} {D : Ends} {σ : St} {H : Hp} (Pv : Nat → St → Hp → Prop) (h0 : Pv 0 σ H) (hl : ∀ i σ H, i ≤ xs.length → Pv i σ H → SqL K H a xs)
    (hs : ∀ i x σ H, xs[i]? = some x → Pv i σ H → g x σ H fun σ2 H2 => tb { D with nx := Pv (i + 1), ct := Pv (i + 1), bk := D.nx } σ2 H2) (hd : ∀ σ H, Pv xs.length σ H → D.nx σ H) : ForL K a g tb D σ H := for_list Pv h0 hl hs hd
def CompV (K : PySem.W.Frag) (a : Addr) (n : Nat) (g : TG) (tt : TT) (te : TE) (own : Nat) (ix : List Nat) (σ : L2.St) (H1 : Hp) (Q : VK) (D : Addr) : Prop := CompG (Irv K a n) g tt te own ix σ H1 Q D
theorem rd_cv {K : PySem.W.Frag} {ta : TA} {g : TG} {tt : TT} {te : TE} {own : Nat} {ix : List Nat} {σ : L2.St} {H : Hp} {Q : VK} : tComp (iRev K ta) g tt te own ix σ H Q = ta σ H fun vs H1 => ∃ a xs, vs = [.ref a] ∧ SqL K H1 a xs ∧ ∀ D, H1 D = none → CompV K a xs.length g tt te own ix σ H1 Q D := rfl
end L3
set_option Elab.async false
set_option linter.all false
set_option maxRecDepth 100000
set_option maxHeartbeats 4000000
namespace L3
open PySem PySem.Spec PyProof.Rows L2
noncomputable def splitL (c : Nat) : List Nat → List (List Nat)
  | [] => [[]]
  | x :: r => if x = c then [] :: splitL c r else match splitL c r with
    | p :: q => (x :: p) :: q
    | [] => [[x]]
noncomputable def joinL (c : Nat) : List (List Nat) → List Nat
  | [] => []
  | [p] => p
  | p :: q :: r => p ++ c :: joinL c (q :: r)
theorem splitL_free {c : Nat} : ∀ {p : List Nat}, c ∉ p → splitL c p = [p]
  | [], _ => rfl
  | x :: r, h => by
    have h1 : ¬ x = c := fun e => h (by rw [e]; exact List.mem_cons_self)
    have h2 : c ∉ r := fun e => h (List.mem_cons_of_mem _ e)
    simp only [splitL, if_neg h1, splitL_free h2]
theorem splitL_app {c : Nat} : ∀ {p r : List Nat}, c ∉ p → splitL c (p ++ c :: r) = p :: splitL c r
  | [], r, _ => by simp only [List.nil_append, splitL, if_true]
  | x :: p, r, h => by
    have h1 : ¬ x = c := fun e => h (by rw [e]; exact List.mem_cons_self)
    have h2 : c ∉ p := fun e => h (List.mem_cons_of_mem _ e)
    simp only [List.cons_append, splitL, if_neg h1, splitL_app h2]
theorem split_join {c : Nat} : ∀ {P : List (List Nat)}, P ≠ [] → (∀ p ∈ P, c ∉ p) → splitL c (joinL c P) = P
  | [], h, _ => absurd rfl h
  | [p], _, h => splitL_free (h p (by simp))
  | p :: q :: r, _, h => by
    simp only [joinL]
    rw [splitL_app (h p (by simp)), split_join (by simp) fun x hx => h x (List.mem_cons_of_mem _ hx)]
theorem cs_join (c : Nat) : ∀ ys : List Str, cs (Str.join (tx [c]) ys) = joinL c (ys.map cs)
  | [] => rfl
  | [x] => rfl
  | x :: y :: r => by
    have ih := cs_join c (y :: r)
    show ((x ++ tx [c]) ++ Str.join (tx [c]) (y :: r)).cps.toList = cs x ++ c :: joinL c ((y :: r).map cs)
    rw [← ih, Str.cps_append, Str.cps_append]
    simp
theorem split_is (l : List Nat) (c : Nat) : Txt.split (tx l) (tx [c]) = (splitL c l).map tx := by
  have h1 : joinL c ((Txt.split (tx l) (tx [c])).map cs) = l := by
    rw [← cs_join, StrLaws.join_split]
  have h2 : (Txt.split (tx l) (tx [c])).map cs ≠ [] := by
    have := PyProof.Rows.split_pos (tx l) (tx [c])
    intro e
    rw [List.map_eq_nil_iff] at e
    rw [e] at this
    exact absurd this (by decide)
  have h3 : ∀ p ∈ (Txt.split (tx l) (tx [c])).map cs, c ∉ p := by
    intro p hp
    obtain ⟨y, hy, rfl⟩ := ag.mp hp
    exact StrLaws.split_free (tx l) c y hy
  have h4 := split_join h2 h3
  rw [h1] at h4
  rw [h4, List.map_map]
  have : (tx ∘ cs) = id := by funext x; exact tx_cs x
  rw [this, List.map_id]
theorem splitL_len (c : Nat) (l : List Nat) : (splitL c l).length ≤ l.length + 1 := by
  induction l with
  | nil => simp [splitL]
  | cons x r ih =>
    simp only [splitL]
    by_cases h : x = c
    · rw [if_pos h]
      simp only [List.length_cons]
      lia
    · rw [if_neg h]
      cases hs : splitL c r with
      | nil => simp
      | cons p q =>
        rw [hs] at ih
        simp only [List.length_cons] at ih ⊢
        lia
section
variable {X : Cx}
theorem strs_of : ∀ {ys : List Str} {its : List Value}, Vals (ys.map V.str) its → ∃ l : List (Str × Tok), its = strValues l ∧ l.map (·.1) = ys
  | [], _, .nil => ⟨[], rfl, rfl⟩
  | y :: ys, _, .cons r t => by
    obtain ⟨tk, rfl⟩ := r
    obtain ⟨l, e1, e2⟩ := strs_of t
    exact ⟨(y, tk) :: l, by rw [e1]; rfl, by rw [List.map_cons, e2]⟩
theorem vals_strs : ∀ l : List (Str × Tok), Vals ((l.map (·.1)).map V.str) (strValues l)
  | [] => .nil
  | (x, t) :: l => .cons ⟨t, rfl⟩ (vals_strs l)
def rJoin (K : PySem.W.Frag) : V → List V → Hp → VK → Prop := fun x xs H Q => ∃ z p ys, x = .str z ∧ xs = [.ref p] ∧ SqL K H p (ys.map V.str) ∧ JoinOk z ys = true ∧ Q (.str (Txt.join z ys)) H
theorem m_join : MtR X "str.join" (rJoin X.K) := by
  intro pins s σ H x xs v us Q I rx rv h
  obtain ⟨z, p, ys, rfl, rfl, hS, hok, q⟩ := h
  obtain ⟨t, rfl⟩ := rx
  obtain ⟨u, rfl, ru⟩ := vals1 rv
  cases ru
  obtain ⟨its, r, pl, _⟩ := I.list hS
  obtain ⟨l, rfl, e⟩ := strs_of r
  exact PySem.SC.join pl.isList e hok fun t' k => ⟨.str _, H, I.tok _, ⟨_, rfl⟩, q⟩
def rSplit : V → List V → Hp → VK → Prop := fun x xs H Q => ∃ l c, x = .str (tx l) ∧ xs = [.str (tx [c])] ∧ l.length ≤ 100000 ∧ ∀ D, H D = none → Q (.ref D) (upd H D (.lst ((splitL c l).map fun p => V.str (tx p))))
theorem m_split : MtR X "str.split" rSplit := by
  intro pins s σ H x xs v us Q I rx rv h
  obtain ⟨l, c, rfl, rfl, hl, q⟩ := h
  obtain ⟨t, rfl⟩ := rx
  obtain ⟨u, rfl, t', rfl⟩ := vals1 rv
  have s16 : (sizeLine : Nat) = 16777216 := sizeLine_eq
  have hy : ((tx [c]).length == 0) = false := rfl
  have hz1 : (tx l).length ≤ sizeLine := by rw [len_tx]; lia
  have hlen := splitL_len c l
  have fin : ∀ (n : List (Str × Tok)) (k : Nat), n.map (·.1) = Txt.split (tx l) (tx [c]) → EP X pins σ Q (.ref s.heap.objs.size) { s with heap := s.heap.push { cls := .type "list", data := .seq (strValues n).toArray }, toks := k } := fun n k e => by
    rw [split_is] at e
    have v1 := vals_strs n
    rw [e, List.map_map] at v1
    refine ⟨.ref s.heap.objs.size, _, I.lnew (t' := k) v1 ?_, rfl, ?_⟩
    · rw [List.length_map]
      lia
    · exact q _ (I.hok.fresh (Nat.le_refl _))
  cases h1 : (decide ((tx l).length < (tx [c]).length) || decide (Builtin.Str.strKind (tx l) < Builtin.Str.strKind (tx [c])))
  · cases hf : (Builtin.Str.occurrences (tx l) (tx [c]) 0 (tx l).length ((tx l).length + 1)).isEmpty
    · have hz2 : (Builtin.Str.partsBetween (tx l) (Builtin.Str.occurrences (tx l) (tx [c]) 0 (tx l).length ((tx l).length + 1)) (tx [c]).length).length ≤ sizeLine := by
        have e : Txt.split (tx l) (tx [c]) = Builtin.Str.partsBetween (tx l) (Builtin.Str.occurrences (tx l) (tx [c]) 0 (tx l).length ((tx l).length + 1)) (tx [c]).length := (if_neg (ne_true_of_eq_false h1)).trans (if_neg (ne_true_of_eq_false hf))
        rw [← e, split_is, List.length_map]
        lia
      refine call_meets F.slot_str_split (typeIs_str _ _ _) F.entry_str_split (F.args_str_split_2 _ _) (meets_str_split_sep (tx l) (tx [c]) t t' h1 hy hf hz1 hz2) ?_
      show wants (EP X pins σ Q) X.xe _ { s with toks := _, heap := s.heap.push { cls := .type "list", data := .seq (strsFrom s.toks (Builtin.Str.partsBetween (tx l) (Builtin.Str.occurrences (tx l) (tx [c]) 0 (tx l).length ((tx l).length + 1)) (tx [c]).length)).toArray } }
      rw [strsFrom_eq]
      exact fin (numbered s.toks _) _ ((numbered_texts _ _).trans ((if_neg (ne_true_of_eq_false h1)).trans (if_neg (ne_true_of_eq_false hf))).symm)
    · exact call_meets F.slot_str_split (typeIs_str _ _ _) F.entry_str_split (F.args_str_split_2 _ _) (meets_str_split_not_found (tx l) (tx [c]) t t' h1 hy hf)
        (fin [(tx l, t)] s.toks ((if_neg (ne_true_of_eq_false h1)).trans (if_pos hf)).symm)
  · exact call_meets F.slot_str_split (typeIs_str _ _ _) F.entry_str_split (F.args_str_split_2 _ _) (meets_str_split_cannot_occur (tx l) (tx [c]) t t' h1)
      (fin [(tx l, t)] s.toks (if_pos h1).symm)
theorem bools_at : ∀ {bs : List Bool} {its : List Value} {i : Nat} {v : Value}, Vals (bs.map V.bl) its → its[i]? = some v → v = .bool (bs.getD i false)
  | [], _, _, _, .nil, h => by cases h
  | b :: bs, _, 0, v, .cons r t, h => by
    cases r
    cases h
    rfl
  | b :: bs, _, i + 1, v, .cons r t, h => bools_at (bs := bs) (i := i) t h
theorem all_range (bs : List Bool) : (List.range bs.length).all (fun i => bs.getD i false) = bs.all id := by
  induction bs with
  | nil => rfl
  | cons b bs ih =>
    rw [List.length_cons, List.range_succ_eq_map, List.all_cons, List.all_map, List.all_cons, ← ih]
    rfl
def rAll (K : PySem.W.Frag) : List V → Hp → VK → Prop := fun xs H Q => ∃ (p : Addr) (bs : List Bool), xs = [.ref p] ∧ SqL K H p (bs.map V.bl) ∧ Q (.bl (bs.all id)) H
theorem c_all (hc : X.calm = true) : CallR X (.builtin "all") (rAll X.K) := by
  intro pins s σ H xs us Q I r h
  obtain ⟨p, bs, rfl, hS, q⟩ := h
  obtain ⟨u, rfl, ru⟩ := vals1 r
  cases ru
  obtain ⟨its, rv, pl, hz⟩ := I.list hS
  have hlen : its.length = bs.length := by
    have := rv.length
    rw [List.length_map] at this
    exact this.symm
  have hh : X.A.in1.handled = none := I.ok.hd hc
  have hne : p ≠ s.heap.objs.size := by
    obtain ⟨o, n, e, _⟩ := pl
    exact Nat.ne_of_lt (Heap.lt_size e)
  obtain ⟨f0, f1, f2, f3, f4, f5⟩ := I.fpOk (H' := H) (Nat.le_refl _) (I.hok.fresh (Nat.le_refl _))
  have I1 := I.kept (t' := s.toks) (h' := s.heap.push { cls := .type "list_iterator", data := .fields #[.ref p, .int 0 0] }) fun b o e => Heap.get?_push_of_some _ e
  refine call_all_walk (wpAny_pyIter_list pl.isList ?_)
  refine ⟨s.heap.objs.size, _, _, _, _, _, fun i => bs.getD i false, rfl, Walks.list hh s.heap.objs.size p hne its.toArray, ⟨⟨_, Heap.get?_push_size _ rfl, rfl, rfl⟩, ?_⟩, ?_, ?_⟩
  · obtain ⟨o, n, e, c, d, dt⟩ := pl
    exact ⟨o, Heap.get?_push_of_some _ e, c, n, dt⟩
  · intro i v s' Q' E' hv hq
    have := bools_at rv (i := i) (v := v) (by simpa using hv)
    rw [this]
    exact wpAny_truthy_bool hq
  · intro h' tk hk
    have e : (List.range its.toArray.size).all (fun i => bs.getD i false) = bs.all id := by
      rw [List.size_toArray, hlen, all_range]
    rw [e]
    refine ⟨.bl _, H, ?_, rfl, q⟩
    exact I1.turned (t' := tk) (it := s.heap.objs.size) (fun b o hb q => hk b o (by simpa using hb) q) f0 f1 f3 f4 f5
def rIntT : List V → Hp → VK → Prop := fun xs H Q => ∃ (z : Str) (n : Int), xs = [.str z] ∧ PySem.intText? z = some n ∧ z.length ≤ 640 ∧ Q (.int n) H
theorem c_intT : CallR X (.type "int") rIntT := by
  intro pins s σ H xs us Q I r h
  obtain ⟨z, n, rfl, hn, hl, q⟩ := h
  obtain ⟨u, rfl, t, rfl⟩ := vals1 r
  exact PySem.W.KIN.call_text hn hl ⟨.int n, H, I.tok _, ⟨_, rfl⟩, q⟩
def rStrI : List V → Hp → VK → Prop := fun xs H Q => ∃ i : Int, xs = [.int i] ∧ i.natAbs.log2 < 1920 ∧ Q (.str (Str.ofString (toString i))) H
theorem c_strI : CallR X (.type "str") rStrI := call_str_int
end
end L3
set_option Elab.async false
set_option linter.all false
set_option maxRecDepth 100000
set_option maxHeartbeats 4000000
namespace L3
open PySem PySem.Spec PyProof.Rows L2
section
variable {M : Model} {A : Around} {E : Value → Shared → Prop} {s : Shared} {base : Heap} {env env0 : Env} {outer : List Env} {L x t C : Addr} {dx : Option Addr}
theorem note_x {tb : Value} {Q : Unit → Shared → Prop} (hfr : A.frames = some (env0 :: outer)) (hl : s.heap.FunFrames base (env0 :: outer)) (hf : env0.frame = some L) (he : env.frame = some L)
    (hx : s.heap.get? x = some (xob C dx t tb)) (htb : TbOk s.heap x tb)
    (h : ∀ h' T oT ts, h'.get? x = some (xob C dx t (.ref T)) → T ≠ x → (tb = .ref T ∨ s.heap.objs.size ≤ T) → h'.get? T = some oT → oT.data = .fields ts → 3 < ts.size →
      (∀ b o, b ≠ x → tb ≠ .ref b → b ∉ frs (env0 :: outer) → s.heap.get? b = some o → h'.get? b = some o) → (∀ b o, b ≠ x → tb ≠ .ref b → s.heap.get? b = some o → ∃ sl, h'.get? b = some { o with slots := sl }) → Q () { s with heap := h' }) :
    wpAny M A (noteFrame (.ref x) env) Q E s := by
  have land : ∀ (h1 : Heap) (T : Addr) (oT : Obj) (ts : Array Value), h1.get? x = some (xob C dx t (.ref T)) → T ≠ x → (tb = .ref T ∨ s.heap.objs.size ≤ T) → h1.get? T = some oT → oT.data = .fields ts → 3 < ts.size →
      (∀ b o, b ≠ x → tb ≠ .ref b → b ∉ frs (env0 :: outer) → s.heap.get? b = some o → h1.get? b = some o) → (∀ b o, b ≠ x → tb ≠ .ref b → s.heap.get? b = some o → ∃ sl, h1.get? b = some { o with slots := sl }) →
      Q () { s with heap := h1 } := fun h1 T oT ts e1 nT oldT e2 d2 z2 k1 k2 => h h1 T oT ts e1 nT oldT e2 d2 z2 k1 k2
  unfold noteFrame
  simp only [he]
  refine wpAny_bind (wpAny_field hx rfl (x := tb) rfl ?_)
  rcases htb with rfl | ⟨T, oT, ts, rfl, nT, e2, d2, z2⟩
  · rw [if_neg (by decide)]
    refine entry_x hfr hl hf he hx fun h' oT ts e1 ne e2 d2 z2 k1 k2 => land h' _ oT ts e1 ne (.inr (Nat.le_refl _)) e2 d2 z2 (fun b o hb _ hbf e => k1 b o hb hbf e) fun b o hb _ e => k2 b o hb e
  · rw [if_pos (show (Value.ref T != Value.none) = true from by simp)]
    obtain ⟨y, hy⟩ : ∃ y, ts[3]? = some y := ⟨ts[3], by simp [z2]⟩
    refine wpAny_bind (wpAny_field e2 d2 (x := y) hy ?_)
    by_cases c : (y == rawInt L) = true
    · rw [if_pos c]
      exact wpAny_pure (land s.heap T oT ts hx nT (.inl rfl) e2 d2 z2 (fun b o _ _ _ e => e) fun b o _ _ e => ⟨o.slots, e⟩)
    · rw [if_neg c]
      refine wpAny_bind (wpAny_setField e2 d2 z2 ?_)
      have oth : ∀ b, b ≠ T → (s.heap.update T (Obj.mapFields (·.setIfInBounds 3 Value.none))).get? b = s.heap.get? b := fun b hb => Heap.get?_update_other _ _ (Ne.symm hb)
      have hl1 : (s.heap.update T (Obj.mapFields (·.setIfInBounds 3 Value.none))).FunFrames base (env0 :: outer) := hl.of_keeps fun b o hb hnf => ⟨o, (oth b fun q => by rw [q, e2] at hb; cases hb; exact hnf ts d2).trans hb, rfl⟩
      have hsz : (s.heap.update T (Obj.mapFields (·.setIfInBounds 3 Value.none))).objs.size = s.heap.objs.size := Heap.size_update ..
      refine entry_x (s := { s with heap := s.heap.update T (Obj.mapFields (·.setIfInBounds 3 Value.none)) }) hfr hl1 hf he ((oth x (Ne.symm nT)).trans hx) fun h' oT' ts' e1 ne e2' d2' z2' k1 k2 => ?_
      refine land h' _ oT' ts' e1 ne (.inr (by rw [hsz]; exact Nat.le_refl _)) e2' d2' z2' (fun b o hb hbt hbf e => k1 b o hb hbf ((oth b fun q => hbt (by rw [q])).trans e)) fun b o hb hbt e => k2 b o hb ((oth b fun q => hbt (by rw [q])).trans e)
end
section
variable {X : Cx} {pins : List (Addr × Obj)} {σ : St} {H1 : Hp} {s1 : Shared}
theorem Inv.noted {h' : Heap} {x T : Addr} {tb : Value} (I1 : Inv X pins σ H1 s1) (hst : X.stack = X.env :: X.outer) (fx : FpOk X pins H1 x) (fT : ∀ T, tb = .ref T → FpOk X pins H1 T) (fT' : FpOk X pins H1 T)
    (k1 : ∀ b o, b ≠ x → tb ≠ .ref b → b ∉ frs (X.env :: X.outer) → s1.heap.get? b = some o → h'.get? b = some o) (k2 : ∀ b o, b ≠ x → tb ≠ .ref b → s1.heap.get? b = some o → ∃ sl, h'.get? b = some { o with slots := sl }) : Inv X pins σ H1 { s1 with heap := h' } := by
  have tbs : ∀ b, tb = .ref b → H1 b = none := fun b hb => (fT b hb).1
  have nch : ∀ b o, s1.heap.get? b = some o → b ∉ (x :: T :: tbL tb) → b ≠ x ∧ tb ≠ .ref b := fun b o _ hb => by
    refine ⟨fun z => hb (by simp [z]), fun z => hb ?_⟩
    rw [z]
    simp [tbL]
  have un : Un (frs X.stack) (x :: T :: tbL tb) H1 H1 s1.heap h' := by
    rw [hst]
    refine ⟨fun b o e n hb hc => ?_, fun b o e n hb hc => ?_, fun b o e n _ => n, fun b o e hc => ?_, fun b xs e => e, fun b o u e => e, fun b ps e => ⟨#[], by rw [e]; simp⟩⟩
    · obtain ⟨a1, a2⟩ := nch b o e hc
      exact k1 b o a1 a2 hb e
    · obtain ⟨a1, a2⟩ := nch b o e hc
      exact k2 b o a1 a2 e
    · obtain ⟨a1, a2⟩ := nch b o e hc
      obtain ⟨sl, q⟩ := k2 b o a1 a2 e
      exact ⟨_, q⟩
  have hok : HOk X.prog X.w H1 h' := fun b u e => by
    refine (I1.hok b u e).stay (fun c v hc q => k1 c v ?_ ?_ ?_ q) (fun _ q => q) fun _ _ q => q
    · rintro rfl
      rcases hc with rfl | hc
      · rw [fx.1] at e; cases e
      · rw [fx.1] at hc; cases hc
    · intro z
      have := tbs c z
      rcases hc with rfl | hc
      · rw [this] at e; cases e
      · rw [this] at hc; cases hc
    · intro z
      rw [← hst] at z
      have := I1.stkFree c z
      rcases hc with rfl | hc
      · rw [this] at e; cases e
      · rw [this] at hc; cases hc
  exact I1.call' (s' := { s1 with heap := h' }) rfl un hok I1.bare fun b hb => by
    have fb : FpOk X pins H1 b := by
      rcases aa.mp hb with z | z
      · rw [z]; exact fx
      · rcases aa.mp z with z | z
        · rw [z]; exact fT'
        · cases tb with
          | ref b' =>
            have : b = b' := by simpa [tbL] using z
            rw [this]; exact fT b' rfl
          | _ => simp [tbL] at z
    obtain ⟨_, a1, _, a3, a4, a5⟩ := fb
    exact ⟨a3, a1, a4, a5⟩
end
section
variable {X : Cx} {scope : Scope} {own caps : List Str} {ix : List Nat} {cl : List (Str × Addr)}
theorem comp_xe {N : List Str} {EX : XK} {pins : List (Addr × Obj)} {σ : St} {H3 : Hp} {s3 : Shared} {fp : List Addr} {xe : Value → Shared → Prop} {e : Value} {s1 : Shared} {RE : Value → Shared → Prop} (hst : X.stack = X.env :: X.outer ∧ X.env.frame = some X.env.locals) (hxe : XE X EX)
    (hc1 : ∀ y c, cl.lookup y = some c → X.env.cells.lookup y = some c) (I3 : Inv X pins σ H3 s3) (f3 : ∀ b ∈ fp, FpOk X pins H3 b) (fl : Flies (compCx X scope cl s3.heap.objs.size N pins s3 H3 fp xe) EX e s1)
    (hRE : ∀ m s' x, s'.heap.Ns s3.heap.objs.size m → (∀ h', Heap.SameBut s3.heap.objs.size s'.heap h' → ∀ cenv : Env, cenv.locals = s3.heap.objs.size → wpAny (model X.prog X.w) X.A (PySem.passOn "comprehension.variables-let-go" x cenv : Sem Value) (fun _ _ => False) X.xe { s' with heap := h' }) → RE x s') :
    notedBy (model X.prog X.w) X.A (compEnvC scope cl s3.heap.objs.size X.env) RE e s1 := by
  obtain ⟨pins', σ', H1, x, C, t, dx, tb, rfl, I1, ob, tr, fx, fT, q⟩ := fl
  have IX : Inv X pins σ H1 s1 := I3.call' (s' := s1) I1.os I1.base I1.hok I1.bare fun b hb => by
    obtain ⟨_, a1, a2, a3, a4, a5⟩ := f3 b hb
    exact ⟨a3, a1, a4, a5⟩
  have up : ∀ b, FpOk (compCx X scope cl s3.heap.objs.size N pins s3 H3 fp xe) pins' H1 b → FpOk X pins H1 b := fun b hb => by
    obtain ⟨a0, a1, a2, a3, a4, a5⟩ := hb
    rcases a3 with a3 | a3
    · exact ⟨a0, (f3 b a3).2⟩
    · exact I3.fpOk a3 a0
  have fx' := up x fx
  have fT' : ∀ T, tb = .ref T → FpOk X pins H1 T := fun T h => up T (fT T h)
  have fr : X.A.frames = some (X.env :: X.outer) := by rw [← hst.1]; exact IX.ok.frames
  have ff : s1.heap.FunFrames X.base (X.env :: X.outer) := by rw [← hst.1]; exact IX.stack
  obtain ⟨m, hm, _⟩ := I1.loc
  have fC : FpOk X pins H1 s3.heap.objs.size := I3.fpOk (Nat.le_refl _) I1.free
  refine note_x fr ff hst.2 hst.2 ob tr fun h' T oT ts e1 nT oldT e2 d2 z2 k1 k2 => ?_
  have fT2 : FpOk X pins H1 T := by
    rcases oldT with z | z
    · exact fT' T z
    · exact IX.fpOk z (IX.hok.fresh z)
  have I2 : Inv X pins σ H1 { s1 with heap := h' } := Inv.noted IX hst.1 fx' fT' fT2 k1 k2
  have hCx : s3.heap.objs.size ≠ x := fun z => fx.2.1 z.symm
  have hCtb : tb ≠ .ref s3.heap.objs.size := fun z => (fT _ z).2.1 rfl
  obtain ⟨oC, es, ep, hoC, rC⟩ := hm
  have hCT : T ≠ s3.heap.objs.size := by
    rcases oldT with z | z
    · exact (fT T z).2.1
    · exact Nat.ne_of_gt (Nat.lt_of_lt_of_le (Heap.lt_size hoC) z)
  have hCf : s3.heap.objs.size ∉ frs (X.env :: X.outer) := fun z => by
    rw [← hst.1] at z
    rcases aa.mp (IX.stkSub _ z) with y | y
    · exact fC.2.1 y
    · exact fC.2.2.1 y
  refine hRE m _ _ ⟨oC, es, ep, k1 _ _ hCx hCtb hCf hoC, rC⟩ fun h2 sb cenv hcenv => ?_
  have I3' : Inv X pins σ H1 { s1 with heap := h2 } := I2.turned (t' := s1.toks) (fun b o hb e => (sb.2 b hb).trans e) fC.1 fC.2.1 fC.2.2.2.1 fC.2.2.2.2.1 fC.2.2.2.2.2
  have ob2 : h2.get? x = some (xob C dx t (.ref T)) := (sb.2 x (Ne.symm hCx)).trans e1
  have oT2 : h2.get? T = some oT := (sb.2 T hCT).trans e2
  unfold PySem.passOn
  refine wpAny_bind (wpAny_field (s := { s1 with heap := h2 }) ob2 rfl (x := .ref T) rfl ?_)
  rw [if_neg (show ¬ (Value.ref T == Value.none) = true from by simp)]
  unfold setFlight
  refine wpAny_bind (wpAny_bind (wpAny_field (s := { s1 with heap := h2 }) ob2 rfl (x := .ref T) rfl ?_))
  rw [if_pos (show (Value.ref T != Value.none) = true from by simp)]
  refine wpAny_setField (s := { s1 with heap := h2 }) oT2 d2 z2 (wpAny_throw (hxe _ _ ?_))
  have d3 := Obj.data_mapFields d2 (·.setIfInBounds 3 (cenv.frame.elim Value.none fun f => rawInt f))
  have I4 : Inv X pins σ H1 { s1 with heap := h2.update T (Obj.mapFields (·.setIfInBounds 3 (cenv.frame.elim Value.none fun f => rawInt f))) } :=
    I3'.turned (t' := s1.toks) (fun b o hb e => (Heap.get?_update_other _ _ (Ne.symm hb)).trans e) fT2.1 fT2.2.1 fT2.2.2.2.1 fT2.2.2.2.2.1 fT2.2.2.2.2.2
  exact ⟨pins, σ, H1, x, C, t, dx, .ref T, rfl, I4, (Heap.get?_update_other _ _ nT).trans ob2, .inr ⟨T, _, _, rfl, nT, Heap.get?_update_self _ oT2 (Obj.isFreed_of_fields d3), d3, by simpa using z2⟩, fx', fun T' z => by cases z; exact fT2, q⟩
end
section
variable {X : Cx} {scope : Scope} {own caps : List Str} {ix : List Nat} {elt tg iter : Expr} {ifs : List Expr} {pos : Pos} {wi : TI} {g : TG} {tt : TT} {te : TE}
theorem comp_blockX (hc : X.calm = true) (S : CompOk X scope own caps ix)
    (hg : ∀ cl C pins s3 H3 fp, PG (compCx X scope cl C (own ++ caps) pins s3 H3 fp fun _ _ => False) tg g)
    (ht : ∀ cl C pins s3 H3 fp, PTs (compCx X scope cl C (own ++ caps) pins s3 H3 fp fun _ _ => False) ifs tt)
    {EX : XK} (hst : X.stack = X.env :: X.outer ∧ X.env.frame = some X.env.locals) (hxe : XE X EX) (he : ∀ cl C pins s3 H3 fp xe, XE (compCx X scope cl C (own ++ caps) pins s3 H3 fp xe) EX → PE (compCx X scope cl C (own ++ caps) pins s3 H3 fp xe) elt te)
    {cl : List (Str × Addr)} (hc1 : ∀ y c, cl.lookup y = some c → X.env.cells.lookup y = some c) (hc2 : ∀ y, (y, NameKind.free) ∈ scope.names → ∃ c, cl.lookup y = some c)
    {pins : List (Addr × Obj)} {σ : St} {H2 : Hp} {s2 : Shared} {Q : VK} {it : Addr} {fp : List Addr} {tn : Nat → Heap → Prop} {J : It} (I2 : Inv X pins σ H2 s2) (T : Turn X.prog X.w X.K tg J fp it tn) (st2 : tn 0 s2.heap) (f2 : ∀ b ∈ fp, FpOk X pins H2 b)
    (q : ∀ D, H2 D = none → ∃ W : Nat → Nat → List V → Hp → Prop, (∃ m, W 0 m [] (upd H2 D (.lst []))) ∧
      ∀ i m acc H', W i m acc H' → (J.stop i H' ∧ Q (.ref D) H') ∨ (J.go i H' ∧ ∀ x H2, J.yld i H' x H2 → g x (seen σ own.length ix) H2 fun σ3 H3 => KeepsSt (seen σ own.length ix) σ3 ∧ tt σ3 H3 fun b H4 => if b = true then
        te σ3 H4 fun v H5 => H5 D = some (.lst acc) ∧ acc.length < sizeLine ∧ ∃ m', m' < m ∧ W (i + 1) m' (acc ++ [v]) (upd H5 D (.lst (acc ++ [v])))
        else ∃ m', m' < m ∧ W (i + 1) m' acc H4))
    {RR : Value → Addr → Result → Shared → Prop} {E : Value → Shared → Prop}
    (hRR : ∀ D C m s' H', H2 D = none → s'.heap.Ns C m → FpOk X pins H' C → Inv X pins σ H' s' → Q (.ref D) H' → RR (.ref D) C (.ok .next) s')
    (hRE : ∀ D C m s' x, s'.heap.Ns C m → (∀ h', Heap.SameBut C s'.heap h' → ∀ cenv : Env, cenv.locals = C → wpAny (model X.prog X.w) X.A (PySem.passOn "comprehension.variables-let-go" x cenv : Sem Value) (fun _ _ => False) X.xe { s' with heap := h' }) → RR (.ref D) C (.error x) s') :
    wpAny (model X.prog X.w) X.A (newList []) (fun acc s3 => wpAny (model X.prog X.w) X.A (newFunctionEnv scope X.env.globals cl [] X.env.qual none .none (some X.env)) (fun cenv s4 =>
      codeAny (model X.prog X.w) X.A (.compStart (.ListComp elt [⟨tg, iter, ifs, 0⟩] scope pos) 0 (.ref it) acc { cenv with scope := relabel scope X.env }) (RR acc cenv.locals) s4) E s3) E s2 := by
  have hD : H2 s2.heap.objs.size = none := I2.hok.fresh (Nat.le_refl _)
  obtain ⟨W, ⟨m0, w0⟩, turn⟩ := q _ hD
  refine wpAny_newObj_type (wpAny_newFunctionEnv S.nocell (by intro y hy; simp at hy) (fun h1 hns1 hsb1 => ?_) S.kind)
  dsimp only at hns1 hsb1 ⊢
  have I3 : Inv X pins σ (upd H2 s2.heap.objs.size (.lst [])) { s2 with heap := s2.heap.push { cls := .type "list", dict := none, data := .seq ([] : List Value).toArray } } :=
    I2.lnew (its := []) (t' := s2.toks) .nil (Nat.zero_le _)
  generalize hs3 : ({ s2 with heap := s2.heap.push { cls := .type "list", dict := none, data := .seq ([] : List Value).toArray } } : Shared) = s3 at I3
  have e3 : s2.heap.push { cls := .type "list", dict := none, data := .seq ([] : List Value).toArray } = s3.heap := by rw [← hs3]
  rw [e3] at hns1 hsb1 ⊢
  have k1 : ∀ b o, s3.heap.get? b = some o → h1.get? b = some o := fun b o e => (hsb1.2 b (Nat.ne_of_lt (Heap.lt_size e))).trans (Heap.get?_push_of_some _ e)
  have k23 : ∀ b o, s2.heap.get? b = some o → s3.heap.get? b = some o := fun b o e => by rw [← e3]; exact Heap.get?_push_of_some _ e
  have hz : s3.heap.objs.size = s2.heap.objs.size + 1 := by rw [← e3, Heap.size_push]
  have fpObj : ∀ b ∈ fp, ∃ o, s2.heap.get? b = some o := fun b hb => let ⟨o, e, _⟩ := T.obj 0 _ st2 b hb; ⟨o, e⟩
  have fplt : ∀ b ∈ fp, b < s2.heap.objs.size := fun b hb => let ⟨o, e⟩ := fpObj b hb; Heap.lt_size e
  have f3 : ∀ b ∈ fp, FpOk X pins (upd H2 s2.heap.objs.size (.lst [])) b := fun b hb => ⟨by rw [upd_ne (Nat.ne_of_lt (fplt b hb))]; exact (f2 b hb).1, (f2 b hb).2⟩
  have I4 : Inv (compCx X scope cl s3.heap.objs.size (own ++ caps) pins s3 (upd H2 s2.heap.objs.size (.lst [])) fp fun _ _ => False) [] (seen σ own.length ix) (upd H2 s2.heap.objs.size (.lst [])) { s3 with heap := h1, toks := s3.toks + ([] : List (Str × Value)).length } :=
    comp_start S hc1 hc2 I3 f3 (fun b hb => by rw [hz]; exact Nat.lt_succ_of_lt (fplt b hb)) hns1 k1
  have st4 : tn 0 h1 := T.keep 0 _ _ st2 fun b hb o e => k1 b o (k23 b o e)
  generalize hs4 : ({ s3 with heap := h1, toks := s3.toks + ([] : List (Str × Value)).length } : Shared) = s4 at I4
  have es4 : ({ s2 with heap := h1, toks := s2.toks + ([] : List (Str × Value)).length } : Shared) = s4 := by rw [← hs4, ← hs3]
  have e4 : h1 = s4.heap := by rw [← hs4]
  have loop : codeAny (model X.prog X.w) X.A (.compLoop (.ListComp elt [⟨tg, iter, ifs, 0⟩] scope pos) 0 (.ref it) (.ref s2.heap.objs.size) (compEnvC scope cl s3.heap.objs.size X.env)) (RR (.ref s2.heap.objs.size) s3.heap.objs.size) s4 := by
    let X' := compCx X scope cl s3.heap.objs.size (own ++ caps) pins s3 (upd H2 s2.heap.objs.size (.lst [])) fp fun _ _ => False
    have fp' : ∀ {H' : Hp}, (∀ b ∈ fp, H' b = none) → ∀ b ∈ fp, FpOk X' [] H' b := fun {H'} hn b hb => by
      obtain ⟨_, a1, a2, a3, a4, a5⟩ := f3 b hb
      refine ⟨hn b hb, Nat.ne_of_lt (show b < s3.heap.objs.size from by rw [hz]; exact Nat.lt_succ_of_lt (fplt b hb)), fun z => ?_, .inl hb, fun x c e => a4 x c (hc1 x c e), fun p hp => ?_⟩
      · rcases aa.mp (I3.stkSub b z) with e | e
        · exact a1 e
        · exact a2 e
      · have : p ∈ (X.pn ++ pins) ++ [] := hp
        rw [List.append_nil] at this
        exact a5 p this
    refine comp_loop (fun n s' => ∃ i acc H', Inv X' [] (seen σ own.length ix) H' s' ∧ tn i s'.heap ∧ (∀ b ∈ fp, H' b = none) ∧ W i n acc H') rfl ?_ m0 ⟨0, [], _, I4, by rw [← e4]; exact st4, fun b hb => (f3 b hb).1, w0⟩
    rintro n s5 ⟨i, acc, H5, I5, st5, fr5, w5⟩
    refine wpAny_noRaise ?_
    rcases turn i n acc H5 w5 with ⟨stop, qn⟩ | ⟨go, step⟩
    · refine thn (T.done X' rfl rfl rfl hc i [] s5 _ H5 _ I5 (fp' fr5) st5 stop) fun r s6 ⟨hr, I6⟩ => ?_
      subst hr
      obtain ⟨m, hm, _⟩ := I6.loc
      refine hRR _ _ m s6 H5 hD hm (I3.fpOk (Nat.le_refl _) I6.free) (I3.call' (s' := s6) I6.os I6.base I6.hok I6.bare fun b hb => ?_) qn
      obtain ⟨_, a1, a2, a3, a4, a5⟩ := f3 b hb
      exact ⟨a3, a1, a4, a5⟩
    · refine thn (T.item X' rfl rfl rfl hc i [] s5 _ H5 (fun _ _ => False) I5 (fp' fr5) st5 go) fun r s6 ⟨u, hr, h6⟩ => ?_
      subst hr
      refine wpAny_noRaise (thn h6 fun _ s7 ⟨x, H7, I7, r7, y7, st7, fr7⟩ => ?_)
      have I7' := I7.pinned (fp' fr7) (T.obj _ _ st7)
      refine wpAny_noRaise (thn (hg _ _ _ _ _ _ _ s7 _ H7 x u _ I7' r7 (step x H7 y7)) fun _ s8 ⟨σ8, H8, I8, ks, q8⟩ => ?_)
      refine wpAny_noRaise (thn (ht _ _ _ _ _ _ _ s8 σ8 H8 _ I8 q8) fun b s9 ⟨H9, I9, q9⟩ => ?_)
      have back : ∀ {s' : Shared} {H' : Hp} {acc' : List V} {m' : Nat}, Inv X' ([] ++ pinsAt fp s7.heap) σ8 H' s' → m' < n → W (i + 1) m' acc' H' → ∃ m, m < n ∧ ∃ i acc H', Inv X' [] (seen σ own.length ix) H' s' ∧ tn i s'.heap ∧ (∀ b ∈ fp, H' b = none) ∧ W i m acc H' := fun {s' H' acc' m'} J' hm w' => by
        refine ⟨m', hm, i + 1, acc', H', (J'.unpinned).weak ks.1 ks.2, T.keep _ _ _ st7 fun b hb o e => (J'.pin (b, o) (List.mem_append_right _ (List.mem_append_right _ (mem_pinsAt hb e)))).1, fun b hb => ?_, w'⟩
        obtain ⟨o, e, d⟩ := T.obj _ _ st7 b hb
        exact (J'.pin (b, o) (List.mem_append_right _ (List.mem_append_right _ (mem_pinsAt hb e)))).2.1
      cases b with
      | false =>
        rw [if_neg Bool.false_ne_true] at q9 ⊢
        obtain ⟨m', hm, w'⟩ := q9
        exact back I9 hm w'
      | true =>
        rw [if_pos rfl] at q9 ⊢
        refine thn (he cl _ pins s3 (upd H2 s2.heap.objs.size (.lst [])) fp _ (fun e s hfl => comp_xe (RE := fun e s' => RR (.ref s2.heap.objs.size) s3.heap.objs.size (.error e) s') hst hxe hc1 I3 f3 hfl fun m s' x a b => hRE _ _ m s' x a b) _ s9 σ8 H9 _ (I9.wish _) q9) fun v s10 ⟨y, H10, I10', r10, hD10, hsz, m', hm, w'⟩ => ?_
        have I10 := Inv.unwish (X := X') I10'
        refine wpAny_noRaise ?_
        have := mt_append (X := X') _ s10 σ8 H10 (.ref s2.heap.objs.size) [y] (.ref s2.heap.objs.size) [v] (fun _ H' => H' = upd H10 s2.heap.objs.size (.lst (acc ++ [y]))) I10 rfl (.cons r10 .nil) ⟨_, acc, y, rfl, rfl, hD10, hsz, rfl⟩
        refine thn this fun _ s11 ⟨_, H11, I11, _, eH⟩ => ?_
        subst eH
        exact back I11 hm w'
  have goal : codeAny (model X.prog X.w) X.A (.compStart (.ListComp elt [⟨tg, iter, ifs, 0⟩] scope pos) 0 (.ref it) (.ref s2.heap.objs.size) (compEnvC scope cl s3.heap.objs.size X.env)) (RR (.ref s2.heap.objs.size) s3.heap.objs.size) s4 :=
    codeAny_compStart_list loop (T.self _ 0 s4 _ _ (by rw [← e4]; exact st4) loop)
  rw [← es4] at goal
  exact goal
theorem pe_compX {EX : XK} (hc : X.calm = true) (S : CompOk X scope own caps ix) (hst : X.stack = X.env :: X.outer ∧ X.env.frame = some X.env.locals) (hxe : XE X EX) (hi : PI X tg iter wi)
    (hg : ∀ cl C pins s3 H3 fp, PG (compCx X scope cl C (own ++ caps) pins s3 H3 fp fun _ _ => False) tg g)
    (ht : ∀ cl C pins s3 H3 fp, PTs (compCx X scope cl C (own ++ caps) pins s3 H3 fp fun _ _ => False) ifs tt)
    (he : ∀ cl C pins s3 H3 fp xe, XE (compCx X scope cl C (own ++ caps) pins s3 H3 fp xe) EX → PE (compCx X scope cl C (own ++ caps) pins s3 H3 fp xe) elt te)
    (hs : ∀ x, foldedSetIterable iter X.env x = pure x := by intro _; rfl) :
    PE X (.ListComp elt [⟨tg, iter, ifs, 0⟩] scope pos) (tComp wi g tt te own.length ix) := by
  intro pins s σ H Q I h
  obtain ⟨cl, hclos, hc1, hc2⟩ := closureFor_is (scope := scope) (env := X.env) fun y hy => I.ok.has y (.inl (S.free y hy))
  rw [eval_ListComp]
  refine wpAny_comprehension_free (use := none) rfl hs hclos S.kind S.names (thn (hi pins s σ H _ I h) fun v s1 h1 => thn h1 fun itv s2 h2 => ?_)
  obtain ⟨it, fp, tn, J, H2, e, I2, T, st2, f2, q⟩ := h2
  subst e
  refine comp_blockX (RR := fun acc C => compPost (model X.prog X.w) X.A X.xe none (EP X pins σ Q) acc C) hc S hg ht hst hxe he hc1 hc2 I2 T st2 f2 q ?_ ?_
  · intro D C m s' H' _ hn fc I' qn
    obtain ⟨a0, a1, a2, a3, a4, a5⟩ := fc
    exact ⟨m, hn, fun h' sb => ⟨.ref D, H', I'.turned (t' := s'.toks) (fun b o hb e => (sb.2 b hb).trans e) a0 a1 a3 a4 a5, rfl, qn⟩⟩
  · intro D C m s' x hn hp
    exact ⟨m, hn, hp⟩
end
end L3
set_option Elab.async false
set_option linter.all false
set_option maxRecDepth 100000
set_option maxHeartbeats 4000000
namespace L3
open PySem PySem.Spec PyProof.Rows L2
open AutoSeq1 (wpAny_loadPart')
open MeetsSeq MeetsSeq2 MeetsSeq3 SeqRoads2 SeqAt
def LtAt (A : Around) (s : Shared) (y x : Value) (b : Bool) : Prop :=
  ∀ (prog : Program) (w : World) (E : Value → Shared → Prop) (Q : Value → Shared → Prop), Q (.bool b) s → wpAny (model prog w) A (richCompare .Lt y x) Q E s
def Steps (e t r : Nat → Bool) (m n : Nat) : Prop := ∀ i, i ≤ m → i ≤ n → r i = if i < m ∧ i < n then (if e i = true then r (i + 1) else t i) else decide (m < n)
theorem lt_loopAt (l b : Addr) (items items2 : Array Value) (n n2 : Nat) (dd dd2 : Option Addr) (sl sl2 : Array (Option Value)) (e t r : Nat → Bool) (hr : Steps e t r items.size items2.size) (k : Nat) :
    ∀ i : Nat, i ≤ items.size → i ≤ items2.size → items.size - i = k → Meets (Builtin.«list.__eq__.loop» ⟨[.ref l, .ref b, rawInt i, rawInt 0], []⟩)
      (fun A R s => s.heap.get? l = some { cls := .type "list", dict := dd, data := .seq items n, slots := sl } ∧ s.heap.get? b = some { cls := .type "list", dict := dd2, data := .seq items2 n2, slots := sl2 } ∧
        (∀ j (h1 : j < items.size) (h2 : j < items2.size), EqAt A.in1 s items[j] items2[j] (e j)) ∧ (∀ j (h1 : j < items.size) (h2 : j < items2.size), e j = false → LtAt A.in1 s items[j] items2[j] (t j)) ∧
        R (.ok (.ret (.bool (r i)))) s) := by
  induction k with
  | zero =>
    intro i b1 b2 hk prog w A R s h
    obtain ⟨hp, g, d, tk, os⟩ := s; obtain ⟨hl, hb, he, ht, h⟩ := h
    have hri := hr i b1 b2
    rw [if_neg (by lia)] at hri
    rw [hri] at h
    wp_walk using wpAny_loadPart' hl, wpAny_loadPart' hb
    have hi1 : items[((i : Nat) : Int).toNat]? = none := by simp; lia
    rw [hi1]
    wp_walk using wpAny_loadPart' hl, wpAny_loadPart' hb
    exact h
  | succ k ih =>
    intro i b1 b2 hk prog w A R s h
    obtain ⟨hp, g, d, tk, os⟩ := s; obtain ⟨hl, hb, he, ht, h⟩ := h
    have hlt : i < items.size := by lia
    have hi1 : items[((i : Nat) : Int).toNat]? = some items[i] := by simp [hlt]
    have hc : ((i : Int) + 1) = ((i + 1 : Nat) : Int) := by push_cast; rfl
    have hri := hr i b1 b2
    by_cases hlt2 : i < items2.size
    · rw [if_pos ⟨hlt, hlt2⟩] at hri
      rw [hri] at h
      have hi2 : items2[((i : Nat) : Int).toNat]? = some items2[i] := by simp [hlt2]
      wp_walk using wpAny_loadPart' hl, wpAny_loadPart' hb
      rw [hi1, hi2]
      refine wpAny_bind (he i hlt hlt2 prog w _ _ ?_)
      cases hb' : e i with
      | true =>
        rw [hb', if_pos rfl] at h
        wp_walk
        rw [hc]
        exact ⟨plainId_quiet plain_eq_loop _, codeAny_builtin entry_eq_loop (by
          rw [Around.under_plainId plain_eq_loop _]
          exact ih (i + 1) (by lia) (by lia) (by lia) prog w A R _ ⟨hl, hb, he, ht, h⟩)⟩
      | false =>
        rw [hb', if_neg Bool.false_ne_true] at h
        wp_walk using wpAny_loadPart' hl, wpAny_loadPart' hb
        rw [hi1, hi2]
        refine wpAny_bind (ht i hlt hlt2 hb' prog w _ _ ?_)
        wp_walk
        exact h
    · rw [if_neg (by lia)] at hri
      rw [hri] at h
      have hi2 : items2[((i : Nat) : Int).toNat]? = none := by simp; lia
      wp_walk using wpAny_loadPart' hl, wpAny_loadPart' hb
      rw [hi1, hi2]
      wp_walk using wpAny_loadPart' hl, wpAny_loadPart' hb
      exact h
theorem list_ltAt (l b : Addr) (items items2 : Array Value) (n n2 : Nat) (dd dd2 : Option Addr) (sl sl2 : Array (Option Value)) (e t r : Nat → Bool) (hr : Steps e t r items.size items2.size) :
    Meets (Builtin.«list.__lt__» ⟨[.ref l, .ref b], []⟩)
      (fun A R s => s.heap.get? l = some { cls := .type "list", dict := dd, data := .seq items n, slots := sl } ∧ s.heap.get? b = some { cls := .type "list", dict := dd2, data := .seq items2 n2, slots := sl2 } ∧
        (∀ j (h1 : j < items.size) (h2 : j < items2.size), EqAt A.in1 s items[j] items2[j] (e j)) ∧ (∀ j (h1 : j < items.size) (h2 : j < items2.size), e j = false → LtAt A.in1 s items[j] items2[j] (t j)) ∧
        R (.ok (.ret (.bool (r 0)))) s) := by
  intro prog w A R s h
  obtain ⟨hp, g, d, tk, os⟩ := s; obtain ⟨hl, hb, he, ht, h⟩ := h
  have f3 := AutoSeq1.sub_list_list
  wp_walk using wpAny_loadPart' hl, wpAny_loadPart' hb
  exact ⟨plainId_quiet plain_eq_loop _, codeAny_builtin entry_eq_loop (by
    rw [Around.under_plainId plain_eq_loop _]
    exact lt_loopAt l b items items2 n n2 dd dd2 sl sl2 e t r hr _ 0 (Nat.zero_le _) (Nat.zero_le _) rfl prog w A R _ ⟨hl, hb, he, ht, h⟩)⟩
theorem tuple_ltAt (l b : Addr) (items items2 : Array Value) (n n2 : Nat) (dd dd2 : Option Addr) (sl sl2 : Array (Option Value)) (e t r : Nat → Bool) (hr : Steps e t r items.size items2.size) :
    Meets (Builtin.«tuple.__lt__» ⟨[.ref l, .ref b], []⟩)
      (fun A R s => s.heap.get? l = some { cls := .type "tuple", dict := dd, data := .seq items n, slots := sl } ∧ s.heap.get? b = some { cls := .type "tuple", dict := dd2, data := .seq items2 n2, slots := sl2 } ∧
        (∀ j (h1 : j < items.size) (h2 : j < items2.size), EqAt A.in1 s items[j] items2[j] (e j)) ∧ (∀ j (h1 : j < items.size) (h2 : j < items2.size), e j = false → LtAt A.in1 s items[j] items2[j] (t j)) ∧
        R (.ok (.ret (.bool (r 0)))) s) :=
  .of_wp fun prog w A R s h => by
    obtain ⟨hp, g, d, tk, os⟩ := s; obtain ⟨hl, hb, he, ht, h⟩ := h
    have f2 := AutoSeq1.sub_tuple_tuple
    have hZ : (items.toList.zip items2.toList).length = min items.size items2.size := by simp
    wp_walk using wpAny_loadPart' hl, wpAny_loadPart' hb, wpAny_forIn_list _ (fun rest b s' => b.1 = none ∧ s' = ⟨hp, g, d, tk, os⟩ ∧ ∃ i, i ≤ min items.size items2.size ∧ rest = (items.toList.zip items2.toList).drop i ∧
      R (.ok (.ret (.bool (r i)))) ⟨hp, g, d, tk, os⟩) _
    case turn =>
      rintro ⟨y, x⟩ rest b s' ⟨hb', rfl, i, hi, hz, hR⟩
      have hlt : i < (items.toList.zip items2.toList).length := by
        rcases Nat.lt_or_ge i (items.toList.zip items2.toList).length with h' | h'
        · exact h'
        · rw [List.drop_of_length_le h'] at hz; cases hz
      have hm : i < min items.size items2.size := hZ ▸ hlt
      have h1 : i < items.size := Nat.lt_of_lt_of_le hm (Nat.min_le_left _ _)
      have h2 : i < items2.size := Nat.lt_of_lt_of_le hm (Nat.min_le_right _ _)
      rw [List.drop_eq_getElem_cons hlt] at hz
      injection hz with hyx hrest
      have hy : y = items[i] := by have := congrArg Prod.fst hyx; simpa using this
      have hx : x = items2[i] := by have := congrArg Prod.snd hyx; simpa using this
      subst hy hx
      have hri := hr i (by lia) (by lia)
      rw [if_pos ⟨h1, h2⟩] at hri
      rw [hri] at hR
      refine wpAny_bind (he i h1 h2 prog w _ _ ?_)
      cases hy : e i with
      | true =>
        rw [hy, if_pos rfl] at hR
        wp_walk
        exact ⟨rfl, rfl, i + 1, by lia, hrest, hR⟩
      | false =>
        rw [hy, if_neg Bool.false_ne_true] at hR
        simp only [Bool.not_false, if_true]
        refine wpAny_bind (wpAny_rule ?_)
        refine wpAny_bind (ht i h1 h2 hy prog w _ _ ?_)
        wp_walk
        exact ⟨_, rfl, hR⟩
    case fin =>
      rintro ⟨b1, b2⟩ s' ⟨hb', rfl, i, hi, hz, hR⟩
      simp only at hb'
      subst hb'
      have hge : min items.size items2.size ≤ i := by
        rcases Nat.lt_or_ge i (items.toList.zip items2.toList).length with h' | h'
        · rw [List.drop_eq_getElem_cons h'] at hz; cases hz
        · exact hZ ▸ h'
      have hri := hr i (by lia) (by lia)
      rw [if_neg (by lia)] at hri
      rw [hri] at hR
      wp_walk
      exact ⟨_, rfl, hR⟩
    case h =>
      exact ⟨rfl, rfl, 0, Nat.zero_le _, rfl, h⟩
theorem LtAt.lists {A : Around} {s : Shared} {l b : Addr} {items items2 : Array Value} {e t r : Nat → Bool} (hl : s.heap.IsList l items) (hb : s.heap.IsList b items2) (hr : Steps e t r items.size items2.size) (hu : A.units < cLine)
    (he : ∀ j (h1 : j < items.size) (h2 : j < items2.size), EqAt A.in1 s items[j] items2[j] (e j)) (ht : ∀ j (h1 : j < items.size) (h2 : j < items2.size), e j = false → LtAt A.in1 s items[j] items2[j] (t j)) : LtAt A s (.ref l) (.ref b) (r 0) := fun prog w E Q h => by
  obtain ⟨⟨cls, dd, data, sl⟩, ho, hc, n, hd⟩ := id hl
  obtain ⟨⟨cls2, dd2, data2, sl2⟩, ho2, hc2, n2, hd2⟩ := id hb
  simp only at hc hd hc2 hd2
  subst hc hd hc2 hd2
  exact richCompare_meets_room (op := .Lt) ⟨_, ho, rfl⟩ ⟨_, ho2, rfl⟩ F.slot_list_lt F.entry_list_lt (F.args_list_lt_2 _ _) (list_ltAt l b items items2 n n2 dd dd2 sl sl2 e t r hr)
    ⟨ho, ho2, he, ht, show Value.bool (r 0) ≠ Value.notImplemented ∧ Q (.bool (r 0)) s from ⟨(fun x => nomatch x), h⟩⟩ hu
theorem LtAt.tuples {A : Around} {s : Shared} {l b : Addr} {items items2 : Array Value} {e t r : Nat → Bool} (hl : s.heap.IsTuple l items) (hb : s.heap.IsTuple b items2) (hr : Steps e t r items.size items2.size) (hu : A.units < cLine)
    (he : ∀ j (h1 : j < items.size) (h2 : j < items2.size), EqAt A.in1 s items[j] items2[j] (e j)) (ht : ∀ j (h1 : j < items.size) (h2 : j < items2.size), e j = false → LtAt A.in1 s items[j] items2[j] (t j)) : LtAt A s (.ref l) (.ref b) (r 0) := fun prog w E Q h => by
  obtain ⟨⟨cls, dd, data, sl⟩, ho, hc, n, hd⟩ := id hl
  obtain ⟨⟨cls2, dd2, data2, sl2⟩, ho2, hc2, n2, hd2⟩ := id hb
  simp only at hc hd hc2 hd2
  subst hc hd hc2 hd2
  exact richCompare_meets_room (op := .Lt) ⟨_, ho, rfl⟩ ⟨_, ho2, rfl⟩ F.slot_tuple_lt F.entry_tuple_lt (F.args_tuple_lt_2 _ _) (tuple_ltAt l b items items2 n n2 dd dd2 sl sl2 e t r hr)
    ⟨ho, ho2, he, ht, show Value.bool (r 0) ≠ Value.notImplemented ∧ Q (.bool (r 0)) s from ⟨(fun x => nomatch x), h⟩⟩ hu
end L3
set_option Elab.async false
set_option linter.all false
set_option maxRecDepth 100000
set_option maxHeartbeats 4000000
namespace L3
open PySem PySem.Spec PyProof.Rows L2
section
variable {X : Cx} {pins : List (Addr × Obj)} {σ : St} {H : Hp} {s : Shared}
end
end L3
set_option Elab.async false
set_option linter.all false
set_option maxRecDepth 100000
set_option maxHeartbeats 4000000
namespace L3
open PySem PySem.Spec PyProof.Rows L2
def LsA (K : PySem.W.Frag) (H : Hp) (a : Addr) (ds : List D) : Prop := ∃ xs, H a = some (.lst xs) ∧ Iss K H ds xs
theorem LsA.is {K : PySem.W.Frag} {H : Hp} {a : Addr} {ds : List D} (h : LsA K H a ds) : Is K H (.lst ds) (.ref a) := by
  obtain ⟨xs, h1, h2⟩ := h
  simp only [Is]
  exact ⟨a, xs, rfl, SqL.of h1, h2⟩
theorem LsA.nil {K : PySem.W.Frag} {H : Hp} {a : Addr} : LsA K (upd H a (.lst [])) a [] := ⟨[], upd_same, by simp only [Iss]⟩
theorem Is.tup {K : PySem.W.Frag} {H : Hp} {p : Addr} {vs : List V} {ds : List D} (hp : H p = none) (h : Iss K H ds vs) : Is K (upd H p (.tup vs)) (.tup ds) (.ref p) := by
  simp only [Is]
  exact ⟨p, vs, rfl, SqT.of upd_same, Iss.same (same_upd hp) _ _ h⟩
noncomputable abbrev Rule := List Nat × List Nat
noncomputable abbrev N3 := Nat × Nat × Nat
noncomputable def d3 (t : N3) : D := .tup [.int (t.1 : Nat), .int (t.2.1 : Nat), .int (t.2.2 : Nat)]
theorem cut_an {α : Type} (l : List α) {a b : Int} (h0 : 0 ≤ a) (h1 : a ≤ b) : cut l (some a) (some b) = (l.drop a.toNat).take (b - a).toNat := by
  by_cases h2 : b ≤ l.length
  · exact cut_mid l h0 h1 h2
  · obtain ⟨m, rfl⟩ := Int.eq_ofNat_of_zero_le h0
    obtain ⟨n, rfl⟩ := Int.eq_ofNat_of_zero_le (by lia : 0 ≤ b)
    unfold cut
    rw [HT.sIx_nat, HT.sIx_nat, Nat.min_eq_right (by lia : l.length ≤ n)]
    have e : (((n : Nat) : Int) - ((m : Nat) : Int)).toNat = n - m := by lia
    have e2 : ((m : Nat) : Int).toNat = m := rfl
    rw [e, e2, List.take_of_length_le (l := l.drop m) (by rw [List.length_drop]; lia)]
    by_cases hm : m ≤ l.length
    · rw [Nat.min_eq_left hm, List.take_of_length_le (by rw [List.length_drop]; lia)]
    · rw [Nat.min_eq_right (by lia), List.drop_of_length_le (Nat.le_refl _), List.drop_of_length_le (by lia), List.take_nil]
theorem cutV_ints (ns : List Int) {a b : Int} (h0 : 0 ≤ a) (h1 : a ≤ b) : cutV (ns.map V.int) (some a) (some b) = ((ns.drop a.toNat).take (b - a).toNat).map V.int := by
  have e : cutV (ns.map V.int) (some a) (some b) = cut (ns.map V.int) (some a) (some b) := rfl
  rw [e, cut_an _ h0 h1, List.map_take, List.map_drop]
end L3
set_option Elab.async false
set_option linter.all false
set_option maxRecDepth 100000
set_option maxHeartbeats 4000000
namespace L3
open PySem PySem.Spec PyProof.Rows L2
open Classical in
section
variable {X : Cx} {pins : List (Addr × Obj)} {σ : L2.St} {H : Hp} {s : Shared}
open Classical in
end
end L3
set_option Elab.async false
set_option linter.all false
set_option maxRecDepth 100000
set_option maxHeartbeats 4000000
namespace L3
open PySem PySem.Spec PyProof.Rows L2
structure DM (P : Program) (w : World) (K : PySem.W.Frag) (mg : Str → Option Value) (base : Heap) (CX : CXT) (k : Nat) (C : Addr) (m : Str) (ps : List Str) (sp : Sp) : Prop where
  ex : ∃ f fd, Meth K C m f ∧ FnOk P w K mg base CX k f fd ps sp ∧ Binds K fd ps []
structure DMk (P : Program) (w : World) (K : PySem.W.Frag) (mg : Str → Option Value) (base : Heap) (CX : CXT) (k : Nat) (C : Addr) (ps : List Str) (sp : Sp) : Prop where
  ex : ∃ f fd, Mk K C f ∧ FnOk P w K mg base CX k f fd ps sp ∧ Binds K fd ps []
section
variable {X : Cx} {k j : Nat} {C : Addr} {m : Str} {ps : List Str} {sp : Sp} {o e : Expr} {es : List Expr} {ta : TE} {t : TA} {apos pos p : Pos} {x : Str} {E : XK}
theorem me0 (D : DM X.prog X.w X.K X.mg X.base CX0 k C m ps sp) (c : Cls X.K C) (hr : Room j X.A) (he : PE X o ta) {pl : Sem Bool} (ht : eval (.Call (.Attribute o m apos) [] [] pos) X.env = (do
      let ov ← eval o X.env
      standAt apos.atName
      let (f, first) ← holding [ov] (getMethod ov m pl)
      callWith pos f first (backTo pos (starEach [] X.env)) (backToKw pos (keywordEach [] X.env))) := by rfl) (hj : k ≤ j := by decide) : PE X (.Call (.Attribute o m apos) [] [] pos) (tMeth C m sp [] E0 ta tNil) := by
  obtain ⟨f, fd, hm, F, hb⟩ := D.ex
  exact pe_meth0 he c hm F (hr.mono hj) hb .nil pass0 ht
theorem me1x (hx : XE X E) (D : DM X.prog X.w X.K X.mg X.base (CXx X.prog X.w) k C m ps sp) (c : Cls X.K C) (hr : Room j X.A) (he : PE X o ta) (ha : PA X (e :: es) t) {pl : Sem Bool}
    (hst : starEach (e :: es) X.env = (false, eval e X.env) :: starEach es X.env := by rfl) (hpl : (backTo pos (starEach es X.env)).any (·.1) = false := by rfl)
    (ht : eval (.Call (.Attribute o m apos) (e :: es) [] pos) X.env = (do
      let ov ← eval o X.env
      standAt apos.atName
      let (f, first) ← holding [ov] (getMethod ov m pl)
      callWith pos f first (backTo pos (starEach (e :: es) X.env)) (backToKw pos (keywordEach [] X.env))) := by rfl) (hj : k ≤ j := by decide) : PE X (.Call (.Attribute o m apos) (e :: es) [] pos) (tMeth C m sp [] E ta t) := by
  obtain ⟨f, fd, hm, F, hb⟩ := D.ex
  exact pe_meth he c hm F (hr.mono hj) hb .nil (passes_x hx) ha hst hpl ht
end
end L3
set_option Elab.async false
set_option linter.all false
set_option maxRecDepth 100000
set_option maxHeartbeats 4000000
namespace L3
open PySem PySem.Spec PyProof.Rows L2
section
variable {X : Cx}
end
section
variable {X : Cx} {k j : Nat} {C : Addr} {m : Str} {ps : List Str} {sp : Sp} {o e : Expr} {es : List Expr} {ta : TE} {t : TA} {apos pos p : Pos}
theorem pex_meth (D : DM X.prog X.w X.K X.mg X.base (CXx X.prog X.w) k C m ps sp) (c : Cls X.K C) (hr : Room j X.A) (he : PE X.nox o ta) (ha : PA X.nox (e :: es) t) {pl : Sem Bool}
    (hst : starEach (e :: es) X.env = (false, eval e X.env) :: starEach es X.env := by rfl) (hpl : (backTo pos (starEach es X.env)).any (·.1) = false := by rfl)
    (ht : eval (.Call (.Attribute o m apos) (e :: es) [] pos) X.env = (do
      let ov ← eval o X.env
      standAt apos.atName
      let (f, first) ← holding [ov] (getMethod ov m pl)
      callWith pos f first (backTo pos (starEach (e :: es) X.env)) (backToKw pos (keywordEach [] X.env))) := by rfl) (hj : k ≤ j := by decide) :
    PEX X (.Call (.Attribute o m apos) (e :: es) [] pos) (fun σ H Q E => ta σ H fun x H1 => ∃ a dx fs, x = .ref a ∧ H1 a = some (.ins C dx fs) ∧ fs.lookup m = none ∧ t σ H1 fun vs H2 => sp (x :: vs) H2 Q E) := by
  obtain ⟨f, fd, hm, F, hb⟩ := D.ex
  intro pins s σ H Q E I h
  refine PySem.W.methodCall_KW (pl := pl) (wpAny_noRaise (thn (he pins s σ H _ (I.wish _) h) fun u s1 ⟨x, H1, I1, rx, a, dx, fs, ex, ea, l, q⟩ => ?_)) ht
  subst ex
  obtain rfl : u = Value.ref a := rx
  have I1' : Inv X pins σ H1 s1 := I1.unwish
  refine getmeth_ok I1' ea c hm l ?_
  refine PySem.W.callWith_K (first := [.ref a]) (h₀ := X.base) I.ok.mod.kin hm.kp (wpAny_noRaise (thn (ha pos pins s1 σ H1 _ (I1'.wish _) q) fun us s2 ⟨vs, H2, I2, r, q2⟩ => ⟨I2.kIn, ?_⟩)) hst hpl
  have I2' : Inv X pins σ H2 s2 := I2.unwish
  have r2 : Vals (V.ref a :: vs) (Value.ref a :: us ++ []) := by rw [List.append_nil]; exact .cons rfl r
  have hl : (Value.ref a :: us ++ ([] : List Value)).length = ps.length := by rw [← r2.length]; exact F.len _ _ _ _ q2
  refine wpAny_call (codeAny_mono (F.run X.A X.stack s2 H2 ⟨.ref a :: us, []⟩ (.ref a :: us ++ []) (.ref a :: vs) Q E (hr.mono hj) I2'.env0 (hb s2 (.ref a :: us) I2'.kIn hl) r2 q2) fun r s' hq => ?_)
  cases r with
  | error e =>
    obtain ⟨x, C, t, dx, tb, H', rfl, os, bare, un, hok, ob, tr, hn, hsz, hT, q⟩ := hq
    exact ⟨.none, false, H', x, C, t, dx, tb, rfl, I2'.call' os un hok bare (fun b z => absurd z (by simp)), ob, tr, I2'.fpOk hsz hn, fun T e => I2'.fpOk (hT T e).2 (hT T e).1, q⟩
  | ok fl =>
    cases fl with
    | ret u => exact I2'.after hq
    | next => exact False.elim hq
    | brk => exact False.elim hq
    | cont => exact False.elim hq
end
end L3
set_option Elab.async false
set_option linter.all false
set_option maxRecDepth 100000
set_option maxHeartbeats 4000000
namespace L3
open PySem PySem.Spec PyProof.Rows L2
def tMethF (Fam : Addr → Prop) (m : Str) (sp : Addr → Sp) (dvs : List V) (E : XK) (ta : TE) (t : TA) : TE := fun σ H Q => ta σ H fun x H1 => ∃ C a dx fs, Fam C ∧ x = .ref a ∧ H1 a = some (.ins C dx fs) ∧ fs.lookup m = none ∧
  t σ H1 fun vs H2 => sp C (x :: (vs ++ dvs)) H2 Q E
section
variable {X : Cx} {k j : Nat} {Fam : Addr → Prop} {m : Str} {ps : List Str} {sp : Addr → Sp} {o e : Expr} {es : List Expr} {ta : TE} {t : TA} {apos pos p : Pos} {x : Str} {E : XK}
end
section
variable {X : Cx}
def rSum (K : PySem.W.Frag) : List V → Hp → VK → Prop := fun xs H Q => ∃ (p : Addr) (ns : List Int), xs = [.ref p] ∧ SqL K H p (ns.map V.int) ∧ Q (.int ns.sum) H
end
end L3
set_option Elab.async false
set_option linter.all false
set_option maxRecDepth 100000
set_option maxHeartbeats 4000000
namespace L3
open PySem PySem.Spec PyProof.Rows L2
def tRev (te ts : TE) : TE := fun σ H Q => te σ H fun x H1 => ts σ H1 fun y H2 => y = .int (-1) ∧ ∃ l : List Nat, x = .str (tx l) ∧ l.length ≤ sizeLine ∧ Q (.str (tx l.reverse)) H2
section
variable {X : Cx} {e st : Expr} {te ts : TE} {pos p2 : Pos}
end
end L3
set_option Elab.async false
set_option linter.all false
set_option maxRecDepth 100000
set_option maxHeartbeats 4000000
namespace L3
open PySem PySem.Spec PyProof.Rows L2
structure ClsM (K : PySem.W.Frag) (C : Addr) (m : Str) (f : Addr) : Prop where
  sg : PySem.W.specialIn K (.ref C) "__getattribute__" = some (some (.builtin "type.__getattribute__"))
  rd : PySem.W.readsIn K C (.type "type") = true
  fc : PySem.W.findCls K (.ref C) (.type "type") m = some (.val (.ref f))
  kp : PySem.W.keepIn K (.ref f) = true
structure DC (P : Program) (w : World) (K : PySem.W.Frag) (mg : Str → Option Value) (base : Heap) (CX : CXT) (k : Nat) (C : Addr) (m : Str) (ps : List Str) (sp : Sp) : Prop where
  ex : ∃ f fd, ClsM K C m f ∧ FnOk P w K mg base CX k f fd ps sp ∧ Binds K fd ps []
section
variable {X : Cx} {k j : Nat} {C : Addr} {m x : Str} {ps : List Str} {sp : Sp} {e : Expr} {es : List Expr} {t : TA} {apos pos p : Pos}
def rIndex : V → List V → Hp → VK → Prop := fun x xs H Q => ∃ (z y : Str) (i : Nat), x = .str z ∧ xs = [.str y] ∧ PySem.Txt.find z y = (i : Int) ∧ Q (.int (i : Nat)) H
end
end L3
set_option Elab.async false
set_option linter.all false
set_option maxRecDepth 100000
set_option maxHeartbeats 4000000
namespace L3
open PySem PySem.Spec PyProof.Rows L2
section
variable {prog : Program} {w : World} {A : Around} {E : Value → Shared → Prop} {s : Shared}
end
end L3
set_option Elab.async false
set_option linter.all false
set_option maxRecDepth 100000
set_option maxHeartbeats 4000000
namespace L3
open PySem PySem.Spec PyProof.Rows L2
section
variable {prog : Program} {w : World} {A : Around} {E : Value → Shared → Prop} {s : Shared}
end
section
variable {prog : Program} {w : World} {A : Around} {E : Value → Shared → Prop} {s : Shared}
end
end L3
set_option Elab.async false
set_option linter.all false
set_option maxRecDepth 100000
set_option maxHeartbeats 4000000
namespace L3
open PySem PySem.Spec PyProof.Rows L2
noncomputable def Izs (K : PySem.W.Frag) (l : List Nat) (b : Addr) : It := ⟨fun i H => ∃ ys y, SqT K H b ys ∧ i < l.length ∧ ys[i]? = some y, fun i H v H' => ∃ p c y, H p = none ∧ l[i]? = some c ∧ (∀ ys, SqT K H b ys → ys[i]? = some y) ∧ v = .ref p ∧ H' = upd H p (.tup [.str (tx [c]), y]), fun i H => i = l.length⟩
section
variable {X : Cx}
def iZs (K : PySem.W.Frag) (ta : TA) : TI := fun σ H R => ta σ H fun vs H1 => ∃ l b, vs = [.str (tx l), .ref b] ∧ (∃ ys, SqT K H1 b ys) ∧ R (Izs K l b) H1
end
def CompZ (K : PySem.W.Frag) (l : List Nat) (b : Addr) (g : TG) (tt : TT) (te : TE) (own : Nat) (ix : List Nat) (σ : L2.St) (H1 : Hp) (Q : VK) (D : Addr) : Prop := CompG (Izs K l b) g tt te own ix σ H1 Q D
theorem rd_cz {K : PySem.W.Frag} {ta : TA} {g : TG} {tt : TT} {te : TE} {own : Nat} {ix : List Nat} {σ : L2.St} {H : Hp} {Q : VK} : tComp (iZs K ta) g tt te own ix σ H Q = ta σ H fun vs H1 => ∃ l b, vs = [.str (tx l), .ref b] ∧ (∃ ys, SqT K H1 b ys) ∧ ∀ D, H1 D = none → CompZ K l b g tt te own ix σ H1 Q D := rfl
section
variable {g : TG} {tt : TT} {te : TE} {own : Nat} {ix : List Nat} {σ : L2.St} {H1 : Hp} {Q : VK} {D : Addr}
end
end L3
set_option Elab.async false
set_option linter.all false
set_option maxRecDepth 100000
set_option maxHeartbeats 4000000
namespace L3
open PySem PySem.Spec PyProof.Rows L2
section
variable {X : Cx} {k1 k2 k3 j : Nat} {C1 C2 C3 : Addr} {m : Str} {ps : List Str} {s1 s2 s3 : Sp} {o e : Expr} {es : List Expr} {ta : TE} {t : TA} {apos pos p : Pos} {E : XK}
def tAlt (t1 t2 : TE) : TE := fun σ H Q => t1 σ H Q ∨ t2 σ H Q
end
end L3
set_option Elab.async false
set_option linter.all false
set_option maxRecDepth 100000
set_option maxHeartbeats 4000000
namespace L3
open PySem PySem.Spec PyProof.Rows L2
section
variable {X : Cx}
end
end L3
set_option Elab.async false
set_option linter.all false
set_option maxRecDepth 100000
set_option maxHeartbeats 4000000
namespace L3
open PySem PySem.Spec PyProof.Rows L2
section
variable {X : Cx}
end
end L3
set_option Elab.async false
set_option linter.all false
set_option maxRecDepth 100000
set_option maxHeartbeats 4000000
namespace L3
open PySem PySem.Spec PyProof.Rows L2 PySem.W PySem.Calls
def Lt20 (n : Int) : Prop := Builtin.Int.intBits n ≤ 1048576
theorem bits_w : ∀ (ns : List Int), WData.weightAll (ns.map WData.int) ≤ 1048576 → ∀ n ∈ ns, Lt20 n
  | [], _, n, h => nomatch h
  | m :: ns, hw, n, h => by
    rw [List.map_cons, WData.weightAll] at hw
    rcases aa.mp h with rfl | h
    · have e : WData.weight (.int n) = Builtin.Int.intBits n := by
        rw [WData.weight]
        rfl
      unfold Lt20
      lia
    · exact bits_w ns (by lia) n h
section
variable {X : Cx}
end
theorem attach_callB {l : OpenLaw} {n : Nat} {q : Program} {loose : List Str} {XP : (Str → Option Value) → Heap → Prop} {YP : World → Heap → Prop} {d : DefRec}
    (hn : l.most = some n) (hdf : d.params.defaults = [])
    (call : ∀ (w : World) (s₀ s₁ : Shared) (mg mb : Str → Option Value) (fa : Addr) (o : Obj) (pm cd doc : Value) (a : Addr) (vs : List Value) (ns : List Int),
      Ground q loose [] XP w s₀ mg mb s₁.heap → YP w s₁.heap →
      s₁.heap.get? fa = some o → o.data = .func (docDef d.name d.params d.body d.scope pm cd doc) → s₁.heap.CodeRec cd d.name → mg d.name = some (.ref fa) →
      s₁.heap.get? a = some { cls := .type "list", data := .seq vs.toArray } → IntsAre vs ns → ns.length ≤ n → (∀ z ∈ ns, Lt20 z) → s₁.gens = #[] →
      codeAny (model l.prog w) callerA (.call (.ref fa) ⟨[.ref a], []⟩) (fun r s' => r = .ok (.ret (.bool true)) ∧ OldK s₁.heap s'.heap ∧ s'.os = s₁.os ∧ AllBare s'.gens) s₁) :
    WalkO q loose XP YP l.row.toRowW d [] (fun f vs => PySem.call f vs) := by
  intro w s₀ s₁ mg mb G Y fa o pm cd doc dV kV ho hd hcd hD hmg hg args vals as hpre hlay hrd hwl hlo
  obtain rfl : dV = .none := Dflts.none hD hdf
  obtain rfl : kV = .none := Dflts.noKw hD
  obtain ⟨a, vs, ns, rfl, rfl, hobj, hints, hlen⟩ := Att.script_of hn hpre hwl
  have hb : ∀ z ∈ ns, Lt20 z := by
    refine bits_w ns ?_
    have h1 : WData.layable (WData.list (ns.map WData.int)) = true := by
      have := hlay
      unfold WData.layableAll at this
      simpa using this
    unfold WData.layable at h1
    simp only [Bool.and_eq_true, decide_eq_true_eq] at h1
    have h2 := h1.2
    rw [WData.weight] at h2
    exact h2
  refine enter_call (codeAny_mono (call w s₀ s₁ mg mb fa o pm cd doc a vs ns G Y ho (fd_plain hd) hcd hmg hobj hints hlen hb hg) fun r s' hq => ?_)
  obtain ⟨rfl, h2, h3, h4⟩ := hq
  exact ⟨.inl ⟨.bool true, .bool true, [], rfl, fun _ => rfl, .bool true, Att.post_true l _, fun _ => ⟨List.Pairwise.nil, fun _ hm => (nomatch hm)⟩⟩, h2, h3, h4⟩
theorem walk_ofB {l : PySem.W.OpenLaw} {n k : Nat} {q : Program} {loose : List Str} {XP : (Str → Option Value) → Heap → Prop} {YP : World → Heap → Prop} {d : DefRec} {K : Params → PySem.W.Frag} {CX : World → CXT} {sp : World → Sp} {x : Str}
    (hn : l.most = some n) (hn2 : n ≤ sizeLine) (hdf : d.params.defaults = []) (hr : Room k callerA)
    (hY : ∀ (w : World) (h : Heap), YP w h → (K w.params).In h)
    (F : ∀ (w : World) (mg : Str → Option Value) (fa : Addr) (h : Heap), (K w.params).In h → h.Ns mainGlobals mg → mg d.name = some (.ref fa) →
      ∃ fd : FuncData, (∀ (s : Shared) (u : Value), BindsTo s fd ⟨[u], []⟩ [(x, u)]) ∧
        ∀ base : Heap, (K w.params).In base → base.Ns mainGlobals mg → FnOk l.prog w (K w.params) mg base (CX w) k fa fd [x] (sp w))
    (hsp : ∀ (w : World) (H : Hp) (a : Addr) (ns : List Int), ns.length ≤ n → (∀ z ∈ ns, Lt20 z) → SqL (K w.params) H a (ns.map V.int) → sp w [.ref a] H (fun v _ => v = .bl true) fun _ _ _ => False)
    (hCX : ∀ (w : World) (H : Hp) (s : Shared) (e : Value) (s' : Shared), CX w [] H s (fun _ _ _ => False) e s' → False) :
    PySem.W.WalkO q loose XP YP l.row.toRowW d [] (fun f vs => PySem.call f vs) := by
  refine attach_callB hn hdf fun w s₀ s₁ mg mb fa o pm cd doc a vs ns G Y ho hd hcd hmg hobj hints hlen hb' hg => ?_
  have KX := hY w _ Y
  obtain ⟨fd, hb, hF⟩ := F w mg fa _ KX G.T.g hmg
  exact law_call KX G.T.g G.T.b G.T.builtins G.T.nolimit hg hobj hints (Nat.le_trans hlen hn2) hr hF hb (fun H hO hS => hsp w H a ns hlen hb' hS) fun H e s' => hCX w H s₁ e s'
end L3
set_option Elab.async false
set_option linter.all false
set_option maxRecDepth 100000
set_option maxHeartbeats 4000000
namespace L3
open PySem PySem.Spec PyProof.Rows L2
section
variable {X : Cx} {k j : Nat} {C : Addr} {x f' : Str} {ps : List Str} {sp : Sp} {e : Expr} {es : List Expr} {t : TA} {te : TX} {pos p : Pos}
end
section
variable {X : Cx} {k j : Nat} {C : Addr} {m x : Str} {ps : List Str} {sp : Sp} {e : Expr} {es : List Expr} {t : TA} {apos pos p : Pos} {E : XK}
theorem pe_clsmX (hx : XE X E) (D : DC X.prog X.w X.K X.mg X.base (CXx X.prog X.w) k C m ps sp) (hr : Room j X.A) (hg : Gl X x) (hm : X.mg x = some (.ref C)) (ha : PA X (e :: es) t) {pl : Sem Bool} (hdb : (x == ("__debug__" : Str)) = false := by decide)
    (hst : starEach (e :: es) X.env = (false, eval e X.env) :: starEach es X.env := by rfl) (hpl : (backTo pos (starEach es X.env)).any (·.1) = false := by rfl)
    (ht : eval (.Call (.Attribute (.Name x p) m apos) (e :: es) [] pos) X.env = (do
      let ov ← eval (.Name x p) X.env
      standAt apos.atName
      let (f, first) ← holding [ov] (getMethod ov m pl)
      callWith pos f first (backTo pos (starEach (e :: es) X.env)) (backToKw pos (keywordEach [] X.env))) := by rfl) (hj : k ≤ j := by decide) : PE X (.Call (.Attribute (.Name x p) m apos) (e :: es) [] pos) (tCall sp [] E t) := by
  obtain ⟨f, fd, cm, F, hb⟩ := D.ex
  have hn : PE X (.Name x p) (tC (.ref C)) := pe_glob hg hm rfl hdb
  intro pins s σ H Q I h
  refine PySem.W.methodCall_KW (pl := pl) (thn (hn pins s σ H (fun y H1 => y = .ref C ∧ H1 = H) I ⟨rfl, rfl⟩) fun u s1 ⟨y, H1, I1, ry, ey, eH⟩ => ?_) ht
  subst ey eH
  obtain rfl : u = Value.ref C := ry
  refine PySem.W.method_cls I1.kIn cm.sg (PySem.W.cls_value I1.kIn cm.rd cm.fc rfl ?_)
  refine PySem.W.callWith_K (first := []) (h₀ := X.base) I.ok.mod.kin cm.kp (thn (ha pos pins _ σ H1 _ (I1.tok _) h) fun us s2 ⟨vs, H2, I2, r, q2⟩ => ⟨I2.kIn, ?_⟩) hst hpl
  exact run_fn (us := us) (vs := vs) F (hr.mono hj) hb .nil (passes_x hx) I2 r q2
end
end L3
set_option Elab.async false
set_option linter.all false
set_option maxRecDepth 100000
set_option maxHeartbeats 4000000
namespace L3
open PySem PySem.Spec PyProof.Rows L2
section
variable {prog : Program} {w : World} {A : Around} {E : Value → Shared → Prop} {s : Shared} {env : Env}
end
end L3
set_option Elab.async false
set_option linter.all false
set_option maxRecDepth 100000
set_option maxHeartbeats 4000000
namespace L3
open PySem PySem.Spec PyProof.Rows L2
theorem XEg.xe {X : Cx} {E : XK} (h : XEg X E) : XE X E := fun e s ⟨pins, σ, H, x, C, t, dx, tb, q⟩ => h e s ⟨.none, false, pins, σ, H, x, C, t, dx, tb, q⟩
section
variable {X : Cx} {k : Nat} {ps : List Str} {sp : Sp} {ds : List Value} {dvs : List V} {E : XK} {x : Str} {p pos : Pos} {e : Expr} {es : List Expr} {t : TA}
end
section
variable {X : Cx} {o e : Expr} {to : TE} {te : TX} {name : Str} {apos cpos : Pos} {T id : String} {r : V → List V → Hp → VK → Prop}
end
section
variable {X : Cx}
end
section
variable {X : Cx} {k j : Nat} {C : Addr} {ps : List Str} {sp : Sp} {e : Expr} {es : List Expr} {t : TA} {pos p : Pos} {x : Str}
end
end L3
set_option Elab.async false
set_option linter.all false
set_option maxRecDepth 100000
set_option maxHeartbeats 4000000
namespace L3
open PySem PySem.Spec PyProof.Rows L2
theorem at_l (l p : List Nat) (hi i : Nat) : StrLaws.At (tx l) (tx p) hi i ↔ i + p.length ≤ hi ∧ (l.drop i).take p.length = p := by
  unfold StrLaws.At Builtin.Str.subAt
  rw [len_tx, beq_iff_eq]
  have e1 : ((tx l).cps.extract i (i + p.length)).toList = (l.drop i).take p.length := by
    show (l.toArray.extract i (i + p.length)).toList = _
    simp [List.extract_eq_drop_take]
  have e2 : ((tx l).cps.extract i (i + p.length) = (tx p).cps) ↔ (l.drop i).take p.length = p := by
    constructor
    · intro h
      rw [← e1, h]
    · intro h
      apply Array.toList_inj.mp
      rw [e1, h]
  rw [e2]
end L3
set_option linter.unusedVariables false
namespace L3
open PySem PySem.Spec PyProof.Rows L2
section
variable {X : Cx}
end
end L3
set_option Elab.async false
set_option linter.all false
set_option maxRecDepth 100000
set_option maxHeartbeats 4000000
namespace L3
open PySem PySem.Spec PyProof.Rows L2
section
variable {prog : Program} {w : World} {A : Around} {R : Result → Shared → Prop} {I l S : Addr}
end
section
variable {X : Cx} {id : String} {x : Str} {e : Expr} {es : List Expr} {kws : List Keyword} {ks : List Str} {p pos : Pos} {t tk : TA}
end
end L3
set_option Elab.async false
set_option linter.all false
set_option maxRecDepth 100000
set_option maxHeartbeats 4000000
namespace L3
open PySem PySem.Spec PyProof.Rows L2
section
variable {prog : Program} {w : World} {A : Around} {R : Result → Shared → Prop} {I l S : Addr}
end
section
variable {X : Cx}
end
end L3
set_option Elab.async false
set_option linter.all false
set_option maxRecDepth 100000
set_option maxHeartbeats 4000000
namespace L3
open PySem PySem.Spec PyProof.Rows L2
section
variable {prog : Program} {w : World} {A : Around} {R : Result → Shared → Prop} {I S : Addr} {fp wr : List Addr} {P : Nat → Value → Prop} {St : Nat → Heap → Prop}
end
section
variable {X : Cx}
end
end L3
set_option Elab.async false
set_option linter.all false
set_option maxRecDepth 100000
set_option maxHeartbeats 4000000
namespace L3
open PySem PySem.Spec PyProof.Rows L2
section
variable {X : Cx} {k j : Nat} {C : Addr} {m : Str} {ps : List Str} {sp : Sp} {o e : Expr} {es : List Expr} {ta : TE} {t : TA} {apos pos p : Pos} {x : Str} {E : XK}
theorem me0x (hx : XE X E) (D : DM X.prog X.w X.K X.mg X.base (CXx X.prog X.w) k C m ps sp) (c : Cls X.K C) (hr : Room j X.A) (he : PE X o ta) {pl : Sem Bool} (ht : eval (.Call (.Attribute o m apos) [] [] pos) X.env = (do
      let ov ← eval o X.env
      standAt apos.atName
      let (f, first) ← holding [ov] (getMethod ov m pl)
      callWith pos f first (backTo pos (starEach [] X.env)) (backToKw pos (keywordEach [] X.env))) := by rfl) (hj : k ≤ j := by decide) : PE X (.Call (.Attribute o m apos) [] [] pos) (tMeth C m sp [] E ta tNil) := by
  obtain ⟨f, fd, hm, F, hb⟩ := D.ex
  exact pe_meth0 he c hm F (hr.mono hj) hb .nil (passes_x hx) ht
end
noncomputable def preB (p l : List Nat) : Bool := decide (l.take p.length = p)
def rStarts : V → List V → Hp → VK → Prop := fun x xs H Q => ∃ l p : List Nat, x = .str (tx l) ∧ xs = [.str (tx p)] ∧ Q (.bl (preB p l)) H
theorem starts_l (l p : List Nat) : Txt.startswith (tx l) (tx p) = preB p l := by
  unfold Txt.startswith preB
  have h := at_l l p (tx l).length 0
  unfold StrLaws.At at h
  rw [len_tx, Nat.zero_add, List.drop_zero] at h
  rw [Nat.zero_add, len_tx, len_tx] at *
  by_cases h1 : l.take p.length = p
  · have hl : p.length ≤ l.length := by
      have := congrArg List.length h1
      rw [List.length_take] at this
      lia
    have := h.mpr ⟨hl, h1⟩
    rw [decide_eq_true h1, decide_eq_true hl, Bool.true_and]
    exact this.2
  · rw [decide_eq_false h1]
    refine ao.mpr fun z => ?_
    rw [Bool.and_eq_true, decide_eq_true_eq] at z
    exact h1 (h.mp z).2
theorem m_starts {X : Cx} : MtR X "str.startswith" rStarts := by
  intro pins s σ H x xs v us Q I rx rv h
  obtain ⟨l, p, rfl, rfl, q⟩ := h
  obtain ⟨t, rfl⟩ := rx
  obtain ⟨u, rfl, t', rfl⟩ := vals1 rv
  refine PySem.SC.startswith ⟨.bl _, H, I, rfl, ?_⟩
  rw [starts_l]
  exact q
end L3
set_option Elab.async false
set_option linter.all false
set_option maxRecDepth 100000
set_option maxHeartbeats 4000000
namespace L3
open PySem PySem.Spec PyProof.Rows L2
def PaAt (y l : List Nat) (e : Nat) : Prop := e + y.length ≤ l.length ∧ (l.drop e).take y.length = y
instance (y l : List Nat) (e : Nat) : Decidable (PaAt y l e) := by unfold PaAt; infer_instance
noncomputable def parts (y l : List Nat) : Option (List Nat × List Nat) := ((List.range (l.length + 1)).find? fun e => decide (PaAt y l e)).map fun e => (l.take e, l.drop (e + y.length))
def rPart : V → List V → Hp → VK → Prop := fun x xs H Q => ∃ l y : List Nat, x = .str (tx l) ∧ xs = [.str (tx y)] ∧ y ≠ [] ∧ l.length ≤ 100000 ∧ ∀ p, H p = none → Q (.ref p) (upd H p (.tup (match parts y l with
  | none => [.str (tx l), .str (tx []), .str (tx [])]
  | some (a, b) => [.str (tx a), .str (tx y), .str (tx b)])))
theorem pa_at (l y : List Nat) (e : Nat) : StrLaws.At (tx l) (tx y) (tx l).length e ↔ PaAt y l e := by
  have h := at_l l y (tx l).length e
  rw [len_tx] at h ⊢
  exact h
theorem parts_none {l y : List Nat} (h : ∀ i, ¬ PaAt y l i) : parts y l = none := by
  unfold parts
  rw [List.find?_eq_none.mpr fun e _ => by simpa using h e]
  rfl
theorem parts_some {l y : List Nat} {i : Nat} (h : PaAt y l i) (hn : ∀ k < i, ¬ PaAt y l k) : parts y l = some (l.take i, l.drop (i + y.length)) := by
  unfold parts
  have hi : i < l.length + 1 := by have := h.1; lia
  have e : (List.range (l.length + 1)).find? (fun e => decide (PaAt y l e)) = some i := by
    rw [List.find?_range_eq_some]
    exact ⟨by simpa using h, by simpa using hi, fun j hj => by simpa using hn j hj⟩
  rw [e]
  rfl
theorem sub_tx (l : List Nat) (i j : Nat) : Builtin.Str.strSub (tx l) i j = tx ((l.take j).drop i) := by
  unfold Builtin.Str.strSub
  apply congrArg Str.mk
  show l.toArray.extract i j = ((l.take j).drop i).toArray
  apply Array.toList_inj.mp
  simp [List.extract_eq_drop_take, List.drop_take]
theorem m_part {X : Cx} : MtR X "str.partition" rPart := by
  intro pins s σ H x xs v us Q I rx rv h
  obtain ⟨l, y, rfl, rfl, hy0, hl, q⟩ := h
  obtain ⟨t, rfl⟩ := rx
  obtain ⟨u, rfl, t', rfl⟩ := vals1 rv
  have s16 : (sizeLine : Nat) = 16777216 := sizeLine_eq
  have hy : ((tx y).length == 0) = false := by
    rw [len_tx]
    cases y with
    | nil => exact absurd rfl hy0
    | cons a y => rfl
  have hz1 : (tx l).length ≤ sizeLine := by rw [len_tx]; lia
  refine call_meets F.slot_str_partition (typeIs_str _ _ _) F.entry_str_partition (F.args_str_partition_2 _ _) (meets_str_partition (tx l) (tx y) t t' hy hz1) ?_
  have hf : H s.heap.objs.size = none := I.hok.fresh (Nat.le_refl _)
  have fin : ∀ (a b c : Str) (k1 k2 k3 : Tok) (k : Nat), upd H s.heap.objs.size (.tup (match parts y l with | none => [.str (tx l), .str (tx []), .str (tx [])] | some (a, b) => [.str (tx a), .str (tx y), .str (tx b)])) = upd H s.heap.objs.size (.tup [.str a, .str b, .str c]) → EP X pins σ Q (.ref s.heap.objs.size) { s with heap := s.heap.push { cls := .type "tuple", data := .seq #[.str a k1, .str b k2, .str c k3] }, toks := k } := fun a b c k1 k2 k3 k e => by
    have q' := q _ hf
    rw [e] at q'
    refine ⟨.ref s.heap.objs.size, _, I.laid (t' := k) (fun b u e => Heap.get?_push_of_some _ e) (Nat.le_refl _) ?_, rfl, q'⟩
    exact ⟨by show 3 ≤ _; lia, [.str a k1, .str b k2, .str c k3], .cons ⟨_, rfl⟩ (.cons ⟨_, rfl⟩ (.cons ⟨_, rfl⟩ .nil)), ⟨_, Heap.get?_push_size _ rfl, rfl, _, rfl⟩⟩
  have hp := partition_whole (tx l) (tx y)
  unfold Txt.partition at hp
  cases ho : Builtin.Str.occurrences (tx l) (tx y) 0 (tx l).length 1 with
  | nil =>
    rw [ho] at hp
    rcases hp with ⟨_, hn⟩ | ⟨i, e, hA, hn⟩
    · refine fin (tx l) Str.empty Str.empty _ _ _ _ ?_
      rw [parts_none fun i hi => hn i ((pa_at l y i).mpr hi)]
      rfl
    · have e2 : Str.empty = tx y := congrArg (fun z : Str × Str × Str => z.2.1) e
      rw [← e2] at hy
      cases hy
  | cons i r =>
    rw [ho] at hp
    rcases hp with ⟨e, _⟩ | ⟨j, e, hA, hn⟩
    · have e2 : tx y = Str.empty := congrArg (fun z : Str × Str × Str => z.2.1) e
      rw [e2] at hy
      cases hy
    · refine fin (Builtin.Str.strSub (tx l) 0 i) (tx y) (Builtin.Str.strSub (tx l) (i + (tx y).length) (tx l).length) _ _ _ _ ?_
      have e1 : Builtin.Str.strSub (tx l) 0 i = Builtin.Str.strSub (tx l) 0 j := congrArg (fun z : Str × Str × Str => z.1) e
      have e3 : Builtin.Str.strSub (tx l) (i + (tx y).length) (tx l).length = Builtin.Str.strSub (tx l) (j + (tx y).length) (tx l).length := congrArg (fun z : Str × Str × Str => z.2.2) e
      rw [parts_some ((pa_at l y j).mp hA) fun k hk hi => hn k hk ((pa_at l y k).mpr hi), e1, e3, sub_tx, sub_tx, len_tx, len_tx, List.drop_zero, List.take_length]
end L3
set_option Elab.async false
set_option linter.all false
set_option maxRecDepth 100000
set_option maxHeartbeats 4000000
namespace L3
open PySem PySem.Spec PyProof.Rows L2
end L3
set_option Elab.async false
set_option linter.all false
set_option maxRecDepth 100000
set_option maxHeartbeats 4000000
namespace L3
open PySem PySem.Spec PyProof.Rows L2
section
variable {X : Cx}
theorem handle_okN {cn : Str} {np hpos : Pos} {b0 : Stmt} {suite : List Stmt} {hs : List ExceptHandler} {D : Addr} {th : TS} (hg : Gl X cn) (hm : X.mg cn = some (.ref D)) (hdb : (cn == ("__debug__" : Str)) = false) (xc : xcIn X.K D = true) (hsu : ∀ e, PSs (Cx.suite X e) (b0 :: suite) th)
    {pins : List (Addr × Obj)} {s : Shared} {σ : St} {H : Hp} {Dd : Ends} {x C T : Addr} {dx : Option Addr} (I : Inv X pins σ H s) (hob : ∃ t cx kx, s.heap.get? x = some (xog C dx t (.ref T) cx kx)) (hoT : ∃ oT ts, s.heap.get? T = some oT ∧ oT.data = .fields ts ∧ 3 < ts.size) (fT : FpOk X pins H T)
    (hb : PySem.W.subIn X.K (.ref C) (.ref D) = some true) (q : th Dd σ H) : wpAny (model X.prog X.w) X.A (handleBy (.ref x) X.env (.ExceptHandler (some (.Name cn np)) none (b0 :: suite) hpos :: hs)) (SP X pins Dd) X.xe s := by
  obtain ⟨t, cx, kx, ob⟩ := hob
  obtain ⟨oT, ts, eT, dT, zT⟩ := hoT
  have I' := Inv.suite I (.ref x)
  refine wpAny_handleBy_cons (codeAny_handlers_test (ld_glob (X := Cx.suite X (.ref x)) I' hg hm (xmatch I.kIn xc ob hb ?_) hdb)) (by intro q; cases q)
  refine codeAny_handlers_suite ?_
  unfold setFlight
  refine wpAny_bind (wpAny_field ob rfl (x := .ref T) rfl ?_)
  rw [if_pos (show (Value.ref T != Value.none) = true from by simp)]
  refine wpAny_setField eT dT zT ?_
  obtain ⟨f0, f1, f2, f3, f4, f5⟩ := fT
  have I2 : Inv X pins σ H { s with heap := s.heap.update T (Obj.mapFields (·.setIfInBounds 3 ((none : Option Addr).elim Value.none fun f => rawInt f))) } :=
    I.turned (t' := s.toks) (fun b o hb e => (Heap.get?_update_other _ _ (Ne.symm hb)).trans e) f0 f1 f3 f4 f5
  refine wpAny_noRaise (thn (hsu _ pins _ σ H _ (Inv.suite I2 (.ref x)) q) fun fl s4 q4 => ?_)
  cases fl with
  | next =>
    obtain ⟨σ4, H4, I4, n4⟩ := q4
    exact ⟨_, _, Inv.unsuite I I4, n4⟩
  | brk =>
    obtain ⟨σ4, H4, I4, n4⟩ := q4
    exact ⟨_, _, Inv.unsuite I I4, n4⟩
  | cont =>
    obtain ⟨σ4, H4, I4, n4⟩ := q4
    exact ⟨_, _, Inv.unsuite I I4, n4⟩
  | ret v =>
    obtain ⟨y, σ4, H4, I4, r4, n4⟩ := q4
    exact ⟨y, _, _, Inv.unsuite I I4, r4, n4⟩
end
end L3
set_option Elab.async false
set_option linter.all false
set_option maxRecDepth 100000
set_option maxHeartbeats 4000000
namespace L3
open PySem PySem.Spec PyProof.Rows L2
section
variable {X : Cx}
end
end L3
set_option Elab.async false
set_option linter.all false
set_option maxRecDepth 100000
set_option maxHeartbeats 4000000
namespace L3
open PySem PySem.Spec PyProof.Rows L2
section
variable {X : Cx}
end
end L3
set_option Elab.async false
set_option linter.all false
set_option maxRecDepth 100000
set_option maxHeartbeats 4000000
namespace L3
open PySem PySem.Spec PyProof.Rows L2
structure HdM where
  D : Addr
  i : Option Nat
  ts : TS
noncomputable def gone1 (i : Nat) (Dd : Ends) : Ends := { Dd with nx := fun σ' H' => Dd.nx (σ'.set i none) H', bk := fun σ' H' => Dd.bk (σ'.set i none) H', ct := fun σ' H' => Dd.ct (σ'.set i none) H' }
def tHsM (K : PySem.W.Frag) (C x : Addr) (Dd : Ends) (σ : St) (H : Hp) : List HdM → Prop
  | [] => False
  | ⟨D, none, ts⟩ :: r => ∃ b, PySem.W.subIn K (.ref C) (.ref D) = some b ∧ if b = true then ts Dd σ H else tHsM K C x Dd σ H r
  | ⟨D, some i, ts⟩ :: r => ∃ b, PySem.W.subIn K (.ref C) (.ref D) = some b ∧ if b = true then ts (gone1 i Dd) (σ.set i (some (.ref x))) H else tHsM K C x Dd σ H r
structure HdMOk (X : Cx) (h : ExceptHandler) (d : HdM) : Prop where
  ex : ∃ (cn : Str) (n : Option Str) (np pos : Pos) (b0 : Stmt) (suite : List Stmt), h = .ExceptHandler (some (.Name cn np)) n (b0 :: suite) pos ∧ Gl X cn ∧ X.mg cn = some (.ref d.D) ∧ (n = none ∧ d.i = none ∨ ∃ n' i, n = some n' ∧ d.i = some i ∧ X.N[i]? = some n' ∧ X.env.scope.names.lookup n' = some .local) ∧ (cn == ("__debug__" : Str)) = false ∧
    (∀ e, PSs (Cx.suite X e) (b0 :: suite) d.ts)
  xc : xcIn X.K d.D = true
inductive HdsMOk (X : Cx) : List ExceptHandler → List HdM → Prop
  | nil {hs} : HdsMOk X hs []
  | cons {h d hs ds} : HdMOk X h d → HdsMOk X hs ds → HdsMOk X (h :: hs) (d :: ds)
section
variable {X : Cx}
theorem handle_okM (hN : X.N.Nodup) : ∀ {hs : List ExceptHandler} {ds : List HdM}, HdsMOk X hs ds → ∀ {pins : List (Addr × Obj)} {s : Shared} {σ : St} {H : Hp} {Dd : Ends} {x C T : Addr} {dx : Option Addr}, Inv X pins σ H s → H x = some (XT x C dx) →
    (∃ t cx kx, s.heap.get? x = some (xog C dx t (.ref T) cx kx)) → (∃ oT ts, s.heap.get? T = some oT ∧ oT.data = .fields ts ∧ 3 < ts.size) → FpOk X pins H T → tHsM X.K C x Dd σ H ds →
    wpAny (model X.prog X.w) X.A (handleBy (.ref x) X.env hs) (SP X pins Dd) X.xe s
  | _, _, .nil, _, _, _, _, _, _, _, _, _, _, _, _, _, _, h => h.elim
  | _, _, .cons (d := ⟨D, oi, ts'⟩) h1 h2, pins, s, σ, H, Dd, x, C, T, dx, I, hx, ⟨t, cx, kx, ob⟩, ⟨oT, ts, eT, dT, zT⟩, fT, h => by
    obtain ⟨⟨cn, n, np, pos, b0, suite, rfl, hg, hm, hn, hdb, hsu⟩, xc⟩ := h1
    have I' := Inv.suite I (.ref x)
    rcases hn with ⟨rfl, rfl⟩ | ⟨n', i, rfl, rfl, hi, hk⟩
    · obtain ⟨b, hb, q⟩ := h
      cases b with
      | true =>
        rw [if_pos rfl] at q
        exact handle_okN hg hm hdb xc hsu I ⟨t, cx, kx, ob⟩ ⟨oT, ts, eT, dT, zT⟩ fT hb q
      | false =>
        rw [if_neg Bool.false_ne_true] at q
        refine wpAny_handleBy_cons (codeAny_handlers_test (ld_glob (X := Cx.suite X (.ref x)) I' hg hm (xmatch I.kIn xc ob hb ?_) hdb)) (by intro q; cases q)
        exact handle_okM hN h2 I hx ⟨t, cx, kx, ob⟩ ⟨oT, ts, eT, dT, zT⟩ fT q
    · obtain ⟨b, hb, q⟩ := h
      refine wpAny_handleBy_cons (codeAny_handlers_test (ld_glob (X := Cx.suite X (.ref x)) I' hg hm (xmatch I.kIn xc ob hb ?_) hdb)) (by intro q; cases q)
      cases b with
      | false =>
        rw [if_neg Bool.false_ne_true] at q
        exact handle_okM hN h2 I hx ⟨t, cx, kx, ob⟩ ⟨oT, ts, eT, dT, zT⟩ fT q
      | true =>
        rw [if_pos rfl] at q
        refine codeAny_handlers_suite_as ?_
        unfold setFlight
        refine wpAny_bind (wpAny_field ob rfl (x := .ref T) rfl ?_)
        rw [if_pos (show (Value.ref T != Value.none) = true from by simp)]
        refine wpAny_setField eT dT zT ?_
        obtain ⟨f0, f1, f2, f3, f4, f5⟩ := fT
        have I2 : Inv X pins σ H { s with heap := s.heap.update T (Obj.mapFields (·.setIfInBounds 3 ((none : Option Addr).elim Value.none fun f => rawInt f))) } :=
          I.turned (t' := s.toks) (fun b o hb e => (Heap.get?_update_other _ _ (Ne.symm hb)).trans e) f0 f1 f3 f4 f5
        refine store_ok (X := Cx.suite X (.ref x)) (v := .ref x) (Inv.suite I2 (.ref x)) hN hi (.inl hk) rfl (fun s3 I3 => ?_) (.inr hk)
        refine wpAny_noRaise (thn (hsu _ pins s3 _ H _ I3 q) fun fl s4 q4 => ?_)
        cases fl with
        | next =>
          obtain ⟨σ4, H4, I4, n4⟩ := q4
          exact name_gone (Inv.unsuite I I4) hN hi hk fun s5 I5 => ⟨_, _, I5, n4⟩
        | brk =>
          obtain ⟨σ4, H4, I4, n4⟩ := q4
          exact name_gone (Inv.unsuite I I4) hN hi hk fun s5 I5 => ⟨_, _, I5, n4⟩
        | cont =>
          obtain ⟨σ4, H4, I4, n4⟩ := q4
          exact name_gone (Inv.unsuite I I4) hN hi hk fun s5 I5 => ⟨_, _, I5, n4⟩
        | ret v =>
          obtain ⟨y, σ4, H4, I4, r4, n4⟩ := q4
          exact name_gone (Inv.unsuite I I4) hN hi hk fun s5 I5 => ⟨y, _, _, I5, r4, n4⟩
def tTryM (K : PySem.W.Frag) (i : Nat) (te : TX) (hds : List HdM) : TS := fun D σ H => te σ H (fun v H1 => D.nx (σ.set i (some v)) H1) fun cls dx H1 => ∃ C, cls = .ref C ∧ ∀ x, H1 x = none → tHsM K C x D σ (upd H1 x (XT x C dx)) hds
theorem ps_tryM {i : Nat} {y : Str} {yp apos pos : Pos} {e : Expr} {te : TX} {h : ExceptHandler} {hs : List ExceptHandler} {hds : List HdM} (hN : X.N.Nodup) (hy : X.N[i]? = some y) (hly : Loc X.env.scope y) (hf : X.fn y = true ∨ X.env.scope.names.lookup y = some .local)
    (hst : X.stack = X.env :: X.outer ∧ X.env.frame = some X.env.locals) (he : PEX X e te) (hh : HdsMOk X (h :: hs) hds) (hsw : swapsWith e (some (.Name y yp)) apos.line X.env = pure false := by rfl) :
    PS X (.Try [.Assign [.Name y yp] e apos] (h :: hs) [] [] pos) (tTryM X.K i te hds) := by
  intro pins s σ H D I hq
  refine wpAny_Try_except (wpAny_execs_cons (wpAny_Assign_Name (wpAny_mono (he pins s σ H _ _ I hq) (fun v s1 ⟨z, H1, I1, r1, q1⟩ => ?_) fun e s1 fl => ?_) hsw))
  · exact store_ok I1 hN hy hly r1 (fun s2 I2 => wpAny_execs_nil (wpAny_execs_nil ⟨_, H1, I2, q1⟩)) hf
  · obtain ⟨cx, kx, H1, x, C, t, dx, tb, rfl, I1, ob, tr, fx, fT, C', ec, q1⟩ := fl
    cases ec
    have fr : X.A.frames = some (X.env :: X.outer) := by rw [← hst.1]; exact I1.ok.frames
    have ff : s1.heap.FunFrames X.base (X.env :: X.outer) := by rw [← hst.1]; exact I1.stack
    refine settle_x fr ff hst.2 hst.2 ob tr fun h' T oT ts e1 nT oldT e2 d2 z2 k1 k2 => ?_
    have fT' : FpOk X pins H1 T := by
      rcases oldT with z | z
      · exact fT T z
      · exact I1.fpOk z (I1.hok.fresh z)
    have tbs : ∀ b, tb = .ref b → H1 b = none := fun b hb => (fT b hb).1
    have nch : ∀ b o, s1.heap.get? b = some o → b ∉ (x :: T :: tbL tb) → b ≠ x ∧ tb ≠ .ref b := fun b o _ hb => by
      refine ⟨fun z => hb (by simp [z]), fun z => hb ?_⟩
      rw [z]
      simp [tbL]
    have un : Un (frs X.stack) (x :: T :: tbL tb) H1 H1 s1.heap h' := by
      rw [hst.1]
      refine ⟨fun b o e n hb hc => ?_, fun b o e n hb hc => ?_, fun b o e n _ => n, fun b o e hc => ?_, fun b xs e => e, fun b o u e => e, fun b ps e => ⟨#[], by rw [e]; simp⟩⟩
      · obtain ⟨a1, a2⟩ := nch b o e hc
        exact k1 b o a1 a2 hb e
      · obtain ⟨a1, a2⟩ := nch b o e hc
        exact k2 b o a1 a2 e
      · obtain ⟨a1, a2⟩ := nch b o e hc
        obtain ⟨sl, q⟩ := k2 b o a1 a2 e
        exact ⟨_, q⟩
    have hok : HOk X.prog X.w H1 h' := fun b u e => by
      refine (I1.hok b u e).stay (fun c v hc q => k1 c v ?_ ?_ ?_ q) (fun _ q => q) fun _ _ q => q
      · rintro rfl
        rcases hc with rfl | hc
        · rw [fx.1] at e; cases e
        · rw [fx.1] at hc; cases hc
      · intro z
        have := tbs c z
        rcases hc with rfl | hc
        · rw [this] at e; cases e
        · rw [this] at hc; cases hc
      · intro z
        rw [← hst.1] at z
        have := I1.stkFree c z
        rcases hc with rfl | hc
        · rw [this] at e; cases e
        · rw [this] at hc; cases hc
    have I2 : Inv X pins σ H1 { s1 with heap := h' } := I1.call' (s' := { s1 with heap := h' }) rfl un hok I1.bare fun b hb => by
      have fb : FpOk X pins H1 b := by
        rcases aa.mp hb with z | z
        · rw [z]; exact fx
        · rcases aa.mp z with z | z
          · rw [z]; exact fT'
          · cases tb with
            | ref b' =>
              have : b = b' := by simpa [tbL] using z
              rw [this]; exact fT b' rfl
            | _ => simp [tbL] at z
      obtain ⟨_, a1, _, a3, a4, a5⟩ := fb
      exact ⟨a3, a1, a4, a5⟩
    have I3 : Inv X pins σ (upd H1 x (XT x C dx)) { s1 with heap := h' } := Inv.track I2 fx (xt_ok e1)
    exact handle_okM hN hh I3 upd_same ⟨t, _, _, e1⟩ ⟨oT, ts, e2, d2, z2⟩ ⟨by rw [upd_ne nT]; exact fT'.1, fT'.2⟩ (q1 x fx.1)
end
theorem hm_cons {X : Cx} {cn n : Str} {np pos : Pos} {b0 : Stmt} {suite : List Stmt} {hs : List ExceptHandler} {ds : List HdM} {D : Addr} {ts : TS} (i : Nat) (hsu : ∀ e, PSs (Cx.suite X e) (b0 :: suite) ts) (hg : Gl X cn) (hm : X.mg cn = some (.ref D)) (hi : X.N[i]? = some n) (hk : X.env.scope.names.lookup n = some .local) (xc : xcIn X.K D = true) (r : HdsMOk X hs ds)
    (hdb : (cn == ("__debug__" : Str)) = false := by decide) : HdsMOk X (.ExceptHandler (some (.Name cn np)) (some n) (b0 :: suite) pos :: hs) (⟨D, some i, ts⟩ :: ds) :=
  .cons ⟨⟨cn, some n, np, pos, b0, suite, rfl, hg, hm, .inr ⟨n, i, rfl, rfl, hi, hk⟩, hdb, hsu⟩, xc⟩ r
theorem hm_none {X : Cx} {cn : Str} {np pos : Pos} {b0 : Stmt} {suite : List Stmt} {hs : List ExceptHandler} {ds : List HdM} {D : Addr} {ts : TS} (hsu : ∀ e, PSs (Cx.suite X e) (b0 :: suite) ts) (hg : Gl X cn) (hm : X.mg cn = some (.ref D)) (xc : xcIn X.K D = true) (r : HdsMOk X hs ds)
    (hdb : (cn == ("__debug__" : Str)) = false := by decide) : HdsMOk X (.ExceptHandler (some (.Name cn np)) none (b0 :: suite) pos :: hs) (⟨D, none, ts⟩ :: ds) :=
  .cons ⟨⟨cn, none, np, pos, b0, suite, rfl, hg, hm, .inl ⟨rfl, rfl⟩, hdb, hsu⟩, xc⟩ r
end L3
set_option Elab.async false
set_option linter.all false
set_option maxRecDepth 100000
set_option maxHeartbeats 4000000
namespace L3
open PySem PySem.Spec PyProof.Rows L2
section
variable {X : Cx}
end
end L3
set_option Elab.async false
set_option linter.all false
set_option maxRecDepth 100000
set_option maxHeartbeats 4000000
namespace L3
open PySem PySem.Spec PyProof.Rows L2
section
variable {g : TG} {tt : TT} {te : TE} {own : Nat} {ix : List Nat} {σ : L2.St} {H1 : Hp} {Q : VK} {D : Addr}
end
end L3
set_option Elab.async false
set_option linter.all false
set_option maxRecDepth 100000
set_option maxHeartbeats 4000000
namespace L3
open PySem PySem.Spec PyProof.Rows L2
section
variable {X : Cx}
end
end L3
set_option Elab.async false
set_option linter.all false
set_option maxRecDepth 100000
set_option maxHeartbeats 4000000
namespace L3
open PySem PySem.W PyProof.Rows
noncomputable def kRun (lt : Nat → Nat → Bool) {α : Type} : KasT α → α
  | .ret a => a
  | .ask i j k => kRun lt (k (lt i j))
def Kok (lt : Nat → Nat → Bool) (n : Nat) {α : Type} : KasT α → (α → Prop) → Prop
  | .ret a, Q => Q a
  | .ask i j k, Q => i < n ∧ j < n ∧ Kok lt n (k (lt i j)) Q
section
variable {lt : Nat → Nat → Bool} {n : Nat} {α β : Type}
theorem Kok.bind {f : α → KasT β} {Q : β → Prop} : ∀ (t : KasT α), Kok lt n t (fun a => Kok lt n (f a) Q) → Kok lt n (t.bind f) Q
  | .ret _, h => h
  | .ask _ _ k, h => ⟨h.1, h.2.1, Kok.bind (k _) h.2.2⟩
theorem Kok.run {Q : α → Prop} : ∀ (t : KasT α), Kok lt n t Q → Q (kRun lt t)
  | .ret _, h => h
  | .ask _ _ k, h => Kok.run (k _) h.2.2
end
section
variable {lt : Nat → Nat → Bool} {n : Nat}
noncomputable abbrev pg (p : Array Nat) (i : Nat) : Nat := p.getD i 0
def Rg (n : Nat) (p : Array Nat) : Prop := p.toList.Perm (List.range n)
theorem Rg.size {p : Array Nat} (h : Rg n p) : p.size = n := by have := h.length_eq; simpa using this
theorem Rg.rev {p : Array Nat} (h : Rg n p) (i j : Nat) : Rg n (kas_rev p i j) := (Array.perm_iff_toList_perm.mp (mirror_perm p i j _)).trans h
end
end L3
set_option Elab.async false
set_option linter.all false
set_option maxRecDepth 100000
set_option maxHeartbeats 4000000
namespace L3
open PySem PySem.Spec PyProof.Rows L2
section
variable {X : Cx} {pins : List (Addr × Obj)} {σ : L2.St} {H : Hp} {s : Shared}
end
end L3
set_option Elab.async false
set_option linter.all false
set_option maxRecDepth 100000
set_option maxHeartbeats 4000000
namespace L3
open PySem PySem.Spec PyProof.Rows L2
section
variable {X : Cx} {pins : List (Addr × Obj)} {σ : L2.St} {H : Hp} {s : Shared}
end
end L3
set_option Elab.async false
set_option linter.all false
set_option maxRecDepth 100000
set_option maxHeartbeats 4000000
namespace L3
open PySem PySem.Spec PyProof.Rows L2
section
variable {X : Cx} {pins : List (Addr × Obj)} {σ : L2.St} {H : Hp} {s : Shared}
end
end L3
set_option Elab.async false
set_option linter.all false
set_option maxRecDepth 100000
set_option maxHeartbeats 4000000
namespace L3
open PySem PySem.Spec PyProof.Rows L2
section
variable {X : Cx} {pins : List (Addr × Obj)} {σ : L2.St} {H : Hp} {s : Shared} {p y name qual : Str} {scope : Scope} {params : Arguments} {body : Expr} {f c' c : Addr} {pm ctv cv : Value} {k iy : Nat} {vy x : V} {u : Value} {Q : VK} {t : TE}
end
end L3
set_option Elab.async false
set_option linter.all false
set_option maxRecDepth 100000
set_option maxHeartbeats 4000000
namespace L3
open PySem PySem.Spec PyProof.Rows L2
noncomputable def cdE (c' : Addr) (q : Str) : HO := .ext fun h => h.CodeRec (.ref c') q
noncomputable def fnE (f : Addr) (o : Obj) : HO := .ext fun h => h.get? f = some o
theorem cdE_ok {P : Program} {w : World} {H : Hp} {h : Heap} {c' : Addr} {q : Str} (x : h.CodeRec (.ref c') q) : ObjOk P w H h c' (cdE c' q) := by
  refine ⟨x, ?_, fun h1 h2 a k => ?_⟩
  · obtain ⟨c, o, vs, t, e, g, _⟩ := x
    cases e
    exact ⟨o, g⟩
  · obtain ⟨c, o, vs, t, e, g, r⟩ := a
    cases e
    exact ⟨_, o, vs, t, rfl, k o g, r⟩
theorem fnE_ok {P : Program} {w : World} {H : Hp} {h : Heap} {f : Addr} {o : Obj} (x : h.get? f = some o) : ObjOk P w H h f (fnE f o) :=
  ⟨x, ⟨o, x⟩, fun h1 h2 a k => k o a⟩
section
variable {X : Cx} {pins : List (Addr × Obj)} {σ : L2.St} {H : Hp} {s : Shared}
theorem Inv.grow {P c' f : Addr} {ps more : Array Value} {o : Obj} {q : Str} {h' : Heap} {tk : Nat} (I : Inv X pins σ H s) (hP : H P = some (.tbl ps)) (hk : ∀ b u, b ≠ P → s.heap.get? b = some u → h'.get? b = some u) (hP' : h'.get? P = some { cls := .none, data := .fields (ps ++ more) })
    (hc : s.heap.objs.size ≤ c') (hf : s.heap.objs.size ≤ f) (hcf : c' ≠ f) (hcr : h'.CodeRec (.ref c') q) (hfo : h'.get? f = some o) :
    Inv X pins σ (upd (upd (upd H P (.tbl (ps ++ more))) c' (cdE c' q)) f (fnE f o)) { s with heap := h', toks := tk } := by
  have Pl : P < s.heap.objs.size := I.hok.lt hP
  have hPc : P ≠ c' := Nat.ne_of_lt (Nat.lt_of_lt_of_le Pl hc)
  have hPf : P ≠ f := Nat.ne_of_lt (Nat.lt_of_lt_of_le Pl hf)
  have old : ∀ b, b < s.heap.objs.size → b ≠ P → (upd (upd (upd H P (.tbl (ps ++ more))) c' (cdE c' q)) f (fnE f o)) b = H b := fun b hb hbP => by
    rw [upd_ne (Nat.ne_of_lt (Nat.lt_of_lt_of_le hb hf)), upd_ne (Nat.ne_of_lt (Nat.lt_of_lt_of_le hb hc)), upd_ne hbP]
  have atP : (upd (upd (upd H P (.tbl (ps ++ more))) c' (cdE c' q)) f (fnE f o)) P = some (.tbl (ps ++ more)) := by
    rw [upd_ne hPf, upd_ne hPc, upd_same]
  have neP : ∀ b, H b = none → b ≠ P := fun b e z => by rw [z, hP] at e; cases e
  refine I.un ⟨fun b u e n _ _ => hk b u (neP b n) e, fun b u e n _ _ => ⟨u.slots, hk b u (neP b n) e⟩, fun b u e n _ => ?_, fun b u e _ => ?_, fun b xs e => ?_, fun b ob u e => ?_, fun b qs e => ?_⟩ fun b u e => ?_
  · rw [old b (Heap.lt_size e) (neP b n)]
    exact n
  · by_cases hb : b = P
    · subst hb; exact ⟨_, hP'⟩
    · exact ⟨u, hk b u hb e⟩
  · rw [old b (I.hok.lt e) (fun z => by rw [z, hP] at e; cases e)]
    exact e
  · rw [old b (I.hok.lt e) (fun z => by rw [z, hP] at e; cases e)]
    exact e
  · by_cases hb : b = P
    · subst hb
      rw [hP] at e
      cases e
      exact ⟨more, atP⟩
    · rw [old b (I.hok.lt e) hb]
      exact ⟨#[], by rw [e]; simp⟩
  · by_cases hbf : b = f
    · subst hbf
      rw [upd_same] at e
      cases e
      exact fnE_ok hfo
    · rw [upd_ne hbf] at e
      by_cases hbc : b = c'
      · subst hbc
        rw [upd_same] at e
        cases e
        exact cdE_ok hcr
      · rw [upd_ne hbc] at e
        by_cases hbP : b = P
        · subst hbP
          rw [upd_same] at e
          cases e
          exact hP'
        · rw [upd_ne hbP] at e
          refine (I.hok b u e).stay (fun d v hd g => hk d v ?_ g) (fun d g => ?_) fun d xs g => ?_
          · rcases hd with z | z
            · rw [z]; exact hbP
            · intro z'; rw [z', hP] at z; cases z
          · rw [old d (I.hok.lt g) (fun z => by rw [z, hP] at g; cases g)]
            exact g
          · rw [old d (I.hok.lt g) (fun z => by rw [z, hP] at g; cases g)]
            exact g
end
end L3
set_option Elab.async false
set_option linter.all false
set_option maxRecDepth 100000
set_option maxHeartbeats 4000000
namespace L3
open PySem PySem.Spec PyProof.Rows L2
section
variable {X : Cx} {pins : List (Addr × Obj)} {σ : L2.St} {H : Hp} {s : Shared} {cc P c : Addr} {y : Str} {params : Arguments} {body : Expr} {scope : Scope} {pos : Pos} {Q : VK}
end
end L3
set_option Elab.async false
set_option linter.all false
set_option maxRecDepth 100000
set_option maxHeartbeats 4000000
namespace L3
open PySem PySem.Spec PyProof.Rows L2
section
variable {X : Cx} {cc P c : Addr} {x p y : Str} {params : Arguments} {body e : Expr} {scope : Scope} {lpos kpos pos pp : Pos} {k iy : Nat} {te tb : TE}
end
end L3
set_option Elab.async false
set_option linter.all false
set_option maxRecDepth 100000
set_option maxHeartbeats 4000000
namespace L3
open PySem PySem.Spec PyProof.Rows L2
section
variable {K : PySem.W.Frag}
end
end L3
set_option Elab.async false
set_option linter.all false
set_option maxRecDepth 100000
set_option maxHeartbeats 4000000
namespace L3
open PySem PySem.Spec PyProof.Rows L2
section
variable {P : Program} {w : World} {K : PySem.W.Frag} {mg mb : Str → Option Value} {CX : CXT} {k : Nat} {fa a T cc : Addr} {fd : FuncData} {x : Str} {sp : Sp} {s₁ : Shared} {vs : List Value} {ns : List Int} {ps : Array Value}
end
end L3
set_option Elab.async false
set_option linter.all false
set_option maxRecDepth 100000
set_option maxHeartbeats 4000000
namespace PySem
namespace F
end F
section
variable {prog : Program} {w : World} {A : Around} {E : Value → Shared → Prop} {s : Shared}
def Heap.IsRevS (h : Heap) (a : Addr) (x : Str) (t : Tok) (i : Int) : Prop := ∃ o, h.get? a = some o ∧ o.cls = .type "reversed" ∧ o.data = .fields #[.str x t, rawInt i]
theorem Heap.IsRevS.typeIs {a : Addr} {x : Str} {t : Tok} {i : Int} (z : s.heap.IsRevS a x t i) : s.TypeIs (.ref a) "reversed" := let ⟨o, ho, hc, _⟩ := z; ⟨o, ho, hc⟩
theorem Heap.IsRevS.at {h h' : Heap} {a : Addr} {x : Str} {t : Tok} {i : Int} (z : h.IsRevS a x t i) (e : ∀ o, h.get? a = some o → h'.get? a = some o) : h'.IsRevS a x t i := let ⟨o, ho, r⟩ := z; ⟨o, e _ ho, r⟩
end
section
variable {prog : Program} {w : World} {A : Around} {E : Value → Shared → Prop} {s : Shared}
end
end PySem
namespace L3
open PySem PySem.Spec PyProof.Rows L2
section
variable {X : Cx} {o a : Expr} {to : TE} {ta : TA} {apos cpos p pos2 : Pos}
end
end L3
set_option Elab.async false
set_option linter.all false
namespace L2
open PySem PySem.Spec PyProof.Rows
section
variable {X : Cx} {tg : Expr}
end
end L2
namespace L3
open PySem L2
section
variable {g : TG} {tt : TT} {te : TE} {own : Nat} {ix : List Nat} {σ : L2.St} {H1 : Hp} {Q : VK} {D : Addr}
end
end L3
set_option Elab.async false
set_option linter.all false
set_option maxRecDepth 100000
set_option maxHeartbeats 4000000
namespace L3
open PySem PySem.Spec PyProof.Rows L2
open AutoSeq1 (wpAny_loadPart')
open MeetsSeq MeetsSeq2 MeetsSeq3 SeqRoads2 SeqAt
def LeAt (A : Around) (s : Shared) (y x : Value) (b : Bool) : Prop :=
  ∀ (prog : Program) (w : World) (E : Value → Shared → Prop) (Q : Value → Shared → Prop), Q (.bool b) s → wpAny (model prog w) A (richCompare .LtE y x) Q E s
def StepsLe (e t r : Nat → Bool) (m n : Nat) : Prop := ∀ i, i ≤ m → i ≤ n → r i = if i < m ∧ i < n then (if e i = true then r (i + 1) else t i) else decide (m ≤ n)
theorem le_loopAt (l b : Addr) (items items2 : Array Value) (n n2 : Nat) (dd dd2 : Option Addr) (sl sl2 : Array (Option Value)) (e t r : Nat → Bool) (hr : StepsLe e t r items.size items2.size) (k : Nat) :
    ∀ i : Nat, i ≤ items.size → i ≤ items2.size → items.size - i = k → Meets (Builtin.«list.__eq__.loop» ⟨[.ref l, .ref b, rawInt i, rawInt 1], []⟩)
      (fun A R s => s.heap.get? l = some { cls := .type "list", dict := dd, data := .seq items n, slots := sl } ∧ s.heap.get? b = some { cls := .type "list", dict := dd2, data := .seq items2 n2, slots := sl2 } ∧
        (∀ j (h1 : j < items.size) (h2 : j < items2.size), EqAt A.in1 s items[j] items2[j] (e j)) ∧ (∀ j (h1 : j < items.size) (h2 : j < items2.size), e j = false → LeAt A.in1 s items[j] items2[j] (t j)) ∧
        R (.ok (.ret (.bool (r i)))) s) := by
  induction k with
  | zero =>
    intro i b1 b2 hk prog w A R s h
    obtain ⟨hp, g, d, tk, os⟩ := s; obtain ⟨hl, hb, he, ht, h⟩ := h
    have hri := hr i b1 b2
    rw [if_neg (by lia)] at hri
    rw [hri] at h
    wp_walk using wpAny_loadPart' hl, wpAny_loadPart' hb
    have hi1 : items[((i : Nat) : Int).toNat]? = none := by simp; lia
    rw [hi1]
    wp_walk using wpAny_loadPart' hl, wpAny_loadPart' hb
    exact h
  | succ k ih =>
    intro i b1 b2 hk prog w A R s h
    obtain ⟨hp, g, d, tk, os⟩ := s; obtain ⟨hl, hb, he, ht, h⟩ := h
    have hlt : i < items.size := by lia
    have hi1 : items[((i : Nat) : Int).toNat]? = some items[i] := by simp [hlt]
    have hc : ((i : Int) + 1) = ((i + 1 : Nat) : Int) := by push_cast; rfl
    have hri := hr i b1 b2
    by_cases hlt2 : i < items2.size
    · rw [if_pos ⟨hlt, hlt2⟩] at hri
      rw [hri] at h
      have hi2 : items2[((i : Nat) : Int).toNat]? = some items2[i] := by simp [hlt2]
      wp_walk using wpAny_loadPart' hl, wpAny_loadPart' hb
      rw [hi1, hi2]
      refine wpAny_bind (he i hlt hlt2 prog w _ _ ?_)
      cases hb' : e i with
      | true =>
        rw [hb', if_pos rfl] at h
        wp_walk
        rw [hc]
        exact ⟨plainId_quiet plain_eq_loop _, codeAny_builtin entry_eq_loop (by
          rw [Around.under_plainId plain_eq_loop _]
          exact ih (i + 1) (by lia) (by lia) (by lia) prog w A R _ ⟨hl, hb, he, ht, h⟩)⟩
      | false =>
        rw [hb', if_neg Bool.false_ne_true] at h
        wp_walk using wpAny_loadPart' hl, wpAny_loadPart' hb
        rw [hi1, hi2]
        refine wpAny_bind (ht i hlt hlt2 hb' prog w _ _ ?_)
        wp_walk
        exact h
    · rw [if_neg (by lia)] at hri
      rw [hri] at h
      have hi2 : items2[((i : Nat) : Int).toNat]? = none := by simp; lia
      wp_walk using wpAny_loadPart' hl, wpAny_loadPart' hb
      rw [hi1, hi2]
      wp_walk using wpAny_loadPart' hl, wpAny_loadPart' hb
      exact h
theorem list_leAt (l b : Addr) (items items2 : Array Value) (n n2 : Nat) (dd dd2 : Option Addr) (sl sl2 : Array (Option Value)) (e t r : Nat → Bool) (hr : StepsLe e t r items.size items2.size) :
    Meets (Builtin.«list.__le__» ⟨[.ref l, .ref b], []⟩)
      (fun A R s => s.heap.get? l = some { cls := .type "list", dict := dd, data := .seq items n, slots := sl } ∧ s.heap.get? b = some { cls := .type "list", dict := dd2, data := .seq items2 n2, slots := sl2 } ∧
        (∀ j (h1 : j < items.size) (h2 : j < items2.size), EqAt A.in1 s items[j] items2[j] (e j)) ∧ (∀ j (h1 : j < items.size) (h2 : j < items2.size), e j = false → LeAt A.in1 s items[j] items2[j] (t j)) ∧
        R (.ok (.ret (.bool (r 0)))) s) := by
  intro prog w A R s h
  obtain ⟨hp, g, d, tk, os⟩ := s; obtain ⟨hl, hb, he, ht, h⟩ := h
  have f3 := AutoSeq1.sub_list_list
  wp_walk using wpAny_loadPart' hl, wpAny_loadPart' hb
  exact ⟨plainId_quiet plain_eq_loop _, codeAny_builtin entry_eq_loop (by
    rw [Around.under_plainId plain_eq_loop _]
    exact le_loopAt l b items items2 n n2 dd dd2 sl sl2 e t r hr _ 0 (Nat.zero_le _) (Nat.zero_le _) rfl prog w A R _ ⟨hl, hb, he, ht, h⟩)⟩
theorem LeAt.lists {A : Around} {s : Shared} {l b : Addr} {items items2 : Array Value} {e t r : Nat → Bool} (hl : s.heap.IsList l items) (hb : s.heap.IsList b items2) (hr : StepsLe e t r items.size items2.size) (hu : A.units < cLine)
    (he : ∀ j (h1 : j < items.size) (h2 : j < items2.size), EqAt A.in1 s items[j] items2[j] (e j)) (ht : ∀ j (h1 : j < items.size) (h2 : j < items2.size), e j = false → LeAt A.in1 s items[j] items2[j] (t j)) : LeAt A s (.ref l) (.ref b) (r 0) := fun prog w E Q h => by
  obtain ⟨⟨cls, dd, data, sl⟩, ho, hc, n, hd⟩ := id hl
  obtain ⟨⟨cls2, dd2, data2, sl2⟩, ho2, hc2, n2, hd2⟩ := id hb
  simp only at hc hd hc2 hd2
  subst hc hd hc2 hd2
  exact richCompare_meets_room (op := .LtE) ⟨_, ho, rfl⟩ ⟨_, ho2, rfl⟩ F.slot_list_le F.entry_list_le (F.args_list_le_2 _ _) (list_leAt l b items items2 n n2 dd dd2 sl sl2 e t r hr)
    ⟨ho, ho2, he, ht, show Value.bool (r 0) ≠ Value.notImplemented ∧ Q (.bool (r 0)) s from ⟨(fun x => nomatch x), h⟩⟩ hu
section
variable {X : Cx} {pins : List (Addr × Obj)} {σ : St} {H : Hp} {s : Shared}
end
end L3
set_option Elab.async false
set_option linter.all false
set_option maxRecDepth 100000
set_option maxHeartbeats 4000000
namespace L3
open PySem PySem.Spec PyProof.Rows L2
noncomputable def stepS (σ : List Str) (v : Str) : List Str := if σ.any (· == v) = true then σ else σ ++ [v]
noncomputable def metS (val : Nat → Str) (i : Nat) : List Str := ((List.range i).map val).foldl stepS []
theorem metS_succ (val : Nat → Str) (i : Nat) : metS val (i + 1) = stepS (metS val i) (val i) := by
  unfold metS; rw [List.range_succ, List.map_append, List.foldl_append]; rfl
theorem stepS_any (σ : List Str) (v k : Str) : (stepS σ v).any (· == k) = (σ.any (· == k) || decide (k = v)) := by
  unfold stepS
  by_cases h : σ.any (· == v) = true
  · rw [if_pos h]
    by_cases e : k = v
    · subst e; rw [h]; simp
    · simp [e]
  · rw [if_neg h, List.any_append]
    by_cases e : k = v
    · subst e; simp
    · have hb : (v == k) = false := by simpa [beq_iff_eq] using (fun h' : v = k => e h'.symm)
      simp [hb, e]
theorem stepS_length (σ : List Str) (v : Str) : (stepS σ v).length = if σ.any (· == v) then σ.length else σ.length + 1 := by
  unfold stepS; split <;> simp
theorem metS_length_le (val : Nat → Str) : ∀ i, (metS val i).length ≤ i
  | 0 => Nat.le_refl _
  | i + 1 => by
    rw [metS_succ, stepS_length]
    have ih := metS_length_le val i
    split <;> lia
section
variable {prog : Program} {w : World} {A : Around} {R : Result → Shared → Prop} {I : Addr} {fp wr : List Addr} {G : Array GenState → Array GenState → Prop} {n : Nat} {P : Nat → Value → Prop} {St : Nat → Shared → Prop}
theorem set_loopS (W : WalksS prog w A.in1 I fp wr G n P St) (S : Addr) (hSf : S ∉ fp)
    (val : Nat → Str) (hval : ∀ i v, P i v → ∃ t, v = .str (val i) t) (hb : n + 1 < scanBound) :
    ∀ (k i : Nat) (s : Shared), n - i = k → i ≤ n → St i s →
      s.heap.SetOf (PySem.strKind prog w) S (fun k' => (metS val i).any (· == k')) (metS val i).length →
      (∀ s', Moved (S :: wr) G s s' → s'.heap.SetOf (PySem.strKind prog w) S (fun k' => (metS val n).any (· == k')) (metS val n).length → R (.ok (.ret .none)) s') →
      codeAny (model prog w) A (.builtin "set.update.loop" ⟨[.ref S, .ref I], []⟩) R s := by
  have hSw : S ∉ wr := fun h => hSf (W.sub _ h)
  have hsub : ∀ b ∈ wr, b ∈ S :: wr := fun b hb => List.mem_cons_of_mem _ hb
  intro k
  induction k with
  | zero =>
    intro i s hk hi hst hS hR
    have hin : i = n := by lia
    subst hin
    refine codeAny_builtin PyProof.Rows.F.entry_set_update_loop ?_
    rw [Around.under_plainId PyProof.Rows.F.plain_set_update_loop _]
    show wpAny _ A.in1 (pyNext (.ref I) >>= _) _ _ s
    refine wpAny_bind (W.done s _ _ hst fun s' hm => ?_)
    show wpAny _ A.in1 (ret Value.none) _ _ s'
    exact wpAny_pure (hR s' (hm.mono hsub) (by
      obtain ⟨o, es, ep, t, ho, rest⟩ := hS
      exact ⟨o, es, ep, t, hm.heap S _ hSw ho, rest⟩))
  | succ k ih =>
    intro i s hk hi hst hS hR
    have hlt : i < n := by lia
    refine codeAny_builtin PyProof.Rows.F.entry_set_update_loop ?_
    rw [Around.under_plainId PyProof.Rows.F.plain_set_update_loop _]
    show wpAny _ A.in1 (pyNext (.ref I) >>= _) _ _ s
    refine wpAny_bind (W.item i s _ _ hlt hst fun v s' hP hst' hm => ?_)
    obtain ⟨t, rfl⟩ := hval i v hP
    have hS' : s'.heap.SetOf (PySem.strKind prog w) S (fun k' => (metS val i).any (· == k')) (metS val i).length := by
      obtain ⟨o, es, ep, tb, ho, rest⟩ := hS
      exact ⟨o, es, ep, tb, hm.heap S _ hSw ho, rest⟩
    show wpAny _ A.in1 (holding [Value.str (val i) t] (setAdd S (.str (val i) t)) >>= _) _ _ s'
    refine wpAny_bind (wpAny_holding ?_)
    unfold setAdd
    refine wpAny_holding ?_
    refine wpAny_bind ((PySem.strKind prog w).pyHash (k := val i) (strKind_is _ _ _ _) ?_)
    have hroom : (metS val i).length + 1 < scanBound := by have := metS_length_le val i; lia
    refine wpAny_setAddHashed_of (knd := PySem.strKind prog w) (s := { s' with toks := s'.toks + 1 }) (strKind_is _ _ _ _) rfl hS' hroom fun h' hsb hS2 => ?_
    have hSi : h'.SetOf (PySem.strKind prog w) S (fun k' => (metS val (i + 1)).any (· == k')) (metS val (i + 1)).length :=
      PyProof.Rows.SetOf_congr hS2 (fun k' => by rw [metS_succ, stepS_any]) (by rw [metS_succ, stepS_length])
    refine wpAny_pure ⟨plainId_quiet PyProof.Rows.F.plain_set_update_loop _, ih (i + 1) _ (by lia) hlt (W.frame _ s' _ _ hst' (Nat.le_succ _) fun b hb o e => ?_) hSi fun s'' hm'' hS'' => ?_⟩
    · rw [hsb.2 b (fun h : b = S => hSf (by rw [← h]; exact hb))]; exact e
    · refine hR s'' (Moved.trans W.gtrans ((hm.mono hsub).then_heap (Nat.le_succ _) fun b o hb e => ?_) hm'') hS''
      rw [hsb.2 b (fun h : b = S => hb (by rw [h]; exact List.mem_cons_self))]; exact e
end
theorem sub_str_set : isSubtype (.type "str") (.type "set") = pure false := by rw [isSubtype_type]; kernel_rfl
theorem sub_str_frozenset : isSubtype (.type "str") (.type "frozenset") = pure false := by rw [isSubtype_type]; kernel_rfl
section
variable {prog : Program} {w : World} {A : Around} {E : Value → Shared → Prop} {s : Shared}
theorem call_set_str {x : Str} {t : Tok} {Q : Value → Shared → Prop} (val : Nat → Str) (hv : ∀ i c, x.cps[i]? = some c → val i = ⟨#[c]⟩)
    (hh : A.handled = none) (hb : x.cps.size + 1 < scanBound)
    (h : ∀ (h' : Heap) (tk : Nat), h'.SetOf (PySem.strKind prog w) s.heap.objs.size (fun k' => (metS val x.cps.size).any (· == k')) (metS val x.cps.size).length →
      (∀ b o, b < s.heap.objs.size → s.heap.get? b = some o → h'.get? b = some o) → Q (.ref s.heap.objs.size) { s with heap := h', toks := tk }) :
    wpAny (model prog w) A (call (.type "set") [.str x t]) Q E s := by
  obtain ⟨c, tl, hmro⟩ := F.called_set.mro
  have hmade := F.called_set.made
  have hsub := F.called_set.sub
  refine wpAny_call (codeAny_of_tree ?_)
  show wpAny _ _ (callAny (.type "set") _) _ _ _
  refine wpAny_pure ⟨Code.quiet_builtin _ (by symm), codeAny_builtin F.entry_type_call ?_⟩
  rw [Around.under_plain (weight_type_call_type "set" [.str x t] []) rfl]
  have h1 := F.called_set.notType
  have h2 := F.called_set.canCreate
  have hct := F.typeCall_set_1 (.str x t)
  repeat (any_goals (first | assumption | wp_step))
  refine codeAny_mono (code_set_new_1 (.str x t) (E := E) (Q₁ := fun obj s₁ => ∃ led : Bool, obj = .ref s.heap.objs.size ∧ s₁ = { s with heap := s.heap.push { cls := .type "set", dict := none, data := .set #[] 0 (.fresh 0 0 led) } }) fun led => ⟨led, rfl, rfl⟩) fun r s₁ hr => ?_
  cases r with
  | error e => exact hr
  | ok fl =>
    cases fl with
    | ret obj =>
      obtain ⟨led, rfl, rfl⟩ := hr
      have hS : (s.heap.push { cls := .type "set", dict := none, data := .set #[] 0 (.fresh 0 0 led) }).get? s.heap.objs.size = some { cls := .type "set", dict := none, data := .set #[] 0 (.fresh 0 0 led) } := Heap.get?_push_size _ rfl
      have hT : Shared.TypeIs { s with heap := s.heap.push { cls := .type "set", dict := none, data := .set #[] 0 (.fresh 0 0 led) } } (.ref s.heap.objs.size) "set" := ⟨_, hS, rfl⟩
      have hli := F.called_set.init.lookup
      have hbi := F.called_set.init.bind (.ref s.heap.objs.size)
      repeat (any_goals (first | assumption | wp_step))
      refine codeAny_mono (codeAny_call_builtin (R := wants (fun r s₂ => r = .none ∧ ∃ h' tk, s₂ = { s with heap := h', toks := tk } ∧
          h'.SetOf (PySem.strKind prog w) s.heap.objs.size (fun k' => (metS val x.cps.size).any (· == k')) (metS val x.cps.size).length ∧
          (∀ b o, b < s.heap.objs.size → s.heap.get? b = some o → h'.get? b = some o)) E) F.called_set.init.plain F.entry_set_init (check_set_init_1 hT ?_)) fun r₂ s₂ hr₂ => ?_
      · have hsls := sub_str_set
        have hslf := sub_str_frozenset
        have hne : (Value.type "str" == Value.type "dict") = false := by decide
        unfold Builtin.«set.__init__» noKeywords Builtin.Frozenset.updateFrom
        generalize hPI : pyIter = PI
        wp_walk
        subst hPI
        refine PySem.wpAny_pyIter_str fun o St W hst => ?_
        refine wpAny_bind (wpAny_runValue ?_)
        have hh3 : A.in1.in1.in1.handled = none := by simp [hh]
        have hSf : s.heap.objs.size ∉ [(s.heap.push { cls := .type "set", dict := none, data := .set #[] 0 (.fresh 0 0 led) }).objs.size] := by
          rw [Heap.size_push]; simp only [List.mem_cons, List.not_mem_nil, or_false]
          exact Nat.ne_of_lt (Nat.lt_succ_self _)
        have hval : ∀ (i : Nat) (v : Value), SignAt x i v → ∃ t, v = .str (val i) t := fun i v hq => by
          obtain ⟨c, u, hc, e⟩ := hq
          exact ⟨u, by rw [e, hv i c hc]⟩
        refine set_loopS ((W _ hh3).toS) s.heap.objs.size hSf val hval hb (x.cps.size - 0) 0 _ (by lia) (Nat.zero_le _) hst ?hS0 ?hR
        case hS0 =>
          have hget : ((s.heap.push { cls := .type "set", dict := none, data := .set #[] 0 (.fresh 0 0 led) }).push o).get? s.heap.objs.size
              = some { cls := .type "set", dict := none, data := .set #[] 0 (.fresh 0 0 led) } := Heap.get?_push_of_some _ hS
          exact PyProof.Rows.SetOf_congr ((PyProof.Rows.setObjOf_fresh (knd := PySem.strKind prog w) led).setOf hget (by unfold scanBound; lia)) (fun _ => rfl) rfl
        case hR =>
          intro s' hm hS'
          obtain ⟨h', g', d', tk', os'⟩ := s'
          have eg : g' = s.gens := hm.gens
          have ed : d' = s.drawn := hm.drawn
          have eo : os' = s.os := hm.os
          subst eg; subst ed; subst eo
          show wpAny _ _ _ _ _ _
          refine wpAny_pure ?_
          show wpAny _ _ (ret Value.none) _ _ _
          refine wpAny_pure ⟨rfl, h', tk', rfl, hS', fun b o' hb e => ?_⟩
          have hb1 : b ≠ s.heap.objs.size := Nat.ne_of_lt hb
          have hb2 : b ≠ (s.heap.push { cls := .type "set", dict := none, data := .set #[] 0 (.fresh 0 0 led) }).objs.size := by
            rw [Heap.size_push]; exact Nat.ne_of_lt (Nat.lt_succ_of_lt hb)
          exact hm.heap b o' (by simp only [List.mem_cons, List.not_mem_nil, or_false, not_or]; exact ⟨hb1, hb2⟩) (Heap.get?_push_of_some _ (Heap.get?_push_of_some _ e))
      · cases r₂ with
        | error e => exact hr₂
        | ok fl₂ =>
          cases fl₂ with
          | ret r =>
            obtain ⟨rfl, h', tk, rfl, hS', hk'⟩ := hr₂
            repeat (any_goals (first | assumption | wp_step))
            exact h _ _ hS' hk'
          | _ => exact hr₂.elim
    | _ => exact hr.elim
end
end L3
set_option Elab.async false
set_option linter.all false
set_option maxRecDepth 100000
set_option maxHeartbeats 4000000
namespace L3
open PySem PySem.Spec PyProof.Rows L2
noncomputable def SSet (P : Program) (w : World) (a : Addr) (n : Nat) : HO := .ext fun h => ∃ S, h.SetOf (PySem.strKind P w) a S n
theorem sset_ok {P : Program} {w : World} {H : Hp} {h : Heap} {a : Addr} {n : Nat} {S : Str → Bool} (e : h.SetOf (PySem.strKind P w) a S n) : ObjOk P w H h a (SSet P w a n) :=
  ⟨⟨S, e⟩, (let ⟨o, es, ep, t, ho, _⟩ := e; ⟨o, ho⟩), fun h1 h2 ⟨S, o, es, ep, t, ho, r⟩ k => ⟨S, o, es, ep, t, k _ ho, r⟩⟩
noncomputable def cntS (l : List Nat) : Nat := (metS (fun i => tx [l.getD i 0]) l.length).length
section
variable {X : Cx}
def rSetS (P : Program) (w : World) : List V → Hp → VK → Prop := fun xs H Q => ∃ l : List Nat, xs = [.str (tx l)] ∧ l.length ≤ 1000 ∧ ∀ a, H a = none → Q (.ref a) (upd H a (SSet P w a (cntS l)))
theorem c_setS (hc : X.calm = true) : CallR X (.type "set") (rSetS X.prog X.w) := by
  intro pins s σ H xs us Q I r h
  obtain ⟨l, rfl, hl, q⟩ := h
  obtain ⟨u, rfl, rx⟩ := vals1 r
  obtain ⟨t, rfl⟩ := rx
  have e : (tx l).cps.size = l.length := by simp [tx]
  refine call_set_str (fun i => tx [l.getD i 0]) (fun i c hx => ?_) (I.ok.hd hc) ?_ fun h' tk hS hk => ?_
  · have hx' : l[i]? = some c := by simpa [tx] using hx
    simp only [List.getD_eq_getElem?_getD, hx', Option.getD_some]
  · rw [e]
    unfold scanBound
    lia
  · rw [e] at hS
    exact ⟨.ref _, _, I.laid (t' := tk) (fun b o ho => hk b o (Heap.lt_size ho) ho) (Nat.le_refl _) (sset_ok hS), rfl, q _ (I.hok.fresh (Nat.le_refl _))⟩
def rLenS (P : Program) (w : World) : List V → Hp → VK → Prop := fun xs H Q => ∃ a n, xs = [.ref a] ∧ H a = some (SSet P w a n) ∧ Q (.int (n : Nat)) H
theorem c_lenS : CallR X (.builtin "len") (rLenS X.prog X.w) := by
  intro pins s σ H xs us Q I r h
  obtain ⟨a, n, rfl, ha, q⟩ := h
  obtain ⟨u, rfl, rx⟩ := vals1 r
  cases rx
  obtain ⟨S, o, es, ep, t, ho, hex, hd, hel, hmem, hb, hf, hn⟩ := (show ∃ S, s.heap.SetOf (PySem.strKind X.prog X.w) a S n from (I.hok _ _ ha).1)
  refine call_len_set ho hex hd hf (by unfold scanBound at hb; lia) ?_
  exact ⟨.int (n : Nat), H, I.tok _, ⟨_, by rw [hn]⟩, q⟩
end
theorem metS_any (l : List Nat) : ∀ (i : Nat), i ≤ l.length → ∀ c : Nat, (metS (fun i => tx [l.getD i 0]) i).any (· == tx [c]) = decide (c ∈ l.take i)
  | 0, _, c => by simp [metS]
  | i + 1, hi, c => by
    rw [metS_succ, stepS_any, metS_any l i (by lia) c]
    have hx : l[i]? = some l[i] := List.getElem?_eq_getElem (by lia)
    have et : l.take (i + 1) = l.take i ++ [l[i]] := by rw [List.take_succ, hx]; rfl
    have eg : l.getD i 0 = l[i] := by rw [List.getD_eq_getElem?_getD, hx]; rfl
    have ei : (tx [c] = tx [l[i]]) ↔ c = l[i] := by
      constructor
      · intro h
        have := congrArg (fun z : Str => z.cps.toList) h
        simpa [tx] using this
      · intro h; rw [h]
    have key : (c ∈ l.take (i + 1)) ↔ (c ∈ l.take i ∨ c = l[i]) := by rw [et, List.mem_append, List.mem_singleton]
    rw [eg, Bool.eq_iff_iff]
    simp only [Bool.or_eq_true, decide_eq_true_eq, ei, key]
theorem metS_len (l : List Nat) : ∀ (i : Nat), i ≤ l.length → ((metS (fun i => tx [l.getD i 0]) i).length = i ↔ (l.take i).Nodup)
  | 0, _ => by simp [metS]
  | i + 1, hi => by
    have ih := metS_len l i (by lia)
    have hle := metS_length_le (fun i => tx [l.getD i 0]) i
    have hx : l[i]? = some l[i] := List.getElem?_eq_getElem (by lia)
    have et : l.take (i + 1) = l.take i ++ [l[i]] := by rw [List.take_succ, hx]; rfl
    have eg : l.getD i 0 = l[i] := by rw [List.getD_eq_getElem?_getD, hx]; rfl
    rw [metS_succ, stepS_length, eg, metS_any l i (by lia), et, List.nodup_append]
    by_cases h1 : l[i] ∈ l.take i
    · rw [decide_eq_true h1, if_pos rfl]
      constructor
      · intro h; lia
      · rintro ⟨_, _, h⟩
        exact absurd rfl (h _ h1 _ (by simp))
    · rw [decide_eq_false h1, if_neg Bool.false_ne_true]
      constructor
      · intro h
        refine ⟨ih.mp (by lia), by simp, fun a ha b hb e => ?_⟩
        rw [af.mp hb] at e
        rw [e] at ha
        exact h1 ha
      · rintro ⟨h, _, _⟩
        rw [ih.mpr h]
theorem cntS_iff (l : List Nat) : cntS l = l.length ↔ l.Nodup := by
  have := metS_len l l.length (Nat.le_refl _)
  rw [List.take_length] at this
  exact this
end L3
set_option Elab.async false
set_option linter.all false
set_option maxRecDepth 100000
set_option maxHeartbeats 4000000
namespace L3
open PySem PySem.Spec PyProof.Rows L2
section
variable {g : TG} {tt : TT} {te : TE} {own : Nat} {ix : List Nat} {σ : L2.St} {H1 : Hp} {Q : VK} {D : Addr}
end
end L3
set_option Elab.async false
set_option linter.all false
set_option maxRecDepth 100000
set_option maxHeartbeats 4000000
namespace L3
open PySem PySem.Spec PyProof.Rows L2
section
variable {X : Cx} {pos : Pos}
end
end L3
set_option Elab.async false
set_option linter.all false
set_option maxRecDepth 100000
set_option maxHeartbeats 4000000
namespace L3
open PySem PySem.Spec PyProof.Rows L2
section
variable {X : Cx} {pos : Pos}
end
end L3
set_option Elab.async false
set_option linter.all false
set_option maxRecDepth 100000
set_option maxHeartbeats 4000000
namespace L3
open PySem PySem.Spec PyProof.Rows L2
section
variable {X : Cx} {scope : Scope} {own caps : List Str} {ix : List Nat} {elt tg iter : Expr} {ifs : List Expr} {pos : Pos} {wi : TI} {g : TG} {tt : TT} {te : TE}
end
end L3
set_option Elab.async false
set_option linter.all false
set_option maxRecDepth 100000
set_option maxHeartbeats 4000000
namespace L3
open PySem PySem.Spec PyProof.Rows L2
section
variable {X : Cx} {scope : Scope} {own caps : List Str} {ix : List Nat} {cl : List (Str × Addr)} {pins : List (Addr × Obj)} {σ : St} {H : Hp} {s : Shared} {fp : List Addr} {E : Value → Shared → Prop}
end
section
variable {X : Cx} {scope : Scope} {own caps : List Str} {ix : List Nat} {elt tg iter : Expr} {ifs : List Expr} {pos : Pos} {wi : TI} {g : TG} {tt : TT} {te : TE}
end
end L3
set_option Elab.async false
set_option linter.all false
set_option maxRecDepth 100000
set_option maxHeartbeats 4000000
namespace L3
open PySem PySem.Spec PyProof.Rows L2
section
variable {X : Cx}
end
end L3
set_option maxHeartbeats 4000000
namespace LL
open PySem L2 L3
noncomputable def top (i : Nat) : Stmt := PySem.Challenge.pw_letterlaw_k92_refused.main.body.getD i (.Pass ⟨0, 0, 0, 0⟩)
noncomputable abbrev s_noword_init : Stmt := inClass (top 4) 0
noncomputable abbrev s_is_small_letter : Stmt := top 15
noncomputable abbrev s_letters_of : Stmt := top 16
noncomputable abbrev s_word_of : Stmt := top 17
noncomputable abbrev s_completed : Stmt := top 60
noncomputable abbrev s_gone_within : Stmt := top 75
noncomputable abbrev s_judged : Stmt := top 78
noncomputable abbrev s_shown_word : Stmt := top 85
noncomputable abbrev s_shown_pact : Stmt := top 86
noncomputable abbrev s_read_word : Stmt := top 90
noncomputable abbrev s_read_pact : Stmt := top 91
noncomputable abbrev s_is_number : Stmt := top 92
noncomputable abbrev s_order_init : Stmt := inClass (top 95) 0
noncomputable abbrev s_byweights_init : Stmt := inClass (top 97) 0
noncomputable abbrev s_weight_of : Stmt := top 110
noncomputable abbrev s_order_of : Stmt := top 111
noncomputable abbrev s_rooms_for : Stmt := top 112
noncomputable abbrev s_shown_answer : Stmt := top 115
noncomputable abbrev s_desk_init : Stmt := inClass (top 116) 0
noncomputable abbrev s_desk_told : Stmt := inClass (top 116) 1
noncomputable abbrev s_desk_begun : Stmt := inClass (top 116) 2
noncomputable abbrev s_desk_ordered : Stmt := inClass (top 116) 3
noncomputable abbrev s_desk_agreed : Stmt := inClass (top 116) 4
noncomputable abbrev s_desk_dropped : Stmt := inClass (top 116) 5
noncomputable abbrev s_desk_completion : Stmt := inClass (top 116) 6
noncomputable abbrev s_desk_formed : Stmt := inClass (top 116) 7
noncomputable abbrev s_desk_asked : Stmt := inClass (top 116) 8
noncomputable abbrev s_cell_at : Stmt := top 118
noncomputable abbrev s_letters : Stmt := top 119
noncomputable abbrev s_word : Stmt := top 120
noncomputable abbrev s_mixed : Stmt := top 121
noncomputable abbrev s_shown : Stmt := top 122
noncomputable abbrev s_sign : Stmt := top 123
noncomputable abbrev s_weights_row : Stmt := top 124
noncomputable abbrev s_plain_row : Stmt := top 125
noncomputable abbrev s_row : Stmt := top 126
noncomputable abbrev s_fault : Stmt := top 127
noncomputable abbrev s_pair_due : Stmt := top 128
noncomputable abbrev s_order_due : Stmt := top 129
noncomputable abbrev s_letters_due : Stmt := top 130
noncomputable abbrev s_pact_due : Stmt := top 131
noncomputable abbrev s_due : Stmt := top 132
noncomputable abbrev s_told : Stmt := top 133
noncomputable abbrev s_law : Stmt := top 134
section
variable {P : Program} {w : World} {K : PySem.W.Frag} {mg : Str → Option Value} {base : Heap}
seal L2.PE L2.PS L2.PA L2.PT L2.PSs L2.PI L2.PG L2.PW L2.PGs
local macro_rules | `(tactic| rfl')=>do `(tactic| simp only[$(← ("tSeq rAppend tTru seen Option.join_some Option.join_none rU tSetComp rd_cr1 rd_cl rd_cs tNext tRet tIfS tTest tOp tUn tVar tC tCall tCons tNil tCB tAsg gName tDrop tNot tAnd tOr tAndV tOrV tNotV tChain tIf rI rI0 rAddA rMulA rLtA rLeA rGtA rEq rNe rIx rIxL rIxT rIxS rSlA rSlL rSlS rCat tSl tNoPart tPart rNin rIn1 rIsN rNotN rMax2 rGe tXget decide_false decide_true Prod.mk.injEq rLen LenV rIsi rCount rFind count_l tyV tBM tBM0 if_true if_false Bool.false_eq_true decide_eq_true_eq decide_eq_false_iff_not Bool.not_eq_true' Bool.not_true Bool.not_false lt1 tTup tLst gTup gCons gNil tBreak tCont tRetN tRaise0 tRaise1 tTry tHs TruV sc_ii sc_ss sc_bb sc_ns sc_sn Value.ref.injEq L2.start rd_r1 rd_r2 rd_l rd_s rd_e rd_el rd_t rd_tr rd_bl tPar rd_z rd_revl rd_cv tFld sFld tMeth tMake putF tx_append cs_tx len_tx cxHK cV_ref cV_ty cxK cxP cxW List.map_cons List.map_nil List.length_cons List.length_nil List.replicate_succ List.replicate_zero Nat.reduceAdd Nat.reduceSub and_assoc tx_eq exists_eq exists_eq' exists_eq_left' exists_eq_left exists_eq_right exists_eq_right' exists_and_left exists_and_right V.int.injEq V.ref.injEq V.str.injEq V.bl.injEq V.ty.injEq reduceCtorEq false_and and_false true_and and_true or_false false_or exists_false exists_const List.getElem?_cons_zero List.getElem?_cons_succ Option.some.injEq List.set_cons_zero List.set_cons_succ List.cons.injEq List.append_nil List.nil_append List.cons_append".splitOn " ").toArray.mapM fun s=>`(Lean.Parser.Tactic.simpLemma| $(Lean.mkIdent s.toName):ident)),*])
theorem xe0 {X : Cx} : XE X E0 := fun e s h => by
  obtain ⟨_, _, _, _, _, _, _, _, _, _, _, _, _, _, h⟩ := h
  exact h.elim
def small (l : List Nat) : Prop := ∀ c ∈ l, 97 ≤ c ∧ c ≤ 122
instance (l : List Nat) : Decidable (small l) := by unfold small; infer_instance
noncomputable def goodB (l : List Nat) : Bool := decide (1 ≤ l.length ∧ l.length ≤ 6 ∧ small l ∧ l.Nodup)
def sp_small : Sp := fun vs H Q _ => ∃ c : Nat, vs = [.str (tx [c])] ∧ Q (.bl (decide (97 ≤ c ∧ c ≤ 122))) H
theorem sc_small : FnScope ["sign"] ["sign"] (defScope s_is_small_letter) := ⟨rfl, rfl, rfl, by symm, rfl, by symm, by symm⟩
theorem ok_small {f : Addr} {fd : FuncData} (F : Fun K "is_small_letter" "is_small_letter" s_is_small_letter f fd) : FnOk P w K mg base CX0 1 f fd ["sign"] sp_small := by
  refine F.ok sc_small (fun vs H Q E h => ?_) (fun cdv A outer s H vs Q E hr h => ?_)
  · obtain ⟨a, rfl, _⟩ := h
    rfl
  · obtain ⟨c, rfl, q⟩ := h
    refine ⟨_, (pss_one (ps_ret (pe_chain op_leA op_leA pe_str (pv 0) pe_str))), ?_⟩
    have ea : cs (("a" : Str)) = [97] := rfl
    have ez : cs (("z" : Str)) = [122] := rfl
    rfl'
    simp only [ea, ez, cs_tx, lt1]
    refine ite2 (fun h => ?_) fun h => ?_
    · have e : decide (97 ≤ c ∧ c ≤ 122) = !decide (122 < c) := by
        by_cases h2 : 122 < c
        · rw [decide_eq_true h2, decide_eq_false (by lia)]; rfl
        · rw [decide_eq_false h2, decide_eq_true (by lia)]; rfl
      rw [e] at q
      exact q
    · rw [decide_eq_false (by lia)] at q
      exact q
structure TLet (K : PySem.W.Frag) (mg : Str → Option Value) (C : Addr) : Prop where
  xi : XI K C
  ini : PySem.W.findIn K (.ref C) "__init__" = some (some (.builtin "ValueError.__init__"))
  g : mg "NoLetters" = some (.ref C)
  most : ∃ t, mg "MOST_LETTERS" = some (.int 6 t)
def sp_letters_of (C : Addr) : Sp := fun vs H Q E => ∃ l : List Nat, vs = [.str (tx l)] ∧ l.length ≤ 1000 ∧ (goodB l = true → Q (.str (tx l)) H) ∧ (goodB l = false → E (.ref C) none H)
theorem sc_letters_of : FnScope ["text", "sign"] ["text"] (defScope s_letters_of) := ⟨rfl, rfl, rfl, by symm, rfl, by symm, by symm⟩
theorem ok_letters_of {f C : Addr} {fd : FuncData} (B : Bt mg) (T : TLet K mg C) (F : Fun K "letters_of" "letters_of" s_letters_of f fd) (Ds : Df P w K mg base CX0 1 "is_small_letter" ["sign"] [] sp_small) : FnOk P w K mg base (CXx P w) 2 f fd ["text"] (sp_letters_of C) := by
  refine Fun.okX F sc_letters_of (fun vs H Q E h => ?_) (fun cdv A outer s H vs Q E hr hx h => ?_)
  · obtain ⟨a, rfl, _⟩ := h
    rfl
  · obtain ⟨l, rfl, hl, q1, q2⟩ := h
    obtain ⟨t6, g6⟩ := T.most
    refine ⟨_, (pss_cons (ps_if (pt_not (pt_chain op_leA op_leA pe_int (pe_callB c_len rfl B.len PySem.boot_len (pa_cons (pv 0) pa_nil)) (pe_glob (v := .int 6) rfl g6 ⟨t6, rfl⟩)))
        (pss_one (ps_raise0 hx rfl T.xi.toXC T.ini rfl T.g (pa_cons pe_str pa_nil)))
        pss_nil)
      (pss_cons (ps_for PassesOwn.leaving rfl (pi_str (pv 0)) (pg_name (i := 1) sc_letters_of.nd rfl (.inl rfl))
        (pss_cons (ps_if (pt_not (pt_truth (cl0 Ds hr .nil rfl (pa_cons (pv 1) pa_nil)) (fun _ => rfl)))
          (pss_one (ps_raise0 hx rfl T.xi.toXC T.ini rfl T.g (pa_cons pe_str pa_nil)))
          pss_nil)
        (pss_one (ps_if (pt_cmpR op_gtA (pe_bm PySem.F.plainAttrs_str PySem.F.slot_str_count PySem.F.type_str_count m_count (pv 0) (pa_cons (pv 1) pa_nil)) pe_int (nomark _))
          (pss_one (ps_raise0 hx rfl T.xi.toXC T.ini rfl T.g (pa_cons pe_str pa_nil)))
          pss_nil))))
      (pss_one (ps_ret (pv 0))))), ?_⟩
    have s16 := sl16
    rfl'
    have bad : (¬ (1 ≤ l.length ∧ l.length ≤ 6 ∧ small l ∧ l.Nodup)) → ∀ H' : Hp, H' = H → E (.ref C) none H' := fun h H' e => by
      rw [e]
      exact q2 (decide_eq_false h)
    refine ⟨by lia, ite2 (fun c => ite2 (fun c2 => ⟨by lia, bad (fun h => by have := h.2.1; lia) H rfl⟩) (fun c2 => ?_)) (fun c => ⟨by lia, bad (fun h => by have := h.1; lia) H rfl⟩)⟩
    refine ForS.by (fun i σ H' => H' = H ∧ ∃ v, σ = [some (.str (tx l)), v] ∧ small (l.take i) ∧ ∀ c ∈ l.take i, l.count c ≤ 1) ⟨rfl, none, rfl, fun c h => absurd h (by simp), fun c h => absurd h (by simp)⟩ ?_ ?_
    · rintro i c σ H' hg ⟨eH, v, rfl, hs, hn⟩
      have hc := List.mem_of_getElem? hg
      rfl'
      simp only [sp_small]
      rfl'
      refine ite2 (fun h => ⟨by lia, bad (fun z => by have := z.2.2.1 c hc; lia) _ eH⟩) (fun h => ite2 (fun h2 => ⟨by lia, bad (fun z => ?_) _ eH⟩) (fun h2 => ⟨eH, ?_, ?_⟩))
      · have := ar.mp z.2.2.2 c
        lia
      · rw [take_one hg]
        intro x hx
        rcases ae.mp hx with q | q
        · exact hs x q
        · have : x = c := by simpa using q
          subst this
          lia
      · rw [take_one hg]
        intro x hx
        rcases ae.mp hx with q | q
        · exact hn x q
        · have : x = c := by simpa using q
          subst this
          lia
    · rintro σ H' ⟨eH, v, rfl, hs, hn⟩
      rw [List.take_length] at hs hn
      rfl'
      rw [eH]
      refine q1 (decide_eq_true ⟨by lia, by lia, hs, ar.mpr fun c => ?_⟩)
      by_cases hc : c ∈ l
      · exact hn c hc
      · rw [List.count_eq_zero.mpr hc]; lia
structure TOrd (K : PySem.W.Frag) (mg : Str → Option Value) (CO CR CW : Addr) : Prop where
  cO : Cls K CO
  cR : Cls K CR
  cW : Cls K CW
  gO : mg "Order" = some (.ref CO)
  gR : mg "FromRight" = some (.ref CR)
  gW : mg "ByWeights" = some (.ref CW)
  lO : NoAttr K CO "letters"
  lR : NoAttr K CR "letters"
  lW : NoAttr K CW "letters"
  wW : NoAttr K CW "weights"
def sp_oinitX (K : PySem.W.Frag) (C : Addr) : Sp := fun vs H Q E => ∃ (x C0 dx : Addr) (l : List Nat), vs = [.ref x, .str (tx l)] ∧ l.length ≤ 1000 ∧ Cls K C0 ∧ NoAttr K C0 "letters" ∧ H x = some (.ins C0 dx []) ∧ (goodB l = true → Q .non (upd H x (.ins C0 dx [("letters", .str (tx l))]))) ∧ (goodB l = false → E (.ref C) none H)
theorem sc_order_init : FnScope ["self", "letters"] ["self", "letters"] (defScope s_order_init) := ⟨rfl, rfl, rfl, by symm, rfl, by symm, by symm⟩
theorem ok_order_init {f C : Addr} {fd : FuncData} (B : Bt mg)  (F : Fun K "__init__" "Order.__init__" s_order_init f fd) (D_letters_of : Df P w K mg base (CXx P w) 2 "letters_of" ["text"] [] (sp_letters_of C)) : FnOk P w K mg base (CXx P w) 3 f fd ["self", "letters"] (sp_oinitX K C) := by
  refine Fun.okX F sc_order_init (fun vs H Q E h => ?_) (fun cdv A outer s H vs Q E hr hx h => ?_)
  · obtain ⟨x, C0, dx, l, rfl, _⟩ := h
    rfl
  · obtain ⟨x, C0, dx, l, rfl, hl, hC, hN, hx', q1, q2⟩ := h
    refine ⟨_, (pss_one (ps_fld (pv 0) (clP hx D_letters_of hr .nil rfl (pa_cons (pv 1) pa_nil)) rfl)), ?_⟩
    have s16 := sl16
    rfl'
    exact ⟨l, rfl, hl, fun hg => ⟨_, _, _, hx', hC, hN, by decide, q1 hg⟩, fun hg => q2 hg⟩
structure TNoO (K : PySem.W.Frag) (mg : Str → Option Value) (C : Addr) : Prop where
  xi : XI K C
  ini : PySem.W.findIn K (.ref C) "__init__" = some (some (.builtin "ValueError.__init__"))
  g : mg "NoOrder" = some (.ref C)
  most : ∃ t, mg "MOST_WEIGHT" = some (.int 1000000 t)
abbrev DOIX (P : Program) (w : World) (K : PySem.W.Frag) (mg : Str → Option Value) (base : Heap) (CO C : Addr) : Prop := DC P w K mg base (CXx P w) 3 CO "__init__" ["self", "letters"] (sp_oinitX K C)
def wOk (l : List Nat) (ns : List Int) : Prop := ns.length = l.length ∧ ∀ n ∈ ns, 1 ≤ n ∧ n ≤ 1000000
instance (l : List Nat) (ns : List Int) : Decidable (wOk l ns) := by unfold wOk; infer_instance
def sp_winitX (K : PySem.W.Frag) (CW C CN : Addr) : Sp := fun vs H Q E => ∃ (x dx a : Addr) (l : List Nat) (ns : List Int), vs = [.ref x, .str (tx l), .ref a] ∧ l.length ≤ 1000 ∧ ns.length ≤ 1000 ∧ SqL K H a (ns.map V.int) ∧ H x = some (.ins CW dx []) ∧ (goodB l = false → E (.ref C) none H) ∧ (goodB l = true → ¬ wOk l ns → E (.ref CN) none (upd H x (.ins CW dx [("letters", .str (tx l))]))) ∧
  (goodB l = true → wOk l ns → ∀ w H', (∀ b o, b ≠ x → H b = some o → H' b = some o) → H' x = some (.ins CW dx [("letters", .str (tx l)), ("weights", .ref w)]) → Q .non H')
theorem sc_byweights_init : FnScope ["self", "letters", "weights", "weight"] ["self", "letters", "weights"] (defScope s_byweights_init) := ⟨rfl, rfl, rfl, by symm, rfl, by symm, by symm⟩
theorem ok_byweights_init {f CO CR CW C CN : Addr} {fd : FuncData} (B : Bt mg) (T : TOrd K mg CO CR CW) (TN : TNoO K mg CN) (DI : DOIX P w K mg base CO C) (F : Fun K "__init__" "ByWeights.__init__" s_byweights_init f fd)  : FnOk P w K mg base (CXx P w) 4 f fd ["self", "letters", "weights"] (sp_winitX K CW C CN) := by
  obtain ⟨t6, g6⟩ := TN.most
  refine Fun.okX F sc_byweights_init (fun vs H Q E h => ?_) (fun cdv A outer s H vs Q E hr hx h => ?_)
  · obtain ⟨x, dx, a, l, ns, rfl, _⟩ := h
    rfl
  · obtain ⟨x, dx, a, l, ns, rfl, hl, hnl, hS, hX, q1, q2, q3⟩ := h
    refine ⟨_, (pss_cut (ps_expr (pe_clsmX hx DI hr rfl T.gO (pa_cons (pv 0) (pa_cons (pv 1) pa_nil))))
      (pss_cut (ps_if (pt_cmpR op_ne (pe_callB c_len rfl B.len PySem.boot_len (pa_cons (pv 2) pa_nil)) (pe_callB c_len rfl B.len PySem.boot_len (pa_cons (pv 1) pa_nil)) (nomark _))
        (pss_one (ps_raise0 hx rfl TN.xi.toXC TN.ini rfl TN.g (pa_cons pe_str pa_nil)))
        pss_nil)
      (pss_cut (ps_for PassesOwn.leaving rfl (pi_list (pv 2)) (pg_name (i := 3) sc_byweights_init.nd rfl (.inl rfl))
        (pss_one (ps_if (pt_not (pt_chain op_leA op_leA pe_int (pv 3) (pe_glob (v := .int 1000000) rfl g6 ⟨t6, rfl⟩)))
          (pss_one (ps_raise0 hx rfl TN.xi.toXC TN.ini rfl TN.g (pa_cons pe_str pa_nil)))
          pss_nil)))
      (pss_one (ps_fld (pv 0) (pe_callTy call_tuple_of rfl B.tuple PySem.Pv.boot_tuple (pa_cons (pv 2) pa_nil)) rfl))))), ?_⟩
    have s16 := sl16
    have hbx : ∀ b o, b ≠ x → H b = some o → upd H x (.ins CW dx [("letters", .str (tx l))]) b = some o := fun b o hb e => by rw [upd_ne hb]; exact e
    have hS1 : SqL K (upd H x (.ins CW dx [("letters", .str (tx l))])) a (ns.map V.int) := by
      rcases hS with (h | ⟨o, h⟩) | h
      · exact .inl (.inl (hbx _ _ (fun e => by rw [e, hX] at h; cases h) h))
      · exact .inl (.inr ⟨o, hbx _ _ (fun e => by rw [e, hX] at h; cases h) h⟩)
      · exact .inr h
    refine cut_by (fun σ H' => goodB l = true ∧ H' = upd H x (.ins CW dx [("letters", .str (tx l))]) ∧ σ = [some (.ref x), some (.str (tx l)), some (.ref a), none]) ?_ ?_
    · repeat (first | rfl' | simp only [tAlt, tMethF, rd_cz, tRev, rSum, rIndex])
      exact ⟨x, CW, dx, l, rfl, hl, T.cW, T.lW, hX, fun hg => ⟨hg, rfl⟩, fun hg => q1 hg⟩
    rintro σ H1 ⟨hg, rfl, rfl⟩
    have q2' := q2 hg
    have q3' := q3 hg
    refine cut_by (fun σ H' => ns.length = l.length ∧ H' = upd H x (.ins CW dx [("letters", .str (tx l))]) ∧ σ = [some (.ref x), some (.str (tx l)), some (.ref a), none]) ?_ ?_
    · repeat (first | rfl' | simp only [tAlt, tMethF, rd_cz, tRev, rSum, rIndex])
      refine ⟨ns.length, .inl ⟨_, hS1, by rw [List.length_map]⟩, by lia, ite2 (fun h => ⟨by lia, q2' fun z => h (by have := z.1; lia)⟩) fun h => by lia⟩
    rintro σ H1 ⟨hle, rfl, rfl⟩
    refine cut_by (fun σ H' => wOk l ns ∧ H' = upd H x (.ins CW dx [("letters", .str (tx l))]) ∧ ∃ v3, σ = [some (.ref x), some (.str (tx l)), some (.ref a), v3]) ?_ ?_
    · repeat (first | rfl' | simp only [tAlt, tMethF, rd_cz, tRev, rSum, rIndex])
      refine ⟨⟨_, hS1⟩, ForL.by (xs := ns.map V.int) (fun i σ H' => (∀ n ∈ ns.take i, 1 ≤ n ∧ n ≤ 1000000) ∧ H' = upd H x (.ins CW dx [("letters", .str (tx l))]) ∧ ∃ v3, σ = [some (.ref x), some (.str (tx l)), some (.ref a), v3]) ⟨fun n h => (nomatch h), rfl, none, rfl⟩ (fun i σ H' _ h => by rw [h.2.1]; exact hS1) ?_ ?_⟩
      · rintro i y σ H' hy ⟨hok, rfl, v3, rfl⟩
        rw [List.getElem?_map] at hy
        obtain ⟨n, hn, rfl⟩ := aj.mp hy
        have hmn := List.mem_of_getElem? hn
        repeat (first | rfl' | simp only [tAlt, tMethF, rd_cz, tRev, rSum, rIndex])
        refine ite2 (fun n1 => ite2 (fun n2 => ⟨by lia, q2' fun z => n2 (z.2 n hmn).2⟩) fun n2 m hm => ?_) fun n1 => ⟨by lia, q2' fun z => n1 (z.2 n hmn).1⟩
        rw [take_one hn] at hm
        rcases ae.mp hm with h | h
        · exact hok m h
        · rw [af.mp h]
          exact ⟨n1, Decidable.not_not.mp n2⟩
      · rintro σ H' ⟨hok, rfl, v3, rfl⟩
        rw [List.length_map, List.take_length] at hok
        exact ⟨⟨hle, hok⟩, rfl, _, rfl⟩
    rintro σ H1 ⟨hwok, rfl, v3, rfl⟩
    repeat (first | rfl' | simp only [tAlt, tMethF, rd_cz, tRev, rSum, rIndex])
    refine ⟨_, .inl ⟨hS1, fun w hw => ?_⟩⟩
    have hwx : w ≠ x := fun e => by rw [e, upd_same] at hw; cases hw
    have hX2 := same_upd (o := .tup (ns.map V.int)) hw _ _ (upd_same (H := H) (a := x) (o := .ins CW dx [("letters", .str (tx l))]))
    refine ⟨_, _, _, hX2, T.cW, T.wW, by show 1 < 1000; decide, q3' hwok w _ (fun b o hb' e => ?_) upd_same⟩
    rw [upd_ne hb']
    exact same_upd hw _ _ (hbx b o hb' e)
structure TTx (mg : Str → Option Value) : Prop where
  em : ∃ t, mg "EMPTY" = some (.str "." t)
  be : ∃ t, mg "BETWEEN" = some (.str " = " t)
  fi : ∃ t, mg "FIGURES" = some (.str "0123456789" t)
  m7 : ∃ t, mg "MOST_FIGURES" = some (.int 7 t)
  le : ∃ t, mg "LETTERS" = some (.str "letters " t)
  we : ∃ t, mg "WEIGHTS" = some (.str "order weights " t)
  pa : ∃ t, mg "PACT" = some (.str "pact " t)
  fo : ∃ t, mg "FORM" = some (.str "form " t)
  ak : ∃ t, mg "ASK" = some (.str "ask " t)
  m8 : ∃ t, mg "MOST_PACTS" = some (.int 8 t)
  mA : ∃ t, mg "MOST_SIDE_desk" = some (.int 10 t)
  mW : ∃ t, mg "MOST_WORD" = some (.int 20 t)
  m3 : ∃ t, mg "ROUNDS" = some (.int 3 t)
structure TNP (K : PySem.W.Frag) (mg : Str → Option Value) (C : Addr) : Prop where
  xi : XI K C
  g : mg "NoPact" = some (.ref C)
  ini : PySem.W.findIn K (.ref C) "__init__" = some (some (.builtin "ValueError.__init__"))
structure TNR (K : PySem.W.Frag) (mg : Str → Option Value) (C : Addr) : Prop where
  xi : XI K C
  g : mg "NoRow" = some (.ref C)
  ini : PySem.W.findIn K (.ref C) "__init__" = some (some (.builtin "ValueError.__init__"))
structure TMy (K : PySem.W.Frag) (mg : Str → Option Value) (C : Addr) : Prop where
  xi : XI K C
  g : mg "TooMany" = some (.ref C)
  ini : PySem.W.findIn K (.ref C) "__init__" = some (some (.builtin "ValueError.__init__"))
theorem sc_noword_init : FnScope ["self", "place"] ["self", "place"] (defScope s_noword_init) := ⟨rfl, rfl, rfl, by symm, rfl, by symm, by symm⟩
structure TNW (K : PySem.W.Frag) (mg : Str → Option Value) (C : Addr) : Prop where
  xi : XI K C
  g : mg "NoWord" = some (.ref C)
  na : NoAttr K C "place"
theorem ok_noword_init {f C : Addr} {fd : FuncData} (T : TNW K mg C) (F : Fun K "__init__" "NoWord.__init__" s_noword_init f fd) : FnOk P w K mg base CX0 1 f fd ["self", "place"] (sp_init1 C "place") := by
  refine F.ok sc_noword_init (fun vs H Q E h => ?_) (fun cdv A outer s H vs Q E hr h => ?_)
  · obtain ⟨x, v, rfl, _⟩ := h
    rfl
  · obtain ⟨x, v, rfl, hx, q⟩ := h
    refine ⟨_, (pss_one (ps_xfld (pv 0) (pv 1) rfl)), ?_⟩
    simp only [sXfld]
    rfl'
    exact ⟨C, hx, T.xi.toXC, T.na, q⟩
structure DNW (P : Program) (w : World) (K : PySem.W.Frag) (mg : Str → Option Value) (base : Heap) (C : Addr) : Prop extends TNW K mg C where
  ini : ∃ f fd, PySem.W.findIn K (.ref C) "__init__" = some (some (.ref f)) ∧ PySem.W.isFn K (.ref f) = true ∧ FnOk P w K mg base CX0 1 f fd ["self", "place"] (sp_init1 C "place") ∧ Binds K fd ["self", "place"] []
theorem Fell.same {H H1 : Hp} {d : Addr} {f : Str} {v : V} {H' : Hp} (e : Same H H1) (h : Fell H1 d f v H') : Fell H d f v H' := ⟨e.free h.1, e.trans h.2.1, h.2.2⟩
def Bad (ls l : List Nat) (m i : Nat) : Prop := m ≤ i ∨ l.getD i 0 ∉ ls
instance (ls l : List Nat) (m i : Nat) : Decidable (Bad ls l m i) := by unfold Bad; infer_instance
noncomputable def fstB (ls l : List Nat) (m : Nat) : Option Nat := (List.range l.length).find? fun i => decide (Bad ls l m i)
theorem fst_some {ls l : List Nat} {m i : Nat} (h : Bad ls l m i) (hi : i < l.length) (hn : ∀ j < i, ¬ Bad ls l m j) : fstB ls l m = some i := by
  unfold fstB
  rw [List.find?_range_eq_some]
  exact ⟨by simpa using h, by simpa using hi, fun j hj => by simpa using hn j hj⟩
theorem fst_none {ls l : List Nat} {m : Nat} (hn : ∀ j < l.length, ¬ Bad ls l m j) : fstB ls l m = none := by
  unfold fstB
  rw [List.find?_eq_none]
  intro i hi
  simpa using hn i (ah.mp hi)
theorem fst_of_none {ls l : List Nat} {m : Nat} (h : fstB ls l m = none) : l.length ≤ m ∧ ∀ c ∈ l, c ∈ ls := by
  unfold fstB at h
  rw [List.find?_eq_none] at h
  have h' : ∀ j < l.length, ¬ Bad ls l m j := fun j hj => by simpa using h j (ah.mpr hj)
  refine ⟨?_, fun c hc => ?_⟩
  · by_cases z : l.length ≤ m
    · exact z
    · exact absurd (.inl (Nat.le_refl m)) (h' m (by lia))
  · obtain ⟨j, hj, rfl⟩ := List.getElem_of_mem hc
    by_cases z : l[j] ∈ ls
    · exact z
    · exact absurd (.inr (by rw [List.getD_eq_getElem?_getD, List.getElem?_eq_getElem hj]; exact z)) (h' j hj)
noncomputable def faultL (ls l : List Nat) (m : Nat) : Option Nat := if l = [46] then none else if l = [] then some 0 else fstB ls l m
noncomputable def pairF (ls a b : List Nat) (m : Nat) : Option Nat := match faultL ls a m with
  | some k => some k
  | none => faultL ls b m
noncomputable def rwOut (l : List Nat) : List Nat := if l = [46] then [] else l
def sp_wof (C : Addr) : Sp := fun vs H Q E => ∃ (ls l : List Nat) (m : Nat), vs = [.str (tx ls), .str (tx l), .int (m : Nat)] ∧ l.length ≤ 1000 ∧ (fstB ls l m = none → ∀ H', Same H H' → Q (.str (tx l)) H') ∧ ∀ k : Nat, fstB ls l m = some k → ∀ d H', Fell H d "place" (.int (k : Nat)) H' → E (.ref C) (some d) H'
theorem sc_word_of : FnScope ["letters", "text", "most", "place", "sign"] ["letters", "text", "most"] (defScope s_word_of) := ⟨rfl, rfl, rfl, by symm, rfl, by symm, by symm⟩
theorem ok_word_of {f CNW : Addr} {fd : FuncData} {dV : Value} (B : Bt mg) (T : DNW P w K mg base CNW) (F : FunD K "word_of" "word_of" s_word_of dV f fd)  : FnOk P w K mg base (CXx P w) 3 f fd ["letters", "text", "most"] (sp_wof CNW) := by
  obtain ⟨fi, fdi, hi, hfn, Fi, Bi⟩ := T.ini
  refine FunD.okX F sc_word_of (fun vs H Q E h => ?_) (fun cdv A outer s H vs Q E hr hx h => ?_)
  · obtain ⟨ls, l, m, rfl, _⟩ := h
    rfl
  · obtain ⟨ls, l, m, rfl, hl, q1, q2⟩ := h
    refine ⟨_, (pss_cons (ps_for PassesOwn.leaving rfl (pi_enum rfl B.enum (pa_cons (pv 1) pa_nil)) (pg_tup (n := 2) rfl (pgs_cons (pg_name (i := 3) sc_word_of.nd rfl (.inl rfl)) (pgs_cons (pg_name (i := 4) sc_word_of.nd rfl (.inl rfl)) pgs_nil)))
        (pss_one (ps_if (PW.pt (pw_or (pt_cmpR op_ge' (pv 3) (pv 2) (nomark _)) (pw_or1 (pt_cmpR op_nin (pv 4) (pv 0) (by with_unfolding_all rfl)))))
          (pss_one (ps_raise1 hx rfl T.xi.toXC hi hfn Fi hr Bi rfl T.g ( (pa_cons (pv 3) pa_nil))))
          pss_nil)))
      (pss_one (ps_ret (pv 1)))), ?_⟩
    have s16 := sl16
    rfl'
    refine ForE.by (fun i σ H' => Same H H' ∧ ∃ v3 v4, σ = [some (.str (tx ls)), some (.str (tx l)), some (.int (m : Nat)), v3, v4] ∧ ∀ j < i, ¬ Bad ls l m j) ⟨.refl _, none, none, rfl, fun j hj => absurd hj (Nat.not_lt_zero _)⟩ ?_ ?_
    · rintro i c σ H' p hg ⟨eH, v3, v4, rfl, hn⟩ hp
      rfl'
      have hi' := (ac.mp hg).1
      have hgd : l.getD i 0 = c := by rw [List.getD_eq_getElem?_getD, hg]; rfl
      have hp2 : Same H (upd H' p (HO.tup [V.int ↑i, V.str (tx [c])])) := eH.trans (same_upd hp)
      have bad : Bad ls l m i → ∀ (x : Addr), upd H' p (HO.tup [V.int ↑i, V.str (tx [c])]) x = none → sp_init1 CNW "place" [V.ref x, V.int ↑i] (upd (upd H' p (HO.tup [V.int ↑i, V.str (tx [c])])) x (XN x CNW none)) (fun v H2 => v = V.non ∧ ∃ dx, H2 x = some (XN x CNW dx) ∧ E (Value.ref CNW) dx (del H2 x)) E0 :=
        fun hb => fell_of fun d H2 hf => q2 i (fst_some hb hi' hn) d H2 (Fell.same hp2 hf)
      refine ⟨_, SqT.of upd_same, rfl, _, _, rfl, _, _, rfl, rfl, _, rfl, ite2 (fun h => ⟨by lia, bad (.inl (by lia))⟩) (fun h => ⟨c, rfl, ite2 (fun h2 => ⟨by lia, bad (.inr (by rw [hgd]; exact h2))⟩) (fun h2 => ⟨hp2, fun j hj => ?_⟩)⟩)⟩
      by_cases e : j = i
      · subst e
        rintro (hb | hb)
        · exact h (by lia)
        · rw [hgd] at hb
          exact h2 hb
      · exact hn j (by lia)
    · rintro σ H' ⟨eH, v3, v4, rfl, hn⟩
      rfl'
      exact q1 (fst_none hn) H' eH
def sp_rdw (C : Addr) : Sp := fun vs H Q E => ∃ (ls l : List Nat) (m : Nat), vs = [.str (tx ls), .str (tx l), .int (m : Nat)] ∧ l.length ≤ 1000 ∧ (faultL ls l m = none → ∀ H', Same H H' → Q (.str (tx (rwOut l))) H') ∧ ∀ k : Nat, faultL ls l m = some k → ∀ d H', Fell H d "place" (.int (k : Nat)) H' → E (.ref C) (some d) H'
theorem sc_read_word : FnScope ["letters", "text", "most"] ["letters", "text", "most"] (defScope s_read_word) := ⟨rfl, rfl, rfl, by symm, rfl, by symm, by symm⟩
theorem ok_read_word {f CNW : Addr} {fd : FuncData} {dV : Value} {dt_word_of : Tok} (B : Bt mg) (T : DNW P w K mg base CNW) (TT : TTx mg) (F : FunD K "read_word" "read_word" s_read_word dV f fd) (D_word_of : Df P w K mg base (CXx P w) 3 "word_of" ["letters", "text", "most"] [] (sp_wof CNW)) (DD_word_of : Df P w K mg base (CXx P w) 3 "word_of" ["letters", "text", "most"] [.int 60 dt_word_of] (sp_wof CNW)) : FnOk P w K mg base (CXx P w) 4 f fd ["letters", "text", "most"] (sp_rdw CNW) := by
  obtain ⟨fi, fdi, hi, hfn, Fi, Bi⟩ := T.ini; obtain ⟨tE, gE⟩ := TT.em
  refine FunD.okX F sc_read_word (fun vs H Q E h => ?_) (fun cdv A outer s H vs Q E hr hx h => ?_)
  · obtain ⟨ls, l, m, rfl, _⟩ := h
    rfl
  · obtain ⟨ls, l, m, rfl, hl, q1, q2⟩ := h
    refine ⟨_, (pss_cons (ps_if (pt_cmpR op_eq (pv 1) (pe_glob (v := .str ".") rfl gE ⟨tE, rfl⟩) (nomark _))
        (pss_one (ps_ret pe_str))
        pss_nil)
      (pss_cons (ps_if (pt_cmpR op_eq (pv 1) pe_str (nomark _))
        (pss_one (ps_raise1 hx rfl T.xi.toXC hi hfn Fi (hr.mono (by decide)) Bi rfl T.g ( (pa_cons pe_int pa_nil))))
        pss_nil)
      (pss_one (ps_ret (clP hx D_word_of hr .nil rfl (pa_cons (pv 0) (pa_cons (pv 1) (pa_cons (pv 2) pa_nil)))))))), ?_⟩
    have s16 := sl16
    have e46 : (("." : Str)) = tx [46] := rfl
    have e00 : (("" : Str)) = tx [] := rfl
    simp only [e46, e00]
    unfold faultL at q1 q2
    unfold rwOut at q1
    rfl'
    refine ite2 (fun h => ?_) fun h => ?_
    · rw [if_pos h] at q1
      have := q1 rfl H (.refl _)
      rw [if_pos h] at this
      exact this
    · rw [if_neg h] at q1 q2
      refine ite2 (fun h2 => ⟨by lia, fell_of fun d H' hf => q2 0 (if_pos h2) d H' hf⟩) fun h2 => ?_
      rw [if_neg h2] at q1 q2
      rw [if_neg h] at q1
      exact ⟨ls, l, m, rfl, hl, q1, q2⟩
noncomputable def sepL : List Nat := [32, 61, 32]
theorem sep_txt : ((" = " : Str)) = tx sepL := rfl
theorem find_parts (l : List Nat) : (Txt.find (tx l) (tx sepL) = -1 ∧ parts sepL l = none) ∨ ∃ e : Nat, e + 3 ≤ l.length ∧ Txt.find (tx l) (tx sepL) = (e : Int) ∧ parts sepL l = some (l.take e, l.drop (e + 3)) := by
  rcases PyProof.Rows.find_whole (tx l) (tx sepL) with ⟨h1, h2⟩ | ⟨e, h1, h2, h3⟩
  · exact .inl ⟨h1, parts_none fun i hi => h2 i ((pa_at l sepL i).mpr hi)⟩
  · have hA := (pa_at l sepL e).mp h2
    exact .inr ⟨e, hA.1, h1, parts_some hA fun k hk hi => h3 k hk ((pa_at l sepL k).mpr hi)⟩
def sp_rdp (CNW CNP : Addr) : Sp := fun vs H Q E => ∃ (ls l : List Nat) (m : Nat), vs = [.str (tx ls), .str (tx l), .int (m : Nat)] ∧ l.length ≤ 1000 ∧ (parts sepL l = none → E (.ref CNP) none H) ∧ ∀ x y : List Nat, parts sepL l = some (x, y) →
  (∀ k : Nat, pairF ls x y m = some k → ∀ d H', Fell H d "place" (.int (k : Nat)) H' → E (.ref CNW) (some d) H') ∧ (pairF ls x y m = none → ∀ p H', Same H H' → H' p = some (.tup [.str (tx (rwOut x)), .str (tx (rwOut y))]) → H p = none → Q (.ref p) H')
theorem sc_read_pact : FnScope ["letters", "text", "most", "end", "one", "other"] ["letters", "text", "most"] (defScope s_read_pact) := ⟨rfl, rfl, rfl, by symm, rfl, by symm, by symm⟩
theorem ok_read_pact {f CNW CNP : Addr} {fd : FuncData} {dV : Value} {dt_read_word : Tok} (B : Bt mg) (T2 : TNP K mg CNP) (TT : TTx mg) (F : FunD K "read_pact" "read_pact" s_read_pact dV f fd) (D_read_word : Df P w K mg base (CXx P w) 4 "read_word" ["letters", "text", "most"] [] (sp_rdw CNW)) (DD_read_word : Df P w K mg base (CXx P w) 4 "read_word" ["letters", "text", "most"] [.int 60 dt_read_word] (sp_rdw CNW)) : FnOk P w K mg base (CXx P w) 5 f fd ["letters", "text", "most"] (sp_rdp CNW CNP) := by
  obtain ⟨tB, gB⟩ := TT.be
  refine FunD.okX F sc_read_pact (fun vs H Q E h => ?_) (fun cdv A outer s H vs Q E hr hx h => ?_)
  · obtain ⟨ls, l, m, rfl, _⟩ := h
    rfl
  · obtain ⟨ls, l, m, rfl, hl, q1, q2⟩ := h
    refine ⟨_, (pss_cut (ps_set (i := 3) sc_read_pact.nd rfl (.inl rfl) (pe_bm PySem.F.plainAttrs_str PySem.F.slot_str_find PySem.F.type_str_find m_find (pv 1) (pa_cons (pe_glob (v := .str " = ") rfl gB ⟨tB, rfl⟩) pa_nil)))
      (pss_cut (ps_if (pt_cmpR op_lt (pv 3) pe_int (nomark _))
        (pss_one (ps_raise0 hx rfl T2.xi.toXC T2.ini rfl T2.g ( (pa_cons pe_str pa_nil))))
        pss_nil)
      (pss_cut (ps_set (i := 4) sc_read_pact.nd rfl (.inl rfl) (clP hx D_read_word hr .nil rfl (pa_cons (pv 0) (pa_cons (pe_slice sl_str (pv 1) po_none (po_some (pv 3))) (pa_cons (pv 2) pa_nil)))))
      (pss_cut (ps_set (i := 5) sc_read_pact.nd rfl (.inl rfl) (clP hx D_read_word hr .nil rfl (pa_cons (pv 0) (pa_cons (pe_slice sl_str (pv 1) (po_some (pe_op op_add (pv 3) (pe_callB c_len rfl B.len PySem.boot_len (pa_cons (pe_glob (v := .str " = ") rfl gB ⟨tB, rfl⟩) pa_nil)))) po_none) (pa_cons (pv 2) pa_nil)))))
      (pss_one (ps_ret (pe_tup (pa_cons (pv 4) (pa_cons (pv 5) pa_nil))))))))), ?_⟩
    have s16 := sl16
    have s16 := sl16
    simp only [sep_txt]
    refine cut_by (fun σ H' => H' = H ∧ ∃ z : Int, z = Txt.find (tx l) (tx sepL) ∧ σ = [some (.str (tx ls)), some (.str (tx l)), some (.int (m : Nat)), some (.int z), none, none]) ?_ ?_
    · rfl'
    rintro σ H1 ⟨rfl, z, hz, rfl⟩
    rcases find_parts l with ⟨hf, hp⟩ | ⟨e, he, hf, hp⟩
    · rw [hf] at hz
      subst hz
      refine cut_by (fun σ H' => False) ?_ fun _ _ h => h.elim
      rfl'
      exact ⟨by lia, q1 hp⟩
    · rw [hf] at hz
      subst hz
      obtain ⟨q3, q4⟩ := q2 _ _ hp
      unfold pairF at q3 q4
      refine cut_by (fun σ H' => H' = H1 ∧ σ = [some (.str (tx ls)), some (.str (tx l)), some (.int (m : Nat)), some (.int (e : Nat)), none, none]) ?_ ?_
      · rfl'
        exact ite2 (fun h => absurd h (by lia)) fun _ => trivial
      rintro σ H2 ⟨rfl, rfl⟩
      refine cut_by (fun σ H' => Same H2 H' ∧ faultL ls (l.take e) m = none ∧ σ = [some (.str (tx ls)), some (.str (tx l)), some (.int (m : Nat)), some (.int (e : Nat)), some (.str (tx (rwOut (l.take e)))), none]) ?_ ?_
      · rfl'
        refine ⟨by lia, ?_⟩
        rw [cut_to _ (Int.natCast_nonneg _), Int.toNat_natCast]
        refine ⟨ls, l.take e, m, rfl, by rw [List.length_take]; lia, fun h H' s' => ⟨s', h, rfl⟩, fun k h => ?_⟩
        rw [h] at q3
        exact q3 k rfl
      rintro σ H3 ⟨s3, h1, rfl⟩
      rw [h1] at q3 q4
      refine cut_by (fun σ H' => Same H2 H' ∧ faultL ls (l.drop (e + 3)) m = none ∧ σ = [some (.str (tx ls)), some (.str (tx l)), some (.int (m : Nat)), some (.int (e : Nat)), some (.str (tx (rwOut (l.take e)))), some (.str (tx (rwOut (l.drop (e + 3)))))]) ?_ ?_
      · rfl'
        refine ⟨by show 3 ≤ sizeLine; lia, by lia, ?_⟩
        rw [show (e : Int) + (sepL.length : Int) = ((e + 3 : Nat) : Int) by rw [Int.natCast_add]; rfl, cut_from _ (Int.natCast_nonneg _), Int.toNat_natCast]
        exact ⟨ls, l.drop (e + 3), m, rfl, by rw [List.length_drop]; lia, fun h H' s' => ⟨s3.trans s', h, rfl⟩, fun k h d H' hf => q3 k h d H' (Fell.same s3 hf)⟩
      rintro σ H4 ⟨s4, h2, rfl⟩
      rfl'
      exact ⟨by lia, fun p hp => q4 h2 p _ (s4.trans (same_upd hp)) upd_same (s4.free hp)⟩
noncomputable def shW (l : List Nat) : List Nat := if l = [] then [46] else l
def sp_shown_word : Sp := fun vs H Q _ => ∃ l : List Nat, vs = [.str (tx l)] ∧ Q (.str (tx (shW l))) H
theorem sc_shown_word : FnScope ["word"] ["word"] (defScope s_shown_word) := ⟨rfl, rfl, rfl, by symm, rfl, by symm, by symm⟩
theorem ok_shown_word {f : Addr} {fd : FuncData} (B : Bt mg) (TT : TTx mg) (F : Fun K "shown_word" "shown_word" s_shown_word f fd)  : FnOk P w K mg base CX0 1 f fd ["word"] sp_shown_word := by
  obtain ⟨tE, gE⟩ := TT.em
  refine F.ok sc_shown_word (fun vs H Q E h => ?_) (fun cdv A outer s H vs Q E hr h => ?_)
  · obtain ⟨l, rfl, _⟩ := h
    rfl
  · obtain ⟨l, rfl, q⟩ := h
    refine ⟨_, (pss_one (ps_ret (pe_ifExp (pt_cmpR op_eq (pv 0) pe_str (nomark _)) (pe_glob (v := .str ".") rfl gE ⟨tE, rfl⟩) (pv 0)))), ?_⟩
    have s16 := sl16
    have e46 : (("." : Str)) = tx [46] := rfl
    have e00 : (("" : Str)) = tx [] := rfl
    simp only [e46, e00]
    rfl'
    unfold shW at q
    refine ite2 (fun h => ?_) fun h => ?_
    · rw [if_pos h] at q
      exact q
    · rw [if_neg h] at q
      exact q
def sp_shown_pact (K : PySem.W.Frag) : Sp := fun vs H Q _ => ∃ (p : Addr) (a b : List Nat), vs = [.ref p] ∧ SqT K H p [.str (tx a), .str (tx b)] ∧ a.length ≤ 1000 ∧ b.length ≤ 1000 ∧ Q (.str (tx (shW a ++ sepL ++ shW b))) H
theorem sc_shown_pact : FnScope ["pact"] ["pact"] (defScope s_shown_pact) := ⟨rfl, rfl, rfl, by symm, rfl, by symm, by symm⟩
theorem ok_shown_pact {f : Addr} {fd : FuncData} (B : Bt mg) (TT : TTx mg) (F : Fun K "shown_pact" "shown_pact" s_shown_pact f fd) (D_shown_word : Df P w K mg base CX0 1 "shown_word" ["word"] [] sp_shown_word) : FnOk P w K mg base CX0 2 f fd ["pact"] (sp_shown_pact K) := by
  obtain ⟨tB, gB⟩ := TT.be
  refine F.ok sc_shown_pact (fun vs H Q E h => ?_) (fun cdv A outer s H vs Q E hr h => ?_)
  · obtain ⟨p, a, b, rfl, _⟩ := h
    rfl
  · obtain ⟨p, a, b, rfl, hp, ha, hb, q⟩ := h
    refine ⟨_, (pss_one (ps_ret (pe_op op_add_str (pe_op op_add_str (cl0 D_shown_word hr .nil rfl (pa_cons (pe_ix ix_tup (pv 0) pe_int (fun _ _ => rfl)) pa_nil)) (pe_glob (v := .str " = ") rfl gB ⟨tB, rfl⟩)) (cl0 D_shown_word hr .nil rfl (pa_cons (pe_ix ix_tup (pv 0) pe_int (fun _ _ => rfl)) pa_nil))))), ?_⟩
    have s16 := sl16
    simp only [sep_txt]
    rfl'
    have hs : ∀ l : List Nat, l.length ≤ 1000 → (shW l).length ≤ 1000 := fun l h => by
      unfold shW
      split
      · decide
      · exact h
    have h1 := hs a ha
    have h2 := hs b hb
    have h3 : sepL.length = 3 := rfl
    refine ⟨_, hp, _, rfl, a, rfl, _, rfl, by rw [len_tx]; lia, _, hp, _, rfl, b, rfl, _, rfl, ?_, ?_⟩
    · rw [tx_append, len_tx, len_tx, List.length_append]
      lia
    · rw [tx_append, tx_append]
      exact q
theorem mkCx {X : Cx} {E : XK} {k j : Nat} {C : Addr} {ps : List Str} {sp : Sp} {e : Expr} {es : List Expr} {t : TA} {pos p : Pos} {x : Str} (hx : XE X E) (D : DMk X.prog X.w X.K X.mg X.base (CXx X.prog X.w) k C ps sp) (hr : Room j X.A) (hg : Gl X x) (hm : X.mg x = some (.ref C)) (ha : PA X (e :: es) t) (hdb : (x == ("__debug__" : Str)) = false := by decide) (he : starEach (e :: es) X.env = (false, eval e X.env) :: starEach es X.env := by rfl)
    (hpl : (backTo pos (starEach es X.env)).any (·.1) = false := by rfl) (hj : k + 1 ≤ j := by decide) : PE X (.Call (.Name x p) (e :: es) [] pos) (tMake C sp [] E t) := by
  obtain ⟨f, fd, M, F, hb⟩ := D.ex
  exact pe_make M F (hr.mono hj) hg hm hb .nil (passes_x hx) ha hdb he hpl
def Dec7 (d : List Nat) : Prop := 1 ≤ d.length ∧ d.length ≤ 7 ∧ (d[0]? = some 48 → d = [48]) ∧ ∀ c ∈ d, 48 ≤ c ∧ c ≤ 57
noncomputable def figs : List Nat := [48, 49, 50, 51, 52, 53, 54, 55, 56, 57]
theorem figs_txt : (("0123456789" : Str)) = tx figs := rfl
theorem figs_iff (c : Nat) : c ∈ figs ↔ 48 ≤ c ∧ c ≤ 57 := by
  unfold figs
  simp only [List.mem_cons, List.not_mem_nil, or_false]
  omega
instance (d : List Nat) : Decidable (Dec7 d) := by unfold Dec7; infer_instance
def sp_isn : Sp := fun vs H Q _ => ∃ d : List Nat, vs = [.str (tx d), .int 7] ∧ d.length ≤ 1000 ∧ ∀ H', Same H H' → Q (.bl (decide (Dec7 d))) H'
theorem sc_is_number : FnScope ["text", "most"] ["text", "most"] (defScope s_is_number) := ⟨rfl, rfl, rfl, by symm, rfl, by symm, by symm⟩
theorem ok_is_number {f : Addr} {fd : FuncData} (B : Bt mg) (TT : TTx mg) (F : Fun K "is_number" "is_number" s_is_number f fd)  : FnOk P w K mg base CX0 1 f fd ["text", "most"] sp_isn := by
  obtain ⟨tF, gF⟩ := TT.fi
  refine F.ok sc_is_number (fun vs H Q E h => ?_) (fun cdv A outer s H vs Q E hr h => ?_)
  · obtain ⟨d, rfl, _⟩ := h
    rfl
  · obtain ⟨d, rfl, hd, q⟩ := h
    refine ⟨_, (pss_cons (ps_if (pt_not (pt_chain op_leA op_leA pe_int (pe_callB c_len rfl B.len PySem.boot_len (pa_cons (pv 0) pa_nil)) (pv 1)))
        (pss_one (ps_ret pe_bl))
        pss_nil)
      (pss_cons (ps_if (PW.pt (pw_and (pt_cmpR op_eq (pe_ix ix_str (pv 0) pe_int (fun _ _ => rfl)) pe_str (nomark _)) (pw_and1 (pt_cmpR op_ne (pv 0) pe_str (nomark _)))))
        (pss_one (ps_ret pe_bl))
        pss_nil)
      (pss_one (ps_ret (pe_callB (c_all rfl) rfl B.all PyProof.Rows.boot_all (pa_cons (pe_comp (own := ["sign"]) (caps := []) (ix := []) (tt := tYes) (te := (tOp rIn1 (tVar 0) (tC (.str "0123456789")))) rfl (compOk_of (sc := defScope s_is_number) rfl (by symm) (by symm) (by symm) rfl (by symm) (by symm) rfl) (pi_str (pv 0)) (fun _ _ _ _ _ _ => pg_name (i := 0) (show List.Nodup [_] by decide) rfl (.inl rfl)) (fun _ _ _ _ _ _ => pts_nil) (fun _ _ _ _ _ _ => (pe_cmpR op_in1 (pv 0) (pe_glob (v := .str "0123456789") rfl gF ⟨tF, rfl⟩) (by with_unfolding_all rfl)))) pa_nil)))))), ?_⟩
    have s16 := sl16
    have e48 : (("0" : Str)) = tx [48] := rfl
    simp only [figs_txt, e48]
    rfl'
    have no : ¬ Dec7 d → Q (.bl false) H := fun h => by
      have := q H (.refl _)
      rw [decide_eq_false h] at this
      exact this
    have tail : 1 ≤ d.length → d.length ≤ 7 → (d[0]? = some 48 → d = [48]) → ∀ (D : Addr), H D = none → CompS (tx d) (gName 0) tYes (tOp rIn1 (tVar 0) (tC (V.str (tx figs)))) 1 [] [some (V.str (tx d)), some (V.int 7)] H (fun x H1 => rAll K [x] H1 Q) D := fun h1 h7 h0 D hD => by
      refine CompS.by (fun i acc H' => acc = (d.take i).map (fun c => V.bl (decide (c ∈ figs))) ∧ Same H H' ∧ H' D = some (.lst acc)) ⟨rfl, same_upd hD, upd_same⟩ ?_ ?_
      · rintro i c acc H' hc ⟨rfl, hs, hH⟩
        simp only [tYes]
        rfl'
        refine ⟨keeps0, hH, ?_, CNx.mk (ac.mp hc).1 ⟨?_, same_over hs hD, upd_same⟩⟩
        · rw [List.length_map, List.length_take]
          lia
        · rw [take_one hc, List.map_append]
          rfl
      · rintro acc H' ⟨rfl, hs, hH⟩
        rw [List.take_length] at hH
        refine ⟨D, d.map fun c => decide (c ∈ figs), rfl, SqL.of (by rw [hH, List.map_map]; rfl), ?_⟩
        have e : (d.map fun c => decide (c ∈ figs)).all id = decide (Dec7 d) := by
          rw [Bool.eq_iff_iff, List.all_eq_true, decide_eq_true_eq]
          constructor
          · intro h
            refine ⟨h1, h7, h0, fun c hc => (figs_iff c).mp ?_⟩
            have := h _ (ag.mpr ⟨c, hc, rfl⟩)
            simpa using this
          · intro h b hb
            obtain ⟨c, hc, rfl⟩ := ag.mp hb
            exact decide_eq_true ((figs_iff c).mpr (h.2.2.2 c hc))
        rw [e]
        exact q H' hs
    refine ⟨by lia, ite2 (fun h1 => ite2 (fun h4 => no fun h => by have := h.2.1; lia) fun h4 => ⟨by lia, ?_⟩) fun h1 => no fun h => by have := h.1; lia⟩
    obtain ⟨v, e1, e2⟩ := atI_of (xs := d) (i := 0) (by decide) (by lia)
    have e2' : d[0]? = some v := e2
    refine ⟨v, e1, ite2 (fun hv => ite2 (fun hn => no fun h => hn (h.2.2.1 (by rw [e2', hv]))) fun hn => tail (by lia) (by lia) fun _ => by simpa using hn) fun hv => tail (by lia) (by lia) fun h => ?_⟩
    rw [e2'] at h
    exact absurd (Option.some.inj h) hv
noncomputable def dec (n : Nat) : List Nat := (Nat.toDigits 10 n).map Char.toNat
theorem dec_txt (n : Nat) : Str.ofString (toString ((n : Nat) : Int)) = tx (dec n) := by
  rw [← tx_cs (Str.ofString _)]
  exact congrArg tx (PySem.W.KIN.signs_num n)
theorem fig_is : ∀ d : Nat, d < 10 → (Nat.digitChar d).toNat = 48 + d := by decide
theorem dec_small {n : Nat} (h : n < 10) : dec n = [48 + n] := by
  unfold dec
  rw [Nat.toDigits_of_lt_base h]
  simp [fig_is n h]
theorem dec_big {n : Nat} (h : 10 ≤ n) : dec n = dec (n / 10) ++ [48 + n % 10] := by
  have hm : n % 10 < 10 := Nat.mod_lt n (by decide)
  have t : Nat.toDigits 10 (n / 10) ++ Nat.toDigits 10 (n % 10) = Nat.toDigits 10 (10 * (n / 10) + n % 10) := Nat.toDigits_append_toDigits (by decide) (by lia) hm
  rw [Nat.div_add_mod] at t
  unfold dec
  rw [← t, List.map_append, Nat.toDigits_of_lt_base hm]
  simp [fig_is _ hm]
theorem dec_fig (n : Nat) : (∀ c ∈ dec n, 48 ≤ c ∧ c ≤ 57) ∧ 1 ≤ (dec n).length ∧ ((dec n)[0]? = some 48 → n = 0) := by
  induction n using Nat.strongRecOn with
  | _ n ih =>
    by_cases h : n < 10
    · rw [dec_small h]
      refine ⟨fun c hc => by rw [af.mp hc]; lia, by simp, fun e => ?_⟩
      simp only [List.getElem?_cons_zero, Option.some.injEq] at e
      lia
    · rw [dec_big (by lia)]
      obtain ⟨h1, h2, h3⟩ := ih (n / 10) (by lia)
      refine ⟨fun c hc => ?_, by rw [List.length_append]; lia, fun e => ?_⟩
      · rcases ae.mp hc with hc | hc
        · exact h1 c hc
        · rw [af.mp hc]
          lia
      · rw [List.getElem?_append_left (by lia)] at e
        have := h3 e
        lia
theorem dec_len : ∀ (k n : Nat), n < 10 ^ (k + 1) → (dec n).length ≤ k + 1
  | 0, n, h => by rw [dec_small (by simpa using h)]; simp
  | k + 1, n, h => by
    by_cases h1 : n < 10
    · rw [dec_small h1]
      simp
    · rw [dec_big (by lia), List.length_append, List.length_singleton]
      have := dec_len k (n / 10) (by rw [Nat.pow_succ] at h; lia)
      lia
theorem dec7 {n : Nat} (h : n < 10000000) : Dec7 (dec n) := by
  obtain ⟨h1, h2, h3⟩ := dec_fig n
  refine ⟨h2, dec_len 6 n (by simpa using h), fun e => ?_, h1⟩
  rw [h3 e]
  exact dec_small (by decide)
noncomputable def valF (d : List Nat) : Nat := NumText.digitsVal d
def sp_wgt (CN : Addr) : Sp := fun vs H Q E => ∃ d : List Nat, vs = [.str (tx d)] ∧ d.length ≤ 1000 ∧ (Dec7 d → ∀ H', Same H H' → Q (.int (valF d : Nat)) H') ∧ (¬ Dec7 d → ∀ H', Same H H' → E (.ref CN) none H')
theorem sc_weight_of : FnScope ["text"] ["text"] (defScope s_weight_of) := ⟨rfl, rfl, rfl, by symm, rfl, by symm, by symm⟩
theorem ok_weight_of {f CN : Addr} {fd : FuncData} (B : Bt mg) (TN : TNoO K mg CN) (TT : TTx mg) (F : Fun K "weight_of" "weight_of" s_weight_of f fd) (D_is_number : Df P w K mg base CX0 1 "is_number" ["text", "most"] [] sp_isn) : FnOk P w K mg base (CXx P w) 2 f fd ["text"] (sp_wgt CN) := by
  obtain ⟨t7, g7⟩ := TT.m7
  refine Fun.okX F sc_weight_of (fun vs H Q E h => ?_) (fun cdv A outer s H vs Q E hr hx h => ?_)
  · obtain ⟨d, rfl, _⟩ := h
    rfl
  · obtain ⟨d, rfl, hl, q1, q2⟩ := h
    refine ⟨_, (pss_cut (ps_if (pt_not (pt_bl (cl0 D_is_number hr .nil rfl (pa_cons (pv 0) (pa_cons (pe_glob (v := .int 7) rfl g7 ⟨t7, rfl⟩) pa_nil))) (fun _ => rfl)))
        (pss_one (ps_raise0 hx rfl TN.xi.toXC TN.ini rfl TN.g ( (pa_cons pe_str pa_nil))))
        pss_nil)
      (pss_one (ps_ret (pe_callTy c_intT rfl B.int PySem.Pv.boot_int (pa_cons (pv 0) pa_nil))))), ?_⟩
    have s16 := sl16
    have s16 := sl16
    refine cut_by (fun σ H' => Same H H' ∧ Dec7 d ∧ σ = [some (.str (tx d))]) ?_ ?_
    · rfl'
      refine ⟨d, rfl, hl, fun H' s' => ⟨_, rfl, ite2 (fun e => ?_) fun e => ?_⟩⟩
      · exact ⟨by lia, q2 (of_decide_eq_false e) H' s'⟩
      · exact ⟨s', by
          cases hd : decide (Dec7 d) with
          | true => exact of_decide_eq_true hd
          | false => exact absurd hd e⟩
    rintro σ H1 ⟨s1, hd, rfl⟩
    rfl'
    have h7 := hd.2.1
    have h1 := hd.1
    exact ⟨tx d, _, rfl, intText_digits (fun c hc => hd.2.2.2 c hc) (fun e => by rw [show d = [] from e] at h1; exact absurd h1 (by decide)) (by rw [len_tx]; lia), by rw [len_tx]; lia, q1 hd H1 s1⟩
noncomputable def wgL : List Nat := [111, 114, 100, 101, 114, 32, 119, 101, 105, 103, 104, 116, 115, 32]
theorem wg_txt : (("order weights " : Str)) = tx wgL := rfl
noncomputable def olL : List Nat := [111, 114, 100, 101, 114, 32, 108, 101, 110, 103, 116, 104]
theorem ol_txt : (("order length" : Str)) = tx olL := rfl
noncomputable def orL : List Nat := [111, 114, 100, 101, 114, 32, 114, 105, 103, 104, 116]
theorem or_txt : (("order right" : Str)) = tx orL := rfl
theorem split_piece (c : Nat) (l : List Nat) : ∀ p ∈ splitL c l, p.length ≤ l.length := by
  induction l with
  | nil =>
    intro p hp
    simp only [splitL, List.mem_singleton] at hp
    rw [hp]
    exact Nat.le_refl _
  | cons x r ih =>
    intro p hp
    unfold splitL at hp
    split at hp
    · rcases aa.mp hp with rfl | hp
      · exact Nat.zero_le _
      · exact Nat.le_succ_of_le (ih p hp)
    · split at hp
      · rename_i p' q' e
        rw [e] at ih
        rcases aa.mp hp with rfl | hp
        · exact Nat.succ_le_succ (ih p' List.mem_cons_self)
        · exact Nat.le_succ_of_le (ih p (List.mem_cons_of_mem _ hp))
      · rw [af.mp hp]
        exact Nat.succ_le_succ (Nat.zero_le _)
def numsOk (l : List Nat) (ps : List (List Nat)) : Prop := ps.length = l.length ∧ ∀ p ∈ ps, Dec7 p ∧ 1 ≤ valF p ∧ valF p ≤ 1000000
noncomputable instance (l : List Nat) (ps : List (List Nat)) : Decidable (numsOk l ps) := by unfold numsOk; infer_instance
noncomputable def ordR (l row : List Nat) : Option Bool := if row = olL ∨ row = orL then some true else if preB wgL row = true then some (decide (numsOk l (splitL 32 (row.drop 14)))) else none
structure TWM (P : Program) (w : World) (K : PySem.W.Frag) (mg : Str → Option Value) (base : Heap) (CO CR CW C CN : Addr) : Prop extends TOrd K mg CO CR CW where
  mO : DMk P w K mg base (CXx P w) 3 CO ["self", "letters"] (sp_oinitX K C)
  mR : DMk P w K mg base (CXx P w) 3 CR ["self", "letters"] (sp_oinitX K C)
  mW : DMk P w K mg base (CXx P w) 4 CW ["self", "letters", "weights"] (sp_winitX K CW C CN)
def OrK (K : PySem.W.Frag) (H : Hp) (o : Addr) (l : List Nat) : Prop := ∃ C dx fs, H o = some (.ins C dx fs) ∧ Cls K C ∧ NoAttr K C "letters" ∧ fs.lookup ("letters" : Str) = some (V.str (tx l))
def sp_orow (K : PySem.W.Frag) (CN CNR : Addr) : Sp := fun vs H Q E => ∃ l row : List Nat, vs = [.str (tx l), .str (tx row)] ∧ goodB l = true ∧ row.length ≤ 1000 ∧ (ordR l row = some true → ∀ (o : Addr) (H' : Hp), Same H H' → OrK K H' o l → H o = none → Q (.ref o) H') ∧ (ordR l row = some false → ∀ H', Same H H' → E (.ref CN) none H') ∧ (ordR l row = none → E (.ref CNR) none H)
theorem sc_order_of : FnScope ["letters", "row"] ["letters", "row"] (defScope s_order_of) := ⟨rfl, rfl, rfl, by symm, rfl, by symm, by symm⟩
theorem ok_order_of {f CO CR CW C CN CNR : Addr} {fd : FuncData} (B : Bt mg) (T : TWM P w K mg base CO CR CW C CN) (TR : TNR K mg CNR) (TT : TTx mg) (F : Fun K "order_of" "order_of" s_order_of f fd) (D_weight_of : Df P w K mg base (CXx P w) 2 "weight_of" ["text"] [] (sp_wgt CN)) : FnOk P w K mg base (CXx P w) 6 f fd ["letters", "row"] (sp_orow K CN CNR) := by
  obtain ⟨tW, gW⟩ := TT.we
  refine Fun.okX F sc_order_of (fun vs H Q E h => ?_) (fun cdv A outer s H vs Q E hr hx h => ?_)
  · obtain ⟨l, row, rfl, _⟩ := h
    rfl
  · obtain ⟨l, row, rfl, hg, hl, q1, q2, q3⟩ := h
    refine ⟨_, (pss_cut (ps_if (pt_cmpR op_eq (pv 1) pe_str (nomark _))
        (pss_one (ps_ret (mkCx hx T.mO hr rfl T.gO (pa_cons (pv 0) pa_nil))))
        pss_nil)
      (pss_cut (ps_if (pt_cmpR op_eq (pv 1) pe_str (nomark _))
        (pss_one (ps_ret (mkCx hx T.mR hr rfl T.gR (pa_cons (pv 0) pa_nil))))
        pss_nil)
      (pss_cut (ps_if (pt_bl (pe_bm PySem.F.plainAttrs_str PySem.F.slot_str_startswith PySem.F.type_str_startswith m_starts (pv 1) (pa_cons (pe_glob (v := .str "order weights ") rfl gW ⟨tW, rfl⟩) pa_nil)) (fun _ => rfl))
        (pss_one (ps_ret (mkCx hx T.mW hr rfl T.gW (pa_cons (pv 0) (pa_cons (pe_compX (EX := E) (own := ["piece"]) (caps := []) (ix := []) (tt := tYes) (te := (tCall (sp_wgt CN) [] E (tCons (tVar 0) tNil))) rfl (compOk_of (sc := defScope s_order_of) rfl (by symm) (by symm) (by symm) rfl (by symm) (by symm) rfl) ⟨rfl, rfl⟩ hx (pi_list (pe_bm PySem.F.plainAttrs_str PySem.F.slot_str_split PySem.F.type_str_split m_split (pe_slice sl_str (pv 1) (po_some (pe_callB c_len rfl B.len PySem.boot_len (pa_cons (pe_glob (v := .str "order weights ") rfl gW ⟨tW, rfl⟩) pa_nil))) po_none) (pa_cons pe_str pa_nil))) (fun _ _ _ _ _ _ => pg_name (i := 0) (show List.Nodup [_] by decide) rfl (.inl rfl)) (fun _ _ _ _ _ _ => pts_nil) (fun _ _ _ _ _ _ _ hxc => (clP hxc D_weight_of hr .nil rfl (pa_cons (pv 0) pa_nil)))) pa_nil)))))
        pss_nil)
      (pss_one (ps_raise0 hx rfl TR.xi.toXC TR.ini rfl TR.g ( (pa_cons pe_str pa_nil))))))), ?_⟩
    have s16 := sl16
    have s16 := sl16
    have b32 : ((" " : Str)) = tx [32] := rfl
    simp only [wg_txt, ol_txt, or_txt, b32]
    refine cut_by (fun σ H' => H' = H ∧ row ≠ olL ∧ σ = [some (.str (tx l)), some (.str (tx row))]) ?_ ?_
    · repeat (first | rfl' | simp only [tAlt, tMethF, rd_cz, tRev, rSum, rIndex])
      refine ite2 (fun h => ?_) fun h => h
      intro x dx hx hdx hne
      have sd := same_upd (o := .own x) hdx
      refine ⟨x, CO, dx, l, rfl, by have := (of_decide_eq_true hg).2.1; lia, T.cO, T.lO, upd_same, fun _ => ⟨rfl, q1 (if_pos (.inl h)) x _ (fun b o' e => ?_) ⟨CO, dx, _, upd_same, T.cO, T.lO, rfl⟩ hx⟩, fun e => by rw [hg] at e; cases e⟩
      rw [upd_ne (ne_of_none e hx), upd_ne (ne_of_none e hx)]
      exact sd _ _ e
    rintro σ H1 ⟨rfl, h1, rfl⟩
    refine cut_by (fun σ H' => H' = H1 ∧ row ≠ orL ∧ σ = [some (.str (tx l)), some (.str (tx row))]) ?_ ?_
    · repeat (first | rfl' | simp only [tAlt, tMethF, rd_cz, tRev, rSum, rIndex])
      refine ite2 (fun h => ?_) fun h => h
      intro x dx hx hdx hne
      have sd := same_upd (o := .own x) hdx
      refine ⟨x, CR, dx, l, rfl, by have := (of_decide_eq_true hg).2.1; lia, T.cR, T.lR, upd_same, fun _ => ⟨rfl, q1 (if_pos (.inr h)) x _ (fun b o' e => ?_) ⟨CR, dx, _, upd_same, T.cR, T.lR, rfl⟩ hx⟩, fun e => by rw [hg] at e; cases e⟩
      rw [upd_ne (ne_of_none e hx), upd_ne (ne_of_none e hx)]
      exact sd _ _ e
    rintro σ H1 ⟨rfl, h2, rfl⟩
    unfold ordR at q1 q2 q3
    rw [if_neg (fun h => h.elim h1 h2)] at q1 q2 q3
    refine cut_by (fun σ H' => H' = H1 ∧ preB wgL row = false ∧ σ = [some (.str (tx l)), some (.str (tx row))]) ?_ ?_
    · repeat (first | rfl' | simp only [tAlt, tMethF, rd_cz, tRev, rSum, rIndex])
      refine ⟨row, wgL, rfl, rfl, _, rfl, ?_⟩
      cases hp : preB wgL row with
      | false =>
        rw [if_neg Bool.false_ne_true]
        exact ⟨rfl, rfl⟩
      | true =>
        rw [if_pos hp] at q1 q2
        have hw14 : wgL.length = 14 := rfl
        rw [if_pos rfl, cut_from _ (Int.natCast_nonneg _), Int.toNat_natCast, hw14]
        have hsl := splitL_len 32 (row.drop 14)
        have hpl := split_piece 32 (row.drop 14)
        rw [List.length_drop] at hsl
        refine ⟨by lia, by lia, _, _, rfl, rfl, by rw [List.length_drop]; lia, fun E1 hE => ⟨E1, rfl, ⟨_, SqL.of upd_same⟩, fun D hD => ?_⟩⟩
        generalize splitL 32 (row.drop 14) = pp at hsl hpl q1 q2 hD ⊢
        have hpl' : ∀ p ∈ pp, p.length ≤ 1000 := fun p hp => by
          have := hpl p hp
          rw [List.length_drop] at this
          lia
        generalize hys : pp.map (fun p => V.str (tx p)) = ys at hD ⊢
        have hyl : ys.length = pp.length := by rw [← hys, List.length_map]
        have se := same_upd (o := .lst ys) hE
        refine CompL.by (xs := ys) (fun i acc H' => Same (upd H1 E1 (.lst ys)) H' ∧ H' D = some (.lst acc) ∧ acc = ((pp.take i).map fun p => V.int (valF p : Nat)) ∧ ∀ p ∈ pp.take i, Dec7 p) ⟨same_upd hD, upd_same, rfl, fun p h => absurd h List.not_mem_nil⟩ (fun i acc H' _ h => SqL.of (h.1 _ _ upd_same)) ?_ ?_
        · rintro i x acc H' hx ⟨hs, hH, rfl, hd⟩
          have hi := (ac.mp hx).1
          have hni : pp[i]? = some (pp[i]'(by lia)) := List.getElem?_eq_getElem (by lia)
          have hmem := List.mem_of_getElem? hni
          rw [← hys, List.getElem?_map, hni] at hx
          cases hx
          simp only [tYes]
          rfl'
          refine ⟨keeps0, _, rfl, hpl' _ hmem, fun hd' H'' s'' => ⟨s'' _ _ hH, by rw [List.length_map, List.length_take]; lia, CNx.mk hi ⟨same_over (hs.trans s'') hD, upd_same, ?_, ?_⟩⟩, fun hnd H'' s'' => q2 (congrArg some (decide_eq_false fun z => hnd (z.2 _ hmem).1)) H'' (se.trans (hs.trans s''))⟩
          · rw [take_one hni, List.map_append]
            rfl
          · rw [take_one hni]
            intro p hp
            rcases ae.mp hp with hp | hp
            · exact hd p hp
            · rw [af.mp hp]
              exact hd'
        · rintro acc H' ⟨hs, hH, rfl, hd⟩
          rw [hyl, List.take_length] at hH hd
          intro x dx hx hdx hne
          have sd := same_upd (o := .own x) hdx
          have k1 : ∀ b o', H' b = some o' → (upd (upd H' dx (.own x)) x (.ins CW dx [])) b = some o' := fun b o' e => by
            rw [upd_ne (ne_of_none e hx)]
            exact sd _ _ e
          have hs1 := se.trans hs
          have hiff : wOk l (pp.map fun p => ((valF p : Nat) : Int)) ↔ numsOk l pp := by
            unfold wOk numsOk
            rw [List.length_map]
            refine and_congr_right fun _ => ⟨fun h p hp => ⟨hd p hp, ?_⟩, fun h n hn => ?_⟩
            · have := h _ (ag.mpr ⟨p, hp, rfl⟩)
              lia
            · obtain ⟨p, hp, rfl⟩ := ag.mp hn
              have := (h p hp).2
              lia
          refine ⟨x, dx, D, l, pp.map fun p => ((valF p : Nat) : Int), rfl, by have := (of_decide_eq_true hg).2.1; lia, by rw [List.length_map]; lia, SqL.of ?_, upd_same, fun e : goodB l = false => absurd hg (by rw [e]; exact Bool.false_ne_true), fun _ hno => q2 (congrArg some (decide_eq_false fun z => hno (hiff.mpr z))) _ fun b o' e => ?_, fun _ hok w H2 kp hx' => ⟨rfl, q1 (congrArg some (decide_eq_true (hiff.mp hok))) x H2 (fun b o' e => kp b o' (ne_of_none (hs1 _ _ e) hx) (k1 b o' (hs1 _ _ e))) ⟨CW, dx, _, hx', T.cW, T.lW, rfl⟩ (hs1.free hx)⟩⟩
          · rw [k1 _ _ hH, List.map_map]
            rfl
          · rw [upd_ne (ne_of_none (hs1 _ _ e) hx)]
            exact k1 b o' (hs1 _ _ e)
    rintro σ H1 ⟨rfl, h3, rfl⟩
    rw [if_neg (by rw [h3]; exact Bool.false_ne_true)] at q3
    repeat (first | rfl' | simp only [tAlt, tMethF, rd_cz, tRev, rSum, rIndex])
    exact ⟨by lia, q3 rfl⟩
structure TDsk (K : PySem.W.Frag) (mg : Str → Option Value) (CD : Addr) : Prop where
  cl : Cls K CD
  g : mg "Desk" = some (.ref CD)
  no : NoAttr K CD "order"
  np : NoAttr K CD "pacts"
def PlAt (H : Hp) (pl : Addr) (ps : List Rule) : Prop := ∃ qs : List Addr, H pl = some (.lst (qs.map V.ref)) ∧ qs.length = ps.length ∧ ∀ (i : Nat) (q : Addr) (r : Rule), qs[i]? = some q → ps[i]? = some r → H q = some (.tup [.str (tx r.1), .str (tx r.2)])
def OrAt (K : PySem.W.Frag) (d : Addr) (H : Hp) (v : V) : Option (List Nat) → Prop
  | none => v = .non
  | some l => goodB l = true ∧ ∃ o, v = .ref o ∧ o ≠ d ∧ OrK K H o l
def DeskAt (K : PySem.W.Frag) (CD : Addr) (H : Hp) (d : Addr) (lo : Option (List Nat)) (pl : Addr) (ps : List Rule) : Prop := ∃ dx vo, H d = some (.ins CD dx [("order", vo), ("pacts", .ref pl)]) ∧ PlAt H pl ps ∧ OrAt K d H vo lo
def Kp (d pl : Addr) (H H' : Hp) : Prop := ∀ b o, b ≠ d → b ≠ pl → H b = some o → H' b = some o
theorem Kp.of {d pl : Addr} {H H' : Hp} (h : Same H H') : Kp d pl H H' := fun b o _ _ e => h b o e
theorem OrK.kp {d pl o : Addr} {l : List Nat} {xs : List V} {H H' : Hp} (h : OrK K H o l) (ho : o ≠ d) (hp : H pl = some (.lst xs)) (kp : Kp d pl H H') : OrK K H' o l := by
  obtain ⟨C, dx, fs, h1, h2⟩ := h
  exact ⟨C, dx, fs, kp _ _ ho (fun z => by rw [z, hp] at h1; cases h1) h1, h2⟩
theorem OrAt.kp {d pl : Addr} {v : V} {lo : Option (List Nat)} {xs : List V} {H H' : Hp} (h : OrAt K d H v lo) (hp : H pl = some (.lst xs)) (kp : Kp d pl H H') : OrAt K d H' v lo := by
  cases lo with
  | none => exact h
  | some l =>
    obtain ⟨hg, o, e, ho, h⟩ := h
    exact ⟨hg, o, e, ho, h.kp ho hp kp⟩
theorem PlAt.kp {d pl dx C : Addr} {fs : List (Str × V)} {ps : List Rule} {H H' : Hp} (h : PlAt H pl ps) (hd : H d = some (.ins C dx fs)) (kp : ∀ b o, b ≠ d → H b = some o → H' b = some o) : PlAt H' pl ps := by
  obtain ⟨qs, h1, h2, h3⟩ := h
  have nd : ∀ {b : Addr} {o' : HO}, H b = some o' → o' ≠ .ins C dx fs → b ≠ d := fun e n z => n (by rw [z, hd] at e; cases e; rfl)
  exact ⟨qs, kp _ _ (nd h1 (fun z => by cases z)) h1, h2, fun i q r a b => kp _ _ (nd (h3 i q r a b) (fun z => by cases z)) (h3 i q r a b)⟩
def sp_dinit (K : PySem.W.Frag) (CD : Addr) : Sp := fun vs H Q _ => ∃ x dx : Addr, vs = [.ref x] ∧ H x = some (.ins CD dx []) ∧ ∀ (pl : Addr) (H' : Hp), (∀ b o, b ≠ x → H b = some o → H' b = some o) → H pl = none → DeskAt K CD H' x none pl [] → Q .non H'
theorem sc_desk_init : FnScope ["self"] ["self"] (defScope s_desk_init) := ⟨rfl, rfl, rfl, by symm, rfl, by symm, by symm⟩
theorem ok_desk_init {f CD : Addr} {fd : FuncData} (B : Bt mg) (CL : TDsk K mg CD) (F : Fun K "__init__" "Desk.__init__" s_desk_init f fd)  : FnOk P w K mg base CX0 1 f fd ["self"] (sp_dinit K CD) := by
  refine F.ok sc_desk_init (fun vs H Q E h => ?_) (fun cdv A outer s H vs Q E hr h => ?_)
  · obtain ⟨x, dx, rfl, _⟩ := h
    rfl
  · obtain ⟨x, dx, rfl, hx, q⟩ := h
    refine ⟨_, (pss_cut (ps_fld (pv 0) pe_non rfl)
      (pss_one (ps_fld (pv 0) (pe_lst pa_nil) rfl))), ?_⟩
    have s16 := sl16
    refine cut_by (fun σ H' => H' = upd H x (.ins CD dx [("order", .non)]) ∧ σ = [some (.ref x)]) ?_ ?_
    · repeat (first | rfl' | simp only [tAlt, tMethF, rd_cz, tRev, rSum, rIndex])
      exact ⟨_, _, _, hx, CL.cl, CL.no, by decide, rfl⟩
    rintro σ H1 ⟨rfl, rfl⟩
    repeat (first | rfl' | simp only [tAlt, tMethF, rd_cz, tRev, rSum, rIndex])
    refine ⟨by lia, fun p hp => ?_⟩
    have hpx : p ≠ x := fun e => by rw [e, upd_same] at hp; cases hp
    have hp0 : H p = none := by rw [upd_ne hpx] at hp; exact hp
    refine ⟨CD, dx, [("order", .non)], by rw [upd_ne hpx.symm, upd_same], CL.cl, CL.np, by decide, q p _ (fun b o hb e => ?_) hp0 ⟨dx, .non, by rw [upd_same]; rfl, ⟨[], ?_, rfl, fun i q r h => by simp at h⟩, rfl⟩⟩
    · rw [upd_ne hb, upd_ne (ne_of_none e hp0), upd_ne hb]
      exact e
    · rw [upd_ne hpx, upd_same]
      rfl
noncomputable def leL : List Nat := [108, 101, 116, 116, 101, 114, 115, 32]
theorem le_txt : (("letters " : Str)) = tx leL := rfl
noncomputable def paL : List Nat := [112, 97, 99, 116, 32]
theorem pa_txt : (("pact " : Str)) = tx paL := rfl
noncomputable def foL : List Nat := [102, 111, 114, 109, 32]
theorem fo_txt : (("form " : Str)) = tx foL := rfl
noncomputable def akL : List Nat := [97, 115, 107, 32]
theorem ak_txt : (("ask " : Str)) = tx akL := rfl
noncomputable def drL : List Nat := [100, 114, 111, 112]
theorem dr_txt : (("drop" : Str)) = tx drL := rfl
noncomputable def ruL : List Nat := [114, 117, 108, 101, 115]
theorem ru_txt : (("rules" : Str)) = tx ruL := rfl
def sp_begun (K : PySem.W.Frag) (CD C : Addr) : Sp := fun vs H Q E => ∃ (d pl : Addr) (lo : Option (List Nat)) (ps : List Rule) (l : List Nat), vs = [.ref d, .str (tx (leL ++ l))] ∧ DeskAt K CD H d lo pl ps ∧ l.length ≤ 1000 ∧ (goodB l = true → ∀ (pl' : Addr) (H' : Hp), Kp d pl H H' → H pl' = none → DeskAt K CD H' d (some l) pl' [] → Q (.str (tx (leL ++ l))) H') ∧ (goodB l = false → ∀ H', Same H H' → E (.ref C) none H')
theorem sc_desk_begun : FnScope ["self", "row"] ["self", "row"] (defScope s_desk_begun) := ⟨rfl, rfl, rfl, by symm, rfl, by symm, by symm⟩
theorem ok_desk_begun {f CO CR CW C CN CD : Addr} {fd : FuncData} (B : Bt mg) (CL : TDsk K mg CD) (T : TWM P w K mg base CO CR CW C CN) (TT : TTx mg) (F : Fun K "begun" "Desk.begun" s_desk_begun f fd)  : FnOk P w K mg base (CXx P w) 6 f fd ["self", "row"] (sp_begun K CD C) := by
  obtain ⟨tL, gL⟩ := TT.le
  refine Fun.okX F sc_desk_begun (fun vs H Q E h => ?_) (fun cdv A outer s H vs Q E hr hx h => ?_)
  · obtain ⟨d, pl, lo, ps, l, rfl, _⟩ := h
    rfl
  · obtain ⟨d, pl, lo, ps, l, rfl, hd, hl, q, q2⟩ := h
    refine ⟨_, (pss_cut (ps_fld (pv 0) (mkCx hx T.mO hr rfl T.gO (pa_cons (pe_slice sl_str (pv 1) (po_some (pe_callB c_len rfl B.len PySem.boot_len (pa_cons (pe_glob (v := .str "letters ") rfl gL ⟨tL, rfl⟩) pa_nil))) po_none) pa_nil)) rfl)
      (pss_cut (ps_fld (pv 0) (pe_lst pa_nil) rfl)
      (pss_one (ps_ret (pv 1))))), ?_⟩
    have s16 := sl16
    have s16 := sl16
    simp only [le_txt]
    obtain ⟨dx, vo, hd1, hd2, hd3⟩ := hd
    refine cut_by (fun σ H' => goodB l = true ∧ ∃ o : Addr, (∀ b o', b ≠ d → H b = some o' → H' b = some o') ∧ H o = none ∧ o ≠ d ∧ (∃ dx', H' o = some (.ins CO dx' [("letters", .str (tx l))])) ∧ H' d = some (.ins CD dx [("order", .ref o), ("pacts", .ref pl)]) ∧ σ = [some (.ref d), some (.str (tx (leL ++ l)))]) ?_ ?_
    · repeat (first | rfl' | simp only [tAlt, tMethF, rd_cz, tRev, rSum, rIndex])
      have h8 : leL.length = 8 := rfl
      rw [cut_from _ (Int.natCast_nonneg _), Int.toNat_natCast, List.drop_left]
      refine ⟨by lia, by rw [List.length_append]; lia, fun x dx1 hx hdx hne => ?_⟩
      have n1 : d ≠ x := ne_of_none hd1 hx
      have n2 : d ≠ dx1 := ne_of_none hd1 hdx
      refine ⟨x, CO, dx1, l, rfl, hl, T.cO, T.lO, upd_same, fun hg => ⟨rfl, CD, dx, [("order", vo), ("pacts", .ref pl)], ?_, CL.cl, CL.no, (show 2 < 1000 by decide), hg, fun b o' hb e => ?_, x, hx, n1.symm, ⟨dx1, ?_⟩, ?_⟩, fun hb => q2 hb _ fun b o' e => ?_⟩
      · rw [upd_ne n1, upd_ne n1, upd_ne n2]
        exact hd1
      · rw [upd_ne hb, upd_ne (ne_of_none e hx), upd_ne (ne_of_none e hx), upd_ne (ne_of_none e hdx)]
        exact e
      · rw [upd_ne n1.symm, upd_same]
      · rw [upd_same]
        rfl
      · rw [upd_ne (ne_of_none e hx), upd_ne (ne_of_none e hdx)]
        exact e
    rintro σ H1 ⟨hg, o, k1, ho, hod, ⟨dx', ho2⟩, hd4, rfl⟩
    refine cut_by (fun σ H' => ∃ pl' : Addr, Kp d pl H H' ∧ H pl' = none ∧ DeskAt K CD H' d (some l) pl' [] ∧ σ = [some (.ref d), some (.str (tx (leL ++ l)))]) ?_ ?_
    · repeat (first | rfl' | simp only [tAlt, tMethF, rd_cz, tRev, rSum, rIndex])
      refine ⟨by lia, fun p hp => ?_⟩
      have hpd : d ≠ p := ne_of_none hd4 hp
      have hp0 : H p = none := by
        cases e : H p with
        | none => rfl
        | some o' => rw [k1 p o' hpd.symm e] at hp; cases hp
      refine ⟨CD, dx, [("order", .ref o), ("pacts", .ref pl)], by rw [upd_ne hpd]; exact hd4, CL.cl, CL.np, (show 2 < 1000 by decide), fun b o' h1 h2 e => ?_, p, hp0, dx, .ref o, by rw [upd_same]; rfl, ⟨[], ?_, rfl, fun i q r h => by simp at h⟩, hg, o, rfl, hod, ⟨CO, dx', [("letters", .str (tx l))], ?_, T.cO, T.lO, rfl⟩⟩
      · rw [upd_ne h1, upd_ne (ne_of_none (k1 b o' h1 e) hp)]
        exact k1 b o' h1 e
      · rw [upd_ne hpd.symm, upd_same]
        rfl
      · rw [upd_ne hod, upd_ne (ne_of_none ho2 hp)]
        exact ho2
    rintro σ H2 ⟨pl', k2, hpl, hD, rfl⟩
    rfl'
    exact q hg pl' H2 k2 hpl hD
def sp_ordered (K : PySem.W.Frag) (CD CN CNR : Addr) : Sp := fun vs H Q E => ∃ (d pl : Addr) (ps : List Rule) (l row : List Nat), vs = [.ref d, .str (tx row)] ∧ DeskAt K CD H d (some l) pl ps ∧ row.length ≤ 1000 ∧ (ordR l row = some true → ∀ H' : Hp, Kp d pl H H' → DeskAt K CD H' d (some l) pl ps → Q (.str (tx row)) H') ∧ (ordR l row = some false → ∀ H', Same H H' → E (.ref CN) none H') ∧ (ordR l row = none → E (.ref CNR) none H)
theorem sc_desk_ordered : FnScope ["self", "row"] ["self", "row"] (defScope s_desk_ordered) := ⟨rfl, rfl, rfl, by symm, rfl, by symm, by symm⟩
theorem ok_desk_ordered {f CN CNR CD : Addr} {fd : FuncData} (B : Bt mg) (CL : TDsk K mg CD) (F : Fun K "ordered" "Desk.ordered" s_desk_ordered f fd) (D_order_of : Df P w K mg base (CXx P w) 6 "order_of" ["letters", "row"] [] (sp_orow K CN CNR)) : FnOk P w K mg base (CXx P w) 7 f fd ["self", "row"] (sp_ordered K CD CN CNR) := by
  refine Fun.okX F sc_desk_ordered (fun vs H Q E h => ?_) (fun cdv A outer s H vs Q E hr hx h => ?_)
  · obtain ⟨d, pl, ps, l, row, rfl, _⟩ := h
    rfl
  · obtain ⟨d, pl, ps, l, row, rfl, hd, hl, q1, q2, q3⟩ := h
    refine ⟨_, (pss_cut (ps_fld (pv 0) (clP hx D_order_of hr .nil rfl (pa_cons (pe_fld (pe_fld (pv 0) rfl) rfl) (pa_cons (pv 1) pa_nil))) rfl)
      (pss_one (ps_ret (pv 1)))), ?_⟩
    have s16 := sl16
    obtain ⟨dx, vo, hd1, hd2, hg, o, rfl, hod, ho⟩ := hd
    obtain ⟨Co, dxo, fso, ho1, ho2, ho3, ho4⟩ := ho
    refine cut_by (fun σ H' => Kp d pl H H' ∧ DeskAt K CD H' d (some l) pl ps ∧ ordR l row = some true ∧ σ = [some (.ref d), some (.str (tx row))]) ?_ ?_
    · repeat (first | rfl' | simp only [tAlt, tMethF, rd_cz, tRev, rSum, rIndex])
      obtain ⟨qs, hpl, _, _⟩ := id hd2
      refine ⟨CD, dx, _, hd1, CL.cl, CL.no, _, rfl, o, rfl, Co, dxo, fso, ho1, ho2, ho3, _, ho4, l, row, rfl, hg, hl, fun hok o' H1 s1 ho' hn => ?_, q2, q3⟩
      have n1 : o' ≠ d := (ne_of_none hd1 hn).symm
      refine ⟨CD, dx, _, s1 _ _ hd1, CL.cl, CL.no, (show 2 < 1000 by decide), fun b o'' h1 h2 e => by rw [upd_ne h1]; exact s1 _ _ e, ⟨dx, .ref o', by rw [upd_same]; rfl, hd2.kp hd1 (fun b o'' hb e => by rw [upd_ne hb]; exact s1 _ _ e), hg, o', rfl, n1, ho'.kp n1 (s1 _ _ hpl) fun b o'' h1 h2 e => by rw [upd_ne h1]; exact e⟩, hok⟩
    rintro σ H2 ⟨k2, hD, hok, rfl⟩
    rfl'
    exact q1 hok H2 k2 hD
theorem use_strI {n : Nat} {H : Hp} {Q : VK} (hn : n < 10000000) (h : Q (.str (tx (dec n))) H) : rStrI [.int (n : Nat)] H Q := by
  refine ⟨_, rfl, ?_, ?_⟩
  · show Nat.log2 n < 1920
    by_cases z : n = 0
    · subst z
      decide
    · exact Nat.lt_trans ((Nat.log2_lt (k := 24) z).mpr (by lia)) (by decide)
  · rw [dec_txt]
    exact h
def sp_agreed (K : PySem.W.Frag) (CD CTM CNW CNP : Addr) : Sp := fun vs H Q E => ∃ (d pl : Addr) (ps : List Rule) (l text : List Nat), vs = [.ref d, .str (tx text)] ∧ DeskAt K CD H d (some l) pl ps ∧ text.length ≤ 1000 ∧ ps.length ≤ 8 ∧ (parts sepL text = none → E (.ref CNP) none H) ∧ ∀ a b, parts sepL text = some (a, b) → (∀ k : Nat, pairF l a b 10 = some k → ∀ d' H', Fell H d' "place" (.int (k : Nat)) H' → E (.ref CNW) (some d') H') ∧
  (pairF l a b 10 = none → (ps.length = 8 → ∀ H', Same H H' → E (.ref CTM) none H') ∧ (ps.length < 8 → ∀ H' : Hp, Kp d pl H H' → DeskAt K CD H' d (some l) pl (ps ++ [(rwOut a, rwOut b)]) → Q (.str (tx (paL ++ dec ps.length))) H'))
theorem sc_desk_agreed : FnScope ["self", "text", "pact"] ["self", "text"] (defScope s_desk_agreed) := ⟨rfl, rfl, rfl, by symm, rfl, by symm, by symm⟩
theorem ok_desk_agreed {f CD CTM CNW CNP : Addr} {fd : FuncData} {dt_read_pact : Tok} (B : Bt mg) (CL : TDsk K mg CD) (TT : TTx mg) (TM : TMy K mg CTM) (F : Fun K "agreed" "Desk.agreed" s_desk_agreed f fd) (D_read_pact : Df P w K mg base (CXx P w) 5 "read_pact" ["letters", "text", "most"] [] (sp_rdp CNW CNP)) (DD_read_pact : Df P w K mg base (CXx P w) 5 "read_pact" ["letters", "text", "most"] [.int 60 dt_read_pact] (sp_rdp CNW CNP)) : FnOk P w K mg base (CXx P w) 6 f fd ["self", "text"] (sp_agreed K CD CTM CNW CNP) := by
  obtain ⟨tP, gP⟩ := TT.pa; obtain ⟨t8, g8⟩ := TT.m8; obtain ⟨tA, gA⟩ := TT.mA
  refine Fun.okX F sc_desk_agreed (fun vs H Q E h => ?_) (fun cdv A outer s H vs Q E hr hx h => ?_)
  · obtain ⟨d, pl, ps, l, text, rfl, _⟩ := h
    rfl
  · obtain ⟨d, pl, ps, l, text, rfl, hd, hl, h8, q1, q2⟩ := h
    refine ⟨_, (pss_cut (ps_set (i := 2) sc_desk_agreed.nd rfl (.inl rfl) (clP hx D_read_pact hr .nil rfl (pa_cons (pe_fld (pe_fld (pv 0) rfl) rfl) (pa_cons (pv 1) (pa_cons (pe_glob (v := .int 10) rfl gA ⟨tA, rfl⟩) pa_nil)))))
      (pss_cut (ps_if (pt_cmpR op_ge' (pe_callB c_len rfl B.len PySem.boot_len (pa_cons (pe_fld (pv 0) rfl) pa_nil)) (pe_glob (v := .int 8) rfl g8 ⟨t8, rfl⟩) (nomark _))
        (pss_one (ps_raise0 hx rfl TM.xi.toXC TM.ini rfl TM.g ( (pa_cons pe_str pa_nil))))
        pss_nil)
      (pss_cut (ps_expr (pe_bm PySem.F.plainAttrs_list PySem.F.slot_list_append PySem.F.type_list_append mt_append (pe_fld (pv 0) rfl) (pa_cons (pv 2) pa_nil)))
      (pss_one (ps_ret (pe_op op_add_str (pe_glob (v := .str "pact ") rfl gP ⟨tP, rfl⟩) (pe_callTy c_strI rfl B.str PySem.Pv.boot_str (pa_cons (pe_op op_sub (pe_callB c_len rfl B.len PySem.boot_len (pa_cons (pe_fld (pv 0) rfl) pa_nil)) pe_int) pa_nil)))))))), ?_⟩
    have s16 := sl16
    have s16 := sl16
    simp only [pa_txt]
    obtain ⟨dx, vo, hd1, hd2, hg, o, rfl, hod, ho⟩ := hd
    obtain ⟨Co, dxo, fso, ho1, ho2, ho3, ho4⟩ := id ho
    obtain ⟨qs, hpl, hql, hq⟩ := id hd2
    refine cut_by (fun σ H' => Same H H' ∧ ∃ (a b : List Nat) (p : Addr), (parts sepL text = some (a, b) ∧ pairF l a b 10 = none) ∧ H' p = some (.tup [.str (tx (rwOut a)), .str (tx (rwOut b))]) ∧ H p = none ∧ σ = [some (.ref d), some (.str (tx text)), some (.ref p)]) ?_ ?_
    · repeat (first | rfl' | simp only [tAlt, tMethF, rd_cz, tRev, rSum, rIndex])
      exact ⟨CD, dx, _, hd1, CL.cl, CL.no, _, rfl, o, rfl, Co, dxo, fso, ho1, ho2, ho3, _, ho4, l, text, 10, rfl, hl, q1, fun a b hp => ⟨(q2 a b hp).1, fun hn p H' s' hp' hn' => ⟨s', a, b, hp, hn, p, hp', hn', rfl⟩⟩⟩
    rintro σ H1 ⟨s1, a, b, p, ⟨hpa, hok⟩, hp, hn, rfl⟩
    obtain ⟨q3, q4⟩ := (q2 a b hpa).2 hok
    refine cut_by (fun σ H' => H' = H1 ∧ ps.length < 8 ∧ σ = [some (.ref d), some (.str (tx text)), some (.ref p)]) ?_ ?_
    · repeat (first | rfl' | simp only [tAlt, tMethF, rd_cz, tRev, rSum, rIndex])
      exact ⟨CD, dx, _, s1 _ _ hd1, CL.cl, CL.np, _, rfl, _, .inl ⟨_, SqL.of (s1 _ _ hpl), rfl⟩, ite2 (fun h => ⟨by lia, q3 (by rw [List.length_map] at h; lia) H1 s1⟩) fun h => by rw [List.length_map] at h; lia⟩
    rintro σ H2 ⟨rfl, hlt, rfl⟩
    have ndp : d ≠ pl := fun e => by rw [e, hpl] at hd1; cases hd1
    refine cut_by (fun σ H' => Kp d pl H H' ∧ DeskAt K CD H' d (some l) pl (ps ++ [(rwOut a, rwOut b)]) ∧ σ = [some (.ref d), some (.str (tx text)), some (.ref p)]) ?_ ?_
    · repeat (first | rfl' | simp only [tAlt, tMethF, rd_cz, tRev, rSum, rIndex])
      have kp : Kp d pl H (upd H2 pl (.lst (qs.map V.ref ++ [.ref p]))) := fun b o' h1 h2 e => by rw [upd_ne h2]; exact s1 _ _ e
      refine ⟨CD, dx, _, s1 _ _ hd1, CL.cl, CL.np, _, rfl, .inl ⟨_, SqL.of (s1 _ _ hpl)⟩, pl, rfl, _, s1 _ _ hpl, by rw [List.length_map]; lia, kp, dx, .ref o, by rw [upd_ne ndp]; exact s1 _ _ hd1, ⟨qs ++ [p], by rw [upd_same, List.map_append]; rfl, by rw [List.length_append, List.length_append, hql]; rfl, fun i x r h1 h2 => ?_⟩, hg, o, rfl, hod, ho.kp hod hpl kp⟩
      by_cases hi : i < qs.length
      · rw [List.getElem?_append_left hi] at h1
        rw [List.getElem?_append_left (by lia)] at h2
        have e := s1 _ _ (hq i x r h1 h2)
        rw [upd_ne (fun z => by rw [z, s1 _ _ hpl] at e; cases e)]
        exact e
      · rw [List.getElem?_append_right (by lia)] at h1 h2
        have e0 : i - qs.length = 0 := by
          have := (ac.mp h1).1
          rw [List.length_singleton] at this
          lia
        rw [e0] at h1
        rw [← hql, e0] at h2
        cases h1
        cases h2
        rw [upd_ne (fun z => by rw [z, hpl] at hn; cases hn)]
        exact hp
    rintro σ H3 ⟨k3, hD, rfl⟩
    repeat (first | rfl' | simp only [tAlt, tMethF, rd_cz, tRev, rSum, rIndex])
    obtain ⟨dx', vo', h1, ⟨qs', h2, h3, _⟩, _⟩ := id hD
    have hl' : (qs'.map V.ref).length = ps.length + 1 := by rw [List.length_map, h3, List.length_append]; rfl
    refine ⟨CD, dx', _, h1, CL.cl, CL.np, _, rfl, _, .inl ⟨_, SqL.of h2, rfl⟩, ?_⟩
    rw [hl', show ((ps.length + 1 : Nat) : Int) - 1 = (ps.length : Int) by lia]
    have hdl := (dec7 (n := ps.length) (by lia)).2.1
    have h5 : paL.length = 5 := rfl
    refine use_strI (by lia) ⟨_, rfl, by rw [len_tx]; lia, ?_⟩
    rw [tx_append]
    exact q4 hlt H3 k3 hD
def sp_dropped (K : PySem.W.Frag) (CD CNR : Addr) : Sp := fun vs H Q E => ∃ (d pl : Addr) (ps : List Rule) (lo : Option (List Nat)), vs = [.ref d] ∧ DeskAt K CD H d lo pl ps ∧ (∀ r ∈ ps, r.1.length ≤ 1000 ∧ r.2.length ≤ 1000) ∧ ps.length ≤ 8 ∧ (ps = [] → E (.ref CNR) none H) ∧ (∀ ps' r, ps = ps' ++ [r] → ∀ H' : Hp, Kp d pl H H' → DeskAt K CD H' d lo pl ps' → Q (.str (tx (paL ++ (shW r.1 ++ sepL ++ shW r.2)))) H')
theorem sc_desk_dropped : FnScope ["self"] ["self"] (defScope s_desk_dropped) := ⟨rfl, rfl, rfl, by symm, rfl, by symm, by symm⟩
theorem ok_desk_dropped {f CD CNR : Addr} {fd : FuncData} (B : Bt mg) (CL : TDsk K mg CD) (TT : TTx mg) (TR : TNR K mg CNR) (F : Fun K "dropped" "Desk.dropped" s_desk_dropped f fd) (D_shown_pact : Df P w K mg base CX0 2 "shown_pact" ["pact"] [] (sp_shown_pact K)) : FnOk P w K mg base (CXx P w) 3 f fd ["self"] (sp_dropped K CD CNR) := by
  obtain ⟨tP, gP⟩ := TT.pa
  refine Fun.okX F sc_desk_dropped (fun vs H Q E h => ?_) (fun cdv A outer s H vs Q E hr hx h => ?_)
  · obtain ⟨d, pl, ps, lo, rfl, _⟩ := h
    rfl
  · obtain ⟨d, pl, ps, lo, rfl, hd, hb, h8, q1, q⟩ := h
    refine ⟨_, (pss_cut (ps_if (pt_cmpR op_eq (pe_callB c_len rfl B.len PySem.boot_len (pa_cons (pe_fld (pv 0) rfl) pa_nil)) pe_int (nomark _))
        (pss_one (ps_raise0 hx rfl TR.xi.toXC TR.ini rfl TR.g ( (pa_cons pe_str pa_nil))))
        pss_nil)
      (pss_one (ps_ret (pe_op op_add_str (pe_glob (v := .str "pact ") rfl gP ⟨tP, rfl⟩) (cl0 D_shown_pact hr .nil rfl (pa_cons (pe_bm0 PySem.F.plainAttrs_list PySem.F.slot_list_pop PySem.F.type_list_pop mt_pop (pe_fld (pv 0) rfl)) pa_nil)))))), ?_⟩
    have s16 := sl16
    simp only [pa_txt]
    obtain ⟨dx, vo, hd1, hd2, hd3⟩ := hd
    obtain ⟨qs, hpl, hql, hq⟩ := id hd2
    have ndp : d ≠ pl := fun e => by rw [e, hpl] at hd1; cases hd1
    refine cut_by (fun σ H' => H' = H ∧ ps ≠ [] ∧ σ = [some (.ref d)]) ?_ ?_
    · repeat (first | rfl' | simp only [tAlt, tMethF, rd_cz, tRev, rSum, rIndex])
      exact ⟨CD, dx, _, hd1, CL.cl, CL.np, _, rfl, _, .inl ⟨_, SqL.of hpl, rfl⟩, ite2 (fun h => ⟨by lia, q1 (List.length_eq_zero_iff.mp (by rw [List.length_map] at h; lia))⟩) fun h e => h (by rw [List.length_map, hql, e]; rfl)⟩
    rintro σ H1 ⟨rfl, hne, rfl⟩
    obtain ⟨ps', r, rfl⟩ : ∃ ps' r, ps = ps' ++ [r] := ⟨ps.dropLast, ps.getLast hne, (List.dropLast_concat_getLast hne).symm⟩
    have hqn : qs ≠ [] := fun e => by rw [e, List.length_append] at hql; simp at hql
    obtain ⟨qs', q0, rfl⟩ : ∃ qs' q, qs = qs' ++ [q] := ⟨qs.dropLast, qs.getLast hqn, (List.dropLast_concat_getLast hqn).symm⟩
    have hql' : qs'.length = ps'.length := by rw [List.length_append, List.length_append] at hql; simpa using hql
    have hq0 : H1 q0 = some (.tup [.str (tx r.1), .str (tx r.2)]) := hq qs'.length q0 r (by rw [List.getElem?_append_right (Nat.le_refl _), Nat.sub_self]; rfl) (by rw [hql', List.getElem?_append_right (Nat.le_refl _), Nat.sub_self]; rfl)
    have nt : ∀ {x : Addr} {vs : List V}, H1 x = some (.tup vs) → x ≠ pl := fun e z => by rw [z, hpl] at e; cases e
    obtain ⟨b1, b2⟩ := hb r (List.mem_append_right _ List.mem_cons_self)
    have kp : Kp d pl H1 (upd H1 pl (.lst (qs'.map V.ref))) := fun b o' h1 h2 e => by rw [upd_ne h2]; exact e
    repeat (first | rfl' | simp only [tAlt, tMethF, rd_cz, tRev, rSum, rIndex])
    refine ⟨CD, dx, _, hd1, CL.cl, CL.np, _, rfl, .inl ⟨_, SqL.of hpl⟩, pl, _, .ref q0, rfl, rfl, hpl, by simp, ?_⟩
    rw [show ((qs' ++ [q0]).map V.ref).dropLast = qs'.map V.ref by simp]
    have h5 : paL.length = 5 := rfl
    have h3 : sepL.length = 3 := rfl
    have hs : ∀ l : List Nat, l.length ≤ 1000 → (shW l).length ≤ 1000 := fun l h => by
      unfold shW
      split
      · decide
      · exact h
    have c1 := hs _ b1
    have c2 := hs _ b2
    refine ⟨q0, r.1, r.2, rfl, SqT.of (by rw [upd_ne (nt hq0)]; exact hq0), b1, b2, _, rfl, by rw [len_tx, List.length_append, List.length_append]; lia, ?_⟩
    rw [tx_append]
    refine q ps' r rfl _ kp ⟨dx, vo, by rw [upd_ne ndp]; exact hd1, ⟨qs', upd_same, hql', fun i x r' h1 h2 => ?_⟩, hd3.kp hpl kp⟩
    have hi := (ac.mp h1).1
    have e := hq i x r' (by rw [List.getElem?_append_left hi]; exact h1) (by rw [List.getElem?_append_left (by lia)]; exact h2)
    rw [upd_ne (nt e)]
    exact e
theorem parts_spec {y l a b : List Nat} (h : parts y l = some (a, b)) : l = a ++ y ++ b := by
  unfold parts at h
  obtain ⟨e, he, h2⟩ := aj.mp h
  obtain ⟨h3, h4⟩ := of_decide_eq_true (p := PaAt y l e) (by simpa using List.find?_some he)
  cases h2
  have e1 : l.drop e = y ++ l.drop (e + y.length) := by
    have := (List.take_append_drop y.length (l.drop e)).symm
    rw [h4, List.drop_drop] at this
    exact this
  rw [List.append_assoc, ← e1, List.take_append_drop]
theorem parts_len {y l a b : List Nat} (h : parts y l = some (a, b)) : a.length ≤ l.length ∧ b.length ≤ l.length := by
  have := congrArg List.length (parts_spec h)
  rw [List.length_append, List.length_append] at this
  lia
def spNever : Sp := fun _ _ _ _ => False
def sp_formed (K : PySem.W.Frag) (CD CNW : Addr) : Sp := fun vs H _ E => ∃ (d pl : Addr) (ps : List Rule) (l text : List Nat) (k : Nat), vs = [.ref d, .str (tx text)] ∧ DeskAt K CD H d (some l) pl ps ∧ text.length ≤ 1000 ∧ faultL l text 20 = some k ∧ ∀ d' H', Fell H d' "place" (.int (k : Nat)) H' → E (.ref CNW) (some d') H'
theorem ok_completed {f : Addr} {fd : FuncData} (B : Bt mg) (F : Fun K "completed" "completed" s_completed f fd) : FnOk P w K mg base (CXx P w) 1 f fd ["order", "pacts", "rounds"] spNever := ⟨fun _ _ _ _ h => h.elim, fun _ _ _ _ _ _ _ _ _ _ _ _ _ h => h.elim⟩
theorem ok_gone_within {f : Addr} {fd : FuncData} (B : Bt mg) (F : Fun K "gone_within" "gone_within" s_gone_within f fd) : FnOk P w K mg base (CXx P w) 1 f fd ["entries", "word"] spNever := ⟨fun _ _ _ _ h => h.elim, fun _ _ _ _ _ _ _ _ _ _ _ _ _ h => h.elim⟩
theorem ok_rooms_for {f : Addr} {fd : FuncData} (B : Bt mg) (F : Fun K "rooms_for" "rooms_for" s_rooms_for f fd) : FnOk P w K mg base CX0 1 f fd ["letters"] spNever := ⟨fun _ _ _ _ h => h.elim, fun _ _ _ _ _ _ _ _ _ _ _ _ _ h => h.elim⟩
theorem ok_judged {f : Addr} {fd : FuncData} (B : Bt mg) (F : Fun K "judged" "judged" s_judged f fd) : FnOk P w K mg base (CXx P w) 1 f fd ["order", "pacts", "one", "other", "rounds", "most"] spNever := ⟨fun _ _ _ _ h => h.elim, fun _ _ _ _ _ _ _ _ _ _ _ _ _ h => h.elim⟩
theorem ok_shown_answer {f : Addr} {fd : FuncData} (B : Bt mg) (F : Fun K "shown_answer" "shown_answer" s_shown_answer f fd) : FnOk P w K mg base CX0 1 f fd ["answer"] spNever := ⟨fun _ _ _ _ h => h.elim, fun _ _ _ _ _ _ _ _ _ _ _ _ _ h => h.elim⟩
theorem ok_desk_completion {f : Addr} {fd : FuncData} (B : Bt mg) (F : Fun K "completion" "Desk.completion" s_desk_completion f fd) : FnOk P w K mg base (CXx P w) 1 f fd ["self"] spNever := ⟨fun _ _ _ _ h => h.elim, fun _ _ _ _ _ _ _ _ _ _ _ _ _ h => h.elim⟩
theorem sc_desk_formed : FnScope ["self", "text", "word", "outcome", "end"] ["self", "text"] (defScope s_desk_formed) := ⟨rfl, rfl, rfl, by symm, rfl, by symm, by symm⟩
theorem ok_desk_formed {f CD CNW : Addr} {fd : FuncData} {dt_read_word : Tok} (B : Bt mg) (CL : TDsk K mg CD) (TT : TTx mg) (F : Fun K "formed" "Desk.formed" s_desk_formed f fd) (D_read_word : Df P w K mg base (CXx P w) 4 "read_word" ["letters", "text", "most"] [] (sp_rdw CNW)) (DD_read_word : Df P w K mg base (CXx P w) 4 "read_word" ["letters", "text", "most"] [.int 60 dt_read_word] (sp_rdw CNW)) (D_completed : Df P w K mg base (CXx P w) 1 "completed" ["order", "pacts", "rounds"] [] spNever) (D_gone_within : Df P w K mg base (CXx P w) 1 "gone_within" ["entries", "word"] [] spNever) (D_shown_word : Df P w K mg base CX0 1 "shown_word" ["word"] [] sp_shown_word) : FnOk P w K mg base (CXx P w) 5 f fd ["self", "text"] (sp_formed K CD CNW) := by
  obtain ⟨tF, gF⟩ := TT.fo; obtain ⟨tW, gW⟩ := TT.mW; obtain ⟨t3, g3⟩ := TT.m3
  refine Fun.okX F sc_desk_formed (fun vs H Q E h => ?_) (fun cdv A outer s H vs Q E hr hx h => ?_)
  · obtain ⟨d, pl, ps, l, text, k, rfl, _⟩ := h
    rfl
  · obtain ⟨d, pl, ps, l, text, k, rfl, hd, hl, hk, q⟩ := h
    refine ⟨_, (pss_cut (ps_set (i := 2) sc_desk_formed.nd rfl (.inl rfl) (clP hx D_read_word hr .nil rfl (pa_cons (pe_fld (pe_fld (pv 0) rfl) rfl) (pa_cons (pv 1) (pa_cons (pe_glob (v := .int 20) rfl gW ⟨tW, rfl⟩) pa_nil)))))
      (pss_cut (ps_set (i := 3) sc_desk_formed.nd rfl (.inl rfl) (clP hx D_completed hr .nil rfl (pa_cons (pe_fld (pv 0) rfl) (pa_cons (pe_fld (pv 0) rfl) (pa_cons (pe_glob (v := .int 3) rfl g3 ⟨t3, rfl⟩) pa_nil)))))
      (pss_cut (ps_set (i := 4) sc_desk_formed.nd rfl (.inl rfl) (clP hx D_gone_within hr .nil rfl (pa_cons (pe_ix ix_tup (pv 3) pe_int (fun _ _ => rfl)) (pa_cons (pv 2) pa_nil))))
      (pss_cut (ps_if (PW.pt (pw_or (pt_not (pt_bl (pe_ix ix_tup (pv 3) pe_int (fun _ _ => rfl)) (fun _ => rfl))) (pw_or1 (pt_cmpR op_isN' (pv 4) pe_non (nomark _)))))
        (pss_one (ps_ret pe_str))
        pss_nil)
      (pss_one (ps_ret (pe_op op_addA (pe_glob (v := .str "form ") rfl gF ⟨tF, rfl⟩) (cl0 D_shown_word hr .nil rfl (pa_cons (pe_ix ix_tup (pv 4) pe_int (fun _ _ => rfl)) pa_nil))))))))), ?_⟩
    have s16 := sl16
    obtain ⟨dx, vo, hd1, hd2, hg, o, rfl, hod, ho⟩ := hd
    obtain ⟨Co, dxo, fso, ho1, ho2, ho3, ho4⟩ := id ho
    refine cut_by (fun σ H' => False) ?_ fun _ _ h => h.elim
    repeat (first | rfl' | simp only [tAlt, tMethF, rd_cz, tRev, rSum, rIndex])
    exact ⟨CD, dx, _, hd1, CL.cl, CL.no, _, rfl, o, rfl, Co, dxo, fso, ho1, ho2, ho3, _, ho4, l, text, 20, rfl, hl, fun h => (by rw [hk] at h; cases h), fun k' h d' H' hf => by rw [hk] at h; cases h; exact q d' H' hf⟩
def sp_dasked (K : PySem.W.Frag) (CD CNW CNR : Addr) : Sp := fun vs H _ E => ∃ (d pl : Addr) (ps : List Rule) (l text : List Nat), vs = [.ref d, .str (tx text)] ∧ DeskAt K CD H d (some l) pl ps ∧ text.length ≤ 1000 ∧ ((parts [32] text = none ∧ ∀ H', Same H H' → E (.ref CNR) none H') ∨ ∃ (a b : List Nat) (k : Nat), parts [32] text = some (a, b) ∧ pairF l a b 20 = some k ∧ ∀ d' H', Fell H d' "place" (.int (k : Nat)) H' → E (.ref CNW) (some d') H')
theorem sc_desk_asked : FnScope ["self", "text", "parts", "one", "other", "rooms"] ["self", "text"] (defScope s_desk_asked) := ⟨rfl, rfl, rfl, by symm, rfl, by symm, by symm⟩
theorem ok_desk_asked {f CD CNW CNR : Addr} {fd : FuncData} {dt_read_word : Tok} (B : Bt mg) (CL : TDsk K mg CD) (TT : TTx mg) (TR : TNR K mg CNR) (F : Fun K "asked" "Desk.asked" s_desk_asked f fd) (D_read_word : Df P w K mg base (CXx P w) 4 "read_word" ["letters", "text", "most"] [] (sp_rdw CNW)) (DD_read_word : Df P w K mg base (CXx P w) 4 "read_word" ["letters", "text", "most"] [.int 60 dt_read_word] (sp_rdw CNW)) (D_rooms_for : Df P w K mg base CX0 1 "rooms_for" ["letters"] [] spNever) (D_shown_answer : Df P w K mg base CX0 1 "shown_answer" ["answer"] [] spNever) (D_judged : Df P w K mg base (CXx P w) 1 "judged" ["order", "pacts", "one", "other", "rounds", "most"] [] spNever) : FnOk P w K mg base (CXx P w) 5 f fd ["self", "text"] (sp_dasked K CD CNW CNR) := by
  obtain ⟨tW, gW⟩ := TT.mW; obtain ⟨t3, g3⟩ := TT.m3
  refine Fun.okX F sc_desk_asked (fun vs H Q E h => ?_) (fun cdv A outer s H vs Q E hr hx h => ?_)
  · obtain ⟨d, pl, ps, l, text, rfl, _⟩ := h
    rfl
  · obtain ⟨d, pl, ps, l, text, rfl, hd, hl, q⟩ := h
    refine ⟨_, (pss_cut (ps_set (i := 2) sc_desk_asked.nd rfl (.inl rfl) (pe_bm PySem.F.plainAttrs_str PySem.F.slot_str_partition PySem.F.type_str_partition m_part (pv 1) (pa_cons pe_str pa_nil)))
      (pss_cut (ps_if (pt_cmpR op_eq (pe_ix ix_tup (pv 2) pe_int (fun _ _ => rfl)) pe_str (nomark _))
        (pss_one (ps_raise0 hx rfl TR.xi.toXC TR.ini rfl TR.g ( (pa_cons pe_str pa_nil))))
        pss_nil)
      (pss_cut (ps_set (i := 3) sc_desk_asked.nd rfl (.inl rfl) (clP hx D_read_word hr .nil rfl (pa_cons (pe_fld (pe_fld (pv 0) rfl) rfl) (pa_cons (pe_ix ix_tup (pv 2) pe_int (fun _ _ => rfl)) (pa_cons (pe_glob (v := .int 20) rfl gW ⟨tW, rfl⟩) pa_nil)))))
      (pss_cut (ps_set (i := 4) sc_desk_asked.nd rfl (.inl rfl) (clP hx D_read_word hr .nil rfl (pa_cons (pe_fld (pe_fld (pv 0) rfl) rfl) (pa_cons (pe_ix ix_tup (pv 2) pe_int (fun _ _ => rfl)) (pa_cons (pe_glob (v := .int 20) rfl gW ⟨tW, rfl⟩) pa_nil)))))
      (pss_cut (ps_set (i := 5) sc_desk_asked.nd rfl (.inl rfl) (cl0 D_rooms_for hr .nil rfl (pa_cons (pe_fld (pe_fld (pv 0) rfl) rfl) pa_nil)))
      (pss_one (ps_ret (cl0 D_shown_answer hr .nil rfl (pa_cons (clP hx D_judged hr .nil rfl (pa_cons (pe_fld (pv 0) rfl) (pa_cons (pe_fld (pv 0) rfl) (pa_cons (pv 3) (pa_cons (pv 4) (pa_cons (pe_glob (v := .int 3) rfl g3 ⟨t3, rfl⟩) (pa_cons (pv 5) pa_nil))))))) pa_nil))))))))), ?_⟩
    have s16 := sl16
    have s16 := sl16
    have b32 : ((" " : Str)) = tx [32] := rfl
    have e00 : (("" : Str)) = tx [] := rfl
    simp only [b32, e00]
    obtain ⟨dx, vo, hd1, hd2, hg, o, rfl, hod, ho⟩ := hd
    obtain ⟨Co, dxo, fso, ho1, ho2, ho3, ho4⟩ := id ho
    refine cut_by (fun σ H' => Same H H' ∧ ∃ p : Addr, H' p = some (.tup (match parts [32] text with
      | none => [.str (tx text), .str (tx []), .str (tx [])]
      | some (a, b) => [.str (tx a), .str (tx [32]), .str (tx b)])) ∧ σ = [some (.ref d), some (.str (tx text)), some (.ref p), none, none, none]) ?_ ?_
    · repeat (first | rfl' | simp only [tAlt, tMethF, rd_cz, tRev, rSum, rIndex])
      exact ⟨text, [32], rfl, rfl, by decide, by lia, fun p hp => ⟨same_upd hp, p, upd_same, rfl⟩⟩
    rintro σ H1 ⟨s1, p, hp, rfl⟩
    rcases q with ⟨hn, q⟩ | ⟨a, b, k, hpa, hk, q⟩
    · rw [hn] at hp
      refine cut_by (fun σ H' => False) ?_ fun _ _ h => h.elim
      repeat (first | rfl' | simp only [tAlt, tMethF, rd_cz, tRev, rSum, rIndex])
      exact ⟨_, SqT.of hp, _, rfl, rfl, ite2 (fun _ => ⟨by lia, q H1 s1⟩) fun h => absurd rfl h⟩
    · rw [hpa] at hp
      have hpl := parts_len hpa
      refine cut_by (fun σ H' => H' = H1 ∧ σ = [some (.ref d), some (.str (tx text)), some (.ref p), none, none, none]) ?_ ?_
      · repeat (first | rfl' | simp only [tAlt, tMethF, rd_cz, tRev, rSum, rIndex])
        exact ⟨_, SqT.of hp, _, rfl, rfl, ite2 (fun h => by cases h) fun _ => trivial⟩
      rintro σ H2 ⟨rfl, rfl⟩
      unfold pairF at hk
      refine cut_by (fun σ H' => Same H2 H' ∧ faultL l a 20 = none ∧ σ = [some (.ref d), some (.str (tx text)), some (.ref p), some (.str (tx (rwOut a))), none, none]) ?_ ?_
      · repeat (first | rfl' | simp only [tAlt, tMethF, rd_cz, tRev, rSum, rIndex])
        refine ⟨CD, dx, _, s1 _ _ hd1, CL.cl, CL.no, _, rfl, o, rfl, Co, dxo, fso, s1 _ _ ho1, ho2, ho3, _, ho4, _, SqT.of hp, _, rfl, l, a, 20, rfl, by lia, fun h H' s' => ⟨s', h, rfl⟩, fun k' h d' H' hf => ?_⟩
        rw [h] at hk
        cases hk
        exact q d' H' (Fell.same s1 hf)
      rintro σ H3 ⟨s3, h1, rfl⟩
      rw [h1] at hk
      refine cut_by (fun σ H' => False) ?_ fun _ _ h => h.elim
      repeat (first | rfl' | simp only [tAlt, tMethF, rd_cz, tRev, rSum, rIndex])
      have s4 := s1.trans s3
      exact ⟨CD, dx, _, s4 _ _ hd1, CL.cl, CL.no, _, rfl, o, rfl, Co, dxo, fso, s4 _ _ ho1, ho2, ho3, _, ho4, _, SqT.of (s3 _ _ hp), _, rfl, l, b, 20, rfl, by lia, fun h => (by rw [h] at hk; cases hk), fun k' h d' H' hf => by rw [h] at hk; cases hk; exact q d' H' (Fell.same s4 hf)⟩
theorem pre_no {p l : List Nat} (h : l.head? ≠ p.head?) (hp : p ≠ []) : preB p l = false := decide_eq_false fun e => by
  cases p with
  | nil => exact hp rfl
  | cons a p =>
    cases l with
    | nil => simp at e
    | cons b l =>
      simp only [List.length_cons, List.take_succ_cons, List.cons.injEq] at e
      exact h (by simp [e.1])
theorem pre_yes (p l : List Nat) : preB p (p ++ l) = true := decide_eq_true (by rw [List.take_left])
theorem pre_is {p l : List Nat} (h : preB p l = true) : l = p ++ l.drop p.length := by
  have := (List.take_append_drop p.length l).symm
  rw [of_decide_eq_true h] at this
  exact this
inductive R9 where
  | text (t : List Nat) | noRow | noLetters | noOrder | noPact | tooMany | noWord (k : Nat) | skip
noncomputable def shR (r : Rule) : List Nat := paL ++ (shW r.1 ++ sepL ++ shW r.2)
noncomputable def wordR : Option Nat → R9
  | some k => .noWord k
  | none => .skip
noncomputable def pactR (l : List Nat) (ps : List Rule) (t : List Nat) : R9 := match parts sepL t with
  | none => .noPact
  | some (a, b) => match pairF l a b 10 with
    | some k => .noWord k
    | none => if ps.length = 8 then .tooMany else .text (paL ++ dec ps.length)
noncomputable def pactP (l : List Nat) (ps : List Rule) (t : List Nat) : List Rule := match parts sepL t with
  | none => ps
  | some (a, b) => match pairF l a b 10 with
    | some _ => ps
    | none => if ps.length = 8 then ps else ps ++ [(rwOut a, rwOut b)]
noncomputable def dropR (ps : List Rule) : R9 := match ps.getLast? with
  | none => .noRow
  | some r => .text (shR r)
noncomputable def askR (l t : List Nat) : R9 := match parts [32] t with
  | none => .noRow
  | some (a, b) => wordR (pairF l a b 20)
noncomputable def ordRR (row : List Nat) : Option Bool → R9
  | some true => .text row
  | some false => .noOrder
  | none => .noRow
noncomputable def dueS (l : List Nat) (ps : List Rule) (row : List Nat) : R9 := if preB paL row = true then pactR l ps (row.drop 5) else if row = drL then dropR ps else if row = ruL then .skip else if preB foL row = true then wordR (faultL l (row.drop 5) 20) else if preB akL row = true then askR l (row.drop 4) else ordRR row (ordR l row)
noncomputable def dueF (lo : Option (List Nat)) (ps : List Rule) (row : List Nat) : R9 := if preB leL row = true then (if goodB (row.drop 8) = true then .text row else .noLetters) else match lo with
  | none => .noRow
  | some l => dueS l ps row
noncomputable def nxP (l : List Nat) (ps : List Rule) (row : List Nat) : List Rule := if preB paL row = true then pactP l ps (row.drop 5) else if row = drL then ps.dropLast else ps
noncomputable def nxS (lo : Option (List Nat)) (ps : List Rule) (row : List Nat) : Option (List Nat) × List Rule := if preB leL row = true then (if goodB (row.drop 8) = true then (some (row.drop 8), []) else (lo, ps)) else match lo with
  | none => (none, ps)
  | some l => (some l, nxP l ps row)
def Get (K : PySem.W.Frag) (CD C CN CNW CNP CTM CNR d pl : Addr) (H : Hp) (Q : VK) (E : XK) (nx : Option (List Nat) × List Rule) : R9 → Prop
  | .text t => ∀ (pl' : Addr) (H' : Hp), Kp d pl H H' → (pl' = pl ∨ H pl' = none) → DeskAt K CD H' d nx.1 pl' nx.2 → Q (.str (tx t)) H'
  | .noRow => ∀ H', Same H H' → E (.ref CNR) none H'
  | .noLetters => ∀ H', Same H H' → E (.ref C) none H'
  | .noOrder => ∀ H', Same H H' → E (.ref CN) none H'
  | .noPact => ∀ H', Same H H' → E (.ref CNP) none H'
  | .tooMany => ∀ H', Same H H' → E (.ref CTM) none H'
  | .noWord k => ∀ d' H', Fell H d' "place" (.int (k : Nat)) H' → E (.ref CNW) (some d') H'
  | .skip => False
def sp_told (K : PySem.W.Frag) (CD C CN CNW CNP CTM CNR : Addr) : Sp := fun vs H Q E => ∃ (d pl : Addr) (ps : List Rule) (lo : Option (List Nat)) (row : List Nat), vs = [.ref d, .str (tx row)] ∧ DeskAt K CD H d lo pl ps ∧ row.length ≤ 1000 ∧ (∀ r ∈ ps, r.1.length ≤ 1000 ∧ r.2.length ≤ 1000) ∧ ps.length ≤ 8 ∧ Get K CD C CN CNW CNP CTM CNR d pl H Q E (nxS lo ps row) (dueF lo ps row)
theorem sc_desk_told : FnScope ["self", "row"] ["self", "row"] (defScope s_desk_told) := ⟨rfl, rfl, rfl, by symm, rfl, by symm, by symm⟩
theorem ok_desk_told {f CD C CN CNW CNP CTM CNR : Addr} {fd : FuncData} (B : Bt mg) (CL : TDsk K mg CD) (TT : TTx mg) (TR : TNR K mg CNR) (F : Fun K "told" "Desk.told" s_desk_told f fd) (M_desk_ordered : DM P w K mg base (CXx P w) 7 CD "ordered" ["self", "row"] (sp_ordered K CD CN CNR)) (M_desk_begun : DM P w K mg base (CXx P w) 6 CD "begun" ["self", "row"] (sp_begun K CD C)) (M_desk_agreed : DM P w K mg base (CXx P w) 6 CD "agreed" ["self", "text"] (sp_agreed K CD CTM CNW CNP)) (M_desk_dropped : DM P w K mg base (CXx P w) 3 CD "dropped" ["self"] (sp_dropped K CD CNR)) (M_desk_completion : DM P w K mg base (CXx P w) 1 CD "completion" ["self"] spNever) (M_desk_formed : DM P w K mg base (CXx P w) 5 CD "formed" ["self", "text"] (sp_formed K CD CNW)) (M_desk_asked : DM P w K mg base (CXx P w) 5 CD "asked" ["self", "text"] (sp_dasked K CD CNW CNR)) : FnOk P w K mg base (CXx P w) 8 f fd ["self", "row"] (sp_told K CD C CN CNW CNP CTM CNR) := by
  obtain ⟨tL, gL⟩ := TT.le; obtain ⟨tP, gP⟩ := TT.pa; obtain ⟨tF, gF⟩ := TT.fo; obtain ⟨tA, gA⟩ := TT.ak
  refine Fun.okX F sc_desk_told (fun vs H Q E h => ?_) (fun cdv A outer s H vs Q E hr hx h => ?_)
  · obtain ⟨d, pl, ps, lo, row, rfl, _⟩ := h
    rfl
  · obtain ⟨d, pl, ps, lo, row, rfl, hd, hl, hb, h8, q⟩ := h
    refine ⟨_, (pss_cut (ps_if (pt_bl (pe_bm PySem.F.plainAttrs_str PySem.F.slot_str_startswith PySem.F.type_str_startswith m_starts (pv 1) (pa_cons (pe_glob (v := .str "letters ") rfl gL ⟨tL, rfl⟩) pa_nil)) (fun _ => rfl))
        (pss_one (ps_ret (me1x hx M_desk_begun CL.cl hr (pv 0) (pa_cons (pv 1) pa_nil))))
        pss_nil)
      (pss_cut (ps_if (pt_cmpR op_isN' (pe_fld (pv 0) rfl) pe_non (nomark _))
        (pss_one (ps_raise0 hx rfl TR.xi.toXC TR.ini rfl TR.g ( (pa_cons pe_str pa_nil))))
        pss_nil)
      (pss_cut (ps_if (pt_bl (pe_bm PySem.F.plainAttrs_str PySem.F.slot_str_startswith PySem.F.type_str_startswith m_starts (pv 1) (pa_cons (pe_glob (v := .str "pact ") rfl gP ⟨tP, rfl⟩) pa_nil)) (fun _ => rfl))
        (pss_one (ps_ret (me1x hx M_desk_agreed CL.cl hr (pv 0) (pa_cons (pe_slice sl_str (pv 1) (po_some (pe_callB c_len rfl B.len PySem.boot_len (pa_cons (pe_glob (v := .str "pact ") rfl gP ⟨tP, rfl⟩) pa_nil))) po_none) pa_nil))))
        pss_nil)
      (pss_cut (ps_if (pt_cmpR op_eq (pv 1) pe_str (nomark _))
        (pss_one (ps_ret (me0x hx M_desk_dropped CL.cl hr (pv 0))))
        pss_nil)
      (pss_cut (ps_if (pt_cmpR op_eq (pv 1) pe_str (nomark _))
        (pss_one (ps_ret (me0x hx M_desk_completion CL.cl hr (pv 0))))
        pss_nil)
      (pss_cut (ps_if (pt_bl (pe_bm PySem.F.plainAttrs_str PySem.F.slot_str_startswith PySem.F.type_str_startswith m_starts (pv 1) (pa_cons (pe_glob (v := .str "form ") rfl gF ⟨tF, rfl⟩) pa_nil)) (fun _ => rfl))
        (pss_one (ps_ret (me1x hx M_desk_formed CL.cl hr (pv 0) (pa_cons (pe_slice sl_str (pv 1) (po_some (pe_callB c_len rfl B.len PySem.boot_len (pa_cons (pe_glob (v := .str "form ") rfl gF ⟨tF, rfl⟩) pa_nil))) po_none) pa_nil))))
        pss_nil)
      (pss_cut (ps_if (pt_bl (pe_bm PySem.F.plainAttrs_str PySem.F.slot_str_startswith PySem.F.type_str_startswith m_starts (pv 1) (pa_cons (pe_glob (v := .str "ask ") rfl gA ⟨tA, rfl⟩) pa_nil)) (fun _ => rfl))
        (pss_one (ps_ret (me1x hx M_desk_asked CL.cl hr (pv 0) (pa_cons (pe_slice sl_str (pv 1) (po_some (pe_callB c_len rfl B.len PySem.boot_len (pa_cons (pe_glob (v := .str "ask ") rfl gA ⟨tA, rfl⟩) pa_nil))) po_none) pa_nil))))
        pss_nil)
      (pss_one (ps_ret (me1x hx M_desk_ordered CL.cl hr (pv 0) (pa_cons (pv 1) pa_nil))))))))))), ?_⟩
    have s16 := sl16
    have s16 := sl16
    simp only [le_txt, pa_txt, fo_txt, ak_txt, dr_txt, ru_txt]
    obtain ⟨dx, vo, hd1, hd2, hd3⟩ := id hd
    unfold dueF nxS at q
    refine cut_by (fun σ H' => H' = H ∧ preB leL row = false ∧ σ = [some (.ref d), some (.str (tx row))]) ?_ ?_
    · repeat (first | rfl' | simp only [tAlt, tMethF, rd_cz, tRev, rSum, rIndex])
      refine ⟨row, leL, rfl, rfl, _, rfl, ?_⟩
      cases hp : preB leL row with
      | false =>
        rw [if_neg Bool.false_ne_true]
        exact ⟨rfl, rfl⟩
      | true =>
        rw [if_pos rfl]
        rw [if_pos hp, if_pos hp] at q
        have e := pre_is hp
        rw [show leL.length = 8 from rfl] at e
        refine ⟨dx, _, hd1, rfl, d, pl, lo, ps, row.drop 8, by rw [← e], hd, by rw [List.length_drop]; lia, fun hg pl' H' kp hn hD => ?_, fun hg => ?_⟩
        · rw [if_pos hg, if_pos hg] at q
          rw [← e]
          exact q pl' H' kp (.inr hn) hD
        · rw [if_neg (by rw [hg]; exact Bool.false_ne_true), if_neg (by rw [hg]; exact Bool.false_ne_true)] at q
          exact q
    rintro σ H1 ⟨rfl, hp, rfl⟩
    have hnp := ne_true_of_eq_false hp
    rw [if_neg hnp, if_neg hnp] at q
    clear hnp
    clear hp
    refine cut_by (fun σ H' => H' = H1 ∧ (∃ l, lo = some l) ∧ σ = [some (.ref d), some (.str (tx row))]) ?_ ?_
    · repeat (first | rfl' | simp only [tAlt, tMethF, rd_cz, tRev, rSum, rIndex])
      refine ⟨CD, dx, _, hd1, CL.cl, CL.no, _, rfl, ?_⟩
      cases lo with
      | none =>
        obtain rfl : vo = .non := hd3
        exact ite2 (fun _ => ⟨by lia, q H1 (.refl _)⟩) fun h => absurd rfl h
      | some l =>
        obtain ⟨_, o, rfl, _⟩ := hd3
        exact ite2 (fun h => by cases h) fun _ => ⟨l, rfl⟩
    rintro σ H1 ⟨rfl, ⟨l, rfl⟩, rfl⟩
    replace q : Get K CD C CN CNW CNP CTM CNR d pl H1 Q E (some l, nxP l ps row) (dueS l ps row) := q
    unfold dueS nxP at q
    refine cut_by (fun σ H' => H' = H1 ∧ preB paL row = false ∧ σ = [some (.ref d), some (.str (tx row))]) ?_ ?_
    · repeat (first | rfl' | simp only [tAlt, tMethF, rd_cz, tRev, rSum, rIndex])
      refine ⟨row, paL, rfl, rfl, _, rfl, ?_⟩
      cases hp : preB paL row with
      | false =>
        rw [if_neg Bool.false_ne_true]
        exact ⟨rfl, rfl⟩
      | true =>
        rw [if_pos rfl]
        rw [if_pos hp, if_pos hp] at q
        have h5 : paL.length = 5 := rfl
        rw [cut_from _ (Int.natCast_nonneg _), Int.toNat_natCast, h5]
        unfold pactR pactP at q
        refine ⟨dx, _, hd1, rfl, by lia, by lia, d, pl, ps, l, row.drop 5, rfl, hd, by rw [List.length_drop]; lia, h8, fun hn => ?_, fun a b hab => ⟨fun k hk => ?_, fun hk => ⟨fun h => ?_, fun h H' kp hD => ?_⟩⟩⟩
        · rw [hn] at q
          exact q H1 (.refl _)
        · rw [hab] at q
          replace q : Get K CD C CN CNW CNP CTM CNR d pl H1 Q E (some l, match pairF l a b 10 with | some _ => ps | none => if ps.length = 8 then ps else ps ++ [(rwOut a, rwOut b)]) (match pairF l a b 10 with | some k => .noWord k | none => if ps.length = 8 then .tooMany else .text (paL ++ dec ps.length)) := q
          rw [hk] at q
          exact q
        · rw [hab] at q
          replace q : Get K CD C CN CNW CNP CTM CNR d pl H1 Q E (some l, match pairF l a b 10 with | some _ => ps | none => if ps.length = 8 then ps else ps ++ [(rwOut a, rwOut b)]) (match pairF l a b 10 with | some k => .noWord k | none => if ps.length = 8 then .tooMany else .text (paL ++ dec ps.length)) := q
          rw [hk] at q
          replace q : Get K CD C CN CNW CNP CTM CNR d pl H1 Q E (some l, if ps.length = 8 then ps else ps ++ [(rwOut a, rwOut b)]) (if ps.length = 8 then .tooMany else .text (paL ++ dec ps.length)) := q
          rw [if_pos h, if_pos h] at q
          exact q
        · rw [hab] at q
          replace q : Get K CD C CN CNW CNP CTM CNR d pl H1 Q E (some l, match pairF l a b 10 with | some _ => ps | none => if ps.length = 8 then ps else ps ++ [(rwOut a, rwOut b)]) (match pairF l a b 10 with | some k => .noWord k | none => if ps.length = 8 then .tooMany else .text (paL ++ dec ps.length)) := q
          rw [hk] at q
          replace q : Get K CD C CN CNW CNP CTM CNR d pl H1 Q E (some l, if ps.length = 8 then ps else ps ++ [(rwOut a, rwOut b)]) (if ps.length = 8 then .tooMany else .text (paL ++ dec ps.length)) := q
          rw [if_neg (by lia), if_neg (by lia)] at q
          exact q pl H' kp (.inl rfl) hD
    rintro σ H1 ⟨rfl, hp, rfl⟩
    have hnp := ne_true_of_eq_false hp
    rw [if_neg hnp, if_neg hnp] at q
    clear hnp
    clear hp
    refine cut_by (fun σ H' => H' = H1 ∧ row ≠ drL ∧ σ = [some (.ref d), some (.str (tx row))]) ?_ ?_
    · repeat (first | rfl' | simp only [tAlt, tMethF, rd_cz, tRev, rSum, rIndex])
      refine ite2 (fun h => ?_) fun h => h
      rw [if_pos h, if_pos h] at q
      unfold dropR at q
      refine ⟨dx, _, hd1, rfl, d, pl, ps, some l, rfl, hd, hb, h8, fun e => ?_, fun ps' r e H' kp hD => ?_⟩
      · rw [e] at q
        exact q H1 (.refl _)
      · rw [e, List.getLast?_concat, List.dropLast_concat] at q
        exact q pl H' kp (.inl rfl) hD
    rintro σ H1 ⟨rfl, h1, rfl⟩
    rw [if_neg h1, if_neg h1] at q
    refine cut_by (fun σ H' => H' = H1 ∧ row ≠ ruL ∧ σ = [some (.ref d), some (.str (tx row))]) ?_ ?_
    · repeat (first | rfl' | simp only [tAlt, tMethF, rd_cz, tRev, rSum, rIndex])
      refine ite2 (fun h => ?_) fun h => h
      rw [if_pos h] at q
      exact q.elim
    rintro σ H1 ⟨rfl, h2, rfl⟩
    rw [if_neg h2] at q
    refine cut_by (fun σ H' => H' = H1 ∧ preB foL row = false ∧ σ = [some (.ref d), some (.str (tx row))]) ?_ ?_
    · repeat (first | rfl' | simp only [tAlt, tMethF, rd_cz, tRev, rSum, rIndex])
      refine ⟨row, foL, rfl, rfl, _, rfl, ?_⟩
      cases hp : preB foL row with
      | false =>
        rw [if_neg Bool.false_ne_true]
        exact ⟨rfl, rfl⟩
      | true =>
        rw [if_pos rfl]
        rw [if_pos hp] at q
        have h5 : foL.length = 5 := rfl
        rw [cut_from _ (Int.natCast_nonneg _), Int.toNat_natCast, h5]
        cases hk : faultL l (row.drop 5) 20 with
        | none =>
          rw [hk] at q
          exact q.elim
        | some k =>
          rw [hk] at q
          exact ⟨dx, _, hd1, rfl, by lia, by lia, d, pl, ps, l, row.drop 5, k, rfl, hd, by rw [List.length_drop]; lia, hk, q⟩
    rintro σ H1 ⟨rfl, hp, rfl⟩
    rw [if_neg (by rw [hp]; exact Bool.false_ne_true)] at q
    clear hp
    refine cut_by (fun σ H' => H' = H1 ∧ preB akL row = false ∧ σ = [some (.ref d), some (.str (tx row))]) ?_ ?_
    · repeat (first | rfl' | simp only [tAlt, tMethF, rd_cz, tRev, rSum, rIndex])
      refine ⟨row, akL, rfl, rfl, _, rfl, ?_⟩
      cases hp : preB akL row with
      | false =>
        rw [if_neg Bool.false_ne_true]
        exact ⟨rfl, rfl⟩
      | true =>
        rw [if_pos rfl]
        rw [if_pos hp] at q
        have h5 : akL.length = 4 := rfl
        rw [cut_from _ (Int.natCast_nonneg _), Int.toNat_natCast, h5]
        unfold askR at q
        refine ⟨dx, _, hd1, rfl, by lia, by lia, d, pl, ps, l, row.drop 4, rfl, hd, by rw [List.length_drop]; lia, ?_⟩
        cases hk : parts [32] (row.drop 4) with
        | none =>
          rw [hk] at q
          exact .inl ⟨rfl, q⟩
        | some ab =>
          obtain ⟨a, b⟩ := ab
          rw [hk] at q
          replace q : Get K CD C CN CNW CNP CTM CNR d pl H1 Q E (some l, ps) (wordR (pairF l a b 20)) := q
          cases hk2 : pairF l a b 20 with
          | none =>
            rw [hk2] at q
            exact q.elim
          | some k =>
            rw [hk2] at q
            exact .inr ⟨a, b, k, rfl, hk2, q⟩
    rintro σ H1 ⟨rfl, hp, rfl⟩
    rw [if_neg (by rw [hp]; exact Bool.false_ne_true)] at q
    repeat (first | rfl' | simp only [tAlt, tMethF, rd_cz, tRev, rSum, rIndex])
    refine ⟨dx, _, hd1, rfl, d, pl, ps, l, row, rfl, hd, hl, fun h H' kp hD => ?_, fun h => ?_, fun h => ?_⟩
    · rw [h] at q
      exact q pl H' kp (.inl rfl) hD
    · rw [h] at q
      exact q
    · rw [h] at q
      exact q H1 (.refl _)
def sp_cell (K : PySem.W.Frag) : Sp := fun vs H Q _ => ∃ (a : Addr) (ns : List Int) (k : Int), vs = [.ref a, .int k] ∧ SqL K H a (ns.map V.int) ∧ (∀ z ∈ ns, Lt20 z) ∧ 0 ≤ k ∧ ∀ c : Int, Lt20 c → Q (.int c) H
theorem use_cell {a : Addr} {ns : List Int} {k : Int} {H : Hp} {Q : VK} {E : XK} (hS : SqL K H a (ns.map V.int)) (hB : ∀ z ∈ ns, Lt20 z) (hk : 0 ≤ k) (h : ∀ c : Int, Lt20 c → Q (.int c) H) : sp_cell K [.ref a, .int k] H Q E := ⟨a, ns, k, rfl, hS, hB, hk, h⟩
theorem sc_cell_at : FnScope ["_law_script", "_law_k"] ["_law_script", "_law_k"] (defScope s_cell_at) := ⟨rfl, rfl, rfl, by symm, rfl, by symm, by symm⟩
theorem ok_cell_at {f : Addr} {fd : FuncData} (B : Bt mg)  (F : Fun K "_law_cell_at" "_law_cell_at" s_cell_at f fd)  : FnOk P w K mg base CX0 1 f fd ["_law_script", "_law_k"] (sp_cell K) := by
  refine F.ok sc_cell_at (fun vs H Q E h => ?_) (fun cdv A outer s H vs Q E hr h => ?_)
  · obtain ⟨a, ns, k, rfl, _⟩ := h
    rfl
  · obtain ⟨a, ns, k, rfl, hS, hB, hk, q⟩ := h
    refine ⟨_, (pss_cons (ps_if (pt_cmpR op_lt (pv 1) (pe_callB c_len rfl B.len PySem.boot_len (pa_cons (pv 0) pa_nil)) (nomark _))
        (pss_one (ps_ret (pe_ix ix_list (pv 0) (pv 1) (fun _ _ => rfl))))
        pss_nil)
      (pss_one (ps_ret pe_int))), ?_⟩
    have s16 := sl16
    rfl'
    refine ⟨_, .inl ⟨_, hS, rfl⟩, ite2 (fun c => ?_) (fun c => q 0 (by unfold Lt20; decide))⟩
    obtain ⟨v, h1, h2⟩ := atI_of hk c
    rw [List.getElem?_map] at h2
    obtain ⟨z, hz, rfl⟩ := aj.mp h2
    exact ⟨_, hS, _, h1, q z (hB z (List.mem_of_getElem? hz))⟩
theorem join_one : ∀ ks : List Nat, Str.join (tx []) (ks.map fun c => tx [c]) = tx ks
  | [] => rfl
  | [c] => rfl
  | c :: d :: r => by
    have ih := join_one (d :: r)
    show tx [c] ++ tx [] ++ Str.join (tx []) ((d :: r).map fun c => tx [c]) = tx (c :: d :: r)
    rw [ih, tx_append, tx_append]
    rfl
theorem join_ok0 {ks : List Nat} (h : ks.length ≤ 1000) : JoinOk (tx []) (ks.map fun c => tx [c]) = true := by
  have s16 := sl16
  have hf : ∀ (l : List Nat) (n : Nat), (l.map fun c => tx [c]).foldl (fun a y => a + y.length + 0) n = n + l.length := fun l => by
    induction l with
    | nil => intro n; rfl
    | cons c r ih =>
      intro n
      rw [List.map_cons, List.foldl_cons, ih, len_tx]
      simp only [List.length_cons, List.length_nil]
      lia
  have e : JoinOk (tx []) (ks.map fun c => tx [c]) = !PySem.Builtin.Str.tooLong ((ks.map fun c => tx [c]).foldl (fun a y => a + y.length + 0) 0) := by
    unfold JoinOk
    rw [List.foldl_toArray]
    rfl
  rw [e, hf]
  unfold PySem.Builtin.Str.tooLong
  simp
  lia
theorem join_tx (c : Nat) (ys : List (List Nat)) : Txt.join (tx [c]) (ys.map tx) = tx (joinL c ys) := by
  have e : Txt.join (tx [c]) (ys.map tx) = Str.join (tx [c]) (ys.map tx) := StrLaws.glued_eq_join _ _
  rw [e, ← tx_cs (Str.join _ _), cs_join, List.map_map]
  congr 2
  exact List.map_id _
theorem foldl_le (b : Nat) : ∀ (ys : List Str) (n : Nat), (∀ y ∈ ys, y.length ≤ b) → ys.foldl (fun a y => a + y.length + 1) n ≤ n + ys.length * (b + 1)
  | [], n, _ => by simp
  | y :: r, n, h => by
    have ih := foldl_le b r (n + y.length + 1) fun z hz => h z (List.mem_cons_of_mem _ hz)
    have hy := h y (by simp)
    rw [List.foldl_cons, List.length_cons, Nat.succ_mul]
    lia
theorem join_ok {c b : Nat} {ys : List (List Nat)} (hb : ∀ y ∈ ys, y.length ≤ b) (hn : ys.length * (b + 1) ≤ 16777216) : JoinOk (tx [c]) (ys.map tx) = true := by
  have s16 := sl16
  have h := foldl_le b (ys.map tx) 0 fun y hy => by
    obtain ⟨z, hz, rfl⟩ := ag.mp hy
    rw [len_tx]
    exact hb z hz
  rw [List.length_map] at h
  have e : JoinOk (tx [c]) (ys.map tx) = !PySem.Builtin.Str.tooLong ((ys.map tx).foldl (fun a y => a + y.length + 1) 0) := by
    unfold JoinOk
    rw [List.foldl_toArray]
    rfl
  rw [e]
  unfold PySem.Builtin.Str.tooLong
  simp only [Bool.not_eq_true', decide_eq_false_iff_not]
  lia
noncomputable def alph : List Nat := (List.range 26).map (97 + ·)
theorem alph_txt : (("abcdefghijklmnopqrstuvwxyz" : Str)) = tx alph := rfl
noncomputable def ltrs (s p m : Nat) : List Nat := (List.range m).map fun k => 97 + (s + p * k) % 26
theorem ltrs_good : ∀ s < 26, ∀ p < 6, ∀ m < 6, goodB (ltrs s (1 + 2 * p) (m + 1)) = true := by symm
def sp_ltr : Sp := fun vs H Q _ => ∃ c : Int, vs = [.int c, .int 6] ∧ ∀ (l : List Nat) (H' : Hp), goodB l = true → Same H H' → Q (.str (tx l)) H'
theorem sc_letters : FnScope ["_law_cell", "_law_most", "_law_alphabet", "_law_many", "_law_start", "_law_apart"] ["_law_cell", "_law_most"] (defScope s_letters) := ⟨rfl, rfl, rfl, by symm, rfl, by symm, by symm⟩
theorem ok_letters {f : Addr} {fd : FuncData} (B : Bt mg)  (F : Fun K "_law_letters" "_law_letters" s_letters f fd)  : FnOk P w K mg base CX0 1 f fd ["_law_cell", "_law_most"] sp_ltr := by
  refine F.ok sc_letters (fun vs H Q E h => ?_) (fun cdv A outer s H vs Q E hr h => ?_)
  · obtain ⟨c, rfl, _⟩ := h
    rfl
  · obtain ⟨c, rfl, q⟩ := h
    refine ⟨_, (pss_cut (ps_set (i := 2) sc_letters.nd rfl (Or.inr rfl) pe_str)
      (pss_cut (ps_set (i := 3) sc_letters.nd rfl (.inl rfl) (pe_op op_add pe_int (pe_op op_mod (pv 0) (pv 1))))
      (pss_cut (ps_set (i := 4) sc_letters.nd rfl (Or.inr rfl) (pe_op op_mod (pe_op op_fdiv (pv 0) (pv 1)) pe_int))
      (pss_cut (ps_set (i := 5) sc_letters.nd rfl (Or.inr rfl) (pe_op op_add pe_int (pe_op op_mul pe_int (pe_op op_mod (pe_op op_fdiv (pv 0) pe_int) pe_int))))
      (pss_one (ps_ret (pe_bm PySem.F.plainAttrs_str PySem.F.slot_str_join PySem.F.type_str_join m_join pe_str (pa_cons (pe_comp (own := ["_law_k"]) (caps := ["_law_alphabet", "_law_start", "_law_apart"]) (ix := [2, 4, 5]) (tt := tYes) (te := (tOp (rIx K) (tVar 1) (tOp (rI (fun _ j => 0 < j) fun i j => .int (i % j)) (tOp rAddA (tVar 2) (tOp rMulA (tVar 3) (tVar 0))) (tC (.int 26))))) rfl (compOk_of (sc := defScope s_letters) rfl (by symm) (by symm) (by symm) rfl (by symm) (by symm) rfl) (pi_range1 rfl B.range (pa_cons (pv 3) pa_nil)) (fun _ _ _ _ _ _ => pg_name (i := 0) (show List.Nodup [_, _, _, _] by decide) rfl (.inl rfl)) (fun _ _ _ _ _ _ => pts_nil) (fun _ _ _ _ _ _ => (pe_ix ix_seq (pv 1) (pe_op op_mod (pe_op op_addA (pv 2) (pe_op op_mulA (pv 3) (pv 0))) pe_int) (fun _ _ => rfl)))) pa_nil)))))))), ?_⟩
    have s16 := sl16
    have s16 := sl16
    refine cut_by (fun σ H' => H' = H ∧ σ = [some (.int c), some (.int 6), some (.str (tx alph)), none, none, none]) ?_ ?_
    · rfl'
      exact alph_txt
    rintro σ H1 ⟨rfl, rfl⟩
    refine cut_by (fun σ H' => H' = H1 ∧ ∃ m : Nat, m < 6 ∧ σ = [some (.int c), some (.int 6), some (.str (tx alph)), some (.int (m + 1 : Nat)), none, none]) ?_ ?_
    · rfl'
      have a0 := Int.emod_nonneg c (b := 6) (by decide)
      have a1 := Int.emod_lt_of_pos c (b := 6) (by decide)
      exact ⟨by decide, (c % 6).toNat, by lia, by lia⟩
    rintro σ H1 ⟨rfl, m, hm, rfl⟩
    refine cut_by (fun σ H' => H' = H1 ∧ ∃ s : Nat, s < 26 ∧ σ = [some (.int c), some (.int 6), some (.str (tx alph)), some (.int (m + 1 : Nat)), some (.int (s : Nat)), none]) ?_ ?_
    · rfl'
      have a0 := Int.emod_nonneg (c / 6) (b := 26) (by decide)
      have a1 := Int.emod_lt_of_pos (c / 6) (b := 26) (by decide)
      exact ⟨⟨by decide, by decide⟩, by decide, (c / 6 % 26).toNat, by lia, by lia⟩
    rintro σ H1 ⟨rfl, s0, hs, rfl⟩
    refine cut_by (fun σ H' => H' = H1 ∧ ∃ p : Nat, p < 6 ∧ σ = [some (.int c), some (.int 6), some (.str (tx alph)), some (.int (m + 1 : Nat)), some (.int (s0 : Nat)), some (.int (1 + 2 * p : Nat))]) ?_ ?_
    · rfl'
      have a0 := Int.emod_nonneg (c / 157) (b := 6) (by decide)
      have a1 := Int.emod_lt_of_pos (c / 157) (b := 6) (by decide)
      exact ⟨⟨by decide, by decide⟩, by decide, .inl ⟨by decide, by decide⟩, (c / 157 % 6).toNat, by lia, by lia⟩
    rintro σ H1 ⟨rfl, p, hp, rfl⟩
    rfl'
    refine ⟨by lia, by lia, fun D hD => CompR.by (fun i acc H' => Same H1 H' ∧ H' D = some (.lst acc) ∧ acc = (ltrs s0 (1 + 2 * p) i).map fun x => V.str (tx [x])) ⟨same_upd hD, upd_same, rfl⟩ ?_ ?_⟩
    · rintro i acc H' hi ⟨hs', hH, rfl⟩
      rw [Int.toNat_natCast] at hi
      simp only [tYes]
      rfl'
      rw [Int.zero_add, ← Int.natCast_mul, ← Int.natCast_add, show ((s0 + (1 + 2 * p) * i : Nat) : Int) % 26 = (((s0 + (1 + 2 * p) * i) % 26 : Nat) : Int) by lia]
      have h26 := Nat.mod_lt (s0 + (1 + 2 * p) * i) (show 0 < 26 by decide)
      have ha : alph[(s0 + (1 + 2 * p) * i) % 26]? = some (97 + (s0 + (1 + 2 * p) * i) % 26) := by
        unfold alph
        rw [List.getElem?_map, List.getElem?_range h26]
        rfl
      have hal : alph.length = 26 := rfl
      have hll : (ltrs s0 (1 + 2 * p) i).length = i := by unfold ltrs; rw [List.length_map, List.length_range]
      refine ⟨keeps0, .inr ⟨by lia, by lia⟩, by decide, by lia, _, atI_nat ha, hH, by rw [List.length_map, hll]; lia, CNx.mk (by rw [Int.toNat_natCast]; exact hi) ⟨same_over hs' hD, upd_same, ?_⟩⟩
      unfold ltrs
      rw [List.range_succ, List.map_append, List.map_append]
      rfl
    · rintro acc H' ⟨hs', hH, rfl⟩
      rw [Int.toNat_natCast] at hH
      have hgd := ltrs_good s0 hs p hp m hm
      have hl6 := (of_decide_eq_true hgd).2.1
      refine ⟨("" : Str), D, (ltrs s0 (1 + 2 * p) (m + 1)).map fun x => tx [x], rfl, rfl, SqL.of (by rw [hH, List.map_map]; rfl), ?_, ?_⟩
      · exact join_ok0 (by lia)
      · have e : Txt.join (tx []) ((ltrs s0 (1 + 2 * p) (m + 1)).map fun x => tx [x]) = tx (ltrs s0 (1 + 2 * p) (m + 1)) := (StrLaws.glued_eq_join _ _).trans (join_one _)
        show Q (V.str (Txt.join (tx []) _)) H'
        rw [e]
        exact q _ H' hgd hs'
def sp_wrd : Sp := fun vs H Q _ => ∃ (c m : Int) (ls : List Nat), vs = [.int c, .str (tx ls), .int m] ∧ 1 ≤ ls.length ∧ ls.length ≤ 26 ∧ 0 ≤ m ∧ m ≤ 100 ∧ ∀ l : List Nat, (l.length : Int) ≤ m → (∀ x ∈ l, x ∈ ls) → Q (.str (tx l)) H
theorem use_wrd {c m : Int} {ls : List Nat} {H : Hp} {Q : VK} {E : XK} (h1 : 1 ≤ ls.length) (h2 : ls.length ≤ 26) (h3 : 0 ≤ m) (h4 : m ≤ 100) (q : ∀ l : List Nat, (l.length : Int) ≤ m → (∀ x ∈ l, x ∈ ls) → Q (.str (tx l)) H) : sp_wrd [.int c, .str (tx ls), .int m] H Q E := ⟨c, m, ls, rfl, h1, h2, h3, h4, q⟩
theorem sc_word : FnScope ["_law_cell", "_law_letters_here", "_law_most", "_law_size", "_law_number", "_law_word_here", "_law_k"] ["_law_cell", "_law_letters_here", "_law_most"] (defScope s_word) := ⟨rfl, rfl, rfl, by symm, rfl, by symm, by symm⟩
theorem ok_word {f : Addr} {fd : FuncData} (B : Bt mg)  (F : Fun K "_law_word" "_law_word" s_word f fd)  : FnOk P w K mg base CX0 1 f fd ["_law_cell", "_law_letters_here", "_law_most"] sp_wrd := by
  refine F.ok sc_word (fun vs H Q E h => ?_) (fun cdv A outer s H vs Q E hr h => ?_)
  · obtain ⟨c, m, ls, rfl, _⟩ := h
    rfl
  · obtain ⟨c, m, ls, rfl, h1, h2, h3, h4, q⟩ := h
    refine ⟨_, (pss_cut (ps_set (i := 3) sc_word.nd rfl (.inl rfl) (pe_op op_mod (pv 0) (pe_op op_add (pv 2) pe_int)))
      (pss_cut (ps_set (i := 4) sc_word.nd rfl (.inl rfl) (pe_op op_mod (pe_op op_fdiv (pv 0) (pe_op op_add (pv 2) pe_int)) pe_int))
      (pss_cut (ps_set (i := 5) sc_word.nd rfl (.inl rfl) pe_str)
      (pss_cut (ps_for PassesOwn.never rfl (pi_range1 rfl B.range (pa_cons (pv 3) pa_nil)) (pg_name (i := 6) sc_word.nd rfl (.inl rfl))
        (pss_cut (ps_set (i := 4) sc_word.nd rfl (.inl rfl) (pe_op op_mod (pe_op op_add (pe_op op_mul (pv 4) pe_int) pe_int) pe_int))
        (pss_one (ps_set (i := 5) sc_word.nd rfl (.inl rfl) (pe_op op_add_str (pv 5) (pe_ix ix_str (pv 1) (pe_op op_mod (pe_op op_fdiv (pv 4) pe_int) (pe_callB c_len rfl B.len PySem.boot_len (pa_cons (pv 1) pa_nil))) (fun _ _ => rfl)))))))
      (pss_one (ps_ret (pv 5))))))), ?_⟩
    have s16 := sl16
    have s16 := sl16
    refine cut_by (fun σ H' => H' = H ∧ ∃ z : Nat, (z : Int) ≤ m ∧ σ = [some (.int c), some (.str (tx ls)), some (.int m), some (.int (z : Nat)), none, none, none]) ?_ ?_
    · rfl'
      have a0 := Int.emod_nonneg c (b := m + 1) (by lia)
      have a1 := Int.emod_lt_of_pos c (b := m + 1) (by lia)
      exact ⟨by lia, (c % (m + 1)).toNat, by lia, by lia⟩
    rintro σ H1 ⟨rfl, z, hz, rfl⟩
    refine cut_by (fun σ H' => H' = H1 ∧ ∃ n : Int, (0 ≤ n ∧ n < 2147483647) ∧ σ = [some (.int c), some (.str (tx ls)), some (.int m), some (.int (z : Nat)), some (.int n), none, none]) ?_ ?_
    · rfl'
      exact ⟨⟨by lia, by lia⟩, by decide, _, Int.emod_nonneg _ (by decide), Int.emod_lt_of_pos _ (by decide), rfl⟩
    rintro σ H1 ⟨rfl, n, hn, rfl⟩
    refine cut_by (fun σ H' => H' = H1 ∧ σ = [some (.int c), some (.str (tx ls)), some (.int m), some (.int (z : Nat)), some (.int n), some (.str (tx [])), none]) ?_ ?_
    · rfl'
      rfl
    rintro σ H1 ⟨rfl, rfl⟩
    refine cut_by (fun σ H' => H' = H1 ∧ ∃ (l : List Nat) (n : Int) (v6 : Option V), (l.length = z ∧ ∀ x ∈ l, x ∈ ls) ∧ σ = [some (.int c), some (.str (tx ls)), some (.int m), some (.int (z : Nat)), some (.int n), some (.str (tx l)), v6]) ?_ ?_
    · rfl'
      refine ⟨by lia, by lia, ForR.by (fun i σ H' => H' = H1 ∧ ∃ (l : List Nat) (n : Int) (v6 : Option V), (l.length = i ∧ (∀ x ∈ l, x ∈ ls) ∧ 0 ≤ n) ∧ σ = [some (.int c), some (.str (tx ls)), some (.int m), some (.int (z : Nat)), some (.int n), some (.str (tx l)), v6]) ⟨rfl, [], n, none, ⟨rfl, fun x h => absurd h List.not_mem_nil, hn.1⟩, rfl⟩ ?_ ?_⟩
      · rintro i σ H' hi ⟨rfl, l, n, v6, ⟨hl, hin, h0⟩, rfl⟩
        rw [Int.toNat_natCast] at hi
        simp only [gName, List.set_cons_succ, List.set_cons_zero]
        refine cut_by (fun σ H'' => H'' = H' ∧ ∃ n : Int, 0 ≤ n ∧ σ = [some (.int c), some (.str (tx ls)), some (.int m), some (.int (z : Nat)), some (.int n), some (.str (tx l)), some (.int (0 + (i : Int)))]) ?_ ?_
        · rfl'
          exact ⟨.inr ⟨by decide, by decide⟩, by decide, Int.emod_nonneg _ (by decide)⟩
        rintro σ H2 ⟨rfl, n, h0, rfl⟩
        rfl'
        have m0 := Int.emod_nonneg (n / 64) (b := (ls.length : Int)) (by lia)
        have m1 := Int.emod_lt_of_pos (n / 64) (b := (ls.length : Int)) (by lia)
        obtain ⟨v, e1, e2⟩ := atI_of (xs := ls) m0 m1
        refine ⟨⟨by decide, by decide⟩, by lia, by lia, by lia, v, e1, by lia, l ++ [v], by rw [List.length_append, hl]; rfl, fun x hx => ?_, n, h0, rfl, rfl⟩
        rcases ae.mp hx with hx | hx
        · exact hin x hx
        · rw [af.mp hx]
          exact List.mem_of_getElem? e2
      · rintro σ H' ⟨rfl, l, n, v6, ⟨hl, hin, h0⟩, rfl⟩
        rw [Int.toNat_natCast] at hl
        exact ⟨rfl, l, hl, hin, n, v6, rfl⟩
    rintro σ H1 ⟨rfl, l, n, v6, ⟨hl, hi⟩, rfl⟩
    rfl'
    exact q l (by lia) hi
def sp_mxd : Sp := fun vs H Q _ => ∃ c k : Int, vs = [.int c, .int k] ∧ 0 ≤ k ∧ k < 4 ∧ ∀ (z : Int) (H' : Hp), 0 ≤ z → Same H H' → Q (.int z) H'
theorem sc_mixed : FnScope ["_law_cell", "_law_k"] ["_law_cell", "_law_k"] (defScope s_mixed) := ⟨rfl, rfl, rfl, by symm, rfl, by symm, by symm⟩
theorem ok_mixed {f : Addr} {fd : FuncData} (B : Bt mg)  (F : Fun K "_law_mixed" "_law_mixed" s_mixed f fd)  : FnOk P w K mg base CX0 1 f fd ["_law_cell", "_law_k"] sp_mxd := by
  refine F.ok sc_mixed (fun vs H Q E h => ?_) (fun cdv A outer s H vs Q E hr h => ?_)
  · obtain ⟨c, k, rfl, _⟩ := h
    rfl
  · obtain ⟨c, k, rfl, h0, h4, q⟩ := h
    refine ⟨_, (pss_one (ps_ret (pe_op op_mod (pe_op op_mul (pv 0) (pe_ix ix_tup (pe_tup (pa_cons pe_int (pa_cons pe_int (pa_cons pe_int (pa_cons pe_int pa_nil))))) (pv 1) (fun _ _ => rfl))) (pe_ix ix_tup (pe_tup (pa_cons pe_int (pa_cons pe_int (pa_cons pe_int (pa_cons pe_int pa_nil))))) (pv 1) (fun _ _ => rfl))))), ?_⟩
    have s16 := sl16
    rfl'
    refine ⟨by lia, fun p hp => ?_⟩
    suffices fin : ∃ (x y : Int), CMul c x ∧ 0 < y ∧ atI [V.int 48271, V.int 69621, V.int 40692, V.int 39373] k = some (.int x) ∧ atI [V.int 2147483647, V.int 2147483629, V.int 2147483587, V.int 2147483579] k = some (.int y) by
      obtain ⟨x, y, h1, h2, h3, h4⟩ := fin
      exact ⟨_, SqT.of upd_same, _, h3, x, rfl, h1, by lia, fun p1 hp1 => ⟨_, SqT.of upd_same, _, h4, y, rfl, h2, q _ _ (Int.emod_nonneg _ (by lia)) ((same_upd hp).trans (same_upd hp1))⟩⟩
    rcases (show k = 0 ∨ k = 1 ∨ k = 2 ∨ k = 3 by lia) with rfl | rfl | rfl | rfl
    · exact ⟨48271, 2147483647, .inr ⟨by decide, by decide⟩, by decide, rfl, rfl⟩
    · exact ⟨69621, 2147483629, .inr ⟨by decide, by decide⟩, by decide, rfl, rfl⟩
    · exact ⟨40692, 2147483587, .inr ⟨by decide, by decide⟩, by decide, rfl, rfl⟩
    · exact ⟨39373, 2147483579, .inr ⟨by decide, by decide⟩, by decide, rfl, rfl⟩
def sp_shn : Sp := fun vs H Q _ => ∃ l : List Nat, vs = [.str (tx l)] ∧ Q (.str (tx (shW l))) H
theorem sc_shown : FnScope ["_law_word_here"] ["_law_word_here"] (defScope s_shown) := ⟨rfl, rfl, rfl, by symm, rfl, by symm, by symm⟩
theorem ok_shown {f : Addr} {fd : FuncData} (B : Bt mg)  (F : Fun K "_law_shown" "_law_shown" s_shown f fd)  : FnOk P w K mg base CX0 1 f fd ["_law_word_here"] sp_shn := by
  refine F.ok sc_shown (fun vs H Q E h => ?_) (fun cdv A outer s H vs Q E hr h => ?_)
  · obtain ⟨l, rfl, _⟩ := h
    rfl
  · obtain ⟨l, rfl, q⟩ := h
    refine ⟨_, (pss_cut (ps_if (pt_cmpR op_eq (pv 0) pe_str (nomark _))
        (pss_one (ps_ret pe_str))
        pss_nil)
      (pss_one (ps_ret (pv 0)))), ?_⟩
    have s16 := sl16
    have e46 : (("." : Str)) = tx [46] := rfl
    have e00 : (("" : Str)) = tx [] := rfl
    simp only [e46, e00]
    unfold shW at q
    refine cut_by (fun σ H' => H' = H ∧ l ≠ [] ∧ σ = [some (.str (tx l))]) ?_ ?_
    · rfl'
      refine ite2 (fun h => ?_) fun h => h
      rw [if_pos h] at q
      exact q
    rintro σ H1 ⟨rfl, h, rfl⟩
    rfl'
    rw [if_neg h] at q
    exact q
theorem sign_txt : ∃ l : List Nat, ((" !\"#$&'()*+,-./0123456789:;<=>?@ABCDEFGHIJKLMNOPQRSTUVWXYZ[\\]^_`" : Str)) = tx l ∧ l.length = 64 := ⟨((" !\"#$&'()*+,-./0123456789:;<=>?@ABCDEFGHIJKLMNOPQRSTUVWXYZ[\\]^_`" : Str)).cps.toList, by symm, by symm⟩
theorem sign_txt2 : ∃ l : List Nat, (("abcdefghijklmnopqrstuvwxyz{|}~" : Str)) = tx l ∧ l.length = 30 := ⟨(("abcdefghijklmnopqrstuvwxyz{|}~" : Str)).cps.toList, by symm, by symm⟩
def sp_sgn : Sp := fun vs H Q _ => ∃ c : Int, vs = [.int c] ∧ ∀ x : Nat, Q (.str (tx [x])) H
theorem sc_sign : FnScope ["_law_cell", "_law_some"] ["_law_cell"] (defScope s_sign) := ⟨rfl, rfl, rfl, by symm, rfl, by symm, by symm⟩
theorem ok_sign {f : Addr} {fd : FuncData} (B : Bt mg)  (F : Fun K "_law_sign" "_law_sign" s_sign f fd)  : FnOk P w K mg base CX0 1 f fd ["_law_cell"] sp_sgn := by
  refine F.ok sc_sign (fun vs H Q E h => ?_) (fun cdv A outer s H vs Q E hr h => ?_)
  · obtain ⟨c, rfl, _⟩ := h
    rfl
  · obtain ⟨c, rfl, q⟩ := h
    refine ⟨_, (pss_cut (ps_set (i := 1) sc_sign.nd rfl (.inl rfl) pe_str)
      (pss_cut (ps_set (i := 1) sc_sign.nd rfl (.inl rfl) (pe_op op_add_str (pv 1) pe_str))
      (pss_one (ps_ret (pe_ix ix_str (pv 1) (pe_op op_mod (pv 0) (pe_callB c_len rfl B.len PySem.boot_len (pa_cons (pv 1) pa_nil))) (fun _ _ => rfl)))))), ?_⟩
    have s16 := sl16
    have s16 := sl16
    obtain ⟨l1, e1, n1⟩ := sign_txt
    obtain ⟨l2, e2, n2⟩ := sign_txt2
    simp only [e1, e2]
    refine cut_by (fun σ H' => H' = H ∧ σ = [some (.int c), some (.str (tx l1))]) ?_ ?_
    · rfl'
    rintro σ H1 ⟨rfl, rfl⟩
    refine cut_by (fun σ H' => H' = H1 ∧ σ = [some (.int c), some (.str (tx (l1 ++ l2)))]) ?_ ?_
    · rfl'
      lia
    rintro σ H1 ⟨rfl, rfl⟩
    rfl'
    have hl : (l1 ++ l2).length = 94 := by rw [List.length_append]; lia
    rw [hl]
    obtain ⟨v, e1, e2⟩ := atI_of (xs := l1 ++ l2) (i := c % ((94 : Nat) : Int)) (Int.emod_nonneg _ (by decide)) (by rw [hl]; exact Int.emod_lt_of_pos _ (by decide))
    exact ⟨by lia, by decide, by lia, v, e1, q v⟩
theorem use_strB {n : Nat} {H : Hp} {Q : VK} (hn : n < 1000000000) (h : Q (.str (tx (dec n))) H) : rStrI [.int (n : Nat)] H Q := by
  refine ⟨_, rfl, ?_, ?_⟩
  · show Nat.log2 n < 1920
    by_cases z : n = 0
    · subst z
      decide
    · exact Nat.lt_trans ((Nat.log2_lt (k := 31) z).mpr (by lia)) (by decide)
  · rw [dec_txt]
    exact h
theorem dec9 {n : Nat} (h : n < 1000000000) : (dec n).length ≤ 9 := dec_len 8 n (by simpa using h)
theorem join_len {c m : Nat} : ∀ {P : List (List Nat)}, (∀ p ∈ P, p.length ≤ m) → (joinL c P).length ≤ P.length * (m + 1)
  | [], _ => by simp [joinL]
  | [p], h => by
    have := h p List.mem_cons_self
    simp only [joinL, List.length_singleton]
    lia
  | p :: q :: r, h => by
    have h1 := h p List.mem_cons_self
    have h2 := join_len (c := c) (m := m) (P := q :: r) fun x hx => h x (List.mem_cons_of_mem _ hx)
    simp only [joinL, List.length_append, List.length_cons] at h2 ⊢
    have e : (r.length + 1 + 1) * (m + 1) = (r.length + 1) * (m + 1) + (m + 1) := Nat.succ_mul _ _
    lia
def sp_wrow : Sp := fun vs H Q _ => ∃ (c : Int) (l : List Nat), vs = [.int c, .str (tx l)] ∧ goodB l = true ∧ ∀ (row : List Nat) (H' : Hp), Same H H' → row.length ≤ 200 → Q (.str (tx row)) H'
theorem sc_weights_row : FnScope ["_law_cell", "_law_letters_here", "_law_many", "_law_texts", "_law_k", "_law_number", "_law_some", "_law_text"] ["_law_cell", "_law_letters_here"] (defScope s_weights_row) := ⟨rfl, rfl, rfl, by symm, rfl, by symm, by symm⟩
theorem ok_weights_row {f : Addr} {fd : FuncData} (B : Bt mg)  (F : Fun K "_law_weights_row" "_law_weights_row" s_weights_row f fd) (D_mixed : Df P w K mg base CX0 1 "_law_mixed" ["_law_cell", "_law_k"] [] sp_mxd) : FnOk P w K mg base CX0 2 f fd ["_law_cell", "_law_letters_here"] sp_wrow := by
  refine F.ok sc_weights_row (fun vs H Q E h => ?_) (fun cdv A outer s H vs Q E hr h => ?_)
  · obtain ⟨c, l, rfl, _⟩ := h
    rfl
  · obtain ⟨c, l, rfl, hg, q⟩ := h
    refine ⟨_, (pss_cut (ps_set (i := 2) sc_weights_row.nd rfl (.inl rfl) (pe_op op_add (pe_callB c_len rfl B.len PySem.boot_len (pa_cons (pv 1) pa_nil)) (pe_ix ix_tup (pe_tup (pa_cons pe_int (pa_cons pe_int (pa_cons pe_int (pa_cons pe_int (pa_cons (pe_un un_neg pe_int) pa_nil)))))) (pe_op op_mod (pv 0) pe_int) (fun _ _ => rfl))))
      (pss_cut (ps_set (i := 3) sc_weights_row.nd rfl (.inl rfl) (pe_lst pa_nil))
      (pss_cut (ps_for PassesOwn.never rfl (pi_range1 rfl B.range (pa_cons (pv 2) pa_nil)) (pg_name (i := 4) sc_weights_row.nd rfl (.inl rfl))
        (pss_cut (ps_set (i := 5) sc_weights_row.nd rfl (.inl rfl) (cl0 D_mixed hr .nil rfl (pa_cons (pe_op op_add (pv 0) (pv 4)) (pa_cons (pe_op op_mod (pv 4) pe_int) pa_nil))))
        (pss_cut (ps_set (i := 6) sc_weights_row.nd rfl (.inl rfl) (pe_tup (pa_cons (pe_op op_mod (pv 5) pe_int) (pa_cons (pe_op op_add pe_int (pe_op op_mod (pv 5) pe_int)) (pa_cons (pe_op op_add pe_int (pe_op op_mod (pv 5) pe_int)) (pa_cons (pe_op op_add pe_int (pe_op op_mod (pv 5) pe_int)) pa_nil))))))
        (pss_cut (ps_set (i := 7) sc_weights_row.nd rfl (.inl rfl) (pe_callTy c_strI rfl B.str PySem.Pv.boot_str (pa_cons (pe_ix ix_tup (pv 6) (pe_op op_mod (pe_op op_mod (pe_op op_fdiv (pv 5) pe_int) pe_int) pe_int) (fun _ _ => rfl)) pa_nil)))
        (pss_cut (ps_if (PW.pt (pw_and (pt_cmpR op_eq (pe_op op_mod (pe_op op_fdiv (pv 0) pe_int) pe_int) pe_int (nomark _)) (pw_and1 (pt_cmpR op_eq (pv 4) (pe_op op_mod (pe_op op_fdiv (pv 0) pe_int) (pv 2)) (nomark _)))))
          (pss_one (ps_set (i := 7) sc_weights_row.nd rfl (.inl rfl) (pe_op op_add_str pe_str (pe_callTy c_strI rfl B.str PySem.Pv.boot_str (pa_cons (pe_op op_add pe_int (pe_op op_mod (pv 5) pe_int)) pa_nil)))))
          pss_nil)
        (pss_one (ps_expr (pe_bm PySem.F.plainAttrs_list PySem.F.slot_list_append PySem.F.type_list_append mt_append (pv 3) (pa_cons (pv 7) pa_nil)))))))))
      (pss_one (ps_ret (pe_op op_add_str pe_str (pe_bm PySem.F.plainAttrs_str PySem.F.slot_str_join PySem.F.type_str_join m_join pe_str (pa_cons (pv 3) pa_nil)))))))), ?_⟩
    have s16 := sl16
    have s16 := sl16
    have hl6 := (of_decide_eq_true hg).2.1
    have hl1 := (of_decide_eq_true hg).1
    have b32 : ((" " : Str)) = tx [32] := rfl
    have b48 : (("0" : Str)) = tx [48] := rfl
    simp only [b32, b48, wg_txt]
    refine cut_by (fun σ H' => Same H H' ∧ ∃ m : Nat, m ≤ 7 ∧ σ = [some (.int c), some (.str (tx l)), some (.int (m : Nat)), none, none, none, none, none]) ?_ ?_
    · rfl'
      refine ⟨by lia, by lia, fun p hp => ?_⟩
      have m0 := Int.emod_nonneg c (b := 5) (by decide)
      have m1 := Int.emod_lt_of_pos c (b := 5) (by decide)
      have fin : ∀ z : Int, -1 ≤ z → z ≤ 1 → ∃ m : Nat, m ≤ 7 ∧ (l.length : Int) + z = (m : Int) := fun z h1 h2 => ⟨((l.length : Int) + z).toNat, by lia, by lia⟩
      refine ⟨by decide, _, SqT.of upd_same, ?_⟩
      have s' := same_upd (o := .tup [.int 0, .int 0, .int 0, .int 1, .int (-1)]) hp
      rcases (show c % 5 = 0 ∨ c % 5 = 1 ∨ c % 5 = 2 ∨ c % 5 = 3 ∨ c % 5 = 4 by lia) with e | e | e | e | e <;> rw [e]
      · obtain ⟨m, h1, h2⟩ := fin 0 (by decide) (by decide)
        exact ⟨_, rfl, _, rfl, s', m, h1, h2⟩
      · obtain ⟨m, h1, h2⟩ := fin 0 (by decide) (by decide)
        exact ⟨_, rfl, _, rfl, s', m, h1, h2⟩
      · obtain ⟨m, h1, h2⟩ := fin 0 (by decide) (by decide)
        exact ⟨_, rfl, _, rfl, s', m, h1, h2⟩
      · obtain ⟨m, h1, h2⟩ := fin 1 (by decide) (by decide)
        exact ⟨_, rfl, _, rfl, s', m, h1, h2⟩
      · obtain ⟨m, h1, h2⟩ := fin (-1) (by decide) (by decide)
        exact ⟨_, rfl, _, rfl, s', m, h1, h2⟩
    rintro σ H1 ⟨s1, m, hm, rfl⟩
    refine cut_by (fun σ H' => Same H1 H' ∧ ∃ D : Addr, H1 D = none ∧ H' D = some (.lst []) ∧ σ = [some (.int c), some (.str (tx l)), some (.int (m : Nat)), some (.ref D), none, none, none, none]) ?_ ?_
    · rfl'
      exact ⟨by lia, fun D hD => ⟨same_upd hD, D, hD, upd_same, rfl⟩⟩
    rintro σ H2 ⟨s2, D, hD, hD2, rfl⟩
    refine cut_by (fun σ H' => Same H1 H' ∧ ∃ (ts : List (List Nat)) (v4 v5 v6 v7 : Option V), (H' D = some (.lst ((ts.map tx).map V.str)) ∧ ts.length ≤ 7 ∧ ∀ t ∈ ts, t.length ≤ 10) ∧ σ = [some (.int c), some (.str (tx l)), some (.int (m : Nat)), some (.ref D), v4, v5, v6, v7]) ?_ ?_
    · rfl'
      refine ⟨by lia, by lia, ForR.by (fun i σ H' => Same H1 H' ∧ ∃ (ts : List (List Nat)) (v4 v5 v6 v7 : Option V), (H' D = some (.lst ((ts.map tx).map V.str)) ∧ ts.length = i ∧ ∀ t ∈ ts, t.length ≤ 10) ∧ σ = [some (.int c), some (.str (tx l)), some (.int (m : Nat)), some (.ref D), v4, v5, v6, v7]) ⟨s2, [], none, none, none, none, ⟨hD2, rfl, fun t h => absurd h List.not_mem_nil⟩, rfl⟩ ?_ ?_⟩
      · rintro i σ H' hi ⟨s', ts, v4, v5, v6, v7, ⟨hT, hn, hb⟩, rfl⟩
        rw [Int.toNat_natCast] at hi
        simp only [gName, List.set_cons_succ, List.set_cons_zero]
        refine cut_by (fun σ H'' => Same H' H'' ∧ ∃ z : Int, 0 ≤ z ∧ σ = [some (.int c), some (.str (tx l)), some (.int (m : Nat)), some (.ref D), some (.int (0 + (i : Int))), some (.int z), v6, v7]) ?_ ?_
        · rfl'
          exact ⟨by decide, _, _, rfl, Int.emod_nonneg _ (by decide), Int.emod_lt_of_pos _ (by decide), fun z H'' hz s'' => ⟨s'', z, hz, rfl⟩⟩
        rintro σ H3 ⟨s3, z, hz, rfl⟩
        refine cut_by (fun σ H'' => Same H' H'' ∧ ∃ (p : Addr) (x0 x1 x2 x3 : Nat), (H'' p = some (.tup [.int (x0 : Nat), .int (x1 : Nat), .int (x2 : Nat), .int (x3 : Nat)]) ∧ x0 < 100000000 ∧ x1 < 100000000 ∧ x2 < 100000000 ∧ x3 < 100000000) ∧ σ = [some (.int c), some (.str (tx l)), some (.int (m : Nat)), some (.ref D), some (.int (0 + (i : Int))), some (.int z), some (.ref p), v7]) ?_ ?_
        · rfl'
          refine ⟨by decide, by decide, by decide, by decide, by lia, fun p hp => ⟨s3.trans (same_upd hp), p, ?_⟩⟩
          have n0 := Int.emod_nonneg z (b := 12) (by decide)
          have n1 := Int.emod_nonneg z (b := 1000000) (by decide)
          have n2 := Int.emod_nonneg z (b := 4) (by decide)
          have n3 := Int.emod_nonneg z (b := 2) (by decide)
          have m0 := Int.emod_lt_of_pos z (b := 12) (by decide)
          have m1 := Int.emod_lt_of_pos z (b := 1000000) (by decide)
          have m2 := Int.emod_lt_of_pos z (b := 4) (by decide)
          have m3 := Int.emod_lt_of_pos z (b := 2) (by decide)
          have e0 : ((z % 12).toNat : Int) = z % 12 := Int.toNat_of_nonneg n0
          have e1 : ((1 + z % 1000000).toNat : Int) = 1 + z % 1000000 := Int.toNat_of_nonneg (by lia)
          have e2 : ((999999 + z % 4).toNat : Int) = 999999 + z % 4 := Int.toNat_of_nonneg (by lia)
          have e3 : ((10000000 + z % 2).toNat : Int) = 10000000 + z % 2 := Int.toNat_of_nonneg (by lia)
          exact ⟨(z % 12).toNat, (1 + z % 1000000).toNat, (999999 + z % 4).toNat, (10000000 + z % 2).toNat, by rw [e0, e1, e2, e3]; exact upd_same, by lia, by lia, by lia, by lia, rfl⟩
        rintro σ H4 ⟨s4, p, x0, x1, x2, x3, ⟨hp, b0, b1, b2, b3⟩, rfl⟩
        refine cut_by (fun σ H'' => H'' = H4 ∧ ∃ t : List Nat, t.length ≤ 10 ∧ σ = [some (.int c), some (.str (tx l)), some (.int (m : Nat)), some (.ref D), some (.int (0 + (i : Int))), some (.int z), some (.ref p), some (.str (tx t))]) ?_ ?_
        · rfl'
          have i0 := Int.emod_nonneg (z / 7 % 9) (b := 4) (by decide)
          have i1 := Int.emod_lt_of_pos (z / 7 % 9) (b := 4) (by decide)
          have fin : ∀ n : Nat, n < 100000000 → rStrI [.int (n : Nat)] H4 fun x H1 => H1 = H4 ∧ ∃ t : List Nat, t.length ≤ 10 ∧ x = V.str (tx t) := fun n hn => use_strB (by lia) ⟨rfl, dec n, by have := dec9 (n := n) (by lia); lia, rfl⟩
          refine ⟨⟨by decide, by decide⟩, by decide, by decide, _, SqT.of hp, ?_⟩
          rcases (show z / 7 % 9 % 4 = 0 ∨ z / 7 % 9 % 4 = 1 ∨ z / 7 % 9 % 4 = 2 ∨ z / 7 % 9 % 4 = 3 by lia) with e | e | e | e <;> rw [e]
          · exact ⟨_, rfl, fin x0 b0⟩
          · exact ⟨_, rfl, fin x1 b1⟩
          · exact ⟨_, rfl, fin x2 b2⟩
          · exact ⟨_, rfl, fin x3 b3⟩
        rintro σ H5 ⟨rfl, t, ht, rfl⟩
        refine cut_by (fun σ H'' => H'' = H5 ∧ ∃ t : List Nat, t.length ≤ 10 ∧ σ = [some (.int c), some (.str (tx l)), some (.int (m : Nat)), some (.ref D), some (.int (0 + (i : Int))), some (.int z), some (.ref p), some (.str (tx t))]) ?_ ?_
        · rfl'
          refine ⟨⟨by decide, by decide⟩, by decide, ite2 (fun _ => ⟨⟨by decide, by decide⟩, by lia, ite2 (fun _ => ⟨by decide, ?_⟩) fun _ => ht⟩) fun _ => ht⟩
          have n0 := Int.emod_nonneg z (b := 999) (by decide)
          have m0 := Int.emod_lt_of_pos z (b := 999) (by decide)
          rw [← Int.toNat_of_nonneg (a := 1 + z % 999) (by lia)]
          have d9 := dec9 (n := (1 + z % 999).toNat) (by lia)
          exact use_strB (by lia) ⟨_, rfl, by rw [len_tx]; lia, rfl, [48] ++ dec (1 + z % 999).toNat, by rw [List.length_append, List.length_singleton]; lia, tx_append _ _⟩
        rintro σ H6 ⟨rfl, t, ht, rfl⟩
        rfl'
        have hT6 := s4 _ _ hT
        refine ⟨.inl ⟨_, SqL.of hT6⟩, _, hT6, by rw [List.length_map, List.length_map]; lia, same_over (s'.trans s4) hD, ts ++ [t], ?_, by rw [List.length_append, hn]; rfl, fun x hx => ?_⟩
        · rw [upd_same, List.map_append, List.map_append]
          rfl
        · rcases ae.mp hx with hx | hx
          · exact hb x hx
          · rw [af.mp hx]
            exact ht
      · rintro σ H' ⟨s', ts, v4, v5, v6, v7, ⟨hT, hn, hb⟩, rfl⟩
        rw [Int.toNat_natCast] at hn
        exact ⟨s', ts, hT, by lia, hb, v4, v5, v6, v7, rfl⟩
    rintro σ H3 ⟨s3, ts, v4, v5, v6, v7, ⟨hT, hn, hb⟩, rfl⟩
    rfl'
    have hjl := join_len (c := 32) (m := 10) (P := ts) hb
    refine ⟨tx [32], D, ts.map tx, rfl, rfl, SqL.of hT, join_ok (b := 10) hb (by lia), ?_⟩
    rw [join_tx]
    refine ⟨_, rfl, ?_, ?_⟩
    · rw [len_tx]
      show 14 + _ ≤ _
      lia
    · rw [tx_append]
      refine q _ H3 (s1.trans s3) ?_
      rw [List.length_append]
      show 14 + _ ≤ _
      lia
theorem shW_len {a : List Nat} {m : Nat} (h : a.length ≤ m) (h1 : 1 ≤ m) : (shW a).length ≤ m := by
  unfold shW
  split
  · exact h1
  · exact h
def sp_prow : Sp := fun vs H Q _ => ∃ (c : Int) (l : List Nat), vs = [.int c, .str (tx l)] ∧ goodB l = true ∧ ∀ (row : List Nat) (H' : Hp), Same H H' → row.length ≤ 200 → Q (.str (tx row)) H'
theorem sc_plain_row : FnScope ["_law_cell", "_law_letters_here", "_law_way", "_law_one", "_law_other", "_law_row_here"] ["_law_cell", "_law_letters_here"] (defScope s_plain_row) := ⟨rfl, rfl, rfl, by symm, rfl, by symm, by symm⟩
theorem ok_plain_row {f : Addr} {fd : FuncData} (B : Bt mg)  (F : Fun K "_law_plain_row" "_law_plain_row" s_plain_row f fd) (D_word : Df P w K mg base CX0 1 "_law_word" ["_law_cell", "_law_letters_here", "_law_most"] [] sp_wrd) (D_mixed : Df P w K mg base CX0 1 "_law_mixed" ["_law_cell", "_law_k"] [] sp_mxd) (D_weights_row : Df P w K mg base CX0 2 "_law_weights_row" ["_law_cell", "_law_letters_here"] [] sp_wrow) (D_shown : Df P w K mg base CX0 1 "_law_shown" ["_law_word_here"] [] sp_shn) (D_letters : Df P w K mg base CX0 1 "_law_letters" ["_law_cell", "_law_most"] [] sp_ltr) : FnOk P w K mg base CX0 3 f fd ["_law_cell", "_law_letters_here"] sp_prow := by
  refine F.ok sc_plain_row (fun vs H Q E h => ?_) (fun cdv A outer s H vs Q E hr h => ?_)
  · obtain ⟨c, l, rfl, _⟩ := h
    rfl
  · obtain ⟨c, l, rfl, hg, q⟩ := h
    refine ⟨_, (pss_cut (ps_set (i := 2) sc_plain_row.nd rfl (.inl rfl) (pe_op op_mod (pv 0) pe_int))
      (pss_cut (ps_set (i := 3) sc_plain_row.nd rfl (.inl rfl) (cl0 D_word hr .nil rfl (pa_cons (cl0 D_mixed hr .nil rfl (pa_cons (pv 0) (pa_cons pe_int pa_nil))) (pa_cons (pv 1) (pa_cons pe_int pa_nil)))))
      (pss_cut (ps_set (i := 4) sc_plain_row.nd rfl (.inl rfl) (cl0 D_word hr .nil rfl (pa_cons (cl0 D_mixed hr .nil rfl (pa_cons (pv 0) (pa_cons pe_int pa_nil))) (pa_cons (pv 1) (pa_cons pe_int pa_nil)))))
      (pss_cut (ps_if (pt_cmpR op_eq (pv 2) pe_int (nomark _))
        (pss_one (ps_ret pe_str))
        pss_nil)
      (pss_cut (ps_if (pt_cmpR op_eq (pv 2) pe_int (nomark _))
        (pss_one (ps_ret (pe_ix ix_tup (pe_tup (pa_cons pe_str (pa_cons pe_str pa_nil))) (pe_op op_mod (pe_op op_fdiv (pv 0) pe_int) pe_int) (fun _ _ => rfl))))
        pss_nil)
      (pss_cut (ps_if (pt_cmpR op_eq (pv 2) pe_int (nomark _))
        (pss_one (ps_ret (cl0 D_weights_row hr .nil rfl (pa_cons (pe_op op_fdiv (pv 0) pe_int) (pa_cons (pv 1) pa_nil)))))
        pss_nil)
      (pss_cut (ps_if (pt_cmpR op_eq (pv 2) pe_int (nomark _))
        (pss_cut (ps_if (pt_cmpR op_eq (pe_op op_mod (pe_op op_fdiv (pv 0) pe_int) pe_int) pe_int (nomark _))
          (pss_one (ps_ret (pe_op op_add_str (pe_op op_add_str pe_str (pv 1)) (pe_ix ix_str (pv 1) pe_int (fun _ _ => rfl)))))
          pss_nil)
        (pss_one (ps_ret (pe_op op_add_str pe_str (cl0 D_letters hr .nil rfl (pa_cons (cl0 D_mixed hr .nil rfl (pa_cons (pv 0) (pa_cons pe_int pa_nil))) (pa_cons pe_int pa_nil)))))))
        pss_nil)
      (pss_cut (ps_if (pt_cmpR op_eq (pv 2) pe_int (nomark _))
        (pss_one (ps_ret (pe_op op_add_str (pe_op op_add_str pe_str (pv 3)) (pv 4))))
        pss_nil)
      (pss_cut (ps_if (pt_cmpR op_eq (pv 2) pe_int (nomark _))
        (pss_cut (ps_set (i := 5) sc_plain_row.nd rfl (.inl rfl) (pe_op op_add_str (pe_op op_add_str (pe_op op_add_str (pe_op op_add_str pe_str (cl0 D_shown hr .nil rfl (pa_cons (pv 3) pa_nil))) pe_str) (pv 4)) (pv 3)))
        (pss_cut (ps_if (pt_cmpR op_eq (pe_op op_mod (pe_op op_fdiv (pv 0) pe_int) pe_int) pe_int (nomark _))
          (pss_one (ps_set (i := 5) sc_plain_row.nd rfl (.inl rfl) (pe_op op_add_str (pe_op op_add_str (pv 5) pe_str) (cl0 D_shown hr .nil rfl (pa_cons (pv 4) pa_nil)))))
          pss_nil)
        (pss_one (ps_ret (pv 5)))))
        pss_nil)
      (pss_one (ps_ret (pe_op op_add_str (pe_op op_add_str (pe_op op_add_str pe_str (cl0 D_shown hr .nil rfl (pa_cons (pv 3) pa_nil))) pe_str) (cl0 D_shown hr .nil rfl (pa_cons (pv 4) pa_nil)))))))))))))), ?_⟩
    have s16 := sl16
    have s16 := sl16
    have hl6 := (of_decide_eq_true hg).2.1
    have hl1 := (of_decide_eq_true hg).1
    have b32 : ((" " : Str)) = tx [32] := rfl
    simp only [dr_txt, ol_txt, or_txt, le_txt, fo_txt, ak_txt, pa_txt, sep_txt, b32]
    have n8 : leL.length = 8 := rfl
    have n5 : foL.length = 5 := rfl
    have n4 : akL.length = 4 := rfl
    have n5' : paL.length = 5 := rfl
    have n3 : sepL.length = 3 := rfl
    refine cut_by (fun σ H' => H' = H ∧ σ = [some (.int c), some (.str (tx l)), some (.int (c % 9)), none, none, none]) ?_ ?_
    · rfl'
      decide
    rintro σ H1 ⟨rfl, rfl⟩
    refine cut_by (fun σ H' => Same H1 H' ∧ ∃ a : List Nat, a.length ≤ 11 ∧ σ = [some (.int c), some (.str (tx l)), some (.int (c % 9)), some (.str (tx a)), none, none]) ?_ ?_
    · rfl'
      exact ⟨c, 0, rfl, by decide, by decide, fun z H' _ s' => use_wrd hl1 (by lia) (by decide) (by decide) fun a ha _ => ⟨s', a, by lia, rfl⟩⟩
    rintro σ H2 ⟨s2, a, ha, rfl⟩
    refine cut_by (fun σ H' => Same H1 H' ∧ ∃ b : List Nat, b.length ≤ 11 ∧ σ = [some (.int c), some (.str (tx l)), some (.int (c % 9)), some (.str (tx a)), some (.str (tx b)), none]) ?_ ?_
    · rfl'
      exact ⟨c, 1, rfl, by decide, by decide, fun z H' _ s' => use_wrd hl1 (by lia) (by decide) (by decide) fun b hb _ => ⟨s2.trans s', b, by lia, rfl⟩⟩
    rintro σ H3 ⟨s3, b, hb, rfl⟩
    have la := shW_len ha (by decide)
    have lb := shW_len hb (by decide)
    clear s2
    refine cut_by (fun σ H' => H' = H3 ∧ σ = [some (.int c), some (.str (tx l)), some (.int (c % 9)), some (.str (tx a)), some (.str (tx b)), none]) ?_ ?_
    · rfl'
      exact ite2 (fun _ => q drL H3 s3 (by decide)) fun _ => trivial
    rintro σ H4 ⟨rfl, rfl⟩
    refine cut_by (fun σ H' => H' = H4 ∧ σ = [some (.int c), some (.str (tx l)), some (.int (c % 9)), some (.str (tx a)), some (.str (tx b)), none]) ?_ ?_
    · rfl'
      refine ite2 (fun _ => ⟨by lia, fun p hp => ⟨⟨by decide, by decide⟩, by decide, _, SqT.of upd_same, ?_⟩⟩) fun _ => trivial
      have m0 := Int.emod_nonneg (c / 9) (b := 2) (by decide)
      have m1 := Int.emod_lt_of_pos (c / 9) (b := 2) (by decide)
      rcases (show c / 9 % 2 = 0 ∨ c / 9 % 2 = 1 by lia) with e | e <;> rw [e]
      · exact ⟨_, rfl, q olL _ (s3.trans (same_upd hp)) (by decide)⟩
      · exact ⟨_, rfl, q orL _ (s3.trans (same_upd hp)) (by decide)⟩
    rintro σ H5 ⟨rfl, rfl⟩
    refine cut_by (fun σ H' => H' = H5 ∧ σ = [some (.int c), some (.str (tx l)), some (.int (c % 9)), some (.str (tx a)), some (.str (tx b)), none]) ?_ ?_
    · rfl'
      exact ite2 (fun _ => ⟨⟨by decide, by decide⟩, _, l, rfl, hg, fun row H' s' hr => q row H' (s3.trans s') hr⟩) fun _ => trivial
    rintro σ H6 ⟨rfl, rfl⟩
    refine cut_by (fun σ H' => H' = H6 ∧ σ = [some (.int c), some (.str (tx l)), some (.int (c % 9)), some (.str (tx a)), some (.str (tx b)), none]) ?_ ?_
    · rfl'
      refine ite2 (fun _ => ?_) fun _ => trivial
      refine cut_by (fun σ H' => H' = H6 ∧ σ = [some (.int c), some (.str (tx l)), some (.int (c % 9)), some (.str (tx a)), some (.str (tx b)), none]) ?_ ?_
      · rfl'
        obtain ⟨v, e1, e2⟩ := atI_of (xs := l) (i := 0) (by decide) (by lia)
        exact ⟨⟨by decide, by decide⟩, by decide, ite2 (fun _ => ⟨by lia, by lia, v, e1, by simp only [List.length_append]; lia, q _ H6 s3 (by simp only [List.length_append, List.length_singleton, List.length_cons, List.length_nil]; lia)⟩) fun _ => trivial⟩
      rintro σ H7 ⟨rfl, rfl⟩
      rfl'
      refine ⟨c, 2, rfl, by decide, by decide, fun z H' _ s' => ⟨z, rfl, fun l' H2 g' s'' => ⟨tx l', rfl, ?_, ?_⟩⟩⟩
      · have := (of_decide_eq_true g').2.1
        rw [len_tx]
        lia
      · have := (of_decide_eq_true g').2.1
        rw [tx_append]
        exact q _ H2 (s3.trans (s'.trans s'')) (by simp only [List.length_append, List.length_singleton, List.length_cons, List.length_nil]; lia)
    rintro σ H7 ⟨rfl, rfl⟩
    refine cut_by (fun σ H' => H' = H7 ∧ σ = [some (.int c), some (.str (tx l)), some (.int (c % 9)), some (.str (tx a)), some (.str (tx b)), none]) ?_ ?_
    · rfl'
      exact ite2 (fun _ => ⟨by lia, by simp only [List.length_append]; lia, q _ H7 s3 (by simp only [List.length_append, List.length_singleton, List.length_cons, List.length_nil]; lia)⟩) fun _ => trivial
    rintro σ H8 ⟨rfl, rfl⟩
    refine cut_by (fun σ H' => H' = H8 ∧ σ = [some (.int c), some (.str (tx l)), some (.int (c % 9)), some (.str (tx a)), some (.str (tx b)), none]) ?_ ?_
    · rfl'
      refine ite2 (fun _ => ?_) fun _ => trivial
      refine cut_by (fun σ H' => H' = H8 ∧ ∃ t : List Nat, t.length ≤ 100 ∧ σ = [some (.int c), some (.str (tx l)), some (.int (c % 9)), some (.str (tx a)), some (.str (tx b)), some (.str (tx t))]) ?_ ?_
      · rfl'
        refine ⟨a, rfl, tx (shW a), rfl, by rw [len_tx]; lia, ?_, ?_, ?_, rfl, akL ++ shW a ++ [32] ++ b ++ a, by simp only [List.length_append, List.length_singleton, List.length_cons, List.length_nil]; lia, ?_⟩
        · rw [tx_append, len_tx]
          simp only [List.length_append, List.length_singleton, List.length_cons, List.length_nil]; lia
        · rw [tx_append, tx_append, len_tx]
          simp only [List.length_append, List.length_singleton, List.length_cons, List.length_nil]; lia
        · rw [tx_append, tx_append, tx_append, len_tx]
          simp only [List.length_append, List.length_singleton, List.length_cons, List.length_nil]; lia
        · rw [tx_append, tx_append, tx_append, tx_append]
      rintro σ H9 ⟨rfl, t, ht, rfl⟩
      refine cut_by (fun σ H' => H' = H9 ∧ ∃ t : List Nat, t.length ≤ 200 ∧ σ = [some (.int c), some (.str (tx l)), some (.int (c % 9)), some (.str (tx a)), some (.str (tx b)), some (.str (tx t))]) ?_ ?_
      · rfl'
        refine ⟨⟨by decide, by decide⟩, by decide, ite2 (fun _ => ⟨by lia, b, rfl, tx (shW b), rfl, by rw [len_tx]; simp only [List.length_append, List.length_singleton, List.length_cons, List.length_nil]; lia, rfl, t ++ [32] ++ shW b, by simp only [List.length_append, List.length_singleton, List.length_cons, List.length_nil]; lia, tx_append _ _⟩) fun _ => by lia⟩
      rintro σ H10 ⟨rfl, t, ht, rfl⟩
      rfl'
      exact q t H10 s3 ht
    rintro σ H9 ⟨rfl, rfl⟩
    rfl'
    refine ⟨a, rfl, _, rfl, by rw [len_tx]; lia, by rw [tx_append, len_tx, List.length_append]; lia, b, rfl, _, rfl, ?_, ?_⟩
    · rw [tx_append, tx_append, len_tx, len_tx, List.length_append, List.length_append]
      lia
    · rw [tx_append, tx_append, tx_append]
      exact q _ H9 s3 (by simp only [List.length_append, List.length_singleton, List.length_cons, List.length_nil]; lia)
def sp_lrow : Sp := fun vs H Q _ => ∃ (c : Int) (l : List Nat), vs = [.int c, .str (tx l)] ∧ goodB l = true ∧ ∀ (row : List Nat) (H' : Hp), Same H H' → row.length ≤ 500 → Q (.str (tx row)) H'
theorem sc_row : FnScope ["_law_cell", "_law_letters_here", "_law_row_here", "_law_at", "_law_sign_here"] ["_law_cell", "_law_letters_here"] (defScope s_row) := ⟨rfl, rfl, rfl, by symm, rfl, by symm, by symm⟩
theorem ok_row {f : Addr} {fd : FuncData} (B : Bt mg)  (F : Fun K "_law_row" "_law_row" s_row f fd) (D_plain_row : Df P w K mg base CX0 3 "_law_plain_row" ["_law_cell", "_law_letters_here"] [] sp_prow) (D_sign : Df P w K mg base CX0 1 "_law_sign" ["_law_cell"] [] sp_sgn) (D_mixed : Df P w K mg base CX0 1 "_law_mixed" ["_law_cell", "_law_k"] [] sp_mxd) : FnOk P w K mg base CX0 4 f fd ["_law_cell", "_law_letters_here"] sp_lrow := by
  refine F.ok sc_row (fun vs H Q E h => ?_) (fun cdv A outer s H vs Q E hr h => ?_)
  · obtain ⟨c, l, rfl, _⟩ := h
    rfl
  · obtain ⟨c, l, rfl, hg, q⟩ := h
    refine ⟨_, (pss_cut (ps_set (i := 2) sc_row.nd rfl (.inl rfl) (cl0 D_plain_row hr .nil rfl (pa_cons (pe_op op_fdiv (pv 0) pe_int) (pa_cons (pv 1) pa_nil))))
      (pss_cut (ps_set (i := 3) sc_row.nd rfl (.inl rfl) (pe_op op_mod (cl0 D_mixed hr .nil rfl (pa_cons (pv 0) (pa_cons pe_int pa_nil))) (pe_op op_add (pe_callB c_len rfl B.len PySem.boot_len (pa_cons (pv 2) pa_nil)) pe_int)))
      (pss_cut (ps_set (i := 4) sc_row.nd rfl (.inl rfl) (cl0 D_sign hr .nil rfl (pa_cons (pe_op op_fdiv (cl0 D_mixed hr .nil rfl (pa_cons (pv 0) (pa_cons pe_int pa_nil))) pe_int) pa_nil)))
      (pss_cut (ps_if (pt_cmpR op_eq (pe_op op_mod (pv 0) pe_int) pe_int (nomark _))
        (pss_one (ps_ret (pe_op op_add_str (pe_op op_add_str (pe_slice sl_str (pv 2) po_none (po_some (pv 3))) (pv 4)) (pe_slice sl_str (pv 2) (po_some (pv 3)) po_none))))
        pss_nil)
      (pss_cut (ps_if (pt_cmpR op_eq (pe_op op_mod (pv 0) pe_int) pe_int (nomark _))
        (pss_one (ps_ret (pe_op op_add_str (pe_slice sl_str (pv 2) po_none (po_some (pv 3))) (pe_slice sl_str (pv 2) (po_some (pe_op op_add (pv 3) pe_int)) po_none))))
        pss_nil)
      (pss_cut (ps_if (PW.pt (pw_and (pt_cmpR op_eq (pe_op op_mod (pv 0) pe_int) pe_int (nomark _)) (pw_and1 (pt_cmpR op_ne (pe_op op_mod (pe_op op_fdiv (pv 0) pe_int) pe_int) pe_int (nomark _)))))
        (pss_one (ps_ret (pe_op op_add_str (pe_op op_add_str (pe_slice sl_str (pv 2) po_none (po_some (pv 3))) (pv 4)) (pe_slice sl_str (pv 2) (po_some (pe_op op_add (pv 3) pe_int)) po_none))))
        pss_nil)
      (pss_one (ps_ret (pv 2))))))))), ?_⟩
    have s16 := sl16
    have s16 := sl16
    refine cut_by (fun σ H' => Same H H' ∧ ∃ row : List Nat, row.length ≤ 200 ∧ σ = [some (.int c), some (.str (tx l)), some (.str (tx row)), none, none]) ?_ ?_
    · rfl'
      exact ⟨⟨by decide, by decide⟩, _, l, rfl, hg, fun row H' s' hr => ⟨s', row, hr, rfl⟩⟩
    rintro σ H1 ⟨s1, row, hrow, rfl⟩
    refine cut_by (fun σ H' => Same H H' ∧ ∃ z : Nat, z ≤ 200 ∧ σ = [some (.int c), some (.str (tx l)), some (.str (tx row)), some (.int (z : Nat)), none]) ?_ ?_
    · rfl'
      refine ⟨c, 3, rfl, by decide, by decide, fun z H' _ s' => ⟨by lia, _, rfl, by lia, s1.trans s', (z % ((row.length : Int) + 1)).toNat, ?_, ?_⟩⟩
      · have := Int.emod_lt_of_pos z (b := (row.length : Int) + 1) (by lia)
        lia
      · rw [Int.toNat_of_nonneg (Int.emod_nonneg _ (by lia))]
    rintro σ H2 ⟨s2, z, hz, rfl⟩
    refine cut_by (fun σ H' => Same H H' ∧ ∃ x : Nat, σ = [some (.int c), some (.str (tx l)), some (.str (tx row)), some (.int (z : Nat)), some (.str (tx [x]))]) ?_ ?_
    · rfl'
      exact ⟨c, 2, rfl, by decide, by decide, fun y H' _ s' => ⟨y, rfl, ⟨by decide, by decide⟩, _, rfl, fun x => ⟨s2.trans s', x, rfl⟩⟩⟩
    rintro σ H3 ⟨s3, x, rfl⟩
    have fin : ∀ t : List Nat, t.length ≤ 500 → Q (.str (tx t)) H3 := fun t ht => q t H3 s3 ht
    have c1 := cut_len row none (some ((z : Nat) : Int))
    have c2 := cut_len row (some ((z : Nat) : Int)) none
    have c3 := cut_len row (some (((z : Nat) : Int) + 1)) none
    refine cut_by (fun σ H' => H' = H3 ∧ σ = [some (.int c), some (.str (tx l)), some (.str (tx row)), some (.int (z : Nat)), some (.str (tx [x]))]) ?_ ?_
    · rfl'
      exact ⟨by decide, ite2 (fun _ => ⟨by lia, by lia, by lia, by simp only [List.length_append, List.length_singleton, List.length_cons, List.length_nil]; lia, fin _ (by simp only [List.length_append, List.length_singleton, List.length_cons, List.length_nil]; lia)⟩) fun _ => trivial⟩
    rintro σ H4 ⟨rfl, rfl⟩
    refine cut_by (fun σ H' => H' = H4 ∧ σ = [some (.int c), some (.str (tx l)), some (.str (tx row)), some (.int (z : Nat)), some (.str (tx [x]))]) ?_ ?_
    · rfl'
      exact ⟨by decide, ite2 (fun _ => ⟨by lia, by lia, by lia, fin _ (by simp only [List.length_append, List.length_singleton, List.length_cons, List.length_nil]; lia)⟩) fun _ => trivial⟩
    rintro σ H5 ⟨rfl, rfl⟩
    refine cut_by (fun σ H' => H' = H5 ∧ σ = [some (.int c), some (.str (tx l)), some (.str (tx row)), some (.int (z : Nat)), some (.str (tx [x]))]) ?_ ?_
    · rfl'
      exact ⟨by decide, ite2 (fun _ => ⟨⟨by decide, by decide⟩, by decide, ite2 (fun _ => ⟨by lia, by lia, by lia, by simp only [List.length_append, List.length_singleton, List.length_cons, List.length_nil]; lia, fin _ (by simp only [List.length_append, List.length_singleton, List.length_cons, List.length_nil]; lia)⟩) fun _ => trivial⟩) fun _ => trivial⟩
    rintro σ H6 ⟨rfl, rfl⟩
    rfl'
    exact fin row (by lia)
def AnsAt (H : Hp) (v : V) : R9 → Prop
  | .text t => v = .str (tx t)
  | .noRow => ∃ p, v = .ref p ∧ H p = some (.tup [.str "NoRow"])
  | .noLetters => ∃ p, v = .ref p ∧ H p = some (.tup [.str "NoLetters"])
  | .noOrder => ∃ p, v = .ref p ∧ H p = some (.tup [.str "NoOrder"])
  | .noPact => ∃ p, v = .ref p ∧ H p = some (.tup [.str "NoPact"])
  | .tooMany => ∃ p, v = .ref p ∧ H p = some (.tup [.str "TooMany"])
  | .noWord k => ∃ p, v = .ref p ∧ H p = some (.tup [.str "NoWord", .int (k : Nat)])
  | .skip => v = .non
theorem AnsAt.same {H H' : Hp} {v : V} {x : R9} (h : AnsAt H v x) (s : Same H H') : AnsAt H' v x := by
  cases x <;> first | exact h | (obtain ⟨p, e, h⟩ := h; exact ⟨p, e, s _ _ h⟩)
noncomputable def optV : Option Nat → V
  | none => .non
  | some k => .int (k : Nat)
def sp_flt : Sp := fun vs H Q _ => ∃ (ls l : List Nat) (m : Nat), vs = [.str (tx ls), .str (tx l), .int (m : Nat)] ∧ l.length ≤ 1000 ∧ ∀ H', Same H H' → Q (optV (faultL ls l m)) H'
theorem sc_fault : FnScope ["_law_letters_here", "_law_text", "_law_most", "_law_place", "_law_sign_here"] ["_law_letters_here", "_law_text", "_law_most"] (defScope s_fault) := ⟨rfl, rfl, rfl, by symm, rfl, by symm, by symm⟩
theorem ok_fault {f : Addr} {fd : FuncData} (B : Bt mg)  (F : Fun K "_law_fault" "_law_fault" s_fault f fd)  : FnOk P w K mg base CX0 1 f fd ["_law_letters_here", "_law_text", "_law_most"] sp_flt := by
  refine F.ok sc_fault (fun vs H Q E h => ?_) (fun cdv A outer s H vs Q E hr h => ?_)
  · obtain ⟨ls, l, m, rfl, _⟩ := h
    rfl
  · obtain ⟨ls, l, m, rfl, hl, q⟩ := h
    refine ⟨_, (pss_cut (ps_if (pt_cmpR op_eq (pv 1) pe_str (nomark _))
        (pss_one (ps_ret pe_non))
        pss_nil)
      (pss_cut (ps_if (pt_cmpR op_eq (pv 1) pe_str (nomark _))
        (pss_one (ps_ret pe_int))
        pss_nil)
      (pss_cut (ps_for PassesOwn.never rfl (pi_enum rfl B.enum (pa_cons (pv 1) pa_nil)) (pg_tup (n := 2) rfl (pgs_cons (pg_name (i := 3) sc_fault.nd rfl (.inl rfl)) (pgs_cons (pg_name (i := 4) sc_fault.nd rfl (.inl rfl)) pgs_nil)))
        (pss_one (ps_if (PW.pt (pw_or (pt_cmpR op_eq (pv 3) (pv 2) (nomark _)) (pw_or1 (pt_cmpR op_nin (pv 4) (pv 0) (by with_unfolding_all rfl)))))
          (pss_one (ps_ret (pv 3)))
          pss_nil)))
      (pss_one (ps_ret pe_non))))), ?_⟩
    have s16 := sl16
    have s16 := sl16
    have e46 : (("." : Str)) = tx [46] := rfl
    have e00 : (("" : Str)) = tx [] := rfl
    simp only [e46, e00]
    unfold faultL at q
    refine cut_by (fun σ H' => H' = H ∧ l ≠ [46] ∧ σ = [some (.str (tx ls)), some (.str (tx l)), some (.int (m : Nat)), none, none]) ?_ ?_
    · rfl'
      refine ite2 (fun h => ?_) fun h => h
      rw [if_pos h] at q
      exact q H (.refl _)
    rintro σ H1 ⟨rfl, h1, rfl⟩
    rw [if_neg h1] at q
    refine cut_by (fun σ H' => H' = H1 ∧ l ≠ [] ∧ σ = [some (.str (tx ls)), some (.str (tx l)), some (.int (m : Nat)), none, none]) ?_ ?_
    · rfl'
      refine ite2 (fun h => ?_) fun h => h
      rw [if_pos h] at q
      exact q H1 (.refl _)
    rintro σ H1 ⟨rfl, h2, rfl⟩
    rw [if_neg h2] at q
    refine cut_by (fun σ H' => Same H1 H' ∧ fstB ls l m = none ∧ ∃ v3 v4 : Option V, σ = [some (.str (tx ls)), some (.str (tx l)), some (.int (m : Nat)), v3, v4]) ?_ ?_
    · rfl'
      refine ForE.by (fun i σ H' => Same H1 H' ∧ ∃ v3 v4, σ = [some (.str (tx ls)), some (.str (tx l)), some (.int (m : Nat)), v3, v4] ∧ ∀ j < i, ¬ Bad ls l m j) ⟨.refl _, none, none, rfl, fun j hj => absurd hj (Nat.not_lt_zero _)⟩ ?_ ?_
      · rintro i c σ H' p hg ⟨eH, v3, v4, rfl, hn⟩ hp
        rfl'
        have hi' := (ac.mp hg).1
        have hgd : l.getD i 0 = c := by rw [List.getD_eq_getElem?_getD, hg]; rfl
        have hp2 : Same H1 (upd H' p (HO.tup [V.int ↑i, V.str (tx [c])])) := eH.trans (same_upd hp)
        have bad : Bad ls l m i → Q (V.int ↑i) (upd H' p (HO.tup [V.int ↑i, V.str (tx [c])])) := fun hb => by
          rw [fst_some hb hi' hn] at q
          exact q _ hp2
        refine ⟨_, SqT.of upd_same, rfl, _, _, rfl, _, _, rfl, rfl, rfl, ite2 (fun h => bad (.inl (by injection h; lia))) fun h => ⟨c, rfl, ite2 (fun h2 => bad (.inr (by rw [hgd]; exact h2))) fun h2 => ⟨hp2, fun j hj => ?_⟩⟩⟩
        by_cases e : j = i
        · subst e
          rintro (hb | hb)
          · by_cases z : m = j
            · exact h (by rw [z])
            · exact hn m (by lia) (.inl (Nat.le_refl _))
          · rw [hgd] at hb
            exact h2 hb
        · exact hn j (by lia)
      · rintro σ H' ⟨eH, v3, v4, rfl, hn⟩
        exact ⟨eH, fst_none hn, v3, v4, rfl⟩
    rintro σ H2 ⟨s2, h3, v3, v4, rfl⟩
    rfl'
    rw [h3] at q
    exact q H2 s2
def sp_prd : Sp := fun vs H Q _ => ∃ (ls a b : List Nat) (m : Nat), vs = [.str (tx ls), .str (tx a), .str (tx b), .int (m : Nat)] ∧ a.length ≤ 1000 ∧ b.length ≤ 1000 ∧ ∀ (v : V) (H' : Hp), Same H H' → AnsAt H' v (wordR (pairF ls a b m)) → Q v H'
theorem sc_pair_due : FnScope ["_law_letters_here", "_law_one", "_law_other", "_law_most", "_law_place"] ["_law_letters_here", "_law_one", "_law_other", "_law_most"] (defScope s_pair_due) := ⟨rfl, rfl, rfl, by symm, rfl, by symm, by symm⟩
theorem ok_pair_due {f : Addr} {fd : FuncData} (B : Bt mg)  (F : Fun K "_law_pair_due" "_law_pair_due" s_pair_due f fd) (D_fault : Df P w K mg base CX0 1 "_law_fault" ["_law_letters_here", "_law_text", "_law_most"] [] sp_flt) : FnOk P w K mg base CX0 2 f fd ["_law_letters_here", "_law_one", "_law_other", "_law_most"] sp_prd := by
  refine F.ok sc_pair_due (fun vs H Q E h => ?_) (fun cdv A outer s H vs Q E hr h => ?_)
  · obtain ⟨ls, a, b, m, rfl, _⟩ := h
    rfl
  · obtain ⟨ls, a, b, m, rfl, ha, hb, q⟩ := h
    refine ⟨_, (pss_cut (ps_set (i := 4) sc_pair_due.nd rfl (.inl rfl) (cl0 D_fault hr .nil rfl (pa_cons (pv 0) (pa_cons (pv 1) (pa_cons (pv 3) pa_nil)))))
      (pss_cut (ps_if (pt_cmpR op_isN' (pv 4) pe_non (nomark _))
        (pss_one (ps_set (i := 4) sc_pair_due.nd rfl (.inl rfl) (cl0 D_fault hr .nil rfl (pa_cons (pv 0) (pa_cons (pv 2) (pa_cons (pv 3) pa_nil))))))
        pss_nil)
      (pss_cut (ps_if (pt_cmpR op_isN' (pv 4) pe_non (nomark _))
        (pss_one (ps_ret pe_non))
        pss_nil)
      (pss_one (ps_ret (pe_tup (pa_cons pe_str (pa_cons (pv 4) pa_nil)))))))), ?_⟩
    have s16 := sl16
    have s16 := sl16
    unfold pairF at q
    refine cut_by (fun σ H' => Same H H' ∧ σ = [some (.str (tx ls)), some (.str (tx a)), some (.str (tx b)), some (.int (m : Nat)), some (optV (faultL ls a m))]) ?_ ?_
    · rfl'
      exact ⟨ls, a, m, rfl, ha, fun H' s' => ⟨s', rfl⟩⟩
    rintro σ H1 ⟨s1, rfl⟩
    refine cut_by (fun σ H' => Same H H' ∧ σ = [some (.str (tx ls)), some (.str (tx a)), some (.str (tx b)), some (.int (m : Nat)), some (optV (pairF ls a b m))]) ?_ ?_
    · unfold pairF
      cases faultL ls a m with
      | none =>
        simp only [optV]
        rfl'
        exact ⟨ls, b, m, rfl, hb, fun H' s' => ⟨s1.trans s', rfl⟩⟩
      | some k =>
        simp only [optV]
        rfl'
        exact s1
    rintro σ H2 ⟨s2, rfl⟩
    replace q : ∀ (v : V) (H' : Hp), Same H H' → AnsAt H' v (wordR (pairF ls a b m)) → Q v H' := q
    refine cut_by (fun σ H' => H' = H2 ∧ (∃ k, pairF ls a b m = some k) ∧ σ = [some (.str (tx ls)), some (.str (tx a)), some (.str (tx b)), some (.int (m : Nat)), some (optV (pairF ls a b m))]) ?_ ?_
    · cases hp : pairF ls a b m with
      | none =>
        simp only [optV]
        rw [hp] at q
        rfl'
        exact q _ H2 s2 rfl
      | some k =>
        simp only [optV]
        rfl'
    rintro σ H3 ⟨rfl, ⟨k, hk⟩, rfl⟩
    rw [hk] at q ⊢
    simp only [optV]
    rfl'
    exact ⟨by lia, fun p hp => q _ _ (s2.trans (same_upd hp)) ⟨p, rfl, upd_same⟩⟩
def pOk (p : List Nat) : Prop := Dec7 p ∧ 1 ≤ valF p ∧ valF p ≤ 1000000
noncomputable instance (p : List Nat) : Decidable (pOk p) := by unfold pOk; infer_instance
def gOk (l : List Nat) (pp : List (List Nat)) (i : Nat) : Prop := pp.length = l.length ∧ ∀ p ∈ pp.take i, pOk p
noncomputable instance (l : List Nat) (pp : List (List Nat)) (i : Nat) : Decidable (gOk l pp i) := by unfold gOk; infer_instance
theorem st_no {pp : List (List Nat)} {l p : List Nat} {i : Nat} (hp : pp[i]? = some p) (h : ¬ pOk p) : false = decide (gOk l pp (i + 1)) := (decide_eq_false fun z => h (z.2 p (by rw [take_one hp]; exact List.mem_append_right _ List.mem_cons_self))).symm
theorem st_yes {pp : List (List Nat)} {l p : List Nat} {i : Nat} (hp : pp[i]? = some p) (h : pOk p) : decide (gOk l pp i) = decide (gOk l pp (i + 1)) := by
  rw [decide_eq_decide]
  unfold gOk
  rw [take_one hp]
  refine and_congr_right fun _ => ⟨fun z q hq => ?_, fun z q hq => z q (List.mem_append_left _ hq)⟩
  rcases ae.mp hq with hq | hq
  · exact z q hq
  · rw [af.mp hq]
    exact h
theorem val_pos {d : List Nat} {v : Nat} (h : ∀ c ∈ d, 48 ≤ c ∧ c ≤ 57) (h0 : d[0]? = some v) (hv : v ≠ 48) : 1 ≤ valF d := by
  have f1 : ∀ (l : List Nat) (a : Nat), 1 ≤ a → 1 ≤ l.foldl (fun acc c => acc * 10 + (c - 48)) a := fun l => by
    induction l with
    | nil => exact fun a h => h
    | cons c r ih => exact fun a h => ih (a * 10 + (c - 48)) (by lia)
  cases d with
  | nil => cases h0
  | cons c r =>
    obtain rfl : c = v := Option.some.inj h0
    have := (h c List.mem_cons_self).1
    exact f1 r (0 * 10 + (c - 48)) (by lia)
def sp_odu : Sp := fun vs H Q _ => ∃ (l row : List Nat), vs = [.str (tx l), .str (tx row)] ∧ goodB l = true ∧ row.length ≤ 1000 ∧ ∀ (v : V) (H' : Hp), Same H H' → AnsAt H' v (ordRR row (ordR l row)) → Q v H'
theorem sc_order_due : FnScope ["_law_letters_here", "_law_row_here", "_law_parts", "_law_good", "_law_part"] ["_law_letters_here", "_law_row_here"] (defScope s_order_due) := ⟨rfl, rfl, rfl, by symm, rfl, by symm, by symm⟩
theorem ok_order_due {f : Addr} {fd : FuncData} (B : Bt mg)  (F : Fun K "_law_order_due" "_law_order_due" s_order_due f fd)  : FnOk P w K mg base CX0 1 f fd ["_law_letters_here", "_law_row_here"] sp_odu := by
  refine F.ok sc_order_due (fun vs H Q E h => ?_) (fun cdv A outer s H vs Q E hr h => ?_)
  · obtain ⟨l, row, rfl, _⟩ := h
    rfl
  · obtain ⟨l, row, rfl, hg, hl, q⟩ := h
    refine ⟨_, (pss_cut (ps_if (PW.pt (pw_or (pt_cmpR op_eq (pv 1) pe_str (nomark _)) (pw_or1 (pt_cmpR op_eq (pv 1) pe_str (nomark _)))))
        (pss_one (ps_ret (pv 1)))
        pss_nil)
      (pss_cut (ps_if (pt_not (pt_bl (pe_bm PySem.F.plainAttrs_str PySem.F.slot_str_startswith PySem.F.type_str_startswith m_starts (pv 1) (pa_cons pe_str pa_nil)) (fun _ => rfl)))
        (pss_one (ps_ret (pe_tup (pa_cons pe_str pa_nil))))
        pss_nil)
      (pss_cut (ps_set (i := 2) sc_order_due.nd rfl (.inl rfl) (pe_bm PySem.F.plainAttrs_str PySem.F.slot_str_split PySem.F.type_str_split m_split (pe_slice sl_str (pv 1) (po_some pe_int) po_none) (pa_cons pe_str pa_nil)))
      (pss_cut (ps_set (i := 3) sc_order_due.nd rfl (.inl rfl) (pe_cmpR op_eq (pe_callB c_len rfl B.len PySem.boot_len (pa_cons (pv 2) pa_nil)) (pe_callB c_len rfl B.len PySem.boot_len (pa_cons (pv 0) pa_nil)) (nomark _)))
      (pss_cut (ps_for PassesOwn.never rfl (pi_list (pv 2)) (pg_name (i := 4) sc_order_due.nd rfl (.inl rfl))
        (pss_one (ps_if (PW.pt (pw_or (pt_not (pt_chain op_leA op_leA pe_int (pe_callB c_len rfl B.len PySem.boot_len (pa_cons (pv 4) pa_nil)) pe_int)) (pw_or1 (pt_cmpR op_eq (pe_ix ix_str (pv 4) pe_int (fun _ _ => rfl)) pe_str (nomark _)))))
          (pss_one (ps_set (i := 3) sc_order_due.nd rfl (.inl rfl) pe_bl))
          (pss_one (ps_if (pt_cmpR op_ne (pe_callB c_len rfl B.len PySem.boot_len (pa_cons (pe_comp (own := ["_law_sign_here"]) (caps := []) (ix := []) (tt := (tTest (tOp rIn1 (tVar 0) (tC (.str "0123456789"))))) (te := (tVar 0)) rfl (compOk_of (sc := defScope s_order_due) rfl (by symm) (by symm) (by symm) rfl (by symm) (by symm) rfl) (pi_str (pv 4)) (fun _ _ _ _ _ _ => pg_name (i := 0) (show List.Nodup [_] by decide) rfl (.inl rfl)) (fun _ _ _ _ _ _ => (pts_one (pt_cmpR op_in1 (pv 0) pe_str (by with_unfolding_all rfl)))) (fun _ _ _ _ _ _ => (pv 0))) pa_nil)) (pe_callB c_len rfl B.len PySem.boot_len (pa_cons (pv 4) pa_nil)) (nomark _))
            (pss_one (ps_set (i := 3) sc_order_due.nd rfl (.inl rfl) pe_bl))
            (pss_one (ps_if (pt_cmpR op_gt (pe_callTy c_intT rfl B.int PySem.Pv.boot_int (pa_cons (pv 4) pa_nil)) pe_int (nomark _))
              (pss_one (ps_set (i := 3) sc_order_due.nd rfl (.inl rfl) pe_bl))
              pss_nil)))))))
      (pss_cut (ps_if (pt_bl (pv 3) (fun _ => rfl))
        (pss_one (ps_ret (pv 1)))
        pss_nil)
      (pss_one (ps_ret (pe_tup (pa_cons pe_str pa_nil)))))))))), ?_⟩
    have s16 := sl16
    have s16 := sl16
    have b32 : ((" " : Str)) = tx [32] := rfl
    have b48 : (("0" : Str)) = tx [48] := rfl
    simp only [b32, b48, wg_txt, ol_txt, or_txt, figs_txt]
    refine cut_by (fun σ H' => H' = H ∧ ¬ (row = olL ∨ row = orL) ∧ σ = [some (.str (tx l)), some (.str (tx row)), none, none, none]) ?_ ?_
    · rfl'
      refine ite2 (fun h => ?_) fun h => ite2 (fun h' => ?_) fun h' z => z.elim h h'
      · unfold ordR at q
        rw [if_pos (.inl h)] at q
        exact q _ H (.refl _) rfl
      · unfold ordR at q
        rw [if_pos (.inr h')] at q
        exact q _ H (.refl _) rfl
    rintro σ H1 ⟨rfl, h1, rfl⟩
    unfold ordR at q
    rw [if_neg h1] at q
    refine cut_by (fun σ H' => H' = H1 ∧ preB wgL row = true ∧ σ = [some (.str (tx l)), some (.str (tx row)), none, none, none]) ?_ ?_
    · rfl'
      refine ⟨row, wgL, rfl, rfl, _, rfl, ?_⟩
      cases hp : preB wgL row with
      | false =>
        rw [if_pos rfl]
        rw [if_neg (ne_true_of_eq_false hp)] at q
        exact ⟨by lia, fun p hp => q _ _ (same_upd hp) ⟨p, rfl, upd_same⟩⟩
      | true =>
        rw [if_neg (by decide)]
        exact ⟨rfl, rfl⟩
    rintro σ H1 ⟨rfl, h2, rfl⟩
    rw [if_pos h2] at q
    refine cut_by (fun σ H' => Same H1 H' ∧ ∃ D : Addr, H' D = some (.lst ((splitL 32 (row.drop 14)).map fun p => V.str (tx p))) ∧ σ = [some (.str (tx l)), some (.str (tx row)), some (.ref D), none, none]) ?_ ?_
    · rfl'
      rw [cut_from _ (by decide)]
      exact ⟨by lia, _, _, rfl, rfl, by show (row.drop 14).length ≤ _; rw [List.length_drop]; lia, fun D hD => ⟨same_upd hD, D, upd_same, rfl⟩⟩
    rintro σ H2 ⟨s2, D, hD, rfl⟩
    have hsl := splitL_len 32 (row.drop 14)
    have hpl := split_piece 32 (row.drop 14)
    rw [List.length_drop] at hsl
    generalize splitL 32 (row.drop 14) = pp at hsl hpl q hD ⊢
    have hpl' : ∀ p ∈ pp, p.length ≤ 1000 := fun p hp => by
      have := hpl p hp
      rw [List.length_drop] at this
      lia
    refine cut_by (fun σ H' => H' = H2 ∧ σ = [some (.str (tx l)), some (.str (tx row)), some (.ref D), some (.bl (decide (pp.length = l.length))), none]) ?_ ?_
    · rfl'
      refine ⟨_, .inl ⟨_, SqL.of hD, rfl⟩, by have := (of_decide_eq_true hg).2.1; lia, ?_⟩
      rw [List.length_map]
      apply decide_eq_decide.mpr
      lia
    rintro σ H3 ⟨rfl, rfl⟩
    refine cut_by (fun σ H' => Same H3 H' ∧ ∃ v4 : Option V, σ = [some (.str (tx l)), some (.str (tx row)), some (.ref D), some (.bl (decide (numsOk l pp))), v4]) ?_ ?_
    · rfl'
      refine ⟨⟨_, SqL.of hD⟩, ForL.by (xs := pp.map fun p => V.str (tx p)) (fun i σ H' => Same H3 H' ∧ ∃ v4 : Option V, σ = [some (.str (tx l)), some (.str (tx row)), some (.ref D), some (.bl (decide (gOk l pp i))), v4]) ?_ ?_ ?_ ?_⟩
      · refine ⟨.refl _, none, ?_⟩
        have e : decide (gOk l pp 0) = decide (pp.length = l.length) := decide_eq_decide.mpr ⟨fun z => z.1, fun z => ⟨z, fun p hp => absurd hp List.not_mem_nil⟩⟩
        rw [e]
      · rintro i σ H' _ ⟨s', _⟩
        exact SqL.of (s' _ _ hD)
      · rintro i x σ H' hx ⟨s', v4, rfl⟩
        rw [List.getElem?_map] at hx
        obtain ⟨p, hp, rfl⟩ := aj.mp hx
        have hp1 := hpl' p (List.mem_of_getElem? hp)
        simp only [gName, List.set_cons_succ, List.set_cons_zero]
        rfl'
        refine ⟨by lia, ite2 (fun a1 => ite2 (fun a2 => ⟨s', st_no hp fun z => a2 (by have := z.1.2.1; lia)⟩) fun a2 => ⟨by lia, ?_⟩) fun a1 => ⟨s', st_no hp fun z => a1 (by have := z.1.1; lia)⟩⟩
        obtain ⟨v, e1, e2⟩ := atI_of (xs := p) (i := 0) (by decide) (by lia)
        have e2' : p[0]? = some v := e2
        refine ⟨v, e1, ite2 (fun hv => ⟨s', st_no hp fun z => ?_⟩) fun hv D' hD' => ?_⟩
        · have e := z.1.2.2.1 (by rw [e2', hv])
          rw [e] at z
          exact absurd z.2.1 (by decide)
        · refine CompS.by (fun j acc H'' => Same H' H'' ∧ H'' D' = some (.lst acc) ∧ acc = ((p.take j).filter fun c => decide (c ∈ figs)).map fun c => V.str (tx [c])) ⟨same_upd hD', upd_same, rfl⟩ ?_ ?_
          · rintro j c acc H'' hc ⟨s'', hH, rfl⟩
            have hj := (ac.mp hc).1
            rfl'
            have hfl := List.length_filter_le (fun c => decide (c ∈ figs)) (p.take j)
            rw [List.length_take] at hfl
            refine ⟨keeps0, ite2 (fun a3 => ⟨hH, by rw [List.length_map]; lia, CNx.mk hj ⟨same_over s'' hD', upd_same, ?_⟩⟩) fun a3 => CNx.mk hj ⟨s'', hH, ?_⟩⟩
            · rw [take_one hc, List.filter_append, List.map_append]
              simp [a3]
            · rw [take_one hc, List.filter_append, List.map_append]
              simp [a3]
          · rintro acc H'' ⟨s'', hH, rfl⟩
            rw [List.take_length] at hH
            refine ⟨_, .inl ⟨_, SqL.of hH, rfl⟩, by lia, ?_⟩
            rw [List.length_map]
            refine ite2 (fun a3 => ⟨s'.trans s'', st_no hp fun z => a3 ?_⟩) fun a3 => ?_
            · rw [List.filter_eq_self.mpr fun c hc => decide_eq_true ((figs_iff c).mpr (z.1.2.2.2 c hc))]
            · have hall : ∀ c ∈ p, 48 ≤ c ∧ c ≤ 57 := fun c hc => (figs_iff c).mp (of_decide_eq_true ((List.length_filter_eq_length_iff (p := fun c => decide (c ∈ figs))).mp (by lia) c hc))
              have hv1 := val_pos hall e2' hv
              refine ⟨tx p, _, rfl, intText_digits (fun c hc => hall c hc) (fun e => by rw [show p = [] from e] at e2'; cases e2') (by rw [len_tx]; lia), by rw [len_tx]; lia, _, rfl, ?_⟩
              show if (1000000 : Int) < ((valF p : Nat) : Int) then _ else _
              refine ite2 (fun a4 => ⟨s'.trans s'', st_no hp fun z => ?_⟩) fun a4 => ⟨s'.trans s'', st_yes hp ⟨⟨by lia, by lia, fun e => ?_, hall⟩, hv1, by lia⟩⟩
              · have := z.2.2
                lia
              · rw [e2'] at e
                exact absurd (Option.some.inj e) hv
      · rintro σ H' ⟨s', v4, rfl⟩
        refine ⟨s', v4, ?_⟩
        have e : decide (gOk l pp (pp.map fun p => V.str (tx p)).length) = decide (numsOk l pp) := by
          rw [decide_eq_decide]
          unfold gOk
          rw [List.length_map, List.take_length]
          rfl
        rw [e]
    rintro σ H4 ⟨s4, v4, rfl⟩
    refine cut_by (fun σ H' => H' = H4 ∧ ¬ numsOk l pp ∧ ∃ v3 : Option V, σ = [some (.str (tx l)), some (.str (tx row)), some (.ref D), v3, v4]) ?_ ?_
    · rfl'
      refine ite2 (fun h => ?_) fun h => h
      rw [decide_eq_true h] at q
      exact q _ H4 (s2.trans s4) rfl
    rintro σ H5 ⟨rfl, hno, v3, rfl⟩
    rfl'
    rw [decide_eq_false hno] at q
    exact ⟨by lia, fun p hp => q _ _ ((s2.trans s4).trans (same_upd hp)) ⟨p, rfl, upd_same⟩⟩
def lOk (t : List Nat) (i : Nat) : Prop := (1 ≤ t.length ∧ t.length ≤ 6 ∧ t.Nodup) ∧ ∀ c ∈ t.take i, 97 ≤ c ∧ c ≤ 122
instance (t : List Nat) (i : Nat) : Decidable (lOk t i) := by unfold lOk; infer_instance
theorem alph_iff (c : Nat) : c ∈ alph ↔ 97 ≤ c ∧ c ≤ 122 := by
  unfold alph
  rw [List.mem_map]
  constructor
  · rintro ⟨a, ha, rfl⟩
    have := ah.mp ha
    lia
  · intro h
    exact ⟨c - 97, ah.mpr (by lia), by lia⟩
def sp_ldu : Sp := fun vs H Q _ => ∃ (row : List Nat), vs = [.str (tx row)] ∧ row.length ≤ 1000 ∧ ∀ (v : V) (H' : Hp), Same H H' → AnsAt H' v (if goodB (row.drop 8) = true then .text row else .noLetters) → Q v H'
structure THs (mg : Str → Option Value) : Prop where
  s : mg "set" = none
theorem sc_letters_due : FnScope ["_law_row_here", "_law_text", "_law_good", "_law_sign_here"] ["_law_row_here"] (defScope s_letters_due) := ⟨rfl, rfl, rfl, by symm, rfl, by symm, by symm⟩
theorem ok_letters_due {f : Addr} {fd : FuncData} (B : Bt mg) (HS : THs mg) (F : Fun K "_law_letters_due" "_law_letters_due" s_letters_due f fd)  : FnOk P w K mg base CX0 1 f fd ["_law_row_here"] sp_ldu := by
  refine F.ok sc_letters_due (fun vs H Q E h => ?_) (fun cdv A outer s H vs Q E hr h => ?_)
  · obtain ⟨row, rfl, _⟩ := h
    rfl
  · obtain ⟨row, rfl, hl, q⟩ := h
    refine ⟨_, (pss_cut (ps_set (i := 1) sc_letters_due.nd rfl (.inl rfl) (pe_slice sl_str (pv 0) (po_some pe_int) po_none))
      (pss_cut (ps_set (i := 2) sc_letters_due.nd rfl (.inl rfl) (pe_and (pe_chain op_leA op_leA pe_int (pe_callB c_len rfl B.len PySem.boot_len (pa_cons (pv 1) pa_nil)) pe_int) (pe_one (pe_cmpR op_eq (pe_callB c_lenS rfl B.len PySem.boot_len (pa_cons (pe_callTy (c_setS rfl) rfl HS.s PySem.Pv.boot_set (pa_cons (pv 1) pa_nil)) pa_nil)) (pe_callB c_len rfl B.len PySem.boot_len (pa_cons (pv 1) pa_nil)) (nomark _)))))
      (pss_cut (ps_for PassesOwn.never rfl (pi_str (pv 1)) (pg_name (i := 3) sc_letters_due.nd rfl (.inl rfl))
        (pss_one (ps_if (pt_cmpR op_nin (pv 3) pe_str (by with_unfolding_all rfl))
          (pss_one (ps_set (i := 2) sc_letters_due.nd rfl (.inl rfl) pe_bl))
          pss_nil)))
      (pss_cut (ps_if (pt_bl (pv 2) (fun _ => rfl))
        (pss_one (ps_ret (pv 0)))
        pss_nil)
      (pss_one (ps_ret (pe_tup (pa_cons pe_str pa_nil)))))))), ?_⟩
    have s16 := sl16
    have s16 := sl16
    simp only [alph_txt]
    refine cut_by (fun σ H' => H' = H ∧ σ = [some (.str (tx row)), some (.str (tx (row.drop 8))), none, none]) ?_ ?_
    · rfl'
      rw [cut_from _ (by decide)]
      exact ⟨by lia, rfl⟩
    rintro σ H1 ⟨rfl, rfl⟩
    have htl : (row.drop 8).length ≤ 1000 := by rw [List.length_drop]; lia
    generalize row.drop 8 = t at q htl ⊢
    refine cut_by (fun σ H' => Same H1 H' ∧ σ = [some (.str (tx row)), some (.str (tx t)), some (.bl (decide (1 ≤ t.length ∧ t.length ≤ 6 ∧ t.Nodup))), none]) ?_ ?_
    · rfl'
      refine ⟨by lia, ite2 (fun a1 => ite2 (fun a2 => ?_) fun a2 => ⟨.refl _, (decide_eq_false fun z => a2 (by lia)).symm⟩) fun a1 => ⟨.refl _, (decide_eq_false fun z => a1 (by lia)).symm⟩⟩
      refine ⟨t, rfl, by lia, fun a ha => ⟨a, cntS t, rfl, upd_same, by lia, rfl, same_upd ha, ?_⟩⟩
      rw [decide_eq_decide]
      constructor
      · intro h
        injection h with h
        exact ⟨by lia, by lia, (cntS_iff t).mp (by lia)⟩
      · rintro ⟨_, _, h⟩
        rw [(cntS_iff t).mpr h]
    rintro σ H2 ⟨s2, rfl⟩
    refine cut_by (fun σ H' => Same H1 H' ∧ ∃ v3 : Option V, σ = [some (.str (tx row)), some (.str (tx t)), some (.bl (goodB t)), v3]) ?_ ?_
    · rfl'
      refine ForS.by (fun i σ H' => Same H1 H' ∧ ∃ v3 : Option V, σ = [some (.str (tx row)), some (.str (tx t)), some (.bl (decide (lOk t i))), v3]) ?_ ?_ ?_
      · refine ⟨s2, none, ?_⟩
        have e : decide (lOk t 0) = decide (1 ≤ t.length ∧ t.length ≤ 6 ∧ t.Nodup) := decide_eq_decide.mpr ⟨fun z => z.1, fun z => ⟨z, fun p hp => absurd hp List.not_mem_nil⟩⟩
        rw [e]
      · rintro i c σ H' hc ⟨s', v3, rfl⟩
        rfl'
        refine ite2 (fun a1 => ⟨s', (decide_eq_false fun z => a1 ((alph_iff c).mpr (z.2 c (by rw [take_one hc]; exact List.mem_append_right _ List.mem_cons_self)))).symm⟩) fun a1 => ⟨s', ?_⟩
        rw [decide_eq_decide]
        unfold lOk
        rw [take_one hc]
        refine and_congr_right fun _ => ⟨fun z q hq => ?_, fun z q hq => z q (List.mem_append_left _ hq)⟩
        rcases ae.mp hq with hq | hq
        · exact z q hq
        · rw [af.mp hq]
          exact (alph_iff c).mp (Decidable.not_not.mp a1)
      · rintro σ H' ⟨s', v3, rfl⟩
        refine ⟨s', v3, ?_⟩
        have e : decide (lOk t t.length) = goodB t := by
          unfold goodB
          rw [decide_eq_decide]
          unfold lOk small
          rw [List.take_length]
          constructor
          · rintro ⟨⟨a1, a2, a3⟩, a4⟩
            exact ⟨a1, a2, a4, a3⟩
          · rintro ⟨a1, a2, a3, a4⟩
            exact ⟨⟨a1, a2, a4⟩, a3⟩
        rw [e]
    rintro σ H3 ⟨s3, v3, rfl⟩
    refine cut_by (fun σ H' => H' = H3 ∧ goodB t = false ∧ ∃ v2 : Option V, σ = [some (.str (tx row)), some (.str (tx t)), v2, v3]) ?_ ?_
    · rfl'
      refine ite2 (fun h => ?_) fun h => ao.mpr h
      rw [if_pos h] at q
      exact q _ H3 s3 rfl
    rintro σ H4 ⟨rfl, hb, v2, rfl⟩
    rw [if_neg (ne_true_of_eq_false hb)] at q
    rfl'
    exact ⟨by lia, fun p hp => q _ _ (s3.trans (same_upd hp)) ⟨p, rfl, upd_same⟩⟩
noncomputable def rowsV (ks : List Rule) : List V := (ks.map shR).map fun r => V.str (tx r)
theorem rows_len (ks : List Rule) : (rowsV ks).length = ks.length := by unfold rowsV; rw [List.length_map, List.length_map]
def sp_pdu : Sp := fun vs H Q _ => ∃ (l : List Nat) (a : Addr) (ps : List Rule) (row : List Nat), vs = [.str (tx l), .ref a, .str (tx row)] ∧ H a = some (.lst (rowsV ps)) ∧ row.length ≤ 1000 ∧ ps.length ≤ 8 ∧ ∀ (v : V) (H' : Hp), Same H H' → AnsAt H' v (pactR l ps (row.drop 5)) → Q v H'
theorem sc_pact_due : FnScope ["_law_letters_here", "_law_pacts", "_law_row_here", "_law_one", "_law_blank", "_law_other", "_law_due_here"] ["_law_letters_here", "_law_pacts", "_law_row_here"] (defScope s_pact_due) := ⟨rfl, rfl, rfl, by symm, rfl, by symm, by symm⟩
theorem ok_pact_due {f : Addr} {fd : FuncData} (B : Bt mg)  (F : Fun K "_law_pact_due" "_law_pact_due" s_pact_due f fd) (D_pair_due : Df P w K mg base CX0 2 "_law_pair_due" ["_law_letters_here", "_law_one", "_law_other", "_law_most"] [] sp_prd) : FnOk P w K mg base CX0 3 f fd ["_law_letters_here", "_law_pacts", "_law_row_here"] sp_pdu := by
  refine F.ok sc_pact_due (fun vs H Q E h => ?_) (fun cdv A outer s H vs Q E hr h => ?_)
  · obtain ⟨l, a, ps, row, rfl, _⟩ := h
    rfl
  · obtain ⟨l, a, ps, row, rfl, hS, hl, h8, q⟩ := h
    refine ⟨_, (pss_cut (ps_asg (pe_bm PySem.F.plainAttrs_str PySem.F.slot_str_partition PySem.F.type_str_partition m_part (pe_slice sl_str (pv 2) (po_some pe_int) po_none) (pa_cons pe_str pa_nil)) (pg_tup (n := 3) rfl (pgs_cons (pg_name (i := 3) sc_pact_due.nd rfl (.inl rfl)) (pgs_cons (pg_name (i := 4) sc_pact_due.nd rfl (.inl rfl)) (pgs_cons (pg_name (i := 5) sc_pact_due.nd rfl (.inl rfl)) pgs_nil)))))
      (pss_cut (ps_if (pt_cmpR op_eq (pv 4) pe_str (nomark _))
        (pss_one (ps_ret (pe_tup (pa_cons pe_str pa_nil))))
        pss_nil)
      (pss_cut (ps_set (i := 6) sc_pact_due.nd rfl (.inl rfl) (cl0 D_pair_due hr .nil rfl (pa_cons (pv 0) (pa_cons (pv 3) (pa_cons (pv 5) (pa_cons pe_int pa_nil))))))
      (pss_cut (ps_if (PW.pt (pw_and (pt_cmpR op_isN' (pv 6) pe_non (nomark _)) (pw_and1 (pt_cmpR op_eq (pe_callB c_len rfl B.len PySem.boot_len (pa_cons (pv 1) pa_nil)) pe_int (nomark _)))))
        (pss_one (ps_set (i := 6) sc_pact_due.nd rfl (.inl rfl) (pe_tup (pa_cons pe_str pa_nil))))
        pss_nil)
      (pss_cut (ps_if (pt_cmpR op_isN' (pv 6) pe_non (nomark _))
        (pss_one (ps_set (i := 6) sc_pact_due.nd rfl (.inl rfl) (pe_op op_add_str pe_str (pe_callTy c_strI rfl B.str PySem.Pv.boot_str (pa_cons (pe_callB c_len rfl B.len PySem.boot_len (pa_cons (pv 1) pa_nil)) pa_nil)))))
        pss_nil)
      (pss_one (ps_ret (pv 6)))))))), ?_⟩
    have s16 := sl16
    have s16 := sl16
    have e00 : (("" : Str)) = tx [] := rfl
    simp only [sep_txt, pa_txt, e00]
    unfold pactR at q
    have htl : (row.drop 5).length ≤ 1000 := by rw [List.length_drop]; lia
    have hc5 : cut row (some (5 : Int)) none = row.drop 5 := cut_from _ (by decide)
    cases hp : parts sepL (row.drop 5) with
    | none =>
      rw [hp] at q
      refine cut_by (fun σ H' => Same H H' ∧ σ = [some (.str (tx l)), some (.ref a), some (.str (tx row)), some (.str (tx (row.drop 5))), some (.str (tx [])), some (.str (tx [])), none]) ?_ ?_
      · repeat (first | rfl' | simp only [tAlt, tMethF, rd_cz, tRev, rSum, rIndex])
        rw [hc5]
        refine ⟨by lia, _, _, rfl, rfl, by decide, by lia, fun p' hp' => ?_⟩
        rw [hp]
        exact ⟨p', rfl, _, SqT.of upd_same, rfl, _, _, rfl, _, _, rfl, _, _, rfl, rfl, same_upd hp', rfl, rfl, rfl⟩
      rintro σ H1 ⟨s1, rfl⟩
      refine cut_by (fun σ H' => False) ?_ fun _ _ h => h.elim
      repeat (first | rfl' | simp only [tAlt, tMethF, rd_cz, tRev, rSum, rIndex])
      exact ⟨by lia, fun p hp => q _ _ (s1.trans (same_upd hp)) ⟨p, rfl, upd_same⟩⟩
    | some xy =>
      obtain ⟨x, y⟩ := xy
      rw [hp] at q
      have hpl := parts_len hp
      refine cut_by (fun σ H' => Same H H' ∧ σ = [some (.str (tx l)), some (.ref a), some (.str (tx row)), some (.str (tx x)), some (.str (tx sepL)), some (.str (tx y)), none]) ?_ ?_
      · repeat (first | rfl' | simp only [tAlt, tMethF, rd_cz, tRev, rSum, rIndex])
        rw [hc5]
        refine ⟨by lia, _, _, rfl, rfl, by decide, by lia, fun p' hp' => ?_⟩
        rw [hp]
        exact ⟨p', rfl, _, SqT.of upd_same, rfl, _, _, rfl, _, _, rfl, _, _, rfl, rfl, same_upd hp', rfl, rfl, rfl⟩
      rintro σ H1 ⟨s1, rfl⟩
      refine cut_by (fun σ H' => H' = H1 ∧ σ = [some (.str (tx l)), some (.ref a), some (.str (tx row)), some (.str (tx x)), some (.str (tx sepL)), some (.str (tx y)), none]) ?_ ?_
      · repeat (first | rfl' | simp only [tAlt, tMethF, rd_cz, tRev, rSum, rIndex])
        exact ite2 (fun h => by cases h) fun _ => trivial
      rintro σ H2 ⟨rfl, rfl⟩
      refine cut_by (fun σ H' => Same H H' ∧ ∃ v : V, AnsAt H' v (wordR (pairF l x y 10)) ∧ σ = [some (.str (tx l)), some (.ref a), some (.str (tx row)), some (.str (tx x)), some (.str (tx sepL)), some (.str (tx y)), some (v)]) ?_ ?_
      · repeat (first | rfl' | simp only [tAlt, tMethF, rd_cz, tRev, rSum, rIndex])
        exact ⟨l, x, y, 10, rfl, by lia, by lia, fun v H' s' ha => ⟨s1.trans s', ha⟩⟩
      rintro σ H3 ⟨s3, v, hv, rfl⟩
      have hS3 := s3 _ _ hS
      refine cut_by (fun σ H' => Same H H' ∧ ∃ v : V, AnsAt H' v (match pairF l x y 10 with | some k => .noWord k | none => if ps.length = 8 then .tooMany else .skip) ∧ σ = [some (.str (tx l)), some (.ref a), some (.str (tx row)), some (.str (tx x)), some (.str (tx sepL)), some (.str (tx y)), some (v)]) ?_ ?_
      · cases hk : pairF l x y 10 with
        | some k =>
          rw [hk] at hv
          obtain ⟨p', rfl, hp'⟩ := id hv
          repeat (first | rfl' | simp only [tAlt, tMethF, rd_cz, tRev, rSum, rIndex])
          exact ⟨s3, hv⟩
        | none =>
          rw [hk] at hv
          obtain rfl : v = .non := hv
          repeat (first | rfl' | simp only [tAlt, tMethF, rd_cz, tRev, rSum, rIndex])
          refine ⟨_, .inl ⟨_, SqL.of hS3, rfl⟩, ?_⟩
          rw [rows_len]
          refine ite2 (fun e8 => ⟨by lia, fun p hp => ⟨s3.trans (same_upd hp), ?_⟩⟩) fun e8 => ⟨s3, ?_⟩
          · rw [if_pos (by lia)]
            exact ⟨p, rfl, upd_same⟩
          · rw [if_neg (by lia)]
            rfl
      rintro σ H4 ⟨s4, v, hv, rfl⟩
      have hS4 := s4 _ _ hS
      refine cut_by (fun σ H' => Same H H' ∧ ∃ v : V, AnsAt H' v (match pairF l x y 10 with | some k => .noWord k | none => if ps.length = 8 then .tooMany else .text (paL ++ dec ps.length)) ∧ σ = [some (.str (tx l)), some (.ref a), some (.str (tx row)), some (.str (tx x)), some (.str (tx sepL)), some (.str (tx y)), some (v)]) ?_ ?_
      · cases hk : pairF l x y 10 with
        | some k =>
          rw [hk] at hv
          obtain ⟨p', rfl, hp'⟩ := id hv
          repeat (first | rfl' | simp only [tAlt, tMethF, rd_cz, tRev, rSum, rIndex])
          exact ⟨s4, hv⟩
        | none =>
          rw [hk] at hv
          by_cases e8 : ps.length = 8
          · replace hv : AnsAt H4 v (if ps.length = 8 then .tooMany else .skip) := hv
            rw [if_pos e8] at hv
            obtain ⟨p', rfl, hp'⟩ := id hv
            repeat (first | rfl' | simp only [tAlt, tMethF, rd_cz, tRev, rSum, rIndex])
            rw [if_pos e8]
            exact ⟨s4, hv⟩
          · replace hv : AnsAt H4 v (if ps.length = 8 then .tooMany else .skip) := hv
            rw [if_neg e8] at hv
            obtain rfl : v = .non := hv
            repeat (first | rfl' | simp only [tAlt, tMethF, rd_cz, tRev, rSum, rIndex])
            refine ⟨_, .inl ⟨_, SqL.of hS4, rfl⟩, ?_⟩
            rw [rows_len, if_neg e8]
            have hdl := (dec7 (n := ps.length) (by lia)).2.1
            have h5 : paL.length = 5 := rfl
            exact use_strI (by lia) ⟨_, rfl, by rw [len_tx]; lia, s4, by rw [tx_append]; rfl⟩
      rintro σ H5 ⟨s5, v, hv, rfl⟩
      rfl'
      exact q v H5 s5 hv
noncomputable def odL : List Nat := [111, 114, 100, 101, 114, 32]
theorem od_txt : (("order " : Str)) = tx odL := rfl
theorem due_order {l row : List Nat} {ps : List Rule} (h : preB odL row = true) : dueS l ps row = ordRR row (ordR l row) := by
  have e := pre_is h
  unfold dueS
  rw [e]
  generalize row.drop odL.length = r
  rw [if_neg (ne_true_of_eq_false (pre_no (p := paL) (l := odL ++ r) (show some 111 ≠ some 112 by decide) (by decide))), if_neg (fun e => by cases e), if_neg (fun e => by cases e), if_neg (ne_true_of_eq_false (pre_no (p := foL) (l := odL ++ r) (show some 111 ≠ some 102 by decide) (by decide))), if_neg (ne_true_of_eq_false (pre_no (p := akL) (l := odL ++ r) (show some 111 ≠ some 97 by decide) (by decide)))]
theorem no_order {l row : List Nat} (h : preB odL row = false) : ordR l row = none := by
  unfold ordR
  rw [if_neg, if_neg]
  · intro e
    rw [pre_is e] at h
    exact absurd h (by
      have : preB odL (wgL ++ row.drop wgL.length) = true := decide_eq_true rfl
      rw [this]
      decide)
  · rintro (e | e) <;> rw [e] at h <;> exact absurd h (by decide)
theorem pair_dot (l t : List Nat) (m : Nat) : pairF l t [46] m = faultL l t m := by
  unfold pairF
  cases faultL l t m with
  | some k => rfl
  | none => exact if_pos rfl
def sp_due (K : PySem.W.Frag) : Sp := fun vs H Q _ => ∃ (lo : Option (List Nat)) (a : Addr) (ps : List Rule) (row : List Nat), vs = [.str (tx (lo.getD [])), .ref a, .str (tx row)] ∧ (∀ l, lo = some l → goodB l = true) ∧ H a = some (.lst (rowsV ps)) ∧ row.length ≤ 1000 ∧ ps.length ≤ 8 ∧ ∀ (v : V) (H' : Hp), Same H H' → AnsAt H' v (dueF lo ps row) → Q v H'
theorem sc_due : FnScope ["_law_letters_here", "_law_pacts", "_law_row_here", "_law_one", "_law_blank", "_law_other"] ["_law_letters_here", "_law_pacts", "_law_row_here"] (defScope s_due) := ⟨rfl, rfl, rfl, by symm, rfl, by symm, by symm⟩
theorem ok_due {f : Addr} {fd : FuncData} (B : Bt mg)  (F : Fun K "_law_due" "_law_due" s_due f fd) (D_letters_due : Df P w K mg base CX0 1 "_law_letters_due" ["_law_row_here"] [] sp_ldu) (D_order_due : Df P w K mg base CX0 1 "_law_order_due" ["_law_letters_here", "_law_row_here"] [] sp_odu) (D_pact_due : Df P w K mg base CX0 3 "_law_pact_due" ["_law_letters_here", "_law_pacts", "_law_row_here"] [] sp_pdu) (D_pair_due : Df P w K mg base CX0 2 "_law_pair_due" ["_law_letters_here", "_law_one", "_law_other", "_law_most"] [] sp_prd) : FnOk P w K mg base CX0 4 f fd ["_law_letters_here", "_law_pacts", "_law_row_here"] (sp_due K) := by
  refine F.ok sc_due (fun vs H Q E h => ?_) (fun cdv A outer s H vs Q E hr h => ?_)
  · obtain ⟨lo, a, ps, row, rfl, _⟩ := h
    rfl
  · obtain ⟨lo, a, ps, row, rfl, hlo, hS, hl, h8, q⟩ := h
    refine ⟨_, (pss_cut (ps_if (pt_bl (pe_bm PySem.F.plainAttrs_str PySem.F.slot_str_startswith PySem.F.type_str_startswith m_starts (pv 2) (pa_cons pe_str pa_nil)) (fun _ => rfl))
        (pss_one (ps_ret (cl0 D_letters_due hr .nil rfl (pa_cons (pv 2) pa_nil))))
        pss_nil)
      (pss_cut (ps_if (pt_cmpR op_eq (pv 0) pe_str (nomark _))
        (pss_one (ps_ret (pe_tup (pa_cons pe_str pa_nil))))
        pss_nil)
      (pss_cut (ps_if (pt_bl (pe_bm PySem.F.plainAttrs_str PySem.F.slot_str_startswith PySem.F.type_str_startswith m_starts (pv 2) (pa_cons pe_str pa_nil)) (fun _ => rfl))
        (pss_one (ps_ret (cl0 D_order_due hr .nil rfl (pa_cons (pv 0) (pa_cons (pv 2) pa_nil)))))
        pss_nil)
      (pss_cut (ps_if (pt_bl (pe_bm PySem.F.plainAttrs_str PySem.F.slot_str_startswith PySem.F.type_str_startswith m_starts (pv 2) (pa_cons pe_str pa_nil)) (fun _ => rfl))
        (pss_one (ps_ret (cl0 D_pact_due hr .nil rfl (pa_cons (pv 0) (pa_cons (pv 1) (pa_cons (pv 2) pa_nil))))))
        pss_nil)
      (pss_cut (ps_if (PW.pt (pw_and (pt_cmpR op_eq (pv 2) pe_str (nomark _)) (pw_and1 (pt_cmpR op_gt (pe_callB c_len rfl B.len PySem.boot_len (pa_cons (pv 1) pa_nil)) pe_int (nomark _)))))
        (pss_one (ps_ret (pe_ix ix_list (pv 1) (pe_un un_neg pe_int) (fun _ _ => rfl))))
        pss_nil)
      (pss_cut (ps_if (pt_cmpR op_eq (pv 2) pe_str (nomark _))
        (pss_one (ps_ret pe_non))
        pss_nil)
      (pss_cut (ps_if (pt_bl (pe_bm PySem.F.plainAttrs_str PySem.F.slot_str_startswith PySem.F.type_str_startswith m_starts (pv 2) (pa_cons pe_str pa_nil)) (fun _ => rfl))
        (pss_one (ps_ret (cl0 D_pair_due hr .nil rfl (pa_cons (pv 0) (pa_cons (pe_slice sl_str (pv 2) (po_some pe_int) po_none) (pa_cons pe_str (pa_cons pe_int pa_nil)))))))
        pss_nil)
      (pss_cut (ps_asg (pe_bm PySem.F.plainAttrs_str PySem.F.slot_str_partition PySem.F.type_str_partition m_part (pe_slice sl_str (pv 2) (po_some pe_int) po_none) (pa_cons pe_str pa_nil)) (pg_tup (n := 3) rfl (pgs_cons (pg_name (i := 3) sc_due.nd rfl (.inl rfl)) (pgs_cons (pg_name (i := 4) sc_due.nd rfl (.inl rfl)) (pgs_cons (pg_name (i := 5) sc_due.nd rfl (.inl rfl)) pgs_nil)))))
      (pss_cut (ps_if (PW.pt (pw_and (pt_bl (pe_bm PySem.F.plainAttrs_str PySem.F.slot_str_startswith PySem.F.type_str_startswith m_starts (pv 2) (pa_cons pe_str pa_nil)) (fun _ => rfl)) (pw_and1 (pt_cmpR op_ne (pv 4) pe_str (nomark _)))))
        (pss_one (ps_ret (cl0 D_pair_due hr .nil rfl (pa_cons (pv 0) (pa_cons (pv 3) (pa_cons (pv 5) (pa_cons pe_int pa_nil)))))))
        pss_nil)
      (pss_one (ps_ret (pe_tup (pa_cons pe_str pa_nil))))))))))))), ?_⟩
    have s16 := sl16
    have s16 := sl16
    have e00 : (("" : Str)) = tx [] := rfl
    simp only [e00]
    have e46 : (("." : Str)) = tx [46] := rfl
    have b32 : ((" " : Str)) = tx [32] := rfl
    simp only [le_txt, pa_txt, dr_txt, ru_txt, fo_txt, ak_txt, od_txt, e46, b32]
    unfold dueF at q
    refine cut_by (fun σ H' => H' = H ∧ preB leL row = false ∧ σ = [some (.str (tx (lo.getD []))), some (.ref a), some (.str (tx row)), none, none, none]) ?_ ?_
    · repeat (first | rfl' | simp only [tAlt, tMethF, rd_cz, tRev, rSum, rIndex])
      refine ⟨row, leL, rfl, rfl, _, rfl, ?_⟩
      cases hp : preB leL row with
      | false =>
        rw [if_neg Bool.false_ne_true]
        exact ⟨rfl, rfl⟩
      | true =>
        rw [if_pos rfl]
        rw [if_pos hp] at q
        exact ⟨row, rfl, hl, q⟩
    rintro σ H1 ⟨rfl, hp, rfl⟩
    rw [if_neg (ne_true_of_eq_false hp)] at q
    clear hp
    refine cut_by (fun σ H' => H' = H1 ∧ (∃ l, lo = some l) ∧ σ = [some (.str (tx (lo.getD []))), some (.ref a), some (.str (tx row)), none, none, none]) ?_ ?_
    · repeat (first | rfl' | simp only [tAlt, tMethF, rd_cz, tRev, rSum, rIndex])
      cases lo with
      | none => exact ite2 (fun _ => ⟨by lia, fun p hp => q _ _ (same_upd hp) ⟨p, rfl, upd_same⟩⟩) fun h => absurd rfl h
      | some l =>
        have h1 := (of_decide_eq_true (hlo l rfl)).1
        exact ite2 (fun h => by rw [show l = [] from h] at h1; exact absurd h1 (by decide)) fun _ => ⟨l, rfl⟩
    rintro σ H1 ⟨rfl, ⟨l, rfl⟩, rfl⟩
    have hg := hlo l rfl
    replace q : ∀ (v : V) (H' : Hp), Same H1 H' → AnsAt H' v (dueS l ps row) → Q v H' := q
    refine cut_by (fun σ H' => H' = H1 ∧ preB odL row = false ∧ σ = [some (.str (tx l)), some (.ref a), some (.str (tx row)), none, none, none]) ?_ ?_
    · repeat (first | rfl' | simp only [tAlt, tMethF, rd_cz, tRev, rSum, rIndex])
      refine ⟨row, odL, rfl, rfl, _, rfl, ?_⟩
      cases hp : preB odL row with
      | false =>
        rw [if_neg Bool.false_ne_true]
        exact ⟨rfl, rfl, rfl⟩
      | true =>
        rw [if_pos rfl]
        rw [due_order hp] at q
        exact ⟨l, row, rfl, hg, hl, q⟩
    rintro σ H1 ⟨rfl, ho, rfl⟩
    unfold dueS at q
    refine cut_by (fun σ H' => H' = H1 ∧ preB paL row = false ∧ σ = [some (.str (tx l)), some (.ref a), some (.str (tx row)), none, none, none]) ?_ ?_
    · repeat (first | rfl' | simp only [tAlt, tMethF, rd_cz, tRev, rSum, rIndex])
      refine ⟨row, paL, rfl, rfl, _, rfl, ?_⟩
      cases hp : preB paL row with
      | false =>
        rw [if_neg Bool.false_ne_true]
        exact ⟨rfl, rfl⟩
      | true =>
        rw [if_pos rfl]
        rw [if_pos hp] at q
        exact ⟨l, a, ps, row, rfl, hS, hl, h8, q⟩
    rintro σ H1 ⟨rfl, hp, rfl⟩
    rw [if_neg (ne_true_of_eq_false hp)] at q
    clear hp
    refine cut_by (fun σ H' => H' = H1 ∧ (row = drL → ps = []) ∧ σ = [some (.str (tx l)), some (.ref a), some (.str (tx row)), none, none, none]) ?_ ?_
    · repeat (first | rfl' | simp only [tAlt, tMethF, rd_cz, tRev, rSum, rIndex])
      refine ite2 (fun h => ⟨_, .inl ⟨_, SqL.of hS, rfl⟩, ?_⟩) fun h e => absurd e h
      rw [rows_len]
      refine ite2 (fun hpos => ?_) fun hz _ => List.eq_nil_of_length_eq_zero (by lia)
      have hne : ps ≠ [] := fun e => by rw [e] at hpos; exact absurd hpos (by decide)
      obtain ⟨ps', r, rfl⟩ : ∃ ps' r, ps = ps' ++ [r] := ⟨ps.dropLast, ps.getLast hne, (List.dropLast_concat_getLast hne).symm⟩
      refine ⟨_, SqL.of hS, .str (tx (shR r)), ?_, q _ H1 (.refl _) ?_⟩
      · unfold rowsV
        rw [List.map_append, List.map_append]
        exact atI_last _ _
      · rw [if_pos h]
        unfold dropR
        rw [List.getLast?_concat]
        rfl
    rintro σ H1 ⟨rfl, hdr, rfl⟩
    refine cut_by (fun σ H' => H' = H1 ∧ row ≠ ruL ∧ σ = [some (.str (tx l)), some (.ref a), some (.str (tx row)), none, none, none]) ?_ ?_
    · repeat (first | rfl' | simp only [tAlt, tMethF, rd_cz, tRev, rSum, rIndex])
      refine ite2 (fun h => ?_) fun h => h
      rw [if_neg (by rw [h]; decide), if_pos h] at q
      exact q _ H1 (.refl _) rfl
    rintro σ H1 ⟨rfl, hru, rfl⟩
    refine cut_by (fun σ H' => H' = H1 ∧ preB foL row = false ∧ σ = [some (.str (tx l)), some (.ref a), some (.str (tx row)), none, none, none]) ?_ ?_
    · repeat (first | rfl' | simp only [tAlt, tMethF, rd_cz, tRev, rSum, rIndex])
      refine ⟨row, foL, rfl, rfl, _, rfl, ?_⟩
      cases hp : preB foL row with
      | false =>
        rw [if_neg Bool.false_ne_true]
        exact ⟨rfl, rfl⟩
      | true =>
        rw [if_pos rfl]
        rw [if_neg (fun e => by rw [e] at hp; exact absurd hp (by decide)), if_neg hru, if_pos hp] at q
        rw [cut_from _ (by decide)]
        refine ⟨by lia, l, row.drop 5, [46], 20, rfl, by rw [List.length_drop]; lia, by decide, fun v H' s' ha => q v H' s' ?_⟩
        rw [pair_dot] at ha
        exact ha
    rintro σ H1 ⟨rfl, hfo, rfl⟩
    have htl : (row.drop 4).length ≤ 1000 := by rw [List.length_drop]; lia
    have hc4 : cut row (some (4 : Int)) none = row.drop 4 := cut_from _ (by decide)
    refine cut_by (fun σ H' => Same H1 H' ∧ ∃ (x y z : List Nat), (match parts [32] (row.drop 4) with | none => y = [] | some (a, b) => y = [32] ∧ x = a ∧ z = b) ∧ σ = [some (.str (tx l)), some (.ref a), some (.str (tx row)), some (.str (tx x)), some (.str (tx y)), some (.str (tx z))]) ?_ ?_
    · repeat (first | rfl' | simp only [tAlt, tMethF, rd_cz, tRev, rSum, rIndex])
      rw [hc4]
      refine ⟨by lia, _, _, rfl, rfl, by decide, by lia, fun p' hp' => ?_⟩
      cases hk : parts [32] (row.drop 4) with
      | none => exact ⟨p', rfl, _, SqT.of upd_same, rfl, _, _, rfl, _, _, rfl, _, _, rfl, rfl, same_upd hp', _, _, _, rfl, rfl, rfl, rfl⟩
      | some ab =>
        obtain ⟨a', b'⟩ := ab
        exact ⟨p', rfl, _, SqT.of upd_same, rfl, _, _, rfl, _, _, rfl, _, _, rfl, rfl, same_upd hp', _, _, _, ⟨rfl, rfl, rfl⟩, rfl, rfl, rfl⟩
    rintro σ H2 ⟨s2, x, y, z, hxyz, rfl⟩
    refine cut_by (fun σ H' => H' = H2 ∧ (preB akL row = true → parts [32] (row.drop 4) = none) ∧ σ = [some (.str (tx l)), some (.ref a), some (.str (tx row)), some (.str (tx x)), some (.str (tx y)), some (.str (tx z))]) ?_ ?_
    · repeat (first | rfl' | simp only [tAlt, tMethF, rd_cz, tRev, rSum, rIndex])
      refine ⟨row, akL, rfl, rfl, _, rfl, ?_⟩
      cases hp : preB akL row with
      | false =>
        rw [if_neg Bool.false_ne_true]
        exact ⟨rfl, fun h => by cases h⟩
      | true =>
        rw [if_pos rfl]
        cases hk : parts [32] (row.drop 4) with
        | none =>
          rw [hk] at hxyz
          exact ite2 (fun h => absurd hxyz h) fun _ => ⟨rfl, fun _ => rfl⟩
        | some ab =>
          obtain ⟨a', b'⟩ := ab
          rw [hk] at hxyz
          obtain ⟨rfl, rfl, rfl⟩ := hxyz
          have hpl := parts_len hk
          refine ite2 (fun _ => ⟨l, x, z, 20, rfl, by lia, by lia, fun v H' s' ha => q v H' (s2.trans s') ?_⟩) fun h => absurd (fun e => by cases e) h
          rw [if_neg (fun e => by rw [e] at hp; exact absurd hp (by decide)), if_neg hru, if_neg (ne_true_of_eq_false hfo), if_pos hp]
          unfold askR
          rw [hk]
          exact ha
    rintro σ H3 ⟨rfl, hak, rfl⟩
    rfl'
    refine ⟨by lia, fun p hp => q _ _ (s2.trans (same_upd hp)) ?_⟩
    by_cases hd : row = drL
    · rw [if_pos hd, hdr hd]
      exact ⟨p, rfl, upd_same⟩
    · rw [if_neg hd, if_neg hru, if_neg (ne_true_of_eq_false hfo)]
      cases hp' : preB akL row with
      | true =>
        rw [if_pos rfl]
        unfold askR
        rw [hak hp']
        exact ⟨p, rfl, upd_same⟩
      | false =>
        rw [if_neg Bool.false_ne_true, no_order ho]
        exact ⟨p, rfl, upd_same⟩
def rIsiT (K : PySem.W.Frag) : List V → Hp → VK → Prop := fun xs H Q => ∃ (x C : Addr) (dx : Option Addr) (fs : List (Str × V)) (tp : Addr) (cs : List Addr) (b : Bool), xs = [.ref x, .ref tp] ∧ H tp = some (.tup (cs.map V.ref)) ∧ XAt H x C dx fs ∧ XI K C ∧ PySem.W.kitAny K (.ref C) (cs.map Value.ref) = some b ∧ Q (.bl b) H
theorem vals_refs : ∀ {cs : List Addr} {its : List Value}, Vals (cs.map V.ref) its → its = cs.map Value.ref
  | [], _, h => by cases h; rfl
  | c :: cs, _, h => by
    cases h with
    | cons r1 r2 =>
      cases r1
      rw [vals_refs r2]
      rfl
theorem c_isiT {X : Cx} : CallR X (.builtin "isinstance") (rIsiT X.K) := by
  intro pins s σ H xs us Q I r h
  obtain ⟨x, C, dx, fs, tp, cs, b, rfl, ht, ⟨hx, hd⟩, xi, e, q⟩ := h
  obtain ⟨v, w', rfl, rx, rc⟩ := vals2 r
  cases rx
  cases rc
  obtain ⟨its, rv, ⟨o, h1, h2, n, h3⟩, _⟩ := I.tuple (SqT.of ht)
  have := vals_refs rv
  subst this
  obtain ⟨c1, c2, c3, c4⟩ := o
  cases h2
  cases h3
  refine PySem.W.kia_tup (kit_x (dx := dx) xi) I.kIn ⟨xt_at (I.hok _ _ hx), fun d z => ?_⟩ h1 e (fun z => nomatch z) fun tk => ⟨.bl b, H, I.tok tk, rfl, q⟩
  rcases hd with ⟨z', _⟩ | ⟨d', z', hd'⟩
  · rw [z'] at z; cases z
  · rw [z'] at z; cases z
    obtain ⟨mA, ⟨o, es, ep, ho, _⟩, _⟩ := I.hok _ _ hd'
    exact ⟨o, ho⟩
structure TA92 (K : PySem.W.Frag) (mg : Str → Option Value) (CNR C CN CNP CTM CNW : Addr) : Prop where
  gR : mg "NoRow" = some (.ref CNR)
  gL : mg "NoLetters" = some (.ref C)
  gO : mg "NoOrder" = some (.ref CN)
  gP : mg "NoPact" = some (.ref CNP)
  gM : mg "TooMany" = some (.ref CTM)
  gW : mg "NoWord" = some (.ref CNW)
  xR : XI K CNR
  xL : XI K C
  xO : XI K CN
  xP : XI K CNP
  xM : XI K CTM
  xW : XI K CNW
  sRR : PySem.W.subIn K (.ref CNR) (.ref CNR) = some true
  sLR : PySem.W.subIn K (.ref C) (.ref CNR) = some false
  sLL : PySem.W.subIn K (.ref C) (.ref C) = some true
  sOR : PySem.W.subIn K (.ref CN) (.ref CNR) = some false
  sOL : PySem.W.subIn K (.ref CN) (.ref C) = some false
  sOO : PySem.W.subIn K (.ref CN) (.ref CN) = some true
  sPR : PySem.W.subIn K (.ref CNP) (.ref CNR) = some false
  sPL : PySem.W.subIn K (.ref CNP) (.ref C) = some false
  sPO : PySem.W.subIn K (.ref CNP) (.ref CN) = some false
  sPP : PySem.W.subIn K (.ref CNP) (.ref CNP) = some true
  sMR : PySem.W.subIn K (.ref CTM) (.ref CNR) = some false
  sML : PySem.W.subIn K (.ref CTM) (.ref C) = some false
  sMO : PySem.W.subIn K (.ref CTM) (.ref CN) = some false
  sMP : PySem.W.subIn K (.ref CTM) (.ref CNP) = some false
  sMM : PySem.W.subIn K (.ref CTM) (.ref CTM) = some true
  sWR : PySem.W.subIn K (.ref CNW) (.ref CNR) = some false
  sWL : PySem.W.subIn K (.ref CNW) (.ref C) = some false
  sWO : PySem.W.subIn K (.ref CNW) (.ref CN) = some false
  sWP : PySem.W.subIn K (.ref CNW) (.ref CNP) = some false
  sWM : PySem.W.subIn K (.ref CNW) (.ref CTM) = some false
  sWW : PySem.W.subIn K (.ref CNW) (.ref CNW) = some true
  ra : PySem.W.kitAny K (.ref CNR) ([C, CN, CNP, CNW, CTM].map Value.ref) = some false
  hh : PySem.W.hasDictIn K CNW = true
  na : NoAttr K CNW "place"
theorem DeskAt.same {CD d pl : Addr} {lo : Option (List Nat)} {ps : List Rule} {H H' : Hp} (h : DeskAt K CD H d lo pl ps) (s : Same H H') : DeskAt K CD H' d lo pl ps := by
  obtain ⟨dx, vo, h1, ⟨qs, h2, h3, h4⟩, h5⟩ := h
  exact ⟨dx, vo, s _ _ h1, ⟨qs, s _ _ h2, h3, fun i q r a b => s _ _ (h4 i q r a b)⟩, h5.kp h2 (Kp.of s)⟩
theorem nx_ref {lo : Option (List Nat)} {ps : List Rule} {row : List Nat} (h : ∀ t, dueF lo ps row ≠ .text t) : nxS lo ps row = (lo, ps) := by
  unfold dueF at h
  unfold nxS
  by_cases a1 : preB leL row = true
  · rw [if_pos a1] at h ⊢
    by_cases a2 : goodB (row.drop 8) = true
    · rw [if_pos a2] at h
      exact absurd rfl (h row)
    · rw [if_neg a2]
  · rw [if_neg a1] at h ⊢
    cases lo with
    | none => rfl
    | some l =>
      show (some l, nxP l ps row) = (some l, ps)
      replace h : ∀ t, dueS l ps row ≠ .text t := h
      unfold dueS at h
      unfold nxP
      by_cases a2 : preB paL row = true
      · rw [if_pos a2] at h ⊢
        unfold pactR at h
        unfold pactP
        cases hk : parts sepL (row.drop 5) with
        | none => rfl
        | some ab =>
          obtain ⟨a, b⟩ := ab
          rw [hk] at h
          replace h : ∀ t, (match pairF l a b 10 with | some k => R9.noWord k | none => if ps.length = 8 then .tooMany else .text (paL ++ dec ps.length)) ≠ .text t := h
          show (some l, match pairF l a b 10 with | some _ => ps | none => if ps.length = 8 then ps else ps ++ [(rwOut a, rwOut b)]) = (some l, ps)
          cases hk2 : pairF l a b 10 with
          | some k => rfl
          | none =>
            rw [hk2] at h
            replace h : ∀ t, (if ps.length = 8 then R9.tooMany else .text (paL ++ dec ps.length)) ≠ .text t := h
            by_cases a3 : ps.length = 8
            · show (some l, if ps.length = 8 then ps else _) = _
              rw [if_pos a3]
            · rw [if_neg a3] at h
              exact absurd rfl (h _)
      · rw [if_neg a2] at h ⊢
        by_cases a3 : row = drL
        · rw [if_pos a3] at h ⊢
          unfold dropR at h
          cases hk : ps.getLast? with
          | none =>
            rw [List.getLast?_eq_none_iff.mp hk]
            rfl
          | some r =>
            rw [hk] at h
            exact absurd rfl (h _)
        · rw [if_neg a3]
def sp_ltold (K : PySem.W.Frag) (CD : Addr) : Sp := fun vs H Q _ => ∃ (d pl : Addr) (ps : List Rule) (lo : Option (List Nat)) (row : List Nat), vs = [.ref d, .str (tx row)] ∧ DeskAt K CD H d lo pl ps ∧ row.length ≤ 1000 ∧ (∀ r ∈ ps, r.1.length ≤ 1000 ∧ r.2.length ≤ 1000) ∧ ps.length ≤ 8 ∧ dueF lo ps row ≠ .skip ∧ ∀ (v : V) (pl' : Addr) (H' : Hp), Kp d pl H H' → (pl' = pl ∨ H pl' = none) → DeskAt K CD H' d (nxS lo ps row).1 pl' (nxS lo ps row).2 → AnsAt H' v (dueF lo ps row) → Q v H'
theorem sc_told : FnScope ["_law_desk", "_law_row_here", "_law_answer", "error"] ["_law_desk", "_law_row_here"] (defScope s_told) := ⟨rfl, rfl, rfl, by symm, rfl, by symm, by symm⟩
theorem ok_told {f CD C CN CNW CNP CTM CNR : Addr} {fd : FuncData} (B : Bt mg) (CL : TDsk K mg CD) (TA : TA92 K mg CNR C CN CNP CTM CNW) (F : Fun K "_law_told" "_law_told" s_told f fd) (M_desk_told : DM P w K mg base (CXx P w) 8 CD "told" ["self", "row"] (sp_told K CD C CN CNW CNP CTM CNR)) : FnOk P w K mg base CX0 9 f fd ["_law_desk", "_law_row_here"] (sp_ltold K CD) := by
  refine F.ok sc_told (fun vs H Q E h => ?_) (fun cdv A outer s H vs Q E hr h => ?_)
  · obtain ⟨d, pl, ps, lo, row, rfl, _⟩ := h
    rfl
  · obtain ⟨d, pl, ps, lo, row, rfl, hd, hl, hb, h8, hns, q⟩ := h
    refine ⟨_, (pss_cut (ps_set (i := 2) sc_told.nd rfl (.inl rfl) pe_non)
      (pss_cut (ps_tryM (i := 2) sc_told.nd rfl (.inl rfl) (.inl rfl) ⟨rfl, rfl⟩ (pex_meth M_desk_told CL.cl hr (pv 0) (pa_cons (pv 1) pa_nil))
        (hm_cons (ts := (tSeq (tAsg (tTup (tCons (tC (.str "NoRow")) tNil)) (gName 2)) (tIfS (tBl (tCB (rIsiT K) (tCons (tVar 3) (tCons (tTup (tCons (tC (.ref C)) (tCons (tC (.ref CN)) (tCons (tC (.ref CNP)) (tCons (tC (.ref CNW)) (tCons (tC (.ref CTM)) tNil)))))) tNil)))) (tAsg (tTup (tCons (tC (.str "NoRow")) (tCons (tC (.str "another")) tNil))) (gName 2)) tNext))) 3 (fun e => (pss_cons (ps_set (i := 2) sc_told.nd rfl (.inl rfl) (pe_tup (pa_cons pe_str pa_nil)))
          (pss_one (ps_if (pt_bl (pe_callB c_isiT rfl B.isi PyProof.Rows.boot_isinstance (pa_cons (pv 3) (pa_cons (pe_tup (pa_cons (pe_glob (v := .ref C) rfl TA.gL rfl) (pa_cons (pe_glob (v := .ref CN) rfl TA.gO rfl) (pa_cons (pe_glob (v := .ref CNP) rfl TA.gP rfl) (pa_cons (pe_glob (v := .ref CNW) rfl TA.gW rfl) (pa_cons (pe_glob (v := .ref CTM) rfl TA.gM rfl) pa_nil)))))) pa_nil))) (fun _ => rfl))
            (pss_one (ps_set (i := 2) sc_told.nd rfl (.inl rfl) (pe_tup (pa_cons pe_str (pa_cons pe_str pa_nil)))))
            pss_nil)))) rfl TA.gR rfl rfl TA.xR.ok
        (hm_none (ts := (tAsg (tTup (tCons (tC (.str "NoLetters")) tNil)) (gName 2))) (fun e => (pss_one (ps_set (i := 2) sc_told.nd rfl (.inl rfl) (pe_tup (pa_cons pe_str pa_nil))))) rfl TA.gL TA.xL.ok
        (hm_none (ts := (tAsg (tTup (tCons (tC (.str "NoOrder")) tNil)) (gName 2))) (fun e => (pss_one (ps_set (i := 2) sc_told.nd rfl (.inl rfl) (pe_tup (pa_cons pe_str pa_nil))))) rfl TA.gO TA.xO.ok
        (hm_none (ts := (tAsg (tTup (tCons (tC (.str "NoPact")) tNil)) (gName 2))) (fun e => (pss_one (ps_set (i := 2) sc_told.nd rfl (.inl rfl) (pe_tup (pa_cons pe_str pa_nil))))) rfl TA.gP TA.xP.ok
        (hm_none (ts := (tAsg (tTup (tCons (tC (.str "TooMany")) tNil)) (gName 2))) (fun e => (pss_one (ps_set (i := 2) sc_told.nd rfl (.inl rfl) (pe_tup (pa_cons pe_str pa_nil))))) rfl TA.gM TA.xM.ok
        (hm_cons (ts := (tAsg (tTup (tCons (tC (.str "NoWord")) (tCons (tXget K (tVar 3) "place") tNil))) (gName 2))) 3 (fun e => (pss_one (ps_set (i := 2) sc_told.nd rfl (.inl rfl) (pe_tup (pa_cons pe_str (pa_cons (pe_xget (pv 3) rfl) pa_nil)))))) rfl TA.gW rfl rfl TA.xW.ok
        .nil)))))))
      (pss_one (ps_ret (pv 2))))), ?_⟩
    have s16 := sl16
    have s16 := sl16
    refine cut_by (fun σ H' => H' = H ∧ σ = [some (.ref d), some (.str (tx row)), some (.non), none]) ?_ ?_
    · rfl'
    rintro σ H1 ⟨rfl, rfl⟩
    have ref : (∀ t, dueF lo ps row ≠ .text t) → ∀ (v : V) (H' : Hp), Same H1 H' → AnsAt H' v (dueF lo ps row) → Q v H' := fun hn v H' s' ha => q v pl H' (Kp.of s') (.inl rfl) (by rw [nx_ref hn]; exact hd.same s') ha
    refine cut_by (fun σ H' => ∃ v : V, Q v H' ∧ ∃ v3 : Option V, σ = [some (.ref d), some (.str (tx row)), some (v), v3]) ?_ ?_
    · simp only [tTryM, tHsM, gone1]
      repeat (first | rfl' | simp only [tAlt, tMethF, rd_cz, tRev, rSum, rIndex])
      obtain ⟨dx, vo, hd1, _⟩ := id hd
      refine ⟨dx, _, hd1, rfl, d, pl, ps, lo, row, rfl, hd, hl, hb, h8, ?_⟩
      cases hr : dueF lo ps row with
      | text t =>
        intro pl' H' kp hpl hD
        rw [hr] at q
        exact q _ pl' H' kp hpl hD rfl
      | skip => exact absurd hr hns
      | noRow =>
        rw [hr] at ref
        replace ref := ref fun t e => by cases e
        intro H' s'
        refine ⟨CNR, rfl, fun y hy => ⟨true, TA.sRR, iteT ⟨by lia, fun p hp => ⟨by lia, fun p1 hp1 => ?_⟩⟩⟩⟩
        have sy := same_upd (o := XT y CNR none) hy
        have sp := same_upd (o := .tup [.str "NoRow"]) hp
        have sp1 := same_upd (o := .tup [.ref C, .ref CN, .ref CNP, .ref CNW, .ref CTM]) hp1
        have xa2 : XAt (upd (upd (upd H' y (XT y CNR none)) p (.tup [.str "NoRow"])) p1 (.tup [.ref C, .ref CN, .ref CNP, .ref CNW, .ref CTM])) y CNR none [] := ⟨(sp.trans sp1) _ _ upd_same, .inl ⟨rfl, rfl⟩⟩
        exact ⟨y, CNR, none, [], p1, [C, CN, CNP, CNW, CTM], false, rfl, upd_same, xa2, TA.xR, TA.ra, false, rfl, ite2 (fun e => by cases e) fun _ => ref (.ref p) _ (s'.trans (sy.trans (sp.trans sp1))) ⟨p, rfl, sp1 _ _ upd_same⟩⟩
      | noLetters =>
        rw [hr] at ref
        replace ref := ref fun t e => by cases e
        intro H' s'
        refine ⟨C, rfl, fun y hy => ?_⟩
        exact ⟨false, TA.sLR, iteF ⟨true, TA.sLL, iteT ⟨by lia, fun p hp => ref _ _ (s'.trans ((same_upd hy).trans (same_upd hp))) ⟨p, rfl, upd_same⟩⟩⟩⟩
      | noOrder =>
        rw [hr] at ref
        replace ref := ref fun t e => by cases e
        intro H' s'
        refine ⟨CN, rfl, fun y hy => ?_⟩
        exact ⟨false, TA.sOR, iteF ⟨false, TA.sOL, iteF ⟨true, TA.sOO, iteT ⟨by lia, fun p hp => ref _ _ (s'.trans ((same_upd hy).trans (same_upd hp))) ⟨p, rfl, upd_same⟩⟩⟩⟩⟩
      | noPact =>
        rw [hr] at ref
        replace ref := ref fun t e => by cases e
        intro H' s'
        refine ⟨CNP, rfl, fun y hy => ?_⟩
        exact ⟨false, TA.sPR, iteF ⟨false, TA.sPL, iteF ⟨false, TA.sPO, iteF ⟨true, TA.sPP, iteT ⟨by lia, fun p hp => ref _ _ (s'.trans ((same_upd hy).trans (same_upd hp))) ⟨p, rfl, upd_same⟩⟩⟩⟩⟩⟩
      | tooMany =>
        rw [hr] at ref
        replace ref := ref fun t e => by cases e
        intro H' s'
        refine ⟨CTM, rfl, fun y hy => ?_⟩
        exact ⟨false, TA.sMR, iteF ⟨false, TA.sML, iteF ⟨false, TA.sMO, iteF ⟨false, TA.sMP, iteF ⟨true, TA.sMM, iteT ⟨by lia, fun p hp => ref _ _ (s'.trans ((same_upd hy).trans (same_upd hp))) ⟨p, rfl, upd_same⟩⟩⟩⟩⟩⟩⟩
      | noWord k =>
        rw [hr] at ref
        replace ref := ref fun t e => by cases e
        intro d' H' hf
        refine ⟨CNW, rfl, fun y hy => ?_⟩
        exact ⟨false, TA.sWR, iteF ⟨false, TA.sWL, iteF ⟨false, TA.sWO, iteF ⟨false, TA.sWP, iteF ⟨false, TA.sWM, iteF ⟨true, TA.sWW, iteT ⟨CNW, some d', _, hf.xat hy, TA.xW.toXC, TA.hh, TA.na, _, rfl, by lia, fun p hp => ref _ _ (hf.2.1.trans ((same_upd hy).trans (same_upd hp))) ⟨p, rfl, upd_same⟩⟩⟩⟩⟩⟩⟩⟩
    rintro σ H2 ⟨v, hq, v3, rfl⟩
    rfl'
    exact hq
theorem mkC0 {X : Cx} {k j : Nat} {C : Addr} {x : Str} {ps : List Str} {sp : Sp} {p pos : Pos} (D : DMk X.prog X.w X.K X.mg X.base CX0 k C ps sp) (hr : Room j X.A) (hg : Gl X x) (hm : X.mg x = some (.ref C)) (hdb : (x == ("__debug__" : Str)) = false := by decide) (hj : k + 1 ≤ j := by decide) : PE X (.Call (.Name x p) [] [] pos) (tMake C sp [] E0 tNil) := by
  obtain ⟨f, fd, M, F, hb⟩ := D.ex
  exact pe_make0 M F (hr.mono hj) hg hm hb .nil pass0 hdb
theorem op_eqTS {X : Cx} (hu : X.A.units + 100 < cLine) : OpR X (compareOp .Eq) (fun x y H Q => ∃ a xs z, x = .ref a ∧ y = .str z ∧ SqT X.K H a xs ∧ Q (.bl false) H) := by
  intro pins s σ H x y v u Q I rx ry h
  obtain ⟨a, xs, z, rfl, rfl, h1, q⟩ := h
  cases rx
  obtain ⟨t, rfl⟩ := ry
  obtain ⟨its, r, p, _⟩ := I.tuple h1
  exact SeqAt.RcAt.tuple_str z t p (by lia) X.prog X.w X.xe _ ⟨.bl _, H, I, rfl, q⟩
theorem tup_ne {H : Hp} {p p' : Addr} {l : List D} {vs vs' : List V} {Q : VK} (h1 : H p = some (.tup vs)) (h2 : H p' = some (.tup vs')) (i1 : Iss K H l vs) (i2 : Iss K H l vs') (hd : dpDs l < 50) (he : eqDs l l = true) (q : Q (.bl false) H) : rNeL K (.ref p) (.ref p') H Q := by
  refine ⟨l, l, .inr ⟨?_, ?_⟩, hd, by rw [he]; exact q⟩
  · simp only [Is]
    exact ⟨p, _, rfl, SqT.of h1, i1⟩
  · simp only [Is]
    exact ⟨p', _, rfl, SqT.of h2, i2⟩
theorem ans_ne {H : Hp} {v u : V} {x : R9} {Q : VK} (hx : x ≠ .skip) (h1 : AnsAt H v x) (h2 : AnsAt H u x) (q : Q (.bl false) H) : rNe v u H Q ∨ rNeL K v u H Q := by
  have one : ∀ {z : Str}, (∃ p, v = .ref p ∧ H p = some (.tup [.str z])) → (∃ p, u = .ref p ∧ H p = some (.tup [.str z])) → rNe v u H Q ∨ rNeL K v u H Q := fun {z} k1 k2 => by
    obtain ⟨p, rfl, k1⟩ := k1
    obtain ⟨p', rfl, k2⟩ := k2
    have i : ∀ {H : Hp}, Iss K H [.str z] [.str z] := by simp only [Iss, Is]; exact ⟨_, _, rfl, rfl, rfl⟩
    exact .inr (tup_ne (l := [.str z]) k1 k2 i i (by simp [dpDs, dpD]) (by simp [eqDs, eqD]) q)
  cases x with
  | text l =>
    obtain rfl : v = .str (tx l) := h1
    obtain rfl : u = .str (tx l) := h2
    exact .inl ⟨rfl, by rw [decide_eq_true rfl]; exact q⟩
  | skip => exact absurd rfl hx
  | noRow => exact one h1 h2
  | noLetters => exact one h1 h2
  | noOrder => exact one h1 h2
  | noPact => exact one h1 h2
  | tooMany => exact one h1 h2
  | noWord k =>
    obtain ⟨p, rfl, h1⟩ := h1
    obtain ⟨p', rfl, h2⟩ := h2
    have i : ∀ {H : Hp}, Iss K H [.str "NoWord", .int (k : Nat)] [.str "NoWord", .int (k : Nat)] := by simp only [Iss, Is]; exact ⟨_, _, rfl, rfl, _, _, rfl, rfl, rfl⟩
    exact .inr (tup_ne (l := [.str "NoWord", .int (k : Nat)]) h1 h2 i i (by simp [dpDs, dpD]) (by simp [eqDs, eqD]) q)
theorem ans_ne2 {H : Hp} {v u : V} {x : R9} {R S : Hp → Prop} (hx : x ≠ .skip) (h1 : AnsAt H v x) (h2 : AnsAt H u x) (q : S H) : (scal v u = true ∧ if ¬v = u then R H else S H) ∨ rNeL K v u H fun x H' => ∃ k, x = V.bl k ∧ if k = true then R H' else S H' := by
  rcases ans_ne (K := K) (Q := fun x H' => ∃ k, x = V.bl k ∧ if k = true then R H' else S H') hx h1 h2 ⟨false, rfl, by rw [if_neg Bool.false_ne_true]; exact q⟩ with ⟨e, k, hk, h⟩ | h
  · refine .inl ⟨e, ite2 (fun n => ?_) fun _ => q⟩
    rw [decide_eq_false n] at hk
    cases hk
    exact (if_pos rfl).mp h
  · exact .inr h
theorem AnsAt.kp {CD d pl : Addr} {lo : Option (List Nat)} {ps : List Rule} {H H' : Hp} {v : V} {x : R9} (h : AnsAt H v x) (hd : DeskAt K CD H d lo pl ps) (kp : Kp d pl H H') : AnsAt H' v x := by
  obtain ⟨dx, vo, h1, ⟨qs, h2, _⟩, _⟩ := hd
  have k : ∀ {p : Addr} {vs : List V}, H p = some (.tup vs) → H' p = some (.tup vs) := fun {p vs} e => kp _ _ (fun z => by rw [z, h1] at e; cases e) (fun z => by rw [z, h2] at e; cases e) e
  cases x <;> first | exact h | (obtain ⟨p, e, h⟩ := h; exact ⟨p, e, k h⟩)
theorem cutV_last (xs : List V) : cutV xs none (some (-1)) = xs.dropLast := by
  unfold cutV
  rw [List.dropLast_eq_take]
  unfold HT.sIx
  simp
  lia
theorem DeskAt.put {CD d pl b : Addr} {lo : Option (List Nat)} {ps : List Rule} {H : Hp} {xs ys : List V} (h : DeskAt K CD H d lo pl ps) (hb : H b = some (.lst xs)) (n : b ≠ pl) : DeskAt K CD (upd H b (.lst ys)) d lo pl ps := by
  obtain ⟨dx, vo, h1, ⟨qs, h2, h3, h4⟩, h5⟩ := h
  have nd : d ≠ b := fun e => by rw [e, hb] at h1; cases h1
  refine ⟨dx, vo, by rw [upd_ne nd]; exact h1, ⟨qs, by rw [upd_ne n.symm]; exact h2, h3, fun i q r e1 e2 => ?_⟩, h5.kp (pl := b) hb fun c o _ hc e => by rw [upd_ne hc]; exact e⟩
  have e := h4 i q r e1 e2
  rw [upd_ne (fun z => by rw [z, hb] at e; cases e)]
  exact e
def Dsk2 (K : PySem.W.Frag) (CD d sl : Addr) (cs : List V) (b : Addr) (lo : Option (List Nat)) (ps ks : List Rule) (H : Hp) : Prop := ∃ pl, DeskAt K CD H d lo pl ps ∧ b ≠ pl ∧ H b = some (.lst (rowsV ks)) ∧ sl ≠ pl ∧ sl ≠ b ∧ H sl = some (.lst cs)
section
variable {CD d sl b : Addr} {cs : List V} {lo : Option (List Nat)} {ps ks : List Rule} {H H' : Hp}
theorem Dsk2.same (h : Dsk2 K CD d sl cs b lo ps ks H) (s : Same H H') : Dsk2 K CD d sl cs b lo ps ks H' := by
  obtain ⟨pl, h1, h2, h3, h4, h5, h6⟩ := h
  exact ⟨pl, h1.same s, h2, s _ _ h3, h4, h5, s _ _ h6⟩
theorem Dsk2.new {b' : Addr} {ks' : List Rule} (h : Dsk2 K CD d sl cs b lo ps ks H) (hb : H b' = none) : Dsk2 K CD d sl cs b' lo ps ks' (upd H b' (.lst (rowsV ks'))) := by
  obtain ⟨pl, h1, h2, h3, h4, h5, h6⟩ := h
  have s := same_upd (o := HO.lst (rowsV ks')) hb
  obtain ⟨dx, vo, hd, ⟨qs, hp, _⟩, _⟩ := id h1
  exact ⟨pl, h1.same s, (ne_of_none hp hb).symm, upd_same, h4, ne_of_none h6 hb, s _ _ h6⟩
theorem Dsk2.put {ks' : List Rule} (h : Dsk2 K CD d sl cs b lo ps ks H) : Dsk2 K CD d sl cs b lo ps ks' (upd H b (.lst (rowsV ks'))) := by
  obtain ⟨pl, h1, h2, h3, h4, h5, h6⟩ := h
  exact ⟨pl, h1.put h3 h2, h2, upd_same, h4, h5, by rw [upd_ne h5]; exact h6⟩
theorem told_step {row : List Nat} {Q : VK} {E : XK} (h : Dsk2 K CD d sl cs b lo ps ps H) (hl : row.length ≤ 1000) (h8 : ps.length ≤ 8) (hb : ∀ r ∈ ps, r.1.length ≤ 10 ∧ r.2.length ≤ 10) (hns : dueF lo ps row ≠ .skip)
    (q : ∀ (v : V) (H' : Hp), (∀ (u : V) (x : R9), AnsAt H u x → AnsAt H' u x) → AnsAt H' v (dueF lo ps row) → Dsk2 K CD d sl cs b (nxS lo ps row).1 (nxS lo ps row).2 ps H' → Q v H') : sp_ltold K CD [.ref d, .str (tx row)] H Q E := by
  obtain ⟨pl, h1, h2, h3, h4, h5, h6⟩ := h
  obtain ⟨dx, vo, hd, ⟨qs, hp, _⟩, _⟩ := id h1
  have nb : b ≠ d := fun e => by rw [e, hd] at h3; cases h3
  have ns : sl ≠ d := fun e => by rw [e, hd] at h6; cases h6
  refine ⟨d, pl, ps, lo, row, rfl, h1, hl, fun r hr => ⟨by have := (hb r hr).1; lia, by have := (hb r hr).2; lia⟩, h8, hns, fun v pl' H' kp hpl hD ha => q v H' (fun u x hu => hu.kp h1 kp) ha ⟨pl', hD, ?_, kp _ _ nb h2 h3, ?_, h5, kp _ _ ns h4 h6⟩⟩
  · rcases hpl with z | z
    · rw [z]
      exact h2
    · exact ne_of_none h3 z
  · rcases hpl with z | z
    · rw [z]
      exact h4
    · exact ne_of_none h6 z
end
theorem if_notN {A B : TS} {D : Ends} {H : Hp} {i : Nat} {σ : L3.St} {v : V} (hσ : σ[i]? = some (some v)) (hv : v ≠ .non) (h : A D σ H) : tIfS (tTest (tOp rNotN (tVar i) (tC V.non))) A B D σ H := by
  refine ⟨v, hσ, rfl, true, ?_, ?_⟩
  · rw [decide_eq_false hv]
    rfl
  · show if true = true then A D σ H else B D σ H
    rw [if_pos rfl]
    exact h
theorem ans_nn {H : Hp} {v : V} {x : R9} (hx : x ≠ .skip) (h : AnsAt H v x) : v ≠ .non := by
  rintro rfl
  cases x with
  | skip => exact hx rfl
  | text t => cases h
  | _ => obtain ⟨p, e, _⟩ := h; cases e
noncomputable def k1 (ps : List Rule) (row : List Nat) : List Rule := if preB leL row = true ∧ goodB (row.drop 8) = true then [] else ps
noncomputable def k2 (ps : List Rule) (row : List Nat) : List Rule := if row = drL then (k1 ps row).dropLast else k1 ps row
theorem fault_len {ls a : List Nat} {m : Nat} (h : faultL ls a m = none) : (rwOut a).length ≤ m ∧ shW (rwOut a) = a := by
  unfold faultL at h
  unfold rwOut
  by_cases e : a = [46]
  · rw [if_pos e, e]
    exact ⟨Nat.zero_le _, rfl⟩
  · rw [if_neg e] at h ⊢
    by_cases e2 : a = []
    · rw [if_pos e2] at h
      cases h
    · rw [if_neg e2] at h
      exact ⟨(fst_of_none h).1, if_neg e2⟩
theorem pair_none {ls a b : List Nat} {m : Nat} (h : pairF ls a b m = none) : faultL ls a m = none ∧ faultL ls b m = none := by
  unfold pairF at h
  cases e : faultL ls a m with
  | some k => rw [e] at h; cases h
  | none => rw [e] at h; exact ⟨rfl, h⟩
theorem pact_row {l row a b : List Nat} (h : preB paL row = true) (hp : parts sepL (row.drop 5) = some (a, b)) (hk : pairF l a b 10 = none) : row = shR (rwOut a, rwOut b) := by
  obtain ⟨h1, h2⟩ := pair_none hk
  have e := pre_is h
  rw [show paL.length = 5 from rfl, parts_spec hp] at e
  unfold shR
  rw [(fault_len h1).2, (fault_len h2).2]
  exact e
theorem nx_inv {lo : Option (List Nat)} {ps : List Rule} {row : List Nat} (hlo : ∀ l, lo = some l → goodB l = true) (hno : lo = none → ps = []) (h8 : ps.length ≤ 8) (hbd : ∀ r ∈ ps, r.1.length ≤ 10 ∧ r.2.length ≤ 10) :
    (∀ l, (nxS lo ps row).1 = some l → goodB l = true) ∧ ((nxS lo ps row).1 = none → (nxS lo ps row).2 = []) ∧ (nxS lo ps row).2.length ≤ 8 ∧ ∀ r ∈ (nxS lo ps row).2, r.1.length ≤ 10 ∧ r.2.length ≤ 10 := by
  unfold nxS
  by_cases a1 : preB leL row = true
  · rw [if_pos a1]
    by_cases a2 : goodB (row.drop 8) = true
    · rw [if_pos a2]
      exact ⟨fun l e => by cases e; exact a2, fun e => (by cases e), Nat.zero_le _, fun r h => absurd h List.not_mem_nil⟩
    · rw [if_neg a2]
      exact ⟨hlo, hno, h8, hbd⟩
  · rw [if_neg a1]
    cases lo with
    | none => exact ⟨hlo, hno, h8, hbd⟩
    | some l =>
      refine ⟨hlo, fun e => (by cases e), ?_⟩
      show (nxP l ps row).length ≤ 8 ∧ ∀ r ∈ nxP l ps row, r.1.length ≤ 10 ∧ r.2.length ≤ 10
      unfold nxP
      by_cases a2 : preB paL row = true
      · rw [if_pos a2]
        unfold pactP
        cases hk : parts sepL (row.drop 5) with
        | none => exact ⟨h8, hbd⟩
        | some ab =>
          obtain ⟨a, b⟩ := ab
          show (match pairF l a b 10 with | some _ => ps | none => if ps.length = 8 then ps else ps ++ [(rwOut a, rwOut b)]).length ≤ 8 ∧ ∀ r ∈ (match pairF l a b 10 with | some _ => ps | none => if ps.length = 8 then ps else ps ++ [(rwOut a, rwOut b)]), r.1.length ≤ 10 ∧ r.2.length ≤ 10
          cases hk2 : pairF l a b 10 with
          | some k => exact ⟨h8, hbd⟩
          | none =>
            obtain ⟨f1, f2⟩ := pair_none hk2
            show (if ps.length = 8 then ps else ps ++ [(rwOut a, rwOut b)]).length ≤ 8 ∧ ∀ r ∈ (if ps.length = 8 then ps else ps ++ [(rwOut a, rwOut b)]), r.1.length ≤ 10 ∧ r.2.length ≤ 10
            by_cases a3 : ps.length = 8
            · rw [if_pos a3]
              exact ⟨h8, hbd⟩
            · rw [if_neg a3]
              refine ⟨by rw [List.length_append, List.length_singleton]; lia, fun r hr => ?_⟩
              rcases ae.mp hr with hr | hr
              · exact hbd r hr
              · rw [af.mp hr]
                exact ⟨(fault_len f1).1, (fault_len f2).1⟩
      · rw [if_neg a2]
        by_cases a3 : row = drL
        · rw [if_pos a3]
          exact ⟨by rw [List.length_dropLast]; lia, fun r hr => hbd r (List.dropLast_subset _ hr)⟩
        · rw [if_neg a3]
          exact ⟨h8, hbd⟩
theorem nx1 {lo : Option (List Nat)} {ps : List Rule} {row : List Nat} (hp : preB leL row = false) : (nxS lo ps row).1 = lo := by
  unfold nxS
  rw [if_neg (ne_true_of_eq_false hp)]
  cases lo <;> rfl
theorem k2_nx {lo : Option (List Nat)} {ps : List Rule} {row : List Nat} (hno : lo = none → ps = []) (hp : preB paL row = false) : k2 ps row = (nxS lo ps row).2 := by
  unfold k2
  by_cases a1 : preB leL row = true
  · have nd : row ≠ drL := fun e => by rw [e] at a1; exact absurd a1 (by decide)
    rw [if_neg nd]
    unfold k1 nxS
    rw [if_pos a1]
    by_cases a2 : goodB (row.drop 8) = true
    · rw [if_pos ⟨a1, a2⟩, if_pos a2]
    · rw [if_neg (fun z => a2 z.2), if_neg a2]
  · have ek : k1 ps row = ps := if_neg fun z => a1 z.1
    rw [ek]
    unfold nxS
    rw [if_neg a1]
    cases lo with
    | none =>
      rw [hno rfl]
      by_cases a2 : row = drL
      · rw [if_pos a2]
        rfl
      · rw [if_neg a2]
    | some l =>
      show _ = nxP l ps row
      unfold nxP
      rw [if_neg (ne_true_of_eq_false hp)]
theorem k2_pa {ps : List Rule} {row : List Nat} (hp : preB paL row = true) : preB leL row = false ∧ k2 ps row = ps := by
  have hl : preB leL row = false := by
    rw [pre_is hp]
    exact pre_no (show some 112 ≠ some 108 by decide) (by decide)
  have nd : row ≠ drL := fun e => by rw [e] at hp; exact absurd hp (by decide)
  refine ⟨hl, ?_⟩
  unfold k2 k1
  rw [if_neg nd, if_neg (fun z => ne_true_of_eq_false hl z.1)]
structure TI92 (K : PySem.W.Frag) : Prop where
  ss : PySem.W.kitOne K (.type "str") (.type "str") = some true
  ts : PySem.W.kitOne K (.type "tuple") (.type "str") = some false
theorem ans_ref {H : Hp} {v : V} {x : R9} (hx : x ≠ .skip) (ht : ∀ t, x ≠ .text t) (h : AnsAt H v x) : ∃ p vs, v = .ref p ∧ H p = some (.tup vs) := by
  cases x with
  | skip => exact absurd rfl hx
  | text t => exact absurd rfl (ht t)
  | _ => obtain ⟨p, e, h⟩ := h; exact ⟨p, _, e, h⟩
def sp_law (K : PySem.W.Frag) : Sp := fun vs H Q _ => ∃ (a : Addr) (ns : List Int), vs = [.ref a] ∧ SqL K H a (ns.map V.int) ∧ (∀ z ∈ ns, Lt20 z) ∧ ∀ H', Q (.bl true) H'
def LwI (K : PySem.W.Frag) (CD a d sl : Addr) (cs : List V) (σ : L3.St) (H : Hp) : Prop := ∃ (lo : Option (List Nat)) (dr : List Nat) (b : Addr) (ps : List Rule) (v5 v6 v7 : Option V), (goodB dr = true ∧ (∀ l, lo = some l → goodB l = true) ∧ (lo = none → ps = []) ∧ ps.length ≤ 8 ∧ ∀ r ∈ ps, r.1.length ≤ 10 ∧ r.2.length ≤ 10) ∧ Dsk2 K CD d sl cs b lo ps ps H ∧ σ = [some (.ref a), some (.ref d), some (.str (tx dr)), some (.str (tx (lo.getD []))), some (.ref b), v5, v6, v7]
theorem sc_law : FnScope ["_law_script", "_law_desk", "_law_drawn", "_law_letters_here", "_law_pacts", "_law_cell", "_law_row_here", "_law_due_here"] ["_law_script"] (defScope s_law) := ⟨rfl, rfl, rfl, by symm, rfl, by symm, by symm⟩
theorem ok_law {f CD C CN CNW CNP CTM CNR : Addr} {fd : FuncData} (B : Bt mg) (CL : TDsk K mg CD) (TI : TI92 K) (F : Fun K "law" "law" s_law f fd) (D_letters : Df P w K mg base CX0 1 "_law_letters" ["_law_cell", "_law_most"] [] sp_ltr) (D_row : Df P w K mg base CX0 4 "_law_row" ["_law_cell", "_law_letters_here"] [] sp_lrow) (D_due : Df P w K mg base CX0 4 "_law_due" ["_law_letters_here", "_law_pacts", "_law_row_here"] [] (sp_due K)) (D_told : Df P w K mg base CX0 9 "_law_told" ["_law_desk", "_law_row_here"] [] (sp_ltold K CD)) (D_cell_at : Df P w K mg base CX0 1 "_law_cell_at" ["_law_script", "_law_k"] [] (sp_cell K)) (M_desk_init : DMk P w K mg base CX0 1 CD ["self"] (sp_dinit K CD)) (M_desk_told : DM P w K mg base (CXx P w) 8 CD "told" ["self", "row"] (sp_told K CD C CN CNW CNP CTM CNR)) : FnOk P w K mg base CX0 10 f fd ["_law_script"] (sp_law K) := by
  refine F.ok sc_law (fun vs H Q E h => ?_) (fun cdv A outer s H vs Q E hr h => ?_)
  · obtain ⟨a, ns, rfl, _⟩ := h
    rfl
  · obtain ⟨a, ns, rfl, hS, hB, q⟩ := h
    refine ⟨_, (pss_cut (ps_set (i := 1) sc_law.nd rfl (.inl rfl) (mkC0 M_desk_init hr rfl CL.g))
      (pss_cut (ps_set (i := 2) sc_law.nd rfl (.inl rfl) (cl0 D_letters hr .nil rfl (pa_cons (pe_op op_fdiv (cl0 D_cell_at hr .nil rfl (pa_cons (pv 0) (pa_cons pe_int pa_nil))) pe_int) (pa_cons pe_int pa_nil))))
      (pss_cut (ps_set (i := 3) sc_law.nd rfl (.inl rfl) pe_str)
      (pss_cut (ps_if (pt_cmpR op_ne (pe_op op_mod (cl0 D_cell_at hr .nil rfl (pa_cons (pv 0) (pa_cons pe_int pa_nil))) pe_int) pe_int (nomark _))
        (pss_cut (ps_set (i := 3) sc_law.nd rfl (.inl rfl) (pv 2))
        (pss_one (ps_if (pt_cmpR op_ne (me1x xe0 M_desk_told CL.cl hr (pv 1) (pa_cons (pe_op op_add_str pe_str (pv 2)) pa_nil)) (pe_op op_add_str pe_str (pv 2)) (nomark _))
          (pss_one (ps_ret pe_bl))
          pss_nil)))
        pss_nil)
      (pss_cut (ps_set (i := 4) sc_law.nd rfl (.inl rfl) (pe_lst pa_nil))
      (pss_cut (ps_for PassesOwn.never rfl (pi_list (pe_slice sl_list (pv 0) (po_some pe_int) (po_some pe_int))) (pg_name (i := 5) sc_law.nd rfl (.inl rfl))
        (pss_cut (ps_set (i := 6) sc_law.nd rfl (.inl rfl) (cl0 D_row hr .nil rfl (pa_cons (pv 5) (pa_cons (pv 2) pa_nil))))
        (pss_cut (ps_set (i := 7) sc_law.nd rfl (.inl rfl) (cl0 D_due hr .nil rfl (pa_cons (pv 3) (pa_cons (pv 4) (pa_cons (pv 6) pa_nil)))))
        (pss_one (ps_if (pt_cmpR op_notN' (pv 7) pe_non (nomark _))
          (pss_cut (ps_if (pt_cmpR (op_ne.or (op_neL (room100 hr))) (cl0 D_told hr .nil rfl (pa_cons (pv 1) (pa_cons (pv 6) pa_nil))) (pv 7) (nomark _))
            (pss_one (ps_ret pe_bl))
            pss_nil)
          (pss_cut (ps_if (PW.pt (pw_and (pt_bl (pe_bm PySem.F.plainAttrs_str PySem.F.slot_str_startswith PySem.F.type_str_startswith m_starts (pv 6) (pa_cons pe_str pa_nil)) (fun _ => rfl)) (pw_and1 (pt_cmpR (op_eq.or (op_eqTS (room100 hr))) (pv 7) (pv 6) (nomark _)))))
            (pss_cut (ps_set (i := 3) sc_law.nd rfl (.inl rfl) (pe_slice sl_str (pv 6) (po_some pe_int) po_none))
            (pss_cut (ps_set (i := 2) sc_law.nd rfl (.inl rfl) (pv 3))
            (pss_one (ps_set (i := 4) sc_law.nd rfl (.inl rfl) (pe_lst pa_nil)))))
            pss_nil)
          (pss_cut (ps_if (pt_cmpR op_eq (pv 6) pe_str (nomark _))
            (pss_one (ps_set (i := 4) sc_law.nd rfl (.inl rfl) (pe_slice sl_list (pv 4) po_none (po_some (pe_un un_neg pe_int)))))
            pss_nil)
          (pss_one (ps_if (PW.pt (pw_and (pt_bl (pe_bm PySem.F.plainAttrs_str PySem.F.slot_str_startswith PySem.F.type_str_startswith m_starts (pv 6) (pa_cons pe_str pa_nil)) (fun _ => rfl)) (pw_and1 (pt_bl (pe_isiB rfl B.isi (pv 7) rfl B.str PySem.Pv.boot_str) (fun _ => rfl)))))
            (pss_one (ps_expr (pe_bm PySem.F.plainAttrs_list PySem.F.slot_list_append PySem.F.type_list_append mt_append (pv 4) (pa_cons (pv 6) pa_nil))))
            pss_nil)))))
          pss_nil)))))
      (pss_cut (ps_while PassesOwn.never (pt_cmpR op_gt (pe_callB c_len rfl B.len PySem.boot_len (pa_cons (pv 4) pa_nil)) pe_int (nomark _))
        (pss_one (ps_if (pt_cmpR op_ne (cl0 D_told hr .nil rfl (pa_cons (pv 1) (pa_cons pe_str pa_nil))) (pe_bm0 PySem.F.plainAttrs_list PySem.F.slot_list_pop PySem.F.type_list_pop mt_pop (pv 4)) (nomark _))
          (pss_one (ps_ret pe_bl))
          pss_nil)))
      (pss_one (ps_ret (pe_cmpR (op_eqL (room100 hr)) (cl0 D_told hr .nil rfl (pa_cons (pv 1) (pa_cons pe_str pa_nil))) (pe_tup (pa_cons pe_str pa_nil)) (nomark _))))))))))), ?_⟩
    have s16 := sl16
    have s16 := sl16
    have e00 : (("" : Str)) = tx [] := rfl
    simp only [le_txt, pa_txt, dr_txt, e00]
    refine cut_by (fun σ H' => Same H H' ∧ ∃ d pl : Addr, H d = none ∧ H pl = none ∧ DeskAt K CD H' d none pl [] ∧ σ = [some (.ref a), some (.ref d), none, none, none, none, none, none]) ?_ ?_
    · repeat (first | rfl' | simp only [tAlt, tMethF, rd_cz, tRev, rSum, rIndex])
      intro x dx hx hdx hne
      refine ⟨x, dx, rfl, upd_same, fun pl H' k hn hD => ⟨rfl, fun c o e => k c o (ne_of_none e hx) (by rw [upd_ne (ne_of_none e hx), upd_ne (ne_of_none e hdx)]; exact e), x, hx, pl, ?_, hD, rfl⟩⟩
      cases e : H pl with
      | none => rfl
      | some o =>
        rw [upd_ne (ne_of_none e hx), upd_ne (ne_of_none e hdx), e] at hn
        cases hn
    rintro σ H1 ⟨s1, d, pl, hd0, hp0, hd, rfl⟩
    refine cut_by (fun σ H' => Same H1 H' ∧ ∃ l : List Nat, goodB l = true ∧ σ = [some (.ref a), some (.ref d), some (.str (tx l)), none, none, none, none, none]) ?_ ?_
    · repeat (first | rfl' | simp only [tAlt, tMethF, rd_cz, tRev, rSum, rIndex])
      exact use_cell (s1.seq hS) hB (by decide) fun c _ => ⟨c, rfl, ⟨by decide, by decide⟩, _, rfl, fun l H' g' s' => ⟨s', l, g', rfl⟩⟩
    rintro σ H2 ⟨s2, l, hg, rfl⟩
    have hd2 := hd.same s2
    refine cut_by (fun σ H' => H' = H2 ∧ σ = [some (.ref a), some (.ref d), some (.str (tx l)), some (.str (tx [])), none, none, none, none]) ?_ ?_
    · repeat (first | rfl' | simp only [tAlt, tMethF, rd_cz, tRev, rSum, rIndex])
    rintro σ H2' ⟨rfl, rfl⟩
    refine cut_by (fun σ H' => Same H H' ∧ ∃ (lo : Option (List Nat)) (pl' : Addr), (∀ l, lo = some l → goodB l = true) ∧ DeskAt K CD H' d lo pl' [] ∧ σ = [some (.ref a), some (.ref d), some (.str (tx l)), some (.str (tx (lo.getD []))), none, none, none, none]) ?_ ?_
    · repeat (first | rfl' | simp only [tAlt, tMethF, rd_cz, tRev, rSum, rIndex])
      refine use_cell ((s1.trans s2).seq hS) hB (by decide) fun c _ => ⟨c, rfl, by decide, ite2 (fun _ => ?_) fun _ => ?_⟩
      · refine cut_by (fun σ H' => H' = H2' ∧ σ = [some (.ref a), some (.ref d), some (.str (tx l)), some (.str (tx l)), none, none, none, none]) ?_ ?_
        · repeat (first | rfl' | simp only [tAlt, tMethF, rd_cz, tRev, rSum, rIndex])
        rintro σ H3 ⟨rfl, rfl⟩
        repeat (first | rfl' | simp only [tAlt, tMethF, rd_cz, tRev, rSum, rIndex])
        obtain ⟨dx, vo, hdd, _⟩ := id hd2
        have h8' : leL.length = 8 := rfl
        have l6 := (of_decide_eq_true hg).2.1
        have e0 : (leL ++ l).drop 8 = l := List.drop_left (l₁ := leL) (l₂ := l)
        have e1 : dueF none [] (leL ++ l) = .text (leL ++ l) := by
          unfold dueF
          rw [if_pos (pre_yes _ _), e0, if_pos hg]
        have e2 : nxS none [] (leL ++ l) = (some l, []) := by
          unfold nxS
          rw [if_pos (pre_yes _ _), e0, if_pos hg]
        refine ⟨dx, _, hdd, rfl, by lia, d, pl, [], none, leL ++ l, rfl, hd2, by rw [List.length_append]; lia, fun r h => absurd h List.not_mem_nil, by decide, ?_⟩
        rw [e1, e2]
        intro pl' H' kp hpl hD
        exact ⟨by lia, rfl, ite2 (fun h => absurd rfl h) fun _ => ⟨fun c o e => kp c o (ne_of_none e hd0) (ne_of_none e hp0) (s2 _ _ (s1 _ _ e)), some l, fun l' e => by cases e; exact hg, ⟨pl', hD⟩, rfl⟩⟩
      · exact ⟨s1.trans s2, none, fun l e => (by cases e), ⟨pl, hd2⟩, rfl⟩
    rintro σ H3 ⟨k3, lo, pl', hlo, hd3, rfl⟩
    refine cut_by (fun σ H' => Same H3 H' ∧ ∃ b : Addr, H3 b = none ∧ H' b = some (.lst (rowsV [])) ∧ σ = [some (.ref a), some (.ref d), some (.str (tx l)), some (.str (tx (lo.getD []))), some (.ref b), none, none, none]) ?_ ?_
    · repeat (first | rfl' | simp only [tAlt, tMethF, rd_cz, tRev, rSum, rIndex])
      exact ⟨by lia, fun p hp => ⟨same_upd hp, p, hp, upd_same, rfl⟩⟩
    rintro σ H4 ⟨s4, b, hb0, hb, rfl⟩
    refine cut_by (fun σ H' => ∃ (sl : Addr) (cs : List V), LwI K CD a d sl cs σ H') ?_ ?_
    · repeat (first | rfl' | simp only [tAlt, tMethF, rd_cz, tRev, rSum, rIndex])
      refine ⟨_, (k3.trans s4).seq hS, fun p hp => ?_⟩
      rw [cutV_ints ns (by decide) (by decide)]
      generalize hms : (ns.drop (1 : Int).toNat).take ((63 : Int) - 1).toNat = ms
      clear hms
      refine ⟨⟨_, SqL.of upd_same⟩, ForL.by (xs := ms.map V.int) (fun i σ H' => LwI K CD a d p (ms.map V.int) σ H') ?_ ?_ ?_ ?_⟩
      · have s5 := same_upd (o := HO.lst (ms.map V.int)) hp
        obtain ⟨dx, vo, hdd, ⟨qs, hpp, _⟩, _⟩ := id hd3
        exact ⟨lo, l, b, [], none, none, none, ⟨hg, hlo, fun _ => rfl, by decide, fun r h => absurd h List.not_mem_nil⟩, ⟨pl', (hd3.same s4).same s5, (ne_of_none hpp hb0).symm, s5 _ _ hb, (ne_of_none (s4 _ _ hpp) hp).symm, (ne_of_none hb hp).symm, upd_same⟩, rfl⟩
      · rintro i σ H' _ ⟨lo, dr, b, ps, v5, v6, v7, _, ⟨pl, _, _, _, _, _, h⟩, _⟩
        exact SqL.of h
      · rintro i x σ H' hx ⟨lo, dr, b, ps, v5, v6, v7, ⟨hg, hlo, hno, h8, hbd⟩, hD, rfl⟩
        rw [List.getElem?_map] at hx
        obtain ⟨c, hc, rfl⟩ := aj.mp hx
        simp only [gName, List.set_cons_succ, List.set_cons_zero]
        refine cut_by (fun σ H'' => ∃ (row : List Nat), row.length ≤ 500 ∧ Dsk2 K CD d p (ms.map V.int) b lo ps ps H'' ∧ σ = [some (.ref a), some (.ref d), some (.str (tx dr)), some (.str (tx (lo.getD []))), some (.ref b), some (.int c), some (.str (tx row)), v7]) ?_ ?_
        · repeat (first | rfl' | simp only [tAlt, tMethF, rd_cz, tRev, rSum, rIndex])
          exact ⟨c, dr, rfl, hg, fun row H'' s hr => ⟨row, hr, hD.same s, rfl⟩⟩
        rintro σ H1 ⟨row, hrl, hD1, rfl⟩
        refine cut_by (fun σ H'' => Dsk2 K CD d p (ms.map V.int) b lo ps ps H'' ∧ ∃ v : V, AnsAt H'' v (dueF lo ps row) ∧ σ = [some (.ref a), some (.ref d), some (.str (tx dr)), some (.str (tx (lo.getD []))), some (.ref b), some (.int c), some (.str (tx row)), some (v)]) ?_ ?_
        · repeat (first | rfl' | simp only [tAlt, tMethF, rd_cz, tRev, rSum, rIndex])
          obtain ⟨_, _, _, hb1, _⟩ := id hD1
          exact ⟨lo, b, ps, row, rfl, hlo, hb1, by lia, h8, fun v H'' s ha => ⟨hD1.same s, ha⟩⟩
        rintro σ H2 ⟨hD2, v, hv, rfl⟩
        by_cases hns : dueF lo ps row = .skip
        · rw [hns] at hv
          obtain rfl : v = .non := hv
          repeat (first | rfl' | simp only [tAlt, tMethF, rd_cz, tRev, rSum, rIndex])
          rw [if_neg (not_not_intro trivial)]
          exact ⟨lo, dr, b, ps, _, _, _, ⟨hg, hlo, hno, h8, hbd⟩, hD2, rfl⟩
        · have hvn : v ≠ .non := ans_nn hns hv
          refine if_notN (i := 7) rfl hvn ?_
          refine cut_by (fun σ H'' => (Dsk2 K CD d p (ms.map V.int) b (nxS lo ps row).1 (nxS lo ps row).2 ps H'' ∧ AnsAt H'' v (dueF lo ps row)) ∧ σ = [some (.ref a), some (.ref d), some (.str (tx dr)), some (.str (tx (lo.getD []))), some (.ref b), some (.int c), some (.str (tx row)), some (v)]) ?_ ?_
          · repeat (first | rfl' | simp only [tAlt, tMethF, rd_cz, tRev, rSum, rIndex])
            refine told_step hD2 (by lia) h8 hbd hns fun v2 H3 hk ha hD3 => ?_
            exact ans_ne2 (R := fun H => Q (.bl false) H) (S := fun H => Dsk2 K CD d p (ms.map V.int) b (nxS lo ps row).1 (nxS lo ps row).2 ps H ∧ AnsAt H v (dueF lo ps row)) hns ha (hk v _ hv) ⟨hD3, hk v _ hv⟩
          rintro σ H3 ⟨⟨hD3, hv3⟩, rfl⟩
          refine cut_by (fun σ H'' => ∃ (dr' : List Nat) (b' : Addr), (goodB dr' = true ∧ Dsk2 K CD d p (ms.map V.int) b' (nxS lo ps row).1 (nxS lo ps row).2 (k1 ps row) H'' ∧ AnsAt H'' v (dueF lo ps row)) ∧ σ = [some (.ref a), some (.ref d), some (.str (tx dr')), some (.str (tx ((nxS lo ps row).1.getD []))), some (.ref b'), some (.int c), some (.str (tx row)), some (v)]) ?_ ?_
          · repeat (first | rfl' | simp only [tAlt, tMethF, rd_cz, tRev, rSum, rIndex])
            refine ⟨row, leL, rfl, rfl, _, rfl, ?_⟩
            cases hp : preB leL row with
            | false =>
              rw [if_neg Bool.false_ne_true]
              have ek : k1 ps row = ps := if_neg fun z => ne_true_of_eq_false hp z.1
              rw [ek, nx1 hp]
              rw [nx1 hp] at hD3
              exact ⟨dr, hg, b, hD3, hv3, rfl, rfl, rfl⟩
            | true =>
              rw [if_pos rfl]
              by_cases hgd : goodB (row.drop 8) = true
              · have ed : dueF lo ps row = .text row := by
                  unfold dueF
                  rw [if_pos hp, if_pos hgd]
                have en : nxS lo ps row = (some (row.drop 8), []) := by
                  unfold nxS
                  rw [if_pos hp, if_pos hgd]
                have ek : k1 ps row = [] := if_pos ⟨hp, hgd⟩
                rw [en] at hD3 ⊢
                rw [ed] at hv3 ⊢
                rw [ek]
                obtain rfl : v = .str (tx row) := hv3
                refine .inl ⟨rfl, ite2 (fun _ => ?_) fun h => absurd rfl h⟩
                refine cut_by (fun σ H'' => H'' = H3 ∧ σ = [some (.ref a), some (.ref d), some (.str (tx dr)), some (.str (tx (row.drop 8))), some (.ref b), some (.int c), some (.str (tx row)), some (.str (tx row))]) ?_ ?_
                · repeat (first | rfl' | simp only [tAlt, tMethF, rd_cz, tRev, rSum, rIndex])
                  rw [cut_from _ (by decide)]
                  exact ⟨by lia, rfl⟩
                rintro σ H4 ⟨rfl, rfl⟩
                refine cut_by (fun σ H'' => H'' = H4 ∧ σ = [some (.ref a), some (.ref d), some (.str (tx (row.drop 8))), some (.str (tx (row.drop 8))), some (.ref b), some (.int c), some (.str (tx row)), some (.str (tx row))]) ?_ ?_
                · repeat (first | rfl' | simp only [tAlt, tMethF, rd_cz, tRev, rSum, rIndex])
                rintro σ H5 ⟨rfl, rfl⟩
                repeat (first | rfl' | simp only [tAlt, tMethF, rd_cz, tRev, rSum, rIndex])
                exact ⟨by lia, fun p1 hp1 => ⟨row.drop 8, hgd, p1, hD3.new (ks' := []) hp1, rfl, rfl, rfl, rfl⟩⟩
              · have ed : dueF lo ps row = .noLetters := by
                  unfold dueF
                  rw [if_pos hp, if_neg hgd]
                have en : nxS lo ps row = (lo, ps) := by
                  unfold nxS
                  rw [if_pos hp, if_neg hgd]
                have ek : k1 ps row = ps := if_neg fun z => hgd z.2
                rw [en] at hD3 ⊢
                rw [ek]
                obtain ⟨q', e', hq'⟩ : ∃ q', v = .ref q' ∧ H3 q' = some (.tup [.str "NoLetters"]) := by
                  rw [ed] at hv3
                  exact hv3
                subst e'
                refine .inr ⟨q', rfl, ⟨_, SqT.of hq'⟩, ?_⟩
                exact ⟨dr, hg, b, hD3, hv3, rfl, rfl, rfl⟩
          rintro σ H4 ⟨dr', b', ⟨hg', hD4, hv4⟩, rfl⟩
          refine cut_by (fun σ H'' => ∃ (b' : Addr), (Dsk2 K CD d p (ms.map V.int) b' (nxS lo ps row).1 (nxS lo ps row).2 (k2 ps row) H'' ∧ AnsAt H'' v (dueF lo ps row)) ∧ σ = [some (.ref a), some (.ref d), some (.str (tx dr')), some (.str (tx ((nxS lo ps row).1.getD []))), some (.ref b'), some (.int c), some (.str (tx row)), some (v)]) ?_ ?_
          · repeat (first | rfl' | simp only [tAlt, tMethF, rd_cz, tRev, rSum, rIndex])
            obtain ⟨_, _, _, hb4, _⟩ := id hD4
            refine ite2 (fun h => ⟨_, SqL.of hb4, fun p1 hp1 => ⟨p1, ?_, ?_, rfl⟩⟩) fun h => ⟨b', ?_, hv4, rfl⟩
            · rw [cutV_last, show (rowsV (k1 ps row)).dropLast = rowsV (k1 ps row).dropLast by unfold rowsV; rw [List.map_dropLast, List.map_dropLast], show k2 ps row = (k1 ps row).dropLast from if_pos h]
              exact hD4.new hp1
            · exact hv4.same (same_upd hp1)
            · rw [show k2 ps row = k1 ps row from if_neg h]
              exact hD4
          rintro σ H5 ⟨b'', ⟨hD5, hv5⟩, rfl⟩
          repeat (first | rfl' | simp only [tAlt, tMethF, rd_cz, tRev, rSum, rIndex])
          obtain ⟨i1, i2, i3, i4⟩ := nx_inv (row := row) hlo hno h8 hbd
          refine ⟨row, paL, rfl, rfl, _, rfl, ?_⟩
          cases hp : preB paL row with
          | false =>
            rw [if_neg Bool.false_ne_true]
            rw [k2_nx hno hp] at hD5
            exact ⟨_, dr', b'', _, _, _, _, ⟨hg', i1, i2, i3, i4⟩, hD5, rfl⟩
          | true =>
            rw [if_pos rfl]
            obtain ⟨hpl, ek⟩ := k2_pa (ps := ps) hp
            rw [ek] at hD5
            by_cases ht : ∃ t, dueF lo ps row = .text t
            · obtain ⟨t, ht⟩ := ht
              rw [ht] at hv5
              obtain rfl : v = .str (tx t) := hv5
              refine ⟨_, .inl (.str _), true, TI.ss, iteT ?_⟩
              cases lo with
              | none =>
                have : dueF none ps row = .noRow := by
                  unfold dueF
                  rw [if_neg (ne_true_of_eq_false hpl)]
                rw [this] at ht
                cases ht
              | some l' =>
                have ed : dueF (some l') ps row = pactR l' ps (row.drop 5) := by
                  unfold dueF
                  rw [if_neg (ne_true_of_eq_false hpl)]
                  show dueS l' ps row = _
                  unfold dueS
                  rw [if_pos hp]
                rw [ed] at ht
                unfold pactR at ht
                cases hk : parts sepL (row.drop 5) with
                | none => rw [hk] at ht; cases ht
                | some xy =>
                  obtain ⟨x, y⟩ := xy
                  rw [hk] at ht
                  replace ht : (match pairF l' x y 10 with | some k => R9.noWord k | none => if ps.length = 8 then .tooMany else .text (paL ++ dec ps.length)) = .text t := ht
                  cases hk2 : pairF l' x y 10 with
                  | some k => rw [hk2] at ht; cases ht
                  | none =>
                    rw [hk2] at ht
                    replace ht : (if ps.length = 8 then R9.tooMany else .text (paL ++ dec ps.length)) = .text t := ht
                    by_cases a3 : ps.length = 8
                    · rw [if_pos a3] at ht
                      cases ht
                    · have en : nxS (some l') ps row = (some l', ps ++ [(rwOut x, rwOut y)]) := by
                        unfold nxS
                        rw [if_neg (ne_true_of_eq_false hpl)]
                        show (some l', nxP l' ps row) = _
                        unfold nxP pactP
                        rw [if_pos hp, hk]
                        show (some l', match pairF l' x y 10 with | some _ => ps | none => if ps.length = 8 then ps else ps ++ [(rwOut x, rwOut y)]) = _
                        rw [hk2]
                        show (some l', if ps.length = 8 then ps else ps ++ [(rwOut x, rwOut y)]) = _
                        rw [if_neg a3]
                      rw [en] at hD5 i1 i2 i3 i4 ⊢
                      obtain ⟨_, _, _, hb5, _⟩ := id hD5
                      refine ⟨.inl ⟨_, SqL.of hb5⟩, _, hb5, by rw [rows_len]; lia, ?_⟩
                      have er := pact_row hp hk hk2
                      have e2 : rowsV ps ++ [V.str (tx row)] = rowsV (ps ++ [(rwOut x, rwOut y)]) := by
                        unfold rowsV
                        rw [List.map_append, List.map_append, List.map_singleton, List.map_singleton, ← er]
                      rw [e2]
                      exact ⟨_, dr', b'', _, _, _, _, ⟨hg', i1, i2, i3, i4⟩, hD5.put, rfl⟩
            · have hnt : ∀ t, dueF lo ps row ≠ .text t := fun t e => ht ⟨t, e⟩
              have en := nx_ref hnt
              obtain ⟨q', vs, e', hq'⟩ := ans_ref hns hnt hv5
              subst e'
              refine ⟨_, .inr (.inr (.inr ⟨q', _, rfl, rfl, SqT.of hq'⟩)), false, TI.ts, iteF ?_⟩
              rw [en] at hD5 ⊢
              exact ⟨lo, dr', b'', ps, _, _, _, ⟨hg', hlo, hno, h8, hbd⟩, hD5, rfl⟩
      · rintro σ H' h
        exact ⟨p, _, h⟩
    rintro σ H5 ⟨sl, cs, lo5, dr5, b5, ps5, v5, v6, v7, ⟨hg5, hlo5, hno5, h85, hbd5⟩, hD5, rfl⟩
    refine cut_by (fun σ H' => ∃ (lo : Option (List Nat)) (dr : List Nat) (b : Addr) (v5 v6 v7 : Option V), Dsk2 K CD d sl cs b lo [] [] H' ∧ σ = [some (.ref a), some (.ref d), some (.str (tx dr)), some (.str (tx (lo.getD []))), some (.ref b), v5, v6, v7]) ?_ ?_
    · unfold tWhile
      refine ⟨fun m σ H' => ∃ ps : List Rule, ps.length = m ∧ (lo5 = none → ps = []) ∧ ps.length ≤ 8 ∧ (∀ r ∈ ps, r.1.length ≤ 10 ∧ r.2.length ≤ 10) ∧ Dsk2 K CD d sl cs b5 lo5 ps ps H' ∧ σ = [some (.ref a), some (.ref d), some (.str (tx dr5)), some (.str (tx (lo5.getD []))), some (.ref b5), v5, v6, v7], ⟨_, ps5, rfl, hno5, h85, hbd5, hD5, rfl⟩, ?_⟩
      rintro m σ H' ⟨ps, rfl, hno, h8, hbd, hD, rfl⟩
      obtain ⟨pl6, hq1, hq2, hq3, _⟩ := id hD
      repeat (first | rfl' | simp only [tAlt, tMethF, rd_cz, tRev, rSum, rIndex])
      refine ⟨_, .inl ⟨_, SqL.of hq3, rfl⟩, ?_⟩
      rw [rows_len]
      refine ite2 (fun hpos => ?_) fun hn => ?_
      · have hne : ps ≠ [] := fun e => by rw [e] at hpos; exact absurd hpos (by decide)
        obtain ⟨ps', r, rfl⟩ : ∃ ps' r, ps = ps' ++ [r] := ⟨ps.dropLast, ps.getLast hne, (List.dropLast_concat_getLast hne).symm⟩
        cases lo5 with
        | none => exact absurd (hno rfl) hne
        | some l5 =>
          have e2 : rowsV (ps' ++ [r]) = rowsV ps' ++ [V.str (tx (shR r))] := by
            unfold rowsV
            rw [List.map_append, List.map_append]
            rfl
          have ed : dueF (some l5) (ps' ++ [r]) drL = .text (shR r) := by
            show dropR (ps' ++ [r]) = _
            unfold dropR
            rw [List.getLast?_concat]
          have en : nxS (some l5) (ps' ++ [r]) drL = (some l5, ps') := by
            show (some l5, (ps' ++ [r]).dropLast) = _
            rw [List.dropLast_concat]
          have hl9 : ps'.length + 1 ≤ 8 := by rw [List.length_append, List.length_singleton] at h8; exact h8
          refine ⟨fun σ' H' => Dsk2 K CD d sl cs b5 (some l5) ps' ps' H' ∧ σ' = [some (.ref a), some (.ref d), some (.str (tx dr5)), some (.str (tx ((some l5).getD []))), some (.ref b5), v5, v6, v7], ?_, told_step hD (by decide) h8 hbd (by rw [ed]; exact fun e => by cases e) fun v H2 _ ha hD2 => ?_⟩
          · rintro σ' H2 ⟨h, rfl⟩
            exact ⟨_, by rw [List.length_append, List.length_singleton]; exact Nat.lt_succ_self _, ps', rfl, fun e => (by cases e), by lia, fun r hr => hbd r (List.mem_append_left _ hr), h, rfl⟩
          · rw [ed] at ha
            rw [en] at hD2
            obtain rfl : v = .str (tx (shR r)) := ha
            obtain ⟨_, _, _, hb2, _⟩ := id hD2
            refine ⟨.inl ⟨_, SqL.of hb2⟩, b5, _, .str (tx (shR r)), rfl, rfl, hb2, by rw [e2]; simp, rfl, ite2 (fun h => absurd rfl h) fun _ => ⟨?_, rfl⟩⟩
            have e3 : (rowsV (ps' ++ [r])).dropLast = rowsV ps' := by rw [e2, List.dropLast_concat]
            rw [e3]
            exact hD2.put (ks' := ps')
      · have hz : ps = [] := List.eq_nil_of_length_eq_zero (by lia)
        subst hz
        exact ⟨lo5, dr5, b5, hD, rfl, rfl, rfl⟩
    rintro σ H6 ⟨lo6, dr6, b6, v5, v6, v7, hD, rfl⟩
    repeat (first | rfl' | simp only [tAlt, tMethF, rd_cz, tRev, rSum, rIndex])
    have hdn : dueF lo6 [] drL = .noRow := by cases lo6 <;> rfl
    refine told_step hD (by decide) (by decide) (fun r h => absurd h List.not_mem_nil) (by rw [hdn]; exact fun e => by cases e) fun v H' _ ha _ => ?_
    rw [hdn] at ha
    obtain ⟨p, rfl, hp⟩ := ha
    refine ⟨by lia, fun p' hp' => ⟨[.str "NoRow"], [.str "NoRow"], .inr ⟨?_, ?_⟩, by simp [dpDs, dpD], by simp [eqDs, eqD]; exact q _⟩⟩
    · simp only [Is, Iss]
      exact ⟨p, _, rfl, SqT.of (same_upd hp' _ _ hp), _, _, rfl, rfl, rfl⟩
    · simp only [Is, Iss]
      exact ⟨p', _, rfl, SqT.of upd_same, _, _, rfl, rfl, rfl⟩
end
def FnE (K : PySem.W.Frag) (x q : Str) (st : Stmt) (f : Addr) : Prop := ∃ fd, Fun K x q st f fd
def FnA (K : PySem.W.Frag) (x : Str) (st : Stmt) (f : Addr) : Prop := PySem.W.nsIn K mainGlobals x = some (some (.ref f)) ∧ FnE K x x st f
theorem FnA.mk {K : PySem.W.Frag} {x : Str} {st : Stmt} {f : Addr} {h : Heap} {mg : Str → Option Value} (q : FnA K x st f) (X : K.In h) (G : h.Ns mainGlobals mg) : mg x = some (.ref f) ∧ PySem.W.keepIn K (.ref f) = true ∧ FnE K x x st f := by
  obtain ⟨a, fd, F⟩ := q
  exact ⟨PySem.W.mg_of X G a, F.kp, fd, F⟩
theorem len1 {us : List Value} (h : us.length = 1) : ∃ a, us = [a] := List.length_eq_one_iff.mp h
theorem len2 {us : List Value} (h : us.length = 2) : ∃ a0 a1, us = [a0, a1] := by
  cases us with
  | nil => cases h
  | cons a r =>
    obtain ⟨a1, rfl⟩ := len1 (Nat.succ.inj h)
    exact ⟨a, a1, rfl⟩
theorem len3 {us : List Value} (h : us.length = 3) : ∃ a0 a1 a2, us = [a0, a1, a2] := by
  cases us with
  | nil => cases h
  | cons a r =>
    obtain ⟨a1, a2, rfl⟩ := len2 (Nat.succ.inj h)
    exact ⟨a, a1, a2, rfl⟩
theorem len4 {us : List Value} (h : us.length = 4) : ∃ a0 a1 a2 a3, us = [a0, a1, a2, a3] := by
  cases us with
  | nil => cases h
  | cons a r =>
    obtain ⟨a1, a2, a3, rfl⟩ := len3 (Nat.succ.inj h)
    exact ⟨a, a1, a2, a3, rfl⟩
theorem len5 {us : List Value} (h : us.length = 5) : ∃ a0 a1 a2 a3 a4, us = [a0, a1, a2, a3, a4] := by
  cases us with
  | nil => cases h
  | cons a r =>
    obtain ⟨a1, a2, a3, a4, rfl⟩ := len4 (Nat.succ.inj h)
    exact ⟨a, a1, a2, a3, a4, rfl⟩
theorem len6 {us : List Value} (h : us.length = 6) : ∃ a0 a1 a2 a3 a4 a5, us = [a0, a1, a2, a3, a4, a5] := by
  cases us with
  | nil => cases h
  | cons a r =>
    obtain ⟨a1, a2, a3, a4, a5, rfl⟩ := len5 (Nat.succ.inj h)
    exact ⟨a, a1, a2, a3, a4, a5, rfl⟩
theorem len7 {us : List Value} (h : us.length = 7) : ∃ a0 a1 a2 a3 a4 a5 a6, us = [a0, a1, a2, a3, a4, a5, a6] := by
  cases us with
  | nil => cases h
  | cons a r =>
    obtain ⟨a1, a2, a3, a4, a5, a6, rfl⟩ := len6 (Nat.succ.inj h)
    exact ⟨a, a1, a2, a3, a4, a5, a6, rfl⟩
theorem all_mk {l : PySem.W.OpenLaw} {w : World} {K : PySem.W.Frag} {h : Heap} {mg : Str → Option Value} {fa f0 f1 f2 f3 f4 f5 f6 f7 f8 f9 f10 f11 f12 f13 f14 f15 f16 f17 f18 f19 f20 f21 f22 f23 f24 f25 f26 f27 f28 f29 f30 f31 c_NoLetters c_NoOrder c_Order c_FromRight c_ByWeights c_NoWord c_NoPact c_NoRow c_TooMany c_Desk : Addr} (X : K.In h) (G : h.Ns mainGlobals mg) (hfa : mg "law" = some (.ref fa))
    {od2 an2 : Option Addr} {sl2 : Array (Option Value)} {oc2 kV2 dc2 pm2 cd2 ct2 : Value}
    {od3 an3 : Option Addr} {sl3 : Array (Option Value)} {oc3 kV3 dc3 pm3 cd3 ct3 : Value}
    {od4 an4 : Option Addr} {sl4 : Array (Option Value)} {oc4 kV4 dc4 pm4 cd4 ct4 : Value}
    {od31 an31 : Option Addr} {sl31 : Array (Option Value)} {oc31 kV31 dc31 pm31 cd31 ct31 : Value}
    {t6 t7 : Tok}
    {tE tB tF m7 tLe tWe tPa tFo tAs m8 m10 m20 mR3 : Tok}
    {fW : Addr}
    {odW anW : Option Addr}
    {slW : Array (Option Value)}
    {ocW kVW dcW pmW cdW ctW : Value}
    {fm_order_init : Addr}
    {fm_byweights_init : Addr}
    {fm_desk_init : Addr}
    {fm_desk_begun : Addr}
    {fm_desk_ordered : Addr}
    {fm_desk_agreed : Addr}
    {fm_desk_dropped : Addr}
    {fm_desk_completion : Addr}
    {fm_desk_formed : Addr}
    {fm_desk_asked : Addr}
    {fm_desk_told : Addr}
    {dv_word_of : Addr}
    {dt_word_of : Tok}
    {d1_word_of : Value}
    {d2_word_of : Option Addr}
    {d3_word_of : Nat}
    {d4_word_of : Array (Option Value)}
    {dv_read_word : Addr}
    {dt_read_word : Tok}
    {d1_read_word : Value}
    {d2_read_word : Option Addr}
    {d3_read_word : Nat}
    {d4_read_word : Array (Option Value)}
    {dv_read_pact : Addr}
    {dt_read_pact : Tok}
    {d1_read_pact : Value}
    {d2_read_pact : Option Addr}
    {d3_read_pact : Nat}
    {d4_read_pact : Array (Option Value)}
    (a0 : FnA K "is_small_letter" s_is_small_letter f0)
    (a1 : FnA K "letters_of" s_letters_of f1)
    (a2 : PySem.W.nsIn K mainGlobals "word_of" = some (some (.ref f2))) (l2 : K.lookup f2 = some ⟨oc2, od2, .func (PySem.W.fnOf "word_of" "word_of" (defArgs s_word_of) (defBody s_word_of) (defScope s_word_of) (.ref dv_word_of) kV2 dc2 pm2 an2 cd2 ct2), sl2⟩) (k2 : PySem.W.codeIn K cd2 "word_of" = true) (p2 : PySem.W.keepIn K (.ref f2) = true)
    (a3 : PySem.W.nsIn K mainGlobals "read_word" = some (some (.ref f3))) (l3 : K.lookup f3 = some ⟨oc3, od3, .func (PySem.W.fnOf "read_word" "read_word" (defArgs s_read_word) (defBody s_read_word) (defScope s_read_word) (.ref dv_read_word) kV3 dc3 pm3 an3 cd3 ct3), sl3⟩) (k3 : PySem.W.codeIn K cd3 "read_word" = true) (p3 : PySem.W.keepIn K (.ref f3) = true)
    (a4 : PySem.W.nsIn K mainGlobals "read_pact" = some (some (.ref f4))) (l4 : K.lookup f4 = some ⟨oc4, od4, .func (PySem.W.fnOf "read_pact" "read_pact" (defArgs s_read_pact) (defBody s_read_pact) (defScope s_read_pact) (.ref dv_read_pact) kV4 dc4 pm4 an4 cd4 ct4), sl4⟩) (k4 : PySem.W.codeIn K cd4 "read_pact" = true) (p4 : PySem.W.keepIn K (.ref f4) = true)
    (a5 : FnA K "shown_word" s_shown_word f5)
    (a6 : FnA K "shown_pact" s_shown_pact f6)
    (a7 : FnA K "is_number" s_is_number f7)
    (a8 : FnA K "weight_of" s_weight_of f8)
    (a9 : FnA K "order_of" s_order_of f9)
    (a10 : FnA K "completed" s_completed f10)
    (a11 : FnA K "gone_within" s_gone_within f11)
    (a12 : FnA K "rooms_for" s_rooms_for f12)
    (a13 : FnA K "judged" s_judged f13)
    (a14 : FnA K "shown_answer" s_shown_answer f14)
    (a15 : FnA K "_law_cell_at" s_cell_at f15)
    (a16 : FnA K "_law_letters" s_letters f16)
    (a17 : FnA K "_law_word" s_word f17)
    (a18 : FnA K "_law_mixed" s_mixed f18)
    (a19 : FnA K "_law_shown" s_shown f19)
    (a20 : FnA K "_law_sign" s_sign f20)
    (a21 : FnA K "_law_weights_row" s_weights_row f21)
    (a22 : FnA K "_law_plain_row" s_plain_row f22)
    (a23 : FnA K "_law_row" s_row f23)
    (a24 : FnA K "_law_fault" s_fault f24)
    (a25 : FnA K "_law_pair_due" s_pair_due f25)
    (a26 : FnA K "_law_order_due" s_order_due f26)
    (a27 : FnA K "_law_letters_due" s_letters_due f27)
    (a28 : FnA K "_law_pact_due" s_pact_due f28)
    (a29 : FnA K "_law_due" s_due f29)
    (a30 : FnA K "_law_told" s_told f30)
    (a31 : PySem.W.nsIn K mainGlobals "law" = some (some (.ref f31))) (l31 : K.lookup f31 = some ⟨oc31, od31, .func (PySem.W.fnOf "law" "law" (defArgs s_law) (defBody s_law) (defScope s_law) .none kV31 dc31 pm31 an31 cd31 ct31), sl31⟩) (k31 : PySem.W.codeIn K cd31 "law" = true) (p31 : PySem.W.keepIn K (.ref f31) = true)
    (g_NoLetters : PySem.W.nsIn K mainGlobals "NoLetters" = some (some (.ref c_NoLetters)))
    (g_NoOrder : PySem.W.nsIn K mainGlobals "NoOrder" = some (some (.ref c_NoOrder)))
    (g_Order : PySem.W.nsIn K mainGlobals "Order" = some (some (.ref c_Order)))
    (g_FromRight : PySem.W.nsIn K mainGlobals "FromRight" = some (some (.ref c_FromRight)))
    (g_ByWeights : PySem.W.nsIn K mainGlobals "ByWeights" = some (some (.ref c_ByWeights)))
    (g_NoWord : PySem.W.nsIn K mainGlobals "NoWord" = some (some (.ref c_NoWord)))
    (g_NoPact : PySem.W.nsIn K mainGlobals "NoPact" = some (some (.ref c_NoPact)))
    (g_NoRow : PySem.W.nsIn K mainGlobals "NoRow" = some (some (.ref c_NoRow)))
    (g_TooMany : PySem.W.nsIn K mainGlobals "TooMany" = some (some (.ref c_TooMany)))
    (g_Desk : PySem.W.nsIn K mainGlobals "Desk" = some (some (.ref c_Desk)))
    (kbb : PySem.W.kitOne K (.type "bool") (.type "bool") = some true)
    (ks : PySem.W.kitOne K (.type "str") (.type "str") = some true)
    (x7 : PySem.W.specialIn K (.builtin "object.__class__") "__get__" = some (some (.builtin "getset_descriptor.__get__")))
    (x8 : PySem.W.takesIn K (.builtin "object.__class__") = some true)
    (x1 : xcIn K c_NoLetters = true)
    (x2 : PySem.W.findIn K (.ref c_NoLetters) "__setattr__" = some (some (.builtin "object.__setattr__")))
    (x3 : PySem.W.findIn K (.ref c_NoLetters) "__getattribute__" = some (some (.builtin "BaseException.__getattribute__")))
    (x4 : PySem.W.findIn K (.ref c_NoLetters) "__getattr__" = some none)
    (x5 : PySem.W.keepIn K (.ref c_NoLetters) = true)
    (x6 : PySem.W.findIn K (.ref c_NoLetters) "__class__" = some (some (.builtin "object.__class__")))
    (x9 : PySem.W.mroIn K c_NoLetters (.type "object") = some true)
    (xi : PySem.W.findIn K (.ref c_NoLetters) "__init__" = some (some (.builtin "ValueError.__init__")))
    (y1 : xcIn K c_NoOrder = true)
    (y2 : PySem.W.findIn K (.ref c_NoOrder) "__setattr__" = some (some (.builtin "object.__setattr__")))
    (y3 : PySem.W.findIn K (.ref c_NoOrder) "__getattribute__" = some (some (.builtin "BaseException.__getattribute__")))
    (y4 : PySem.W.findIn K (.ref c_NoOrder) "__getattr__" = some none)
    (y5 : PySem.W.keepIn K (.ref c_NoOrder) = true)
    (y6 : PySem.W.findIn K (.ref c_NoOrder) "__class__" = some (some (.builtin "object.__class__")))
    (y9 : PySem.W.mroIn K c_NoOrder (.type "object") = some true)
    (yi : PySem.W.findIn K (.ref c_NoOrder) "__init__" = some (some (.builtin "ValueError.__init__")))
    (most : PySem.W.nsIn K mainGlobals "MOST_LETTERS" = some (some (.int 6 t6)))
    (mostw : PySem.W.nsIn K mainGlobals "MOST_WEIGHT" = some (some (.int 1000000 t7)))
    (pg_Order : PySem.W.plainGet K c_Order Str.empty = true)
    (hd_Order : PySem.W.hasDictIn K c_Order = true)
    (po_Order : PySem.W.plainOver K c_Order = true)
    (sa_Order : PySem.W.findIn K (.ref c_Order) "__setattr__" = some (some (.builtin "object.__setattr__")))
    (mk_Order : PySem.W.makesIn K c_Order = true)
    (kc_Order : PySem.W.keepIn K (.ref c_Order) = true)
    (nl_Order : PySem.W.findIn K (.ref c_Order) "letters" = some none)
    (ka_Order : PySem.W.kitOne K (.ref c_Order) (.ref c_Order) = some true)
    (cl_Order : PySem.W.findIn K (.ref c_Order) "__class__" = some (some (.builtin "object.__class__")))
    (mr_Order : PySem.W.mroIn K c_Order (.type "object") = some true)
    (pg_FromRight : PySem.W.plainGet K c_FromRight Str.empty = true)
    (hd_FromRight : PySem.W.hasDictIn K c_FromRight = true)
    (po_FromRight : PySem.W.plainOver K c_FromRight = true)
    (sa_FromRight : PySem.W.findIn K (.ref c_FromRight) "__setattr__" = some (some (.builtin "object.__setattr__")))
    (mk_FromRight : PySem.W.makesIn K c_FromRight = true)
    (kc_FromRight : PySem.W.keepIn K (.ref c_FromRight) = true)
    (nl_FromRight : PySem.W.findIn K (.ref c_FromRight) "letters" = some none)
    (ka_FromRight : PySem.W.kitOne K (.ref c_FromRight) (.ref c_Order) = some true)
    (cl_FromRight : PySem.W.findIn K (.ref c_FromRight) "__class__" = some (some (.builtin "object.__class__")))
    (mr_FromRight : PySem.W.mroIn K c_FromRight (.type "object") = some true)
    (pg_ByWeights : PySem.W.plainGet K c_ByWeights Str.empty = true)
    (hd_ByWeights : PySem.W.hasDictIn K c_ByWeights = true)
    (po_ByWeights : PySem.W.plainOver K c_ByWeights = true)
    (sa_ByWeights : PySem.W.findIn K (.ref c_ByWeights) "__setattr__" = some (some (.builtin "object.__setattr__")))
    (mk_ByWeights : PySem.W.makesIn K c_ByWeights = true)
    (kc_ByWeights : PySem.W.keepIn K (.ref c_ByWeights) = true)
    (nl_ByWeights : PySem.W.findIn K (.ref c_ByWeights) "letters" = some none)
    (ka_ByWeights : PySem.W.kitOne K (.ref c_ByWeights) (.ref c_Order) = some true)
    (cl_ByWeights : PySem.W.findIn K (.ref c_ByWeights) "__class__" = some (some (.builtin "object.__class__")))
    (mr_ByWeights : PySem.W.mroIn K c_ByWeights (.type "object") = some true)
    (nw_ByWeights : PySem.W.findIn K (.ref c_ByWeights) "weights" = some none)
    (sgO : PySem.W.specialIn K (.ref c_Order) "__getattribute__" = some (some (.builtin "type.__getattribute__")))
    (rdO : PySem.W.readsIn K c_Order (.type "type") = true)
    (gEm : PySem.W.nsIn K mainGlobals "EMPTY" = some (some (.str "." tE)))
    (gBe : PySem.W.nsIn K mainGlobals "BETWEEN" = some (some (.str " = " tB)))
    (gFi : PySem.W.nsIn K mainGlobals "FIGURES" = some (some (.str "0123456789" tF)))
    (gM7 : PySem.W.nsIn K mainGlobals "MOST_FIGURES" = some (some (.int 7 m7)))
    (gLe : PySem.W.nsIn K mainGlobals "LETTERS" = some (some (.str "letters " tLe)))
    (gWe : PySem.W.nsIn K mainGlobals "WEIGHTS" = some (some (.str "order weights " tWe)))
    (gPa : PySem.W.nsIn K mainGlobals "PACT" = some (some (.str "pact " tPa)))
    (gFo : PySem.W.nsIn K mainGlobals "FORM" = some (some (.str "form " tFo)))
    (gAs : PySem.W.nsIn K mainGlobals "ASK" = some (some (.str "ask " tAs)))
    (gM8 : PySem.W.nsIn K mainGlobals "MOST_PACTS" = some (some (.int 8 m8)))
    (gM10 : PySem.W.nsIn K mainGlobals "MOST_SIDE_desk" = some (some (.int 10 m10)))
    (gM20 : PySem.W.nsIn K mainGlobals "MOST_WORD" = some (some (.int 20 m20)))
    (gMR3 : PySem.W.nsIn K mainGlobals "ROUNDS" = some (some (.int 3 mR3)))
    (nw1 : xcIn K c_NoWord = true)
    (nw2 : PySem.W.findIn K (.ref c_NoWord) "__setattr__" = some (some (.builtin "object.__setattr__")))
    (nw3 : PySem.W.findIn K (.ref c_NoWord) "__getattribute__" = some (some (.builtin "BaseException.__getattribute__")))
    (nw4 : PySem.W.findIn K (.ref c_NoWord) "__getattr__" = some none)
    (nw5 : PySem.W.keepIn K (.ref c_NoWord) = true)
    (nw6 : PySem.W.findIn K (.ref c_NoWord) "__class__" = some (some (.builtin "object.__class__")))
    (nw9 : PySem.W.mroIn K c_NoWord (.type "object") = some true)
    (np1 : xcIn K c_NoPact = true)
    (np2 : PySem.W.findIn K (.ref c_NoPact) "__setattr__" = some (some (.builtin "object.__setattr__")))
    (np3 : PySem.W.findIn K (.ref c_NoPact) "__getattribute__" = some (some (.builtin "BaseException.__getattribute__")))
    (np4 : PySem.W.findIn K (.ref c_NoPact) "__getattr__" = some none)
    (np5 : PySem.W.keepIn K (.ref c_NoPact) = true)
    (np6 : PySem.W.findIn K (.ref c_NoPact) "__class__" = some (some (.builtin "object.__class__")))
    (np9 : PySem.W.mroIn K c_NoPact (.type "object") = some true)
    (npi : PySem.W.findIn K (.ref c_NoPact) "__init__" = some (some (.builtin "ValueError.__init__")))
    (nr1 : xcIn K c_NoRow = true)
    (nr2 : PySem.W.findIn K (.ref c_NoRow) "__setattr__" = some (some (.builtin "object.__setattr__")))
    (nr3 : PySem.W.findIn K (.ref c_NoRow) "__getattribute__" = some (some (.builtin "BaseException.__getattribute__")))
    (nr4 : PySem.W.findIn K (.ref c_NoRow) "__getattr__" = some none)
    (nr5 : PySem.W.keepIn K (.ref c_NoRow) = true)
    (nr6 : PySem.W.findIn K (.ref c_NoRow) "__class__" = some (some (.builtin "object.__class__")))
    (nr9 : PySem.W.mroIn K c_NoRow (.type "object") = some true)
    (nri : PySem.W.findIn K (.ref c_NoRow) "__init__" = some (some (.builtin "ValueError.__init__")))
    (tm1 : xcIn K c_TooMany = true)
    (tm2 : PySem.W.findIn K (.ref c_TooMany) "__setattr__" = some (some (.builtin "object.__setattr__")))
    (tm3 : PySem.W.findIn K (.ref c_TooMany) "__getattribute__" = some (some (.builtin "BaseException.__getattribute__")))
    (tm4 : PySem.W.findIn K (.ref c_TooMany) "__getattr__" = some none)
    (tm5 : PySem.W.keepIn K (.ref c_TooMany) = true)
    (tm6 : PySem.W.findIn K (.ref c_TooMany) "__class__" = some (some (.builtin "object.__class__")))
    (tm9 : PySem.W.mroIn K c_TooMany (.type "object") = some true)
    (tmi : PySem.W.findIn K (.ref c_TooMany) "__init__" = some (some (.builtin "ValueError.__init__")))
    (nwa : PySem.W.findIn K (.ref c_NoWord) "place" = some none)
    (nwin : PySem.W.findIn K (.ref c_NoWord) "__init__" = some (some (.ref fW)))
    (lW : K.lookup fW = some ⟨ocW, odW, .func (PySem.W.fnOf "__init__" "NoWord.__init__" (defArgs s_noword_init) (defBody s_noword_init) (defScope s_noword_init) .none kVW dcW pmW anW cdW ctW), slW⟩)
    (kW : PySem.W.codeIn K cdW "NoWord.__init__" = true)
    (pW : PySem.W.keepIn K (.ref fW) = true)
    (fnW : PySem.W.isFn K (.ref fW) = true)
    (pg_Desk : PySem.W.plainGet K c_Desk Str.empty = true)
    (hd_Desk : PySem.W.hasDictIn K c_Desk = true)
    (po_Desk : PySem.W.plainOver K c_Desk = true)
    (sa_Desk : PySem.W.findIn K (.ref c_Desk) "__setattr__" = some (some (.builtin "object.__setattr__")))
    (mk_Desk : PySem.W.makesIn K c_Desk = true)
    (kc_Desk : PySem.W.keepIn K (.ref c_Desk) = true)
    (no_Desk : PySem.W.findIn K (.ref c_Desk) "order" = some none)
    (np_Desk : PySem.W.findIn K (.ref c_Desk) "pacts" = some none)
    (zRR : PySem.W.subIn K (.ref c_NoRow) (.ref c_NoRow) = some true)
    (zLR : PySem.W.subIn K (.ref c_NoLetters) (.ref c_NoRow) = some false)
    (zLL : PySem.W.subIn K (.ref c_NoLetters) (.ref c_NoLetters) = some true)
    (zOR : PySem.W.subIn K (.ref c_NoOrder) (.ref c_NoRow) = some false)
    (zOL : PySem.W.subIn K (.ref c_NoOrder) (.ref c_NoLetters) = some false)
    (zOO : PySem.W.subIn K (.ref c_NoOrder) (.ref c_NoOrder) = some true)
    (zPR : PySem.W.subIn K (.ref c_NoPact) (.ref c_NoRow) = some false)
    (zPL : PySem.W.subIn K (.ref c_NoPact) (.ref c_NoLetters) = some false)
    (zPO : PySem.W.subIn K (.ref c_NoPact) (.ref c_NoOrder) = some false)
    (zPP : PySem.W.subIn K (.ref c_NoPact) (.ref c_NoPact) = some true)
    (zMR : PySem.W.subIn K (.ref c_TooMany) (.ref c_NoRow) = some false)
    (zML : PySem.W.subIn K (.ref c_TooMany) (.ref c_NoLetters) = some false)
    (zMO : PySem.W.subIn K (.ref c_TooMany) (.ref c_NoOrder) = some false)
    (zMP : PySem.W.subIn K (.ref c_TooMany) (.ref c_NoPact) = some false)
    (zMM : PySem.W.subIn K (.ref c_TooMany) (.ref c_TooMany) = some true)
    (zWR : PySem.W.subIn K (.ref c_NoWord) (.ref c_NoRow) = some false)
    (zWL : PySem.W.subIn K (.ref c_NoWord) (.ref c_NoLetters) = some false)
    (zWO : PySem.W.subIn K (.ref c_NoWord) (.ref c_NoOrder) = some false)
    (zWP : PySem.W.subIn K (.ref c_NoWord) (.ref c_NoPact) = some false)
    (zWM : PySem.W.subIn K (.ref c_NoWord) (.ref c_TooMany) = some false)
    (zWW : PySem.W.subIn K (.ref c_NoWord) (.ref c_NoWord) = some true)
    (zRA : PySem.W.kitAny K (.ref c_NoRow) ([c_NoLetters, c_NoOrder, c_NoPact, c_NoWord, c_TooMany].map Value.ref) = some false)
    (zHH : PySem.W.hasDictIn K c_NoWord = true)
    (kts : PySem.W.kitOne K (.type "tuple") (.type "str") = some false)
    (hset : PySem.W.nsIn K mainGlobals "set" = some none)
    (fi_order_init : PySem.W.findIn K (.ref c_Order) "__init__" = some (some (.ref fm_order_init)))
    (lo_order_init : FnE K "__init__" "Order.__init__" s_order_init fm_order_init)
    (fn_order_init : PySem.W.isFn K (.ref fm_order_init) = true)
    (fi_byweights_init : PySem.W.findIn K (.ref c_ByWeights) "__init__" = some (some (.ref fm_byweights_init)))
    (lo_byweights_init : FnE K "__init__" "ByWeights.__init__" s_byweights_init fm_byweights_init)
    (fn_byweights_init : PySem.W.isFn K (.ref fm_byweights_init) = true)
    (fi_desk_init : PySem.W.findIn K (.ref c_Desk) "__init__" = some (some (.ref fm_desk_init)))
    (lo_desk_init : FnE K "__init__" "Desk.__init__" s_desk_init fm_desk_init)
    (fn_desk_init : PySem.W.isFn K (.ref fm_desk_init) = true)
    (fi_desk_begun : PySem.W.findIn K (.ref c_Desk) "begun" = some (some (.ref fm_desk_begun)))
    (lo_desk_begun : FnE K "begun" "Desk.begun" s_desk_begun fm_desk_begun)
    (fn_desk_begun : PySem.W.isFn K (.ref fm_desk_begun) = true)
    (fi_desk_ordered : PySem.W.findIn K (.ref c_Desk) "ordered" = some (some (.ref fm_desk_ordered)))
    (lo_desk_ordered : FnE K "ordered" "Desk.ordered" s_desk_ordered fm_desk_ordered)
    (fn_desk_ordered : PySem.W.isFn K (.ref fm_desk_ordered) = true)
    (fi_desk_agreed : PySem.W.findIn K (.ref c_Desk) "agreed" = some (some (.ref fm_desk_agreed)))
    (lo_desk_agreed : FnE K "agreed" "Desk.agreed" s_desk_agreed fm_desk_agreed)
    (fn_desk_agreed : PySem.W.isFn K (.ref fm_desk_agreed) = true)
    (fi_desk_dropped : PySem.W.findIn K (.ref c_Desk) "dropped" = some (some (.ref fm_desk_dropped)))
    (lo_desk_dropped : FnE K "dropped" "Desk.dropped" s_desk_dropped fm_desk_dropped)
    (fn_desk_dropped : PySem.W.isFn K (.ref fm_desk_dropped) = true)
    (fi_desk_completion : PySem.W.findIn K (.ref c_Desk) "completion" = some (some (.ref fm_desk_completion)))
    (lo_desk_completion : FnE K "completion" "Desk.completion" s_desk_completion fm_desk_completion)
    (fn_desk_completion : PySem.W.isFn K (.ref fm_desk_completion) = true)
    (fi_desk_formed : PySem.W.findIn K (.ref c_Desk) "formed" = some (some (.ref fm_desk_formed)))
    (lo_desk_formed : FnE K "formed" "Desk.formed" s_desk_formed fm_desk_formed)
    (fn_desk_formed : PySem.W.isFn K (.ref fm_desk_formed) = true)
    (fi_desk_asked : PySem.W.findIn K (.ref c_Desk) "asked" = some (some (.ref fm_desk_asked)))
    (lo_desk_asked : FnE K "asked" "Desk.asked" s_desk_asked fm_desk_asked)
    (fn_desk_asked : PySem.W.isFn K (.ref fm_desk_asked) = true)
    (fi_desk_told : PySem.W.findIn K (.ref c_Desk) "told" = some (some (.ref fm_desk_told)))
    (lo_desk_told : FnE K "told" "Desk.told" s_desk_told fm_desk_told)
    (fn_desk_told : PySem.W.isFn K (.ref fm_desk_told) = true)
    (dl_word_of : K.lookup dv_word_of = some ⟨d1_word_of, d2_word_of, .seq #[.int 60 dt_word_of] d3_word_of, d4_word_of⟩)
    (dl_read_word : K.lookup dv_read_word = some ⟨d1_read_word, d2_read_word, .seq #[.int 60 dt_read_word] d3_read_word, d4_read_word⟩)
    (dl_read_pact : K.lookup dv_read_pact = some ⟨d1_read_pact, d2_read_pact, .seq #[.int 60 dt_read_pact] d3_read_pact, d4_read_pact⟩)
    (fcO : PySem.W.findCls K (.ref c_Order) (.type "type") "__init__" = some (.val (.ref fm_order_init)))
    (fiR_init : PySem.W.findIn K (.ref c_FromRight) "__init__" = some (some (.ref fm_order_init)))
    (b0 : PySem.W.nsIn K mainGlobals "len" = some none)
    (b1 : PySem.W.nsIn K mainGlobals "range" = some none)
    (b2 : PySem.W.nsIn K mainGlobals "isinstance" = some none)
    (b3 : PySem.W.nsIn K mainGlobals "str" = some none)
    (b4 : PySem.W.nsIn K mainGlobals "int" = some none)
    (b5 : PySem.W.nsIn K mainGlobals "tuple" = some none)
    (b6 : PySem.W.nsIn K mainGlobals "list" = some none)
    (b7 : PySem.W.nsIn K mainGlobals "bool" = some none)
    (b8 : PySem.W.nsIn K mainGlobals "enumerate" = some none)
    (b9 : PySem.W.nsIn K mainGlobals "all" = some none)
    (b10 : PySem.W.nsIn K mainGlobals "ValueError" = some none)
    (b11 : PySem.W.nsIn K mainGlobals "max" = some none)
    (b12 : PySem.W.nsIn K mainGlobals "reversed" = some none)
    (b13 : PySem.W.nsIn K mainGlobals "zip" = some none)
    (b14 : PySem.W.nsIn K mainGlobals "sum" = some none)
    (b15 : PySem.W.nsIn K mainGlobals "sorted" = some none)
    : ∃ fd : FuncData, (∀ (s : Shared) (v : Value), BindsTo s fd ⟨[v], []⟩ [("_law_script", v)]) ∧ ∀ base : Heap, K.In base → base.Ns mainGlobals mg → FnOk l.prog w K mg base CX0 10 fa fd ["_law_script"] (sp_law K) := by
  have e := hfa.symm.trans (PySem.W.mg_of X G a31)
  cases e
  have B : Bt mg := ⟨PySem.W.mg_none_of X G b0, PySem.W.mg_none_of X G b1, PySem.W.mg_none_of X G b2, PySem.W.mg_none_of X G b3, PySem.W.mg_none_of X G b4, PySem.W.mg_none_of X G b5, PySem.W.mg_none_of X G b6, PySem.W.mg_none_of X G b7, PySem.W.mg_none_of X G b8, PySem.W.mg_none_of X G b9, PySem.W.mg_none_of X G b10, PySem.W.mg_none_of X G b11, PySem.W.mg_none_of X G b12, PySem.W.mg_none_of X G b13, PySem.W.mg_none_of X G b14, PySem.W.mg_none_of X G b15⟩
  obtain ⟨M0, p0, _, F0⟩ := a0.mk X G
  have B0 := F0.binds (ps := ["sign"]) fun _ _ _ _ _ _ us hl => by obtain ⟨_, rfl⟩ := len1 hl; rfl
  obtain ⟨M1, p1, _, F1⟩ := a1.mk X G
  have B1 := F1.binds (ps := ["text"]) fun _ _ _ _ _ _ us hl => by obtain ⟨_, rfl⟩ := len1 hl; rfl
  have F2 : FunD K "word_of" "word_of" s_word_of (.ref dv_word_of) f2 (PySem.W.fnOf "word_of" "word_of" (defArgs s_word_of) (defBody s_word_of) (defScope s_word_of) (.ref dv_word_of) kV2 dc2 pm2 an2 cd2 ct2) := ⟨⟨_, _, _, _, _, _, _, _, _, rfl, l2, k2⟩⟩
  have M2 := PySem.W.mg_of X G a2
  have F3 : FunD K "read_word" "read_word" s_read_word (.ref dv_read_word) f3 (PySem.W.fnOf "read_word" "read_word" (defArgs s_read_word) (defBody s_read_word) (defScope s_read_word) (.ref dv_read_word) kV3 dc3 pm3 an3 cd3 ct3) := ⟨⟨_, _, _, _, _, _, _, _, _, rfl, l3, k3⟩⟩
  have M3 := PySem.W.mg_of X G a3
  have F4 : FunD K "read_pact" "read_pact" s_read_pact (.ref dv_read_pact) f4 (PySem.W.fnOf "read_pact" "read_pact" (defArgs s_read_pact) (defBody s_read_pact) (defScope s_read_pact) (.ref dv_read_pact) kV4 dc4 pm4 an4 cd4 ct4) := ⟨⟨_, _, _, _, _, _, _, _, _, rfl, l4, k4⟩⟩
  have M4 := PySem.W.mg_of X G a4
  obtain ⟨M5, p5, _, F5⟩ := a5.mk X G
  have B5 := F5.binds (ps := ["word"]) fun _ _ _ _ _ _ us hl => by obtain ⟨_, rfl⟩ := len1 hl; rfl
  obtain ⟨M6, p6, _, F6⟩ := a6.mk X G
  have B6 := F6.binds (ps := ["pact"]) fun _ _ _ _ _ _ us hl => by obtain ⟨_, rfl⟩ := len1 hl; rfl
  obtain ⟨M7, p7, _, F7⟩ := a7.mk X G
  have B7 := F7.binds (ps := ["text", "most"]) fun _ _ _ _ _ _ us hl => by obtain ⟨_, _, rfl⟩ := len2 hl; rfl
  obtain ⟨M8, p8, _, F8⟩ := a8.mk X G
  have B8 := F8.binds (ps := ["text"]) fun _ _ _ _ _ _ us hl => by obtain ⟨_, rfl⟩ := len1 hl; rfl
  obtain ⟨M9, p9, _, F9⟩ := a9.mk X G
  have B9 := F9.binds (ps := ["letters", "row"]) fun _ _ _ _ _ _ us hl => by obtain ⟨_, _, rfl⟩ := len2 hl; rfl
  obtain ⟨M10, p10, _, F10⟩ := a10.mk X G
  have B10 := F10.binds (ps := ["order", "pacts", "rounds"]) fun _ _ _ _ _ _ us hl => by obtain ⟨_, _, _, rfl⟩ := len3 hl; rfl
  obtain ⟨M11, p11, _, F11⟩ := a11.mk X G
  have B11 := F11.binds (ps := ["entries", "word"]) fun _ _ _ _ _ _ us hl => by obtain ⟨_, _, rfl⟩ := len2 hl; rfl
  obtain ⟨M12, p12, _, F12⟩ := a12.mk X G
  have B12 := F12.binds (ps := ["letters"]) fun _ _ _ _ _ _ us hl => by obtain ⟨_, rfl⟩ := len1 hl; rfl
  obtain ⟨M13, p13, _, F13⟩ := a13.mk X G
  have B13 := F13.binds (ps := ["order", "pacts", "one", "other", "rounds", "most"]) fun _ _ _ _ _ _ us hl => by obtain ⟨_, _, _, _, _, _, rfl⟩ := len6 hl; rfl
  obtain ⟨M14, p14, _, F14⟩ := a14.mk X G
  have B14 := F14.binds (ps := ["answer"]) fun _ _ _ _ _ _ us hl => by obtain ⟨_, rfl⟩ := len1 hl; rfl
  obtain ⟨M15, p15, _, F15⟩ := a15.mk X G
  have B15 := F15.binds (ps := ["_law_script", "_law_k"]) fun _ _ _ _ _ _ us hl => by obtain ⟨_, _, rfl⟩ := len2 hl; rfl
  obtain ⟨M16, p16, _, F16⟩ := a16.mk X G
  have B16 := F16.binds (ps := ["_law_cell", "_law_most"]) fun _ _ _ _ _ _ us hl => by obtain ⟨_, _, rfl⟩ := len2 hl; rfl
  obtain ⟨M17, p17, _, F17⟩ := a17.mk X G
  have B17 := F17.binds (ps := ["_law_cell", "_law_letters_here", "_law_most"]) fun _ _ _ _ _ _ us hl => by obtain ⟨_, _, _, rfl⟩ := len3 hl; rfl
  obtain ⟨M18, p18, _, F18⟩ := a18.mk X G
  have B18 := F18.binds (ps := ["_law_cell", "_law_k"]) fun _ _ _ _ _ _ us hl => by obtain ⟨_, _, rfl⟩ := len2 hl; rfl
  obtain ⟨M19, p19, _, F19⟩ := a19.mk X G
  have B19 := F19.binds (ps := ["_law_word_here"]) fun _ _ _ _ _ _ us hl => by obtain ⟨_, rfl⟩ := len1 hl; rfl
  obtain ⟨M20, p20, _, F20⟩ := a20.mk X G
  have B20 := F20.binds (ps := ["_law_cell"]) fun _ _ _ _ _ _ us hl => by obtain ⟨_, rfl⟩ := len1 hl; rfl
  obtain ⟨M21, p21, _, F21⟩ := a21.mk X G
  have B21 := F21.binds (ps := ["_law_cell", "_law_letters_here"]) fun _ _ _ _ _ _ us hl => by obtain ⟨_, _, rfl⟩ := len2 hl; rfl
  obtain ⟨M22, p22, _, F22⟩ := a22.mk X G
  have B22 := F22.binds (ps := ["_law_cell", "_law_letters_here"]) fun _ _ _ _ _ _ us hl => by obtain ⟨_, _, rfl⟩ := len2 hl; rfl
  obtain ⟨M23, p23, _, F23⟩ := a23.mk X G
  have B23 := F23.binds (ps := ["_law_cell", "_law_letters_here"]) fun _ _ _ _ _ _ us hl => by obtain ⟨_, _, rfl⟩ := len2 hl; rfl
  obtain ⟨M24, p24, _, F24⟩ := a24.mk X G
  have B24 := F24.binds (ps := ["_law_letters_here", "_law_text", "_law_most"]) fun _ _ _ _ _ _ us hl => by obtain ⟨_, _, _, rfl⟩ := len3 hl; rfl
  obtain ⟨M25, p25, _, F25⟩ := a25.mk X G
  have B25 := F25.binds (ps := ["_law_letters_here", "_law_one", "_law_other", "_law_most"]) fun _ _ _ _ _ _ us hl => by obtain ⟨_, _, _, _, rfl⟩ := len4 hl; rfl
  obtain ⟨M26, p26, _, F26⟩ := a26.mk X G
  have B26 := F26.binds (ps := ["_law_letters_here", "_law_row_here"]) fun _ _ _ _ _ _ us hl => by obtain ⟨_, _, rfl⟩ := len2 hl; rfl
  obtain ⟨M27, p27, _, F27⟩ := a27.mk X G
  have B27 := F27.binds (ps := ["_law_row_here"]) fun _ _ _ _ _ _ us hl => by obtain ⟨_, rfl⟩ := len1 hl; rfl
  obtain ⟨M28, p28, _, F28⟩ := a28.mk X G
  have B28 := F28.binds (ps := ["_law_letters_here", "_law_pacts", "_law_row_here"]) fun _ _ _ _ _ _ us hl => by obtain ⟨_, _, _, rfl⟩ := len3 hl; rfl
  obtain ⟨M29, p29, _, F29⟩ := a29.mk X G
  have B29 := F29.binds (ps := ["_law_letters_here", "_law_pacts", "_law_row_here"]) fun _ _ _ _ _ _ us hl => by obtain ⟨_, _, _, rfl⟩ := len3 hl; rfl
  obtain ⟨M30, p30, _, F30⟩ := a30.mk X G
  have B30 := F30.binds (ps := ["_law_desk", "_law_row_here"]) fun _ _ _ _ _ _ us hl => by obtain ⟨_, _, rfl⟩ := len2 hl; rfl
  have F31 := fun_mk (st := s_law) l31 k31 p31
  have B31 := F31.binds (ps := ["_law_script"]) fun _ _ _ _ _ _ us hl => by obtain ⟨_, rfl⟩ := len1 hl; rfl
  have M31 := PySem.W.mg_of X G a31
  refine ⟨PySem.W.fnOf "law" "law" (defArgs s_law) (defBody s_law) (defScope s_law) .none kV31 dc31 pm31 an31 cd31 ct31, fun s v => .of_eq rfl, fun base _ _ => ?_⟩
  have XIl : XI K c_NoLetters := ⟨⟨x1, x2, x3, x4, x5⟩, x6, x7, x8, x9⟩
  have XIo : XI K c_NoOrder := ⟨⟨y1, y2, y3, y4, y5⟩, y6, x7, x8, y9⟩
  have TL : TLet K mg c_NoLetters := ⟨XIl, xi, PySem.W.mg_of X G g_NoLetters, t6, PySem.W.mg_of X G most⟩
  have TN : TNoO K mg c_NoOrder := ⟨XIo, yi, PySem.W.mg_of X G g_NoOrder, t7, PySem.W.mg_of X G mostw⟩
  have TO : TOrd K mg c_Order c_FromRight c_ByWeights := ⟨⟨pg_Order, hd_Order, po_Order, sa_Order⟩, ⟨pg_FromRight, hd_FromRight, po_FromRight, sa_FromRight⟩, ⟨pg_ByWeights, hd_ByWeights, po_ByWeights, sa_ByWeights⟩, PySem.W.mg_of X G g_Order, PySem.W.mg_of X G g_FromRight, PySem.W.mg_of X G g_ByWeights, nl_Order, nl_FromRight, nl_ByWeights, nw_ByWeights⟩
  have XIw : XI K c_NoWord := ⟨⟨nw1, nw2, nw3, nw4, nw5⟩, nw6, x7, x8, nw9⟩
  have XIp : XI K c_NoPact := ⟨⟨np1, np2, np3, np4, np5⟩, np6, x7, x8, np9⟩
  have XIr : XI K c_NoRow := ⟨⟨nr1, nr2, nr3, nr4, nr5⟩, nr6, x7, x8, nr9⟩
  have XIm : XI K c_TooMany := ⟨⟨tm1, tm2, tm3, tm4, tm5⟩, tm6, x7, x8, tm9⟩
  have TW0 : TNW K mg c_NoWord := ⟨XIw, PySem.W.mg_of X G g_NoWord, nwa⟩
  have FW := fun_mk (st := s_noword_init) lW kW pW
  have BW := FW.binds (ps := ["self", "place"]) fun _ _ _ _ _ _ us hl => by obtain ⟨_, _, rfl⟩ := len2 hl; rfl
  have TNw : DNW l.prog w K mg base c_NoWord := ⟨TW0, _, _, nwin, fnW, ok_noword_init TW0 FW, BW⟩
  have TNp : TNP K mg c_NoPact := ⟨XIp, PySem.W.mg_of X G g_NoPact, npi⟩
  have TNr : TNR K mg c_NoRow := ⟨XIr, PySem.W.mg_of X G g_NoRow, nri⟩
  have TMm : TMy K mg c_TooMany := ⟨XIm, PySem.W.mg_of X G g_TooMany, tmi⟩
  have TT : TTx mg := ⟨⟨_, PySem.W.mg_of X G gEm⟩, ⟨_, PySem.W.mg_of X G gBe⟩, ⟨_, PySem.W.mg_of X G gFi⟩, ⟨_, PySem.W.mg_of X G gM7⟩, ⟨_, PySem.W.mg_of X G gLe⟩, ⟨_, PySem.W.mg_of X G gWe⟩, ⟨_, PySem.W.mg_of X G gPa⟩, ⟨_, PySem.W.mg_of X G gFo⟩, ⟨_, PySem.W.mg_of X G gAs⟩, ⟨_, PySem.W.mg_of X G gM8⟩, ⟨_, PySem.W.mg_of X G gM10⟩, ⟨_, PySem.W.mg_of X G gM20⟩, ⟨_, PySem.W.mg_of X G gMR3⟩⟩
  have CL : TDsk K mg c_Desk := ⟨⟨pg_Desk, hd_Desk, po_Desk, sa_Desk⟩, PySem.W.mg_of X G g_Desk, no_Desk, np_Desk⟩
  have D0 : Df l.prog w K mg base CX0 1 "is_small_letter" ["sign"] [] sp_small := ⟨_, _, ok_small F0, M0, p0, B0⟩
  have D1 : Df l.prog w K mg base (CXx l.prog w) 2 "letters_of" ["text"] [] (sp_letters_of c_NoLetters) := ⟨_, _, ok_letters_of B TL F1 D0, M1, p1, B1⟩
  obtain ⟨_, FM_order_init⟩ := lo_order_init
  have ke_order_init := FM_order_init.kp
  have BM_order_init := FM_order_init.binds (ps := ["self", "letters"]) fun _ _ _ _ _ _ us hl => by obtain ⟨_, _, rfl⟩ := len2 hl; rfl
  have MM_order_init : DMk l.prog w K mg base (CXx l.prog w) 3 c_Order ["self", "letters"] (sp_oinitX K c_NoLetters) := ⟨_, _, ⟨mk_Order, fi_order_init, fn_order_init, kc_Order⟩, ok_order_init B FM_order_init D1, BM_order_init⟩
  have DI : DOIX l.prog w K mg base c_Order c_NoLetters := ⟨_, _, ⟨sgO, rdO, fcO, ke_order_init⟩, ok_order_init B FM_order_init D1, BM_order_init⟩
  obtain ⟨_, FM_byweights_init⟩ := lo_byweights_init
  have ke_byweights_init := FM_byweights_init.kp
  have BM_byweights_init := FM_byweights_init.binds (ps := ["self", "letters", "weights"]) fun _ _ _ _ _ _ us hl => by obtain ⟨_, _, _, rfl⟩ := len3 hl; rfl
  have MM_byweights_init : DMk l.prog w K mg base (CXx l.prog w) 4 c_ByWeights ["self", "letters", "weights"] (sp_winitX K c_ByWeights c_NoLetters c_NoOrder) := ⟨_, _, ⟨mk_ByWeights, fi_byweights_init, fn_byweights_init, kc_ByWeights⟩, ok_byweights_init B TO TN DI FM_byweights_init, BM_byweights_init⟩
  have O2 := ok_word_of (P := l.prog) (w := w) (base := base) B TNw F2
  have D2 : Df l.prog w K mg base (CXx l.prog w) 3 "word_of" ["letters", "text", "most"] [] (sp_wof c_NoWord) := ⟨_, _, O2, M2, p2, fun s us hK hl => by obtain ⟨_, _, _, rfl⟩ := len3 (us := us) (by simpa using hl); exact BindsTo.of_defaults rfl (hK _ _ dl_word_of) rfl rfl rfl⟩
  have D2d : Df l.prog w K mg base (CXx l.prog w) 3 "word_of" ["letters", "text", "most"] [.int 60 dt_word_of] (sp_wof c_NoWord) := ⟨_, _, O2, M2, p2, fun s us hK hl => by obtain ⟨_, _, rfl⟩ := len2 (us := us) (by simpa using hl); exact BindsTo.of_defaults rfl (hK _ _ dl_word_of) rfl rfl rfl⟩
  have O3 := ok_read_word (P := l.prog) (w := w) (base := base) B TNw TT F3 D2 D2d
  have D3 : Df l.prog w K mg base (CXx l.prog w) 4 "read_word" ["letters", "text", "most"] [] (sp_rdw c_NoWord) := ⟨_, _, O3, M3, p3, fun s us hK hl => by obtain ⟨_, _, _, rfl⟩ := len3 (us := us) (by simpa using hl); exact BindsTo.of_defaults rfl (hK _ _ dl_read_word) rfl rfl rfl⟩
  have D3d : Df l.prog w K mg base (CXx l.prog w) 4 "read_word" ["letters", "text", "most"] [.int 60 dt_read_word] (sp_rdw c_NoWord) := ⟨_, _, O3, M3, p3, fun s us hK hl => by obtain ⟨_, _, rfl⟩ := len2 (us := us) (by simpa using hl); exact BindsTo.of_defaults rfl (hK _ _ dl_read_word) rfl rfl rfl⟩
  have O4 := ok_read_pact (P := l.prog) (w := w) (base := base) B TNp TT F4 D3 D3d
  have D4 : Df l.prog w K mg base (CXx l.prog w) 5 "read_pact" ["letters", "text", "most"] [] (sp_rdp c_NoWord c_NoPact) := ⟨_, _, O4, M4, p4, fun s us hK hl => by obtain ⟨_, _, _, rfl⟩ := len3 (us := us) (by simpa using hl); exact BindsTo.of_defaults rfl (hK _ _ dl_read_pact) rfl rfl rfl⟩
  have D4d : Df l.prog w K mg base (CXx l.prog w) 5 "read_pact" ["letters", "text", "most"] [.int 60 dt_read_pact] (sp_rdp c_NoWord c_NoPact) := ⟨_, _, O4, M4, p4, fun s us hK hl => by obtain ⟨_, _, rfl⟩ := len2 (us := us) (by simpa using hl); exact BindsTo.of_defaults rfl (hK _ _ dl_read_pact) rfl rfl rfl⟩
  have D5 : Df l.prog w K mg base CX0 1 "shown_word" ["word"] [] sp_shown_word := ⟨_, _, ok_shown_word B TT F5, M5, p5, B5⟩
  have D6 : Df l.prog w K mg base CX0 2 "shown_pact" ["pact"] [] (sp_shown_pact K) := ⟨_, _, ok_shown_pact B TT F6 D5, M6, p6, B6⟩
  have D7 : Df l.prog w K mg base CX0 1 "is_number" ["text", "most"] [] sp_isn := ⟨_, _, ok_is_number B TT F7, M7, p7, B7⟩
  have D8 : Df l.prog w K mg base (CXx l.prog w) 2 "weight_of" ["text"] [] (sp_wgt c_NoOrder) := ⟨_, _, ok_weight_of B TN TT F8 D7, M8, p8, B8⟩
  have TWm : TWM l.prog w K mg base c_Order c_FromRight c_ByWeights c_NoLetters c_NoOrder := ⟨TO, MM_order_init, ⟨_, _, ⟨mk_FromRight, fiR_init, fn_order_init, kc_FromRight⟩, ok_order_init B FM_order_init D1, BM_order_init⟩, MM_byweights_init⟩
  have D9 : Df l.prog w K mg base (CXx l.prog w) 6 "order_of" ["letters", "row"] [] (sp_orow K c_NoOrder c_NoRow) := ⟨_, _, ok_order_of B TWm TNr TT F9 D8, M9, p9, B9⟩
  obtain ⟨_, FM_desk_init⟩ := lo_desk_init
  have ke_desk_init := FM_desk_init.kp
  have BM_desk_init := FM_desk_init.binds (ps := ["self"]) fun _ _ _ _ _ _ us hl => by obtain ⟨_, rfl⟩ := len1 hl; rfl
  have MM_desk_init : DMk l.prog w K mg base CX0 1 c_Desk ["self"] (sp_dinit K c_Desk) := ⟨_, _, ⟨mk_Desk, fi_desk_init, fn_desk_init, kc_Desk⟩, ok_desk_init B CL FM_desk_init, BM_desk_init⟩
  obtain ⟨_, FM_desk_begun⟩ := lo_desk_begun
  have ke_desk_begun := FM_desk_begun.kp
  have BM_desk_begun := FM_desk_begun.binds (ps := ["self", "row"]) fun _ _ _ _ _ _ us hl => by obtain ⟨_, _, rfl⟩ := len2 hl; rfl
  have MM_desk_begun : DM l.prog w K mg base (CXx l.prog w) 6 c_Desk "begun" ["self", "row"] (sp_begun K c_Desk c_NoLetters) := ⟨_, _, ⟨fi_desk_begun, fn_desk_begun, ke_desk_begun⟩, ok_desk_begun B CL TWm TT FM_desk_begun, BM_desk_begun⟩
  obtain ⟨_, FM_desk_ordered⟩ := lo_desk_ordered
  have ke_desk_ordered := FM_desk_ordered.kp
  have BM_desk_ordered := FM_desk_ordered.binds (ps := ["self", "row"]) fun _ _ _ _ _ _ us hl => by obtain ⟨_, _, rfl⟩ := len2 hl; rfl
  have MM_desk_ordered : DM l.prog w K mg base (CXx l.prog w) 7 c_Desk "ordered" ["self", "row"] (sp_ordered K c_Desk c_NoOrder c_NoRow) := ⟨_, _, ⟨fi_desk_ordered, fn_desk_ordered, ke_desk_ordered⟩, ok_desk_ordered B CL FM_desk_ordered D9, BM_desk_ordered⟩
  obtain ⟨_, FM_desk_agreed⟩ := lo_desk_agreed
  have ke_desk_agreed := FM_desk_agreed.kp
  have BM_desk_agreed := FM_desk_agreed.binds (ps := ["self", "text"]) fun _ _ _ _ _ _ us hl => by obtain ⟨_, _, rfl⟩ := len2 hl; rfl
  have MM_desk_agreed : DM l.prog w K mg base (CXx l.prog w) 6 c_Desk "agreed" ["self", "text"] (sp_agreed K c_Desk c_TooMany c_NoWord c_NoPact) := ⟨_, _, ⟨fi_desk_agreed, fn_desk_agreed, ke_desk_agreed⟩, ok_desk_agreed B CL TT TMm FM_desk_agreed D4 D4d, BM_desk_agreed⟩
  obtain ⟨_, FM_desk_dropped⟩ := lo_desk_dropped
  have ke_desk_dropped := FM_desk_dropped.kp
  have BM_desk_dropped := FM_desk_dropped.binds (ps := ["self"]) fun _ _ _ _ _ _ us hl => by obtain ⟨_, rfl⟩ := len1 hl; rfl
  have MM_desk_dropped : DM l.prog w K mg base (CXx l.prog w) 3 c_Desk "dropped" ["self"] (sp_dropped K c_Desk c_NoRow) := ⟨_, _, ⟨fi_desk_dropped, fn_desk_dropped, ke_desk_dropped⟩, ok_desk_dropped B CL TT TNr FM_desk_dropped D6, BM_desk_dropped⟩
  have D10 : Df l.prog w K mg base (CXx l.prog w) 1 "completed" ["order", "pacts", "rounds"] [] spNever := ⟨_, _, ok_completed B F10, M10, p10, B10⟩
  have D11 : Df l.prog w K mg base (CXx l.prog w) 1 "gone_within" ["entries", "word"] [] spNever := ⟨_, _, ok_gone_within B F11, M11, p11, B11⟩
  have D12 : Df l.prog w K mg base CX0 1 "rooms_for" ["letters"] [] spNever := ⟨_, _, ok_rooms_for B F12, M12, p12, B12⟩
  have D13 : Df l.prog w K mg base (CXx l.prog w) 1 "judged" ["order", "pacts", "one", "other", "rounds", "most"] [] spNever := ⟨_, _, ok_judged B F13, M13, p13, B13⟩
  have D14 : Df l.prog w K mg base CX0 1 "shown_answer" ["answer"] [] spNever := ⟨_, _, ok_shown_answer B F14, M14, p14, B14⟩
  obtain ⟨_, FM_desk_completion⟩ := lo_desk_completion
  have ke_desk_completion := FM_desk_completion.kp
  have BM_desk_completion := FM_desk_completion.binds (ps := ["self"]) fun _ _ _ _ _ _ us hl => by obtain ⟨_, rfl⟩ := len1 hl; rfl
  have MM_desk_completion : DM l.prog w K mg base (CXx l.prog w) 1 c_Desk "completion" ["self"] spNever := ⟨_, _, ⟨fi_desk_completion, fn_desk_completion, ke_desk_completion⟩, ok_desk_completion B FM_desk_completion, BM_desk_completion⟩
  obtain ⟨_, FM_desk_formed⟩ := lo_desk_formed
  have ke_desk_formed := FM_desk_formed.kp
  have BM_desk_formed := FM_desk_formed.binds (ps := ["self", "text"]) fun _ _ _ _ _ _ us hl => by obtain ⟨_, _, rfl⟩ := len2 hl; rfl
  have MM_desk_formed : DM l.prog w K mg base (CXx l.prog w) 5 c_Desk "formed" ["self", "text"] (sp_formed K c_Desk c_NoWord) := ⟨_, _, ⟨fi_desk_formed, fn_desk_formed, ke_desk_formed⟩, ok_desk_formed B CL TT FM_desk_formed D3 D3d D10 D11 D5, BM_desk_formed⟩
  obtain ⟨_, FM_desk_asked⟩ := lo_desk_asked
  have ke_desk_asked := FM_desk_asked.kp
  have BM_desk_asked := FM_desk_asked.binds (ps := ["self", "text"]) fun _ _ _ _ _ _ us hl => by obtain ⟨_, _, rfl⟩ := len2 hl; rfl
  have MM_desk_asked : DM l.prog w K mg base (CXx l.prog w) 5 c_Desk "asked" ["self", "text"] (sp_dasked K c_Desk c_NoWord c_NoRow) := ⟨_, _, ⟨fi_desk_asked, fn_desk_asked, ke_desk_asked⟩, ok_desk_asked B CL TT TNr FM_desk_asked D3 D3d D12 D14 D13, BM_desk_asked⟩
  obtain ⟨_, FM_desk_told⟩ := lo_desk_told
  have ke_desk_told := FM_desk_told.kp
  have BM_desk_told := FM_desk_told.binds (ps := ["self", "row"]) fun _ _ _ _ _ _ us hl => by obtain ⟨_, _, rfl⟩ := len2 hl; rfl
  have MM_desk_told : DM l.prog w K mg base (CXx l.prog w) 8 c_Desk "told" ["self", "row"] (sp_told K c_Desk c_NoLetters c_NoOrder c_NoWord c_NoPact c_TooMany c_NoRow) := ⟨_, _, ⟨fi_desk_told, fn_desk_told, ke_desk_told⟩, ok_desk_told B CL TT TNr FM_desk_told MM_desk_ordered MM_desk_begun MM_desk_agreed MM_desk_dropped MM_desk_completion MM_desk_formed MM_desk_asked, BM_desk_told⟩
  have D15 : Df l.prog w K mg base CX0 1 "_law_cell_at" ["_law_script", "_law_k"] [] (sp_cell K) := ⟨_, _, ok_cell_at B F15, M15, p15, B15⟩
  have D16 : Df l.prog w K mg base CX0 1 "_law_letters" ["_law_cell", "_law_most"] [] sp_ltr := ⟨_, _, ok_letters B F16, M16, p16, B16⟩
  have D17 : Df l.prog w K mg base CX0 1 "_law_word" ["_law_cell", "_law_letters_here", "_law_most"] [] sp_wrd := ⟨_, _, ok_word B F17, M17, p17, B17⟩
  have D18 : Df l.prog w K mg base CX0 1 "_law_mixed" ["_law_cell", "_law_k"] [] sp_mxd := ⟨_, _, ok_mixed B F18, M18, p18, B18⟩
  have D19 : Df l.prog w K mg base CX0 1 "_law_shown" ["_law_word_here"] [] sp_shn := ⟨_, _, ok_shown B F19, M19, p19, B19⟩
  have D20 : Df l.prog w K mg base CX0 1 "_law_sign" ["_law_cell"] [] sp_sgn := ⟨_, _, ok_sign B F20, M20, p20, B20⟩
  have D21 : Df l.prog w K mg base CX0 2 "_law_weights_row" ["_law_cell", "_law_letters_here"] [] sp_wrow := ⟨_, _, ok_weights_row B F21 D18, M21, p21, B21⟩
  have D22 : Df l.prog w K mg base CX0 3 "_law_plain_row" ["_law_cell", "_law_letters_here"] [] sp_prow := ⟨_, _, ok_plain_row B F22 D17 D18 D21 D19 D16, M22, p22, B22⟩
  have D23 : Df l.prog w K mg base CX0 4 "_law_row" ["_law_cell", "_law_letters_here"] [] sp_lrow := ⟨_, _, ok_row B F23 D22 D20 D18, M23, p23, B23⟩
  have D24 : Df l.prog w K mg base CX0 1 "_law_fault" ["_law_letters_here", "_law_text", "_law_most"] [] sp_flt := ⟨_, _, ok_fault B F24, M24, p24, B24⟩
  have D25 : Df l.prog w K mg base CX0 2 "_law_pair_due" ["_law_letters_here", "_law_one", "_law_other", "_law_most"] [] sp_prd := ⟨_, _, ok_pair_due B F25 D24, M25, p25, B25⟩
  have D26 : Df l.prog w K mg base CX0 1 "_law_order_due" ["_law_letters_here", "_law_row_here"] [] sp_odu := ⟨_, _, ok_order_due B F26, M26, p26, B26⟩
  have D27 : Df l.prog w K mg base CX0 1 "_law_letters_due" ["_law_row_here"] [] sp_ldu := ⟨_, _, ok_letters_due B ⟨PySem.W.mg_none_of X G hset⟩ F27, M27, p27, B27⟩
  have D28 : Df l.prog w K mg base CX0 3 "_law_pact_due" ["_law_letters_here", "_law_pacts", "_law_row_here"] [] sp_pdu := ⟨_, _, ok_pact_due B F28 D25, M28, p28, B28⟩
  have D29 : Df l.prog w K mg base CX0 4 "_law_due" ["_law_letters_here", "_law_pacts", "_law_row_here"] [] (sp_due K) := ⟨_, _, ok_due B F29 D27 D26 D28 D25, M29, p29, B29⟩
  have TA : TA92 K mg c_NoRow c_NoLetters c_NoOrder c_NoPact c_TooMany c_NoWord := ⟨PySem.W.mg_of X G g_NoRow, PySem.W.mg_of X G g_NoLetters, PySem.W.mg_of X G g_NoOrder, PySem.W.mg_of X G g_NoPact, PySem.W.mg_of X G g_TooMany, PySem.W.mg_of X G g_NoWord, XIr, XIl, XIo, XIp, XIm, XIw, zRR, zLR, zLL, zOR, zOL, zOO, zPR, zPL, zPO, zPP, zMR, zML, zMO, zMP, zMM, zWR, zWL, zWO, zWP, zWM, zWW, zRA, zHH, nwa⟩
  have D30 : Df l.prog w K mg base CX0 9 "_law_told" ["_law_desk", "_law_row_here"] [] (sp_ltold K c_Desk) := ⟨_, _, ok_told B CL TA F30 MM_desk_told, M30, p30, B30⟩
  exact ok_law B CL ⟨ks, kts⟩ F31 D16 D23 D29 D30 D15 MM_desk_init MM_desk_told
theorem walk {l : PySem.W.OpenLaw} {q : Program} {loose : List Str} {XP : (Str → Option Value) → Heap → Prop} {YP : World → Heap → Prop} {d : DefRec} {K : Params → PySem.W.Frag} (hn : l.most = some 63) (hdf : d.params.defaults = [])
    (hY : ∀ (w : World) (h : Heap), YP w h → (K w.params).In h)
    (F : ∀ (w : World) (mg : Str → Option Value) (fa : Addr) (h : Heap), (K w.params).In h → h.Ns mainGlobals mg → mg d.name = some (.ref fa) →
      ∃ fd : FuncData, (∀ (s : Shared) (u : Value), BindsTo s fd ⟨[u], []⟩ [("_law_script", u)]) ∧ ∀ base : Heap, (K w.params).In base → base.Ns mainGlobals mg → FnOk l.prog w (K w.params) mg base CX0 10 fa fd ["_law_script"] (sp_law (K w.params))) :
    PySem.W.WalkO q loose XP YP l.row.toRowW d [] (fun f vs => PySem.call f vs) :=
  L3.walk_ofB (n := 63) (k := 10) (x := "_law_script") (CX := fun _ => CX0) (sp := fun w => sp_law (K w.params)) hn (by decide) hdf ⟨rfl, by decide, by decide⟩ hY F (fun _ _ a ns hl hB hS => ⟨a, ns, rfl, hS, hB, fun _ => rfl⟩) fun _ _ _ _ _ z => z
end LL
noncomputable def PySem.W.Fast.tw914075165773045394 : Nat := 0
noncomputable def PySem.W.Fast.tw10159622607222946367 : Nat := 0
noncomputable def PySem.W.Fast.tw15899842719575789572 : Nat := 0
noncomputable def PySem.W.Fast.tw12968661850243623628 : Nat := 0
noncomputable def PySem.W.Fast.tw17853110456133019082 : Nat := 0
noncomputable def PySem.W.Fast.tw4162047501749175239 : Nat := 0
noncomputable def PySem.W.Fast.tw397980812787675320 : Nat := 0
noncomputable def PySem.W.Fast.tw5456730512362558101 : Nat := 0
noncomputable def PySem.W.Fast.tw2661036401948523996 : Nat := 0
noncomputable def PySem.W.Fast.tw13193203785775653800 : Nat := 0
noncomputable def PySem.W.Fast.tw8987786564680115369 : Nat := 0
noncomputable def PySem.W.Fast.tw13100396067181333487 : Nat := 0
noncomputable def PySem.W.Fast.tw9653049608316503748 : Nat := 0
noncomputable def PySem.W.Fast.tw12884536842059821219 : Nat := 0
noncomputable def PySem.W.Fast.tw4550558653003768836 : Nat := 0
noncomputable def PySem.W.Fast.tw1632099781270938169 : Nat := 0
noncomputable def PySem.W.Fast.tw10296622329228340122 : Nat := 0
noncomputable def PySem.W.Fast.tw14317071000391818859 : Nat := 0
noncomputable def PySem.W.Fast.tw14931330949607598408 : Nat := 0
noncomputable def PySem.W.Fast.tw14226623515237178974 : Nat := 0
noncomputable def PySem.W.Fast.tw17588250022773887980 : Nat := 0
noncomputable def PySem.W.Fast.tw13402406736246191434 : Nat := 0
noncomputable def PySem.W.Fast.tw14113458911852853647 : Nat := 0
noncomputable def PySem.W.Fast.tw13620428432493518342 : Nat := 0
noncomputable def PySem.W.Fast.tw14827202527245868185 : Nat := 0
noncomputable def PySem.W.Fast.tw14232311168821295551 : Nat := 0
noncomputable def PySem.W.Fast.tw2012133743276909423 : Nat := 0
noncomputable def PySem.W.Fast.tw7701657331745874035 : Nat := 0
noncomputable def PySem.W.Fast.tw3615037218733175612 : Nat := 0
noncomputable def PySem.W.Fast.tw11909113396455024939 : Nat := 0
noncomputable def PySem.W.Fast.tw1436342313715976277 : Nat := 0
noncomputable def PySem.W.Fast.tw1805843601189962582 : Nat := 0
noncomputable def PySem.W.Fast.tw8678566836318698779 : Nat := 0
noncomputable def PySem.W.Fast.tw18353835978873316649 : Nat := 0
noncomputable def PySem.W.Fast.tw10559032828896478801 : Nat := 0
noncomputable def PySem.W.Fast.tw14890837902273116697 : Nat := 0
noncomputable def PySem.W.Fast.tw1580257866267691060 : Nat := 0
noncomputable def PySem.W.Fast.tw14865862166617938442 : Nat := 0
noncomputable def PySem.W.Fast.tw17906478852895943662 : Nat := 0
noncomputable def PySem.W.Fast.tw4904370403024544038 : Nat := 0
noncomputable def PySem.W.Fast.tw1304084910139321071 : Nat := 0
noncomputable def PySem.W.Fast.tw12857590036214212013 : Nat := 0
noncomputable def PySem.W.Fast.tw9435913740222925323 : Nat := 0
noncomputable def PySem.W.Fast.tw5874426574008488876 : Nat := 0
noncomputable def PySem.W.Fast.tw16188167034525567619 : Nat := 0
noncomputable def PySem.W.Fast.tw5011247802293338735 : Nat := 0
noncomputable def PySem.W.Fast.tw16660550552099286500 : Nat := 0
noncomputable def PySem.W.Fast.tw16788088603289446472 : Nat := 0
noncomputable def PySem.W.Fast.tw3572233576548870406 : Nat := 0
noncomputable def PySem.W.Fast.tw17436227142367849547 : Nat := 0
noncomputable def PySem.W.Fast.tw6847955174234545058 : Nat := 0
noncomputable def PySem.W.Fast.tw12974425109071847981 : Nat := 0
noncomputable def PySem.W.Fast.tw6935685204964909955 : Nat := 0
noncomputable def PySem.W.Fast.tw6811085346967320289 : Nat := 0
noncomputable def PySem.W.Fast.tw9067538898812229583 : Nat := 0
noncomputable def PySem.W.Fast.tw14722080747783940190 : Nat := 0
noncomputable def PySem.W.Fast.tw8609973039914840823 : Nat := 0
noncomputable def PySem.W.Fast.tw12064180449819500285 : Nat := 0
noncomputable def PySem.W.Fast.tw15238443707935590720 : Nat := 0
noncomputable def PySem.W.Fast.tw2722835876142278782 : Nat := 0
noncomputable def PySem.W.Fast.tw13019215304948245508 : Nat := 0
noncomputable def PySem.W.Fast.tw9797015233935049991 : Nat := 0
noncomputable def PySem.W.Fast.tw13239739089191463282 : Nat := 0
noncomputable def PySem.W.Fast.tw16811035540603824611 : Nat := 0
noncomputable def PySem.W.Fast.tw7528713148363432489 : Nat := 0
noncomputable def PySem.W.Fast.tw6077738723429388838 : Nat := 0
noncomputable def PySem.W.Fast.tw3810730878580646935 : Nat := 0
noncomputable def PySem.W.Fast.tw7308920537522881495 : Nat := 0
noncomputable def PySem.W.Fast.tw10975706599236356586 : Nat := 0
noncomputable def PySem.W.Fast.tw10601626919794744175 : Nat := 0
noncomputable def PySem.W.Fast.tw16747750380806177275 : Nat := 0
noncomputable def PySem.W.Fast.tw14921517884604259822 : Nat := 0
noncomputable def PySem.W.Fast.tw1674674010242309508 : Nat := 0
noncomputable def PySem.W.Fast.tw15435120159423312633 : Nat := 0
noncomputable def PySem.W.Fast.tw972912041895576997 : Nat := 0
noncomputable def PySem.W.Fast.tw6018781775385568947 : Nat := 0
noncomputable def PySem.W.Fast.tw3929109756069688996 : Nat := 0
noncomputable def PySem.W.Fast.tw8734133249555824562 : Nat := 0
noncomputable def PySem.W.Fast.tw10675510584726244061 : Nat := 0
noncomputable def PySem.W.Fast.tw7604280325300620771 : Nat := 0
noncomputable def PySem.W.Fast.tw1676461069469524859 : Nat := 0
noncomputable def PySem.W.Fast.tw1074235793643959198 : Nat := 0
noncomputable def PySem.W.Fast.tw16133775239142459510 : Nat := 0
noncomputable def PySem.W.Fast.tw4836029394683315248 : Nat := 0
noncomputable def PySem.W.Fast.tw760642750023815959 : Nat := 0
noncomputable def PySem.W.Fast.tw11195301099597889038 : Nat := 0
noncomputable def PySem.W.Fast.tw3451211176337625601 : Nat := 0
noncomputable def PySem.W.Fast.tw17770774631971108246 : Nat := 0
noncomputable def PySem.W.Fast.tw7025579529975080804 : Nat := 0
noncomputable def PySem.W.Fast.tw8154245081268053656 : Nat := 0
noncomputable def PySem.W.Fast.tw16479696791327095822 : Nat := 0
noncomputable def PySem.W.Fast.tw5072953935753688698 : Nat := 0
noncomputable def PySem.W.Fast.tw12615304387564859776 : Nat := 0
noncomputable def PySem.W.Fast.tw5784462969967891196 : Nat := 0
noncomputable def PySem.W.Fast.tw8632430505580408940 : Nat := 0
noncomputable def PySem.W.Fast.tw8317143145527699713 : Nat := 0
noncomputable def PySem.W.Fast.tw9295485437866299265 : Nat := 0
noncomputable def PySem.W.Fast.tw13314566347689933699 : Nat := 0
noncomputable def PySem.W.Fast.tw6299533710174419924 : Nat := 0
noncomputable def PySem.W.Fast.tw9984403241654018917 : Nat := 0
noncomputable def PySem.W.Fast.tw15079093662985072009 : Nat := 0
noncomputable def PySem.W.Fast.tw1325061819271721510 : Nat := 0
noncomputable def PySem.W.Fast.tw15880226985655581317 : Nat := 0
noncomputable def PySem.W.Fast.tw13960206311351629091 : Nat := 0
noncomputable def PySem.W.Fast.tw247986264305787462 : Nat := 0
noncomputable def PySem.W.Fast.tw4887443443960042632 : Nat := 0
noncomputable def PySem.W.Fast.tw2252122951045741956 : Nat := 0
noncomputable def PySem.W.Fast.tw10502064682436767655 : Nat := 0
noncomputable def PySem.W.Fast.tw16599561273183653917 : Nat := 0
noncomputable def PySem.W.Fast.tw9358921298177031012 : Nat := 0
noncomputable def PySem.W.Fast.tw6064254497126240875 : Nat := 0
noncomputable def PySem.W.Fast.tw10307729737249133292 : Nat := 0
noncomputable def PySem.W.Fast.tw4904339505387724252 : Nat := 0
noncomputable def PySem.W.Fast.tw6738465948729562995 : Nat := 0
noncomputable def PySem.W.Fast.tw17399617084630888897 : Nat := 0
noncomputable def PySem.W.Fast.tw14969815573759162218 : Nat := 0
noncomputable def PySem.W.Fast.tw11350861551825403129 : Nat := 0
noncomputable def PySem.W.Fast.tw15635955350524932934 : Nat := 0
noncomputable def PySem.W.Fast.tw4896542471385275382 : Nat := 0
noncomputable def PySem.W.Fast.tw14472421534778786848 : Nat := 0
noncomputable def PySem.W.Fast.tw9725668776244073327 : Nat := 0
noncomputable def PySem.W.Fast.tw14112103712371793157 : Nat := 0
noncomputable def PySem.W.Fast.tw6310392992299409945 : Nat := 0
noncomputable def PySem.W.Fast.tw16565457152667292044 : Nat := 0
noncomputable def PySem.W.Fast.tw127340912088896061 : Nat := 0
noncomputable def PySem.W.Fast.tw639509331373901152 : Nat := 0
noncomputable def PySem.W.Fast.tw5807614293342901681 : Nat := 0
noncomputable def PySem.W.Fast.tw17846657886275018522 : Nat := 0
noncomputable def PySem.W.Fast.tw15802755260655761444 : Nat := 0
noncomputable def PySem.W.Fast.tw4327695805976099485 : Nat := 0
noncomputable def PySem.W.Fast.tw592587466241781935 : Nat := 0
noncomputable def PySem.W.Fast.tw15681823948288807324 : Nat := 0
noncomputable def PySem.W.Fast.tw3478936400762188737 : Nat := 0
noncomputable def PySem.W.Fast.tw6965812964316546230 : Nat := 0
noncomputable def PySem.W.Fast.tw699436896480230502 : Nat := 0
noncomputable def PySem.W.Fast.tw4227927938509583253 : Nat := 0
noncomputable def PySem.W.Fast.tw2548674279894614104 : Nat := 0
noncomputable def PySem.W.Fast.tw11473670855577287695 : Nat := 0
noncomputable def PySem.W.Fast.tw5934842509330969787 : Nat := 0
noncomputable def PySem.W.Fast.tw4818171513019433272 : Nat := 0
noncomputable def PySem.W.Fast.tw13300623091669022565 : Nat := 0
noncomputable def PySem.W.Fast.tw10132686511437758014 : Nat := 0
noncomputable def PySem.W.Fast.tw1999090811777795182 : Nat := 0
noncomputable def PySem.W.Fast.tw2742914306006400399 : Nat := 0
noncomputable def PySem.W.Fast.tw8512649634411872870 : Nat := 0
noncomputable def PySem.W.Fast.tw15037294021063634247 : Nat := 0
noncomputable def PySem.W.Fast.tw82801089870583882 : Nat := 0
noncomputable def PySem.W.Fast.tw4050973299827500451 : Nat := 0
noncomputable def PySem.W.Fast.tw16574323977588688245 : Nat := 0
noncomputable def PySem.W.Fast.tw7067087492396493857 : Nat := 0
noncomputable def PySem.W.Fast.tw17032058686968099826 : Nat := 0
noncomputable def PySem.W.Fast.tw8216989777388454068 : Nat := 0
noncomputable def PySem.W.Fast.tw11270109152787951812 : Nat := 0
noncomputable def PySem.W.Fast.tw5995352683377450121 : Nat := 0
noncomputable def PySem.W.Fast.tw12787179796686606513 : Nat := 0
noncomputable def PySem.W.Fast.tw2376161616026749958 : Nat := 0
noncomputable def PySem.W.Fast.tw12247996329891099357 : Nat := 0
noncomputable def PySem.W.Fast.tw15651079570450592377 : Nat := 0
noncomputable def PySem.W.Fast.tw804821421162065595 : Nat := 0
noncomputable def PySem.W.Fast.tw4057213975731345913 : Nat := 0
noncomputable def PySem.W.Fast.tw5551465379687478550 : Nat := 0
noncomputable def PySem.W.Fast.tw9961522540428895043 : Nat := 0
noncomputable def PySem.W.Fast.tw13065774061099765591 : Nat := 0
noncomputable def PySem.W.Fast.tw6712468719267837864 : Nat := 0
noncomputable def PySem.W.Fast.tw3213181548241082884 : Nat := 0
noncomputable def PySem.W.Fast.tw2477827747930348719 : Nat := 0
noncomputable def PySem.W.Fast.tw8056068369647203937 : Nat := 0
noncomputable def PySem.W.Fast.tw4718937530125727526 : Nat := 0
noncomputable def PySem.W.Fast.tw4464154236803769102 : Nat := 0
noncomputable def PySem.W.Fast.tw9507129249518836372 : Nat := 0
noncomputable def PySem.W.Fast.tw8957252843010327550 : Nat := 0
noncomputable def PySem.W.Fast.tw9071037634304300961 : Nat := 0
noncomputable def PySem.W.Fast.tw5480141997850158064 : Nat := 0
noncomputable def PySem.W.Fast.tw4926814225509593216 : Nat := 0
noncomputable def PySem.W.Fast.tw9902738159021940576 : Nat := 0
noncomputable def PySem.W.Fast.tw3126366222175893464 : Nat := 0
noncomputable def PySem.W.Fast.tw3950946063667378538 : Nat := 0
noncomputable def PySem.W.Fast.tw7686113171330561379 : Nat := 0
noncomputable def PySem.W.Fast.tw3967325098745306813 : Nat := 0
noncomputable def PySem.W.Fast.tw5320084696510980907 : Nat := 0
noncomputable def PySem.W.Fast.tw16255712804943385982 : Nat := 0
noncomputable def PySem.W.Fast.tw12828236055395256460 : Nat := 0
noncomputable def PySem.W.Fast.tw4217046277884205624 : Nat := 0
noncomputable def PySem.W.Fast.tw15618866204711074457 : Nat := 0
noncomputable def PySem.W.Fast.tw10159460522056135221 : Nat := 0
noncomputable def PySem.W.Fast.tw11582901046282512444 : Nat := 0
noncomputable def PySem.W.Fast.tw9663287868354762592 : Nat := 0
noncomputable def PySem.W.Fast.tw5169408592365888084 : Nat := 0
noncomputable def PySem.W.Fast.tw5507151433282602193 : Nat := 0
noncomputable def PySem.W.Fast.tw15259820828626232635 : Nat := 0
noncomputable def PySem.W.Fast.tw5713097923549949340 : Nat := 0
noncomputable def PySem.W.Fast.tw8417271101659821310 : Nat := 0
noncomputable def PySem.W.Fast.tw103698677366555769 : Nat := 0
noncomputable def PySem.W.Fast.tw14390376866319261674 : Nat := 0
noncomputable def PySem.W.Fast.tw6719547133913220323 : Nat := 0
noncomputable def PySem.W.Fast.tw17295180190175105938 : Nat := 0
noncomputable def PySem.W.Fast.tw5624345096096049609 : Nat := 0
noncomputable def PySem.W.Fast.tw2472294019196524639 : Nat := 0
noncomputable def PySem.W.Fast.tw9852750845066317445 : Nat := 0
noncomputable def PySem.W.Fast.tw16669533645865187040 : Nat := 0
noncomputable def PySem.W.Fast.tw12806776935552232659 : Nat := 0
noncomputable def PySem.W.Fast.tw11749972541683960464 : Nat := 0
noncomputable def PySem.W.Fast.tw14400939925330223952 : Nat := 0
noncomputable def PySem.W.Fast.tw9377189337628358575 : Nat := 0
noncomputable def PySem.W.Fast.tw16276947485560094818 : Nat := 0
noncomputable def PySem.W.Fast.tw6643509423542711907 : Nat := 0
noncomputable def PySem.W.Fast.tw6951673562231914513 : Nat := 0
noncomputable def PySem.W.Fast.tw9122620956190097166 : Nat := 0
noncomputable def PySem.W.Fast.tw15333526462660906245 : Nat := 0
noncomputable def PySem.W.Fast.tw13437952232726499294 : Nat := 0
noncomputable def PySem.W.Fast.tw3794183942012893924 : Nat := 0
noncomputable def PySem.W.Fast.tw346063486311567376 : Nat := 0
noncomputable def PySem.W.Fast.tw17366006423518510790 : Nat := 0
noncomputable def PySem.W.Fast.tw6369455710681817124 : Nat := 0
noncomputable def PySem.W.Fast.tw15617376729525559344 : Nat := 0
noncomputable def PySem.W.Fast.tw3536439859940101001 : Nat := 0
noncomputable def PySem.W.Fast.tw7369030690005641764 : Nat := 0
noncomputable def PySem.W.Fast.tw11068862944673749808 : Nat := 0
noncomputable def PySem.W.Fast.tw6087627642580352863 : Nat := 0
noncomputable def PySem.W.Fast.tw11734229363442416407 : Nat := 0
noncomputable def PySem.W.Fast.tw8416497860951091702 : Nat := 0
noncomputable def PySem.W.Fast.tw17193398642904259724 : Nat := 0
noncomputable def PySem.W.Fast.tw12562010466268505088 : Nat := 0
noncomputable def PySem.W.Fast.tw7236620441355500852 : Nat := 0
noncomputable def PySem.W.Fast.tw7645922691777707902 : Nat := 0
noncomputable def PySem.W.Fast.tw179293863523888749 : Nat := 0
noncomputable def PySem.W.Fast.tw9622716287611559486 : Nat := 0
noncomputable def PySem.W.Fast.tw4498045909396540857 : Nat := 0
noncomputable def PySem.W.Fast.tw3740548270941181278 : Nat := 0
noncomputable def PySem.W.Fast.tw6297135277132794516 : Nat := 0
noncomputable def PySem.W.Fast.tw13852571193820523885 : Nat := 0
noncomputable def PySem.W.Fast.tw9207410761020919513 : Nat := 0
noncomputable def PySem.W.Fast.tw1978074331078220689 : Nat := 0
noncomputable def PySem.W.Fast.tw2872055802404464218 : Nat := 0
noncomputable def PySem.W.Fast.tw1702321097728170144 : Nat := 0
noncomputable def PySem.W.Fast.tw6705056387399199482 : Nat := 0
noncomputable def PySem.W.Fast.tw3160078410476597204 : Nat := 0
noncomputable def PySem.W.Fast.tw16805875255821041796 : Nat := 0
noncomputable def PySem.W.Fast.tw5138880144031663122 : Nat := 0
noncomputable def PySem.W.Fast.tw9920677851764926965 : Nat := 0
noncomputable def PySem.W.Fast.tw16992727041065962463 : Nat := 0
noncomputable def PySem.W.Fast.tw1976595130318393064 : Nat := 0
noncomputable def PySem.W.Fast.tw11364399180740068726 : Nat := 0
noncomputable def PySem.W.Fast.tw2629767656842996271 : Nat := 0
noncomputable def PySem.W.Fast.tw12894884494168010822 : Nat := 0
noncomputable def PySem.W.Fast.tw17602334012307479907 : Nat := 0
noncomputable def PySem.W.Fast.tw12507402088596300178 : Nat := 0
noncomputable def PySem.W.Fast.tw10558704080489344048 : Nat := 0
noncomputable def PySem.W.Fast.tw11627194649057674656 : Nat := 0
noncomputable def PySem.W.Fast.tw12908786974264081443 : Nat := 0
noncomputable def PySem.W.Fast.tw1554947109933037933 : Nat := 0
noncomputable def PySem.W.Fast.tw4233576616226193036 : Nat := 0
noncomputable def PySem.W.Fast.tw17530968250353324362 : Nat := 0
noncomputable def PySem.W.Fast.tw7554533409883184445 : Nat := 0
noncomputable def PySem.W.Fast.tw15698501201182590219 : Nat := 0
noncomputable def PySem.W.Fast.tw4251808408449414623 : Nat := 0
noncomputable def PySem.W.Fast.tw5120767063664236153 : Nat := 0
noncomputable def PySem.W.Fast.tw7893891518806988930 : Nat := 0
noncomputable def PySem.W.Fast.tw17460888762773321906 : Nat := 0
noncomputable def PySem.W.Fast.tw14998105313509769906 : Nat := 0
noncomputable def PySem.W.Fast.tw3405408653343217737 : Nat := 0
noncomputable def PySem.W.Fast.tw12968220000137461522 : Nat := 0
noncomputable def PySem.W.Fast.tw16350520033540561101 : Nat := 0
noncomputable def PySem.W.Fast.tw10011258515892094878 : Nat := 0
noncomputable def PySem.W.Fast.tw10828082345156761887 : Nat := 0
noncomputable def PySem.W.Fast.tw7205040394698328685 : Nat := 0
noncomputable def PySem.W.Fast.tw3467938893815070850 : Nat := 0
noncomputable def PySem.W.Fast.tw16732426406980860725 : Nat := 0
noncomputable def PySem.W.Fast.tw4563603618126776245 : Nat := 0
noncomputable def PySem.W.Fast.tw6695374654198394305 : Nat := 0
noncomputable def PySem.W.Fast.tw11718370817252478315 : Nat := 0
noncomputable def PySem.W.Fast.tw5317700192780323468 : Nat := 0
noncomputable def PySem.W.Fast.tw10744564660639617064 : Nat := 0
noncomputable def PySem.W.Fast.tw5626983611356723512 : Nat := 0
noncomputable def PySem.W.Fast.tw699539067329114430 : Nat := 0
noncomputable def PySem.W.Fast.tw460627397365908632 : Nat := 0
noncomputable def PySem.W.Fast.tw17851114396045717328 : Nat := 0
noncomputable def PySem.W.Fast.tw3891672187455379731 : Nat := 0
noncomputable def PySem.W.Fast.tw2299739415972360857 : Nat := 0
noncomputable def PySem.W.Fast.tw6875285323702522162 : Nat := 0
noncomputable def PySem.W.Fast.tw18375406150855389590 : Nat := 0
noncomputable def PySem.W.Fast.tw12451834035524759653 : Nat := 0
noncomputable def PySem.W.Fast.tw783558083574518987 : Nat := 0
noncomputable def PySem.W.Fast.tw9701720446655137228 : Nat := 0
noncomputable def PySem.W.Fast.tw15586727344989519830 : Nat := 0
noncomputable def PySem.W.Fast.tw14216311215086918003 : Nat := 0
noncomputable def PySem.W.Fast.tw16873125896353237760 : Nat := 0
noncomputable def PySem.W.Fast.tw14367016090105574878 : Nat := 0
noncomputable def PySem.W.Fast.tw4020888170082352197 : Nat := 0
noncomputable def PySem.W.Fast.tw1189418310541114485 : Nat := 0
noncomputable def PySem.W.Fast.tw837068701607920534 : Nat := 0
noncomputable def PySem.W.Fast.tw8305950010116329545 : Nat := 0
noncomputable def PySem.W.Fast.tw12280377850363156527 : Nat := 0
noncomputable def PySem.W.Fast.tw1392297469659824407 : Nat := 0
noncomputable def PySem.W.Fast.tw4331946210745099152 : Nat := 0
noncomputable def PySem.W.Fast.tw1234549191365586725 : Nat := 0
noncomputable def PySem.W.Fast.tw13116093853808310518 : Nat := 0
noncomputable def PySem.W.Fast.tw15243593705173083815 : Nat := 0
noncomputable def PySem.W.Fast.tw12327581244795322728 : Nat := 0
noncomputable def PySem.W.Fast.tw3135339521056211537 : Nat := 0
noncomputable def PySem.W.Fast.tw481698692661017318 : Nat := 0
noncomputable def PySem.W.Fast.tw8719877518855020789 : Nat := 0
noncomputable def PySem.W.Fast.tw14001491892780909285 : Nat := 0
noncomputable def PySem.W.Fast.tw6442126646212937319 : Nat := 0
noncomputable def PySem.W.Fast.tw8339757436211200261 : Nat := 0
noncomputable def PySem.W.Fast.tw15588406130055041968 : Nat := 0
noncomputable def PySem.W.Fast.tw3645318693069777114 : Nat := 0
noncomputable def PySem.W.Fast.tw3181576896330822911 : Nat := 0
noncomputable def PySem.W.Fast.tw6311635481986808032 : Nat := 0
noncomputable def PySem.W.Fast.tw18170564997841114072 : Nat := 0
noncomputable def PySem.W.Fast.tw1970353174393463700 : Nat := 0
noncomputable def PySem.W.Fast.tw8494424826256188037 : Nat := 0
noncomputable def PySem.W.Fast.tw14487828132534273705 : Nat := 0
noncomputable def PySem.W.Fast.tw14620452323495480542 : Nat := 0
noncomputable def PySem.W.Fast.tw13212140640004271597 : Nat := 0
noncomputable def PySem.W.Fast.tw7260759940624440645 : Nat := 0
noncomputable def PySem.W.Fast.tw8608268276114728678 : Nat := 0
noncomputable def PySem.W.Fast.tw2730151469780729677 : Nat := 0
noncomputable def PySem.W.Fast.tw6324433125600237322 : Nat := 0
noncomputable def PySem.W.Fast.tw4910781594059989504 : Nat := 0
noncomputable def PySem.W.Fast.tw2043783995739329476 : Nat := 0
noncomputable def PySem.W.Fast.tw9409823283751642550 : Nat := 0
noncomputable def PySem.W.Fast.tw14031878785587551092 : Nat := 0
noncomputable def PySem.W.Fast.tw4554089686474064621 : Nat := 0
noncomputable def PySem.W.Fast.tw18144789942751690895 : Nat := 0
noncomputable def PySem.W.Fast.tw15411957231238122127 : Nat := 0
noncomputable def PySem.W.Fast.tw10804413783458951127 : Nat := 0
noncomputable def PySem.W.Fast.tw13758570365561174967 : Nat := 0
noncomputable def PySem.W.Fast.tw14767528512793559233 : Nat := 0
noncomputable def PySem.W.Fast.tw15627193364912692190 : Nat := 0
noncomputable def PySem.W.Fast.tw5940392399778715343 : Nat := 0
noncomputable def PySem.W.Fast.tw2354916278991297697 : Nat := 0
noncomputable def PySem.W.Fast.tw11825786343966429977 : Nat := 0
open PySem PySem.W PyProof.Rows
set_option maxRecDepth 100000 in
set_option maxHeartbeats 0 in
theorem PySem.Challenge.cw_letterlaw_k92_refused_holds : PySem.Challenge.rw_letterlaw_k92_refused.Holds := by
  w_on; o_law; k_head; (case hw => w_witness2)
  k_fill
  refine LL.walk (l := PySem.Challenge.rw_letterlaw_k92_refused) rfl rfl (fun w h Y => PySem.W.km_in_of Y) ?F
  case F =>
    intro w mg fa h KX G hmg
    refine' LL.all_mk KX G hmg ?a0 ?a1 ?a2 ?l2 ?k2 ?p2 ?a3 ?l3 ?k3 ?p3 ?a4 ?l4 ?k4 ?p4 ?a5 ?a6 ?a7 ?a8 ?a9 ?a10 ?a11 ?a12 ?a13 ?a14 ?a15 ?a16 ?a17 ?a18 ?a19 ?a20 ?a21 ?a22 ?a23 ?a24 ?a25 ?a26 ?a27 ?a28 ?a29 ?a30 ?a31 ?l31 ?k31 ?p31 ?g_NoLetters ?g_NoOrder ?g_Order ?g_FromRight ?g_ByWeights ?g_NoWord ?g_NoPact ?g_NoRow ?g_TooMany ?g_Desk ?kbb ?ks ?x7 ?x8 ?x1 ?x2 ?x3 ?x4 ?x5 ?x6 ?x9 ?xi ?y1 ?y2 ?y3 ?y4 ?y5 ?y6 ?y9 ?yi ?most ?mostw ?pg_Order ?hd_Order ?po_Order ?sa_Order ?mk_Order ?kc_Order ?nl_Order ?ka_Order ?cl_Order ?mr_Order ?pg_FromRight ?hd_FromRight ?po_FromRight ?sa_FromRight ?mk_FromRight ?kc_FromRight ?nl_FromRight ?ka_FromRight ?cl_FromRight ?mr_FromRight ?pg_ByWeights ?hd_ByWeights ?po_ByWeights ?sa_ByWeights ?mk_ByWeights ?kc_ByWeights ?nl_ByWeights ?ka_ByWeights ?cl_ByWeights ?mr_ByWeights ?nw_ByWeights ?sgO ?rdO ?gEm ?gBe ?gFi ?gM7 ?gLe ?gWe ?gPa ?gFo ?gAs ?gM8 ?gM10 ?gM20 ?gMR3 ?nw1 ?nw2 ?nw3 ?nw4 ?nw5 ?nw6 ?nw9 ?np1 ?np2 ?np3 ?np4 ?np5 ?np6 ?np9 ?npi ?nr1 ?nr2 ?nr3 ?nr4 ?nr5 ?nr6 ?nr9 ?nri ?tm1 ?tm2 ?tm3 ?tm4 ?tm5 ?tm6 ?tm9 ?tmi ?nwa ?nwin ?lW ?kW ?pW ?fnW ?pg_Desk ?hd_Desk ?po_Desk ?sa_Desk ?mk_Desk ?kc_Desk ?no_Desk ?np_Desk ?zRR ?zLR ?zLL ?zOR ?zOL ?zOO ?zPR ?zPL ?zPO ?zPP ?zMR ?zML ?zMO ?zMP ?zMM ?zWR ?zWL ?zWO ?zWP ?zWM ?zWW ?zRA ?zHH ?kts ?hset ?fi_order_init ?lo_order_init ?fn_order_init ?fi_byweights_init ?lo_byweights_init ?fn_byweights_init ?fi_desk_init ?lo_desk_init ?fn_desk_init ?fi_desk_begun ?lo_desk_begun ?fn_desk_begun ?fi_desk_ordered ?lo_desk_ordered ?fn_desk_ordered ?fi_desk_agreed ?lo_desk_agreed ?fn_desk_agreed ?fi_desk_dropped ?lo_desk_dropped ?fn_desk_dropped ?fi_desk_completion ?lo_desk_completion ?fn_desk_completion ?fi_desk_formed ?lo_desk_formed ?fn_desk_formed ?fi_desk_asked ?lo_desk_asked ?fn_desk_asked ?fi_desk_told ?lo_desk_told ?fn_desk_told ?dl_word_of ?dl_read_word ?dl_read_pact ?fcO ?fiR_init ?b0 ?b1 ?b2 ?b3 ?b4 ?b5 ?b6 ?b7 ?b8 ?b9 ?b10 ?b11 ?b12 ?b13 ?b14 ?b15
    (case a0 => exact ⟨by k_is, _, L2.fun_mk (by k_is) (by k_is) (by k_is)⟩)
    (case a1 => exact ⟨by k_is, _, L2.fun_mk (by k_is) (by k_is) (by k_is)⟩)
    (case a2 => k_is)
    (case l2 => k_is)
    (case k2 => k_is)
    (case p2 => k_is)
    (case a3 => k_is)
    (case l3 => k_is)
    (case k3 => k_is)
    (case p3 => k_is)
    (case a4 => k_is)
    (case l4 => k_is)
    (case k4 => k_is)
    (case p4 => k_is)
    (case a5 => exact ⟨by k_is, _, L2.fun_mk (by k_is) (by k_is) (by k_is)⟩)
    (case a6 => exact ⟨by k_is, _, L2.fun_mk (by k_is) (by k_is) (by k_is)⟩)
    (case a7 => exact ⟨by k_is, _, L2.fun_mk (by k_is) (by k_is) (by k_is)⟩)
    (case a8 => exact ⟨by k_is, _, L2.fun_mk (by k_is) (by k_is) (by k_is)⟩)
    (case a9 => exact ⟨by k_is, _, L2.fun_mk (by k_is) (by k_is) (by k_is)⟩)
    (case a10 => exact ⟨by k_is, _, L2.fun_mk (by k_is) (by k_is) (by k_is)⟩)
    (case a11 => exact ⟨by k_is, _, L2.fun_mk (by k_is) (by k_is) (by k_is)⟩)
    (case a12 => exact ⟨by k_is, _, L2.fun_mk (by k_is) (by k_is) (by k_is)⟩)
    (case a13 => exact ⟨by k_is, _, L2.fun_mk (by k_is) (by k_is) (by k_is)⟩)
    (case a14 => exact ⟨by k_is, _, L2.fun_mk (by k_is) (by k_is) (by k_is)⟩)
    (case a15 => exact ⟨by k_is, _, L2.fun_mk (by k_is) (by k_is) (by k_is)⟩)
    (case a16 => exact ⟨by k_is, _, L2.fun_mk (by k_is) (by k_is) (by k_is)⟩)
    (case a17 => exact ⟨by k_is, _, L2.fun_mk (by k_is) (by k_is) (by k_is)⟩)
    (case a18 => exact ⟨by k_is, _, L2.fun_mk (by k_is) (by k_is) (by k_is)⟩)
    (case a19 => exact ⟨by k_is, _, L2.fun_mk (by k_is) (by k_is) (by k_is)⟩)
    (case a20 => exact ⟨by k_is, _, L2.fun_mk (by k_is) (by k_is) (by k_is)⟩)
    (case a21 => exact ⟨by k_is, _, L2.fun_mk (by k_is) (by k_is) (by k_is)⟩)
    (case a22 => exact ⟨by k_is, _, L2.fun_mk (by k_is) (by k_is) (by k_is)⟩)
    (case a23 => exact ⟨by k_is, _, L2.fun_mk (by k_is) (by k_is) (by k_is)⟩)
    (case a24 => exact ⟨by k_is, _, L2.fun_mk (by k_is) (by k_is) (by k_is)⟩)
    (case a25 => exact ⟨by k_is, _, L2.fun_mk (by k_is) (by k_is) (by k_is)⟩)
    (case a26 => exact ⟨by k_is, _, L2.fun_mk (by k_is) (by k_is) (by k_is)⟩)
    (case a27 => exact ⟨by k_is, _, L2.fun_mk (by k_is) (by k_is) (by k_is)⟩)
    (case a28 => exact ⟨by k_is, _, L2.fun_mk (by k_is) (by k_is) (by k_is)⟩)
    (case a29 => exact ⟨by k_is, _, L2.fun_mk (by k_is) (by k_is) (by k_is)⟩)
    (case a30 => exact ⟨by k_is, _, L2.fun_mk (by k_is) (by k_is) (by k_is)⟩)
    (case a31 => k_is)
    (case l31 => k_is)
    (case k31 => k_is)
    (case p31 => k_is)
    (case g_NoLetters => k_is)
    (case g_NoOrder => k_is)
    (case g_Order => k_is)
    (case g_FromRight => k_is)
    (case g_ByWeights => k_is)
    (case g_NoWord => k_is)
    (case g_NoPact => k_is)
    (case g_NoRow => k_is)
    (case g_TooMany => k_is)
    (case g_Desk => k_is)
    (case kbb => first | kernel_rfl | rfl)
    (case ks => first | kernel_rfl | rfl)
    (case x7 => k_is)
    (case x8 => k_is)
    (case x1 => first | kernel_rfl | rfl | decide +kernel)
    (case x2 => k_is)
    (case x3 => k_is)
    (case x4 => k_is)
    (case x5 => k_is)
    (case x6 => k_is)
    (case x9 => k_is)
    (case xi => k_is)
    (case y1 => first | kernel_rfl | rfl | decide +kernel)
    (case y2 => k_is)
    (case y3 => k_is)
    (case y4 => k_is)
    (case y5 => k_is)
    (case y6 => k_is)
    (case y9 => k_is)
    (case yi => k_is)
    (case most => k_is)
    (case mostw => k_is)
    (case pg_Order => first | kernel_rfl | rfl | k_is | decide +kernel)
    (case hd_Order => first | kernel_rfl | rfl | k_is)
    (case po_Order => first | kernel_rfl | rfl | k_is | decide +kernel)
    (case sa_Order => k_is)
    (case mk_Order => first | kernel_rfl | rfl | k_is | decide +kernel)
    (case kc_Order => k_is)
    (case nl_Order => k_is)
    (case ka_Order => first | kernel_rfl | rfl)
    (case cl_Order => k_is)
    (case mr_Order => k_is)
    (case pg_FromRight => first | kernel_rfl | rfl | k_is | decide +kernel)
    (case hd_FromRight => first | kernel_rfl | rfl | k_is)
    (case po_FromRight => first | kernel_rfl | rfl | k_is | decide +kernel)
    (case sa_FromRight => k_is)
    (case mk_FromRight => first | kernel_rfl | rfl | k_is | decide +kernel)
    (case kc_FromRight => k_is)
    (case nl_FromRight => k_is)
    (case ka_FromRight => first | kernel_rfl | rfl)
    (case cl_FromRight => k_is)
    (case mr_FromRight => k_is)
    (case pg_ByWeights => first | kernel_rfl | rfl | k_is | decide +kernel)
    (case hd_ByWeights => first | kernel_rfl | rfl | k_is)
    (case po_ByWeights => first | kernel_rfl | rfl | k_is | decide +kernel)
    (case sa_ByWeights => k_is)
    (case mk_ByWeights => first | kernel_rfl | rfl | k_is | decide +kernel)
    (case kc_ByWeights => k_is)
    (case nl_ByWeights => k_is)
    (case ka_ByWeights => first | kernel_rfl | rfl)
    (case cl_ByWeights => k_is)
    (case mr_ByWeights => k_is)
    (case nw_ByWeights => k_is)
    (case sgO => k_is)
    (case rdO => first | kernel_rfl | rfl | k_is | decide +kernel)
    (case gEm => k_is)
    (case gBe => k_is)
    (case gFi => k_is)
    (case gM7 => k_is)
    (case gLe => k_is)
    (case gWe => k_is)
    (case gPa => k_is)
    (case gFo => k_is)
    (case gAs => k_is)
    (case gM8 => k_is)
    (case gM10 => k_is)
    (case gM20 => k_is)
    (case gMR3 => k_is)
    (case nw1 => first | kernel_rfl | rfl | decide +kernel)
    (case nw2 => k_is)
    (case nw3 => k_is)
    (case nw4 => k_is)
    (case nw5 => k_is)
    (case nw6 => k_is)
    (case nw9 => k_is)
    (case np1 => first | kernel_rfl | rfl | decide +kernel)
    (case np2 => k_is)
    (case np3 => k_is)
    (case np4 => k_is)
    (case np5 => k_is)
    (case np6 => k_is)
    (case np9 => k_is)
    (case npi => k_is)
    (case nr1 => first | kernel_rfl | rfl | decide +kernel)
    (case nr2 => k_is)
    (case nr3 => k_is)
    (case nr4 => k_is)
    (case nr5 => k_is)
    (case nr6 => k_is)
    (case nr9 => k_is)
    (case nri => k_is)
    (case tm1 => first | kernel_rfl | rfl | decide +kernel)
    (case tm2 => k_is)
    (case tm3 => k_is)
    (case tm4 => k_is)
    (case tm5 => k_is)
    (case tm6 => k_is)
    (case tm9 => k_is)
    (case tmi => k_is)
    (case nwa => k_is)
    (case nwin => k_is)
    (case lW => k_is)
    (case kW => k_is)
    (case pW => k_is)
    (case fnW => first | kernel_rfl | rfl | k_is)
    (case pg_Desk => first | kernel_rfl | rfl | k_is | decide +kernel)
    (case hd_Desk => first | kernel_rfl | rfl | k_is)
    (case po_Desk => first | kernel_rfl | rfl | k_is | decide +kernel)
    (case sa_Desk => k_is)
    (case mk_Desk => first | kernel_rfl | rfl | k_is | decide +kernel)
    (case kc_Desk => k_is)
    (case no_Desk => k_is)
    (case np_Desk => k_is)
    (case zRR => k_is)
    (case zLR => k_is)
    (case zLL => k_is)
    (case zOR => k_is)
    (case zOL => k_is)
    (case zOO => k_is)
    (case zPR => k_is)
    (case zPL => k_is)
    (case zPO => k_is)
    (case zPP => k_is)
    (case zMR => k_is)
    (case zML => k_is)
    (case zMO => k_is)
    (case zMP => k_is)
    (case zMM => k_is)
    (case zWR => k_is)
    (case zWL => k_is)
    (case zWO => k_is)
    (case zWP => k_is)
    (case zWM => k_is)
    (case zWW => k_is)
    (case zRA => first | kernel_rfl | rfl)
    (case zHH => first | kernel_rfl | rfl | k_is)
    (case kts => first | kernel_rfl | rfl)
    (case hset => k_is)
    (case fi_order_init => k_is)
    (case lo_order_init => exact ⟨_, L2.fun_mk (by k_is) (by k_is) (by k_is)⟩)
    (case fn_order_init => first | kernel_rfl | rfl | k_is)
    (case fi_byweights_init => k_is)
    (case lo_byweights_init => exact ⟨_, L2.fun_mk (by k_is) (by k_is) (by k_is)⟩)
    (case fn_byweights_init => first | kernel_rfl | rfl | k_is)
    (case fi_desk_init => k_is)
    (case lo_desk_init => exact ⟨_, L2.fun_mk (by k_is) (by k_is) (by k_is)⟩)
    (case fn_desk_init => first | kernel_rfl | rfl | k_is)
    (case fi_desk_begun => k_is)
    (case lo_desk_begun => exact ⟨_, L2.fun_mk (by k_is) (by k_is) (by k_is)⟩)
    (case fn_desk_begun => first | kernel_rfl | rfl | k_is)
    (case fi_desk_ordered => k_is)
    (case lo_desk_ordered => exact ⟨_, L2.fun_mk (by k_is) (by k_is) (by k_is)⟩)
    (case fn_desk_ordered => first | kernel_rfl | rfl | k_is)
    (case fi_desk_agreed => k_is)
    (case lo_desk_agreed => exact ⟨_, L2.fun_mk (by k_is) (by k_is) (by k_is)⟩)
    (case fn_desk_agreed => first | kernel_rfl | rfl | k_is)
    (case fi_desk_dropped => k_is)
    (case lo_desk_dropped => exact ⟨_, L2.fun_mk (by k_is) (by k_is) (by k_is)⟩)
    (case fn_desk_dropped => first | kernel_rfl | rfl | k_is)
    (case fi_desk_completion => k_is)
    (case lo_desk_completion => exact ⟨_, L2.fun_mk (by k_is) (by k_is) (by k_is)⟩)
    (case fn_desk_completion => first | kernel_rfl | rfl | k_is)
    (case fi_desk_formed => k_is)
    (case lo_desk_formed => exact ⟨_, L2.fun_mk (by k_is) (by k_is) (by k_is)⟩)
    (case fn_desk_formed => first | kernel_rfl | rfl | k_is)
    (case fi_desk_asked => k_is)
    (case lo_desk_asked => exact ⟨_, L2.fun_mk (by k_is) (by k_is) (by k_is)⟩)
    (case fn_desk_asked => first | kernel_rfl | rfl | k_is)
    (case fi_desk_told => k_is)
    (case lo_desk_told => exact ⟨_, L2.fun_mk (by k_is) (by k_is) (by k_is)⟩)
    (case fn_desk_told => first | kernel_rfl | rfl | k_is)
    (case dl_word_of => k_is)
    (case dl_read_word => k_is)
    (case dl_read_pact => k_is)
    (case fcO => k_is)
    (case fiR_init => k_is)
    (case b0 => k_is)
    (case b1 => k_is)
    (case b2 => k_is)
    (case b3 => k_is)
    (case b4 => k_is)
    (case b5 => k_is)
    (case b6 => k_is)
    (case b7 => k_is)
    (case b8 => k_is)
    (case b9 => k_is)
    (case b10 => k_is)
    (case b11 => k_is)
    (case b12 => k_is)
    (case b13 => k_is)
    (case b14 => k_is)
    (case b15 => k_is)
#print axioms PySem.Challenge.cw_letterlaw_k92_refused_holds
