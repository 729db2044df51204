import PyProof.Rows.All
import Wide.All
import OpenK.AllK
import Wide.FinOn
import Lean
import PyProof.EqAt
import PyProof.EqKinds
import PyProof.TupleCall
import PyProof.CompFree
import PyProof.NeKinds
import KE.IntBitsLaws
import PyProof.Rows.SortRuns
import PyProof.RangeFor
import KE.KSortKey
import PyProof.ListRange
import KE.KListMore
import PyProof.ZipIter
import PyProof.Rows.ZipGen
import PyProof.WalksMore
import PyProof.EnumFor
import PyProof.EnumMake
import PyProof.Rows.TopTwo
import PyProof.Rows.CatchOwn
import PyProof.NsDelKeeps
import PyProof.ExcAttrAll.ValueError
import PyProof.DictDisplay
import KE.KEqDict
import PySem.Challenge.RW_panehouse_k06_fills_refused
set_option Elab.async false
set_option linter.all false
-- CHANGE: your row's module here, as the last of these rows
set_option Elab.async false
set_option linter.all false
set_option maxRecDepth 100000
/-! THE HAND LAYER, for ints, bools, texts, own classes, LISTS and tuples (index, slices, in, append, pop ..), calls, loops. Paste it whole ahead of your own text; what your proof does not reach may be deleted. -/
namespace L2
open PySem PySem.Spec PyProof.Rows

/-- a key: an int or a str -/
noncomputable abbrev Key := Sum Int Str
noncomputable def keyIs : Key → Value → Bool
  | .inl k, v => Value.isInt k v
  | .inr x, v => Value.isStrOf x v
noncomputable def keyH (w : World) : Key → Int
  | .inl k => hashInt k
  | .inr x => hashStr w x
theorem keyIs_shape : ∀ {k : Key} {v : Value}, keyIs k v = true → (∃ i t, k = Sum.inl i ∧ v = Value.int i t) ∨ (∃ x t, k = Sum.inr x ∧ v = Value.str x t)
  | .inl i, v, h => by
    obtain ⟨t, e⟩ := Value.isInt_shape (k := i) (v := v) h
    exact .inl ⟨i, t, rfl, e⟩
  | .inr x, v, h => by
    obtain ⟨t, e⟩ := Value.isStrOf_shape (x := x) (v := v) h
    exact .inr ⟨x, t, rfl, e⟩
theorem key_ll (a b : Int) : decide ((Sum.inl a : Key) = Sum.inl b) = (a == b) := by
  by_cases e : a = b
  · subst e; simp
  · have h : ¬ (Sum.inl a : Key) = Sum.inl b := fun q => e (Sum.inl.inj q)
    rw [decide_eq_false h]
    exact (beq_eq_false_iff_ne.mpr e).symm
theorem key_rr (a b : Str) : decide ((Sum.inr a : Key) = Sum.inr b) = decide (a = b) := by
  by_cases e : a = b
  · subst e; simp
  · have h : ¬ (Sum.inr a : Key) = Sum.inr b := fun q => e (Sum.inr.inj q)
    rw [decide_eq_false h, decide_eq_false e]
theorem key_lr (a : Int) (b : Str) : decide ((Sum.inl a : Key) = Sum.inr b) = false := decide_eq_false (fun q => nomatch q)
theorem key_rl (a : Str) (b : Int) : decide ((Sum.inr a : Key) = Sum.inl b) = false := decide_eq_false (fun q => nomatch q)

noncomputable def mixKind (prog : Program) (w : World) : PySem.KeyKind prog w Key where
  is := keyIs
  hash := keyH w
  inj := fun v a b ha hb => by
    rcases keyIs_shape ha with ⟨i, t, rfl, rfl⟩ | ⟨x, t, rfl, rfl⟩
    · rcases keyIs_shape hb with ⟨j, u, rfl, e⟩ | ⟨y, u, rfl, e⟩
      · injection e with e1 _; rw [e1]
      · exact nomatch e
    · rcases keyIs_shape hb with ⟨j, u, rfl, e⟩ | ⟨y, u, rfl, e⟩
      · exact nomatch e
      · injection e with e1 _; rw [e1]
  byValue := fun k v h => by
    rcases keyIs_shape h with ⟨i, t, rfl, rfl⟩ | ⟨x, t, rfl, rfl⟩ <;> rfl
  pyHash := fun hv h => by
    rcases keyIs_shape hv with ⟨i, t, rfl, rfl⟩ | ⟨x, t, rfl, rfl⟩
    · exact wpAny_pyHash_int h
    · exact wpAny_pyHash_str h
  eqBool := fun hu hv h => by
    rcases keyIs_shape hu with ⟨i, t, rfl, rfl⟩ | ⟨x, t, rfl, rfl⟩
    · rcases keyIs_shape hv with ⟨j, u, rfl, rfl⟩ | ⟨y, u, rfl, rfl⟩
      · rw [key_ll] at h; exact wpAny_eqBool_int h
      · rw [key_lr] at h; exact SeqAt.EqAt.int_str i t y u _ _ _ _ h
    · rcases keyIs_shape hv with ⟨j, u, rfl, rfl⟩ | ⟨y, u, rfl, rfl⟩
      · rw [key_rl] at h; exact SeqAt.EqAt.str_int x t j u _ _ _ _ h
      · rw [key_rr] at h; exact wpAny_eqBool_str h
  «strs» := fun k x t v h => by
    rcases keyIs_shape h with ⟨i, u, rfl, e⟩ | ⟨y, u, rfl, e⟩
    · exact nomatch e
    · injection e with e1 _
      subst e1
      cases v <;> rfl

end L2

namespace L2
open PySem PySem.Spec PyProof.Rows

/-- a value, without the heap -/
inductive V where
  | non | bl (b : Bool) | int (i : Int) | str (x : Str) | byt (b : Array UInt8) | flt (b : UInt64) | ref (a : Addr) | ty (n : String)
  deriving DecidableEq

noncomputable def RelV : V → Value → Prop
  | .non, u => u = Value.none
  | .bl b, u => u = Value.bool b
  | .int i, u => ∃ t, u = Value.int i t
  | .str x, u => ∃ t, u = Value.str x t
  | .byt b, u => ∃ t, u = Value.bytes b t
  | .flt b, u => ∃ t, u = Value.float b t
  | .ref a, u => u = Value.ref a
  | .ty n, u => u = Value.type n

noncomputable abbrev Vals : List V → List Value → Prop := Paired RelV
theorem Vals.length {xs : List V} {us : List Value} (r : Vals xs us) : xs.length = us.length := Paired.length r
theorem Vals.get : ∀ {xs : List V} {us : List Value} {i : Nat} {x : V}, Vals xs us → xs[i]? = some x → ∃ u, us[i]? = some u ∧ RelV x u
  | _, _, _, _, .nil, e => by simp at e
  | _, _, 0, _, .cons r _, e => by simp at e; subst e; exact ⟨_, rfl, r⟩
  | _, _, i + 1, x, .cons _ t, e => by
    obtain ⟨u, h1, h2⟩ := Vals.get (i := i) (x := x) t (by simpa using e)
    exact ⟨u, by simpa using h1, h2⟩
theorem Vals.set {x : V} {u : Value} (r : RelV x u) : ∀ {xs : List V} {us : List Value} (i : Nat), Vals xs us → Vals (xs.set i x) (us.set i u)
  | _, _, _, .nil => .nil
  | _, _, 0, .cons _ t => .cons r t
  | _, _, i + 1, .cons q t => .cons q (Vals.set r i t)
theorem Vals.append : ∀ {xs ys : List V} {us ws : List Value}, Vals xs us → Vals ys ws → Vals (xs ++ ys) (us ++ ws)
  | _, _, _, _, .nil, s => s
  | _, _, _, _, .cons r t, s => .cons r (Vals.append t s)
theorem Vals.take : ∀ {xs : List V} {us : List Value} (n : Nat), Vals xs us → Vals (xs.take n) (us.take n)
  | _, _, 0, _ => .nil
  | _, _, _ + 1, .nil => .nil
  | _, _, n + 1, .cons r t => .cons r (Vals.take n t)
theorem Vals.drop : ∀ {xs : List V} {us : List Value} (n : Nat), Vals xs us → Vals (xs.drop n) (us.drop n)
  | _, _, 0, r => r
  | _, _, _ + 1, .nil => .nil
  | _, _, n + 1, .cons _ t => Vals.drop n t
noncomputable def RelO : Option V → Option Value → Prop
  | some v, some u => RelV v u
  | none, none => True
  | _, _ => False
noncomputable def KV {κ : Type} : List (κ × V) → List (κ × Value) → Prop := Paired fun (p : κ × V) (q : κ × Value) => p.1 = q.1 ∧ RelV p.2 q.2

/-- a key of a dict (00_mix): an int or a text -/
noncomputable def kV : Key → V
  | .inl i => .int i
  | .inr x => .str x

/-- what stands at a tracked address -/
inductive HO where
  /-- a list -/
  | lst (xs : List V)
  /-- a tuple (never changes) -/
  | tup (xs : List V)
  /-- a dict whose keys are ints and texts; one whose keys are tuples of ints and texts (the empty one is both) -/
  | dK (kvs : List (Key × V)) | dT (kvs : List (List Key × V))
  /-- a set of ints: its members, its size -/
  | set (S : Int → Bool) (n : Nat)
  /-- an instance of the class at C, its dict at dx, its attributes -/
  | ins (C dx : Addr) (fs : List (Str × V))
  /-- the dict of the instance at x -/
  | own (x : Addr)
  /-- the dict of an exception -/
  | xd (fs : List (Str × V))
  /-- a bound method, f of x -/
  | met (f x : Addr)
  /-- a range object lo, lo + 1, .. below hi -/
  | rng (lo hi : Int)
  /-- a thing that is known to the object (the script; a dict while a loop walks it): read, never written while it is so -/
  | frz (o : Obj) (u : HO)
  /-- a code object's table -/
  | tbl (ps : Array Value)
  /-- any other thing, by what is true of its one object (a def of one's own: SetO a S n := HO.ext fun h => ..) -/
  | ext (φ : Heap → Prop)

noncomputable abbrev Hp := Addr → Option HO
noncomputable def upd (H : Hp) (a : Addr) (o : HO) : Hp := fun b => if b = a then some o else H b
theorem upd_same {H : Hp} {a : Addr} {o : HO} : upd H a o a = some o := by unfold upd; rw [if_pos rfl]
theorem upd_ne {H : Hp} {a b : Addr} {o : HO} (h : b ≠ a) : upd H a o b = H b := by unfold upd; rw [if_neg h]
theorem ne_of_none {H : Hp} {a b : Addr} {o : HO} (h : H a = some o) (h' : H b = none) : a ≠ b := by
  intro e; subst e; rw [h] at h'; cases h'

section
variable (P : Program) (w : World)
noncomputable def ObjOk (H : Hp) (h : Heap) (a : Addr) : HO → Prop
  | .lst xs => xs.length ≤ sizeLine ∧ ∃ (its : List Value) (n : Nat), Vals xs its ∧ h.get? a = some { cls := .type "list", data := .seq its.toArray n }
  | .tup xs => xs.length ≤ sizeLine ∧ ∃ its : List Value, Vals xs its ∧ IsTup h a its.toArray
  | .dK kvs => kvs.length ≤ sizeLine ∧ (a == sysModules) = false ∧ ∃ vs, KV kvs vs ∧ h.DictOf (mixKind P w) a vs
  | .dT kvs => kvs.length ≤ sizeLine ∧ (a == sysModules) = false ∧ ∃ xs : List (List Key × Addr × Value),
      Paired (fun (p : List Key × V) (q : List Key × Addr × Value) => p.1 = q.1 ∧ H q.2.1 = some (.tup (p.1.map kV)) ∧ RelV p.2 q.2.2) kvs xs ∧
      ∃ o es ep, h.get? a = some o ∧ o.ExactDict ∧ o.data = .dict es ep ∧ es.toList = xs.map (entryOfKey (tupleKind (mixKind P w))) ∧ (xs.map (·.1)).Nodup
  | .set S n => h.SetOf (intKind P w) a S n
  | .ins C dx fs => H dx = some (.own a) ∧ fs.length ≤ 1000 ∧ dx ≠ a ∧ h.get? a = some (PySem.W.instObj C dx) ∧
      ∃ mA, h.Ns1 dx mA ∧ (∀ f, RelO (fs.lookup f) (mA f)) ∧ PySem.Within mA (fs.map (·.1))
  | .own _ => ∃ o, h.get? a = some o
  | .xd fs => ∃ mA, h.Ns1 a mA ∧ ∀ f, RelO (fs.lookup f) (mA f)
  | .rng lo hi => ∃ t u v, h.get? a = some { cls := .type "range", data := .fields #[.int lo t, .int hi u, .int 1 v] }
  | .frz o u => h.get? a = some o ∧ ObjOk H h a u
  | .tbl ps => h.get? a = some { cls := .none, data := .fields ps }
  | .met f x => h.get? a = some (PySem.W.methodObj (.ref f) (.ref x))
  | .ext φ => φ h ∧ (∃ o, h.get? a = some o) ∧ ∀ h1 h2 : Heap, φ h1 → (∀ o, h1.get? a = some o → h2.get? a = some o) → φ h2
/-- the abstract heap is held -/
noncomputable def HOk (H : Hp) (h : Heap) : Prop := ∀ a o, H a = some o → ObjOk P w H h a o
end

section
variable {P : Program} {w : World} {H H' : Hp} {h h' : Heap} {a : Addr} {o : HO}
theorem ObjOk.lt (x : ObjOk P w H h a o) : a < h.objs.size := by
  cases o with
  | lst xs => obtain ⟨_, _, _, _, e⟩ := x; exact Heap.lt_size e
  | tup xs => obtain ⟨_, _, _, p⟩ := x; exact p.lt
  | dK kvs => obtain ⟨_, _, _, _, o, _, _, e, _⟩ := x; exact Heap.lt_size e
  | dT kvs => obtain ⟨_, _, _, _, o, _, _, e, _⟩ := x; exact Heap.lt_size e
  | set S n => obtain ⟨o, _, _, _, e, _⟩ := x; exact Heap.lt_size e
  | ins C dx fs => obtain ⟨_, _, _, e, _⟩ := x; exact Heap.lt_size e
  | own y => obtain ⟨_, e⟩ := x; exact Heap.lt_size e
  | xd fs => obtain ⟨_, ⟨_, _, _, e, _⟩, _⟩ := x; exact Heap.lt_size e
  | rng lo hi => obtain ⟨_, _, _, e⟩ := x; exact Heap.lt_size e
  | frz ob u => obtain ⟨e, _⟩ := x; exact Heap.lt_size e
  | tbl ps => exact Heap.lt_size (show h.get? a = some _ from x)
  | met f y => exact Heap.lt_size (show h.get? a = some _ from x)
  | ext φ => obtain ⟨_, ⟨_, e⟩, _⟩ := x; exact Heap.lt_size e
theorem Paired.mapP {α β : Type} {F G : α → β → Prop} : ∀ {l₁ : List α} {l₂ : List β}, Paired F l₁ l₂ → (∀ a b, F a b → G a b) → Paired G l₁ l₂
  | _, _, .nil, _ => .nil
  | _, _, .cons r t, f => .cons (f _ _ r) (Paired.mapP t f)
/-- what an object's description leans on: its own object, its own dict, the tuples -/
theorem ObjOk.stay (x : ObjOk P w H h a o) (k : ∀ b u, (b = a ∨ H b = some (.own a)) → h.get? b = some u → h'.get? b = some u)
    (ho : ∀ b, H b = some (.own a) → H' b = some (.own a)) (ht : ∀ b xs, H b = some (.tup xs) → H' b = some (.tup xs)) : ObjOk P w H' h' a o := by
  induction o with
  | lst xs => obtain ⟨z, its, n, r, e⟩ := x; exact ⟨z, its, n, r, k _ _ (.inl rfl) e⟩
  | tup xs => obtain ⟨z, its, r, ob, e, c⟩ := x; exact ⟨z, its, r, ob, k _ _ (.inl rfl) e, c⟩
  | dK kvs => obtain ⟨z, y, vs, r, ob, es, ep, e, c⟩ := x; exact ⟨z, y, vs, r, ob, es, ep, k _ _ (.inl rfl) e, c⟩
  | dT kvs =>
    obtain ⟨z, y, xs, r, ob, es, ep, e, c⟩ := x
    exact ⟨z, y, xs, Paired.mapP r fun p q z => ⟨z.1, ht _ _ z.2.1, z.2.2⟩, ob, es, ep, k _ _ (.inl rfl) e, c⟩
  | set S n => obtain ⟨ob, es, ep, t, e, c⟩ := x; exact ⟨ob, es, ep, t, k _ _ (.inl rfl) e, c⟩
  | ins C dx fs =>
    obtain ⟨d, z, ne, e, mA, ⟨od, es, ep, e2, c⟩, r⟩ := x
    exact ⟨ho _ d, z, ne, k _ _ (.inl rfl) e, mA, ⟨od, es, ep, k _ _ (.inr d) e2, c⟩, r⟩
  | own y => obtain ⟨ob, e⟩ := x; exact ⟨ob, k _ _ (.inl rfl) e⟩
  | xd fs => obtain ⟨mA, ⟨od, es, ep, e, c⟩, r⟩ := x; exact ⟨mA, ⟨od, es, ep, k _ _ (.inl rfl) e, c⟩, r⟩
  | rng lo hi => obtain ⟨t, u, v, e⟩ := x; exact ⟨t, u, v, k _ _ (.inl rfl) e⟩
  | frz ob u ih => obtain ⟨e, q⟩ := x; exact ⟨k _ _ (.inl rfl) e, ih q⟩
  | tbl ps =>
    have e : h.get? a = some { cls := .none, data := .fields ps } := x
    show h'.get? a = some { cls := .none, data := .fields ps }
    exact k a _ (.inl rfl) e
  | met f y =>
    have e : h.get? a = some (PySem.W.methodObj (.ref f) (.ref y)) := x
    show h'.get? a = some (PySem.W.methodObj (.ref f) (.ref y))
    exact k a _ (.inl rfl) e
  | ext φ => obtain ⟨p, ⟨o, e⟩, st⟩ := x; exact ⟨st _ _ p fun o q => k _ _ (.inl rfl) q, ⟨o, k _ _ (.inl rfl) e⟩, st⟩
theorem HOk.lt (x : HOk P w H h) (e : H a = some o) : a < h.objs.size := (x a o e).lt
theorem HOk.fresh (x : HOk P w H h) (e : h.objs.size ≤ a) : H a = none := by
  cases q : H a with
  | none => rfl
  | some u => exact absurd (Nat.lt_of_lt_of_le (x.lt q) e) (Nat.lt_irrefl _)
/-- every object of the heap is kept -/
theorem HOk.kept (x : HOk P w H h) (k : ∀ b u, h.get? b = some u → h'.get? b = some u) : HOk P w H h' := fun a o e =>
  (x a o e).stay (fun b u _ q => k b u q) (fun _ q => q) fun _ _ q => q
/-- a new object is laid and tracked -/
theorem HOk.laid (x : HOk P w H h) (k : ∀ b u, h.get? b = some u → h'.get? b = some u) (hp : h.objs.size ≤ a) (new : ObjOk P w (upd H a o) h' a o) : HOk P w (upd H a o) h' := fun b u e => by
  have hn := x.fresh hp
  by_cases hb : b = a
  · subst hb; rw [upd_same] at e; cases e; exact new
  · rw [upd_ne hb] at e
    exact (x b u e).stay (fun c v _ q => k c v q) (fun c q => by rw [upd_ne (ne_of_none q hn)]; exact q) fun c xs q => by rw [upd_ne (ne_of_none q hn)]; exact q
end

/-- what may be read as u: it is u, or a known u -/
noncomputable def Rd (H : Hp) (a : Addr) (u : HO) : Prop := H a = some u ∨ ∃ o, H a = some (.frz o u)
theorem Rd.ok {P : Program} {w : World} {H : Hp} {h : Heap} {a : Addr} {u : HO} (r : Rd H a u) (x : HOk P w H h) : ObjOk P w H h a u := by
  rcases r with r | ⟨o, r⟩
  · exact x a u r
  · obtain ⟨_, q⟩ := x a _ r
    exact q
/-- what may be written -/
noncomputable def Mut : Option HO → Prop
  | some (.lst _) => True
  | some (.dK _) => True
  | some (.dT _) => True
  | some (.set _ _) => True
  | some (.ins _ _ _) => True
  | some (.ext _) => True
  | _ => False
section
variable {P : Program} {w : World} {H : Hp} {h h' : Heap} {x e : Addr} {o' : HO}
/-- the object at e is changed: x itself, or the dict of the instance x -/
theorem HOk.write (ok : HOk P w H h) (mu : Mut (H x)) (he : e = x ∨ H e = some (.own x)) (k : ∀ b u, b ≠ e → h.get? b = some u → h'.get? b = some u) (heo : ∃ u, h'.get? e = some u)
    (new : ObjOk P w (upd H x o') h' x o') : HOk P w (upd H x o') h' := fun b u q => by
  have nown : ∀ c y, H c = some (.own y) → c ≠ x := fun c y r z => by subst z; rw [r] at mu; exact mu
  have ntup : ∀ c xs, H c = some (.tup xs) → c ≠ x := fun c xs r z => by subst z; rw [r] at mu; exact mu
  by_cases hb : b = x
  · subst hb; rw [upd_same] at q; cases q; exact new
  · rw [upd_ne hb] at q
    by_cases hbe : b = e
    · have q' : H b = some (.own x) := by
        rcases he with z | z
        · exact absurd (hbe.trans z) hb
        · rw [hbe]; exact z
      rw [q] at q'; cases q'
      obtain ⟨v, hv⟩ := heo
      exact ⟨v, by rw [hbe]; exact hv⟩
    · refine (ok b u q).stay (fun c v hc r => k c v ?_ r) (fun c r => by rw [upd_ne (nown c b r)]; exact r) fun c xs r => by rw [upd_ne (ntup c xs r)]; exact r
      rcases hc with rfl | hc
      · exact hbe
      · rintro rfl
        rcases he with z | z
        · exact nown c b hc z
        · rw [hc] at z; cases z; exact hb rfl
end

/-! ### kept unless tracked; of the frames at fs (the callers') the slots may change (an exception that passes writes there); of the records at ex (iterators) nothing is said -/
structure Un (fs ex : List Addr) (H H' : Hp) (h h' : Heap) : Prop where
  keep : ∀ b o, h.get? b = some o → H b = none → b ∉ fs → b ∉ ex → h'.get? b = some o
  slot : ∀ b o, h.get? b = some o → H b = none → b ∈ fs → b ∉ ex → ∃ sl, h'.get? b = some { o with slots := sl }
  free : ∀ b o, h.get? b = some o → H b = none → b ∉ ex → H' b = none
  there : ∀ b o, h.get? b = some o → b ∉ ex → ∃ o', h'.get? b = some o'
  tups : ∀ b xs, H b = some (.tup xs) → H' b = some (.tup xs)
  frzs : ∀ b o u, H b = some (.frz o u) → H' b = some (.frz o u)
  tbls : ∀ b ps, H b = some (.tbl ps) → ∃ more, H' b = some (.tbl (ps ++ more))
section
variable {fs fs' ex ex' : List Addr} {H H1 H2 : Hp} {h h1 h2 h' : Heap} {a x e : Addr} {o : HO}
theorem Un.any (u : Un fs ex H H1 h h1) {b : Addr} {ob : Obj} (q : h.get? b = some ob) (n : H b = none) (hx : b ∉ ex) : ∃ sl, h1.get? b = some { ob with slots := sl } := by
  by_cases hb : b ∈ fs
  · exact u.slot b ob q n hb hx
  · exact ⟨ob.slots, u.keep b ob q n hb hx⟩
theorem Un.kept (k : ∀ b u, h.get? b = some u → h'.get? b = some u) : Un fs ex H H h h' :=
  ⟨fun b ob q _ _ _ => k b ob q, fun b ob q _ _ _ => ⟨ob.slots, k b ob q⟩, fun _ _ _ n _ => n, fun b ob q _ => ⟨ob, k b ob q⟩, fun _ _ q => q, fun _ _ _ q => q, fun _ ps q => ⟨#[], by rw [q]; simp⟩⟩
theorem Un.refl : Un fs ex H H h h := Un.kept fun _ _ q => q
theorem Un.laid (k : ∀ b u, h.get? b = some u → h'.get? b = some u) (hp : h.objs.size ≤ a) (hn : H a = none) : Un fs ex H (upd H a o) h h' where
  keep := fun b u q _ _ _ => k b u q
  slot := fun b u q _ _ _ => ⟨u.slots, k b u q⟩
  free := fun b u q n _ => by rw [upd_ne (Nat.ne_of_lt (Nat.lt_of_lt_of_le (Heap.lt_size q) hp))]; exact n
  there := fun b u q _ => ⟨u, k b u q⟩
  tups := fun b xs q => by rw [upd_ne (ne_of_none q hn)]; exact q
  frzs := fun b u xs q => by rw [upd_ne (ne_of_none q hn)]; exact q
  tbls := fun b ps q => ⟨#[], by rw [upd_ne (ne_of_none q hn), q]; simp⟩
theorem Un.write (mu : Mut (H x)) (he : e = x ∨ H e = some (.own x)) (k : ∀ b u, b ≠ e → h.get? b = some u → h'.get? b = some u) (heo : ∃ u, h'.get? e = some u) : Un fs ex H (upd H x o) h h' := by
  have hx : ∀ b, H b = none → b ≠ x := fun b n z => by subst z; rw [n] at mu; exact mu
  have hb : ∀ b, H b = none → b ≠ e := fun b n z => by
    subst z
    rcases he with r | r
    · exact hx b n r
    · rw [n] at r; cases r
  have hm : ∀ b u, H b = some u → ¬ Mut (some u) → b ≠ x := fun b u q nm z => by subst z; rw [q] at mu; exact nm mu
  refine ⟨fun b u q n _ _ => k b u (hb b n) q, fun b u q n _ _ => ⟨u.slots, k b u (hb b n) q⟩, fun b u q n _ => by rw [upd_ne (hx b n)]; exact n, fun b u q _ => ?_,
    fun b xs q => by rw [upd_ne (hm b _ q fun z => z)]; exact q, fun b u xs q => by rw [upd_ne (hm b _ q fun z => z)]; exact q, fun b ps q => ⟨#[], by rw [upd_ne (hm b _ q fun z => z), q]; simp⟩⟩
  by_cases hbe : b = e
  · subst hbe; exact heo
  · exact ⟨u, k b u hbe q⟩
end

/-! ### the heap without what is tracked -/
noncomputable def trk (h : Heap) (H : Hp) : List Addr := (List.range h.objs.size).filter fun a => (H a).isSome
noncomputable def hidT (h : Heap) (H : Hp) : Heap := PySem.W.hideAll h (trk h H)
theorem hidT_size (h : Heap) (H : Hp) : (hidT h H).objs.size = h.objs.size := PySem.W.hideAll_size _ _
theorem hidT_get {h : Heap} {H : Hp} {b : Addr} {o : Obj} (e : h.get? b = some o) (n : H b = none) : (hidT h H).get? b = some o :=
  PySem.W.hideAll_get _ e fun hm => by
    have q : (H b).isSome = true := (List.mem_filter.mp hm).2
    rw [n] at q; simp at q
theorem of_hidT {h : Heap} {H : Hp} {b : Addr} {o : Obj} (e : (hidT h H).get? b = some o) : h.get? b = some o ∧ H b = none := by
  have e' : h.get? b = some o := PySem.W.of_hideAll (trk h H) e
  refine ⟨e', ?_⟩
  cases q : H b with
  | none => rfl
  | some x =>
    have hm : b ∈ trk h H := List.mem_filter.mpr ⟨List.mem_range.mpr (Heap.lt_size e'), by simp [q]⟩
    have z : (hidT h H).get? b = none := PySem.W.hideAll_none (trk h H) hm
    rw [z] at e; cases e

/-! ### OpenK's ledger, filled with every new object but one -/
noncomputable def allNews (g h : Heap) (L : Addr) : List (Addr × Obj) := (List.range h.objs.size).filterMap fun a => if a = L ∨ (g.get? a).isSome = true then none else (h.get? a).map fun o => (a, o)
noncomputable def rest (g h : Heap) (L d : Addr) : List (Addr × Obj) := (allNews g h L).filter fun p => decide (p.1 ≠ d)
end L2

namespace L2
open PySem PySem.Spec PyProof.Rows

/-- the module's facts, over the base: the heap at the law's entry without what is tracked there -/
structure Mod (K : PySem.W.Frag) (mg : Str → Option Value) (base : Heap) : Prop where
  kin : K.In base
  glob : base.Ns mainGlobals mg
  blt : ∃ mb, base.Ns builtinsNs mb ∧ ∀ x : Str, x ≠ "__name__" → mb x = bootBuiltins x
  nolimit : base.NoLimit

/-- the context: a def's body (or a comprehension's block) running. base: fixed through the whole law; s₀, H₀: the entry; outer: the frames whose slots others may change (a def's callers); stack: all frames that run;
   ex: iterators that were made ahead of the entry and are walked here (a comprehension's); fn: the names whose cells were made at the entry (a def: all; a comprehension's block: its own); calm: not within an except suite; pn: pins that every state bears; xe: what is wanted of an exception that leaves the code -/
structure Cx where
  prog : Program
  w : World
  K : PySem.W.Frag
  mg : Str → Option Value
  base : Heap
  A : Around
  N : List Str
  s₀ : Shared
  H₀ : Hp
  env : Env
  outer : List Env
  stack : List Env
  ex : List Addr
  fn : Str → Bool
  calm : Bool
  pn : List (Addr × Obj)
  xe : Value → Shared → Prop
/-- the callers' frames -/
noncomputable def frs (l : List Env) : List Addr := l.filterMap (·.frame)
noncomputable abbrev Cx.fs (X : Cx) : List Addr := frs X.outer

noncomputable def Vis (sc : Scope) (x : Str) : Prop := sc.names.lookup x = some .local ∨ sc.names.lookup x = some .cell ∨ sc.names.lookup x = some .free
noncomputable def Loc (sc : Scope) (x : Str) : Prop := sc.names.lookup x = some .local ∨ sc.names.lookup x = some .cell
noncomputable def Look (env : Env) (h : Heap) (m : Str → Option Value) (x : Str) (u : Value) : Prop :=
  (env.kindOf x = some .local ∧ m x = some u) ∨ ((env.kindOf x = some .cell ∨ env.kindOf x = some .free) ∧ ∃ c, env.cells.lookup x = some c ∧ h.IsCell c (some u))

structure Cx.Ok (X : Cx) : Prop where
  mod : Mod X.K X.mg X.base
  kind : X.env.scope.kind = .function
  glob : X.env.globals = mainGlobals
  blt : X.env.builtins = builtinsNs
  above : X.s₀.heap.objs.size ≤ X.env.locals
  inj : ∀ x y c, X.env.cells.lookup x = some c → X.env.cells.lookup y = some c → x = y
  has : ∀ x, (X.env.kindOf x = some .cell ∨ X.env.kindOf x = some .free) → ∃ c, X.env.cells.lookup x = some c
  cab : ∀ x c, X.fn x = true → X.env.cells.lookup x = some c → X.s₀.heap.objs.size ≤ c
  hd : X.calm = true → X.A.handled = none
  frames : X.A.frames = some X.stack
  stk : X.stack = X.outer ∨ (X.stack = X.env :: X.outer ∧ X.env.frame = some X.env.locals)
  exf : ∀ b ∈ X.ex, b ≠ X.env.locals ∧ ∀ x c, X.env.cells.lookup x = some c → c ≠ b
  bs : ∀ b o, X.base.get? b = some o → X.s₀.heap.get? b = some o ∧ X.H₀ b = none
  bsz : X.base.objs.size ≤ X.s₀.heap.objs.size
  noex : ∀ b o, X.base.get? b = some o → b ∉ X.ex
  exfs : ∀ b ∈ X.ex, b ∉ X.fs
  funs : X.s₀.heap.FunFrames X.base X.outer
  frf : ∀ b ∈ X.fs, X.H₀ b = none

structure Inv (X : Cx) (pins : List (Addr × Obj)) (σ : List (Option V)) (H : Hp) (s : Shared) : Prop where
  ok : X.Ok
  os : s.os = X.s₀.os
  bare : AllBare s.gens
  base : Un X.fs X.ex X.H₀ H X.s₀.heap s.heap
  loc : ∃ m, s.heap.Ns X.env.locals m ∧ ∀ (i : Nat) (x : Str) (v : V), X.N[i]? = some x → σ[i]? = some (some v) → Vis X.env.scope x → ∃ u, RelV v u ∧ Look X.env s.heap m x u
  cell : ∀ x c, X.env.cells.lookup x = some c → ∃ v, s.heap.IsCell c v
  free : H X.env.locals = none
  freeC : ∀ x c, X.env.cells.lookup x = some c → H c = none
  pin : ∀ p ∈ X.pn ++ pins, s.heap.get? p.1 = some p.2 ∧ H p.1 = none ∧ p.1 ≠ X.env.locals ∧ p.1 ∉ X.fs ∧ ∀ v, p.2.data ≠ .cell v
  hok : HOk X.prog X.w H s.heap
  len : σ.length = X.N.length

section
variable {X : Cx} {pins : List (Addr × Obj)} {σ : List (Option V)} {H H' : Hp} {s : Shared} {h' : Heap}

theorem Cx.Ok.nofr (ok : X.Ok) {b : Addr} {o : Obj} (e : X.base.get? b = some o) : b ∉ X.fs := fun hb => by
  have := (ok.funs.mem hb).1
  rw [e] at this; cases this
theorem Inv.bs (I : Inv X pins σ H s) : ∀ b o, X.base.get? b = some o → s.heap.get? b = some o ∧ H b = none := fun b o e =>
  ⟨I.base.keep b o (I.ok.bs b o e).1 (I.ok.bs b o e).2 (I.ok.nofr e) (I.ok.noex b o e), I.base.free b o (I.ok.bs b o e).1 (I.ok.bs b o e).2 (I.ok.noex b o e)⟩
theorem Inv.bk (I : Inv X pins σ H s) : ∀ b o, X.base.get? b = some o → s.heap.get? b = some o := fun b o e => (I.bs b o e).1
theorem Inv.mod (I : Inv X pins σ H s) : Mod X.K X.mg X.base := I.ok.mod
theorem Inv.kIn (I : Inv X pins σ H s) : X.K.In s.heap := I.ok.mod.kin.keeps I.bk
theorem Inv.nolimit (I : Inv X pins σ H s) : s.heap.NoLimit := I.ok.mod.nolimit.keeps I.bk
/-- the frame over the base: for OpenK's rules (K.In X.base is I.mod.kin) -/
theorem Inv.fr (I : Inv X pins σ H s) : ∃ m, Fr X.base X.env.locals s.heap m :=
  let ⟨m, hn, _⟩ := I.loc
  ⟨m, hn, I.bk, Nat.le_trans I.ok.bsz I.ok.above⟩
theorem Inv.lt (I : Inv X pins σ H s) : X.env.locals < s.heap.objs.size := let ⟨_, hn, _⟩ := I.loc; hn.lt
theorem Inv.sz (I : Inv X pins σ H s) : X.s₀.heap.objs.size ≤ s.heap.objs.size := Nat.le_trans I.ok.above (Nat.le_of_lt I.lt)
theorem Inv.nofs (I : Inv X pins σ H s) {a : Addr} (h : s.heap.objs.size ≤ a) : a ∉ X.fs := fun hb => by
  obtain ⟨_, o, ho, _⟩ := I.ok.funs.mem hb
  exact absurd (Nat.lt_of_lt_of_le (Heap.lt_size ho) (Nat.le_trans I.sz h)) (Nat.lt_irrefl _)
theorem Inv.cne (I : Inv X pins σ H s) : ∀ x c, X.env.cells.lookup x = some c → c ≠ X.env.locals := fun x c e z => by
  obtain ⟨v, o, ho, hd⟩ := I.cell x c e
  obtain ⟨m, ⟨o', es, ep, ho', hd', _⟩, _⟩ := I.loc
  rw [z, ho'] at ho; cases ho; rw [hd'] at hd; cases hd
theorem Inv.funs (I : Inv X pins σ H s) : s.heap.FunFrames X.base X.outer := by
  have all : ∀ (l : List Env), (∀ b ∈ frs l, b ∈ X.fs) → X.s₀.heap.FunFrames X.base l → s.heap.FunFrames X.base l := by
    intro l
    induction l with
    | nil => intro _ _; trivial
    | cons env r ih =>
      intro hs hl
      obtain ⟨hk, ⟨L, o, hf, hn, ho, hd⟩, hr⟩ := hl
      have hL : L ∈ X.fs := hs L (by unfold frs; rw [List.filterMap_cons, hf]; exact List.mem_cons_self)
      obtain ⟨sl, e⟩ := I.base.slot L o ho (I.ok.frf L hL) hL fun z => I.ok.exfs L z hL
      exact ⟨hk, ⟨L, _, hf, hn, e, hd⟩, ih (fun b hb => hs b (by unfold frs; rw [List.filterMap_cons, hf]; exact List.mem_cons_of_mem _ hb)) hr⟩
  exact all X.outer (fun _ hb => hb) I.ok.funs

/-- the frames that run, for a call -/
theorem Inv.stack (I : Inv X pins σ H s) : s.heap.FunFrames X.base X.stack := by
  rcases I.ok.stk with e | ⟨e, hf⟩
  · rw [e]; exact I.funs
  · rw [e]
    obtain ⟨m, hn, _⟩ := I.loc
    refine .cons (by rw [I.ok.kind]; decide) hf hn ?_ I.funs
    exact Heap.get?_none_of_le (Nat.le_trans I.ok.bsz I.ok.above)
theorem Inv.stkSub (I : Inv X pins σ H s) : ∀ b ∈ frs X.stack, b ∈ X.env.locals :: X.fs := fun b hb => by
  rcases I.ok.stk with e | ⟨e, hf⟩
  · rw [e] at hb; exact List.mem_cons_of_mem _ hb
  · rw [e] at hb
    unfold frs at hb
    rw [List.filterMap_cons, hf] at hb
    exact hb
theorem Inv.stkFree (I : Inv X pins σ H s) : ∀ b ∈ frs X.stack, H b = none := fun b hb => by
  rcases List.mem_cons.mp (I.stkSub b hb) with e | hb
  · rw [e]; exact I.free
  · obtain ⟨_, o, ho, _⟩ := I.ok.funs.mem hb
    exact I.base.free b o ho (I.ok.frf b hb) fun z => I.ok.exfs b z hb

/-- THE STEP: the untracked objects but the frame and the records at ch are kept (the callers' frames up to slots), the frame's map is kept, the new abstract heap is held -/
theorem Inv.step {g' : Array GenState} {t' : Nat} {d' : Drawn} {ch : List Addr} (I : Inv X pins σ H s)
    (hch : ∀ b ∈ ch, (b ∈ X.ex ∨ X.s₀.heap.objs.size ≤ b) ∧ b ≠ X.env.locals ∧ (∀ x c, X.env.cells.lookup x = some c → c ≠ b) ∧ ∀ p ∈ X.pn ++ pins, p.1 ≠ b)
    (keep : ∀ b o, b ≠ X.env.locals → b ∉ X.fs → b ∉ ch → s.heap.get? b = some o → H b = none → h'.get? b = some o)
    (slot : ∀ b o, b ≠ X.env.locals → b ∈ X.fs → b ∉ ch → s.heap.get? b = some o → H b = none → ∃ sl, h'.get? b = some { o with slots := sl }) (free : ∀ b o, b ∉ ch → s.heap.get? b = some o → H b = none → H' b = none)
    (there : ∀ b o, b ∉ ch → s.heap.get? b = some o → ∃ o', h'.get? b = some o')
    (tups : ∀ b xs, H b = some (.tup xs) → H' b = some (.tup xs)) (frzs : ∀ b o u, H b = some (.frz o u) → H' b = some (.frz o u)) (tbls : ∀ b ps, H b = some (.tbl ps) → ∃ more, H' b = some (.tbl (ps ++ more)))
    (ns : ∀ m, s.heap.Ns X.env.locals m → h'.Ns X.env.locals m) (hok : HOk X.prog X.w H' h') (hg : AllBare g') :
    Inv X pins σ H' { s with heap := h', gens := g', drawn := d', toks := t' } := by
  have neL : ∀ b o, X.s₀.heap.get? b = some o → b ≠ X.env.locals := fun b o e => Nat.ne_of_lt (Nat.lt_of_lt_of_le (Heap.lt_size e) I.ok.above)
  have neC : ∀ b o, X.s₀.heap.get? b = some o → b ∉ X.ex → b ∉ ch := fun b o e hx hb => by
    rcases (hch b hb).1 with z | z
    · exact hx z
    · exact absurd (Nat.lt_of_lt_of_le (Heap.lt_size e) z) (Nat.lt_irrefl _)
  have cellK : ∀ x c, X.env.cells.lookup x = some c → ∀ v, s.heap.IsCell c v → h'.IsCell c v := fun x c e v ⟨o, ho, hd⟩ => by
    have nch : c ∉ ch := fun z => (hch c z).2.2.1 x c e rfl
    by_cases hc : c ∈ X.fs
    · obtain ⟨sl, q⟩ := slot c o (I.cne x c e) hc nch ho (I.freeC x c e)
      exact ⟨_, q, hd⟩
    · exact ⟨o, keep c o (I.cne x c e) hc nch ho (I.freeC x c e), hd⟩
  refine ⟨I.ok, I.os, hg, ⟨fun b o e n hb hx => ?_, fun b o e n hb hx => ?_, fun b o e n hx => ?_, fun b o e hx => ?_, fun b xs e => tups b xs (I.base.tups b xs e), fun b o xs e => frzs b o xs (I.base.frzs b o xs e), fun b ps e => ?_⟩, ?_, fun x c e => ?_, ?_, fun x c e => ?_, fun p hp => ?_, hok, I.len⟩
  · exact keep b o (neL b o e) hb (neC b o e hx) (I.base.keep b o e n hb hx) (I.base.free b o e n hx)
  · obtain ⟨sl, e1⟩ := I.base.slot b o e n hb hx
    obtain ⟨sl', e2⟩ := slot b _ (neL b o e) hb (neC b o e hx) e1 (I.base.free b o e n hx)
    exact ⟨sl', e2⟩
  · obtain ⟨o', e1⟩ := I.base.there b o e hx
    exact free b o' (neC b o e hx) e1 (I.base.free b o e n hx)
  · obtain ⟨o', e1⟩ := I.base.there b o e hx
    exact there b o' (neC b o e hx) e1
  · obtain ⟨m1, e1⟩ := I.base.tbls b ps e
    obtain ⟨m2, e2⟩ := tbls b _ e1
    exact ⟨m1 ++ m2, by rw [e2, Array.append_assoc]⟩
  · obtain ⟨m, hn, hl⟩ := I.loc
    refine ⟨m, ns m hn, fun i x v e1 e2 e3 => ?_⟩
    obtain ⟨u, r, l⟩ := hl i x v e1 e2 e3
    refine ⟨u, r, ?_⟩
    rcases l with l | ⟨k, c, e, z⟩
    · exact .inl l
    · exact .inr ⟨k, c, e, cellK x c e _ z⟩
  · obtain ⟨v, z⟩ := I.cell x c e
    exact ⟨v, cellK x c e v z⟩
  · obtain ⟨m, ⟨o, _, _, ho, _⟩, _⟩ := I.loc
    exact free _ o (fun z => (hch _ z).2.1 rfl) ho I.free
  · obtain ⟨v, o, ho, hd⟩ := I.cell x c e
    exact free c o (fun z => (hch c z).2.2.1 x c e rfl) ho (I.freeC x c e)
  · obtain ⟨e, n, ne, nf, d⟩ := I.pin p hp
    have nch : p.1 ∉ ch := fun z => (hch p.1 z).2.2.2 p hp rfl
    exact ⟨keep p.1 p.2 ne nf nch e n, free p.1 p.2 nch e n, ne, nf, d⟩
/-- .. where the frame's own object is kept too -/
theorem Inv.un {t' : Nat} (I : Inv X pins σ H s) (u : Un X.fs [] H H' s.heap h') (hok : HOk X.prog X.w H' h') : Inv X pins σ H' { s with heap := h', toks := t' } := by
  obtain ⟨m, ⟨o, es, ep, ho, r⟩, _⟩ := id I.loc
  obtain ⟨sl, hL⟩ := u.any ho I.free (by simp)
  exact I.step (g' := s.gens) (d' := s.drawn) (ch := []) (fun _ z => nomatch z) (fun b o _ hb _ e n => u.keep b o e n hb (by simp)) (fun b o _ hb _ e n => u.slot b o e n hb (by simp)) (fun b o _ e n => u.free b o e n (by simp)) (fun b o _ e => u.there b o e (by simp)) u.tups u.frzs u.tbls (fun m' hm => by
    obtain ⟨o', es', ep', ho', r'⟩ := hm
    rw [ho] at ho'; cases ho'
    exact ⟨_, es', ep', hL, r'⟩) hok I.bare
/-- behind a call (or a comprehension's block): the slots of this frame may have changed too, the records at ch may have turned -/
theorem Inv.call {g' : Array GenState} {t' : Nat} {d' : Drawn} {ch : List Addr} (I : Inv X pins σ H s) (u : Un (frs X.stack) ch H H' s.heap h') (hok : HOk X.prog X.w H' h') (hg : AllBare g')
    (hch : ∀ b ∈ ch, (b ∈ X.ex ∨ X.s₀.heap.objs.size ≤ b) ∧ b ≠ X.env.locals ∧ (∀ x c, X.env.cells.lookup x = some c → c ≠ b) ∧ ∀ p ∈ X.pn ++ pins, p.1 ≠ b) :
    Inv X pins σ H' { s with heap := h', gens := g', drawn := d', toks := t' } := by
  obtain ⟨m, ⟨o, es, ep, ho, r⟩, _⟩ := id I.loc
  obtain ⟨sl, hL⟩ := u.any ho I.free fun z => (hch _ z).2.1 rfl
  exact I.step (ch := ch) hch (fun b o hL hb hc e n => u.keep b o e n (fun z => (List.mem_cons.mp (I.stkSub b z)).elim hL hb) hc) (fun b o _ _ hc e n => u.any e n hc) (fun b o hc e n => u.free b o e n hc) (fun b o hc e => u.there b o e hc) u.tups u.frzs u.tbls (fun m' hm => by
    obtain ⟨o', es', ep', ho', r'⟩ := hm
    rw [ho] at ho'; cases ho'
    exact ⟨_, es', ep', hL, r'⟩) hok hg
/-- an untracked record of ours (an iterator) has turned -/
theorem Inv.turned {t' : Nat} {it : Addr} (I : Inv X pins σ H s) (k : ∀ b o, b ≠ it → s.heap.get? b = some o → h'.get? b = some o) (hn : H it = none) (hL : it ≠ X.env.locals)
    (h1 : it ∈ X.ex ∨ X.s₀.heap.objs.size ≤ it) (h2 : ∀ x c, X.env.cells.lookup x = some c → c ≠ it) (h3 : ∀ p ∈ X.pn ++ pins, p.1 ≠ it) : Inv X pins σ H { s with heap := h', toks := t' } := by
  have nit : ∀ b u, H b = some u → b ≠ it := fun b u e z => by rw [z, hn] at e; cases e
  refine I.step (g' := s.gens) (d' := s.drawn) (ch := [it]) (fun b hb => ?_) (fun b o _ _ hc e _ => k b o (fun z => hc (by simp [z])) e) (fun b o _ _ hc e _ => ⟨o.slots, k b o (fun z => hc (by simp [z])) e⟩) (fun _ _ _ _ n => n)
    (fun b o hc e => ⟨o, k b o (fun z => hc (by simp [z])) e⟩) (fun _ _ e => e) (fun _ _ _ e => e) (fun b ps e => ⟨#[], by rw [e]; simp⟩) (fun m hm => ?_) (fun b u e => ?_) I.bare
  · have e : b = it := by simpa using hb
    subst e
    exact ⟨h1, hL, h2, h3⟩
  · obtain ⟨o, es, ep, ho, r⟩ := hm
    exact ⟨o, es, ep, k _ o (Ne.symm hL) ho, r⟩
  · refine (I.hok b u e).stay (fun c v hc q => k c v ?_ q) (fun _ q => q) fun _ _ q => q
    rcases hc with z | z
    · rw [z]; exact nit b u e
    · exact nit c _ z
theorem Inv.tok (I : Inv X pins σ H s) (t : Nat) : Inv X pins σ H { s with toks := t } := I.un (h' := s.heap) (t' := t) Un.refl I.hok
/-- all objects kept -/
theorem Inv.kept {t' : Nat} (I : Inv X pins σ H s) (k : ∀ b u, s.heap.get? b = some u → h'.get? b = some u) : Inv X pins σ H { s with heap := h', toks := t' } := I.un (Un.kept k) (I.hok.kept k)
/-- a new object laid and tracked -/
theorem Inv.laid {a : Addr} {o : HO} {t' : Nat} (I : Inv X pins σ H s) (k : ∀ b u, s.heap.get? b = some u → h'.get? b = some u) (hp : s.heap.objs.size ≤ a) (new : ObjOk X.prog X.w (upd H a o) h' a o) :
    Inv X pins σ (upd H a o) { s with heap := h', toks := t' } := I.un (Un.laid k hp (I.hok.fresh hp)) (I.hok.laid k hp new)
/-- an object written -/
theorem Inv.write {x e : Addr} {o : HO} {t' : Nat} (I : Inv X pins σ H s) (mu : Mut (H x)) (he : e = x ∨ H e = some (.own x)) (k : ∀ b u, b ≠ e → s.heap.get? b = some u → h'.get? b = some u) (heo : ∃ u, h'.get? e = some u)
    (new : ObjOk X.prog X.w (upd H x o) h' x o) : Inv X pins σ (upd H x o) { s with heap := h', toks := t' } := I.un (Un.write mu he k heo) (I.hok.write mu he k heo new)
/-- forgetting slots, pins -/
theorem Inv.weak {σ' : List (Option V)} (I : Inv X pins σ H s) (hl : σ'.length = σ.length) (w : ∀ (i : Nat) v, σ'[i]? = some (some v) → σ[i]? = some (some v)) : Inv X pins σ' H s :=
  ⟨I.ok, I.os, I.bare, I.base, let ⟨m, hn, hl'⟩ := I.loc; ⟨m, hn, fun i x v e1 e2 e3 => hl' i x v e1 (w i v e2) e3⟩, I.cell, I.free, I.freeC, I.pin, I.hok, hl.trans I.len⟩
theorem Inv.pins_of {pins' : List (Addr × Obj)} (I : Inv X pins σ H s) (h : ∀ p ∈ pins', s.heap.get? p.1 = some p.2 ∧ H p.1 = none ∧ p.1 ≠ X.env.locals ∧ p.1 ∉ X.fs ∧ ∀ v, p.2.data ≠ .cell v) : Inv X pins' σ H s :=
  ⟨I.ok, I.os, I.bare, I.base, I.loc, I.cell, I.free, I.freeC, fun p hp => (List.mem_append.mp hp).elim (fun z => I.pin p (List.mem_append_left _ z)) (h p), I.hok, I.len⟩

theorem nodup_ix {N : List Str} (hN : N.Nodup) {i j : Nat} {x : Str} (a : N[i]? = some x) (b : N[j]? = some x) : i = j := by
  obtain ⟨h1, e1⟩ := List.getElem?_eq_some_iff.mp a
  obtain ⟨h2, e2⟩ := List.getElem?_eq_some_iff.mp b
  exact (List.getElem_inj hN).mp (e1.trans e2.symm)

/-- a name is stored; what changed -/
theorem store_ok2 {M : Model} {A : Around} {E : Value → Shared → Prop} {i : Nat} {x : Str} {v : V} {u : Value} {Q : Unit → Shared → Prop} (I : Inv X pins σ H s) (hN : X.N.Nodup) (hi : X.N[i]? = some x) (hx : Loc X.env.scope x) (r : RelV v u)
    (h : ∀ s', Inv X pins (σ.set i (some v)) H s' → (∃ a, Heap.SameBut a s.heap s'.heap ∧ (a = X.env.locals ∨ X.env.cells.lookup x = some a)) → Q () s') (hf : X.fn x = true ∨ X.env.scope.names.lookup x = some .local := by first | exact .inl rfl | exact .inr rfl | assumption) : wpAny M A (storeName X.env x u) Q E s := by
  obtain ⟨m, hn, hl⟩ := id I.loc
  have hcls : (X.env.scope.kind == .class || (X.env.scope.kind == .module && X.env.locals != X.env.globals)) = false := by rw [I.ok.kind]; rfl
  have hiσ : i < σ.length := by rw [I.len]; exact (List.getElem?_eq_some_iff.mp hi).1
  have cne := I.cne
  have tracked : ∀ {a : Addr} {h' : Heap}, (∃ o, s.heap.get? a = some o ∧ H a = none) → Heap.SameBut a s.heap h' → HOk X.prog X.w H h' := fun {a h'} ha hs b ob e => by
    obtain ⟨_, _, hfree⟩ := ha
    refine (I.hok b ob e).stay (fun c w' hc q => (hs.2 c ?_).trans q) (fun _ q => q) fun _ _ q => q
    rintro rfl
    rcases hc with rfl | hc
    · rw [hfree] at e; cases e
    · rw [hfree] at hc; cases hc
  rcases hx with hk | hk
  · refine wpAny_storeName_local hk hn (fun h' hn' hs => ?_) hcls
    obtain ⟨oL, _, _, hoL, _⟩ := id hn
    refine h _ ⟨I.ok, I.os, I.bare, ⟨fun b o e n hb hx => ?_, fun b o e n hb hx => ?_, I.base.free, fun b o e hx => ?_, I.base.tups, I.base.frzs, I.base.tbls⟩, ⟨_, hn', fun j y v' e1 e2 e3 => ?_⟩, fun y c e => ?_, I.free, I.freeC, fun p hp => ?_, tracked ⟨oL, hoL, I.free⟩ hs, by simpa using I.len⟩ ⟨_, hs, .inl rfl⟩
    · exact (hs.2 b (Nat.ne_of_lt (Nat.lt_of_lt_of_le (Heap.lt_size e) I.ok.above))).trans (I.base.keep b o e n hb hx)
    · obtain ⟨sl, e1⟩ := I.base.slot b o e n hb hx
      exact ⟨sl, (hs.2 b (Nat.ne_of_lt (Nat.lt_of_lt_of_le (Heap.lt_size e) I.ok.above))).trans e1⟩
    · obtain ⟨o', e1⟩ := I.base.there b o e hx
      exact ⟨o', (hs.2 b (Nat.ne_of_lt (Nat.lt_of_lt_of_le (Heap.lt_size e) I.ok.above))).trans e1⟩
    · by_cases hj : j = i
      · subst hj
        rw [hi] at e1; cases e1
        rw [List.getElem?_set_self hiσ] at e2
        cases e2
        exact ⟨u, r, .inl ⟨hk, by simp⟩⟩
      · rw [List.getElem?_set_ne (Ne.symm hj)] at e2
        obtain ⟨u', r', q⟩ := hl j y v' e1 e2 e3
        refine ⟨u', r', ?_⟩
        rcases q with ⟨k, e⟩ | ⟨k, c, e, z⟩
        · refine .inl ⟨k, ?_⟩
          have : y ≠ x := fun e => hj (nodup_ix hN e1 (e ▸ hi))
          simp [this, e]
        · exact .inr ⟨k, c, e, z.sameBut hs (cne y c e)⟩
    · obtain ⟨w', z⟩ := I.cell y c e
      exact ⟨w', z.sameBut hs (cne y c e)⟩
    · obtain ⟨e, n, ne, nf, d⟩ := I.pin p hp
      exact ⟨(hs.2 p.1 ne).trans e, n, ne, nf, d⟩
  · have hfn : X.fn x = true := by
      rcases hf with z | z
      · exact z
      · rw [z] at hk; cases hk
    obtain ⟨c, hc⟩ := I.ok.has x (.inl hk)
    obtain ⟨w', z⟩ := I.cell x c hc
    refine wpAny_storeName_cell I.ok.kind hk hc z (fun h' hc' hs => ?_)
    obtain ⟨oc, hoc, hocd⟩ := id z
    refine h { s with heap := h' } ⟨I.ok, I.os, I.bare, ⟨fun b o e n hb hx => ?_, fun b o e n hb hx => ?_, I.base.free, fun b o e hx => ?_, I.base.tups, I.base.frzs, I.base.tbls⟩, ⟨m, hn.sameBut hs (Ne.symm (cne x c hc)), fun j y v' e1 e2 e3 => ?_⟩, fun y c' e => ?_, I.free, I.freeC, fun p hp => ?_, tracked ⟨oc, hoc, I.freeC x c hc⟩ hs, by simpa using I.len⟩ ⟨c, hs, .inr hc⟩
    · exact (hs.2 b (Nat.ne_of_lt (Nat.lt_of_lt_of_le (Heap.lt_size e) (I.ok.cab x c hfn hc)))).trans (I.base.keep b o e n hb hx)
    · obtain ⟨sl, e1⟩ := I.base.slot b o e n hb hx
      exact ⟨sl, (hs.2 b (Nat.ne_of_lt (Nat.lt_of_lt_of_le (Heap.lt_size e) (I.ok.cab x c hfn hc)))).trans e1⟩
    · obtain ⟨o', e1⟩ := I.base.there b o e hx
      exact ⟨o', (hs.2 b (Nat.ne_of_lt (Nat.lt_of_lt_of_le (Heap.lt_size e) (I.ok.cab x c hfn hc)))).trans e1⟩
    · by_cases hj : j = i
      · subst hj
        rw [hi] at e1; cases e1
        rw [List.getElem?_set_self hiσ] at e2
        cases e2
        exact ⟨u, r, .inr ⟨.inl hk, c, hc, hc'⟩⟩
      · rw [List.getElem?_set_ne (Ne.symm hj)] at e2
        obtain ⟨u', r', q⟩ := hl j y v' e1 e2 e3
        refine ⟨u', r', ?_⟩
        rcases q with q | ⟨k, c', e, z'⟩
        · exact .inl q
        · refine .inr ⟨k, c', e, z'.sameBut hs ?_⟩
          rintro rfl
          exact hj (nodup_ix hN e1 (I.ok.inj _ _ _ e hc ▸ hi))
    · by_cases hcc : c' = c
      · subst hcc; exact ⟨_, hc'⟩
      · obtain ⟨w2, z2⟩ := I.cell y c' e
        exact ⟨w2, z2.sameBut hs hcc⟩
    · obtain ⟨e, n, ne, nf, d⟩ := I.pin p hp
      refine ⟨(hs.2 p.1 ?_).trans e, n, ne, nf, d⟩
      intro q
      rw [q, hoc] at e
      have q' : oc = p.2 := Option.some.inj e
      exact d w' (by rw [← q']; exact hocd)
theorem store_ok {M : Model} {A : Around} {E : Value → Shared → Prop} {i : Nat} {x : Str} {v : V} {u : Value} {Q : Unit → Shared → Prop} (I : Inv X pins σ H s) (hN : X.N.Nodup) (hi : X.N[i]? = some x) (hx : Loc X.env.scope x) (r : RelV v u)
    (h : ∀ s', Inv X pins (σ.set i (some v)) H s' → Q () s') (hf : X.fn x = true ∨ X.env.scope.names.lookup x = some .local := by first | exact .inl rfl | exact .inr rfl | assumption) : wpAny M A (storeName X.env x u) Q E s :=
  store_ok2 I hN hi hx r (fun s' I' _ => h s' I') hf
/-- behind a call or a block, the state as it is -/
theorem Inv.call' {s' : Shared} {ch : List Addr} (I : Inv X pins σ H s) (ho : s'.os = s.os) (u : Un (frs X.stack) ch H H' s.heap s'.heap) (hok : HOk X.prog X.w H' s'.heap) (hg : AllBare s'.gens)
    (hch : ∀ b ∈ ch, (b ∈ X.ex ∨ X.s₀.heap.objs.size ≤ b) ∧ b ≠ X.env.locals ∧ (∀ x c, X.env.cells.lookup x = some c → c ≠ b) ∧ ∀ p ∈ X.pn ++ pins, p.1 ≠ b) : Inv X pins σ H' s' := by
  obtain ⟨h', g', d', t', o'⟩ := s'
  have e : o' = s.os := ho
  subst e
  exact I.call (g' := g') (t' := t') (d' := d') u hok hg hch
end

/-! ### the judgements -/
/-- an exception: its class, its own dict's address (where it has one), the abstract heap behind it -/
noncomputable abbrev XK := Value → Option Addr → Hp → Prop
noncomputable abbrev St := List (Option V)
noncomputable abbrev VK := V → Hp → Prop
/-- an expression's reading; a test's; an argument list's -/
noncomputable abbrev TE := St → Hp → VK → Prop
noncomputable abbrev TT := St → Hp → (Bool → Hp → Prop) → Prop
noncomputable abbrev TA := St → Hp → (List V → Hp → Prop) → Prop
/-- what is wanted behind a statement -/
structure Ends where
  nx : St → Hp → Prop
  rt : VK
  bk : St → Hp → Prop := fun _ _ => False
  ct : St → Hp → Prop := fun _ _ => False
noncomputable abbrev TS := Ends → St → Hp → Prop

noncomputable def EP (X : Cx) (pins : List (Addr × Obj)) (σ : St) (Q : VK) (u : Value) (s' : Shared) : Prop := ∃ v H', Inv X pins σ H' s' ∧ RelV v u ∧ Q v H'
noncomputable def TP (X : Cx) (pins : List (Addr × Obj)) (σ : St) (Q : Bool → Hp → Prop) (b : Bool) (s' : Shared) : Prop := ∃ H', Inv X pins σ H' s' ∧ Q b H'
noncomputable def AP (X : Cx) (pins : List (Addr × Obj)) (σ : St) (Q : List V → Hp → Prop) (us : List Value) (s' : Shared) : Prop := ∃ vs H', Inv X pins σ H' s' ∧ Vals vs us ∧ Q vs H'
noncomputable def SP (X : Cx) (pins : List (Addr × Obj)) (D : Ends) (f : Flow) (s' : Shared) : Prop :=
  match f with
  | .next => ∃ σ' H', Inv X pins σ' H' s' ∧ D.nx σ' H'
  | .brk => ∃ σ' H', Inv X pins σ' H' s' ∧ D.bk σ' H'
  | .cont => ∃ σ' H', Inv X pins σ' H' s' ∧ D.ct σ' H'
  | .ret u => ∃ v σ' H', Inv X pins σ' H' s' ∧ RelV v u ∧ D.rt v H'

noncomputable def PE (X : Cx) (e : Expr) (t : TE) : Prop :=
  ∀ (pins : List (Addr × Obj)) (s : Shared) (σ : St) (H : Hp) (Q : VK), Inv X pins σ H s → t σ H Q → wpAny (model X.prog X.w) X.A (eval e X.env) (EP X pins σ Q) X.xe s
noncomputable def PT (X : Cx) (e : Expr) (t : TT) : Prop :=
  ∀ (pins : List (Addr × Obj)) (s : Shared) (σ : St) (H : Hp) (Q : Bool → Hp → Prop), Inv X pins σ H s → t σ H Q → wpAny (model X.prog X.w) X.A (isTrue e X.env (eval e X.env)) (TP X pins σ Q) X.xe s
/-- a test whatever its 'whole' is (and, or) -/
noncomputable def PW (X : Cx) (e : Expr) (t : TT) : Prop :=
  ∀ (whole : Sem Value) (pins : List (Addr × Obj)) (s : Shared) (σ : St) (H : Hp) (Q : Bool → Hp → Prop), Inv X pins σ H s → t σ H Q → wpAny (model X.prog X.w) X.A (isTrue e X.env whole) (TP X pins σ Q) X.xe s
theorem PW.pt {X : Cx} {e : Expr} {t : TT} (h : PW X e t) : PT X e t := h _
/-- an argument list (no star), from the left -/
noncomputable def PA (X : Cx) (es : List Expr) (t : TA) : Prop :=
  ∀ (pos : Pos) (pins : List (Addr × Obj)) (s : Shared) (σ : St) (H : Hp) (Q : List V → Hp → Prop), Inv X pins σ H s → t σ H Q → wpAny (model X.prog X.w) X.A (spliced (backTo pos (starEach es X.env))) (AP X pins σ Q) X.xe s
noncomputable def PS (X : Cx) (st : Stmt) (t : TS) : Prop :=
  ∀ (pins : List (Addr × Obj)) (s : Shared) (σ : St) (H : Hp) (D : Ends), Inv X pins σ H s → t D σ H → wpAny (model X.prog X.w) X.A (exec st X.env) (SP X pins D) X.xe s
noncomputable def PSs (X : Cx) (st : List Stmt) (t : TS) : Prop :=
  ∀ (pins : List (Addr × Obj)) (s : Shared) (σ : St) (H : Hp) (D : Ends), Inv X pins σ H s → t D σ H → wpAny (model X.prog X.w) X.A (execs st X.env) (SP X pins D) X.xe s
/-- weaken the end -/
theorem thn {α : Type} {t : Sem α} {Q Q' : α → Shared → Prop} {M : Model} {A : Around} {E : Value → Shared → Prop} {s : Shared} (h : wpAny M A t Q E s) (hQ : ∀ a s, Q a s → Q' a s) : wpAny M A t Q' E s := wpAny_mono h hQ fun _ _ x => x
end L2

namespace L2
open PySem PySem.Spec PyProof.Rows
section
variable {X : Cx}

/-- two expressions in a row -/
theorem bin {a b : Expr} {ta tb : TE} (ha : PE X a ta) (hb : PE X b tb) {pins : List (Addr × Obj)} {s : Shared} {σ : St} {H : Hp} {R : V → V → Hp → Prop} (I : Inv X pins σ H s) (h : ta σ H fun x H1 => tb σ H1 fun y H2 => R x y H2)
    {α : Type} {Q : α → Shared → Prop} {f : Value → Value → Sem α}
    (hf : ∀ v u s2 x y H2, Inv X pins σ H2 s2 → RelV x v → RelV y u → R x y H2 → wpAny (model X.prog X.w) X.A (f v u) Q X.xe s2) :
    wpAny (model X.prog X.w) X.A (eval a X.env) (fun v s₁ => wpAny (model X.prog X.w) X.A (eval b X.env) (fun u s₂ => wpAny (model X.prog X.w) X.A (f v u) Q X.xe s₂) X.xe s₁) X.xe s := by
  refine thn (ha pins s σ H _ I h) fun v s1 ⟨x, H1, I1, r1, q1⟩ => ?_
  refine thn (hb pins s1 σ H1 _ I1 q1) fun u s2 ⟨y, H2, I2, r2, q2⟩ => ?_
  exact hf v u s2 x y H2 I2 r1 r2 q2

/-! ### names and constants -/
noncomputable def tVar (i : Nat) : TE := fun σ H Q => ∃ v, σ[i]? = some (some v) ∧ Q v H
noncomputable def tC (v : V) : TE := fun _ H Q => Q v H
theorem pe_var {i : Nat} {x : Str} {pos : Pos} (hN : X.N[i]? = some x) (hv : Vis X.env.scope x) (hd : (x == ("__debug__" : Str)) = false := by decide) (hcd : (x == ("__classdict__" : Str)) = false := by decide) : PE X (.Name x pos) (tVar i) := by
  intro pins s σ H Q I h
  obtain ⟨v, e, h⟩ := h
  obtain ⟨m, hn, hl⟩ := I.loc
  obtain ⟨u, r, l⟩ := hl i x v hN e hv
  have fin : EP X pins σ Q u s := ⟨v, H, I, r, h⟩
  rcases l with ⟨hk, hm⟩ | ⟨hk, c, hc, hcell⟩
  · exact wpAny_Name (wpAny_loadName_local I.ok.kind hk hn hm fin) hd
  · rcases hk with hk | hk
    · exact wpAny_Name (wpAny_loadName_cell I.ok.kind hk hc hcell fin) hd
    · exact wpAny_Name (wpAny_loadName_free I.ok.kind hk hc hcell fin hcd) hd
theorem pe_int {i j pos} : PE X (.Constant (.int i) j pos) (tC (.int i)) := fun _ _ _ H _ I h => wpAny_Constant_int ⟨.int i, H, I.tok _, ⟨_, rfl⟩, h⟩
theorem pe_bl {b j pos} : PE X (.Constant (.bool b) j pos) (tC (.bl b)) := fun _ _ _ H _ I h => Constant_bool ⟨.bl b, H, I, rfl, h⟩
theorem pe_non {j pos} : PE X (.Constant .none j pos) (tC .non) := fun _ _ _ H _ I h => Constant_none ⟨.non, H, I, rfl, h⟩
theorem pe_str {x j pos} : PE X (.Constant (.str x) j pos) (tC (.str x)) := fun _ _ _ H _ I h => Calls.Constant_str ⟨.str x, H, I.tok _, ⟨_, rfl⟩, h⟩

/-- a global name of the def -/
noncomputable def Gl (X : Cx) (x : Str) : Prop := X.env.kindOf x = some .globalImplicit
theorem ld_glob {E : Value → Shared → Prop} {pins : List (Addr × Obj)} {s : Shared} {σ : St} {H : Hp} {x : Str} {u : Value} {pos : Pos} {Q : Value → Shared → Prop} (I : Inv X pins σ H s) (hg : Gl X x) (hm : X.mg x = some u) (h : Q u s)
    (hd : (x == ("__debug__" : Str)) = false := by decide) : wpAny (model X.prog X.w) X.A (eval (.Name x pos) X.env) Q E s :=
  Calls.Name_function_global I.ok.kind hg (Calls.loadGlobal_global (by rw [I.ok.glob]; exact I.mod.glob.keeps I.bk) hm h) hd
theorem ld_blt {E : Value → Shared → Prop} {pins : List (Addr × Obj)} {s : Shared} {σ : St} {H : Hp} {x : Str} {u : Value} {pos : Pos} {Q : Value → Shared → Prop} (I : Inv X pins σ H s) (hg : Gl X x) (hm : X.mg x = none) (hv : bootBuiltins x = some u) (h : Q u s)
    (hn : x ≠ "__name__" := by decide) (hd : (x == ("__debug__" : Str)) = false := by decide) : wpAny (model X.prog X.w) X.A (eval (.Name x pos) X.env) Q E s := by
  obtain ⟨mb, h1, h2⟩ := I.mod.blt
  exact Calls.Name_function_global I.ok.kind hg (Calls.loadGlobal_builtin (by rw [I.ok.glob]; exact I.mod.glob.keeps I.bk) hm (by rw [I.ok.blt]; exact h1.keeps I.bk) ((h2 x hn).trans hv) h) hd
/-- a module's constant, a class, a function, as a value -/
theorem pe_glob {x : Str} {v : V} {u : Value} {pos : Pos} (hg : Gl X x) (hm : X.mg x = some u) (r : RelV v u) (hd : (x == ("__debug__" : Str)) = false := by decide) : PE X (.Name x pos) (tC v) :=
  fun _ _ _ H _ I h => ld_glob I hg hm ⟨v, H, I, r, h⟩ hd
theorem pe_bltn {x : Str} {v : V} {u : Value} {pos : Pos} (hg : Gl X x) (hm : X.mg x = none) (hv : bootBuiltins x = some u) (r : RelV v u) (hn : x ≠ "__name__" := by decide) (hd : (x == ("__debug__" : Str)) = false := by decide) : PE X (.Name x pos) (tC v) :=
  fun _ _ _ H _ I h => ld_blt I hg hm hv ⟨v, H, I, r, h⟩ hn hd

/-! ### arithmetic -/
/-- two ints -/
noncomputable def t2I (ta tb : TE) (k : Int → Int → Hp → Prop) : St → Hp → Prop := fun σ H => ta σ H fun x H1 => tb σ H1 fun y H2 => ∃ i j, x = .int i ∧ y = .int j ∧ k i j H2
noncomputable def tAdd (ta tb : TE) : TE := fun σ H Q => t2I ta tb (fun i j H2 => Q (.int (i + j)) H2) σ H
noncomputable def tSub (ta tb : TE) : TE := fun σ H Q => t2I ta tb (fun i j H2 => Q (.int (i - j)) H2) σ H
/-- the left factor below 2^64 -/
noncomputable def tMul (ta tb : TE) : TE := fun σ H Q => t2I ta tb (fun i j H2 => (-(2 ^ 64) < i ∧ i < 2 ^ 64) ∧ Q (.int (i * j)) H2) σ H
variable {a b : Expr} {ta tb : TE} {pos : Pos}
/-! ### comparisons -/
noncomputable def PC (X : Cx) (op : CmpOp) (a b : Expr) (t : TE) : Prop :=
  ∀ (pins : List (Addr × Obj)) (s : Shared) (σ : St) (H : Hp) (Q : VK), Inv X pins σ H s → t σ H Q →
    wpAny (model X.prog X.w) X.A (eval a X.env) (fun v s₁ => wpAny (model X.prog X.w) X.A (eval b X.env) (fun u s₂ => wpAny (model X.prog X.w) X.A (compareOp op v u) (EP X pins σ Q) X.xe s₂) X.xe s₁) X.xe s
noncomputable def tCmp (p : Int → Int → Bool) (ta tb : TE) : TE := fun σ H Q => t2I ta tb (fun i j H2 => Q (.bl (p i j)) H2) σ H
noncomputable abbrev tLt : TE → TE → TE := tCmp fun i j => decide (i < j)
noncomputable abbrev tLe : TE → TE → TE := tCmp fun i j => decide (i ≤ j)
noncomputable abbrev tGt : TE → TE → TE := tCmp fun i j => decide (j < i)
noncomputable abbrev tGe : TE → TE → TE := tCmp fun i j => decide (j ≤ i)
noncomputable abbrev tEqI : TE → TE → TE := tCmp fun i j => decide (i = j)
noncomputable abbrev tNeI : TE → TE → TE := tCmp fun i j => !decide (i = j)
/-- is None -/
noncomputable def tIsN (ta : TE) : TE := fun σ H Q => ta σ H fun x H1 => Q (.bl (decide (x = .non))) H1
noncomputable def tNotN (ta : TE) : TE := fun σ H Q => ta σ H fun x H1 => Q (.bl (!decide (x = .non))) H1
/-- a comparison as a value, as a test -/
noncomputable def tB (t : TE) : TT := fun σ H Q => t σ H fun x H1 => ∃ c, x = .bl c ∧ Q c H1
theorem pt_cmp {op : CmpOp} {t : TE} (h : PC X op a b t) (h1 : behindInMarks op b = false := by first | exact nobehind _ (by decide) (by decide) | rfl) : PT X (.Compare a [op] [b] pos) (tB t) := by
  intro pins s σ H Q I hw
  refine wpAny_isTrue_Compare1 (thn (h pins s σ H _ I hw) fun v s1 h1 => thn h1 fun u s2 h2 => thn h2 fun c s3 ⟨x, H1, I1, r1, q1⟩ => ?_) h1
  obtain ⟨d, rfl, q⟩ := q1
  cases r1
  exact wpAny_truthy_bool ⟨H1, I1, q⟩
/-- an expression whose value is a bool, as a test -/
theorem pt_val {e : Expr} {t : TE} (h : PE X e t) (he : ∀ whole, isTrue e X.env whole = (do let v ← whole; standAt e.pos; holding [v] (truthy v)) := by intro _; rfl) : PT X e (tB t) := by
  intro pins s σ H Q I hw
  refine isTrue_plain (thn (h pins s σ H _ I hw) fun v s1 ⟨x, H1, I1, r1, q1⟩ => ?_) (he _)
  obtain ⟨d, rfl, q⟩ := q1
  cases r1
  exact wpAny_truthy_bool ⟨H1, I1, q⟩

/-! ### and, or, not -/
variable {tA tB' : TT} {rest : List Expr}
noncomputable def tAnd (t u : TT) : TT := fun σ H Q => t σ H fun c H1 => if c = true then u σ H1 Q else Q false H1
noncomputable def tOr (t u : TT) : TT := fun σ H Q => t σ H fun c H1 => if c = true then Q true H1 else u σ H1 Q
noncomputable def tNot (t : TT) : TT := fun σ H Q => t σ H fun c H1 => Q (!c) H1
theorem pw_and1 (ha : PT X a tA) : PW X (.BoolOp .And [a] pos) tA := by
  intro wh pins s σ H Q I h
  refine isTrue_and (thn (ha pins s σ H Q I h) fun c s1 e => ?_)
  cases c with
  | true => exact isTrue_and_nil e
  | false => exact e
theorem pw_or1 (ha : PT X a tA) : PW X (.BoolOp .Or [a] pos) tA := by
  intro wh pins s σ H Q I h
  refine isTrue_or (thn (ha pins s σ H Q I h) fun c s1 e => ?_)
  cases c with
  | false => exact isTrue_or_nil e
  | true => exact e
theorem pw_and (ha : PT X a tA) (hb : PW X (.BoolOp .And (b :: rest) pos) tB') : PW X (.BoolOp .And (a :: b :: rest) pos) (tAnd tA tB') := by
  intro wh pins s σ H Q I h
  refine isTrue_and (thn (ha pins s σ H _ I h) fun c s1 ⟨H1, I1, q1⟩ => ?_)
  cases c with
  | true => exact hb wh pins s1 σ H1 Q I1 q1
  | false => exact ⟨H1, I1, q1⟩
theorem pw_or (ha : PT X a tA) (hb : PW X (.BoolOp .Or (b :: rest) pos) tB') : PW X (.BoolOp .Or (a :: b :: rest) pos) (tOr tA tB') := by
  intro wh pins s σ H Q I h
  refine isTrue_or (thn (ha pins s σ H _ I h) fun c s1 ⟨H1, I1, q1⟩ => ?_)
  cases c with
  | true => exact ⟨H1, I1, q1⟩
  | false => exact hb wh pins s1 σ H1 Q I1 q1
theorem pt_not (ha : PT X a tA) : PT X (.UnaryOp .Not a pos) (tNot tA) := by
  intro pins s σ H Q I h
  exact isTrue_not (ha pins s σ H (fun c H1 => Q (!c) H1) I h)
/-- .. as values (bools) -/
noncomputable def tAndV (ta tb : TE) : TE := fun σ H Q => ta σ H fun x H1 => ∃ c, x = .bl c ∧ if c = true then tb σ H1 Q else Q (.bl false) H1
noncomputable def tOrV (ta tb : TE) : TE := fun σ H Q => ta σ H fun x H1 => ∃ c, x = .bl c ∧ if c = true then Q (.bl true) H1 else tb σ H1 Q
noncomputable def tNotV (ta : TE) : TE := fun σ H Q => ta σ H fun x H1 => ∃ c, x = .bl c ∧ Q (.bl (!c)) H1
theorem pe_one {op} {t : TE} (h : PE X a t) : PE X (.BoolOp op [a] pos) t := fun pins s σ H Q I hw => BoolOp_one (h pins s σ H Q I hw)
theorem pe_and (ha : PE X a ta) (hb : PE X (.BoolOp .And (b :: rest) pos) tb) : PE X (.BoolOp .And (a :: b :: rest) pos) (tAndV ta tb) := by
  intro pins s σ H Q I h
  refine BoolOp_and (thn (ha pins s σ H _ I h) fun v s1 ⟨x, H1, I1, r1, q1⟩ => ?_)
  obtain ⟨c, rfl, q1⟩ := q1
  cases r1
  refine wpAny_truthy_bool ?_
  cases c with
  | true => exact hb pins s1 σ H1 Q I1 q1
  | false => exact ⟨.bl false, H1, I1, rfl, q1⟩
theorem pe_not (ha : PE X a ta) : PE X (.UnaryOp .Not a pos) (tNotV ta) := by
  intro pins s σ H Q I h
  refine UnaryOp_ (thn (ha pins s σ H _ I h) fun v s1 ⟨x, H1, I1, r1, q1⟩ => ?_)
  obtain ⟨c, rfl, q1⟩ := q1
  cases r1
  exact not_of (wpAny_truthy_bool ⟨.bl (!c), H1, I1, rfl, q1⟩)
/-- a if t else b -/
noncomputable def tIf (t : TT) (ta tb : TE) : TE := fun σ H Q => t σ H fun c H1 => if c = true then ta σ H1 Q else tb σ H1 Q
theorem pe_ifExp {c : Expr} (hc : PT X c tA) (ha : PE X a ta) (hb : PE X b tb) : PE X (.IfExp c a b pos) (tIf tA ta tb) := by
  intro pins s σ H Q I h
  refine wpAny_IfExp (thn (hc pins s σ H _ I h) fun d s1 ⟨H1, I1, q1⟩ => ?_)
  cases d with
  | true => exact ha pins s1 σ H1 Q I1 q1
  | false => exact hb pins s1 σ H1 Q I1 q1
end
end L2

namespace L2
open PySem PySem.Spec PyProof.Rows

/-! ### a list, a tuple that is read: tracked, frozen, or an object of the module -/
noncomputable def SqL (K : PySem.W.Frag) (H : Hp) (a : Addr) (xs : List V) : Prop :=
  Rd H a (.lst xs) ∨
    ∃ (o : Obj) (its : Array Value) (n : Nat), K.lookup a = some o ∧ o.cls = .type "list" ∧ o.dict = none ∧ o.data = .seq its n ∧ its.size ≤ sizeLine ∧ Vals xs its.toList
noncomputable def SqT (K : PySem.W.Frag) (H : Hp) (a : Addr) (xs : List V) : Prop :=
  Rd H a (.tup xs) ∨
    ∃ (o : Obj) (its : Array Value) (n : Nat), K.lookup a = some o ∧ o.cls = .type "tuple" ∧ o.data = .seq its n ∧ its.size ≤ sizeLine ∧ Vals xs its.toList
noncomputable def absV : Value → Option V
  | .none => some .non
  | .bool b => some (.bl b)
  | .int i _ => some (.int i)
  | .str x _ => some (.str x)
  | .bytes b _ => some (.byt b)
  | .float b _ => some (.flt b)
  | .ref a => some (.ref a)
  | .type n => some (.ty n)
  | _ => none
theorem RelV.abs {x : V} {u : Value} (r : RelV x u) : absV u = some x := by
  cases x with
  | non => cases r; rfl
  | bl _ => cases r; rfl
  | int _ => obtain ⟨t, rfl⟩ := r; rfl
  | str _ => obtain ⟨t, rfl⟩ := r; rfl
  | byt _ => obtain ⟨t, rfl⟩ := r; rfl
  | flt _ => obtain ⟨t, rfl⟩ := r; rfl
  | ref _ => cases r; rfl
  | ty _ => cases r; rfl
theorem RelV.inj {x y : V} {u : Value} (r : RelV x u) (q : RelV y u) : x = y := Option.some.inj (r.abs.symm.trans q.abs)
theorem Vals.inj : ∀ {xs ys : List V} {us : List Value}, Vals xs us → Vals ys us → xs = ys
  | _, _, _, .nil, .nil => rfl
  | _, _, _, .cons r t, .cons r' t' => by rw [r.inj r', Vals.inj t t']
section
variable {X : Cx} {pins : List (Addr × Obj)} {σ : St} {H : Hp} {s : Shared} {a : Addr} {xs ys : List V}
theorem SqL.of {K : PySem.W.Frag} (h : H a = some (.lst xs)) : SqL K H a xs := .inl (.inl h)
theorem SqT.of {K : PySem.W.Frag} (h : H a = some (.tup xs)) : SqT K H a xs := .inl (.inl h)
theorem Inv.list (I : Inv X pins σ H s) (h : SqL X.K H a xs) : ∃ its : List Value, Vals xs its ∧ PlainL s.heap a its.toArray ∧ xs.length ≤ sizeLine := by
  rcases h with h | ⟨o, its, n, hk, hc, hd, hs, hz, r⟩
  · obtain ⟨z, its, n, r, e⟩ := h.ok I.hok
    exact ⟨its, r, ⟨_, n, e, rfl, rfl, rfl⟩, z⟩
  · refine ⟨its.toList, r, ⟨o, n, I.kIn a o hk, hc, hd, by simpa using hs⟩, ?_⟩
    have e := r.length
    simp only [Array.length_toList] at e
    (first | lia | omega)
theorem Inv.tuple (I : Inv X pins σ H s) (h : SqT X.K H a xs) : ∃ its : List Value, Vals xs its ∧ IsTup s.heap a its.toArray ∧ xs.length ≤ sizeLine := by
  rcases h with h | ⟨o, its, n, hk, hc, hs, hz, r⟩
  · obtain ⟨z, its, r, p⟩ := h.ok I.hok
    exact ⟨its, r, p, z⟩
  · refine ⟨its.toList, r, ⟨o, I.kIn a o hk, hc, n, by simpa using hs⟩, ?_⟩
    have e := r.length
    simp only [Array.length_toList] at e
    (first | lia | omega)
theorem Inv.list_inj (I : Inv X pins σ H s) (h : SqL X.K H a xs) (h' : SqL X.K H a ys) : xs = ys := by
  obtain ⟨its, r, ⟨o, n, e, _, _, d⟩, _⟩ := I.list h
  obtain ⟨its', r', ⟨o', n', e', _, _, d'⟩, _⟩ := I.list h'
  rw [e] at e'; cases e'
  rw [d] at d'
  injection d' with d1 _
  have : its = its' := by simpa using congrArg Array.toList d1
  subst this
  exact r.inj r'
theorem Inv.tuple_inj (I : Inv X pins σ H s) (h : SqT X.K H a xs) (h' : SqT X.K H a ys) : xs = ys := by
  obtain ⟨its, r, ⟨o, e, _, n, d⟩, _⟩ := I.tuple h
  obtain ⟨its', r', ⟨o', e', _, n', d'⟩, _⟩ := I.tuple h'
  rw [e] at e'; cases e'
  rw [d] at d'
  injection d' with d1 _
  have : its = its' := by simpa using congrArg Array.toList d1
  subst this
  exact r.inj r'
end

/-! ### another wish about exceptions -/
noncomputable abbrev Cx.wish (X : Cx) (E : Value → Shared → Prop) : Cx := { X with xe := E }
/-- no exception leaves -/
noncomputable abbrev Cx.nox (X : Cx) : Cx := X.wish fun _ _ => False
theorem Cx.Ok.wish {X : Cx} (ok : X.Ok) (E : Value → Shared → Prop) : (X.wish E).Ok :=
  ⟨ok.mod, ok.kind, ok.glob, ok.blt, ok.above, ok.inj, ok.has, ok.cab, ok.hd, ok.frames, ok.stk, ok.exf, ok.bs, ok.bsz, ok.noex, ok.exfs, ok.funs, ok.frf⟩
theorem Cx.Ok.unwish {X : Cx} {E : Value → Shared → Prop} (ok : (X.wish E).Ok) : X.Ok :=
  ⟨ok.mod, ok.kind, ok.glob, ok.blt, ok.above, ok.inj, ok.has, ok.cab, ok.hd, ok.frames, ok.stk, ok.exf, ok.bs, ok.bsz, ok.noex, ok.exfs, ok.funs, ok.frf⟩
section
variable {X : Cx} {pins : List (Addr × Obj)} {σ : St} {H : Hp} {s : Shared} {E : Value → Shared → Prop}
theorem Inv.wish (I : Inv X pins σ H s) (E : Value → Shared → Prop) : Inv (X.wish E) pins σ H s := ⟨I.ok.wish E, I.os, I.bare, I.base, I.loc, I.cell, I.free, I.freeC, I.pin, I.hok, I.len⟩
theorem Inv.unwish (I : Inv (X.wish E) pins σ H s) : Inv X pins σ H s := ⟨I.ok.unwish, I.os, I.bare, I.base, I.loc, I.cell, I.free, I.freeC, I.pin, I.hok, I.len⟩
theorem SP.unwish {D : Ends} {f : Flow} {s' : Shared} (h : SP (X.wish E) pins D f s') : SP X pins D f s' := by
  cases f with
  | next => obtain ⟨σ', H', I, q⟩ := h; exact ⟨σ', H', I.unwish, q⟩
  | brk => obtain ⟨σ', H', I, q⟩ := h; exact ⟨σ', H', I.unwish, q⟩
  | cont => obtain ⟨σ', H', I, q⟩ := h; exact ⟨σ', H', I.unwish, q⟩
  | ret u => obtain ⟨v, σ', H', I, r, q⟩ := h; exact ⟨v, σ', H', I.unwish, r, q⟩
theorem PSs.nox {st : List Stmt} {t : TS} (h : PSs X.nox st t) : PSs X st t := fun pins s σ H D I hw =>
  wpAny_mono (h pins s σ H D (I.wish _) hw) (fun _ _ q => q.unwish) fun _ _ z => False.elim z
end

/-! ### blocks and small statements -/
section
variable {X : Cx} {st : Stmt} {rest : List Stmt} {t u : TS} {e : Expr} {te : TE} {pos : Pos}
noncomputable def tNext : TS := fun D σ H => D.nx σ H
noncomputable def tSeq (t u : TS) : TS := fun D σ H => t { D with nx := u D } σ H
theorem pss_nil : PSs X [] tNext := fun _ _ σ H _ I h => wpAny_execs_nil ⟨σ, H, I, h⟩
theorem pss_cons (h1 : PS X st t) (h2 : PSs X rest u) : PSs X (st :: rest) (tSeq t u) := by
  intro pins s σ H D I h
  refine wpAny_execs_cons (thn (h1 pins s σ H { D with nx := u D } I h) fun f s1 q => ?_)
  cases f with
  | next =>
    obtain ⟨σ', H', I', q⟩ := q
    exact h2 pins s1 σ' H' D I' q
  | ret v => exact q
  | brk => exact q
  | cont => exact q
theorem pss_one (h1 : PS X st t) : PSs X [st] t := by
  intro pins s σ H D I h
  refine wpAny_execs_cons (thn (h1 pins s σ H D I h) fun f s1 q => ?_)
  cases f with
  | next => exact wpAny_execs_nil q
  | ret v => exact q
  | brk => exact q
  | cont => exact q
noncomputable def tBreak : TS := fun D σ H => D.bk σ H
noncomputable def tCont : TS := fun D σ H => D.ct σ H
theorem ps_break : PS X (.Break pos) tBreak := fun _ _ σ H _ I h => wpAny_Break ⟨σ, H, I, h⟩
/-- in a def's body nothing is shown -/
theorem Inv.quiet {pins : List (Addr × Obj)} {σ : St} {H : Hp} {s : Shared} (I : Inv X pins σ H s) : interactive X.env = false := by simp [interactive, I.ok.kind]
/-- an expression whose value is dropped -/
noncomputable def tDrop (te : TE) : TS := fun D σ H => te σ H fun _ H1 => D.nx σ H1
theorem ps_expr (he : PE X e te) (hs : swapsWith e none pos.line X.env = pure false := by rfl) : PS X (.Expr e pos) (tDrop te) := by
  intro pins s σ H D I h
  exact wpAny_Expr_any (thn (he pins s σ H _ I h) fun v s1 ⟨x, H1, I1, r1, q1⟩ => ⟨σ, H1, I1, q1⟩) I.quiet hs
noncomputable def tRet (te : TE) : TS := fun D σ H => te σ H D.rt
theorem ps_ret (he : PE X e te) : PS X (.Return (some e) pos) (tRet te) := by
  intro pins s σ H D I h
  exact wpAny_Return_some (thn (he pins s σ H _ I h) fun v s1 ⟨x, H1, I1, r1, q1⟩ => ⟨x, σ, H1, I1, r1, q1⟩)
noncomputable def tRetN : TS := fun D _ H => D.rt .non H
noncomputable def tIfS (c : TT) (t u : TS) : TS := fun D σ H => c σ H fun b H1 => if b = true then t D σ H1 else u D σ H1
theorem ps_if {c : Expr} {a b : List Stmt} {tc : TT} (hc : PT X c tc) (ha : PSs X a t) (hb : PSs X b u) : PS X (.If c a b pos) (tIfS tc t u) := by
  intro pins s σ H D I h
  refine wpAny_If (thn (hc pins s σ H _ I h) fun d s1 ⟨H1, I1, q1⟩ => ?_)
  cases d with
  | true => exact ha pins s1 σ H1 D I1 q1
  | false => exact hb pins s1 σ H1 D I1 q1
/-- code that the proof never comes to -/
noncomputable def tNever : TS := fun _ _ _ => False
theorem pss_never {sts : List Stmt} : PSs X sts tNever := fun _ _ _ _ _ _ h => h.elim
end

/-! ### targets -/
noncomputable abbrev TG := V → St → Hp → (St → Hp → Prop) → Prop
noncomputable abbrev TGs := List V → St → Hp → (St → Hp → Prop) → Prop
noncomputable def PG (X : Cx) (target : Expr) (t : TG) : Prop :=
  ∀ (pins : List (Addr × Obj)) (s : Shared) (σ : St) (H : Hp) (v : V) (u : Value) (Q : St → Hp → Prop), Inv X pins σ H s → RelV v u → t v σ H Q →
    wpAny (model X.prog X.w) X.A (assign target X.env u) (fun _ s' => ∃ σ' H', Inv X pins σ' H' s' ∧ Q σ' H') X.xe s
/-- several targets, one after another -/
noncomputable def PGs (X : Cx) (ts : List Expr) (t : TGs) : Prop :=
  ∀ (pins : List (Addr × Obj)) (s : Shared) (σ : St) (H : Hp) (vs : List V) (us : List Value) (Q : St → Hp → Prop), Inv X pins σ H s → Vals vs us → t vs σ H Q →
    wpAny (model X.prog X.w) X.A (assignInOrder ((assignEach ts X.env).map (·.2)) us) (fun _ s' => ∃ σ' H', Inv X pins σ' H' s' ∧ Q σ' H') X.xe s
/-- o[i] = v, by values -/
noncomputable abbrev TSet := V → V → V → Hp → (Hp → Prop) → Prop
noncomputable def PSet (X : Cx) (t : TSet) : Prop :=
  ∀ (pins : List (Addr × Obj)) (s : Shared) (σ : St) (H : Hp) (o i v : V) (ov iv u : Value) (Q : Hp → Prop), Inv X pins σ H s → RelV o ov → RelV i iv → RelV v u → t o i v H Q →
    wpAny (model X.prog X.w) X.A (setItem ov iv u) (fun _ s' => ∃ H', Inv X pins σ H' s' ∧ Q H') X.xe s
/-- a op= b, by values -/
noncomputable abbrev TIp := V → V → Hp → VK → Prop
noncomputable def PIp (X : Cx) (op : Operator) (t : TIp) : Prop :=
  ∀ (pins : List (Addr × Obj)) (s : Shared) (σ : St) (H : Hp) (x y : V) (v u : Value) (Q : VK), Inv X pins σ H s → RelV x v → RelV y u → t x y H Q →
    wpAny (model X.prog X.w) X.A (inplaceOp op v u) (EP X pins σ Q) X.xe s
section
variable {X : Cx} {pos : Pos}
noncomputable def gName (i : Nat) : TG := fun v σ H Q => Q (σ.set i (some v)) H
theorem pg_name {i : Nat} {x : Str} (hN : X.N.Nodup) (hi : X.N[i]? = some x) (hx : Loc X.env.scope x) (hf : X.fn x = true ∨ X.env.scope.names.lookup x = some .local := by first | exact .inl rfl | exact .inr rfl | assumption) : PG X (.Name x pos) (gName i) := by
  intro pins s σ H v u Q I r h
  exact wpAny_assign_Name (store_ok I hN hi hx r (fun s' I' => ⟨_, H, I', h⟩) hf)
noncomputable def gNil : TGs := fun vs σ H Q => vs = [] ∧ Q σ H
noncomputable def gCons (t : TG) (u : TGs) : TGs := fun vs σ H Q => ∃ v r, vs = v :: r ∧ t v σ H fun σ' H' => u r σ' H' Q
theorem pgs_nil : PGs X [] gNil := by
  intro pins s σ H vs us Q I r h
  obtain ⟨e, h⟩ := h
  subst e
  cases r
  exact assignInOrder_nil ⟨σ, H, I, h⟩
theorem pgs_cons {e : Expr} {es : List Expr} {t : TG} {u : TGs} (h1 : PG X e t) (h2 : PGs X es u)
    (hs : (assignEach (e :: es) X.env).map (·.2) = assign e X.env :: (assignEach es X.env).map (·.2) := by rfl) : PGs X (e :: es) (gCons t u) := by
  intro pins s σ H vs us Q I r h
  obtain ⟨v, vr, e1, h⟩ := h
  subst e1
  cases r with
  | cons r rr =>
    rw [hs]
    refine assignInOrder_cons (thn (h1 pins s σ H _ _ _ I r h) fun _ s1 ⟨σ1, H1, I1, q1⟩ => ?_)
    exact h2 pins s1 σ1 H1 _ _ Q I1 rr q1
/-- (a, b, ..) = a tuple of that length -/
noncomputable def gTup (K : PySem.W.Frag) (n : Nat) (t : TGs) : TG := fun v σ H Q => ∃ a xs, v = .ref a ∧ SqT K H a xs ∧ xs.length = n ∧ t xs σ H Q
theorem pg_tup {es : List Expr} {k : Nat} {t : TGs} {n : Nat} (hc : X.calm = true) (h : PGs X es t)
    (hn : (assignEach es X.env).length = n := by rfl) (hst : (assignEach es X.env).findIdx? (·.1) = none := by rfl) : PG X (.Tuple es k pos) (gTup X.K n t) := by
  intro pins s σ H v u Q I r hw
  obtain ⟨a, xs, e1, hq, hl, hw⟩ := hw
  subst e1
  cases r
  obtain ⟨its, rv, ht, hz⟩ := I.tuple hq
  refine assign_Tuple_tuple (I.ok.hd hc) ht (by simp [hn, ← hl, rv.length]) hst fun h' hx => ?_
  have I1 : Inv X pins σ H { s with heap := h' } := I.kept (t' := s.toks) fun b o e => hx b o (Nat.ne_of_lt (Heap.lt_size e)) e
  exact h pins _ σ H xs _ Q I1 (by simpa using rv) hw
/-- o[i] = .. -/
noncomputable def gSub (to ti : TE) (t : TSet) : TG := fun v σ H Q => to σ H fun o H1 => ti σ H1 fun i H2 => t o i v H2 fun H3 => Q σ H3
theorem pg_sub {o i : Expr} {to ti : TE} {t : TSet} (ho : PE X o to) (hi : PE X i ti) (hs : PSet X t)
    (ha : ∀ v, assign (.Subscript o i pos) X.env v = (do
      let ov ← holding [v] (eval o X.env)
      let iv ← holding [v, ov] (eval i X.env)
      standAt pos
      holding [v, ov, iv] (setItem ov iv v)
      release [v, ov, iv] []) := by intro _; rfl) : PG X (.Subscript o i pos) (gSub to ti t) := by
  intro pins s σ H v u Q I r h
  rw [ha]
  refine wpAny_bind (wpAny_holding (thn (ho pins s σ H _ I h) fun ov s1 ⟨x, H1, I1, r1, q1⟩ => ?_))
  refine wpAny_bind (wpAny_holding (thn (hi pins s1 σ H1 _ I1 q1) fun iv s2 ⟨y, H2, I2, r2, q2⟩ => ?_))
  refine wpAny_bind (wpAny_standAt (wpAny_bind (wpAny_holding (thn (hs pins s2 σ H2 x y v ov iv u _ I2 r1 r2 r q2) fun _ s3 ⟨H3, I3, q3⟩ => ?_))))
  exact wpAny_release ⟨σ, H3, I3, q3⟩
/-- target = value -/
noncomputable def tAsg (te : TE) (g : TG) : TS := fun D σ H => te σ H fun x H1 => g x σ H1 D.nx
theorem ps_asg {tg e : Expr} {te : TE} {g : TG} (he : PE X e te) (hg : PG X tg g) (hs : swapsWithSole [tg] e pos.line X.env = pure false := by rfl) (hw : swappedStores [tg] e X.env = pure none := by rfl)
    (h1 : (assignEach [tg] X.env).map (·.2) = [assign tg X.env] := by rfl) : PS X (.Assign [tg] e pos) (tAsg te g) := by
  intro pins s σ H D I h
  refine wpAny_Assign_stores (thn (he pins s σ H _ I h) fun v s1 ⟨x, H1, I1, r1, q1⟩ => ?_) hs hw
  rw [h1]
  exact thn (hg pins s1 σ H1 x v _ I1 r1 q1) fun _ s2 q => q
/-- name = value -/
theorem ps_set {i : Nat} {x : Str} {e : Expr} {te : TE} {pos' : Pos} (hN : X.N.Nodup) (hi : X.N[i]? = some x) (hx : Loc X.env.scope x) (he : PE X e te) (hs : swapsWith e (some (.Name x pos')) pos.line X.env = pure false := by rfl) (hf : X.fn x = true ∨ X.env.scope.names.lookup x = some .local := by first | exact .inl rfl | exact .inr rfl | assumption) :
    PS X (.Assign [.Name x pos'] e pos) (tAsg te (gName i)) := by
  intro pins s σ H D I h
  refine wpAny_Assign_Name (thn (he pins s σ H _ I h) fun v s1 ⟨y, H1, I1, r1, q1⟩ => ?_) hs
  exact store_ok I1 hN hi hx r1 (fun s2 I2 => ⟨_, H1, I2, q1⟩) hf
/-- a, b = x, y with plain local names: stored from the right; the pair itself is not tracked (the opening rows as in PyProof/Rows/TupAssign.lean:23) -/
noncomputable def tPar (i j : Nat) (ta : TA) : TS := fun D σ H => ta σ H fun vs H1 => ∃ v w, vs = [v, w] ∧ D.nx ((σ.set i (some v)).set j (some w)) H1
/-- name op= e -/
noncomputable def tAug (i : Nat) (te : TE) (ti : TIp) : TS := fun D σ H => ∃ x, σ[i]? = some (some x) ∧ te σ H fun y H1 => ti x y H1 fun z H2 => D.nx (σ.set i (some z)) H2
/-- o[i] op= e -/
noncomputable def tAugS (to ti te : TE) (tget : V → V → Hp → VK → Prop) (tip : TIp) (tset : TSet) : TS := fun D σ H => to σ H fun o H1 => ti σ H1 fun i H2 => tget o i H2 fun x H3 => te σ H3 fun y H4 => tip x y H4 fun z H5 => tset o i z H5 fun H6 => D.nx σ H6
/-- o[i], by values -/
noncomputable def PGet (X : Cx) (t : V → V → Hp → VK → Prop) : Prop :=
  ∀ (pins : List (Addr × Obj)) (s : Shared) (σ : St) (H : Hp) (o i : V) (ov iv : Value) (Q : VK), Inv X pins σ H s → RelV o ov → RelV i iv → t o i H Q →
    wpAny (model X.prog X.w) X.A (getItem ov iv) (EP X pins σ Q) X.xe s
/-- ints -/
noncomputable def ipI (f : Int → Int → Int) : TIp := fun x y H Q => ∃ i j, x = .int i ∧ y = .int j ∧ Q (.int (f i j)) H
end

/-! ### while -/
section
variable {X : Cx} {pos : Pos}
/-- the invariant W with its measure -/
noncomputable def tWhile (c : TT) (tb : TS) : TS := fun D σ H => ∃ W : Nat → St → Hp → Prop, (∃ m, W m σ H) ∧ ∀ m σ H, W m σ H →
  c σ H fun b H1 => if b = true then ∃ N : St → Hp → Prop, (∀ σ' H', N σ' H' → ∃ m', m' < m ∧ W m' σ' H') ∧ tb { D with nx := N, ct := N, bk := D.nx } σ H1 else D.nx σ H1
theorem ps_while {c : Expr} {body : List Stmt} {tc : TT} {tb : TS} (hp : PassesOwn (model X.prog X.w) X.A X.env X.xe) (hc : PT X c tc) (hb : PSs X body tb) : PS X (.While c body [] pos) (tWhile tc tb) := by
  intro pins s σ H D I h
  obtain ⟨W, ⟨m0, w0⟩, turn⟩ := h
  refine wpAny_While (codeAny_whileLoop (fun n s' => ∃ σ' H', Inv X pins σ' H' s' ∧ W n σ' H') ?_ m0 ⟨σ, H, I, w0⟩)
  rintro n s1 ⟨σ1, H1, I1, w1⟩
  refine wpAny_passesOwn hp (thn (hc pins s1 σ1 H1 _ I1 (turn n σ1 H1 w1)) fun b s2 ⟨H2, I2, q2⟩ => ?_)
  cases b with
  | true =>
    obtain ⟨N, hN, q2⟩ := q2
    rw [if_pos rfl]
    refine wpAny_passesOwn hp (thn (hb pins s2 σ1 H2 _ I2 q2) fun f s3 q3 => ?_)
    cases f with
    | next =>
      obtain ⟨σ3, H3, I3, n3⟩ := q3
      obtain ⟨m', hm, w3⟩ := hN σ3 H3 n3
      exact ⟨m', hm, σ3, H3, I3, w3⟩
    | cont =>
      obtain ⟨σ3, H3, I3, n3⟩ := q3
      obtain ⟨m', hm, w3⟩ := hN σ3 H3 n3
      exact ⟨m', hm, σ3, H3, I3, w3⟩
    | brk => exact q3
    | ret v => exact q3
  | false =>
    rw [if_neg Bool.false_ne_true]
    exact wpAny_execs_nil ⟨σ1, H2, I2, q2⟩
end

/-! ### what a loop or a comprehension walks -/
/-- at turn i: it yields x (the heap may grow), or it stops -/
structure It where
  go : Nat → Hp → Prop
  yld : Nat → Hp → V → Hp → Prop
  stop : Nat → Hp → Prop
/-- the iterator's own objects may turn: they are not the frame's, not pinned, younger than the entry (or a comprehension's own) -/
noncomputable def FpOk (X : Cx) (pins : List (Addr × Obj)) (H : Hp) (b : Addr) : Prop :=
  H b = none ∧ b ≠ X.env.locals ∧ b ∉ X.fs ∧ (b ∈ X.ex ∨ X.s₀.heap.objs.size ≤ b) ∧ (∀ x c, X.env.cells.lookup x = some c → c ≠ b) ∧ ∀ p ∈ X.pn ++ pins, p.1 ≠ b
theorem Inv.fpOk {X : Cx} {pins : List (Addr × Obj)} {σ : St} {H H' : Hp} {s : Shared} {b : Addr} (I : Inv X pins σ H s) (hb : s.heap.objs.size ≤ b) (hn : H' b = none) : FpOk X pins H' b := by
  refine ⟨hn, Nat.ne_of_gt (Nat.lt_of_lt_of_le I.lt hb), I.nofs hb, .inr (Nat.le_trans I.sz hb), fun x c e z => ?_, fun p hp z => ?_⟩
  · obtain ⟨v, q⟩ := I.cell x c e
    exact absurd (Nat.lt_of_lt_of_le q.lt (by rw [z]; exact hb)) (Nat.lt_irrefl _)
  · exact absurd (Nat.lt_of_lt_of_le (Heap.lt_size (I.pin p hp).1) (by rw [z]; exact hb)) (Nat.lt_irrefl _)
structure Turn (P : Program) (w : World) (K : PySem.W.Frag) (tg : Expr) (J : It) (fp : List Addr) (it : Addr) (tn : Nat → Heap → Prop) : Prop where
  mem : it ∈ fp
  obj : ∀ i h, tn i h → ∀ b ∈ fp, ∃ o, h.get? b = some o ∧ ∀ v, o.data ≠ .cell v
  keep : ∀ i h h', tn i h → (∀ b ∈ fp, ∀ o, h.get? b = some o → h'.get? b = some o) → tn i h'
  item : ∀ (X : Cx), X.prog = P → X.w = w → X.K = K → X.calm = true → ∀ (i : Nat) (pins : List (Addr × Obj)) (s : Shared) (σ : St) (H : Hp) (E : Value → Shared → Prop), Inv X pins σ H s → (∀ b ∈ fp, FpOk X pins H b) → tn i s.heap → J.go i H →
    wpAny (model P w) X.A (pyNext (.ref it)) (fun r s1 => ∃ u, r = some u ∧
      wpAny (model P w) X.A (letOwnedTupleGo tg (.ref it) u) (fun _ s2 => ∃ x H', Inv X pins σ H' s2 ∧ RelV x u ∧ J.yld i H x H' ∧ tn (i + 1) s2.heap ∧ ∀ b ∈ fp, H' b = none) E s1) E s
  done : ∀ (X : Cx), X.prog = P → X.w = w → X.K = K → X.calm = true → ∀ (i : Nat) (pins : List (Addr × Obj)) (s : Shared) (σ : St) (H : Hp) (E : Value → Shared → Prop), Inv X pins σ H s → (∀ b ∈ fp, FpOk X pins H b) → tn i s.heap → J.stop i H →
    wpAny (model P w) X.A (pyNext (.ref it)) (fun r s1 => r = none ∧ Inv X pins σ H s1) E s
  self : ∀ (A : Around) (i : Nat) (s : Shared) (Q : Value → Shared → Prop) (E : Value → Shared → Prop), tn i s.heap → Q (.ref it) s → wpAny (model P w) A (pyIter (.ref it)) Q E s
noncomputable abbrev TI := St → Hp → (It → Hp → Prop) → Prop
/-- an iterator has come -/
noncomputable def PIE (X : Cx) (pins : List (Addr × Obj)) (σ : St) (tg : Expr) (R : It → Hp → Prop) (itv : Value) (s2 : Shared) : Prop :=
  ∃ (it : Addr) (fp : List Addr) (tn : Nat → Heap → Prop) (J : It) (H' : Hp), itv = .ref it ∧ Inv X pins σ H' s2 ∧ Turn X.prog X.w X.K tg J fp it tn ∧ tn 0 s2.heap ∧ (∀ b ∈ fp, FpOk X pins H' b) ∧ R J H'
noncomputable def PI (X : Cx) (tg iter : Expr) (wi : TI) : Prop :=
  ∀ (pins : List (Addr × Obj)) (s : Shared) (σ : St) (H : Hp) (R : It → Hp → Prop), Inv X pins σ H s → wi σ H R →
    wpAny (model X.prog X.w) X.A (eval iter X.env) (fun v s1 => wpAny (model X.prog X.w) X.A (pyIter v) (PIE X pins σ tg R) X.xe s1) X.xe s

/-- the step ahead of the store is nothing for an iterator that keeps no tuple -/
theorem go_of {M : Model} {A : Around} {E : Value → Shared → Prop} {s : Shared} {tg : Expr} {it : Addr} {u : Value} {o : Obj} {n : String} {vs : Array Value} {Q : Unit → Shared → Prop} (ho : s.heap.get? it = some o) (hc : o.cls = .type n) (hd : o.data = .fields vs)
    (hn : ["enumerate", "zip", "dict_itemiterator", "dict_reverseitemiterator", "odict_iterator", "itertools.zip_longest", "itertools.pairwise"].contains n = false) (hQ : Q () s) : wpAny M A (letOwnedTupleGo tg (.ref it) u) Q E s := by
  unfold letOwnedTupleGo
  cases tg <;> first
    | exact wpAny_pure hQ
    | (cases u <;> first
        | exact wpAny_pure hQ
        | (refine wpAny_bind (wpAny_load ho ?_)
           rw [hc, hd]
           show wpAny M A (if (["enumerate", "zip", "dict_itemiterator", "dict_reverseitemiterator", "odict_iterator", "itertools.zip_longest", "itertools.pairwise"].contains n && vs[0]? == some (rawInt _)) = true then _ else _) Q E s
           rw [if_neg (by intro h; rw [hn, Bool.false_and] at h; cases h)]
           exact wpAny_pure hQ))

/-- the list at a, as it stands at each turn (a loop may append to it) -/
noncomputable def Itl (K : PySem.W.Frag) (a : Addr) : It :=
  ⟨fun i H => ∃ xs x, SqL K H a xs ∧ xs[i]? = some x, fun i H x H' => H' = H ∧ ∀ xs, SqL K H a xs → xs[i]? = some x, fun i H => ∃ xs, SqL K H a xs ∧ xs.length ≤ i⟩
noncomputable def Itt (K : PySem.W.Frag) (a : Addr) : It :=
  ⟨fun i H => ∃ xs x, SqT K H a xs ∧ xs[i]? = some x, fun i H x H' => H' = H ∧ ∀ xs, SqT K H a xs → xs[i]? = some x, fun i H => ∃ xs, SqT K H a xs ∧ xs.length ≤ i⟩
/-- lo, lo + 1, .. (n of them) -/
noncomputable def Itr (lo : Int) (n : Nat) : It := ⟨fun i _ => i < n, fun i H x H' => H' = H ∧ x = .int (lo + i), fun i _ => n ≤ i⟩
theorem turn_list {P : Program} {w : World} {K : PySem.W.Frag} {tg : Expr} (a it : Addr) : Turn P w K tg (Itl K a) [it] it (fun i h => h.IsListIter it a i) where
  mem := by simp
  obj := fun i h st b hb => by
    have e : b = it := by simpa using hb
    subst e
    obtain ⟨o, e, c, d⟩ := st
    exact ⟨o, e, fun v z => by rw [d] at z; cases z⟩
  keep := fun i h h' st k => st.at fun o e => k it (by simp) o e
  item := by
    intro X hP hw hK hc i pins s σ H E I hf st hg
    subst hP hw hK
    obtain ⟨xs, x, hq, hx⟩ := hg
    obtain ⟨its, rv, p, hz⟩ := I.list hq
    obtain ⟨u, hu, ru⟩ := rv.get hx
    obtain ⟨f0, f1, f2, f3, f4, f5⟩ := hf it (by simp)
    refine wpAny_pyNext_list_item st p.isList (x := u) (by simpa using hu) fun h' st' sb => ?_
    have I1 : Inv X pins σ H { s with heap := h' } := I.turned (t' := s.toks) (fun b o hb e => (sb.2 b hb).trans e) f0 f1 f3 f4 f5
    obtain ⟨o, e, c, d⟩ := id st'
    exact ⟨u, rfl, go_of (s := { s with heap := h' }) e c d (by decide) ⟨x, H, I1, ru, ⟨rfl, fun ys hy => by rw [I.list_inj hy hq]; exact hx⟩, st', fun b hb => (hf b hb).1⟩⟩
  done := by
    intro X hP hw hK hc i pins s σ H E I hf st hg
    subst hP hw hK
    obtain ⟨xs, hq, hx⟩ := hg
    obtain ⟨its, rv, p, hz⟩ := I.list hq
    obtain ⟨f0, f1, f2, f3, f4, f5⟩ := hf it (by simp)
    have hl := rv.length
    exact wpAny_pyNext_list_end (I.ok.hd hc) st p.isList (by simp; (first | lia | omega)) fun h' eb => ⟨rfl, I.turned (t' := s.toks) (fun b o hb e => eb b o hb e) f0 f1 f3 f4 f5⟩
  self := fun _ _ _ _ _ st h => wpAny_pyIter_listiter st h
theorem turn_tuple {P : Program} {w : World} {K : PySem.W.Frag} {tg : Expr} (a it : Addr) : Turn P w K tg (Itt K a) [it] it (fun i h => h.IsTupleIter it a i) where
  mem := by simp
  obj := fun i h st b hb => by
    have e : b = it := by simpa using hb
    subst e
    obtain ⟨o, e, c, d⟩ := st
    exact ⟨o, e, fun v z => by rw [d] at z; cases z⟩
  keep := fun i h h' st k => st.at fun o e => k it (by simp) o e
  item := by
    intro X hP hw hK hc i pins s σ H E I hf st hg
    subst hP hw hK
    obtain ⟨xs, x, hq, hx⟩ := hg
    obtain ⟨its, rv, p, hz⟩ := I.tuple hq
    obtain ⟨u, hu, ru⟩ := rv.get hx
    obtain ⟨f0, f1, f2, f3, f4, f5⟩ := hf it (by simp)
    refine wpAny_pyNext_tuple_item st (show s.heap.IsTuple a its.toArray from p) (x := u) (by simpa using hu) fun h' st' sb => ?_
    have I1 : Inv X pins σ H { s with heap := h' } := I.turned (t' := s.toks) (fun b o hb e => (sb.2 b hb).trans e) f0 f1 f3 f4 f5
    obtain ⟨o, e, c, d⟩ := id st'
    exact ⟨u, rfl, go_of (s := { s with heap := h' }) e c d (by decide) ⟨x, H, I1, ru, ⟨rfl, fun ys hy => by rw [I.tuple_inj hy hq]; exact hx⟩, st', fun b hb => (hf b hb).1⟩⟩
  done := by
    intro X hP hw hK hc i pins s σ H E I hf st hg
    subst hP hw hK
    obtain ⟨xs, hq, hx⟩ := hg
    obtain ⟨its, rv, p, hz⟩ := I.tuple hq
    obtain ⟨f0, f1, f2, f3, f4, f5⟩ := hf it (by simp)
    have hl := rv.length
    exact wpAny_pyNext_tuple_end (I.ok.hd hc) st (show s.heap.IsTuple a its.toArray from p) (by simp; (first | lia | omega)) fun h' eb => ⟨rfl, I.turned (t' := s.toks) (fun b o hb e => eb b o hb e) f0 f1 f3 f4 f5⟩
  self := fun _ _ _ _ _ st h => wpAny_pyIter_tupleiter st h
theorem turn_range {P : Program} {w : World} {K : PySem.W.Frag} {tg : Expr} (it : Addr) (lo : Int) (n : Nat) : Turn P w K tg (Itr lo n) [it] it (fun i h => IsRangeIter h it (lo + (i : Nat) * 1) ((n : Int) - (i : Nat)) 1) where
  mem := by simp
  obj := fun i h st b hb => by
    have e : b = it := by simpa using hb
    subst e
    exact ⟨_, st, fun v z => by
      have z' : Data.fields _ = Data.cell v := z
      cases z'⟩
  keep := fun i h h' st k => k it (by simp) _ st
  item := by
    intro X hP hw hK hc i pins s σ H E I hf st hg
    subst hP hw hK
    obtain ⟨f0, f1, f2, f3, f4, f5⟩ := hf it (by simp)
    have W := Walks.range (prog := X.prog) (w := X.w) (I.ok.hd hc) it lo 1 n
    refine W.item i s _ _ hg st fun v h' tk hv st' kk => ?_
    obtain ⟨t, rfl⟩ := hv
    have I1 : Inv X pins σ H { s with heap := h', toks := tk } := I.turned (fun b o hb e => kk b o (by simpa using hb) e) f0 f1 f3 f4 f5
    refine ⟨_, rfl, go_of (s := { s with heap := h', toks := tk }) (n := "range_iterator") st' rfl rfl (by decide) ⟨.int (lo + i), H, I1, ⟨t, ?_⟩, ⟨rfl, rfl⟩, st', fun b hb => (hf b hb).1⟩⟩
    rw [Int.mul_one]
  done := by
    intro X hP hw hK hc i pins s σ H E I hf st hg
    subst hP hw hK
    obtain ⟨f0, f1, f2, f3, f4, f5⟩ := hf it (by simp)
    exact wpAny_pyNext_range_end (I.ok.hd hc) st (by have : n ≤ i := hg; (first | lia | omega)) fun h' eb => ⟨rfl, I.turned (t' := s.toks) (fun b o hb e => eb b o hb e) f0 f1 f3 f4 f5⟩
  self := fun _ _ _ _ _ st h => wpAny_pyIter_rangeiter st h
end L2

namespace L2
open PySem PySem.Spec PyProof.Rows
section
variable {X : Cx} {tg : Expr}
noncomputable def iList (K : PySem.W.Frag) (tl : TE) : TI := fun σ H R => tl σ H fun x H1 => ∃ a, x = .ref a ∧ (∃ xs, SqL K H1 a xs) ∧ R (Itl K a) H1
noncomputable def iTup (K : PySem.W.Frag) (tl : TE) : TI := fun σ H R => tl σ H fun x H1 => ∃ a, x = .ref a ∧ (∃ xs, SqT K H1 a xs) ∧ R (Itt K a) H1
theorem pi_list {l : Expr} {tl : TE} (hl : PE X l tl) : PI X tg l (iList X.K tl) := by
  intro pins s σ H R I h
  refine thn (hl pins s σ H _ I h) fun v s1 ⟨x, H1, I1, r1, q1⟩ => ?_
  obtain ⟨a, e, ⟨xs, hq⟩, q⟩ := q1
  subst e
  cases r1
  obtain ⟨its, rv, p, hz⟩ := I1.list hq
  refine wpAny_pyIter_list p.isList ?_
  refine ⟨s1.heap.objs.size, [s1.heap.objs.size], _, _, H1, rfl, I1.kept (t' := s1.toks) fun b o e => Heap.get?_push_of_some _ e, turn_list a _, ⟨_, Heap.get?_push_size _ rfl, rfl, rfl⟩, fun b hb => ?_, q⟩
  have e : b = s1.heap.objs.size := by simpa using hb
  subst e
  exact I1.fpOk (Nat.le_refl _) (I1.hok.fresh (Nat.le_refl _))
/-- a range object just made, walked -/
theorem range_it {pins : List (Addr × Obj)} {σ : St} {H : Hp} {s : Shared} {R : It → Hp → Prop} {E : Value → Shared → Prop} {lo hi : Int} {t u v : Tok} {tk : Nat} (I : Inv X pins σ H s) (h1 : -(2 ^ 62) ≤ lo) (h2 : lo < 2 ^ 62) (h3 : -(2 ^ 62) ≤ hi) (h4 : hi < 2 ^ 62)
    (q : R (Itr lo (hi - lo).toNat) H) : wpAny (model X.prog X.w) X.A (pyIter (.ref s.heap.objs.size)) (PIE X pins σ tg R) E { s with heap := s.heap.push { cls := .type "range", data := .fields #[.int lo t, .int hi u, .int 1 v] }, toks := tk } := by
  refine wpAny_pyIter_range (IsRange.new ..) (small_one h1 h2 h3 h4) ?_
  have I1 : Inv X pins σ H { s with heap := s.heap.push { cls := .type "range", data := .fields #[.int lo t, .int hi u, .int 1 v] }, toks := tk } := I.kept fun b o e => Heap.get?_push_of_some _ e
  refine ⟨(s.heap.push { cls := .type "range", data := .fields #[.int lo t, .int hi u, .int 1 v] }).objs.size, [(s.heap.push { cls := .type "range", data := .fields #[.int lo t, .int hi u, .int 1 v] }).objs.size], _, _, H, rfl,
    I1.kept (t' := tk) fun b o e => Heap.get?_push_of_some _ e, turn_range _ lo (hi - lo).toNat, ?_, fun b hb => ?_, q⟩
  · have e1 : lo + ((0 : Nat) : Int) * 1 = lo := by simp
    have e2 : (((hi - lo).toNat : Nat) : Int) - ((0 : Nat) : Int) = Builtin.Range.rangeSize lo hi 1 := by rw [rangeSize_one]; split <;> (first | lia | omega)
    show IsRangeIter _ _ (lo + ((0 : Nat) : Int) * 1) ((((hi - lo).toNat : Nat) : Int) - ((0 : Nat) : Int)) 1
    rw [e1, e2]
    exact Heap.get?_push_size _ rfl
  · have e : b = (s.heap.push { cls := .type "range", data := .fields #[.int lo t, .int hi u, .int 1 v] }).objs.size := by simpa using hb
    subst e
    exact I1.fpOk (Nat.le_refl _) (I1.hok.fresh (Nat.le_refl _))
noncomputable def iRng1 (ta : TA) : TI := fun σ H R => ta σ H fun vs H1 => ∃ j : Int, vs = [.int j] ∧ -(2 ^ 62) ≤ j ∧ j < 2 ^ 62 ∧ R (Itr 0 j.toNat) H1
noncomputable def iRng2 (ta : TA) : TI := fun σ H R => ta σ H fun vs H1 => ∃ i j : Int, vs = [.int i, .int j] ∧ (-(2 ^ 62) ≤ i ∧ i < 2 ^ 62 ∧ -(2 ^ 62) ≤ j ∧ j < 2 ^ 62) ∧ R (Itr i (j - i).toNat) H1
theorem pi_range1 {a : Expr} {ta : TA} {p pos : Pos} (hg : Gl X "range") (hm : X.mg "range" = none) (ha : PA X [a] ta) (hs : starEach [a] X.env = [(false, eval a X.env)] := by rfl) : PI X tg (.Call (.Name "range" p) [a] [] pos) (iRng1 ta) := by
  intro pins s σ H R I h
  refine Call_ (ld_blt I hg hm boot_range (PyProof.Rows.callWith_type1 (thn (ha pos pins s σ H _ I h) fun us s1 ⟨vs, H1, I1, r1, q1⟩ => ?_) hs rfl))
  obtain ⟨j, e, q1, q2, q⟩ := q1
  subst e
  cases r1 with
  | cons r rr =>
    cases rr
    obtain ⟨t, rfl⟩ := r
    exact call_range_1 (range_it I1 (by (first | lia | omega)) (by (first | lia | omega)) q1 q2 (by simpa using q))
/-! ### for -/
/-- W: the invariant by the turn and a measure; N: what the body is to reach -/
noncomputable def tFor (wi : TI) (g : TG) (tb : TS) : TS := fun D σ H => wi σ H fun J H1 => ∃ W : Nat → Nat → St → Hp → Prop, (∃ m, W 0 m σ H1) ∧ ∀ i m σ H, W i m σ H →
  (J.stop i H ∧ D.nx σ H) ∨ (J.go i H ∧ ∃ N : St → Hp → Prop, (∀ σ' H', N σ' H' → ∃ m', m' < m ∧ W (i + 1) m' σ' H') ∧ ∀ x H', J.yld i H x H' → g x σ H' fun σ2 H2 => tb { D with nx := N, ct := N, bk := D.nx } σ2 H2)
/-- the records at fp as they stand -/
noncomputable def pinsAt (fp : List Addr) (h : Heap) : List (Addr × Obj) := fp.filterMap fun b => (h.get? b).map fun o => (b, o)
theorem mem_pinsAt {fp : List Addr} {h : Heap} {b : Addr} {o : Obj} (hb : b ∈ fp) (e : h.get? b = some o) : (b, o) ∈ pinsAt fp h := List.mem_filterMap.mpr ⟨b, hb, by rw [e]; rfl⟩
theorem of_pinsAt {fp : List Addr} {h : Heap} {p : Addr × Obj} (hp : p ∈ pinsAt fp h) : p.1 ∈ fp ∧ h.get? p.1 = some p.2 := by
  obtain ⟨b, hb, e⟩ := List.mem_filterMap.mp hp
  cases q : h.get? b with
  | none => rw [q] at e; cases e
  | some o =>
    rw [q] at e
    have e' : (b, o) = p := Option.some.inj e
    subst e'
    exact ⟨hb, q⟩
theorem Inv.pinned {pins : List (Addr × Obj)} {σ : St} {H : Hp} {s : Shared} {fp : List Addr} (I : Inv X pins σ H s) (hf : ∀ b ∈ fp, FpOk X pins H b) (ho : ∀ b ∈ fp, ∃ o, s.heap.get? b = some o ∧ ∀ v, o.data ≠ .cell v) : Inv X (pins ++ pinsAt fp s.heap) σ H s :=
  I.pins_of fun p hp => (List.mem_append.mp hp).elim (fun z => I.pin p (List.mem_append_right _ z)) fun z => by
    obtain ⟨hb, e⟩ := of_pinsAt z
    obtain ⟨f0, f1, f2, _⟩ := hf p.1 hb
    obtain ⟨o, e', d⟩ := ho p.1 hb
    rw [e] at e'; cases e'
    exact ⟨e, f0, f1, f2, d⟩
theorem Inv.unpinned {pins pl : List (Addr × Obj)} {σ : St} {H : Hp} {s : Shared} (I : Inv X (pins ++ pl) σ H s) : Inv X pins σ H s := I.pins_of fun p hp => I.pin p (List.mem_append_right _ (List.mem_append_left _ hp))
theorem ps_for {iter : Expr} {body : List Stmt} {wi : TI} {g : TG} {tb : TS} {pos : Pos} (hp : PassesOwn (model X.prog X.w) X.A X.env X.xe) (hc : X.calm = true) (hi : PI X tg iter wi) (hg : PG X tg g) (hb : PSs X body tb)
    (hs : ∀ x, foldedSetIterable iter X.env x = pure x := by intro _; rfl) : PS X (.For tg iter body [] pos) (tFor wi g tb) := by
  intro pins s σ H D I h
  refine wpAny_For (thn (hi pins s σ H _ I h) fun v s1 h1 => thn h1 fun itv s2 h2 => ?_) hs
  obtain ⟨it, fp, tn, J, H2, e, I2, T, st2, f2, W, ⟨m0, w0⟩, turn⟩ := h2
  subst e
  -- what stays true of the iterator's objects through the loop
  have stat : ∀ {H' : Hp}, (∀ b ∈ fp, H' b = none) → ∀ b ∈ fp, FpOk X pins H' b := fun hn b hb => ⟨hn b hb, (f2 b hb).2⟩
  refine codeAny_forLoop_any (fun n s' => ∃ i σ' H', Inv X pins σ' H' s' ∧ tn i s'.heap ∧ (∀ b ∈ fp, H' b = none) ∧ W i n σ' H') ?_ m0 ⟨0, σ, H2, I2, st2, fun b hb => (f2 b hb).1, w0⟩
  rintro n s3 ⟨i, σ3, H3, I3, st3, fr3, w3⟩
  rcases turn i n σ3 H3 w3 with ⟨stop, qn⟩ | ⟨go, N, hN, step⟩
  · refine wpAny_passesOwn hp (thn (T.done X rfl rfl rfl hc i pins s3 σ3 H3 X.xe I3 (stat fr3) st3 stop) fun r s4 ⟨hr, I4⟩ => ?_)
    subst hr
    exact wpAny_execs_nil ⟨σ3, H3, I4, qn⟩
  · refine wpAny_passesOwn hp (thn (T.item X rfl rfl rfl hc i pins s3 σ3 H3 X.xe I3 (stat fr3) st3 go) fun r s4 ⟨u, hr, h4⟩ => ?_)
    subst hr
    refine wpAny_passesOwn hp (thn h4 fun _ s5 ⟨x, H5, I5, r5, y5, st5, fr5⟩ => ?_)
    have I5' := I5.pinned (stat fr5) (T.obj _ _ st5)
    refine wpAny_passesOwn hp (thn (hg _ s5 σ3 H5 x u _ I5' r5 (step x H5 y5)) fun _ s6 ⟨σ6, H6, I6, q6⟩ => ?_)
    refine wpAny_passesOwn hp (thn (hb _ s6 σ6 H6 _ I6 q6) fun f s7 q7 => ?_)
    have again : ∀ {σ7 : St} {H7 : Hp}, Inv X (pins ++ pinsAt fp s5.heap) σ7 H7 s7 → N σ7 H7 → ∃ m, m < n ∧ ∃ i σ' H', Inv X pins σ' H' s7 ∧ tn i s7.heap ∧ (∀ b ∈ fp, H' b = none) ∧ W i m σ' H' := fun {σ7 H7} I7 n7 => by
      obtain ⟨m', hm, w7⟩ := hN σ7 H7 n7
      refine ⟨m', hm, i + 1, σ7, H7, I7.unpinned, T.keep _ _ _ st5 fun b hb o e => (I7.pin (b, o) (List.mem_append_right _ (List.mem_append_right _ (mem_pinsAt hb e)))).1, fun b hb => ?_, w7⟩
      obtain ⟨o, e, d⟩ := T.obj _ _ st5 b hb
      exact (I7.pin (b, o) (List.mem_append_right _ (List.mem_append_right _ (mem_pinsAt hb e)))).2.1
    cases f with
    | next => obtain ⟨σ7, H7, I7, n7⟩ := q7; exact again I7 n7
    | cont => obtain ⟨σ7, H7, I7, n7⟩ := q7; exact again I7 n7
    | brk => obtain ⟨σ7, H7, I7, q7⟩ := q7; exact ⟨σ7, H7, I7.unpinned, q7⟩
    | ret v => obtain ⟨x7, σ7, H7, I7, r7, q7⟩ := q7; exact ⟨x7, σ7, H7, I7.unpinned, r7, q7⟩
end

/-! ### the forms one uses -/
/-- over a list that the body leaves as it is -/
theorem for_list {K : PySem.W.Frag} {a : Addr} {xs : List V} {g : TG} {tb : TS} {D : Ends} {σ : St} {H : Hp} (Pv : Nat → St → Hp → Prop) (h0 : Pv 0 σ H) (hl : ∀ i σ H, i ≤ xs.length → Pv i σ H → SqL K H a xs)
    (hs : ∀ i x σ H, xs[i]? = some x → Pv i σ H → g x σ H fun σ2 H2 => tb { D with nx := Pv (i + 1), ct := Pv (i + 1), bk := D.nx } σ2 H2) (hd : ∀ σ H, Pv xs.length σ H → D.nx σ H) :
    ∃ W : Nat → Nat → St → Hp → Prop, (∃ m, W 0 m σ H) ∧ ∀ i m σ H, W i m σ H →
      ((Itl K a).stop i H ∧ D.nx σ H) ∨ ((Itl K a).go i H ∧ ∃ N : St → Hp → Prop, (∀ σ' H', N σ' H' → ∃ m', m' < m ∧ W (i + 1) m' σ' H') ∧ ∀ x H', (Itl K a).yld i H x H' → g x σ H' fun σ2 H2 => tb { D with nx := N, ct := N, bk := D.nx } σ2 H2) := by
  refine ⟨fun i m σ H => m = xs.length - i ∧ i ≤ xs.length ∧ Pv i σ H, ⟨xs.length, by simp, Nat.zero_le _, h0⟩, ?_⟩
  rintro i m σ H ⟨rfl, hi, p⟩
  have q := hl i σ H hi p
  by_cases hlt : i < xs.length
  · refine .inr ⟨⟨xs, xs[i], q, by simp [hlt]⟩, Pv (i + 1), fun σ' H' p' => ⟨xs.length - (i + 1), by (first | lia | omega), rfl, hlt, p'⟩, fun x H' y => ?_⟩
    obtain ⟨e, y⟩ := y
    subst e
    exact hs i x σ _ (y xs q) p
  · have e : i = xs.length := by (first | lia | omega)
    subst e
    exact .inl ⟨⟨xs, q, Nat.le_refl _⟩, hd σ H p⟩
theorem for_range {lo : Int} {n : Nat} {g : TG} {tb : TS} {D : Ends} {σ : St} {H : Hp} (Pv : Nat → St → Hp → Prop) (h0 : Pv 0 σ H)
    (hs : ∀ i σ H, i < n → Pv i σ H → g (.int (lo + i)) σ H fun σ2 H2 => tb { D with nx := Pv (i + 1), ct := Pv (i + 1), bk := D.nx } σ2 H2) (hd : ∀ σ H, Pv n σ H → D.nx σ H) :
    ∃ W : Nat → Nat → St → Hp → Prop, (∃ m, W 0 m σ H) ∧ ∀ i m σ H, W i m σ H →
      ((Itr lo n).stop i H ∧ D.nx σ H) ∨ ((Itr lo n).go i H ∧ ∃ N : St → Hp → Prop, (∀ σ' H', N σ' H' → ∃ m', m' < m ∧ W (i + 1) m' σ' H') ∧ ∀ x H', (Itr lo n).yld i H x H' → g x σ H' fun σ2 H2 => tb { D with nx := N, ct := N, bk := D.nx } σ2 H2) := by
  refine ⟨fun i m σ H => m = n - i ∧ i ≤ n ∧ Pv i σ H, ⟨n, by simp, Nat.zero_le _, h0⟩, ?_⟩
  rintro i m σ H ⟨rfl, hi, p⟩
  by_cases hlt : i < n
  · refine .inr ⟨hlt, Pv (i + 1), fun σ' H' p' => ⟨n - (i + 1), by (first | lia | omega), rfl, hlt, p'⟩, fun x H' y => ?_⟩
    obtain ⟨e, y⟩ := y
    subst e y
    exact hs i σ _ hlt p
  · have e : i = n := by (first | lia | omega)
    subst e
    exact .inl ⟨Nat.le_refl _, hd σ H p⟩
end L2

namespace L2
open PySem PySem.Spec PyProof.Rows

noncomputable abbrev R2 := V → V → Hp → VK → Prop
/-- a two-place operation on values: f is binaryOp op, inplaceOp op or compareOp op -/
noncomputable def OpR (X : Cx) (f : Value → Value → Sem Value) (r : R2) : Prop :=
  ∀ (pins : List (Addr × Obj)) (s : Shared) (σ : St) (H : Hp) (x y : V) (v u : Value) (Q : VK), Inv X pins σ H s → RelV x v → RelV y u → r x y H Q →
    wpAny (model X.prog X.w) X.A (f v u) (EP X pins σ Q) X.xe s
/-- a one-place operation -/
noncomputable def UnR (X : Cx) (f : Value → Sem Value) (r : V → Hp → VK → Prop) : Prop :=
  ∀ (pins : List (Addr × Obj)) (s : Shared) (σ : St) (H : Hp) (x : V) (v : Value) (Q : VK), Inv X pins σ H s → RelV x v → r x H Q →
    wpAny (model X.prog X.w) X.A (f v) (EP X pins σ Q) X.xe s
/-- a call of a value that is known (a builtin, a type) with values -/
noncomputable def CallR (X : Cx) (f : Value) (r : List V → Hp → VK → Prop) : Prop :=
  ∀ (pins : List (Addr × Obj)) (s : Shared) (σ : St) (H : Hp) (xs : List V) (us : List Value) (Q : VK), Inv X pins σ H s → Vals xs us → r xs H Q →
    wpAny (model X.prog X.w) X.A (call f us) (EP X pins σ Q) X.xe s
/-- a value's truth -/
noncomputable def TruR (X : Cx) (r : V → Hp → (Bool → Hp → Prop) → Prop) : Prop :=
  ∀ (pins : List (Addr × Obj)) (s : Shared) (σ : St) (H : Hp) (x : V) (v : Value) (Q : Bool → Hp → Prop), Inv X pins σ H s → RelV x v → r x H Q →
    wpAny (model X.prog X.w) X.A (truthy v) (TP X pins σ Q) X.xe s

noncomputable def tOp (r : R2) (ta tb : TE) : TE := fun σ H Q => ta σ H fun x H1 => tb σ H1 fun y H2 => r x y H2 Q
noncomputable def tUn (r : V → Hp → VK → Prop) (ta : TE) : TE := fun σ H Q => ta σ H fun x H1 => r x H1 Q
/-- ints in, under C, and a value out -/
noncomputable def rI (C : Int → Int → Prop) (g : Int → Int → V) : R2 := fun x y H Q => ∃ i j, x = .int i ∧ y = .int j ∧ C i j ∧ Q (g i j) H
noncomputable def rI0 (g : Int → Int → V) : R2 := fun x y H Q => ∃ i j, x = .int i ∧ y = .int j ∧ Q (g i j) H
noncomputable def rU (g : Int → V) : V → Hp → VK → Prop := fun x H Q => ∃ i, x = .int i ∧ Q (g i) H

section
variable {X : Cx} {a b c : Expr} {ta tb tc : TE} {pos : Pos}

theorem binT (ha : PE X a ta) (hb : PE X b tb) {pins : List (Addr × Obj)} {s : Shared} {σ : St} {H : Hp} {R : V → V → Hp → Prop} (I : Inv X pins σ H s)
    (h : ta σ H fun x H1 => tb σ H1 fun y H2 => R x y H2) {Q : Value → Shared → Prop} {f : Value → Value → Sem Value}
    (hf : ∀ v u s2 x y H2, Inv X pins σ H2 s2 → RelV x v → RelV y u → R x y H2 → wpAny (model X.prog X.w) X.A (f v u) Q X.xe s2) :
    wpAny (model X.prog X.w) X.A (eval a X.env) (fun v s₁ => wpAny (model X.prog X.w) X.A (eval b X.env) (fun u s₂ => wpAny (model X.prog X.w) X.A (f v u) Q X.xe s₂) X.xe s₁) X.xe s := by
  refine thn (ha pins s σ H _ I h) fun v s1 ⟨x, H1, I1, r1, q1⟩ => ?_
  refine thn (hb pins s1 σ H1 _ I1 q1) fun u s2 ⟨y, H2, I2, r2, q2⟩ => ?_
  exact hf v u s2 x y H2 I2 r1 r2 q2

theorem pe_op {op : Operator} {r : R2} (ho : OpR X (binaryOp op) r) (ha : PE X a ta) (hb : PE X b tb) : PE X (.BinOp a op b pos) (tOp r ta tb) := by
  intro pins s σ H Q I h
  exact wpAny_BinOp (binT ha hb I h fun v u s2 x y H2 I2 rx ry q => ho pins s2 σ H2 x y v u Q I2 rx ry q)
theorem pe_un {op : UnaryOp} {r : V → Hp → VK → Prop} (ho : UnR X (unaryOp op) r) (ha : PE X a ta) : PE X (.UnaryOp op a pos) (tUn r ta) := by
  intro pins s σ H Q I h
  exact UnaryOp_ (thn (ha pins s σ H _ I h) fun v s1 ⟨x, H1, I1, r1, q1⟩ => ho pins s1 σ H1 x v Q I1 r1 q1)
/-! ### ints -/
theorem opI {f : Value → Value → Sem Value} {C : Int → Int → Prop} {g : Int → Int → Int}
    (rule : ∀ (i j : Int) (t u : Tok) (s : Shared) (Q : Value → Shared → Prop) (E : Value → Shared → Prop), C i j → Q (.int (g i j) s.toks) { s with toks := s.toks + 1 } → wpAny (model X.prog X.w) X.A (f (.int i t) (.int j u)) Q E s) :
    OpR X f (rI C fun i j => .int (g i j)) := by
  intro pins s σ H x y v u Q I rx ry h
  obtain ⟨i, j, rfl, rfl, hc, q⟩ := h
  obtain ⟨t, rfl⟩ := rx
  obtain ⟨t', rfl⟩ := ry
  exact rule i j t t' s _ _ hc ⟨.int (g i j), H, I.tok _, ⟨_, rfl⟩, q⟩
theorem opI0 {f : Value → Value → Sem Value} {g : Int → Int → Int}
    (rule : ∀ (i j : Int) (t u : Tok) (s : Shared) (Q : Value → Shared → Prop) (E : Value → Shared → Prop), Q (.int (g i j) s.toks) { s with toks := s.toks + 1 } → wpAny (model X.prog X.w) X.A (f (.int i t) (.int j u)) Q E s) :
    OpR X f (rI0 fun i j => .int (g i j)) := by
  intro pins s σ H x y v u Q I rx ry h
  obtain ⟨i, j, rfl, rfl, q⟩ := h
  obtain ⟨t, rfl⟩ := rx
  obtain ⟨t', rfl⟩ := ry
  exact rule i j t t' s _ _ ⟨.int (g i j), H, I.tok _, ⟨_, rfl⟩, q⟩
theorem opB0 {f : Value → Value → Sem Value} {g : Int → Int → Bool}
    (rule : ∀ (i j : Int) (t u : Tok) (s : Shared) (Q : Value → Shared → Prop) (E : Value → Shared → Prop), Q (.bool (g i j)) s → wpAny (model X.prog X.w) X.A (f (.int i t) (.int j u)) Q E s) :
    OpR X f (rI0 fun i j => .bl (g i j)) := by
  intro pins s σ H x y v u Q I rx ry h
  obtain ⟨i, j, rfl, rfl, q⟩ := h
  obtain ⟨t, rfl⟩ := rx
  obtain ⟨t', rfl⟩ := ry
  exact rule i j t t' s _ _ ⟨.bl (g i j), H, I, rfl, q⟩

noncomputable def CDiv (i j : Int) : Prop := 0 < j ∧ j < 1073741824
noncomputable def CDivN (i j : Int) : Prop := j ≠ 0 ∧ j.natAbs < 1073741824
noncomputable def CPow (i j : Int) : Prop := 0 ≤ j ∧ j ≤ 1000000 ∧ i.natAbs < 2 ^ 64
noncomputable def CMul (i j : Int) : Prop := (-(2 ^ 64) < i ∧ i < 2 ^ 64) ∨ (-(2 ^ 64) < j ∧ j < 2 ^ 64)
theorem CMul.ok {i j : Int} (h : CMul i j) : IntMulOk i j := by
  rcases h with ⟨h1, h2⟩ | ⟨h1, h2⟩
  · exact .of_left (intBits_le_64 h1 h2)
  · exact .of_right (intBits_le_64 h1 h2)
theorem op_add : OpR X (binaryOp .Add) (rI0 fun i j => .int (i + j)) := opI0 fun _ _ _ _ _ _ _ q => add_int q
theorem op_sub : OpR X (binaryOp .Sub) (rI0 fun i j => .int (i - j)) := opI0 fun _ _ _ _ _ _ _ q => sub_int q
theorem op_mul : OpR X (binaryOp .Mult) (rI CMul fun i j => .int (i * j)) := opI fun _ _ _ _ _ _ _ hc q => mul_int q hc.ok
/-- // by a positive divisor -/
theorem op_fdiv : OpR X (binaryOp .FloorDiv) (rI CDiv fun i j => .int (i / j)) := opI fun i j _ _ _ _ _ hc q => by
  have h1 : (0 : Int) < j := hc.1
  have h2 : j < 1073741824 := hc.2
  exact floordiv_int (by (first | lia | omega)) (by rw [Int.fdiv_eq_ediv_of_nonneg i (by (first | lia | omega))]; exact q) (.inl (PyProof.noPylong_small (by (first | lia | omega))))
/-- % by a positive divisor of any size -/
theorem op_mod : OpR X (binaryOp .Mod) (rI (fun _ j => 0 < j) fun i j => .int (i % j)) := opI fun i j _ _ _ _ _ hc q => by
  have h1 : (0 : Int) < j := hc
  exact mod_int' (by (first | lia | omega)) (by rw [Int.fmod_eq_emod_of_nonneg i (by (first | lia | omega))]; exact q)
theorem unI {f : Value → Sem Value} {g : Int → Int}
    (rule : ∀ (i : Int) (t : Tok) (s : Shared) (Q : Value → Shared → Prop) (E : Value → Shared → Prop), Q (.int (g i) s.toks) { s with toks := s.toks + 1 } → wpAny (model X.prog X.w) X.A (f (.int i t)) Q E s) :
    UnR X f (rU fun i => .int (g i)) := by
  intro pins s σ H x v Q I rx h
  obtain ⟨i, rfl, q⟩ := h
  obtain ⟨t, rfl⟩ := rx
  exact rule i t s _ _ ⟨.int (g i), H, I.tok _, ⟨_, rfl⟩, q⟩
theorem un_neg : UnR X (unaryOp .USub) (rU fun i => .int (-i)) := unI fun _ _ _ _ _ q => neg_int q
/-! ### bools among ints: n += (a < b) -/
end

/-! ### comparisons -/
/-- the scalars that == tells apart as data does -/
noncomputable def scal : V → V → Bool
  | .non, .non => true | .non, .int _ => true | .int _, .non => true | .non, .bl _ => true | .bl _, .non => true | .non, .str _ => true | .str _, .non => true
  | .int _, .int _ => true | .bl _, .bl _ => true | .str _, .str _ => true | .byt _, .byt _ => true
  | .int _, .str _ => true | .str _, .int _ => true | .bl _, .str _ => true | .str _, .bl _ => true
  | _, _ => false
noncomputable def rEq : R2 := fun x y H Q => scal x y = true ∧ Q (.bl (decide (x = y))) H
noncomputable def rNe : R2 := fun x y H Q => scal x y = true ∧ Q (.bl (!decide (x = y))) H

theorem dec_int {i j : Int} : decide (V.int i = V.int j) = (i == j) := by
  rw [Bool.eq_iff_iff]
  simp
theorem dec_bl {i j : Bool} : decide (V.bl i = V.bl j) = (i == j) := by
  rw [Bool.eq_iff_iff]
  simp
theorem dec_str {i j : Str} : decide (V.str i = V.str j) = (i == j) := by
  rw [Bool.eq_iff_iff]
  simp
theorem dec_byt {i j : Array UInt8} : decide (V.byt i = V.byt j) = (i.toList == j.toList) := by
  rw [Bool.eq_iff_iff]
  cases i
  cases j
  simp

section
variable {X : Cx} {a b c : Expr} {ta tb tc : TE} {pos : Pos}
theorem fin_bl {pins : List (Addr × Obj)} {σ : St} {H : Hp} {s : Shared} {Q : VK} {k k' : Bool} (I : Inv X pins σ H s) (q : Q (.bl k) H) (e : k = k') : EP X pins σ Q (.bool k') s := by
  subst e
  exact ⟨.bl k, H, I, rfl, q⟩
theorem op_eq : OpR X (compareOp .Eq) rEq := by
  intro pins s σ H x y v u Q I rx ry h
  obtain ⟨hs, q⟩ := h
  cases x with
  | non =>
    cases rx
    cases y with
    | non => cases ry; exact PySem.EqNone.eq_none_none (fin_bl I q (by simp))
    | bl j => cases ry; exact PySem.EqNone.eq_none_bool (fin_bl I q (by simp))
    | int j => obtain ⟨t', rfl⟩ := ry; exact PySem.EqNone.eq_none_int (fin_bl I q (by simp))
    | str j => obtain ⟨t', rfl⟩ := ry; exact PySem.EqNone.eq_none_str (fin_bl I q (by simp))
    | _ => exact absurd (show false = true from hs) Bool.false_ne_true
  | bl i =>
    cases rx
    cases y with
    | non => cases ry; exact PySem.EqNone.eq_bool_none (fin_bl I q (by simp))
    | bl j => cases ry; exact eq_bool (fin_bl I q dec_bl)
    | str j => obtain ⟨t', rfl⟩ := ry; exact PySem.EqMixed.eq_bool_str (fin_bl I q (by simp))
    | _ => exact absurd (show false = true from hs) Bool.false_ne_true
  | int i =>
    obtain ⟨t, rfl⟩ := rx
    cases y with
    | non => cases ry; exact PySem.EqNone.eq_int_none (fin_bl I q (by simp))
    | int j => obtain ⟨t', rfl⟩ := ry; exact eq_int (fin_bl I q dec_int)
    | str j => obtain ⟨t', rfl⟩ := ry; exact PySem.EqMixed.eq_int_str (fin_bl I q (by simp))
    | _ => exact absurd (show false = true from hs) Bool.false_ne_true
  | str i =>
    obtain ⟨t, rfl⟩ := rx
    cases y with
    | non => cases ry; exact PySem.EqNone.eq_str_none (fin_bl I q (by simp))
    | bl j => cases ry; exact PySem.EqMixed.eq_str_bool (fin_bl I q (by simp))
    | int j => obtain ⟨t', rfl⟩ := ry; exact PySem.EqMixed.eq_str_int (fin_bl I q (by simp))
    | str j => obtain ⟨t', rfl⟩ := ry; exact eq_str (fin_bl I q dec_str)
    | _ => exact absurd (show false = true from hs) Bool.false_ne_true
  | byt i =>
    obtain ⟨t, rfl⟩ := rx
    cases y with
    | byt j => obtain ⟨t', rfl⟩ := ry; exact PySem.W.eq_bytes (fin_bl I q dec_byt)
    | _ => exact absurd (show false = true from hs) Bool.false_ne_true
  | _ => cases y <;> exact absurd (show false = true from hs) Bool.false_ne_true
theorem op_ne : OpR X (compareOp .NotEq) rNe := by
  intro pins s σ H x y v u Q I rx ry h
  obtain ⟨hs, q⟩ := h
  cases x with
  | non =>
    cases rx
    cases y with
    | non => cases ry; exact PySem.EqNone.ne_none_none (fin_bl I q (by simp))
    | bl j => cases ry; exact PySem.EqNone.ne_none_bool (fin_bl I q (by simp))
    | int j => obtain ⟨t', rfl⟩ := ry; exact PySem.EqNone.ne_none_int (fin_bl I q (by simp))
    | str j => obtain ⟨t', rfl⟩ := ry; exact PySem.EqNone.ne_none_str (fin_bl I q (by simp))
    | _ => exact absurd (show false = true from hs) Bool.false_ne_true
  | bl i =>
    cases rx
    cases y with
    | non => cases ry; exact PySem.EqNone.ne_bool_none (fin_bl I q (by simp))
    | bl j => cases ry; exact ne_bool (fin_bl I q (congrArg not dec_bl))
    | str j => obtain ⟨t', rfl⟩ := ry; exact PySem.EqMixed.ne_bool_str (fin_bl I q (by simp))
    | _ => exact absurd (show false = true from hs) Bool.false_ne_true
  | int i =>
    obtain ⟨t, rfl⟩ := rx
    cases y with
    | non => cases ry; exact PySem.EqNone.ne_int_none (fin_bl I q (by simp))
    | int j => obtain ⟨t', rfl⟩ := ry; exact ne_int (fin_bl I q (congrArg not dec_int))
    | str j => obtain ⟨t', rfl⟩ := ry; exact PySem.EqMixed.ne_int_str (fin_bl I q (by simp))
    | _ => exact absurd (show false = true from hs) Bool.false_ne_true
  | str i =>
    obtain ⟨t, rfl⟩ := rx
    cases y with
    | non => cases ry; exact PySem.EqNone.ne_str_none (fin_bl I q (by simp))
    | bl j => cases ry; exact PySem.EqMixed.ne_str_bool (fin_bl I q (by simp))
    | int j => obtain ⟨t', rfl⟩ := ry; exact PySem.EqMixed.ne_str_int (fin_bl I q (by simp))
    | str j => obtain ⟨t', rfl⟩ := ry; exact ne_str (fin_bl I q (congrArg not dec_str))
    | _ => exact absurd (show false = true from hs) Bool.false_ne_true
  | byt i =>
    obtain ⟨t, rfl⟩ := rx
    cases y with
    | byt j => obtain ⟨t', rfl⟩ := ry; exact PySem.W.ne_bytes (fin_bl I q (congrArg not dec_byt))
    | _ => exact absurd (show false = true from hs) Bool.false_ne_true
  | _ => cases y <;> exact absurd (show false = true from hs) Bool.false_ne_true

theorem op_lt : OpR X (compareOp .Lt) (rI0 fun i j => .bl (decide (i < j))) := opB0 fun _ _ _ _ _ _ _ q => lt_int q
theorem op_le : OpR X (compareOp .LtE) (rI0 fun i j => .bl (decide (i ≤ j))) := opB0 fun _ _ _ _ _ _ _ q => le_int q
theorem op_gt : OpR X (compareOp .Gt) (rI0 fun i j => .bl (decide (j < i))) := opB0 fun _ _ _ _ _ _ _ q => gt_int q
theorem op_ge : OpR X (compareOp .GtE) (rI0 fun i j => .bl (decide (j ≤ i))) := opB0 fun _ _ _ _ _ _ _ q => ge_int q
/-- is, is not of two objects that are tracked lists or instances -/
noncomputable def isObj : HO → Bool
  | .lst _ => true
  | .ins _ _ _ => true
  | _ => false
/-- two rules for one operation: by cases -/
theorem OpR.or {f : Value → Value → Sem Value} {r r' : R2} (h : OpR X f r) (h' : OpR X f r') : OpR X f (fun x y H Q => r x y H Q ∨ r' x y H Q) := by
  intro pins s σ H x y v u Q I rx ry q
  rcases q with q | q
  · exact h pins s σ H x y v u Q I rx ry q
  · exact h' pins s σ H x y v u Q I rx ry q

theorem nomark (b : Expr) {op : CmpOp} (h : op ≠ .In := by decide) (h2 : op ≠ .NotIn := by decide) : behindInMarks op b = false := by
  have e1 : (op == CmpOp.In) = false := by cases op <;> first | rfl | exact absurd rfl h
  have e2 : (op == CmpOp.NotIn) = false := by cases op <;> first | rfl | exact absurd rfl h2
  cases b <;> simp [behindInMarks, e1, e2]
/-- a comparison as a value; hm: nomark b, or (for in, not in) by with_unfolding_all rfl -/
theorem pe_cmpR {op : CmpOp} {r : R2} (ho : OpR X (compareOp op) r) (ha : PE X a ta) (hb : PE X b tb) (hm : behindInMarks op b = false) : PE X (.Compare a [op] [b] pos) (tOp r ta tb) := by
  intro pins s σ H Q I h
  exact wpAny_Compare1 (binT ha hb I h fun v u s2 x y H2 I2 rx ry q => ho pins s2 σ H2 x y v u Q I2 rx ry q) hm
/-- a reading of a value as a test -/
noncomputable def tTest (t : TE) : TT := fun σ H Q => t σ H fun x H' => ∃ k, x = .bl k ∧ Q k H'
theorem pt_cmpR {op : CmpOp} {r : R2} (ho : OpR X (compareOp op) r) (ha : PE X a ta) (hb : PE X b tb) (hm : behindInMarks op b = false) : PT X (.Compare a [op] [b] pos) (tTest (tOp r ta tb)) := by
  intro pins s σ H Q I h
  refine wpAny_isTrue_Compare1 (thn (ha pins s σ H _ I h) fun v s1 ⟨x, H1, I1, r1, q1⟩ => thn (hb pins s1 σ H1 _ I1 q1) fun u s2 ⟨y, H2, I2, r2, q2⟩ =>
    thn (ho pins s2 σ H2 x y v u _ I2 r1 r2 q2) fun c s3 ⟨z, H3, I3, r3, k, e, q3⟩ => ?_) hm
  subst e
  cases r3
  exact wpAny_truthy_bool ⟨H3, I3, q3⟩
/-- a op1 b op2 c -/
noncomputable def tChain (r r' : R2) (ta tb tc : TE) : TE := fun σ H Q => ta σ H fun x H1 => tb σ H1 fun y H2 => r x y H2 fun z H3 => ∃ k, z = .bl k ∧
  (if k = true then tc σ H3 fun w' H4 => r' y w' H4 Q else Q (.bl false) H3)
theorem pe_chain {op op' : CmpOp} {r r' : R2} (ho : OpR X (compareOp op) r) (ho' : OpR X (compareOp op') r') (ha : PE X a ta) (hb : PE X b tb) (hc : PE X c tc)
    (hm : lastMarks [op, op'] [b, c] = false := by with_unfolding_all rfl) : PE X (.Compare a [op, op'] [b, c] pos) (tChain r r' ta tb tc) := by
  intro pins s σ H Q I h
  refine Compare_chain (thn (ha pins s σ H _ I h) fun v s1 ⟨x, H1, I1, r1, q1⟩ => chain_link (thn (hb pins s1 σ H1 _ I1 q1) fun u s2 ⟨y, H2, I2, r2, q2⟩ =>
    thn (ho pins s2 σ H2 x y v u _ I2 r1 r2 q2) fun d s3 ⟨z, H3, I3, r3, k, e, q3⟩ => ?_)) hm
  subst e
  cases r3
  refine wpAny_truthy_bool ?_
  cases k with
  | false => exact ite_ff ⟨.bl false, H3, I3, rfl, q3⟩
  | true => exact ite_tt (chain_last (thn (hc pins s3 σ H3 _ I3 q3) fun w' s4 ⟨z', H4, I4, r4, q4⟩ => ho' pins s4 σ H4 y z' u w' Q I4 r2 r4 q4))
/-! ### truth -/
/-- a value's truth by the abstract heap -/
noncomputable def TruV (K : PySem.W.Frag) (x : V) (H : Hp) (k : Bool) : Prop :=
  match x with
  | .non => k = false
  | .bl b => k = b
  | .int i => k = (i != 0)
  | .str y => y.length ≤ sizeLine ∧ k = ((y.length : Int) != 0)
  | .byt y => y.size ≤ sizeLine ∧ k = ((y.size : Int) != 0)
  | .ref p => (∃ xs, SqL K H p xs ∧ k = !xs.isEmpty) ∨ (∃ xs, SqT K H p xs ∧ k = !xs.isEmpty) ∨ ∃ kvs, H p = some (.dK kvs) ∧ k = !kvs.isEmpty
  | _ => False
theorem line63 : (sizeLine : Nat) < 2 ^ 63 := by rw [sizeLine_eq]; decide
/-! ### strs and bytes -/
noncomputable def PlainIxT (b : Expr) : Prop := ∀ o i, subscripted b false o i = operate [o, i] (getItem o i)
/-! ### scalar builtins, by CallR -/
theorem vals1 {x : V} {us : List Value} (r : Vals [x] us) : ∃ u, us = [u] ∧ RelV x u := by
  cases r with
  | cons r1 r2 => cases r2; exact ⟨_, rfl, r1⟩
theorem vals2 {x y : V} {us : List Value} (r : Vals [x, y] us) : ∃ u w', us = [u, w'] ∧ RelV x u ∧ RelV y w' := by
  cases r with
  | cons r1 r2 =>
    cases r2 with
    | cons r3 r4 => cases r4; exact ⟨_, _, rfl, r1, r3⟩
theorem call_min2 (hc : X.calm = true) : CallR X (.builtin "min") (fun xs H Q => ∃ i j, xs = [.int i, .int j] ∧ Q (.int (if j < i then j else i)) H) := by
  intro pins s σ H xs us Q I r h
  obtain ⟨i, j, rfl, q⟩ := h
  obtain ⟨u, w', rfl, ⟨t, rfl⟩, ⟨t', rfl⟩⟩ := vals2 r
  refine min_two_ints (I.ok.hd hc) fun h' tk k => ⟨_, H, I.kept k, ?_, q⟩
  by_cases hj : j < i
  · rw [if_pos hj, if_pos hj]; exact ⟨_, rfl⟩
  · rw [if_neg hj, if_neg hj]; exact ⟨_, rfl⟩
theorem call_int1 : CallR X (.type "int") (fun xs H Q => (∃ i, xs = [.int i] ∧ Q (.int i) H) ∨ ∃ k, xs = [.bl k] ∧ Q (.int (if k then 1 else 0)) H) := by
  intro pins s σ H xs us Q I r h
  rcases h with ⟨i, rfl, q⟩ | ⟨k, rfl, q⟩
  · obtain ⟨u, rfl, t, rfl⟩ := vals1 r
    exact call_int_int ⟨.int i, H, I, ⟨_, rfl⟩, q⟩
  · obtain ⟨u, rfl, r1⟩ := vals1 r
    cases r1
    exact call_int_bool ⟨.int (if k then 1 else 0), H, I.tok _, ⟨_, rfl⟩, q⟩
/-- len of a str, a bytes, a list, a tuple -/
noncomputable def LenV (K : PySem.W.Frag) (x : V) (H : Hp) (n : Nat) : Prop :=
  match x with
  | .str y => y.length ≤ sizeLine ∧ n = y.length
  | .byt y => y.size ≤ sizeLine ∧ n = y.size
  | .ref p => (∃ xs, SqL K H p xs ∧ n = xs.length) ∨ ∃ xs, SqT K H p xs ∧ n = xs.length
  | _ => False
end
end L2

namespace L2
open PySem PySem.Spec PyProof.Rows

/-! ### an instance, its attributes a map -/
structure ObjM (h : Heap) (x dx C : Addr) (mA : Str → Option Value) : Prop where
  obj : h.get? x = some (PySem.W.instObj C dx)
  ns : h.Ns1 dx mA
  ne : dx ≠ x

theorem lookIn_ns {h : Heap} {dx : Addr} {mA : Str → Option Value} (n : h.Ns1 dx mA) : ∃ od, h.get? dx = some od ∧ ∀ name, PySem.W.lookIn name od = some (mA name) := by
  obtain ⟨o, es, ep, ho, hd, hk, _, hm⟩ := n
  refine ⟨o, ho, fun name => ?_⟩
  have e := hm name
  unfold nsFind findBy at e
  rw [← Array.find?_toList] at e
  unfold PySem.W.lookIn
  rw [hd]
  dsimp only
  split
  · rename_i y q
    rw [q] at e
    exact congrArg some e
  · rename_i q
    rw [q] at e
    have a : es.toList.any (·.refKey) = false := by
      rw [List.any_eq_false]
      intro y hy
      obtain ⟨z, t, hkey⟩ := hk y (Array.mem_toList_iff.mp hy)
      simp [DictEntry.refKey, hkey]
    have a' : ¬ es.toList.any (·.refKey) = true := by rw [a]; exact Bool.false_ne_true
    rw [if_neg a']
    exact congrArg some e

theorem ObjM.look {h : Heap} {x dx C : Addr} {mA : Str → Option Value} (I : ObjM h x dx C mA) : ∃ od, PySem.W.InstAt h x (PySem.W.instObj C dx) C (some od) ∧ ∀ name, PySem.W.lookIn name od = some (mA name) :=
  let ⟨od, ho, hl⟩ := lookIn_ns I.ns
  ⟨od, ⟨I.obj, rfl, rfl, ho⟩, hl⟩

section
variable {prog : Program} {w : World} {A : Around} {E : Value → Shared → Prop} {s : Shared} {K : PySem.W.Frag} {x dx C f : Addr} {mA : Str → Option Value} {name : Str} {v : Value}

end

/-! ### the attributes as a list of pairs -/
noncomputable def putF (f : Str) (v : V) : List (Str × V) → List (Str × V)
  | [] => [(f, v)]
  | (g, x) :: r => if g = f then (g, v) :: r else (g, x) :: putF f v r
section
variable {P : Program} {w : World} {H H' : Hp} {h h' : Heap} {a C dx : Addr} {fs fs' : List (Str × V)}
theorem ins_get (hok : HOk P w H h) (e : H a = some (.ins C dx fs)) : ∃ mA, ObjM h a dx C mA ∧ (∀ f, RelO (fs.lookup f) (mA f)) ∧ PySem.Within mA (fs.map (·.1)) ∧ fs.length ≤ 1000 ∧ H dx = some (.own a) := by
  obtain ⟨d, z, ne, ob, mA, n, r, q⟩ := (show ObjOk P w H h a (.ins C dx fs) from hok a _ e)
  exact ⟨mA, ⟨ob, n, ne⟩, r, q, z, d⟩
end

/-! ### what of the text a class must have -/
structure Cls (K : PySem.W.Frag) (C : Addr) : Prop where
  pg : PySem.W.plainGet K C Str.empty = true
  hd : PySem.W.hasDictIn K C = true
  po : PySem.W.plainOver K C = true
  sa : PySem.W.findIn K (.ref C) "__setattr__" = some (some (.builtin "object.__setattr__"))
theorem Cls.get {K : PySem.W.Frag} {C : Addr} (c : Cls K C) (f : Str) : PySem.W.plainGet K C f = true := c.pg
/-- no class of it has the name -/
noncomputable def NoAttr (K : PySem.W.Frag) (C : Addr) (f : Str) : Prop := PySem.W.findIn K (.ref C) f = some none
/-- a constant of the class -/
structure Con (K : PySem.W.Frag) (C : Addr) (f : Str) (v : V) (u : Value) : Prop where
  at_ : PySem.W.findIn K (.ref C) f = some (some u)
  rel : RelV v u
  get : PySem.W.specialIn K u "__get__" = some none
  cp : PySem.W.copiedNames.contains f = false
/-- a method: a plain def of the class or of one above it -/
structure Meth (K : PySem.W.Frag) (C : Addr) (m : Str) (f : Addr) : Prop where
  at_ : PySem.W.findIn K (.ref C) m = some (some (.ref f))
  fn : PySem.W.isFn K (.ref f) = true
  kp : PySem.W.keepIn K (.ref f) = true

section
variable {X : Cx} {pins : List (Addr × Obj)} {σ : St} {H : Hp} {s : Shared} {a C dx : Addr} {fs : List (Str × V)} {f : Str} {v : V} {A : Around} {E : Value → Shared → Prop}

end

/-! ### readings and rules -/
/-- e.f, an attribute of the instance -/
noncomputable def tFld (K : PySem.W.Frag) (ta : TE) (f : Str) : TE := fun σ H Q => ta σ H fun x H1 => ∃ a C dx fs v, x = .ref a ∧ H1 a = some (.ins C dx fs) ∧ Cls K C ∧ NoAttr K C f ∧ fs.lookup f = some v ∧ Q v H1
/-- e.f, a constant of the class -/
noncomputable def tCon (K : PySem.W.Frag) (ta : TE) (f : Str) : TE := fun σ H Q => ta σ H fun x H1 => ∃ a C dx fs v u, x = .ref a ∧ H1 a = some (.ins C dx fs) ∧ Cls K C ∧ Con K C f v u ∧ fs.lookup f = none ∧ Q v H1
/-- e.f = value -/
noncomputable def sFld (K : PySem.W.Frag) (ta tv : TE) (f : Str) : TS := fun D σ H => tv σ H fun y H1 => ta σ H1 fun x H2 => ∃ a C dx fs, x = .ref a ∧ H2 a = some (.ins C dx fs) ∧ Cls K C ∧ NoAttr K C f ∧ fs.length < 1000 ∧
  D.nx σ (upd H2 a (.ins C dx (putF f y fs)))
/-- an augmented operator on two values -/
noncomputable def InOp (X : Cx) (op : Operator) (rd : V → V → Hp → VK → Prop) : Prop :=
  ∀ (pins : List (Addr × Obj)) (s : Shared) (σ : St) (H : Hp) (x y : V) (u v : Value) (Q : VK), Inv X pins σ H s → RelV x u → RelV y v → rd x y H Q → wpAny (model X.prog X.w) X.A (inplaceOp op u v) (EP X pins σ Q) X.xe s
/-- e.f op= value -/
noncomputable def sFldAug (K : PySem.W.Frag) (ta tv : TE) (rd : V → V → Hp → VK → Prop) (f : Str) : TS := fun D σ H => ta σ H fun x H1 => ∃ a C dx fs v, x = .ref a ∧ H1 a = some (.ins C dx fs) ∧ Cls K C ∧ NoAttr K C f ∧ fs.lookup f = some v ∧
  tv σ H1 fun y H2 => rd v y H2 fun z H3 => ∃ dx' fs', H3 a = some (.ins C dx' fs') ∧ fs'.length < 1000 ∧ D.nx σ (upd H3 a (.ins C dx' (putF f z fs')))

section
variable {X : Cx} {o e value : Expr} {f : Str} {pos pos' tpos : Pos} {ta tv : TE}
noncomputable def rAdd : V → V → Hp → VK → Prop := fun x y H Q => ∃ i j, x = .int i ∧ y = .int j ∧ Q (.int (i + j)) H
noncomputable def rSub : V → V → Hp → VK → Prop := fun x y H Q => ∃ i j, x = .int i ∧ y = .int j ∧ Q (.int (i - j)) H
end

/-! ### isinstance -/
section
variable {X : Cx} {pins : List (Addr × Obj)} {σ : St} {H : Hp} {s : Shared} {A : Around} {E : Value → Shared → Prop} {Q : Value → Shared → Prop} {c : Value} {b : Bool}
/-- the type of a value, as the fragment's deciders take it; for an instance its class -/
inductive TyOf (K : PySem.W.Frag) (H : Hp) : V → Value → Prop where
  | non : TyOf K H .non (.type "NoneType")
  | bl (x : Bool) : TyOf K H (.bl x) (.type "bool")
  | int (i : Int) : TyOf K H (.int i) (.type "int")
  | str (x : Str) : TyOf K H (.str x) (.type "str")
  | flt (x : UInt64) : TyOf K H (.flt x) (.type "float")
  | lst {a : Addr} {xs : List V} (e : H a = some (.lst xs)) : TyOf K H (.ref a) (.type "list")
  | frz {a : Addr} {o : Obj} {xs : List V} (e : H a = some (.frz o (.lst xs))) : TyOf K H (.ref a) (.type "list")
  | tup {a : Addr} {xs : List V} (e : H a = some (.tup xs)) : TyOf K H (.ref a) (.type "tuple")
  | dK {a : Addr} {kvs : List (Key × V)} (e : H a = some (.dK kvs)) : TyOf K H (.ref a) (.type "dict")
  | dT {a : Addr} {kvs : List (List Key × V)} (e : H a = some (.dT kvs)) : TyOf K H (.ref a) (.type "dict")
  | ins {a C dx : Addr} {fs : List (Str × V)} (e : H a = some (.ins C dx fs)) (cl : Cls K C) (ha : PySem.W.findIn K (.ref C) "__class__" = some (some (.builtin "object.__class__")))
      (hn : PySem.W.specialIn K (.builtin "object.__class__") "__get__" = some (some (.builtin "getset_descriptor.__get__"))) (htk : PySem.W.takesIn K (.builtin "object.__class__") = some true)
      (hm : PySem.W.mroIn K C (.type "object") = some true) : TyOf K H (.ref a) (.ref C)
/-- isinstance(x, c) for one class c, a built-in or an own one: kitOne's answer -/
theorem isinst_ok {x : V} {u t : Value} (I : Inv X pins σ H s) (rx : RelV x u) (ty : TyOf X.K H x t) (e : PySem.W.kitOne X.K t c = some b) (h : ∀ tk, Q (.bool b) { s with toks := tk }) :
    wpAny (model X.prog X.w) A (call (.builtin "isinstance") [u, c]) Q E s := by
  cases ty with
  | non => cases (show u = Value.none from rx); exact PySem.W.kia_one PySem.W.kitx_none I.kIn True.intro e (fun z => nomatch z) h
  | bl y => cases (show u = Value.bool y from rx); exact PySem.W.kia_one PySem.W.kitx_bool I.kIn True.intro e (fun z => nomatch z) h
  | int i => obtain ⟨t, q⟩ := (show ∃ t, u = Value.int i t from rx); cases q; exact PySem.W.kia_one PySem.W.kitx_int I.kIn True.intro e (fun z => nomatch z) h
  | str y => obtain ⟨t, q⟩ := (show ∃ t, u = Value.str y t from rx); cases q; exact PySem.W.kia_one PySem.W.kitx_str I.kIn True.intro e (fun z => nomatch z) h
  | flt y => obtain ⟨t, q⟩ := (show ∃ t, u = Value.float y t from rx); cases q; exact PySem.W.kia_one PySem.W.kitx_float I.kIn True.intro e (fun z => nomatch z) h
  | @lst a xs ea =>
    cases (show u = Value.ref a from rx)
    obtain ⟨_, _, n, _, h1⟩ := (show ObjOk X.prog X.w H s.heap a (.lst xs) from I.hok a _ ea)
    exact PySem.W.kia_one PySem.W.kitx_list I.kIn ⟨_, h1, rfl⟩ e (fun z => nomatch z) h
  | @frz a ob xs ea =>
    cases (show u = Value.ref a from rx)
    obtain ⟨_, _, _, n, _, h1⟩ := (show ObjOk X.prog X.w H s.heap a (.frz ob (.lst xs)) from I.hok a _ ea)
    exact PySem.W.kia_one PySem.W.kitx_list I.kIn ⟨_, h1, rfl⟩ e (fun z => nomatch z) h
  | @tup a xs ea =>
    cases (show u = Value.ref a from rx)
    obtain ⟨_, _, _, p⟩ := (show ObjOk X.prog X.w H s.heap a (.tup xs) from I.hok a _ ea)
    obtain ⟨o, h1, h2, _⟩ := p
    exact PySem.W.kia_one PySem.W.kitx_tuple I.kIn ⟨o, h1, h2⟩ e (fun z => nomatch z) h
  | @dK a kvs ea =>
    cases (show u = Value.ref a from rx)
    obtain ⟨_, _, vs, _, p⟩ := (show ObjOk X.prog X.w H s.heap a (.dK kvs) from I.hok a _ ea)
    obtain ⟨o, es, ep, h1, h2, _⟩ := p
    exact PySem.W.kia_one PySem.W.kitx_dict I.kIn ⟨o, h1, h2.1⟩ e (fun z => nomatch z) h
  | @dT a kvs ea =>
    cases (show u = Value.ref a from rx)
    obtain ⟨_, _, xs, _, o, es, ep, h1, h2, _⟩ := (show ObjOk X.prog X.w H s.heap a (.dT kvs) from I.hok a _ ea)
    exact PySem.W.kia_one PySem.W.kitx_dict I.kIn ⟨o, h1, h2.1⟩ e (fun z => nomatch z) h
  | @ins a C dx fs ea cl ha hn htk hm =>
    cases (show u = Value.ref a from rx)
    obtain ⟨mA, O, _⟩ := ins_get I.hok ea
    obtain ⟨od, J, _⟩ := O.look
    exact PySem.W.kia_one (PySem.W.kitx_own (cl.get _) cl.hd ha hn htk hm) I.kIn J e (fun z => nomatch z) h
end
end L2

namespace L2
open PySem PySem.Spec PyProof.Rows

/-! ### room -/
structure Room (k : Nat) (A : Around) : Prop where
  hd : A.handled = none
  dp : A.depth + 3 * k + 5 < recursionLimit
  un : A.units + 16 * k + 200 < cLine
theorem Room.mono {j k : Nat} {A : Around} (r : Room k A) (h : j ≤ k) : Room j A := ⟨r.hd, by have := r.dp; (first | lia | omega), by have := r.un; (first | lia | omega)⟩
theorem Room.deeper {k : Nat} {A : Around} (r : Room (k + 1) A) (env : Env) : Room k (A.deeper env) :=
  ⟨r.hd, by have := r.dp; show A.depth + 1 + 3 * k + 5 < _; (first | lia | omega), by have := r.un; show A.units + 3 + 16 * k + 200 < _; (first | lia | omega)⟩
theorem Room.depth {k : Nat} {A : Around} (r : Room k A) : A.depth < recursionLimit := by have := r.dp; (first | lia | omega)
theorem Room.units {k : Nat} {A : Around} (r : Room k A) : A.units + 64 < cLine := by have := r.un; (first | lia | omega)
theorem Room.units0 {k : Nat} {A : Around} (r : Room k A) : A.units < cLine := by have := r.un; (first | lia | omega)

/-! ### argument lists and displays -/
noncomputable def tNil : TA := fun _ H Q => Q [] H
noncomputable def tCons (ta : TE) (tr : TA) : TA := fun σ H Q => ta σ H fun x H1 => tr σ H1 fun xs H2 => Q (x :: xs) H2
section
variable {X : Cx} {e : Expr} {es : List Expr} {te : TE} {t : TA} {pos : Pos}
theorem pa_nil : PA X [] tNil := fun _ _ _ _ H Q I h => Calls.spliced_nil ⟨[], H, I, .nil, h⟩
theorem pa_cons (ha : PE X e te) (hr : PA X es t) (hs : starEach (e :: es) X.env = (false, eval e X.env) :: starEach es X.env := by rfl) : PA X (e :: es) (tCons te t) := by
  intro pos pins s σ H Q I h
  rw [hs]
  show wpAny _ _ (spliced ((false, eval e X.env) :: backTo pos (starEach es X.env))) _ _ s
  refine Calls.spliced_cons (thn (ha pins s σ H _ I h) fun u s1 ⟨x, H1, I1, r1, q1⟩ => ?_)
  exact thn (hr pos pins s1 σ H1 _ I1 q1) fun us s2 ⟨xs, H2, I2, r2, q2⟩ => ⟨x :: xs, H2, I2, .cons r1 r2, q2⟩

/-- a tuple, a list of written items -/
noncomputable def tTup (t : TA) : TE := fun σ H Q => t σ H fun xs H1 => xs.length ≤ sizeLine ∧ ∀ p, H1 p = none → Q (.ref p) (upd H1 p (.tup xs))
noncomputable def tLst (t : TA) : TE := fun σ H Q => t σ H fun xs H1 => xs.length ≤ sizeLine ∧ ∀ p, H1 p = none → Q (.ref p) (upd H1 p (.lst xs))
theorem pe_tup {x1} (h : PA X es t) : PE X (.Tuple es x1 pos) (tTup t) := by
  intro pins s σ H Q I hq
  refine wpAny_Tuple_spliced (thn (h pos pins s σ H _ I hq) fun us s1 ⟨xs, H1, I1, r, z, q⟩ => ⟨by rw [← r.length]; exact z, ?_⟩)
  have hf : H1 s1.heap.objs.size = none := I1.hok.fresh (Nat.le_refl _)
  refine ⟨.ref s1.heap.objs.size, upd H1 s1.heap.objs.size (.tup xs), I1.laid (t' := s1.toks) (fun b u e => Heap.get?_push_of_some _ e) (Nat.le_refl _) ?_, rfl, q _ hf⟩
  exact ⟨z, us, r, ⟨_, Heap.get?_push_size _ rfl, rfl, _, rfl⟩⟩
theorem pe_lst (h : PA X es t) : PE X (.List es pos) (tLst t) := by
  intro pins s σ H Q I hq
  refine wpAny_List_spliced (thn (h pos pins s σ H _ I hq) fun us s1 ⟨xs, H1, I1, r, z, q⟩ => ⟨by rw [← r.length]; exact z, ?_⟩)
  have hf : H1 s1.heap.objs.size = none := I1.hok.fresh (Nat.le_refl _)
  refine ⟨.ref s1.heap.objs.size, upd H1 s1.heap.objs.size (.lst xs), I1.laid (t' := s1.toks) (fun b u e => Heap.get?_push_of_some _ e) (Nat.le_refl _) ?_, rfl, q _ hf⟩
  exact ⟨z, us, 0, r, Heap.get?_push_size _ rfl⟩
end

/-! ### what a def promises -/
/-- a def's promise: the bound arguments in the parameters' order, the heap, the wanted end, the wanted exception -/
noncomputable abbrev Sp := List V → Hp → VK → XK → Prop
/-- how an exception lies behind a call (file 08 gives it): the callers' frames, abstract heap and state ahead of the call, the wish, the exception, the state -/
noncomputable abbrev CXT := List Env → Hp → Shared → XK → Value → Shared → Prop

/-- the state at a call -/
structure Env0 (P : Program) (w : World) (K : PySem.W.Frag) (mg : Str → Option Value) (base : Heap) (A : Around) (outer : List Env) (s : Shared) (H : Hp) : Prop where
  frames : A.frames = some outer
  mod : Mod K mg base
  bs : ∀ b o, base.get? b = some o → s.heap.get? b = some o ∧ H b = none
  bsz : base.objs.size ≤ s.heap.objs.size
  funs : s.heap.FunFrames base outer
  frf : ∀ b ∈ frs outer, H b = none
  hok : HOk P w H s.heap
  bare : AllBare s.gens
/-- a call's end -/
noncomputable def CE (outer : List Env) (P : Program) (w : World) (H : Hp) (s : Shared) (Q : VK) (u : Value) (s' : Shared) : Prop :=
  ∃ v H', s'.os = s.os ∧ AllBare s'.gens ∧ Un (frs outer) [] H H' s.heap s'.heap ∧ HOk P w H' s'.heap ∧ RelV v u ∧ Q v H'
noncomputable def CR (CX : CXT) (outer : List Env) (P : Program) (w : World) (H : Hp) (s : Shared) (Q : VK) (E : XK) (r : Result) (s' : Shared) : Prop :=
  match r with
  | .ok (.ret u) => CE outer P w H s Q u s'
  | .ok _ => False
  | .error e => CX outer H s E e s'
structure FnOk (P : Program) (w : World) (K : PySem.W.Frag) (mg : Str → Option Value) (base : Heap) (CX : CXT) (k : Nat) (f : Addr) (fd : FuncData) (ps : List Str) (sp : Sp) : Prop where
  len : ∀ vs H Q E, sp vs H Q E → vs.length = ps.length
  run : ∀ (A : Around) (outer : List Env) (s : Shared) (H : Hp) (args : Args) (us : List Value) (vs : List V) (Q : VK) (E : XK), Room k A → Env0 P w K mg base A outer s H → BindsTo s fd args (ps.zip us) → Vals vs us → sp vs H Q E →
    codeAny (model P w) A (.call (.ref f) args) (CR CX outer P w H s Q E) s
theorem FnOk.mono {P : Program} {w : World} {K : PySem.W.Frag} {mg : Str → Option Value} {base : Heap} {CX : CXT} {j k : Nat} {f : Addr} {fd : FuncData} {ps : List Str} {sp : Sp} (F : FnOk P w K mg base CX j f fd ps sp) (h : j ≤ k) :
    FnOk P w K mg base CX k f fd ps sp := ⟨F.len, fun A outer s H args us vs Q E hr => F.run A outer s H args us vs Q E (hr.mono h)⟩
section
variable {X : Cx} {pins : List (Addr × Obj)} {σ : St} {H : Hp} {s s' : Shared}
/-- from a body: what a callee wants -/
theorem Inv.env0 (I : Inv X pins σ H s) : Env0 X.prog X.w X.K X.mg X.base X.A X.stack s H :=
  ⟨I.ok.frames, I.ok.mod, I.bs, Nat.le_trans I.ok.bsz I.sz, I.stack, I.stkFree, I.hok, I.bare⟩
/-- behind a call -/
theorem Inv.after {Q : VK} {u : Value} (I : Inv X pins σ H s) (h : CE X.stack X.prog X.w H s Q u s') : EP X pins σ Q u s' := by
  obtain ⟨v, H', os, bare, un, hok, r, q⟩ := h
  obtain ⟨hh, g, d, t, os'⟩ := s'
  obtain rfl : os' = s.os := os
  exact ⟨v, H', I.call (h' := hh) (g' := g) (d' := d) (t' := t) (ch := []) un hok bare (fun b z => absurd z (by simp)), r, q⟩
end

/-! ### calls -/
/-- f(..): the written arguments, then the defaults dvs; E: what is wanted of an exception -/
noncomputable def tCall (sp : Sp) (dvs : List V) (E : XK) (t : TA) : TE := fun σ H Q => t σ H fun vs H1 => sp (vs ++ dvs) H1 Q E
/-- o.m(..) of an instance of the class at C -/
noncomputable def tMeth (C : Addr) (m : Str) (sp : Sp) (dvs : List V) (E : XK) (ta : TE) (t : TA) : TE := fun σ H Q => ta σ H fun x H1 => ∃ a dx fs, x = .ref a ∧ H1 a = some (.ins C dx fs) ∧ fs.lookup m = none ∧
  t σ H1 fun vs H2 => sp (x :: (vs ++ dvs)) H2 Q E
/-- C(..): a new instance and its dict, then __init__ -/
noncomputable def tMake (C : Addr) (sp : Sp) (dvs : List V) (E : XK) (t : TA) : TE := fun σ H Q => t σ H fun vs H1 => ∀ x dx, H1 x = none → H1 dx = none → dx ≠ x →
  sp (.ref x :: (vs ++ dvs)) (upd (upd H1 dx (.own x)) x (.ins C dx [])) (fun v H2 => v = .non ∧ Q (.ref x) H2) E

/-- how the parameters are bound: us the positional arguments, kw the keywords' values by name, ds the defaults that fill up -/
noncomputable def Binds (K : PySem.W.Frag) (fd : FuncData) (ps : List Str) (ds : List Value) : Prop :=
  ∀ (s : Shared) (us : List Value), K.In s.heap → (us ++ ds).length = ps.length → BindsTo s fd ⟨us, []⟩ (ps.zip (us ++ ds))
/-- every parameter is given -/
theorem Binds.all {K : PySem.W.Frag} {fd : FuncData} {ps : List Str} (h : ∀ us : List Value, us.length = ps.length → bindArgs fd ⟨us, []⟩ = pure (ps.zip us)) : Binds K fd ps [] := fun s us _ hl => by
  rw [List.append_nil] at hl ⊢
  exact .of_eq (h us hl)

/-- an exception of a callee reaches what this body wants of exceptions -/
noncomputable def Passes (CX : CXT) (X : Cx) (E : XK) : Prop := ∀ (pins : List (Addr × Obj)) (σ : St) (H : Hp) (s : Shared) (e : Value) (s' : Shared), Inv X pins σ H s → CX X.stack H s E e s' → X.xe e s'

section
variable {X : Cx} {CX : CXT} {k : Nat} {f C : Addr} {fd : FuncData} {ps : List Str} {sp : Sp} {dvs : List V} {ds : List Value} {E : XK} {x m : Str} {p pos apos : Pos} {e o : Expr} {es : List Expr} {ta : TE} {t : TA}

/-- the callee runs -/
theorem run_fn {pins : List (Addr × Obj)} {σ : St} {H : Hp} {s : Shared} {Q : VK} {us : List Value} {vs : List V} (F : FnOk X.prog X.w X.K X.mg X.base CX k f fd ps sp) (hr : Room k X.A) (hb : Binds X.K fd ps ds) (hd : Vals dvs ds) (hx : Passes CX X E)
    (I : Inv X pins σ H s) (r : Vals vs us) (h : sp (vs ++ dvs) H Q E) : wpAny (model X.prog X.w) X.A (call (.ref f) us) (EP X pins σ Q) X.xe s := by
  have r2 : Vals (vs ++ dvs) (us ++ ds) := r.append hd
  have hl : (us ++ ds).length = ps.length := by rw [← r2.length]; exact F.len _ _ _ _ h
  refine wpAny_call (codeAny_mono (F.run X.A X.stack s H ⟨us, []⟩ (us ++ ds) (vs ++ dvs) Q E hr I.env0 (hb s us I.kIn hl) r2 h) fun r s' hq => ?_)
  cases r with
  | error e => exact hx pins σ H s e s' I hq
  | ok fl =>
    cases fl with
    | ret u => exact I.after hq
    | next => exact False.elim hq
    | brk => exact False.elim hq
    | cont => exact False.elim hq

theorem pe_call (F : FnOk X.prog X.w X.K X.mg X.base CX k f fd ps sp) (hr : Room k X.A) (hg : Gl X x) (hm : X.mg x = some (.ref f)) (hk : PySem.W.keepIn X.K (.ref f) = true) (hb : Binds X.K fd ps ds) (hd : Vals dvs ds) (hx : Passes CX X E)
    (ha : PA X (e :: es) t) (hdb : (x == ("__debug__" : Str)) = false := by decide) (he : starEach (e :: es) X.env = (false, eval e X.env) :: starEach es X.env := by rfl) (hpl : (backTo pos (starEach es X.env)).any (·.1) = false := by rfl) :
    PE X (.Call (.Name x p) (e :: es) [] pos) (tCall sp dvs E t) := by
  intro pins s σ H Q I h
  refine wpAny_Call_Name_kw (ld_glob I hg hm ?_ hdb)
  refine PySem.W.callWith_K (h₀ := X.base) I.ok.mod.kin hk (thn (ha pos pins s σ H _ I h) fun us s1 ⟨vs, H1, I1, r, q⟩ => ⟨I1.kIn, ?_⟩) he hpl
  exact run_fn F hr hb hd hx I1 r q
/-- what a class must have to be made -/
structure Mk (K : PySem.W.Frag) (C f : Addr) : Prop where
  makes : PySem.W.makesIn K C = true
  init : PySem.W.findIn K (.ref C) "__init__" = some (some (.ref f))
  fn : PySem.W.isFn K (.ref f) = true
  kp : PySem.W.keepIn K (.ref C) = true

end

/-! ### keywords -/
/-- the values of the keywords, from the left -/
noncomputable def PK (X : Cx) (kws : List Keyword) (t : TA) : Prop :=
  ∀ (pos : Pos) (pins : List (Addr × Obj)) (s : Shared) (σ : St) (H : Hp) (Q : List V → Hp → Prop), Inv X pins σ H s → t σ H Q → wpAny (model X.prog X.w) X.A (evalAll ((backToKw pos (keywordEach kws X.env)).map (·.2))) (AP X pins σ Q) X.xe s
section
variable {X : Cx} {CX : CXT} {k : Nat} {f C : Addr} {fd : FuncData} {ps ks : List Str} {sp : Sp} {E : XK} {x m : Str} {p pos apos kpos : Pos} {e o : Expr} {es : List Expr} {kws : List Keyword} {te ta : TE} {t tk : TA} {nm : Option Str}
/-- how a call with keywords binds: g puts the positional values us and the keywords' values ws (names ks) in the parameters' order, defaults among them -/
structure KBinds (K : PySem.W.Frag) (fd : FuncData) (ps ks : List Str) (g : List Value → List Value → List Value) (gV : List V → List V → List V) : Prop where
  to : ∀ (s : Shared) (us ws : List Value), K.In s.heap → (g us ws).length = ps.length → BindsTo s fd ⟨us, ks.zip ws⟩ (ps.zip (g us ws))
  rel : ∀ {vs : List V} {us : List Value} {zs : List V} {ws : List Value}, Vals vs us → Vals zs ws → Vals (gV vs zs) (g us ws)
noncomputable def tCallK (sp : Sp) (gV : List V → List V → List V) (E : XK) (t tk : TA) : TE := fun σ H Q => t σ H fun vs H1 => tk σ H1 fun zs H2 => sp (gV vs zs) H2 Q E
variable {g : List Value → List Value → List Value} {gV : List V → List V → List V}
end

/-! ### a def's body keeps its promise -/
/-- names: the parameters first -/
structure FnScope (N P : List Str) (sc : Scope) : Prop where
  kind : sc.kind = .function
  co : sc.isCoroutine = false
  gen : sc.isGenerator = false
  nd : N.Nodup
  pre : N.take P.length = P
  par : ∀ x ∈ P, sc.names.lookup x = some .local ∨ sc.names.lookup x = some .cell
  nofree : ∀ y ∈ sc.names, y.2 ≠ .free

theorem bindL_out {kindOf : Str → Option NameKind} {x : Str} : ∀ {binds : List (Str × Value)} {m : Str → Option Value}, (∀ v, (x, v) ∉ binds) → bindL kindOf binds m x = m x
  | [], _, _ => rfl
  | (n, v) :: r, m, h => by
    unfold bindL
    rw [bindL_out fun w hw => h w (List.mem_cons_of_mem _ hw)]
    split
    · have : x ≠ n := by rintro rfl; exact h v List.mem_cons_self
      simp [this]
    · rfl
theorem bindC_out {kindOf : Str → Option NameKind} {x : Str} : ∀ {binds : List (Str × Value)} {m : Str → Option Value}, (∀ v, (x, v) ∉ binds) → bindC kindOf binds m x = m x
  | [], _, _ => rfl
  | (n, v) :: r, m, h => by
    unfold bindC
    rw [bindC_out fun w hw => h w (List.mem_cons_of_mem _ hw)]
    split
    · rfl
    · have : x ≠ n := by rintro rfl; exact h v List.mem_cons_self
      simp [this]
theorem bindL_get {kindOf : Str → Option NameKind} {x : Str} {v : Value} : ∀ {P : List Str} {vs : List Value} {i : Nat} {m : Str → Option Value}, P.Nodup → P[i]? = some x → vs[i]? = some v → kindOf x = some .local →
    bindL kindOf (P.zip vs) m x = some v
  | [], _, _, _, _, h, _, _ => by simp at h
  | _ :: _, [], _, _, _, _, h, _ => by simp at h
  | p :: P, w :: vs, 0, m, nd, h1, h2, hk => by
    simp at h1 h2; subst h1; subst h2
    show bindL kindOf ((p, w) :: P.zip vs) m p = _
    unfold bindL
    rw [bindL_out fun v hv => (List.nodup_cons.mp nd).1 (List.of_mem_zip hv).1, if_pos hk]
    simp
  | p :: P, w :: vs, i + 1, m, nd, h1, h2, hk => by
    show bindL kindOf ((p, w) :: P.zip vs) m x = _
    unfold bindL
    exact bindL_get (i := i) (List.nodup_cons.mp nd).2 (by simpa using h1) (by simpa using h2) hk
theorem bindC_get {kindOf : Str → Option NameKind} {x : Str} {v : Value} : ∀ {P : List Str} {vs : List Value} {i : Nat} {m : Str → Option Value}, P.Nodup → P[i]? = some x → vs[i]? = some v → kindOf x ≠ some .local →
    bindC kindOf (P.zip vs) m x = some v
  | [], _, _, _, _, h, _, _ => by simp at h
  | _ :: _, [], _, _, _, _, h, _ => by simp at h
  | p :: P, w :: vs, 0, m, nd, h1, h2, hk => by
    simp at h1 h2; subst h1; subst h2
    show bindC kindOf ((p, w) :: P.zip vs) m p = _
    unfold bindC
    rw [bindC_out fun v hv => (List.nodup_cons.mp nd).1 (List.of_mem_zip hv).1, if_neg hk]
    simp
  | p :: P, w :: vs, i + 1, m, nd, h1, h2, hk => by
    show bindC kindOf ((p, w) :: P.zip vs) m x = _
    unfold bindC
    exact bindC_get (i := i) (List.nodup_cons.mp nd).2 (by simpa using h1) (by simpa using h2) hk

/-- the names' values at the entry -/
noncomputable def start (N : List Str) (vs : List V) : St := vs.map some ++ List.replicate (N.length - vs.length) none

/-- the context of a def's body, at its entry; an exception leaves the frame, then lies as CX says -/
noncomputable def cxOf (CX : CXT) (P : Program) (w : World) (K : PySem.W.Frag) (mg : Str → Option Value) (base : Heap) (N : List Str) (qual : Str) (scope : Scope) (f : Addr) (cd : Value) (A : Around) (outer : List Env) (s : Shared) (H : Hp) (E : XK) : Cx where
  prog := P
  w := w
  K := K
  mg := mg
  base := base
  A := A.deeper (envOfC qual scope s.heap.objs.size f cd)
  N := N
  s₀ := s
  H₀ := H
  env := envOfC qual scope s.heap.objs.size f cd
  outer := outer
  stack := envOfC qual scope s.heap.objs.size f cd :: outer
  ex := []
  calm := true
  fn := fun _ => true
  pn := []
  xe := fun e s' => wpAny (model P w) (A.deeper (envOfC qual scope s.heap.objs.size f cd)) (leaving (envOfC qual scope s.heap.objs.size f cd) e) (fun _ s'' => CX outer H s E e s'') (fun e' s'' => CX outer H s E e' s'') s'

theorem cell_has {sc : Scope} {n : Nat} {x : Str} (h : sc.names.lookup x = some .cell) : ∃ c, (cellsFrom n sc.names []).lookup x = some c := by
  have q := PySem.W.cellsFrom_some sc.names n [] (.inl h)
  exact Option.isSome_iff_exists.mp q

theorem inv_start {CX : CXT} {P : Program} {w : World} {K : PySem.W.Frag} {mg : Str → Option Value} {base : Heap} {N ps : List Str} {qual : Str} {scope : Scope} {f : Addr} {cd : Value} {A : Around} {outer : List Env} {s s1 : Shared} {H : Hp} {E : XK} {us : List Value} {vs : List V}
    (S : FnScope N ps scope) (hd : A.handled = none) (e0 : Env0 P w K mg base A outer s H) (hl : vs.length = ps.length) (r : Vals vs us)
    (x : InCallC s s.heap.objs.size (bindL (envOfC qual scope s.heap.objs.size f cd).kindOf (ps.zip us) fun _ => none) (cellsFrom (s.heap.objs.size + 1) scope.names []) (bindC (envOfC qual scope s.heap.objs.size f cd).kindOf (ps.zip us) fun _ => none) s1) :
    Inv (cxOf CX P w K mg base N qual scope f cd A outer s H E) [] (start N vs) H s1 := by
  have hpl : ps.length ≤ N.length := by have := congrArg List.length S.pre; rw [List.length_take] at this; (first | lia | omega)
  obtain ⟨h1, tk, rfl, hk⟩ := x.done
  have noA : ∀ b : Addr, b ∉ (cxOf CX P w K mg base N qual scope f cd A outer s H E).ex := fun b z => absurd (show b ∈ ([] : List Addr) from z) (by simp)
  refine ⟨⟨e0.mod, S.kind, rfl, rfl, Nat.le_refl _, fun y z c h1 h2 => ?_, fun y hy => ?_, fun y c _ h => ?_, fun _ => hd, Around.frames_deeper e0.frames, .inr ⟨rfl, rfl⟩, fun b z => absurd z (noA b), e0.bs, e0.bsz, fun b _ _ => noA b, fun b z => absurd z (noA b), e0.funs, e0.frf⟩,
    rfl, e0.bare, Un.kept hk, ⟨_, x.toInCall.ns, fun i y v h1 h2 h3 => ?_⟩, fun y c h => ⟨_, x.cell y c h⟩, e0.hok.fresh (Nat.le_refl _), fun y c h => ?_, fun p hp => absurd (show p ∈ ([] : List (Addr × Obj)) from hp) (by simp), e0.hok.kept hk, ?_⟩
  · exact name_of_addr x.apart (PySem.mem_of_lookup h1) (PySem.mem_of_lookup h2)
  · have hy : scope.names.lookup y = some .cell ∨ scope.names.lookup y = some .free := hy
    rcases hy with hy | hy
    · exact cell_has hy
    · exact absurd rfl (S.nofree _ (PySem.mem_of_lookup hy))
  · exact Nat.le_of_lt (x.above y c (PySem.mem_of_lookup h))
  · have hi : i < vs.length := by
      unfold start at h2
      by_cases hi : i < vs.length
      · exact hi
      · rw [List.getElem?_append_right (by simpa using hi)] at h2
        rw [List.getElem?_replicate] at h2
        split at h2 <;> cases h2
    have ha : vs[i]? = some v := by
      unfold start at h2
      rw [List.getElem?_append_left (by simpa using hi), List.getElem?_map] at h2
      cases e : vs[i]? with
      | none => rw [e] at h2; cases h2
      | some a => rw [e] at h2; cases h2; rfl
    obtain ⟨u, hu, rv⟩ := r.get ha
    have hp : ps[i]? = some y := by
      rw [← S.pre, List.getElem?_take_of_lt (by (first | lia | omega))]; exact h1
    have ndP : ps.Nodup := by rw [← S.pre]; exact S.nd.sublist (List.take_sublist _ _)
    refine ⟨u, rv, ?_⟩
    rcases S.par y (List.mem_of_getElem? hp) with k | k
    · exact .inl ⟨k, bindL_get ndP hp hu k⟩
    · obtain ⟨c, e⟩ := cell_has (n := s.heap.objs.size + 1) k
      refine .inr ⟨.inl k, c, e, ?_⟩
      have q := x.cell y c e
      rw [bindC_get ndP hp hu (by show scope.names.lookup y ≠ _; rw [k]; decide)] at q
      exact q
  · exact e0.hok.fresh (Nat.le_of_lt (x.above y c (PySem.mem_of_lookup h)))
  · unfold start
    show _ = N.length
    rw [List.length_append, List.length_map, List.length_replicate]
    (first | lia | omega)

/-- THE RULE: a def (or a method) of the text, by its body. The body's reading t is chosen for each entry; it is run at the parameters' values -/
theorem fn_of {CX : CXT} {P : Program} {w : World} {K : PySem.W.Frag} {mg : Str → Option Value} {base : Heap} {k : Nat} {f : Addr} {name qual : Str} {params : Arguments} {body : List Stmt} {scope : Scope} {dV kV doc pm cdv ct oc : Value} {an od : Option Addr}
    {osl : Array (Option Value)} {N ps : List Str} {sp : Sp} (lk : K.lookup f = some ⟨oc, od, .func (PySem.W.fnOf name qual params body scope dV kV doc pm an cdv ct), osl⟩) (hcd : PySem.W.codeIn K cdv qual = true) (S : FnScope N ps scope)
    (len : ∀ vs H Q E, sp vs H Q E → vs.length = ps.length)
    (hbody : ∀ (A : Around) (outer : List Env) (s : Shared) (H : Hp) (vs : List V) (Q : VK) (E : XK), Room k (A.deeper (envOfC qual scope s.heap.objs.size f cdv)) → sp vs H Q E →
      ∃ t, PSs (cxOf CX P w K mg base N qual scope f cdv A outer s H E) body t ∧ t { nx := fun _ H' => Q .non H', rt := Q } (start N vs) H) :
    FnOk P w K mg base CX (k + 1) f (PySem.W.fnOf name qual params body scope dV kV doc pm an cdv ct) ps sp := by
  refine ⟨len, fun A outer s H args us vs Q E hr e0 hb r hsp => ?_⟩
  have hl := len _ _ _ _ hsp
  have KX : K.In s.heap := e0.mod.kin.keeps fun b o e => (e0.bs b o e).1
  have lim : s.heap.NoLimit := e0.mod.nolimit.keeps fun b o e => (e0.bs b o e).1
  have hkind : ∀ y ∈ ps.zip us, scope.names.lookup y.1 = some .local ∨ (scope.names.lookup y.1 = some .cell ∧ ((cellsFrom (s.heap.objs.size + 1) scope.names []).lookup y.1).isSome = true) := fun ⟨n, v⟩ hy => by
    rcases S.par n (List.of_mem_zip hy).1 with q | q
    · exact .inl q
    · exact .inr ⟨q, PySem.W.cellsFrom_some _ _ _ (.inl q)⟩
  refine codeAny_call_function hr.depth (KX _ _ lk) rfl S.co S.gen rfl (PySem.W.codeRec_of KX hcd) (hb _ _ _ _ ?_)
  refine wpAny_newFunctionEnv_cells S.kind hkind fun env he s1 x => ?_
  subst he
  refine ⟨lim.keeps x.toInCall.keep, codeAny_func ?_⟩
  obtain ⟨t, ht, hq⟩ := hbody A outer s H vs Q E (hr.deeper _) hsp
  have I : Inv (cxOf CX P w K mg base N qual scope f cdv A outer s H E) [] (start N vs) H s1 := inv_start S hr.hd e0 hl r x
  refine wpAny_mono (ht [] s1 (start N vs) H _ I hq) (fun fl s' hs => ?_) fun e s' hs => hs
  have fin : ∀ {σ' : St} {H' : Hp} {v : V} {u : Value}, Inv (cxOf CX P w K mg base N qual scope f cdv A outer s H E) [] σ' H' s' → RelV v u → Q v H' → CE outer P w H s Q u s' :=
    fun {σ' H' v u} J rv q => ⟨v, H', J.os, J.bare, J.base, J.hok, rv, q⟩
  cases fl with
  | ret u =>
    obtain ⟨v, σ', H', J, rv, q⟩ := hs
    exact fin J rv q
  | next =>
    obtain ⟨σ', H', J, q⟩ := hs
    exact fin (v := V.non) (u := Value.none) J rfl q
  | brk =>
    obtain ⟨_, _, _, q⟩ := hs
    exact False.elim q
  | cont =>
    obtain ⟨_, _, _, q⟩ := hs
    exact False.elim q
end L2

namespace L2
open PySem PySem.Spec PyProof.Rows
section
variable {X : Cx} {x : Str} {p pos : Pos} {e : Expr} {es : List Expr} {t : TA} {id T : String} {r : List V → Hp → VK → Prop}

noncomputable def tCB (r : List V → Hp → VK → Prop) (t : TA) : TE := fun σ H Q => t σ H fun vs H1 => r vs H1 Q
/-- f(e, ..), f a built-in function -/
theorem pe_callB (hc : CallR X (.builtin id) r) (hg : Gl X x) (hm : X.mg x = none) (hv : bootBuiltins x = some (.builtin id)) (ha : PA X (e :: es) t) (hn : x ≠ "__name__" := by decide) (hdb : (x == ("__debug__" : Str)) = false := by decide)
    (he : starEach (e :: es) X.env = (false, eval e X.env) :: starEach es X.env := by rfl) (hpl : (backTo pos (starEach es X.env)).any (·.1) = false := by rfl) : PE X (.Call (.Name x p) (e :: es) [] pos) (tCB r t) := by
  intro pins s σ H Q I h
  refine wpAny_Call_Name_kw (ld_blt I hg hm hv ?_ hn hdb)
  exact PyProof.Rows.callWith_builtin1 (thn (ha pos pins s σ H _ I h) fun us s1 ⟨vs, H1, I1, r1, q1⟩ => hc pins s1 σ H1 vs us Q I1 r1 q1) he hpl
/-- T(e, ..), T a built-in type -/
theorem pe_callTy (hc : CallR X (.type T) r) (hg : Gl X x) (hm : X.mg x = none) (hv : bootBuiltins x = some (.type T)) (ha : PA X (e :: es) t) (hn : x ≠ "__name__" := by decide) (hdb : (x == ("__debug__" : Str)) = false := by decide)
    (he : starEach (e :: es) X.env = (false, eval e X.env) :: starEach es X.env := by rfl) (hpl : (backTo pos (starEach es X.env)).any (·.1) = false := by rfl) : PE X (.Call (.Name x p) (e :: es) [] pos) (tCB r t) := by
  intro pins s σ H Q I h
  refine wpAny_Call_Name_kw (ld_blt I hg hm hv ?_ hn hdb)
  exact PyProof.Rows.callWith_type1 (thn (ha pos pins s σ H _ I h) fun us s1 ⟨vs, H1, I1, r1, q1⟩ => hc pins s1 σ H1 vs us Q I1 r1 q1) he hpl
end
end L2

namespace HT
open PySem PyProof.Rows

/-- t < u of tuples of ints -/
noncomputable def lexLt : List Int → List Int → Bool
  | [], [] => false
  | [], _ :: _ => true
  | _ :: _, [] => false
  | x :: xs, y :: ys => if x = y then lexLt xs ys else decide (x < y)
section
open PySem.SeqAt
open PySem.AutoSeq1 (wpAny_loadPart')
open PySem.MeetsSeq PySem.MeetsSeq2 PySem.MeetsSeq3

end

section
variable {prog : Program} {w : World} {A : Around} {E : Value → Shared → Prop} {s : Shared}

/-! ### t[a:b], not the whole -/
/-- a slice's bound as a place among n (d where it is left out) -/
noncomputable def sIx (n d : Nat) : Option Int → Nat
  | none => d
  | some v => if v < 0 then (v + (n : Int)).toNat else min v.toNat n
theorem sIx_none (n d : Nat) : sIx n d none = d := rfl
theorem sIx_nat (n d k : Nat) : sIx n d (some (k : Int)) = min k n := by
  show (if (k : Int) < 0 then ((k : Int) + (n : Int)).toNat else min (k : Int).toNat n) = min k n
  rw [if_neg (by (first | lia | omega)), Int.toNat_natCast]
end
end HT

namespace L2
open PySem PySem.Spec PyProof.Rows

/-! ### the parts of a slice -/
noncomputable abbrev TO := St → Hp → (Option Int → Hp → Prop) → Prop
/-- a slice's part (left out, or an int) -/
noncomputable def PO (X : Cx) (e : Option Expr) (t : TO) : Prop :=
  ∀ (pins : List (Addr × Obj)) (s : Shared) (σ : St) (H : Hp) (Q : Option Int → Hp → Prop), Inv X pins σ H s → t σ H Q →
    wpAny (model X.prog X.w) X.A (evalPart e X.env) (fun u s' => ∃ o H', Inv X pins σ H' s' ∧ IsPart u o ∧ Q o H') X.xe s
noncomputable def tNoPart : TO := fun _ H Q => Q none H
noncomputable def tPart (t : TE) : TO := fun σ H Q => t σ H fun x H1 => ∃ i, x = .int i ∧ Q (some i) H1

theorem intsAre_of {ns : List Int} : ∀ {us : List Value}, Vals (ns.map V.int) us → IntsAre us ns := by
  induction ns with
  | nil => intro us r; rw [List.map_nil] at r; cases r; exact .nil
  | cons n ns ih =>
    intro us r
    rw [List.map_cons] at r
    cases r with
    | cons r1 r2 =>
      obtain ⟨t, e⟩ := r1
      subst e
      exact .cons n t (ih r2)

section
variable {X : Cx} {e : Expr} {te : TE} {lo hi : Option Expr} {tl th : TO} {pos p2 : Pos}

theorem po_none : PO X none tNoPart := by
  intro pins s σ H Q I h
  rw [evalPart_none]
  exact wpAny_pure ⟨none, H, I, .none, h⟩
theorem po_some (h : PE X e te) : PO X (some e) (tPart te) := by
  intro pins s σ H Q I hw
  rw [evalPart_some]
  refine thn (h pins s σ H _ I hw) fun u s1 ⟨x, H1, I1, r1, q1⟩ => ?_
  obtain ⟨i, rfl, q⟩ := q1
  obtain ⟨t, rfl⟩ := r1
  exact ⟨some i, H1, I1, .int i t, q⟩

/-- what a slice of a value is, by values: the slice object stands at sl -/
noncomputable def SlR (X : Cx) (r : V → Option Int → Option Int → Hp → VK → Prop) : Prop :=
  ∀ (pins : List (Addr × Obj)) (s : Shared) (σ : St) (H : Hp) (x : V) (v vl vu : Value) (lo hi : Option Int) (sl : Addr) (Q : VK), Inv X pins σ H s → RelV x v → s.heap.IsSliceOf sl vl vu .none → IsPart vl lo → IsPart vu hi → r x lo hi H Q →
    ∃ T id, typeLookup (.type T) "__getitem__" = pure (some (.builtin id)) ∧ s.TypeIs v T ∧ wpAny (model X.prog X.w) X.A (getItem v (.ref sl)) (EP X pins σ Q) X.xe s
noncomputable def tSl (r : V → Option Int → Option Int → Hp → VK → Prop) (te : TE) (tl th : TO) : TE := fun σ H Q => te σ H fun x H1 => tl σ H1 fun l H2 => th σ H2 fun u H3 => r x l u H3 Q
/-- a[lo:hi], any a -/
theorem pe_slice {r : V → Option Int → Option Int → Hp → VK → Prop} (hr : SlR X r) (he : PE X e te) (hl : PO X lo tl) (hu : PO X hi th) : PE X (.Subscript e (.Slice lo hi none p2) pos) (tSl r te tl th) := by
  intro pins s σ H Q I h
  refine Subscript_ (thn (he pins s σ H _ I h) fun v s1 ⟨x, H1, I1, r1, q1⟩ => ?_)
  refine wpAny_Slice (thn (hl pins s1 σ H1 _ I1 q1) fun vl s2 ⟨l, H2, I2, pl, q2⟩ => thn (hu pins s2 σ H2 _ I2 q2) fun vu s3 ⟨u, H3, I3, pu, q3⟩ => ?_)
  rw [evalPart_none]
  refine wpAny_pure ?_
  have I4 : Inv X pins σ H3 { s3 with heap := s3.heap.push { cls := .type "slice", data := .fields #[vl, vu, .none] } } := I3.kept (t' := s3.toks) fun b ob q => Heap.get?_push_of_some _ q
  obtain ⟨T, id, hT, ht, hg⟩ := hr pins { s3 with heap := s3.heap.push { cls := .type "slice", data := .fields #[vl, vu, .none] } } σ H3 x v vl vu l u s3.heap.objs.size Q I4 r1 (Heap.IsSliceOf.new ..) pl pu q3
  show wpAny (model X.prog X.w) X.A (subscriptTail e (.Slice lo hi none p2) v (.ref s3.heap.objs.size)) (EP X pins σ Q) X.xe { s3 with heap := s3.heap.push { cls := .type "slice", data := .fields #[vl, vu, .none] } }
  exact tail_any (ops := [.ref s3.heap.objs.size, v]) ht hT hg (by with_unfolding_all rfl)

/-- the items of xs[lo:hi] -/
noncomputable def cutV (xs : List V) (lo hi : Option Int) : List V := (xs.drop (HT.sIx xs.length 0 lo)).take (HT.sIx xs.length xs.length hi - HT.sIx xs.length 0 lo)
theorem cutV_length (xs : List V) (lo hi : Option Int) : (cutV xs lo hi).length ≤ xs.length := by
  unfold cutV
  rw [List.length_take, List.length_drop]
  (first | lia | omega)
/-- t[lo:hi], not the whole of it (the whole would be t itself) -/
noncomputable def rSlT (K : PySem.W.Frag) : V → Option Int → Option Int → Hp → VK → Prop := fun x lo hi H Q => ∃ a xs, x = .ref a ∧ SqT K H a xs ∧
  ¬ (HT.sIx xs.length 0 lo = 0 ∧ HT.sIx xs.length xs.length hi = xs.length) ∧ ∀ p, H p = none → Q (.ref p) (upd H p (.tup (cutV xs lo hi)))
/-! ### t < u, t + u -/
noncomputable def rLtT (K : PySem.W.Frag) : R2 := fun x y H Q => ∃ a b ns ms, x = .ref a ∧ y = .ref b ∧ SqT K H a (ns.map V.int) ∧ SqT K H b (ms.map V.int) ∧ Q (.bl (HT.lexLt ns ms)) H
/-- t + u, t not empty: u empty gives t itself -/
noncomputable def rCatT (K : PySem.W.Frag) : R2 := fun x y H Q => ∃ a b xs ys, x = .ref a ∧ y = .ref b ∧ SqT K H a xs ∧ SqT K H b ys ∧ xs ≠ [] ∧ xs.length + ys.length ≤ sizeLine ∧
  (ys = [] → Q (.ref a) H) ∧ (ys ≠ [] → ∀ p, H p = none → Q (.ref p) (upd H p (.tup (xs ++ ys))))
end
end L2

namespace L2
open PySem PySem.Spec PyProof.Rows

/-! ### places -/
/-- the place that an index of any sign means -/
noncomputable def ixN (n : Nat) (i : Int) : Option Nat := if 0 ≤ i then (if i < n then some i.toNat else none) else if -(n : Int) ≤ i then some (i + n).toNat else none
noncomputable def atI {α : Type} (xs : List α) (i : Int) : Option α := (ixN xs.length i).bind fun j => xs[j]?
theorem ixN_seq {n : Nat} {i : Int} {j : Nat} (h : ixN n i = some j) : seqIndex? i n = some j ∧ j < n ∧ -(n : Int) ≤ i ∧ i < n := by
  unfold ixN at h
  by_cases h0 : 0 ≤ i
  · rw [if_pos h0] at h
    by_cases h1 : i < n
    · rw [if_pos h1] at h
      have e : i.toNat = j := Option.some.inj h
      exact ⟨by rw [seqIndex_of h0 h1, e], by (first | lia | omega), by (first | lia | omega), h1⟩
    · rw [if_neg h1] at h; cases h
  · rw [if_neg h0] at h
    by_cases h1 : -(n : Int) ≤ i
    · rw [if_pos h1] at h
      have e : (i + n).toNat = j := Option.some.inj h
      exact ⟨by rw [seqIndex_neg (by (first | lia | omega)) h1, e], by (first | lia | omega), h1, by (first | lia | omega)⟩
    · rw [if_neg h1] at h; cases h
theorem atI_get {α : Type} {xs : List α} {i : Int} {v : α} (h : atI xs i = some v) : ∃ j, seqIndex? i xs.length = some j ∧ xs[j]? = some v ∧ j < xs.length ∧ -(xs.length : Int) ≤ i ∧ i < xs.length := by
  unfold atI at h
  cases e : ixN xs.length i with
  | none => rw [e] at h; cases h
  | some j =>
    rw [e] at h
    obtain ⟨h1, h2, h3, h4⟩ := ixN_seq e
    exact ⟨j, h1, h, h2, h3, h4⟩
theorem atI_nat {α : Type} {xs : List α} {j : Nat} {v : α} (h : xs[j]? = some v) : atI xs (j : Int) = some v := by
  have hj : j < xs.length := (List.getElem?_eq_some_iff.mp h).1
  have e : ixN xs.length (j : Int) = some j := by
    unfold ixN
    rw [if_pos (by (first | lia | omega)), if_pos (by (first | lia | omega))]; simp
  unfold atI; rw [e]; exact h
/-! ### what may be subscripted -/
/-- what stands as an index of a plain subscript -/
noncomputable def PlainIx (b : Expr) : Prop := ∀ o i, subscripted b false o i = operate [o, i] (getItem o i)
/-- a subscript by values -/
noncomputable def IxR (X : Cx) (r : R2) : Prop :=
  ∀ (value slice : Expr) (pins : List (Addr × Obj)) (s : Shared) (σ : St) (H : Hp) (x y : V) (v u : Value) (Q : VK), Inv X pins σ H s → RelV x v → RelV y u → r x y H Q →
    subscripted slice false v u = operate [v, u] (getItem v u) → wpAny (model X.prog X.w) X.A (subscriptTail value slice v u) (EP X pins σ Q) X.xe s
/-- a call of a builtin's method by values: the receiver, the arguments -/
noncomputable def MtR (X : Cx) (id : String) (r : V → List V → Hp → VK → Prop) : Prop :=
  ∀ (pins : List (Addr × Obj)) (s : Shared) (σ : St) (H : Hp) (x : V) (xs : List V) (v : Value) (us : List Value) (Q : VK), Inv X pins σ H s → RelV x v → Vals xs us → r x xs H Q →
    wpAny (model X.prog X.w) X.A (call (.builtin id) (v :: us)) (EP X pins σ Q) X.xe s
section
variable {X : Cx} {a b : Expr} {ta tb : TE} {pos : Pos}
/-- a[b] -/
theorem pe_ix {r : R2} (hr : IxR X r) (ha : PE X a ta) (hb : PE X b tb) (hs : PlainIx b) : PE X (.Subscript a b pos) (tOp r ta tb) := by
  intro pins s σ H Q I h
  exact Subscript_ (binT ha hb I h fun v u s2 x y H2 I2 rx ry q => hr a b pins s2 σ H2 x y v u Q I2 rx ry q (hs _ _))

noncomputable def rIxL (K : PySem.W.Frag) : R2 := fun x y H Q => ∃ p xs i v, x = .ref p ∧ y = .int i ∧ SqL K H p xs ∧ atI xs i = some v ∧ Q v H
noncomputable def rIxT (K : PySem.W.Frag) : R2 := fun x y H Q => ∃ p xs i v, x = .ref p ∧ y = .int i ∧ SqT K H p xs ∧ atI xs i = some v ∧ Q v H
noncomputable def rIxS : R2 := fun x y H Q => ∃ z i c, x = .str z ∧ y = .int i ∧ z.length ≤ sizeLine ∧ atI z.cps.toList i = some c ∧ Q (.str ⟨#[c]⟩) H
theorem ix_list : IxR X (rIxL X.K) := by
  intro value slice pins s σ H x y v u Q I rx ry h hs
  obtain ⟨p, xs, i, z, rfl, rfl, hq, he, q⟩ := h
  cases rx
  obtain ⟨t, rfl⟩ := ry
  obtain ⟨its, r, pl, hz⟩ := I.list hq
  obtain ⟨j, h1, h2, h3, h4, h5⟩ := atI_get he
  obtain ⟨w, ew, rw'⟩ := r.get h2
  have hl := r.length
  have hn := line63
  have fin : EP X pins σ Q w s := ⟨z, H, I, rw', q⟩
  by_cases h0 : 0 ≤ i
  · have hj : i.toNat = j := by
      rw [seqIndex_of h0 h5] at h1
      exact Option.some.inj h1
    exact item_listR pl.isList h0 (by (first | lia | omega)) (by rw [hj]; simpa using ew) fin hs
  · have hj : (i + (its.toArray.size : Int)).toNat = j := by
      rw [seqIndex_neg (by (first | lia | omega)) h4] at h1
      rw [List.size_toArray, ← hl]
      exact Option.some.inj h1
    exact subscriptTail_builtinR (x := w) pl.isList.typeIs slot_list_getitem.lookup
      (wpAny_getItem_list_neg (Q := fun r s' => r = w ∧ EP X pins σ Q r s') pl.isList (by (first | lia | omega)) (by rw [List.size_toArray] <;> (first | lia | omega)) (by (first | lia | omega)) (by rw [hj]; simpa using ew) ⟨rfl, fin⟩) hs
theorem ix_tup : IxR X (rIxT X.K) := by
  intro value slice pins s σ H x y v u Q I rx ry h hs
  obtain ⟨p, xs, i, z, rfl, rfl, hq, he, q⟩ := h
  cases rx
  obtain ⟨t, rfl⟩ := ry
  obtain ⟨its, r, pl, hz⟩ := I.tuple hq
  obtain ⟨j, h1, h2, h3, h4, h5⟩ := atI_get he
  obtain ⟨w, ew, rw'⟩ := r.get h2
  have hl := r.length
  have hn := line63
  have fin : EP X pins σ Q w s := ⟨z, H, I, rw', q⟩
  exact subscriptTail_builtinR (x := w) pl.typeIs slot_tuple_getitem.lookup
    (getItem_tuple (j := j) (Q := fun r s' => r = w ∧ EP X pins σ Q r s') pl (by (first | lia | omega)) (by (first | lia | omega)) (by rw [List.size_toArray, ← hl]; exact h1) (by simpa using ew) ⟨rfl, fin⟩) hs
/-- list, tuple or str -/
noncomputable def rIx (K : PySem.W.Frag) : R2 := fun x y H Q => rIxL K x y H Q ∨ rIxT K x y H Q ∨ rIxS x y H Q
/-! ### xs[i] = v, any sign -/
/-- the list's object behind a store -/
theorem mapSeq_set (its : List Value) (n j : Nat) (u : Value) : Obj.mapSeq (·.setIfInBounds j u) { cls := .type "list", data := .seq its.toArray n } = { cls := .type "list", data := .seq (its.set j u).toArray n } := by
  simp [Obj.mapSeq]
theorem Inv.lst {pins : List (Addr × Obj)} {σ : St} {H : Hp} {s : Shared} {p : Addr} {xs : List V} (I : Inv X pins σ H s) (h : H p = some (.lst xs)) :
    ∃ (its : List Value) (n : Nat), Vals xs its ∧ s.heap.get? p = some { cls := .type "list", data := .seq its.toArray n } ∧ xs.length ≤ sizeLine := by
  obtain ⟨z, its, n, r, e⟩ := I.hok p _ h
  exact ⟨its, n, r, e, z⟩
/-- the list at p is written by an update of its object -/
theorem Inv.lstUpd {pins : List (Addr × Obj)} {σ : St} {H : Hp} {s : Shared} {p : Addr} {xs ys : List V} {its its' : List Value} {n n' : Nat} {f : Obj → Obj} (I : Inv X pins σ H s) (h : H p = some (.lst xs))
    (ho : s.heap.get? p = some { cls := .type "list", data := .seq its.toArray n }) (hf : f { cls := .type "list", data := .seq its.toArray n } = { cls := .type "list", data := .seq its'.toArray n' }) (r : Vals ys its') (hz : ys.length ≤ sizeLine) (t : Nat) :
    Inv X pins σ (upd H p (.lst ys)) { s with heap := s.heap.update p f, toks := t } := by
  have e : (s.heap.update p f).get? p = some { cls := .type "list", data := .seq its'.toArray n' } := by
    rw [Heap.get?_update_self f ho (by rw [hf] <;> rfl), hf]
  refine I.write (x := p) (e := p) (by rw [h]; trivial) (.inl rfl) (fun b u hb q => (Heap.get?_update_other _ _ (Ne.symm hb)).trans q) ⟨_, e⟩ ?_
  exact ⟨hz, its', n', r, e⟩
noncomputable def rSetL : V → V → V → Hp → (Hp → Prop) → Prop := fun o i v H Q => ∃ p xs k j, o = .ref p ∧ i = .int k ∧ H p = some (.lst xs) ∧ ixN xs.length k = some j ∧ Q (upd H p (.lst (xs.set j v)))
theorem set_list : PSet X rSetL := by
  intro pins s σ H o i v ov iv u Q I ro ri rv h
  obtain ⟨p, xs, k, j, rfl, rfl, hp, hj, q⟩ := h
  cases ro
  obtain ⟨t, rfl⟩ := ri
  obtain ⟨its, n, r, ho, hz⟩ := I.lst hp
  obtain ⟨h1, h2, h3, h4⟩ := ixN_seq hj
  have hl := r.length
  have hn := line63
  have I' : Inv X pins σ (upd H p (.lst (xs.set j v))) { s with heap := s.heap.update p (Obj.mapSeq (·.setIfInBounds j u)) } :=
    I.lstUpd hp ho (mapSeq_set its n j u) (r.set rv j) (by rw [List.length_set]; exact hz) s.toks
  by_cases h0 : 0 ≤ k
  · have hk : k.toNat = j := by
      rw [seqIndex_of h0 h4] at h1
      exact Option.some.inj h1
    exact PySem.W.ki_setAt ho h0 (by (first | lia | omega)) (by rw [List.size_toArray, ← hl]; exact h4) (by rw [hk]; exact ⟨_, I', q⟩)
  · have hk : (k + (its.toArray.size : Int)).toNat = j := by
      rw [seqIndex_neg (by (first | lia | omega)) h3] at h1
      rw [List.size_toArray, ← hl]
      exact Option.some.inj h1
    exact PySem.W.ki_setBack ho (by (first | lia | omega)) (by rw [List.size_toArray, ← hl]; exact h3) (by (first | lia | omega)) (by rw [hk]; exact ⟨_, I', q⟩)

/-! ### slices -/
theorem slice_bounds (lo hi : Option Int) (n : Nat) : (sliceBounds lo hi none n).1 = ((HT.sIx n 0 lo : Nat) : Int) ∧ (sliceBounds lo hi none n).2.1 = ((HT.sIx n n hi : Nat) : Int) ∧ (sliceBounds lo hi none n).2.2 = 1 := by
  refine ⟨?_, ?_, rfl⟩
  · cases lo with
    | none => simp [sliceBounds, HT.sIx]
    | some i =>
      simp only [sliceBounds, HT.sIx, Option.getD_none, show (1 : Int) > 0 by decide, if_true]
      by_cases h : i < 0
      · simp only [h, if_true] <;> (first | lia | omega)
      · simp only [h, if_false] <;> (first | lia | omega)
  · cases hi with
    | none => simp [sliceBounds, HT.sIx]
    | some i =>
      simp only [sliceBounds, HT.sIx, Option.getD_none, show (1 : Int) > 0 by decide, if_true]
      by_cases h : i < 0
      · simp only [h, if_true] <;> (first | lia | omega)
      · simp only [h, if_false] <;> (first | lia | omega)
theorem slicePick_cut (its : List Value) (lo hi : Option Int) : slicePick its.toArray lo hi none = ((its.drop (HT.sIx its.length 0 lo)).take (HT.sIx its.length its.length hi - HT.sIx its.length 0 lo)).toArray := by
  obtain ⟨h1, h2, h3⟩ := slice_bounds lo hi its.toArray.size
  unfold slicePick
  rw [h1, h2, h3]
  simp only [sliceRange_one, pick_run, List.size_toArray] <;> rfl
/-- xs[lo:hi] of a list: a new list -/
noncomputable def rSlL (K : PySem.W.Frag) : V → Option Int → Option Int → Hp → VK → Prop := fun x lo hi H Q => ∃ a xs, x = .ref a ∧ SqL K H a xs ∧ ∀ p, H p = none → Q (.ref p) (upd H p (.lst (cutV xs lo hi)))
theorem sl_list : SlR X (rSlL X.K) := by
  intro pins s σ H x v vl vu lo hi sl Q I rx hs pl pu h
  obtain ⟨a, xs, rfl, hx, q⟩ := h
  cases rx
  obtain ⟨its, r, ht, hz⟩ := I.list hx
  have hlen := r.length
  refine ⟨"list", _, slot_list_getitem.lookup, ht.isList.typeIs, ?_⟩
  refine wpAny_getItem_list_slice ht.isList hs pl pu .none (by simp) ?_ (by rw [List.size_toArray] <;> (first | lia | omega))
  rw [slicePick_cut, ← hlen]
  refine ⟨.ref s.heap.objs.size, _, I.laid (t' := s.toks) (o := .lst (cutV xs lo hi)) (fun b ob q => Heap.get?_push_of_some _ q) (Nat.le_refl _) ?_, rfl, q _ (I.hok.fresh (Nat.le_refl _))⟩
  exact ⟨Nat.le_trans (cutV_length xs lo hi) hz, _, 0, (r.drop (HT.sIx xs.length 0 lo)).take (HT.sIx xs.length xs.length hi - HT.sIx xs.length 0 lo), Heap.get?_push_size _ rfl⟩

/-! ### in, not in: flat items -/
noncomputable def flatV : V → Bool
  | .non => true
  | .bl _ => true
  | .int _ => true
  | .str _ => true
  | _ => false
/-- == of flat values -/
noncomputable def eqV : V → V → Bool
  | .non, .non => true
  | .bl a, .bl b => a == b
  | .bl a, .int b => (if a then 1 else 0) == b
  | .int a, .bl b => a == (if b then 1 else 0)
  | .int a, .int b => a == b
  | .str a, .str b => a == b
  | _, _ => false
theorem eqAt_V {A : Around} {s : Shared} {y x : V} {u v : Value} (ry : RelV y u) (rx : RelV x v) (fy : flatV y = true) (fx : flatV x = true) : SeqAt.EqAt A s u v (eqV y x) := by
  cases y with
  | non =>
    cases ry
    cases x with
    | non => cases rx; exact SeqAt.EqAt.same _
    | bl b => cases rx; exact SeqAt.EqAt.none_bool b
    | int b => obtain ⟨t, rfl⟩ := rx; exact SeqAt.EqAt.none_int b t
    | str b => obtain ⟨t, rfl⟩ := rx; exact SeqAt.EqAt.none_str b t
    | _ => exact absurd (show false = true from fx) Bool.false_ne_true
  | bl a =>
    cases ry
    cases x with
    | non => cases rx; exact SeqAt.EqAt.bool_none a
    | bl b => cases rx; exact SeqAt.EqAt.bool_bool a b
    | int b => obtain ⟨t, rfl⟩ := rx; exact SeqAt.EqAt.bool_int a b t
    | str b => obtain ⟨t, rfl⟩ := rx; exact SeqAt.EqAt.bool_str a b t
    | _ => exact absurd (show false = true from fx) Bool.false_ne_true
  | int a =>
    obtain ⟨t', rfl⟩ := ry
    cases x with
    | non => cases rx; exact SeqAt.EqAt.int_none a t'
    | bl b => cases rx; exact SeqAt.EqAt.int_bool a t' b
    | int b => obtain ⟨t, rfl⟩ := rx; exact SeqAt.EqAt.int_int a t' b t
    | str b => obtain ⟨t, rfl⟩ := rx; exact SeqAt.EqAt.int_str a t' b t
    | _ => exact absurd (show false = true from fx) Bool.false_ne_true
  | str a =>
    obtain ⟨t', rfl⟩ := ry
    cases x with
    | non => cases rx; exact SeqAt.EqAt.str_none a t'
    | bl b => cases rx; exact SeqAt.EqAt.str_bool a t' b
    | int b => obtain ⟨t, rfl⟩ := rx; exact SeqAt.EqAt.str_int a t' b t
    | str b => obtain ⟨t, rfl⟩ := rx; exact SeqAt.EqAt.str_str a t' b t
    | _ => exact absurd (show false = true from fx) Bool.false_ne_true
  | _ => exact absurd (show false = true from fy) Bool.false_ne_true
/-- the items' answers, read off the values (a value's own answer does not lean on its token) -/
noncomputable def eqU (x : V) (u : Value) : Bool := match u with
  | .none => eqV .non x
  | .bool b => eqV (.bl b) x
  | .int i _ => eqV (.int i) x
  | .str z _ => eqV (.str z) x
  | _ => false
noncomputable def inV (x : V) (xs : List V) : Bool := xs.any fun y => eqV y x
/-- x in a list or tuple of flat items -/
noncomputable def rIn (K : PySem.W.Frag) (neg : Bool) : R2 := fun x y H Q => ∃ p xs, y = .ref p ∧ (SqL K H p xs ∨ SqT K H p xs) ∧ flatV x = true ∧ xs.all flatV = true ∧ Q (.bl (if neg then !inV x xs else inV x xs)) H
/-! ### len, list(x), tuple(x) of any list or tuple that is read -/
theorem call_len_seq : CallR X (.builtin "len") (fun xs H Q => ∃ p ys, xs = [.ref p] ∧ (SqL X.K H p ys ∨ SqT X.K H p ys) ∧ Q (.int ys.length) H) := by
  intro pins s σ H xs us Q I r h
  obtain ⟨p, ys, rfl, hq, q⟩ := h
  obtain ⟨u, rfl, rx⟩ := vals1 r
  cases rx
  have hn := line63
  rcases hq with hq | hq
  · obtain ⟨its, r', pl, hz⟩ := I.list hq
    have hlen := r'.length
    exact Calls.call_len_list pl.isList (by simp only [List.size_toArray] <;> (first | lia | omega)) ⟨.int ys.length, H, I.tok _, ⟨s.toks + 1, by rw [List.size_toArray, hlen]⟩, q⟩
  · obtain ⟨its, r', pl, hz⟩ := I.tuple hq
    have hlen := r'.length
    exact len_tuple pl (by simp only [List.size_toArray] <;> (first | lia | omega)) ⟨.int ys.length, H, I.tok _, ⟨s.toks + 1, by rw [List.size_toArray, hlen]⟩, q⟩
theorem call_list_of : CallR X (.type "list") (fun xs H Q => ∃ p ys, xs = [.ref p] ∧ (SqL X.K H p ys ∨ SqT X.K H p ys) ∧ ∀ l, H l = none → Q (.ref l) (upd H l (.lst ys))) := by
  intro pins s σ H xs us Q I r h
  obtain ⟨p, ys, rfl, hq, q⟩ := h
  obtain ⟨u, rfl, rx⟩ := vals1 r
  cases rx
  have fin : ∀ (its : List Value), Vals ys its → ys.length ≤ sizeLine → ∀ (h' : Heap) (c' : Nat), (∀ b o', s.heap.get? b = some o' → h'.get? b = some o') →
      h'.get? s.heap.objs.size = some { cls := .type "list", dict := none, data := .seq its.toArray c', slots := #[] } → EP X pins σ Q (.ref s.heap.objs.size) { s with heap := h' } := fun its r' hz h' c' kp e =>
    ⟨.ref s.heap.objs.size, _, I.laid (t' := s.toks) kp (Nat.le_refl _) (show ObjOk X.prog X.w _ h' _ (.lst ys) from ⟨hz, its, c', r', e⟩), rfl, q _ (I.hok.fresh (Nat.le_refl _))⟩
  rcases hq with hq | hq
  · obtain ⟨its, r', pl, hz⟩ := I.list hq
    have hlen := r'.length
    obtain ⟨o, ho, hc, n, hd⟩ := pl.isList
    exact call_list_seq p (.inl rfl) ho hc hd (fun h' c' kp e => fin its r' hz h' c' kp e) (by simp only [List.size_toArray] <;> (first | lia | omega))
  · obtain ⟨its, r', pl, hz⟩ := I.tuple hq
    have hlen := r'.length
    obtain ⟨o, ho, hc, n, hd⟩ := pl
    exact call_list_seq p (.inr rfl) ho hc hd (fun h' c' kp e => fin its r' hz h' c' kp e) (by simp only [List.size_toArray] <;> (first | lia | omega))
theorem call_tuple_of : CallR X (.type "tuple") (fun xs H Q => ∃ p ys, xs = [.ref p] ∧ ((SqL X.K H p ys ∧ ∀ l, H l = none → Q (.ref l) (upd H l (.tup ys))) ∨ (SqT X.K H p ys ∧ Q (.ref p) H))) := by
  intro pins s σ H xs us Q I r h
  obtain ⟨p, ys, rfl, h⟩ := h
  obtain ⟨u, rfl, rx⟩ := vals1 r
  cases rx
  rcases h with ⟨hq, q⟩ | ⟨hq, q⟩
  · obtain ⟨its, r', pl, hz⟩ := I.list hq
    have hlen := r'.length
    refine call_tuple_list pl.isList (fun h' kp => ?_) (by simp only [List.size_toArray] <;> (first | lia | omega))
    have I1 : Inv X pins σ H { s with heap := h' } := I.kept (t' := s.toks) kp
    have I2 : Inv X pins σ (upd H h'.objs.size (.tup ys)) { s with heap := h'.push { cls := .type "tuple", data := .seq its.toArray } } :=
      I1.laid (t' := s.toks) (fun b o e => Heap.get?_push_of_some _ e) (Nat.le_refl _) (show ObjOk X.prog X.w _ _ _ (.tup ys) from ⟨hz, its, r', IsTup.new _ _⟩)
    exact ⟨.ref h'.objs.size, _, I2, rfl, q _ (I1.hok.fresh (Nat.le_refl _))⟩
  · obtain ⟨its, r', pl, hz⟩ := I.tuple hq
    exact call_tuple_same pl ⟨.ref p, H, I, rfl, q⟩

/-! ### the call of a builtin's method: o.m(..) -/
/-- the value is of that builtin type -/
noncomputable def tyV (K : PySem.W.Frag) (T : String) (x : V) (H : Hp) : Prop := match x with
  | .str _ => T = "str"
  | .int _ => T = "int"
  | .ref p => (T = "list" ∧ ∃ xs, SqL K H p xs) ∨ (T = "tuple" ∧ ∃ o, K.lookup p = some o ∧ o.cls = .type "tuple" ∧ o.dict = none) ∨
      (T = "dict" ∧ ((∃ kvs, H p = some (.dK kvs)) ∨ ∃ kvs, H p = some (.dT kvs))) ∨ (T = "set" ∧ ∃ S n, H p = some (.set S n))
  | _ => False
theorem tyV_is {pins : List (Addr × Obj)} {σ : St} {H : Hp} {s : Shared} {T : String} {x : V} {v : Value} (I : Inv X pins σ H s) (r : RelV x v) (ty : tyV X.K T x H) :
    s.TypeIs v T ∧ ∀ a, v = .ref a → ∃ ob, s.heap.get? a = some ob ∧ ob.dict = none := by
  cases x with
  | str z =>
    obtain ⟨t, rfl⟩ := r
    cases (show T = "str" from ty)
    exact ⟨typeIs_str s z t, fun _ e => nomatch e⟩
  | int i =>
    obtain ⟨t, rfl⟩ := r
    cases (show T = "int" from ty)
    exact ⟨typeIs_int s i t, fun _ e => nomatch e⟩
  | ref p =>
    cases r
    rcases ty with ⟨rfl, xs, hq⟩ | ⟨rfl, o, hk, hc, hd⟩ | ⟨rfl, hk⟩ | ⟨rfl, S, n, hk⟩
    · obtain ⟨its, _, pl, _⟩ := I.list hq
      refine ⟨pl.isList.typeIs, fun a e => ?_⟩
      cases e
      obtain ⟨o, n, e, c, hd, _⟩ := pl
      exact ⟨o, e, hd⟩
    · refine ⟨⟨o, I.kIn p o hk, hc⟩, fun a e => ?_⟩
      cases e
      exact ⟨o, I.kIn _ o hk, hd⟩
    · have z : ∃ o, s.heap.get? p = some o ∧ o.ExactDict := by
        rcases hk with ⟨kvs, hk⟩ | ⟨kvs, hk⟩
        · obtain ⟨_, _, _, _, o, _, _, e, ex, _⟩ := I.hok p _ hk
          exact ⟨o, e, ex⟩
        · obtain ⟨_, _, _, _, o, _, _, e, ex, _⟩ := I.hok p _ hk
          exact ⟨o, e, ex⟩
      obtain ⟨o, e, ex⟩ := z
      refine ⟨⟨o, e, ex.1⟩, fun a e2 => ?_⟩
      cases e2
      exact ⟨o, e, ex.2.1⟩
    · obtain ⟨o, _, _, _, e, ex, _⟩ := I.hok p _ hk
      refine ⟨⟨o, e, ex.1⟩, fun a e2 => ?_⟩
      cases e2
      exact ⟨o, e, ex.2.1⟩
  | _ => exact False.elim ty
noncomputable def tBM0 (K : PySem.W.Frag) (T : String) (r : V → List V → Hp → VK → Prop) (to : TE) : TE := fun σ H Q => to σ H fun x H1 => tyV K T x H1 ∧ r x [] H1 Q
noncomputable def tBM (K : PySem.W.Frag) (T : String) (r : V → List V → Hp → VK → Prop) (to : TE) (t : TA) : TE := fun σ H Q => to σ H fun x H1 => tyV K T x H1 ∧ t σ H1 fun xs H2 => r x xs H2 Q
variable {o e : Expr} {es : List Expr} {to : TE} {t : TA} {name : Str} {apos cpos : Pos} {T id : String} {r : V → List V → Hp → VK → Prop}
theorem pe_bm (pa : PlainAttrs T) (slot : Slot T name id) (hty : typeOf (.builtin id) = pure (.type "method_descriptor")) (hm : MtR X id r) (ho : PE X o to) (ha : PA X (e :: es) t)
    (hbase : attributeBase o name X.env (eval o X.env) = eval o X.env := by rfl)
    (hfew : ((backTo cpos (starEach (e :: es) X.env)).all (fun x => !x.1) && (backToKw cpos (keywordEach [] X.env)).all (fun x => x.1.isSome)
      && decide ((e :: es).length + ([] : List Keyword).length + (if ([] : List Keyword).isEmpty then 0 else 1) < 30)) = true := by rfl)
    (hline : (apos.endLine == cpos.line) = true := by rfl) (hs : starEach (e :: es) X.env = (false, eval e X.env) :: starEach es X.env := by rfl) (hplain : (backTo cpos (starEach es X.env)).any (·.1) = false := by rfl) :
    PE X (.Call (.Attribute o name apos) (e :: es) [] cpos) (tBM X.K T r to t) := by
  intro pins s σ H Q I h
  refine wpAny_Call_method_late hbase hfew hline rfl (thn (ho pins s σ H _ I h) fun v s1 ⟨x, H1, I1, r1, ty, q1⟩ => ?_)
  obtain ⟨h1, h2⟩ := tyV_is I1 r1 ty
  refine ⟨T, id, pa, slot, hty, h1, h2, ?_⟩
  have hA := ha cpos pins s1 σ H1 _ I1 q1
  rw [hs] at hA ⊢
  refine Calls.callWith_builtin (by show (false || (backTo cpos (starEach es X.env)).any (·.1)) = false; rw [hplain] <;> rfl) (Calls.evalArgs_plain ?_)
  exact thn hA fun us s2 ⟨vs, H2, I2, r2, q2⟩ => hm pins s2 σ H2 x vs v us Q I2 r1 r2 q2
/- xs.append(e), list.index on a module's tuple .. are MtR facts of 06m -/
end
end L2

namespace L2
open PySem PySem.Spec PyProof.Rows

noncomputable def MtM (X : Cx) (id : String) (r : V → List V → Hp → VK → Prop) : Prop :=
  ∀ (pins : List (Addr × Obj)) (s : Shared) (σ : St) (H : Hp) (x : V) (xs : List V) (v : Value) (us : List Value) (Q : VK), Inv X pins σ H s → RelV x v → Vals xs us → r x xs H Q →
    wpAny (model X.prog X.w) X.A (call (.builtin id) (v :: us)) (EP X pins σ Q) X.xe s

/-! ### lists of values -/
theorem Vals.one : ∀ {x : V} {us : List Value}, Vals [x] us → ∃ u, us = [u] ∧ RelV x u
  | _, _, .cons r .nil => ⟨_, rfl, r⟩
theorem Vals.rep {xs : List V} {us : List Value} (h : Vals xs us) : ∀ k : Nat, Vals (List.replicate k xs).flatten (List.replicate k us).flatten
  | 0 => .nil
  | k + 1 => by
    rw [List.replicate_succ, List.replicate_succ, List.flatten_cons, List.flatten_cons]
    exact Vals.append h (Vals.rep h k)
theorem foldl_rep (its : List Value) : ∀ (k : Nat) (acc : List Value),
    List.foldl (fun x1 x2 => x1 ++ x2) acc.toArray (List.replicate k its.toArray) = (acc ++ (List.replicate k its).flatten).toArray
  | 0, acc => by simp
  | k + 1, acc => by
    have e : acc.toArray ++ its.toArray = (acc ++ its).toArray := by simp
    have e2 : (acc ++ its) ++ (List.replicate k its).flatten = acc ++ (List.replicate (k + 1) its).flatten := by
      rw [List.replicate_succ, List.flatten_cons, List.append_assoc]
    rw [← e2, ← foldl_rep its k (acc ++ its), ← e, List.replicate_succ, List.foldl_cons]

section
variable {X : Cx} {pins : List (Addr × Obj)} {σ : St} {H : Hp} {s : Shared} {l b : Addr} {xs ys zs : List V}

/-! ### the two steps: a tracked list is rewritten, a new list is laid -/
theorem Inv.lset {its its' : List Value} {n : Nat} {f : Array Value → Array Value} {t' : Nat} (I : Inv X pins σ H s) (hH : H l = some (.lst xs))
    (e : s.heap.get? l = some { cls := .type "list", data := .seq its.toArray n }) (hf : f its.toArray = its'.toArray) (hv : Vals ys its') (hz : ys.length ≤ sizeLine) :
    Inv X pins σ (upd H l (.lst ys)) { s with heap := s.heap.update l (Obj.mapSeq f), toks := t' } := by
  have q := PySem.IsL.update e f
  rw [hf] at q
  refine I.write (x := l) (e := l) (by rw [hH]; exact trivial) (.inl rfl) (fun b' u hb hu => (Heap.get?_update_other s.heap (Obj.mapSeq f) (Ne.symm hb)).trans hu) ⟨_, q⟩ ?_
  exact ⟨hz, its', _, hv, q⟩
theorem Inv.lnew {its : List Value} {t' : Nat} (I : Inv X pins σ H s) (hv : Vals ys its) (hz : ys.length ≤ sizeLine) :
    Inv X pins σ (upd H s.heap.objs.size (.lst ys)) { s with heap := s.heap.push { cls := .type "list", data := .seq its.toArray }, toks := t' } :=
  I.laid (fun _ _ q => Heap.get?_push_of_some _ q) (Nat.le_refl _) ⟨hz, its, 0, hv, Heap.get?_push_size _ rfl⟩
theorem Inv.fresh (I : Inv X pins σ H s) : H s.heap.objs.size = none := I.hok.fresh (Nat.le_refl _)
theorem Inv.lstM (I : Inv X pins σ H s) (hH : H l = some (.lst xs)) : xs.length ≤ sizeLine ∧ ∃ (its : List Value) (n : Nat), Vals xs its ∧ xs.length = its.length ∧ s.heap.get? l = some { cls := .type "list", data := .seq its.toArray n } := by
  obtain ⟨z, its, n, r, e⟩ := I.hok l _ hH
  exact ⟨z, its, n, r, r.length, e⟩

theorem notLongL {n : Nat} (h : n ≤ sizeLine) : Builtin.List.listTooLong n = false := by
  unfold Builtin.List.listTooLong
  exact decide_eq_false (by (first | lia | omega))
end

section
variable {X : Cx}

/-! ### methods -/
noncomputable def rAppend : V → List V → Hp → VK → Prop := fun x vs H Q => ∃ l xs y, x = .ref l ∧ vs = [y] ∧ H l = some (.lst xs) ∧ xs.length < sizeLine ∧ Q .non (upd H l (.lst (xs ++ [y])))
theorem mt_append : MtM X "list.append" rAppend := by
  intro pins s σ H x vs v us Q I rx rv h
  obtain ⟨l, xs, y, rfl, rfl, hH, hz, q⟩ := h
  cases rx
  obtain ⟨u, rfl, ru⟩ := rv.one
  obtain ⟨z, its, n, r, hl, e⟩ := I.lstM hH
  refine call_meets F.slot_list_append ⟨_, e, rfl⟩ F.entry_list_append (F.args_list_append_2 _ _) (PySem.list_append l its.toArray n u (by rw [List.size_toArray]; (first | lia | omega))) ⟨e, ?_⟩
  refine ⟨.non, _, I.lset (its' := its ++ [u]) hH e (by simp) (r.append (.cons ru .nil)) ?_, rfl, q⟩
  rw [List.length_append, List.length_singleton]
  (first | lia | omega)

noncomputable def rExtend : V → List V → Hp → VK → Prop := fun x vs H Q => ∃ l b xs zs, x = .ref l ∧ vs = [.ref b] ∧ H l = some (.lst xs) ∧ H b = some (.lst zs) ∧ xs.length + zs.length ≤ sizeLine ∧ Q .non (upd H l (.lst (xs ++ zs)))
theorem mt_extend : MtM X "list.extend" rExtend := by
  intro pins s σ H x vs v us Q I rx rv h
  obtain ⟨l, b, xs, zs, rfl, rfl, hH, hB, hz, q⟩ := h
  cases rx
  obtain ⟨u, rfl, ru⟩ := rv.one
  cases ru
  obtain ⟨z, its, n, r, hl, e⟩ := I.lstM hH
  obtain ⟨z2, its2, n2, r2, hl2, e2⟩ := I.lstM hB
  have hsz : its.toArray.size + its2.toArray.size ≤ sizeLine := by rw [List.size_toArray, List.size_toArray]; (first | lia | omega)
  have hlong : ¬ (!its.toArray.isEmpty && Builtin.List.listTooLong (its.toArray.size + its2.toArray.size)) = true := by
    rw [notLongL hsz, Bool.and_false]
    exact Bool.false_ne_true
  refine call_meets F.slot_list_extend ⟨_, e, rfl⟩ F.entry_list_extend (F.args_list_extend_2 _ _)
    (AutoSeq1.list_extend_list_list_0 l its.toArray n b its2.toArray n2 hlong (by rw [List.size_toArray]; (first | lia | omega)) (by (first | lia | omega))) ⟨e, e2, ?_⟩
  refine ⟨.non, _, I.lset (its' := its ++ its2) hH e (by simp) (r.append r2) ?_, rfl, q⟩
  rw [List.length_append]
  (first | lia | omega)

noncomputable def rPop : V → List V → Hp → VK → Prop := fun x vs H Q => ∃ l xs y, x = .ref l ∧ vs = [] ∧ H l = some (.lst xs) ∧ xs[xs.length - 1]? = some y ∧ Q y (upd H l (.lst xs.dropLast))
noncomputable def rPopAt : V → List V → Hp → VK → Prop := fun x vs H Q => ∃ l xs i k y, x = .ref l ∧ vs = [.int i] ∧ H l = some (.lst xs) ∧ -(2 ^ 63) ≤ i ∧ i < 2 ^ 63 ∧ seqIndex? i xs.length = some k ∧ xs[k]? = some y ∧ Q y (upd H l (.lst (xs.eraseIdx k)))
noncomputable def rReverse : V → List V → Hp → VK → Prop := fun x vs H Q => ∃ l xs, x = .ref l ∧ vs = [] ∧ H l = some (.lst xs) ∧ Q .non (upd H l (.lst xs.reverse))
noncomputable def rClear : V → List V → Hp → VK → Prop := fun x vs H Q => ∃ l xs, x = .ref l ∧ vs = [] ∧ H l = some (.lst xs) ∧ Q .non (upd H l (.lst []))
/-! ### list + list, list += list, list * int -/
noncomputable def rCat : R2 := fun x y H Q => ∃ l b xs zs, x = .ref l ∧ y = .ref b ∧ H l = some (.lst xs) ∧ H b = some (.lst zs) ∧ xs.length + zs.length ≤ sizeLine ∧ ∀ p, H p = none → Q (.ref p) (upd H p (.lst (xs ++ zs)))
theorem op_cat : OpR X (binaryOp .Add) rCat := by
  intro pins s σ H x y v u Q I rx ry h
  obtain ⟨l, b, xs, zs, rfl, rfl, hH, hB, hz, q⟩ := h
  cases rx
  cases ry
  obtain ⟨z, its, n, r, hl, e⟩ := I.lstM hH
  obtain ⟨z2, its2, n2, r2, hl2, e2⟩ := I.lstM hB
  refine PySem.P.add_list e e2 ?_ (by rw [List.size_toArray, List.size_toArray]; (first | lia | omega))
  have ea : its.toArray ++ its2.toArray = (its ++ its2).toArray := by simp
  rw [ea]
  exact ⟨.ref _, _, I.lnew (t' := s.toks) (r.append r2) (by rw [List.length_append]; (first | lia | omega)), rfl, q _ I.fresh⟩
/-- a list times an int (a negative one is nothing) -/
noncomputable def rRep : R2 := fun x y H Q => ∃ l k xs, x = .ref l ∧ y = .int k ∧ H l = some (.lst xs) ∧ -(2 ^ 63) ≤ k ∧ k < 2 ^ 63 ∧ xs.length * k.toNat ≤ sizeLine ∧
  ∀ p, H p = none → Q (.ref p) (upd H p (.lst (List.replicate k.toNat xs).flatten))
theorem len_rep {α : Type} (xs : List α) (k : Nat) : (List.replicate k xs).flatten.length = k * xs.length := by
  induction k with
  | zero => simp
  | succ k ih => rw [List.replicate_succ, List.flatten_cons, List.length_append, ih, Nat.succ_mul, Nat.add_comm]
theorem op_rep : OpR X (binaryOp .Mult) rRep := by
  intro pins s σ H x y v u Q I rx ry h
  obtain ⟨l, k, xs, rfl, rfl, hH, h1, h2, hz, q⟩ := h
  cases rx
  obtain ⟨t, rfl⟩ := ry
  obtain ⟨z, its, n, r, hl, e⟩ := I.lstM hH
  have hlen : its.toArray.size * k.toNat ≤ sizeLine := by rw [List.size_toArray, ← hl]; exact hz
  have hcap : ¬ its.toArray.size * k.toNat > (2 ^ 63 - 1) / 8 := by
    have : (sizeLine : Nat) ≤ (2 ^ 63 - 1) / 8 := by decide
    (first | lia | omega)
  have hfit : ¬ (!Builtin.List.listFitsIndex k) = true := by
    rw [fitsIndex_both h1 h2]
    exact Bool.false_ne_true
  have hlong : ¬ Builtin.List.listTooLong (its.toArray.size * k.toNat) = true := by
    rw [notLongL hlen]
    exact Bool.false_ne_true
  have hnew : List.foldl (fun x1 x2 => x1 ++ x2) #[] (List.replicate (if its.toArray.isEmpty = true then 0 else k.toNat) its.toArray) = (List.replicate k.toNat its).flatten.toArray := by
    have f0 : ∀ m : Nat, List.foldl (fun x1 x2 => x1 ++ x2) #[] (List.replicate m its.toArray) = (List.replicate m its).flatten.toArray := fun m => by
      have := foldl_rep its m []
      rw [List.nil_append] at this
      exact this
    rw [f0]
    cases its with
    | nil => simp
    | cons a r' => rw [if_neg (by simp)]
  refine wpAny_binaryOp_repeat_ref (T := "list") (U := "int") (by decide) ⟨_, e, rfl⟩ (fun s' => typeIs_int s' k t) noFill_list_mul F.fills_int_mul F.slot_int_rmul repeat_list F.slot_int_index.lookup
    (call_meets F.slot_int_rmul (typeIs_int s k t) F.entry_int_rmul (F.args_int_rmul_2 _ _) (int___rmul___int_list k t l its.toArray n)
      ⟨e, rfl, ⟨_, e, rfl⟩, call_meets F.slot_list_mul ⟨_, e, rfl⟩ F.entry_list_mul (F.args_list_mul_2 _ _) (AutoListH.list___mul___list_int_3 l its.toArray n k t hfit hcap hlong) ⟨e, ?_⟩⟩)
  rw [hnew]
  exact ⟨.ref _, _, I.lnew (t' := s.toks) (r.rep k.toNat) (by rw [len_rep, Nat.mul_comm]; exact hz), rfl, q _ I.fresh⟩

/-! ### del xs[i] -/
end

/-! ### xs[a:b] = ys -/
section
variable {prog : Program} {w : World} {A : Around} {E : Value → Shared → Prop} {s : Shared}
set_option maxRecDepth 100000 in
end

section
variable {X : Cx}
end
end L2

namespace Att
open PySem PySem.W PySem.Calls PyProof.Rows

/-! ### the script -/
theorem ints_of_wellAll {P : Params} {h : Heap} : ∀ (ns : List Int) (vs : List Value), WellAll P h vs (ns.map WData.int) → IntsAre vs ns := by
  intro ns
  induction ns with
  | nil =>
    intro vs w
    rw [List.map_nil] at w
    cases w
    exact .nil
  | cons n ns ih =>
    intro vs w
    rw [List.map_cons] at w
    cases w with
    | cons a b =>
      cases a
      exact .cons _ _ (ih _ b)

theorem script_of {l : OpenLaw} {n : Nat} (hn : l.most = some n) {P : Params} {h : Heap} {args : List WData} {vals : List Value}
    (hpre : l.row.toRowW.claim.pre args = true) (hwl : WellAll P h vals args) :
    ∃ a vs ns, vals = [Value.ref a] ∧ args = [WData.list (ns.map WData.int)] ∧ h.get? a = some { cls := .type "list", data := .seq vs.toArray } ∧ IntsAre vs ns ∧ ns.length ≤ n := by
  have hsh : WShape.hasAll [] args [.list .int] = true := (pre_splitW hpre).1
  have hc : l.pre.holds [] { args := args } = true := (pre_splitW hpre).2
  obtain ⟨d, r, rfl, h1, h2⟩ := hasAllW_cons hsh
  obtain rfl := hasAllW_nil h2
  obtain ⟨xs, rfl, h3⟩ := hasW_list h1
  obtain ⟨ns, rfl⟩ := items_int h3
  have hlen : ns.length ≤ n := by
    unfold OpenLaw.pre at hc
    have h4 : (WTm.not (.lt (.lit (.int (n : Int))) (.len (.arg 0)))).holds [] { args := [.list (ns.map .int)] } = true := by
      have h4 := (holds_andW hc).1
      rw [hn] at h4
      exact h4
    have h5 := condW_of h4 (w_not (w_lt w_lit (w_len_list (w_arg rfl))))
    rw [List.length_map] at h5
    refine Nat.le_of_not_lt fun q => ?_
    have q' : (n : Int) < ((ns.length : Nat) : Int) := by (first | lia | omega)
    first
      | (rw [decide_eq_true q'] at h5; exact absurd h5 (by decide))
      | (simp at h5; (first | lia | omega))
  cases hwl with
  | cons w1 w2 =>
    cases w2
    cases w1 with
    | list ho hall => exact ⟨_, _, ns, rfl, rfl, ho, ints_of_wellAll ns _ hall, hlen⟩

theorem post_true (l : OpenLaw) (args : List WData) : l.row.toRowW.claim.post args (.bool true) args = true :=
  postW_of (r := l.row.toRowW) (X := (true == true))
    (show WShape.has [] (.bool true) .bool = true by first | rfl | decide | simp [WShape.has, WShape.arms, WShape.armsAll])
    (show (WTm.eq .res (.lit (.bool true))).value [] { args := args, res := some (.bool true), after := args } = some (.bool (true == true)) from w_eq_bool (w_res rfl) w_lit) rfl

/-! ### the attachment: holds_open's last premise (the goal 'hc' behind k_head) from a wpAny of the law's body -/
/-- the same from a codeAny of the CALL (for a layer whose function contracts speak of calls) -/
theorem attach_call {l : OpenLaw} {n : Nat} {q : Program} {loose : List Str} {XP : (Str → Option Value) → Heap → Prop} {YP : World → Heap → Prop} {d : DefRec}
    (hn : l.most = some n) (hdf : d.params.defaults = [])
    (call : ∀ (w : World) (s₀ s₁ : Shared) (mg mb : Str → Option Value) (fa : Addr) (o : Obj) (pm cd doc : Value) (a : Addr) (vs : List Value) (ns : List Int),
      Ground q loose [] XP w s₀ mg mb s₁.heap → YP w s₁.heap →
      s₁.heap.get? fa = some o → o.data = .func (docDef d.name d.params d.body d.scope pm cd doc) → s₁.heap.CodeRec cd d.name → mg d.name = some (.ref fa) →
      s₁.heap.get? a = some { cls := .type "list", data := .seq vs.toArray } → IntsAre vs ns → ns.length ≤ n → s₁.gens = #[] →
      codeAny (model l.prog w) callerA (.call (.ref fa) ⟨[.ref a], []⟩) (fun r s' => r = .ok (.ret (.bool true)) ∧ OldK s₁.heap s'.heap ∧ s'.os = s₁.os ∧ AllBare s'.gens) s₁) :
    WalkO q loose XP YP l.row.toRowW d [] (fun f vs => PySem.call f vs) := by
  intro w s₀ s₁ mg mb G Y fa o pm cd doc dV kV ho hd hcd hD hmg hg args vals as hpre hlay hrd hwl hlo
  obtain rfl : dV = .none := Dflts.none hD hdf
  obtain rfl : kV = .none := Dflts.noKw hD
  obtain ⟨a, vs, ns, rfl, rfl, hobj, hints, hlen⟩ := script_of hn hpre hwl
  refine enter_call (codeAny_mono (call w s₀ s₁ mg mb fa o pm cd doc a vs ns G Y ho (fd_plain hd) hcd hmg hobj hints hlen hg) fun r s' hq => ?_)
  obtain ⟨rfl, h2, h3, h4⟩ := hq
  exact ⟨.inl ⟨.bool true, .bool true, [], rfl, fun _ => rfl, .bool true, post_true l _, fun _ => ⟨List.Pairwise.nil, fun _ hm => (nomatch hm)⟩⟩, h2, h3, h4⟩

/-! ### rules over ANY heap (no ledger) from facts about the written part K: the library's own take a ledger (News) for what they write -/
section
variable {prog : Program} {w : World} {A : Around} {E : Value → Shared → Prop} {s : Shared} {K : Frag}

/-! the whole heap as the ledger: makes every rule that writes through a ledger a rule over any heap -/
noncomputable def noObjs (h : Heap) : Heap := { h with objs := #[] }
noncomputable def ledger (h : Heap) (L d : Addr) : List (Addr × Obj) := (List.range h.objs.size).filterMap fun a => if a = L ∨ a = d then none else (h.get? a).map fun o => (a, o)
end
end Att

namespace L2
open PySem PySem.Spec PyProof.Rows

theorem vals_ints : ∀ {vs : List Value} {ns : List Int}, IntsAre vs ns → Vals (ns.map V.int) vs
  | _, _, .nil => .nil
  | _, _, .cons n t h => .cons ⟨t, rfl⟩ (vals_ints h)

/-- nothing is tracked but the script, known to the object (or it is an object of the module) -/
noncomputable def Only (H : Hp) : Prop := ∀ b, H b = none ∨ ∃ o xs, H b = some (.frz o (.lst xs))

end L2

namespace L2
open PySem PySem.Spec PyProof.Rows

noncomputable abbrev KOf {K : PySem.W.Frag} {h : Heap} (_ : K.In h) : PySem.W.Frag := K

end L2

/- THE LAST THEOREM (shape; LID, My.* are yours):
   My.Adr: a structure of the addresses that your layer names (classes, functions); My.Txt K t: a structure (Prop) of the equations over K;
   My.txt_mk : {K} {implicit addresses ..} (e1 : nsIn K mainGlobals "law" = some (some (.ref f))) (e2 : K.lookup f = some ⟨oc, od, .func (fnOf "law" "law" params body scope dV kV doc pm an cdv ct), sl⟩) (e3 : codeIn K cdv "law" = true) .. : ∃ t, My.Txt K t

set_option maxRecDepth 100000 in
set_option maxHeartbeats 0 in
theorem PySem.Challenge.cw_LID_holds : PySem.Challenge.rw_LID.Holds := by
  w_on; o_law; k_head; (case hw => w_witness2)
  k_fill
  refine L2.walk_of (l := PySem.Challenge.rw_LID) (n := 63) (k := 40) (x := "script") (CX := fun w => ..) (sp := fun _ => My.sp_law) rfl (by decide) rfl ⟨rfl, by decide, by decide⟩ (fun w h Y => PySem.W.kIn_of Y) ?F ?S ?C
  case F =>
    intro w mg fa h KX G hmg
    have T : ∃ t, My.Txt (L2.KOf KX) t := by
      dsimp only [L2.KOf]                          -- K must stand as «<heap const> w.params» for k_is
      refine' My.txt_mk ?e1 ?e2 ?e3 ..
      (case e1 => PySem.W.k_is)                    -- in the order: a name -> its address -> its object -> its parts
      (case e2 => PySem.W.k_is)
      ..
    obtain ⟨t, T⟩ := T
    have e0 := hmg.symm.trans (PySem.W.mg_of KX G T.law)
    cases e0                                       -- fa is the law's own address
    exact ⟨_, fun s u => .of_eq rfl, fun base kb nb => My.law_fn T kb nb⟩     -- if «.of_eq rfl» comes too early: refine' ⟨_, ?b, fun base kb nb => My.law_fn T kb nb⟩; exact fun s u => .of_eq rfl
  case S => exact fun w H a ns hl hO hS => ..
  case C => exact ..
(the tactic k_is has no namespace: write k_is) -/

/-! SHORT WORDS over the layer: a def of the text, its body, what a loop and a test want. -/
namespace L2
open PySem PySem.Spec PyProof.Rows

/-! ### the text by places -/
/-- the j-th statement of a class's body -/
noncomputable def inClass (s : Stmt) (j : Nat) : Stmt := match s with
  | .ClassDef _ _ _ body _ _ _ _ _ _ _ => body.getD j (.Pass ⟨0, 0, 0, 0⟩)
  | _ => .Pass ⟨0, 0, 0, 0⟩
noncomputable def defArgs (s : Stmt) : Arguments := match s with
  | .FunctionDef _ a _ _ _ _ _ _ _ _ => a
  | _ => { posonlyargs := [], args := [], vararg := none, kwonlyargs := [], kw_defaults := [], kwarg := none, defaults := [] }
noncomputable def defBody (s : Stmt) : List Stmt := match s with
  | .FunctionDef _ _ b _ _ _ _ _ _ _ => b
  | _ => []
noncomputable def defScope (s : Stmt) : Scope := match s with
  | .FunctionDef _ _ _ _ _ _ sc _ _ _ => sc
  | _ => { kind := .function, names := [], isGenerator := false, isCoroutine := false }

/-! ### no exception leaves a def -/
noncomputable abbrev CX0 : CXT := fun _ _ _ _ _ _ => False
noncomputable abbrev E0 : XK := fun _ _ _ => False
theorem pass0 {X : Cx} : Passes CX0 X E0 := fun _ _ _ _ _ _ _ h => h.elim

/-! ### a def (or method) of the text as it stands behind the top -/
structure Fun (K : PySem.W.Frag) (x qual : Str) (st : Stmt) (f : Addr) (fd : FuncData) : Prop where
  ex : ∃ (oc : Value) (od : Option Addr) (kV doc pm : Value) (an : Option Addr) (cdv ct : Value) (osl : Array (Option Value)),
    fd = PySem.W.fnOf x qual (defArgs st) (defBody st) (defScope st) .none kV doc pm an cdv ct ∧ K.lookup f = some ⟨oc, od, .func fd, osl⟩ ∧ PySem.W.codeIn K cdv qual = true
  kp : PySem.W.keepIn K (.ref f) = true
section
variable {P : Program} {w : World} {K : PySem.W.Frag} {mg : Str → Option Value} {base : Heap}
/-- THE RULE for a def: its body as a term of rules, and the reading of that term -/
theorem Fun.ok {x qual : Str} {st : Stmt} {f : Addr} {fd : FuncData} {N ps : List Str} {k : Nat} {sp : Sp} (F : Fun K x qual st f fd) (S : FnScope N ps (defScope st)) (len : ∀ vs H Q E, sp vs H Q E → vs.length = ps.length)
    (hbody : ∀ (cdv : Value) (A : Around) (outer : List Env) (s : Shared) (H : Hp) (vs : List V) (Q : VK) (E : XK), Room k (A.deeper (envOfC qual (defScope st) s.heap.objs.size f cdv)) → sp vs H Q E →
      ∃ t, PSs (cxOf CX0 P w K mg base N qual (defScope st) f cdv A outer s H E).nox (defBody st) t ∧ t { nx := fun _ H' => Q .non H', rt := Q } (start N vs) H) : FnOk P w K mg base CX0 (k + 1) f fd ps sp := by
  obtain ⟨oc, od, kV, doc, pm, an, cdv, ct, osl, rfl, lk, hcd⟩ := F.ex
  refine fn_of lk hcd S len fun A outer s H vs Q E hr hsp => ?_
  obtain ⟨t, h, q⟩ := hbody cdv A outer s H vs Q E hr hsp
  exact ⟨t, h.nox, q⟩
/-- how its arguments bind (no defaults): h is «fun _ _ _ _ _ _ us hl => match us, hl with | [_, _], _ => rfl», one _ a parameter -/
theorem Fun.binds {x qual : Str} {st : Stmt} {f : Addr} {fd : FuncData} {ps : List Str} (F : Fun K x qual st f fd)
    (h : ∀ (kV doc pm : Value) (an : Option Addr) (cdv ct : Value) (us : List Value), us.length = ps.length → bindArgs (PySem.W.fnOf x qual (defArgs st) (defBody st) (defScope st) .none kV doc pm an cdv ct) ⟨us, []⟩ = pure (ps.zip us)) : Binds K fd ps [] := by
  obtain ⟨oc, od, kV, doc, pm, an, cdv, ct, osl, rfl, lk, hcd⟩ := F.ex
  exact .all (h kV doc pm an cdv ct)
theorem fun_mk {x qual : Str} {st : Stmt} {f : Addr} {oc : Value} {od an : Option Addr} {osl : Array (Option Value)} {kV doc pm cdv ct : Value} (l : K.lookup f = some ⟨oc, od, .func (PySem.W.fnOf x qual (defArgs st) (defBody st) (defScope st) .none kV doc pm an cdv ct), osl⟩)
    (c : PySem.W.codeIn K cdv qual = true) (k : PySem.W.keepIn K (.ref f) = true) : Fun K x qual st f (PySem.W.fnOf x qual (defArgs st) (defBody st) (defScope st) .none kV doc pm an cdv ct) := ⟨⟨oc, od, kV, doc, pm, an, cdv, ct, osl, rfl, l, c⟩, k⟩
end
theorem small1000 {n : Nat} (h : n ≤ 1000) : n < sizeLine := Nat.lt_of_le_of_lt h (by decide)

/-! ### expressions in short: the name that stands in the i-th slot -/
section
variable {X : Cx}
theorem pv (i : Nat) {x : Str} {pos : Pos} (hN : X.N[i]? = some x := by rfl) (hv : Vis X.env.scope x := by first | exact Or.inl rfl | exact Or.inr (Or.inl rfl) | exact Or.inr (Or.inr rfl)) (hd : (x == ("__debug__" : Str)) = false := by decide)
    (hcd : (x == ("__classdict__" : Str)) = false := by decide) : PE X (.Name x pos) (tVar i) := pe_var hN hv hd hcd
end

/-! ### tests -/
theorem iteF {A B : Prop} (h : B) : if false = true then A else B := by
  rw [if_neg Bool.false_ne_true]
  exact h
theorem iteT {A B : Prop} (h : A) : if true = true then A else B := by
  rw [if_pos rfl]
  exact h
theorem ite2 {c A B : Prop} [Decidable c] (h1 : c → A) (h2 : ¬ c → B) : if c then A else B := by
  by_cases h : c
  · rw [if_pos h]
    exact h1 h
  · rw [if_neg h]
    exact h2 h
/-! ### heaps -/
/-- all that was tracked is as it was -/
noncomputable def Same (H H' : Hp) : Prop := ∀ b o, H b = some o → H' b = some o
theorem Same.refl (H : Hp) : Same H H := fun _ _ h => h
theorem Same.trans {H H1 H2 : Hp} (a : Same H H1) (b : Same H1 H2) : Same H H2 := fun c o h => b c o (a c o h)
theorem Same.free {H H' : Hp} (e : Same H H') {l : Addr} (h : H' l = Option.none) : H l = Option.none := by
  cases q : H l with
  | none => rfl
  | some o =>
    rw [e l o q] at h
    cases h
theorem Same.seq {K : PySem.W.Frag} {H H' : Hp} {a : Addr} {xs : List V} (e : Same H H') (h : SqL K H a xs) : SqL K H' a xs := by
  rcases h with (h | ⟨o, h⟩) | h
  · exact .inl (.inl (e _ _ h))
  · exact .inl (.inr ⟨o, e _ _ h⟩)
  · exact .inr h

end L2

set_option linter.all false
namespace L2
open PySem

/-- what a block closes over -/
theorem closure_of {scope : Scope} {env : Env} (h : ∀ x, (x, NameKind.free) ∈ scope.names → ∃ c, env.cells.lookup x = some c) :
    ∃ cl, closureFor scope env = pure cl ∧ (∀ x c, cl.lookup x = some c → env.cells.lookup x = some c) ∧ ∀ x, (x, NameKind.free) ∈ scope.names → ∃ c, cl.lookup x = some c := by
  have all : ∀ (ns : List (Str × NameKind)) (cs : List (Str × Addr)), (∀ x, (x, NameKind.free) ∈ ns → ∃ c, env.cells.lookup x = some c) → (∀ x c, cs.lookup x = some c → env.cells.lookup x = some c) →
      ∃ cl, (forIn ns cs (fun (q : Str × NameKind) r => if (q.2 == NameKind.free) = true then (cellOf env q.1 >>= fun a => pure (ForInStep.yield ((q.1, a) :: r))) else pure (ForInStep.yield r)) : Sem (List (Str × Addr))) = pure cl ∧
        (∀ x c, cl.lookup x = some c → env.cells.lookup x = some c) ∧ (∀ x, (x, NameKind.free) ∈ ns → ∃ c, cl.lookup x = some c) ∧ ∀ x, (∃ c, cs.lookup x = some c) → ∃ c, cl.lookup x = some c := by
    intro ns
    induction ns with
    | nil => intro cs _ hc; exact ⟨cs, rfl, hc, fun x z => absurd z (by simp), fun x z => z⟩
    | cons q r ih =>
      intro cs hn hc
      obtain ⟨x, k⟩ := q
      rw [List.forIn_cons]
      by_cases hk : k = NameKind.free
      · subst hk
        obtain ⟨c, hx⟩ := hn x List.mem_cons_self
        obtain ⟨cl, e, h1, h2, h3⟩ := ih ((x, c) :: cs) (fun y z => hn y (List.mem_cons_of_mem _ z)) (fun y d z => by
          rw [List.lookup_cons] at z
          cases q : y == x with
          | true => rw [q] at z; cases z; rw [eq_of_beq q]; exact hx
          | false => rw [q] at z; exact hc y d z)
        refine ⟨cl, ?_, h1, fun y z => ?_, fun y z => ?_⟩
        · simp only [cellOf, hx, beq_self_eq_true, if_true, pure_bind]
          exact e
        · rcases List.mem_cons.mp z with z | z
          · have : y = x := congrArg Prod.fst z
            subst this
            exact h3 y ⟨c, by simp [List.lookup_cons]⟩
          · exact h2 y z
        · obtain ⟨d, z⟩ := z
          refine h3 y ?_
          rw [List.lookup_cons]
          cases q : y == x with
          | true => exact ⟨c, rfl⟩
          | false => exact ⟨d, z⟩
      · have hb : (k == NameKind.free) = false := by simpa using hk
        obtain ⟨cl, e, h1, h2, h3⟩ := ih cs (fun y z => hn y (List.mem_cons_of_mem _ z)) hc
        refine ⟨cl, ?_, h1, fun y z => ?_, h3⟩
        · simp only [hb, Bool.false_eq_true, if_false, pure_bind]
          exact e
        · rcases List.mem_cons.mp z with z | z
          · exact absurd (congrArg Prod.snd z).symm hk
          · exact h2 y z
  obtain ⟨cl, e, h1, h2, _⟩ := all scope.names [] h (fun x c z => by simp at z)
  refine ⟨cl, ?_, h1, h2⟩
  show (forIn scope.names [] _ >>= fun cs => pure cs) = pure cl
  rw [bind_pure]
  exact e

/-- a name that is no local of the block is free in it -/
theorem relabel_free {scope : Scope} {env : Env} (hc : ∀ y ∈ scope.names, y.2 ≠ .cell) {x : Str} (h : (relabel scope env).names.lookup x = some .cell ∨ (relabel scope env).names.lookup x = some .free) : (x, NameKind.free) ∈ scope.names := by
  have all : ∀ (ns : List (Str × NameKind)), (∀ y ∈ ns, y.2 ≠ .cell) →
      ((ns.map fun (n, k) => if (k == NameKind.free && env.scope.kind == .function && env.kindOf n == some .cell) then (n, NameKind.cell) else (n, k)).lookup x = some .cell ∨
       (ns.map fun (n, k) => if (k == NameKind.free && env.scope.kind == .function && env.kindOf n == some .cell) then (n, NameKind.cell) else (n, k)).lookup x = some .free) → (x, NameKind.free) ∈ ns := by
    intro ns
    induction ns with
    | nil => intro _ z; simp at z
    | cons q r ih =>
      intro hn z
      obtain ⟨n, k⟩ := q
      have ih' := ih (fun y hy => hn y (List.mem_cons_of_mem _ hy))
      have hk := hn (n, k) List.mem_cons_self
      simp only [List.map_cons] at z
      by_cases hcd : (k == NameKind.free && env.scope.kind == .function && env.kindOf n == some .cell) = true
      · have kf : k = NameKind.free := by
          have := (Bool.and_eq_true _ _ ▸ hcd)
          simp only [Bool.and_eq_true] at hcd
          exact eq_of_beq hcd.1.1
        simp only [hcd, if_true, List.lookup_cons] at z
        cases e : x == n with
        | true => rw [eq_of_beq e, kf]; exact List.mem_cons_self
        | false => rw [e] at z; exact List.mem_cons_of_mem _ (ih' z)
      · simp only [hcd, Bool.false_eq_true, if_false, List.lookup_cons] at z
        cases e : x == n with
        | true =>
          rw [e] at z
          rcases z with z | z
          · exact absurd (Option.some.inj z) hk
          · rw [eq_of_beq e, Option.some.inj z]; exact List.mem_cons_self
        | false => rw [e] at z; exact List.mem_cons_of_mem _ (ih' z)
  exact all scope.names hc h

section
variable {prog : Program} {w : World} {A : Around} {R : Result → Shared → Prop} {s : Shared}
/-- the tests of a block -/
noncomputable abbrev ifsOf (ifs : List Expr) (env : Env) : Sem Bool := forIn ifs true fun c r => if r = true then do let ok ← isTrue c env (eval c env); pure (ForInStep.yield ok) else pure (ForInStep.yield r)
/-- the block's loop, nothing raised in it -/
theorem blk_loop {elt target iter : Expr} {ifs : List Expr} {scope : Scope} {pos : Pos} {it acc : Value} {env : Env} (I : Nat → Shared → Prop)
    (turn : ∀ n s, I n s → wpAny (model prog w) A (pyNext it) (fun r s1 => match r with
      | none => R (.ok .next) s1
      | some v => wpAny (model prog w) A (letOwnedTupleGo target it v) (fun _ s2 => wpAny (model prog w) A (assign target env v) (fun _ s3 => wpAny (model prog w) A (ifsOf ifs env) (fun ok s4 =>
          if ok = true then wpAny (model prog w) A (eval elt env) (fun x s5 => wpAny (model prog w) A (call (.builtin "list.append") [acc, x]) (fun _ s6 => ∃ m, m < n ∧ I m s6) (fun _ _ => False) s5) (fun _ _ => False) s4
          else ∃ m, m < n ∧ I m s4) (fun _ _ => False) s3) (fun _ _ => False) s2) (fun _ _ => False) s1) (fun _ _ => False) s)
    (n : Nat) (h : I n s) : codeAny (model prog w) A (.compLoop (.ListComp elt [⟨target, iter, ifs, 0⟩] scope pos) 0 it acc env) R s := by
  refine codeAny_loop rfl I (fun n s hI => ?_) n h
  have core : wpAny (model prog w) A (compTurn (.ListComp elt [⟨target, iter, ifs, 0⟩] scope pos) 0 it acc env)
      (fun fin s' => match fin with | .done f => R (.ok f) s' | .again c' => c' = .compLoop (.ListComp elt [⟨target, iter, ifs, 0⟩] scope pos) 0 it acc env ∧ ∃ m, m < n ∧ I m s') (fun _ _ => False) s := by
    rw [compTurn_list]
    refine wpAny_bind (wpAny_standAt (wpAny_bind (wpAny_mono (turn n s hI) (fun r s1 h1 => ?_) fun _ _ e => e)))
    cases r with
    | none => exact wpAny_pure h1
    | some v =>
      refine wpAny_bind (wpAny_mono h1 (fun _ s2 h2 => ?_) fun _ _ e => e)
      refine wpAny_bind (wpAny_mono h2 (fun _ s3 h3 => wpAny_bind (wpAny_mono h3 (fun ok s4 h4 => ?_) fun _ _ e => e)) fun _ _ e => e)
      cases ok with
      | false => exact wpAny_pure ⟨rfl, h4⟩
      | true =>
        exact wpAny_bind (wpAny_bind (wpAny_mono h4 (fun x s5 h5 => wpAny_bind (wpAny_mono h5 (fun _ s6 h6 => wpAny_pure (wpAny_pure ⟨rfl, h6⟩)) fun _ _ e => e)) fun _ _ e => e))
  show wpAny _ A ((compTurn (.ListComp elt [⟨target, iter, ifs, 0⟩] scope pos) 0 it acc env).onRaise (fun x => do noteFrame x env; theTreesLotGoes x)) _ _ s
  exact wpAny_noted (wpAny_mono core (fun _ _ q => q) fun _ _ e => e.elim)
end
end L2

set_option linter.all false
set_option maxHeartbeats 4000000
set_option maxRecDepth 100000
namespace L2
open PySem PySem.Spec PyProof.Rows

/-! ### comprehensions -/
/-- the block's names: its own, then those that it closes over, by their places in the def -/
noncomputable def capN (N : List Str) (own : List Str) (cap : List Nat) : List Str := own ++ cap.map fun j => N.getD j Str.empty
noncomputable def capS (own : List Str) (cap : List Nat) (σ : St) : St := own.map (fun _ => (none : Option V)) ++ cap.map fun j => (σ[j]?).getD none
/-- σ' knows what σ knows -/
structure Wk (σ σ' : St) : Prop where
  len : σ'.length = σ.length
  val : ∀ (i : Nat) v, σ[i]? = some (some v) → σ'[i]? = some (some v)
theorem Wk.set {σ : St} {i : Nat} {x : V} (h : σ[i]? = some none) : Wk σ (σ.set i (some x)) := by
  refine ⟨by simp, fun j v e => ?_⟩
  by_cases ij : i = j
  · subst ij; rw [h] at e; cases e
  · rw [List.getElem?_set_ne ij]; exact e

structure Blk (esc : Scope) (N : List Str) (scope : Scope) (own : List Str) (cap : List Nat) : Prop where
  kind : scope.kind = .function
  nocell : ∀ y ∈ scope.names, y.2 ≠ .cell
  names : ∀ y ∈ scope.names, y.2 = .local → scope.names.lookup y.1 = some .local
  free : ∀ y ∈ scope.names, y.2 = .free → esc.names.lookup y.1 = some .cell ∨ esc.names.lookup y.1 = some .free
  capf : ∀ j ∈ cap, scope.names.lookup (N.getD j Str.empty) = some .free

noncomputable abbrev Cx.blk (X : Cx) (scope : Scope) (cl : List (Str × Addr)) (C : Addr) (N' : List Str) (s2 : Shared) (H2 : Hp) (ex : List Addr) : Cx where
  prog := X.prog
  w := X.w
  K := X.K
  mg := X.mg
  base := X.base
  A := X.A
  N := N'
  s₀ := s2
  H₀ := H2
  env := compEnvC scope cl C X.env
  outer := X.stack
  stack := X.stack
  ex := ex
  fn := fun _ => false
  calm := X.calm
  pn := []
  xe := fun _ _ => False

theorem lookup_relabel_free {env : Env} : ∀ {names : List (Str × NameKind)} {x : Str}, names.lookup x = some .free →
    (names.map fun (n, k) => if (k == NameKind.free && env.scope.kind == .function && env.kindOf n == some .cell) then (n, NameKind.cell) else (n, k)).lookup x = some .cell ∨
    (names.map fun (n, k) => if (k == NameKind.free && env.scope.kind == .function && env.kindOf n == some .cell) then (n, NameKind.cell) else (n, k)).lookup x = some .free
  | [], _, h => by simp at h
  | (n, k) :: r, x, h => by
    have ih := @lookup_relabel_free env r x
    simp only [List.map_cons]
    rw [List.lookup_cons] at h
    by_cases hc : (k == NameKind.free && env.scope.kind == .function && env.kindOf n == some .cell) = true
    · simp only [hc, if_true, List.lookup_cons]
      cases e : x == n with
      | true => exact .inl rfl
      | false => rw [e] at h; exact ih h
    · simp only [hc, Bool.false_eq_true, if_false, List.lookup_cons]
      cases e : x == n with
      | true => rw [e] at h; exact .inr h
      | false => rw [e] at h; exact ih h

section
variable {X : Cx} {pins : List (Addr × Obj)} {σ : St} {H2 : Hp} {s2 : Shared} {scope : Scope} {own : List Str} {cap : List Nat} {cl : List (Str × Addr)} {fp : List Addr} {C : Addr}

theorem blk_ok (B : Blk X.env.scope X.N scope own cap) (I2 : Inv X pins σ H2 s2) (f2 : ∀ b ∈ fp, FpOk X pins H2 b) (fl : ∀ b ∈ fp, b < s2.heap.objs.size) (hC : s2.heap.objs.size ≤ C)
    (h1 : ∀ x c, cl.lookup x = some c → X.env.cells.lookup x = some c) (h2 : ∀ x, (x, NameKind.free) ∈ scope.names → ∃ c, cl.lookup x = some c) : (X.blk scope cl C (capN X.N own cap) s2 H2 fp).Ok where
  mod := I2.ok.mod
  kind := B.kind
  glob := I2.ok.glob
  blt := I2.ok.blt
  above := hC
  inj := fun x y c e1 e2 => I2.ok.inj x y c (h1 x c e1) (h1 y c e2)
  has := fun x hx => h2 x (relabel_free B.nocell hx)
  cab := fun x c hx => absurd hx Bool.false_ne_true
  hd := I2.ok.hd
  frames := I2.ok.frames
  stk := .inl rfl
  exf := fun b hb => ⟨Nat.ne_of_lt (Nat.lt_of_lt_of_le (fl b hb) hC), fun x c e => (f2 b hb).2.2.2.2.1 x c (h1 x c e)⟩
  bs := I2.bs
  bsz := Nat.le_trans I2.ok.bsz I2.sz
  noex := fun b o e hb => by
    rcases (f2 b hb).2.2.2.1 with z | z
    · exact I2.ok.noex b o e z
    · exact absurd (Nat.lt_of_lt_of_le (Heap.lt_size e) (Nat.le_trans I2.ok.bsz z)) (Nat.lt_irrefl _)
  exfs := fun b hb hz => by
    rcases List.mem_cons.mp (I2.stkSub b hz) with z | z
    · exact (f2 b hb).2.1 z
    · exact (f2 b hb).2.2.1 z
  funs := I2.stack
  frf := I2.stkFree

/-- the block begins -/
theorem blk_start {h4 : Heap} {tk : Nat} {m : Str → Option Value} {D : Addr} {o : Obj} (B : Blk X.env.scope X.N scope own cap) (I2 : Inv X pins σ H2 s2) (f2 : ∀ b ∈ fp, FpOk X pins H2 b) (fl : ∀ b ∈ fp, b < s2.heap.objs.size) (hC : s2.heap.objs.size ≤ C)
    (h1 : ∀ x c, cl.lookup x = some c → X.env.cells.lookup x = some c) (h2 : ∀ x, (x, NameKind.free) ∈ scope.names → ∃ c, cl.lookup x = some c)
    (kp : ∀ b o, s2.heap.get? b = some o → h4.get? b = some o) (hn : h4.Ns C m) (hD : h4.get? D = some o) (hDs : s2.heap.objs.size ≤ D) (hDC : D ≠ C) (hod : ∀ v, o.data ≠ .cell v) :
    Inv (X.blk scope cl C (capN X.N own cap) s2 H2 fp) [(D, o)] (capS own cap σ) H2 { s2 with heap := h4, toks := tk } where
  ok := blk_ok B I2 f2 fl hC h1 h2
  os := rfl
  bare := I2.bare
  base := Un.kept kp
  loc := by
    refine ⟨m, hn, fun i x v e1 e2 _ => ?_⟩
    have e1 : (capN X.N own cap)[i]? = some x := e1
    unfold capS at e2
    unfold capN at e1
    by_cases hi : i < own.length
    · rw [List.getElem?_append_left (by simpa using hi), List.getElem?_map] at e2
      cases q : own[i]? with
      | none => rw [q] at e2; cases e2
      | some y => rw [q] at e2; cases e2
    · rw [List.getElem?_append_right (by simpa using hi), List.getElem?_map, List.length_map] at e2
      rw [List.getElem?_append_right (by (first | lia | omega)), List.getElem?_map] at e1
      cases q : cap[i - own.length]? with
      | none => rw [q] at e2; cases e2
      | some j =>
        rw [q] at e1 e2
        have hx : X.N.getD j Str.empty = x := Option.some.inj e1
        have hv : (σ[j]?).getD none = some v := Option.some.inj e2
        have hσ : σ[j]? = some (some v) := by
          cases z : σ[j]? with
          | none => rw [z] at hv; cases hv
          | some y => rw [z] at hv; exact congrArg some hv
        have hj : j < X.N.length := by rw [← I2.len]; exact (List.getElem?_eq_some_iff.mp hσ).1
        have hNj : X.N[j]? = some x := by
          rw [← hx, List.getD_eq_getElem?_getD, List.getElem?_eq_getElem hj]; rfl
        have hf := B.capf j (List.mem_of_getElem? q)
        rw [hx] at hf
        have hk := B.free (x, .free) (mem_of_lookup hf) rfl
        obtain ⟨m2, _, hl⟩ := I2.loc
        obtain ⟨u, r, lk⟩ := hl j x v hNj hσ (.inr hk)
        refine ⟨u, r, .inr ⟨lookup_relabel_free hf, ?_⟩⟩
        rcases lk with ⟨z, _⟩ | ⟨_, c, ec, ic⟩
        · have z' : X.env.scope.names.lookup x = some .local := z
          rcases hk with q | q <;> (rw [z'] at q; cases q)
        · obtain ⟨c', e'⟩ := h2 x (mem_of_lookup hf)
          have e'' := h1 x c' e'
          rw [ec] at e''
          cases e''
          obtain ⟨oc, hoc, hd⟩ := ic
          exact ⟨c, e', oc, kp _ _ hoc, hd⟩
  cell := fun x c e => by
    obtain ⟨v, oc, hoc, hd⟩ := I2.cell x c (h1 x c e)
    exact ⟨v, oc, kp _ _ hoc, hd⟩
  free := I2.hok.fresh hC
  freeC := fun x c e => I2.freeC x c (h1 x c e)
  pin := fun p hp => by
    have e : p = (D, o) := by simpa using hp
    subst e
    exact ⟨hD, I2.hok.fresh hDs, hDC, fun hz => by
      obtain ⟨_, q, hq, _⟩ := I2.stack.mem hz
      exact absurd (Nat.lt_of_lt_of_le (Heap.lt_size hq) hDs) (Nat.lt_irrefl _), hod⟩
  hok := I2.hok.kept kp
  len := by
    show (capS own cap σ).length = (capN X.N own cap).length
    unfold capS capN
    simp

/-- the tests of a block -/
noncomputable def PIf (X : Cx) (ifs : List Expr) (t : TT) : Prop :=
  ∀ (pins : List (Addr × Obj)) (s : Shared) (σ : St) (H : Hp) (Q : Bool → Hp → Prop), Inv X pins σ H s → t σ H Q → wpAny (model X.prog X.w) X.A (ifsOf ifs X.env) (TP X pins σ Q) X.xe s
noncomputable def tYes : TT := fun _ H Q => Q true H
theorem pif_nil : PIf X [] tYes := fun _ _ _ H _ I h => wpAny_tests_nil ⟨H, I, h⟩
theorem pif_one {c : Expr} {t : TT} (h : PT X c t) : PIf X [c] t := fun pins s σ H Q I q => wpAny_tests_one (h pins s σ H Q I q)

/-- what a block is to do: W: by the turn, a measure, what was gathered, the heap -/
noncomputable def tBlk (own : List Str) (cap : List Nat) (g : TG) (tt : TT) (te : TE) (σ : St) (Z : List V → Hp → Prop) (J : It) (H1 : Hp) : Prop :=
  ∃ W : Nat → Nat → List V → Hp → Prop, (∃ m, W 0 m [] H1) ∧ ∀ i m acc H2, W i m acc H2 → acc.length < sizeLine ∧
    ((J.stop i H2 ∧ Z acc H2) ∨
     (J.go i H2 ∧ ∀ x H3, J.yld i H2 x H3 → g x (capS own cap σ) H3 fun σ4 H4 => Wk (capS own cap σ) σ4 ∧ tt σ4 H4 fun b H5 =>
        if b = true then te σ4 H5 fun v H6 => ∃ m', m' < m ∧ W (i + 1) m' (acc ++ [v]) H6 else ∃ m', m' < m ∧ W (i + 1) m' acc H5))

theorem blk_run {tg elt iter : Expr} {ifs : List Expr} {pos : Pos} {g : TG} {tt : TT} {te : TE} {J : It} {it : Addr} {tn : Nat → Heap → Prop} {Z : List V → Hp → Prop} {E : Value → Shared → Prop} {RR : Value → Addr → Result → Shared → Prop}
    (hc : X.calm = true) (B : Blk X.env.scope X.N scope own cap) (I2 : Inv X pins σ H2 s2) (T : Turn X.prog X.w X.K tg J fp it tn) (st2 : tn 0 s2.heap) (f2 : ∀ b ∈ fp, FpOk X pins H2 b)
    (h1 : ∀ x c, cl.lookup x = some c → X.env.cells.lookup x = some c) (h2 : ∀ x, (x, NameKind.free) ∈ scope.names → ∃ c, cl.lookup x = some c)
    (hg : ∀ cl C s2 H2 ex, PG (X.blk scope cl C (capN X.N own cap) s2 H2 ex) tg g) (ht : ∀ cl C s2 H2 ex, PIf (X.blk scope cl C (capN X.N own cap) s2 H2 ex) ifs tt) (he : ∀ cl C s2 H2 ex, PE (X.blk scope cl C (capN X.N own cap) s2 H2 ex) elt te)
    (w : tBlk own cap g tt te σ Z J H2)
    (hRR : ∀ (D C : Addr) (acc : List V) (H' : Hp) (s' : Shared), Inv X pins σ (upd H' D (.lst acc)) s' → D ≠ C → H' D = none → H' C = none → (∃ m, s'.heap.Ns C m) →
      (∀ σ'' H'' s'' h', Inv X pins σ'' H'' s'' → H'' C = none → Heap.SameBut C s''.heap h' → Inv X pins σ'' H'' { s'' with heap := h' }) → (∀ x c, X.env.cells.lookup x = some c → c ≠ C) → C ≠ X.env.locals → Z acc H' → RR (.ref D) C (.ok .next) s') :
    wpAny (model X.prog X.w) X.A (newList []) (fun acc s3 => wpAny (model X.prog X.w) X.A (newFunctionEnv scope X.env.globals cl [] X.env.qual none .none (some X.env)) (fun cenv s4 =>
      codeAny (model X.prog X.w) X.A (.compStart (.ListComp elt [⟨tg, iter, ifs, 0⟩] scope pos) 0 (.ref it) acc { cenv with scope := relabel scope X.env }) (RR acc cenv.locals) s4) E s3) E s2 := by
  obtain ⟨W, ⟨m0, w0⟩, turn⟩ := w
  have fl : ∀ b ∈ fp, b < s2.heap.objs.size := fun b hb => by obtain ⟨o, ho, _⟩ := T.obj 0 _ st2 b hb; exact Heap.lt_size ho
  refine wpAny_newObj_type (wpAny_newFunctionEnv B.nocell (by intro y hy; simp at hy) (fun h4 hns hsb => ?_) B.kind)
  dsimp only at hns hsb ⊢
  generalize hH3 : s2.heap.push { cls := .type "list", dict := none, data := .seq ([] : List Value).toArray } = H3 at hns hsb ⊢
  have hCs : H3.objs.size = s2.heap.objs.size + 1 := by rw [← hH3, Heap.size_push]
  have hDC : s2.heap.objs.size ≠ H3.objs.size := by rw [hCs]; exact Nat.ne_of_lt (Nat.lt_succ_self _)
  have hC : s2.heap.objs.size ≤ H3.objs.size := by rw [hCs]; exact Nat.le_succ _
  have kp : ∀ b o, s2.heap.get? b = some o → h4.get? b = some o := fun b o e => hsb.extBut b o (Nat.ne_of_lt (Nat.lt_of_lt_of_le (Heap.lt_size e) hC)) (Heap.get?_push_of_some _ (hH3 ▸ Heap.get?_push_of_some _ e))
  have hD4 : h4.get? s2.heap.objs.size = some { cls := .type "list", data := .seq ([] : List Value).toArray 0 } := hsb.extBut _ _ hDC (Heap.get?_push_of_some _ (hH3 ▸ Heap.get?_push_size _ rfl))
  generalize hCe : H3.objs.size = C at hns hsb hCs hDC hC ⊢
  generalize hDe : s2.heap.objs.size = D at hD4 hDC ⊢
  have hDs : s2.heap.objs.size ≤ D := Nat.le_of_eq hDe
  have flD : ∀ b ∈ fp, b ≠ D := fun b hb z => by have := fl b hb; rw [z, hDe] at this; exact Nat.lt_irrefl _ this
  have celD : ∀ x c, cl.lookup x = some c → c ≠ D := fun x c e z => by
    obtain ⟨v, q⟩ := I2.cell x c (h1 x c e)
    have := q.lt
    rw [z, hDe] at this
    exact Nat.lt_irrefl _ this
  let Y : Cx := X.blk scope cl C (capN X.N own cap) s2 H2 fp
  have lo : ∀ (its : List Value) (ep : Nat) (v : Option Value), ({ cls := .type "list", data := .seq its.toArray ep } : Obj).data ≠ .cell v := fun its ep v z => by
    have z' : Data.seq its.toArray ep = Data.cell v := z
    cases z'
  -- what stays true of the iterator's objects
  have fpY : ∀ {H' : Hp} {its : List Value} {ep : Nat}, (∀ b ∈ fp, H' b = none) → ∀ b ∈ fp, FpOk Y [(D, ({ cls := .type "list", data := .seq its.toArray ep } : Obj))] H' b := fun {H' its ep} hn b hb => by
    refine ⟨hn b hb, Nat.ne_of_lt (Nat.lt_of_lt_of_le (fl b hb) hC), fun hz => ?_, .inl hb, fun x c e => (f2 b hb).2.2.2.2.1 x c (h1 x c e), fun p hp => ?_⟩
    · rcases List.mem_cons.mp (I2.stkSub b hz) with z | z
      · exact (f2 b hb).2.1 z
      · exact (f2 b hb).2.2.1 z
    · rcases List.mem_append.mp hp with hp | hp
      · exact absurd (show p ∈ ([] : List (Addr × Obj)) from hp) (by simp)
      · have e : p = (D, ({ cls := .type "list", data := .seq its.toArray ep } : Obj)) := by simpa using hp
        subst e
        exact Ne.symm (flD b hb)
  have loop : ∀ s4 : Shared, s4 = { s2 with heap := h4, toks := s2.toks + ([] : List (Str × Value)).length } →
      codeAny (model X.prog X.w) X.A (.compLoop (.ListComp elt [⟨tg, iter, ifs, 0⟩] scope pos) 0 (.ref it) (.ref D) (compEnvC scope cl C X.env)) (RR (.ref D) C) s4 := by
    rintro s4 rfl
    refine blk_loop (fun n s' => ∃ i acc its ep H', Inv Y [(D, ({ cls := .type "list", data := .seq its.toArray ep } : Obj))] (capS own cap σ) H' s' ∧ tn i s'.heap ∧ (∀ b ∈ fp, H' b = none) ∧ Vals acc its ∧ W i n acc H') ?_ m0
      ⟨0, [], [], 0, H2, blk_start B I2 f2 fl hC h1 h2 kp hns hD4 hDs hDC (lo [] 0), T.keep 0 _ _ st2 fun b _ o e => kp b o e, fun b hb => (f2 b hb).1, .nil, w0⟩
    rintro n s5 ⟨i, acc, its, ep, H5, I5, st5, fr5, vl, w5⟩
    obtain ⟨room, alt⟩ := turn i n acc H5 w5
    have vlen := vl.length
    rcases alt with ⟨stop, zq⟩ | ⟨go, step⟩
    · refine thn (T.done Y rfl rfl rfl hc i _ s5 _ H5 (fun _ _ => False) I5 (fpY fr5) st5 stop) fun r s6 ⟨hr, I6⟩ => ?_
      subst hr
      show RR (.ref D) C (.ok .next) s6
      have pD := I6.pin (D, ({ cls := .type "list", data := .seq its.toArray ep } : Obj)) (List.mem_append_right _ (List.mem_singleton.mpr rfl))
      have fC : H5 C = none := I6.free
      have nD : ∀ b u, H5 b = some u → b ≠ D := fun b u e z => by rw [z, pD.2.1] at e; cases e
      have bD : ∀ b o, s2.heap.get? b = some o → b ≠ D := fun b o e z => by have := Heap.lt_size e; rw [z, hDe] at this; exact Nat.lt_irrefl _ this
      have un : Un (frs X.stack) fp H2 (upd H5 D (.lst acc)) s2.heap s6.heap :=
        ⟨I6.base.keep, I6.base.slot, fun b o e n x => by rw [upd_ne (bD b o e)]; exact I6.base.free b o e n x, I6.base.there,
          fun b xs e => by have q := I6.base.tups b xs e; rw [upd_ne (nD b _ q)]; exact q, fun b o u e => by have q := I6.base.frzs b o u e; rw [upd_ne (nD b _ q)]; exact q,
          fun b ps e => by obtain ⟨mo, q⟩ := I6.base.tbls b ps e; exact ⟨mo, by rw [upd_ne (nD b _ q)]; exact q⟩⟩
      have hok : HOk X.prog X.w (upd H5 D (.lst acc)) s6.heap := fun b u e => by
        by_cases hb : b = D
        · subst hb
          rw [upd_same] at e
          cases e
          exact ⟨Nat.le_of_lt room, its, ep, vl, pD.1⟩
        · rw [upd_ne hb] at e
          exact (I6.hok b u e).stay (fun c v _ q => q) (fun c q => by rw [upd_ne (nD c _ q)]; exact q) fun c xs q => by rw [upd_ne (nD c _ q)]; exact q
      have IX : Inv X pins σ (upd H5 D (.lst acc)) s6 := I2.call' I6.os un hok I6.bare fun b hb => ⟨(f2 b hb).2.2.2.1, (f2 b hb).2.1, (f2 b hb).2.2.2.2.1, (f2 b hb).2.2.2.2.2⟩
      obtain ⟨mm, hmm, _⟩ := I6.loc
      have cC : ∀ x c, X.env.cells.lookup x = some c → c ≠ C := fun x c e z => by
        obtain ⟨v, q⟩ := I2.cell x c e
        exact absurd (Nat.lt_of_lt_of_le q.lt (by rw [z]; exact hC)) (Nat.lt_irrefl _)
      have lC : C ≠ X.env.locals := Nat.ne_of_gt (Nat.lt_of_lt_of_le I2.lt hC)
      refine hRR D C acc H5 s6 IX hDC pD.2.1 fC ⟨mm, hmm⟩ (fun σ'' H'' s'' h' J'' hn hs => ?_) cC lC zq
      exact J''.turned (t' := s''.toks) (fun b o hb e => (hs.2 b hb).trans e) hn lC (.inr (Nat.le_trans I2.sz hC)) cC fun p hp z => by
        have := Heap.lt_size (I2.pin p hp).1
        exact absurd (Nat.lt_of_lt_of_le this (by rw [z]; exact hC)) (Nat.lt_irrefl _)
    · refine thn (T.item Y rfl rfl rfl hc i _ s5 _ H5 (fun _ _ => False) I5 (fpY fr5) st5 go) fun r s6 ⟨u, hr, h6⟩ => ?_
      subst hr
      refine thn h6 fun _ s7 ⟨x, H7, I7, r7, y7, st7, fr7⟩ => ?_
      have I7' := I7.pinned (fpY fr7) (T.obj _ _ st7)
      refine thn (hg cl C s2 H2 fp _ s7 _ H7 x u _ I7' r7 (step x H7 y7)) fun _ s8 ⟨σ8, H8, I8, wk8, q8⟩ => ?_
      refine thn (ht cl C s2 H2 fp _ s8 σ8 H8 _ I8 q8) fun ok s9 ⟨H9, I9, q9⟩ => ?_
      have unpin : ∀ {its' : List Value} {ep' : Nat} {H' : Hp} {s' : Shared} {acc' : List V} {m' : Nat}, Inv Y ([(D, ({ cls := .type "list", data := .seq its'.toArray ep' } : Obj))] ++ pinsAt fp s7.heap) σ8 H' s' → Vals acc' its' → W (i + 1) m' acc' H' → m' < n →
          ∃ m, m < n ∧ ∃ i acc its ep H'', Inv Y [(D, ({ cls := .type "list", data := .seq its.toArray ep } : Obj))] (capS own cap σ) H'' s' ∧ tn i s'.heap ∧ (∀ b ∈ fp, H'' b = none) ∧ Vals acc its ∧ W i m acc H'' := fun {its' ep' H' s' acc' m'} J v' w' hm => by
        refine ⟨m', hm, i + 1, acc', its', ep', H', (J.unpinned).weak wk8.len.symm wk8.val, T.keep _ _ _ st7 fun b hb o e => (J.pin (b, o) (List.mem_append_right _ (List.mem_append_right _ (mem_pinsAt hb e)))).1, fun b hb => ?_, v', w'⟩
        obtain ⟨o, e, d⟩ := T.obj _ _ st7 b hb
        exact (J.pin (b, o) (List.mem_append_right _ (List.mem_append_right _ (mem_pinsAt hb e)))).2.1
      cases ok with
      | false =>
        rw [if_neg Bool.false_ne_true] at q9 ⊢
        obtain ⟨m', hm, w'⟩ := q9
        exact unpin I9 vl w' hm
      | true =>
        rw [if_pos rfl] at q9 ⊢
        refine thn (he cl C s2 H2 fp _ s9 σ8 H9 _ I9 q9) fun v s10 ⟨y, H10, I10, r10, m', hm, w'⟩ => ?_
        have pD := I10.pin (D, ({ cls := .type "list", data := .seq its.toArray ep } : Obj)) (List.mem_append_right _ (List.mem_append_left _ (List.mem_singleton.mpr rfl)))
        refine call_meets F.slot_list_append ⟨_, pD.1, rfl⟩ F.entry_list_append (F.args_list_append_2 _ _) (PySem.list_append D its.toArray ep v (by rw [List.size_toArray]; (first | lia | omega))) ⟨pD.1, ?_⟩
        have eD := PySem.IsL.update pD.1 (·.push v)
        have ea : its.toArray.push v = (its ++ [v]).toArray := by simp
        rw [ea] at eD
        generalize (if (its ++ [v]).toArray.size == its.toArray.size then ep else ep + 1) = ep2 at eD
        have pl : ∀ p ∈ pinsAt fp s7.heap, p.1 ≠ D := fun p hp => flD p.1 (of_pinsAt hp).1
        have I11 : Inv Y (pinsAt fp s7.heap) σ8 H10 s10 := I10.pins_of fun p hp => I10.pin p (List.mem_append_right _ (List.mem_append_right _ hp))
        have I12 := I11.turned (it := D) (t' := s10.toks) (h' := s10.heap.update D (Obj.mapSeq (·.push v))) (fun b o hb e => (Heap.get?_update_other _ _ (Ne.symm hb)).trans e) pD.2.1 hDC (.inr hDs) celD (fun p hp => pl p ((List.mem_append.mp hp).elim (fun z => absurd (show p ∈ ([] : List (Addr × Obj)) from z) (by simp)) id))
        have I13 := I12.pins_of (pins' := [(D, ({ cls := .type "list", data := .seq (its ++ [v]).toArray ep2 } : Obj))] ++ pinsAt fp s7.heap) fun p hp => by
          rcases List.mem_append.mp hp with hp | hp
          · have e : p = (D, ({ cls := .type "list", data := .seq (its ++ [v]).toArray ep2 } : Obj)) := by simpa using hp
            subst e
            exact ⟨eD, pD.2.1, hDC, pD.2.2.2.1, lo _ _⟩
          · exact I12.pin p (List.mem_append_right _ hp)
        exact unpin I13 (vl.append (.cons r10 .nil)) w' hm
  exact codeAny_compStart_list (loop _ rfl) (T.self _ 0 _ _ _ (T.keep 0 _ _ st2 fun b _ o e => kp b o e) (loop _ rfl))
end

section
variable {X : Cx} {tg elt iter : Expr} {ifs : List Expr} {scope : Scope} {pos : Pos} {own : List Str} {cap : List Nat} {wi : TI} {g : TG} {tt : TT} {te : TE}
theorem blk_clos {pins : List (Addr × Obj)} {σ : St} {H : Hp} {s : Shared} (B : Blk X.env.scope X.N scope own cap) (I : Inv X pins σ H s) : ∃ cl, closureFor scope X.env = pure cl ∧ (∀ x c, cl.lookup x = some c → X.env.cells.lookup x = some c) ∧ ∀ x, (x, NameKind.free) ∈ scope.names → ∃ c, cl.lookup x = some c :=
  closure_of fun x hx => I.ok.has x (B.free (x, .free) hx rfl)

/-- [e for x in it if t] -/
noncomputable def tComp (wi : TI) (own : List Str) (cap : List Nat) (g : TG) (tt : TT) (te : TE) : TE := fun σ H Q => wi σ H fun J H1 => tBlk own cap g tt te σ (fun acc H2 => ∀ p, H2 p = none → Q (.ref p) (upd H2 p (.lst acc))) J H1
theorem pe_comp (B : Blk X.env.scope X.N scope own cap) (hc : X.calm = true) (hi : PI X tg iter wi) (hg : ∀ cl C s2 H2 ex, PG (X.blk scope cl C (capN X.N own cap) s2 H2 ex) tg g) (ht : ∀ cl C s2 H2 ex, PIf (X.blk scope cl C (capN X.N own cap) s2 H2 ex) ifs tt)
    (he : ∀ cl C s2 H2 ex, PE (X.blk scope cl C (capN X.N own cap) s2 H2 ex) elt te) (hs : ∀ x, foldedSetIterable iter X.env x = pure x := by intro _; rfl) : PE X (.ListComp elt [⟨tg, iter, ifs, 0⟩] scope pos) (tComp wi own cap g tt te) := by
  intro pins s σ H Q I h
  obtain ⟨cl, hcl, h1, h2⟩ := blk_clos B I
  rw [eval_ListComp]
  refine wpAny_comprehension_free (use := none) rfl hs hcl B.kind B.names (thn (hi pins s σ H _ I h) fun v s1 q1 => thn q1 fun itv s2 q2 => ?_)
  obtain ⟨it, fp, tn, J, H2, e, I2, T, st2, f2, w⟩ := q2
  subst e
  refine blk_run (RR := fun acc C => compPost (model X.prog X.w) X.A X.xe none (EP X pins σ Q) acc C) hc B I2 T st2 f2 h1 h2 hg ht he w ?_
  intro D C acc H' s' IX hDC fD fC hn tu _ _ z
  obtain ⟨m, hn⟩ := hn
  exact ⟨m, hn, fun h' hs' => ⟨.ref D, _, tu σ _ s' h' IX (by rw [upd_ne (Ne.symm hDC)]; exact fC) hs', rfl, z D fD⟩⟩
/-- x = [e for ..], stored by an exchange -/
theorem ps_setComp {i : Nat} {y : Str} {py spos : Pos} (B : Blk X.env.scope X.N scope own cap) (hc : X.calm = true) (hi : PI X tg iter wi) (hg : ∀ cl C s2 H2 ex, PG (X.blk scope cl C (capN X.N own cap) s2 H2 ex) tg g) (ht : ∀ cl C s2 H2 ex, PIf (X.blk scope cl C (capN X.N own cap) s2 H2 ex) ifs tt)
    (he : ∀ cl C s2 H2 ex, PE (X.blk scope cl C (capN X.N own cap) s2 H2 ex) elt te) (hN : X.N.Nodup) (hy : X.N[i]? = some y) (hl : X.env.scope.names.lookup y = some .local)
    (hsw : swapsWith (.ListComp elt [⟨tg, iter, ifs, 0⟩] scope pos) (some (.Name y py)) spos.line X.env = pure true := by rfl)
    (hs : ∀ x, foldedSetIterable iter X.env x = pure x := by intro _; rfl) : PS X (.Assign [.Name y py] (.ListComp elt [⟨tg, iter, ifs, 0⟩] scope pos) spos) (tAsg (tComp wi own cap g tt te) (gName i)) := by
  intro pins s σ H D0 I h
  obtain ⟨cl, hcl, h1, h2⟩ := blk_clos B I
  rw [exec_Assign_Name_used _ _ _ _ hsw]
  refine wpAny_bind (wpAny_standAt (wpAny_bind ?_))
  show wpAny _ X.A (do let _ ← comprehension (.ListComp elt [⟨tg, iter, ifs, 0⟩] scope pos) scope X.env _ (newList []) false (eval iter X.env) (some (assign (.Name y py) X.env))) _ _ s
  refine wpAny_bind (thn (Q := fun _ s' => SP X pins D0 .next s') (wpAny_comprehension_free (use := some (assign (.Name y py) X.env)) rfl hs hcl B.kind B.names (thn (hi pins s σ H _ I h) fun v s1 q1 => thn q1 fun itv s2 q2 => ?_)) fun _ s' q => wpAny_pure (wpAny_pure q))
  obtain ⟨it, fp, tn, J, H2, e, I2, T, st2, f2, w⟩ := q2
  subst e
  refine blk_run (RR := fun acc C => compPost (model X.prog X.w) X.A X.xe (some (assign (.Name y py) X.env)) (fun _ s' => SP X pins D0 .next s') acc C) hc B I2 T st2 f2 h1 h2 hg ht he w ?_
  intro D C acc H' s' IX hDC fD fC hn tu cC lC z
  obtain ⟨m, hn⟩ := hn
  show wpAny _ X.A (assign (.Name y py) X.env (.ref D)) _ _ s'
  refine wpAny_assign_Name (store_ok2 IX hN hy (.inl hl) (v := .ref D) rfl (fun s'' I'' ⟨a, sb, ha⟩ => ?_) (.inr hl))
  have aC : C ≠ a := by
    rcases ha with e | e
    · rw [e]; exact lC
    · exact Ne.symm (cC _ _ e)
  exact ⟨m, hn.sameBut sb aC, fun h' hs' => ⟨_, _, tu _ _ s'' h' I'' (by rw [upd_ne (Ne.symm hDC)]; exact fC) hs', z D fD⟩⟩
end
end L2

set_option linter.all false
set_option maxHeartbeats 4000000
set_option maxRecDepth 100000
namespace L2
open PySem PySem.Spec PyProof.Rows

section
variable {P : Program} {w : World} {H : Hp} {h : Heap} {a : Addr} {o : HO}
theorem ObjOk.there (x : ObjOk P w H h a o) : ∃ u, h.get? a = some u := by
  induction o with
  | lst xs => obtain ⟨_, _, _, _, e⟩ := x; exact ⟨_, e⟩
  | tup xs => obtain ⟨_, _, _, q, e, _⟩ := x; exact ⟨_, e⟩
  | dK kvs => obtain ⟨_, _, _, _, q, _, _, e, _⟩ := x; exact ⟨_, e⟩
  | dT kvs => obtain ⟨_, _, _, _, q, _, _, e, _⟩ := x; exact ⟨_, e⟩
  | set S n => obtain ⟨q, _, _, _, e, _⟩ := x; exact ⟨_, e⟩
  | ins C dx fs => obtain ⟨_, _, _, e, _⟩ := x; exact ⟨_, e⟩
  | own y => exact x
  | xd fs => obtain ⟨_, ⟨q, _, _, e, _⟩, _⟩ := x; exact ⟨_, e⟩
  | rng lo hi => obtain ⟨_, _, _, e⟩ := x; exact ⟨_, e⟩
  | frz ob u ih => obtain ⟨e, _⟩ := x; exact ⟨_, e⟩
  | tbl ps => exact ⟨_, (show h.get? a = some _ from x)⟩
  | met f y => exact ⟨_, (show h.get? a = some _ from x)⟩
  | ext φ => obtain ⟨_, e, _⟩ := x; exact e
end

section
variable {X : Cx} {pins : List (Addr × Obj)} {σ : St} {H : Hp} {s : Shared} {h' : Heap} {a : Addr} {o : HO} {t' : Nat}
theorem Inv.no (I : Inv X pins σ H s) (hn : s.heap.get? a = none) : H a = none := by
  cases q : H a with
  | none => rfl
  | some u =>
    obtain ⟨v, e⟩ := (I.hok a u q).there
    rw [hn] at e; cases e
/-- all is kept, one more object is tracked at a place where none stood -/
theorem Inv.gain (I : Inv X pins σ H s) (k : ∀ b u, s.heap.get? b = some u → h'.get? b = some u) (hn : s.heap.get? a = none) (new : ObjOk X.prog X.w (upd H a o) h' a o) :
    Inv X pins σ (upd H a o) { s with heap := h', toks := t' } := by
  have hf := I.no hn
  have ne : ∀ b u, H b = some u → b ≠ a := fun b u e z => by rw [z, hf] at e; cases e
  have nb : ∀ b u, s.heap.get? b = some u → b ≠ a := fun b u e z => by rw [z, hn] at e; cases e
  refine I.un ⟨fun b u e _ _ _ => k b u e, fun b u e _ _ _ => ⟨u.slots, k b u e⟩, fun b u e n _ => by rw [upd_ne (nb b u e)]; exact n, fun b u e _ => ⟨u, k b u e⟩,
    fun b xs e => by rw [upd_ne (ne b _ e)]; exact e, fun b u v e => by rw [upd_ne (ne b _ e)]; exact e, fun b ps e => ⟨#[], by rw [upd_ne (ne b _ e), e]; simp⟩⟩ fun b u e => ?_
  by_cases hb : b = a
  · subst hb; rw [upd_same] at e; cases e; exact new
  · rw [upd_ne hb] at e
    exact (I.hok b u e).stay (fun c v _ q => k c v q) (fun c q => by rw [upd_ne (ne c _ q)]; exact q) fun c xs q => by rw [upd_ne (ne c _ q)]; exact q

/-! ### numbers of any size -/
theorem bits_of {i : Int} {m : Nat} (h1 : -(2 ^ m : Int) < i) (h2 : i < 2 ^ m) : Builtin.Int.intBits i ≤ m := by
  unfold Builtin.Int.intBits
  by_cases z : i.natAbs = 0
  · have z' : i = 0 := by (first | lia | omega)
    simp [z']
  · have hb : i.natAbs < 2 ^ m := by
      have e : ((2 ^ m : Nat) : Int) = (2 : Int) ^ m := by push_cast; rfl
      have q : (i.natAbs : Int) < ((2 ^ m : Nat) : Int) := by rw [e]; (first | lia | omega)
      exact Int.ofNat_lt.mp q
    have q := (Nat.log2_lt z).mpr hb
    split <;> (first | lia | omega)
noncomputable def CBig (i j : Int) : Prop := (-(2 ^ 200) < i ∧ i < 2 ^ 200) ∧ (-(2 ^ 200) < j ∧ j < 2 ^ 200)
theorem CBig.ok {i j : Int} (h : CBig i j) : IntMulOk i j := IntMulOk.of_le (bits_of h.1.1 h.1.2) (bits_of h.2.1 h.2.2) (by decide)
theorem op_mulB : OpR X (binaryOp .Mult) (rI CBig fun i j => .int (i * j)) := opI fun _ _ _ _ _ _ _ hc q => mul_int q hc.ok
noncomputable def CDivB (i j : Int) : Prop := 0 < j ∧ j < 2 ^ 200
theorem noPy {i j : Int} (h : CDivB i j) : Builtin.divisionGoesByPylong i j = false := by
  refine PyProof.noPylong_of_log2 ?_
  have hz : j.natAbs ≠ 0 := by have := h.1; (first | lia | omega)
  have hb : j.natAbs < 2 ^ 200 := by
    have e : ((2 ^ 200 : Nat) : Int) = (2 : Int) ^ 200 := by decide
    have q : (j.natAbs : Int) < ((2 ^ 200 : Nat) : Int) := by rw [e]; have := h.1; have := h.2; (first | lia | omega)
    exact Int.ofNat_lt.mp q
  have q := (Nat.log2_lt hz).mpr hb
  (first | lia | omega)
theorem op_fdivB : OpR X (binaryOp .FloorDiv) (rI CDivB fun i j => .int (i / j)) := opI fun i j _ _ _ _ _ hc q => by
  refine floordiv_int (by have := hc.1; (first | lia | omega)) ?_ (.inl (noPy hc))
  rw [Int.fdiv_eq_ediv_of_nonneg _ (by have := hc.1; (first | lia | omega))]
  exact q

/-! ### built-ins over lists -/
/-- sum of a list or a tuple of ints -/
theorem call_sum (hc : X.calm = true) : CallR X (.builtin "sum") (fun xs H Q => ∃ (p : Addr) (ns : List Int), xs = [.ref p] ∧ (SqL X.K H p (ns.map V.int) ∨ SqT X.K H p (ns.map V.int)) ∧ Q (.int ns.sum) H) := by
  intro pins s σ H xs us Q I r h
  obtain ⟨p, ns, rfl, hq, q⟩ := h
  obtain ⟨u, rfl, rx⟩ := vals1 r
  cases rx
  have hh := I.ok.hd hc
  have pre : ∀ (its : List Value), IntsAre its ns → preSum (fun i => ns.getD i 0) its.toArray.size = ns.sum := fun its hi => by
    rw [preSum_getD, List.take_of_length_le (by rw [List.size_toArray, hi.length]; exact Nat.le_refl _)]
  have val : ∀ (its : List Value), IntsAre its ns → ∀ (i : Nat) (v : Value), its.toArray[i]? = some v → ∃ t, v = .int (ns.getD i 0) t := fun its hi i v e => by
    have e' : its[i]? = some v := by simpa using e
    have hil : i < its.length := (List.getElem?_eq_some_iff.mp e').1
    obtain ⟨n, t, rfl⟩ := hi.all v (List.mem_of_getElem? e')
    refine ⟨t, ?_⟩
    have q := congrArg (fun l => l[i]?) hi.nums
    simp only [List.getElem?_map, e', Option.map_some] at q
    rw [List.getD_eq_getElem?_getD, ← q]; rfl
  have fin : ∀ (o : Obj) (s' : Shared) (t' : Tok) (its : List Value), IntsAre its ns → Moved [s.heap.objs.size] (fun a b => b = a) { s with heap := s.heap.push o } s' → EP X pins σ Q (.int (preSum (fun i => ns.getD i 0) its.toArray.size) t') s' := fun o s' t' its hi hm => by
    rw [pre its hi]
    have hk : ∀ b u, s.heap.get? b = some u → s'.heap.get? b = some u := fun b u e => hm.heap b u (fun z => absurd (Heap.lt_size e) (by rw [List.mem_singleton.mp z]; exact Nat.lt_irrefl _)) (Heap.get?_push_of_some _ e)
    rw [Moved.eq_with hm]
    exact ⟨.int ns.sum, H, I.kept (t' := s'.toks) hk, ⟨t', rfl⟩, q⟩
  rcases hq with hq | hq
  · obtain ⟨its, rv, pl, _⟩ := I.list hq
    have hi := intsAre_of rv
    have hl : s.heap.IsList p its.toArray := pl.isList
    obtain ⟨ol, hol, _⟩ := id hl
    refine call_sum_walkAnyS (wpAny_pyIter_list hl ⟨s.heap.objs.size, _, _, _, _, _, _, fun i => ns.getD i 0, rfl, (Walks.list (A := X.A.in1) hh s.heap.objs.size p (Nat.ne_of_lt (Heap.lt_size hol)) its.toArray).toS, ⟨⟨_, Heap.get?_push_size _ rfl, rfl, rfl⟩, hl.at fun o e => Heap.get?_push_of_some _ e⟩, ?_, val its hi, fun s' t' hm => fin _ s' t' its hi hm⟩)
    intro b hb
    show b < (s.heap.push _).objs.size
    rw [Heap.size_push]
    rcases List.mem_cons.mp hb with e | hb
    · rw [e]; exact Nat.lt_succ_self _
    · rw [List.mem_singleton.mp hb]; exact Nat.lt_succ_of_lt (Heap.lt_size hol)
  · obtain ⟨its, rv, pl, _⟩ := I.tuple hq
    have hi := intsAre_of rv
    have hl : s.heap.IsTuple p its.toArray := pl
    obtain ⟨ol, hol, _⟩ := id hl
    refine call_sum_walkAnyS (wpAny_pyIter_tuple hl ⟨s.heap.objs.size, _, _, _, _, _, _, fun i => ns.getD i 0, rfl, (Walks.tuple (A := X.A.in1) hh s.heap.objs.size p (Nat.ne_of_lt (Heap.lt_size hol)) its.toArray).toS, ⟨⟨_, Heap.get?_push_size _ rfl, rfl, rfl⟩, hl.at fun o e => Heap.get?_push_of_some _ e⟩, ?_, val its hi, fun s' t' hm => fin _ s' t' its hi hm⟩)
    intro b hb
    show b < (s.heap.push _).objs.size
    rw [Heap.size_push]
    rcases List.mem_cons.mp hb with e | hb
    · rw [e]; exact Nat.lt_succ_self _
    · rw [List.mem_singleton.mp hb]; exact Nat.lt_succ_of_lt (Heap.lt_size hol)

/-- all of a list of truths -/
theorem call_all (hc : X.calm = true) : CallR X (.builtin "all") (fun xs H Q => ∃ (p : Addr) (bs : List Bool), xs = [.ref p] ∧ SqL X.K H p (bs.map V.bl) ∧ Q (.bl (bs.all id)) H) := by
  intro pins s σ H xs us Q I r h
  obtain ⟨p, bs, rfl, hq, q⟩ := h
  obtain ⟨u, rfl, rx⟩ := vals1 r
  cases rx
  have hh := I.ok.hd hc
  obtain ⟨its, rv, pl, _⟩ := I.list hq
  have hl : s.heap.IsList p its.toArray := pl.isList
  obtain ⟨ol, hol, _⟩ := id hl
  have hlen := rv.length
  rw [List.length_map] at hlen
  refine call_all_walk (wpAny_pyIter_list hl ⟨s.heap.objs.size, _, _, _, _, _, fun i => bs.getD i false, rfl, Walks.list (A := X.A.in1) hh s.heap.objs.size p (Nat.ne_of_lt (Heap.lt_size hol)) its.toArray, ⟨⟨_, Heap.get?_push_size _ rfl, rfl, rfl⟩, hl.at fun o e => Heap.get?_push_of_some _ e⟩, ?_, fun h' tk hk => ?_⟩)
  · intro i v s1 Q1 E1 hv hq1
    have e' : its[i]? = some v := by simpa using hv
    have hil : i < bs.length := by have := (List.getElem?_eq_some_iff.mp e').1; (first | lia | omega)
    obtain ⟨u, hu, ru⟩ := rv.get (i := i) (x := .bl bs[i]) (by rw [List.getElem?_map, List.getElem?_eq_getElem hil]; rfl)
    rw [e'] at hu
    cases hu
    obtain rfl : v = Value.bool bs[i] := ru
    have eg : bs.getD i false = bs[i] := by rw [List.getD_eq_getElem?_getD, List.getElem?_eq_getElem hil]; rfl
    exact wpAny_truthy_bool (eg ▸ hq1)
  · have e : (List.range its.toArray.size).all (fun i => bs.getD i false) = bs.all id := by
      rw [List.size_toArray, ← hlen]
      rw [Bool.eq_iff_iff, List.all_eq_true, List.all_eq_true]
      constructor
      · intro z x hx
        obtain ⟨i, hi, rfl⟩ := List.mem_iff_getElem.mp hx
        have := z i (List.mem_range.mpr hi)
        rw [List.getD_eq_getElem?_getD, List.getElem?_eq_getElem hi] at this
        exact this
      · intro z i hi
        have hi' := List.mem_range.mp hi
        rw [List.getD_eq_getElem?_getD, List.getElem?_eq_getElem hi']
        exact z _ (List.getElem_mem hi')
    rw [e]
    exact ⟨.bl (bs.all id), H, I.kept (t' := tk) fun b u e => hk b u (fun z => absurd (Heap.lt_size e) (by rw [List.mem_singleton.mp z]; exact Nat.lt_irrefl _)) (Heap.get?_push_of_some _ e), rfl, q⟩

theorem ints_val {ns : List Int} {its : List Value} (hi : IntsAre its ns) {i : Nat} {v : Value} (e : its.toArray[i]? = some v) : ∃ t, v = .int (ns.getD i 0) t := by
  have e' : its[i]? = some v := by simpa using e
  obtain ⟨n, t, rfl⟩ := hi.all v (List.mem_of_getElem? e')
  refine ⟨t, ?_⟩
  have q := congrArg (fun l => l[i]?) hi.nums
  simp only [List.getElem?_map, e', Option.map_some] at q
  rw [List.getD_eq_getElem?_getD, ← q]; rfl
/-- max of a list of ints -/
theorem call_maxL (hc : X.calm = true) : CallR X (.builtin "max") (fun xs H Q => ∃ (p : Addr) (ns : List Int), xs = [.ref p] ∧ SqL X.K H p (ns.map V.int) ∧ 0 < ns.length ∧ ∀ M, M ∈ ns → (∀ a ∈ ns, a ≤ M) → Q (.int M) H) := by
  intro pins s σ H xs us Q I r h
  obtain ⟨p, ns, rfl, hq, hne, q⟩ := h
  obtain ⟨u, rfl, rx⟩ := vals1 r
  cases rx
  have hh := I.ok.hd hc
  obtain ⟨its, rv, pl, _⟩ := I.list hq
  have hi := intsAre_of rv
  have hl : s.heap.IsList p its.toArray := pl.isList
  obtain ⟨ol, hol, _⟩ := id hl
  have hlen : its.length = ns.length := hi.length
  refine call_max_walk (wpAny_pyIter_list hl ⟨s.heap.objs.size, _, _, _, _, _, fun i j => decide (ns.getD i 0 > ns.getD j 0), rfl, Walks.list (A := X.A.in1) hh s.heap.objs.size p (Nat.ne_of_lt (Heap.lt_size hol)) its.toArray,
    ⟨⟨_, Heap.get?_push_size _ rfl, rfl, rfl⟩, hl.at fun o e => Heap.get?_push_of_some _ e⟩, ?_, by rw [List.size_toArray]; (first | lia | omega), CmpOf.ints_gt (fun i => ns.getD i 0) (fun i v e => ints_val hi e), fun v h' tk hP hk => ?_⟩)
  · intro b hb
    show b < (s.heap.push _).objs.size
    rw [Heap.size_push]
    rcases List.mem_cons.mp hb with e | hb
    · rw [e]; exact Nat.lt_succ_self _
    · rw [List.mem_singleton.mp hb]; exact Nat.lt_succ_of_lt (Heap.lt_size hol)
  · obtain ⟨h1, h2⟩ := argBest_gt (fun i => ns.getD i 0) (its.toArray.size - 1)
    rw [List.size_toArray] at h1 h2
    obtain ⟨t, rfl⟩ := ints_val hi hP
    have hm : ∀ i, i < ns.length → ns.getD i 0 ∈ ns := fun i hi' => by rw [List.getD_eq_getElem?_getD, List.getElem?_eq_getElem hi']; exact List.getElem_mem hi'
    refine ⟨.int _, H, I.kept (t' := tk) fun b u e => hk b u (fun z => absurd (Heap.lt_size e) (by rw [List.mem_singleton.mp z]; exact Nat.lt_irrefl _)) (Heap.get?_push_of_some _ e), ⟨t, rfl⟩, q _ (hm _ (by rw [List.size_toArray]; (first | lia | omega))) fun a ha => ?_⟩
    obtain ⟨j, hj, rfl⟩ := List.mem_iff_getElem.mp ha
    have e := h2 j (by (first | lia | omega))
    have ej : ns.getD j 0 = ns[j] := by rw [List.getD_eq_getElem?_getD, List.getElem?_eq_getElem hj]; rfl
    rw [ej] at e
    rw [List.size_toArray]
    exact e

/-- xs.index(k), k is there -/
noncomputable def rIndex : V → List V → Hp → VK → Prop := fun x vs H Q => ∃ (l : Addr) (ns : List Int) (k : Int), x = .ref l ∧ vs = [.int k] ∧ H l = some (.lst (ns.map V.int)) ∧ k ∈ ns ∧ ns.length ≤ 1000 ∧ Q (.int (ns.idxOf k : Nat)) H
theorem mt_index : MtM X "list.index" rIndex := by
  intro pins s σ H x vs v us Q I rx rv h
  obtain ⟨l, ns, k, rfl, rfl, hH, hk, hz, q⟩ := h
  cases rx
  obtain ⟨u, rfl, ru⟩ := rv.one
  obtain ⟨t, rfl⟩ := ru
  obtain ⟨_, its, n, r, hl, e⟩ := I.lstM hH
  have hi := intsAre_of r
  have hlen := hi.length
  have hj : ns.idxOf k < ns.length := List.idxOf_lt_length_iff.mpr hk
  refine call_meets F.slot_list_index ⟨_, e, rfl⟩ F.entry_list_index (F.args_list_index_2 _ _)
    (SeqAt.list_indexAt l its.toArray n none #[] (.int k t) (isInt k) (ns.idxOf k) (by rw [List.size_toArray]; (first | lia | omega)) (by (first | lia | omega)) ?_ ?_) ⟨e, fun y hy => (eq_isInt k t hi y (by simpa using hy)).at _ _, ?_⟩
  · show isInt k its[ns.idxOf k] = true
    rw [isInt_at k hi _ (by (first | lia | omega)) hj]
    simpa using List.getElem_idxOf hj
  · intro j hjs hlt
    show isInt k its[j] = false
    rw [isInt_at k hi j (by simpa using hjs) (by (first | lia | omega))]
    exact ne_of_lt_idxOf hlt _
  · exact ⟨.int (ns.idxOf k : Nat), H, I.tok _, ⟨_, rfl⟩, q⟩

/-! ### lists compared -/
noncomputable def eqVs : List V → List V → Bool
  | [], [] => true
  | x :: xs, y :: ys => eqV x y && eqVs xs ys
  | _, _ => false
theorem eqVs_len : ∀ {xs ys : List V}, xs.length ≠ ys.length → eqVs xs ys = false
  | [], [], h => absurd rfl h
  | [], _ :: _, _ => rfl
  | _ :: _, [], _ => rfl
  | x :: xs, y :: ys, h => by
    show (eqV x y && eqVs xs ys) = false
    rw [eqVs_len (xs := xs) (ys := ys) (fun z => h (by simp [z])), Bool.and_false]
theorem eqVs_all : ∀ (xs ys : List V), xs.length = ys.length → eqVs xs ys = (List.range xs.length).all fun i => eqV (xs.getD i .non) (ys.getD i .non)
  | [], [], _ => rfl
  | x :: xs, y :: ys, h => by
    show (eqV x y && eqVs xs ys) = _
    rw [List.length_cons, List.range_succ_eq_map, List.all_cons, List.all_map, eqVs_all xs ys (by simpa using h)]
    rfl
theorem eqVs_ints (ns ms : List Int) : eqVs (ns.map V.int) (ms.map V.int) = decide (ns = ms) := by
  induction ns generalizing ms with
  | nil => cases ms with
    | nil => rfl
    | cons m r => rfl
  | cons n r ih => cases ms with
    | nil => rfl
    | cons m q =>
      show (((n : Int) == m) && eqVs (r.map V.int) (q.map V.int)) = _
      rw [ih]
      by_cases e1 : n = m
      · subst e1
        by_cases e2 : r = q
        · subst e2; simp
        · simp [e2]
      · simp [e1]
noncomputable def rEqL (K : PySem.W.Frag) (neg : Bool) : R2 := fun x y H Q => ∃ p b xs ys, x = .ref p ∧ y = .ref b ∧ SqL K H p xs ∧ SqL K H b ys ∧ xs.all flatV = true ∧ ys.all flatV = true ∧ Q (.bl (if neg then !eqVs xs ys else eqVs xs ys)) H
theorem flat_at {xs : List V} (h : xs.all flatV = true) {i : Nat} (hi : i < xs.length) : flatV (xs.getD i .non) = true := by
  rw [List.getD_eq_getElem?_getD, List.getElem?_eq_getElem hi]
  exact List.all_eq_true.mp h _ (List.getElem_mem hi)
theorem rel_at {xs : List V} {its : List Value} (r : Vals xs its) {i : Nat} (hi : i < its.toArray.size) : RelV (xs.getD i .non) its.toArray[i] := by
  have hx : i < xs.length := by rw [r.length]; simpa using hi
  obtain ⟨u, hu, ru⟩ := r.get (i := i) (x := xs[i]) (List.getElem?_eq_getElem hx)
  rw [List.getElem?_eq_getElem (by simpa using hi)] at hu
  rw [List.getD_eq_getElem?_getD, List.getElem?_eq_getElem hx]
  have e : its.toArray[i] = u := by simpa using Option.some.inj hu
  rw [e]; exact ru
theorem op_eqL (hu : X.A.units < cLine) : OpR X (compareOp .Eq) (rEqL X.K false) := by
  intro pins s σ H x y v u Q I rx ry h
  obtain ⟨p, b, xs, ys, rfl, rfl, hp, hb, fx, fy, q⟩ := h
  cases rx
  cases ry
  obtain ⟨its, r1, p1, _⟩ := I.list hp
  obtain ⟨jts, r2, p2, _⟩ := I.list hb
  have l1 := r1.length
  have l2 := r2.length
  simp only [Bool.false_eq_true, if_false] at q
  by_cases e : xs.length = ys.length
  · rw [eqVs_all _ _ e] at q
    refine SeqAt.eq_listAt (e := fun i => eqV (xs.getD i .non) (ys.getD i .non)) p1.isList p2.isList (by simp only [List.size_toArray]; (first | lia | omega)) hu (fun j h1 h2 => eqAt_V (rel_at r1 h1) (rel_at r2 h2) (flat_at fx (by simp only [List.size_toArray] at h1; (first | lia | omega))) (flat_at fy (by simp only [List.size_toArray] at h2; (first | lia | omega)))) ?_
    rw [List.size_toArray, ← l1]
    exact ⟨.bl _, H, I, rfl, q⟩
  · rw [eqVs_len e] at q
    refine SeqAt.eq_list_lengthsAt p1.isList p2.isList (by simp only [List.size_toArray, bne_iff_ne]; (first | lia | omega)) hu ?_
    exact ⟨.bl false, H, I, rfl, q⟩
theorem op_neL (hu : X.A.units < cLine) : OpR X (compareOp .NotEq) (rEqL X.K true) := by
  intro pins s σ H x y v u Q I rx ry h
  obtain ⟨p, b, xs, ys, rfl, rfl, hp, hb, fx, fy, q⟩ := h
  cases rx
  cases ry
  obtain ⟨its, r1, p1, _⟩ := I.list hp
  obtain ⟨jts, r2, p2, _⟩ := I.list hb
  have l1 := r1.length
  have l2 := r2.length
  simp only [if_true] at q
  by_cases e : xs.length = ys.length
  · rw [eqVs_all _ _ e] at q
    refine SeqAt.RcNeAt.lists (e := fun i => eqV (xs.getD i .non) (ys.getD i .non)) p1.isList p2.isList (by simp only [List.size_toArray]; (first | lia | omega)) hu (fun j h1 h2 => eqAt_V (rel_at r1 h1) (rel_at r2 h2) (flat_at fx (by simp only [List.size_toArray] at h1; (first | lia | omega))) (flat_at fy (by simp only [List.size_toArray] at h2; (first | lia | omega)))) _ _ _ _ ?_
    rw [List.size_toArray, ← l1]
    exact ⟨.bl _, H, I, rfl, q⟩
  · rw [eqVs_len e] at q
    refine SeqAt.RcNeAt.lists_lengths p1.isList p2.isList (by simp only [List.size_toArray, bne_iff_ne]; (first | lia | omega)) hu _ _ _ _ ?_
    exact ⟨.bl true, H, I, rfl, q⟩

/-! ### isinstance -/
theorem ty_kit {x : V} {u t : Value} (I : Inv X pins σ H s) (rx : RelV x u) (ty : TyOf X.K H x t) {A : Around} {E : Value → Shared → Prop} {Q : Value → Shared → Prop} {tp : Addr} {dd : Option Addr} {its : List Value} {n : Nat} {sl : Array (Option Value)} {b : Bool}
    (htp : s.heap.get? tp = some ⟨.type "tuple", dd, .seq its.toArray n, sl⟩) (e : PySem.W.kitAny X.K t its = some b) (h : ∀ tk, Q (.bool b) { s with toks := tk }) :
    wpAny (model X.prog X.w) A (call (.builtin "isinstance") [u, .ref tp]) Q E s := by
  cases ty with
  | non => cases (show u = Value.none from rx); exact PySem.W.kia_tup PySem.W.kitx_none I.kIn True.intro htp e (fun z => nomatch z) h
  | bl y => cases (show u = Value.bool y from rx); exact PySem.W.kia_tup PySem.W.kitx_bool I.kIn True.intro htp e (fun z => nomatch z) h
  | int i => obtain ⟨t, q⟩ := (show ∃ t, u = Value.int i t from rx); cases q; exact PySem.W.kia_tup PySem.W.kitx_int I.kIn True.intro htp e (fun z => nomatch z) h
  | str y => obtain ⟨t, q⟩ := (show ∃ t, u = Value.str y t from rx); cases q; exact PySem.W.kia_tup PySem.W.kitx_str I.kIn True.intro htp e (fun z => nomatch z) h
  | flt y => obtain ⟨t, q⟩ := (show ∃ t, u = Value.float y t from rx); cases q; exact PySem.W.kia_tup PySem.W.kitx_float I.kIn True.intro htp e (fun z => nomatch z) h
  | @lst a xs ea =>
    cases (show u = Value.ref a from rx)
    obtain ⟨_, _, m, _, h1⟩ := (show ObjOk X.prog X.w H s.heap a (.lst xs) from I.hok a _ ea)
    exact PySem.W.kia_tup PySem.W.kitx_list I.kIn ⟨_, h1, rfl⟩ htp e (fun z => nomatch z) h
  | @frz a ob xs ea =>
    cases (show u = Value.ref a from rx)
    obtain ⟨_, _, _, m, _, h1⟩ := (show ObjOk X.prog X.w H s.heap a (.frz ob (.lst xs)) from I.hok a _ ea)
    exact PySem.W.kia_tup PySem.W.kitx_list I.kIn ⟨_, h1, rfl⟩ htp e (fun z => nomatch z) h
  | @tup a xs ea =>
    cases (show u = Value.ref a from rx)
    obtain ⟨_, _, _, p⟩ := (show ObjOk X.prog X.w H s.heap a (.tup xs) from I.hok a _ ea)
    obtain ⟨o, h1, h2, _⟩ := p
    exact PySem.W.kia_tup PySem.W.kitx_tuple I.kIn ⟨o, h1, h2⟩ htp e (fun z => nomatch z) h
  | @dK a kvs ea =>
    cases (show u = Value.ref a from rx)
    obtain ⟨_, _, vs, _, p⟩ := (show ObjOk X.prog X.w H s.heap a (.dK kvs) from I.hok a _ ea)
    obtain ⟨o, es, ep, h1, h2, _⟩ := p
    exact PySem.W.kia_tup PySem.W.kitx_dict I.kIn ⟨o, h1, h2.1⟩ htp e (fun z => nomatch z) h
  | @dT a kvs ea =>
    cases (show u = Value.ref a from rx)
    obtain ⟨_, _, xs, _, o, es, ep, h1, h2, _⟩ := (show ObjOk X.prog X.w H s.heap a (.dT kvs) from I.hok a _ ea)
    exact PySem.W.kia_tup PySem.W.kitx_dict I.kIn ⟨o, h1, h2.1⟩ htp e (fun z => nomatch z) h
  | @ins a C dx fs ea cl ha hn htk hm =>
    cases (show u = Value.ref a from rx)
    obtain ⟨mA, O, _⟩ := ins_get I.hok ea
    obtain ⟨od, J, _⟩ := O.look
    exact PySem.W.kia_tup (PySem.W.kitx_own (cl.get _) cl.hd ha hn htk hm) I.kIn J htp e (fun z => nomatch z) h
/-- isinstance(x, T) of a built-in type -/
theorem call_isi : CallR X (.builtin "isinstance") (fun xs H Q => ∃ x T t b, xs = [x, .ty T] ∧ TyOf X.K H x t ∧ PySem.W.kitOne X.K t (.type T) = some b ∧ Q (.bl b) H) := by
  intro pins s σ H xs us Q I r h
  obtain ⟨x, T, t, b, rfl, ty, e, q⟩ := h
  obtain ⟨u, w', rfl, rx, ry⟩ := vals2 r
  cases (show w' = Value.type T from ry)
  exact isinst_ok I rx ty e fun tk => ⟨.bl b, H, I.tok tk, rfl, q⟩
noncomputable def tyVals : List String → List Value := fun l => l.map Value.type
/-- isinstance(x, (S, T)) of built-in types -/
theorem call_isi2 : CallR X (.builtin "isinstance") (fun xs H Q => ∃ x p S T t b, xs = [x, .ref p] ∧ H p = some (.tup [.ty S, .ty T]) ∧ TyOf X.K H x t ∧ PySem.W.kitAny X.K t [.type S, .type T] = some b ∧ Q (.bl b) H) := by
  intro pins s σ H xs us Q I r h
  obtain ⟨x, p, S, T, t, b, rfl, hp, ty, e, q⟩ := h
  obtain ⟨u, w', rfl, rx, ry⟩ := vals2 r
  cases (show w' = Value.ref p from ry)
  obtain ⟨_, its, rv, o, ho, hc, n, hd⟩ := I.hok p _ hp
  obtain ⟨v1, v2, rfl, a1, a2⟩ := vals2 rv
  cases (show v1 = Value.type S from a1)
  cases (show v2 = Value.type T from a2)
  obtain ⟨oc, od, odt, osl⟩ := o
  simp only at hc hd
  subst hc hd
  exact ty_kit (its := [.type S, .type T]) I rx ty ho e fun tk => ⟨.bl b, H, I.tok tk, rfl, q⟩

/-- range(n) as a thing -/
theorem call_rng : CallR X (.type "range") (fun xs H Q => ∃ j : Int, xs = [.int j] ∧ ∀ p, H p = none → Q (.ref p) (upd H p (.rng 0 j))) := by
  intro pins s σ H xs us Q I r h
  obtain ⟨j, rfl, q⟩ := h
  obtain ⟨u, rfl, rx⟩ := vals1 r
  obtain ⟨t, rfl⟩ := rx
  refine call_range_1 ?_
  exact ⟨.ref s.heap.objs.size, _, I.laid (o := .rng 0 j) (fun b u e => Heap.get?_push_of_some _ e) (Nat.le_refl _) ⟨_, _, _, Heap.get?_push_size _ rfl⟩, rfl, q _ (I.hok.fresh (Nat.le_refl _))⟩
end
end L2

set_option linter.all false
set_option maxHeartbeats 4000000
namespace SS
open PySem PyProof.Rows

/-- the second number of a pair -/
noncomputable def K2 (xs : Array Keyed) (i : Nat) : Int := match xs[i]? with
  | some p => numOf p.2
  | none => 0
theorem K2_of {xs ys : Array Keyed} {i j : Nat} (h : xs[i]? = ys[j]?) : K2 xs i = K2 ys j := by unfold K2; rw [h]
theorem K2_bub {xs : Array Keyed} {src d : Nat} (hs : src < xs.size) (hd : d ≤ src) (k : Nat) :
    K2 (bubble xs src d) k = if k = src - d then K2 xs src else if src - d < k ∧ k ≤ src then K2 xs (k - 1) else K2 xs k := by
  have e := getElem?_bubble hs d hd k
  split
  · rename_i h1; rw [if_pos h1] at e; exact K2_of e
  · rename_i h1
    rw [if_neg h1] at e
    split
    · rename_i h2; rw [if_pos h2] at e; exact K2_of e
    · rename_i h2; rw [if_neg h2] at e; exact K2_of e
theorem K2_mir {xs : Array Keyed} {i j : Nat} (hj : j ≤ xs.size) (k : Nat) :
    K2 (mirror xs i j ((j - i) / 2)) k = if i ≤ k ∧ k < j then K2 xs (i + j - 1 - k) else K2 xs k := by
  have e := getElem?_mirror_all (i := i) hj k
  split
  · rename_i h1; rw [if_pos h1] at e; exact K2_of e
  · rename_i h1; rw [if_neg h1] at e; exact K2_of e

/-- up to k in order, of like keys the lesser second number ahead -/
noncomputable def Up (xs : Array Keyed) (k : Nat) : Prop := ∀ i j, i < j → j < k → K xs i < K xs j ∨ (K xs i = K xs j ∧ K2 xs i < K2 xs j)
/-- the other way about -/
noncomputable def Dn (xs : Array Keyed) (k : Nat) : Prop := ∀ i j, i < j → j < k → K xs j < K xs i ∨ (K xs i = K xs j ∧ K2 xs j < K2 xs i)
/-- from k on nothing was moved, and what stands ahead came from ahead -/
structure Left (xs : Array Keyed) (k : Nat) : Prop where
  same : ∀ i, k ≤ i → i < xs.size → K2 xs i = i
  ahead : ∀ i, i < k → i < xs.size → K2 xs i < k

theorem Up.le {xs : Array Keyed} {k : Nat} (h : Up xs k) {i j : Nat} (hij : i ≤ j) (hj : j < k) : K xs i ≤ K xs j := by
  by_cases e : i = j
  · subst e; exact Int.le_refl _
  · rcases h i j (by (first | lia | omega)) hj with q | q <;> (first | lia | omega)
theorem Dn.le {xs : Array Keyed} {k : Nat} (h : Dn xs k) {i j : Nat} (hij : i ≤ j) (hj : j < k) : K xs j ≤ K xs i := by
  by_cases e : i = j
  · subst e; exact Int.le_refl _
  · rcases h i j (by (first | lia | omega)) hj with q | q <;> (first | lia | omega)

section
variable {prog : Program} {w : World} {A : Around} {E : Value → Shared → Prop} {s : Shared} {a₀ : Array Keyed}

/-- one more at the end of an order -/
theorem up_step {xs : Array Keyed} {x : Nat} (hu : Up xs x) (hl : Left xs x) (hx : x < xs.size) (h1 : 1 ≤ x) (hle : K xs (x - 1) ≤ K xs x) : Up xs (x + 1) := by
  intro i j hij hj
  by_cases hjx : j < x
  · exact hu i j hij hjx
  · have ej : j = x := by (first | lia | omega)
    subst ej
    have q1 := hu.le (i := i) (j := j - 1) (by (first | lia | omega)) (by (first | lia | omega))
    have q2 := hl.ahead i (by (first | lia | omega)) (by (first | lia | omega))
    have q3 := hl.same j (Nat.le_refl _) hx
    (first | lia | omega)
theorem left_step {xs : Array Keyed} {x : Nat} (hl : Left xs x) : Left xs (x + 1) := by
  refine ⟨fun i h1 h2 => hl.same i (by (first | lia | omega)) h2, fun i h1 h2 => ?_⟩
  by_cases e : i < x
  · have := hl.ahead i e h2; (first | lia | omega)
  · have ei : i = x := by (first | lia | omega)
    subst ei
    have := hl.same i (Nat.le_refl _) h2
    (first | lia | omega)

theorem asc_st {st : SortSt} {a nrem : Nat} {Q : AscSt → SortSt → Prop} (h0 : IntKeys a₀) (hn : nrem ≤ a₀.size) (ha : 1 ≤ a) (han : a ≤ nrem) (hB : SBase a₀ st)
    (hu : Up (arrOf st) a) (hl : Left (arrOf st) a)
    (h : ∀ n, a ≤ n → n ≤ nrem → Up (arrOf st) n → Left (arrOf st) n → (n = nrem ∨ K (arrOf st) n < K (arrOf st) (n - 1)) → Q (none, n) st) :
    wpS (model prog w) A E s (ascLoop a nrem) Q st := by
  unfold ascLoop
  have hsz := hB.size
  refine wpS_forRange (I := fun x c st' => st' = st ∧ c = (none, x) ∧ Up (arrOf st) x ∧ Left (arrOf st) x) ?turn ?fin ⟨rfl, rfl, hu, hl⟩
  case fin =>
    rintro c st' ⟨rfl, rfl, u', l'⟩
    have e : max a nrem = nrem := by (first | lia | omega)
    rw [e] at u' l' ⊢
    exact h nrem han (Nat.le_refl _) u' l' (.inl rfl)
  case turn =>
    rintro x c st' hax hxn ⟨rfl, rfl, u', l'⟩
    dsimp only
    refine wpS_bind (wpS_ltK hB h0 (by (first | lia | omega)) (by (first | lia | omega)) ?_)
    by_cases hc : K (arrOf st') x < K (arrOf st') (x - 1)
    · simp only [hc, decide_true, if_true]
      exact wpS_pure (h x hax (by (first | lia | omega)) u' l' (.inr hc))
    · simp only [hc, decide_false, Bool.false_eq_true, if_false]
      exact wpS_pure ⟨rfl, rfl, up_step u' l' (by (first | lia | omega)) (by (first | lia | omega)) (by (first | lia | omega)), left_step l'⟩

/-- a part turned about -/
theorem left_mir {xs : Array Keyed} {i j k : Nat} (hj : j ≤ xs.size) (hjk : j ≤ k) (hl : Left xs k) (hk : k ≤ xs.size) : Left (mirror xs i j ((j - i) / 2)) k := by
  refine ⟨fun m h1 h2 => ?_, fun m h1 h2 => ?_⟩
  · rw [K2_mir hj, if_neg (by (first | lia | omega))]
    rw [mirror_size] at h2
    exact hl.same m h1 h2
  · rw [mirror_size] at h2
    rw [K2_mir hj]
    split
    · exact hl.ahead _ (by (first | lia | omega)) (by (first | lia | omega))
    · exact hl.ahead _ h1 h2
theorem up_of_dn {xs : Array Keyed} {n : Nat} (hn : n ≤ xs.size) (hd : Dn xs n) : Up (mirror xs 0 n ((n - 0) / 2)) n := by
  intro i j hij hj
  rw [K_mirror hn, K_mirror hn, K2_mir hn, K2_mir hn, if_pos (by (first | lia | omega)), if_pos (by (first | lia | omega)), if_pos (by (first | lia | omega)), if_pos (by (first | lia | omega))]
  have q := hd (0 + n - 1 - j) (0 + n - 1 - i) (by (first | lia | omega)) (by (first | lia | omega))
  (first | lia | omega)

theorem tail_st {st : SortSt} {n nrem : Nat} {Q : Option Nat → SortSt → Prop} (h0 : IntKeys a₀) (hn : nrem ≤ a₀.size) (h1 : 1 ≤ n) (hnn : n ≤ nrem) (hB : SBase a₀ st)
    (hd : Dn (arrOf st) n) (hl : Left (arrOf st) n) (h : ∀ m st', SBase a₀ st' → 1 ≤ m → m ≤ nrem → Up (arrOf st') m → Left (arrOf st') m → Q (some m) st') :
    wpS (model prog w) A E s (tail3 n nrem) Q st := by
  unfold tail3
  have hsz := hB.size
  refine wpS_bind (wpS_reverse ?_)
  have hB' : SBase a₀ (setArr st (mirror (arrOf st) 0 n ((n - 0) / 2))) := hB.setArr (mirror_perm _ _ _ _)
  refine wpS_bind (asc_st h0 hn h1 hnn hB' (up_of_dn (by (first | lia | omega)) hd) (left_mir (by (first | lia | omega)) (Nat.le_refl _) hl (by (first | lia | omega))) ?_)
  intro m hm1 hm2 hum hlm _
  exact wpS_pure (h m _ hB' (by (first | lia | omega)) hm2 hum hlm)

/-- between two turns of the falling loop: g: where the group of like keys at the end begins -/
structure Fall (xs : Array Keyed) (x g : Nat) : Prop where
  lt : g < x
  d1 : Dn xs g
  d2 : ∀ i j, i < g → g ≤ j → j < x → K xs j < K xs i
  d3 : ∀ i, g ≤ i → i < x → K xs i = K xs (x - 1) ∧ K2 xs i = i
  same : ∀ i, x ≤ i → i < xs.size → K2 xs i = i
  ahead : ∀ i, i < g → i < xs.size → K2 xs i < g

theorem Fall.dn {xs : Array Keyed} {x g : Nat} (f : Fall xs x g) (hx : x ≤ xs.size) : Dn (mirror xs g x ((x - g) / 2)) x ∧ Left (mirror xs g x ((x - g) / 2)) x := by
  refine ⟨fun i j hij hj => ?_, ⟨fun i h1 h2 => ?_, fun i h1 h2 => ?_⟩⟩
  · rw [K_mirror hx, K_mirror hx, K2_mir hx, K2_mir hx]
    have hl := f.lt
    by_cases hi : i < g
    · rw [if_neg (by (first | lia | omega) : ¬ (g ≤ i ∧ i < x)), if_neg (by (first | lia | omega) : ¬ (g ≤ i ∧ i < x))]
      by_cases hjg : j < g
      · rw [if_neg (by (first | lia | omega)), if_neg (by (first | lia | omega))]
        exact f.d1 i j hij hjg
      · rw [if_pos (by (first | lia | omega)), if_pos (by (first | lia | omega))]
        exact .inl (f.d2 i (g + x - 1 - j) hi (by (first | lia | omega)) (by (first | lia | omega)))
    · rw [if_pos (by (first | lia | omega) : g ≤ i ∧ i < x), if_pos (by (first | lia | omega) : g ≤ i ∧ i < x), if_pos (by (first | lia | omega)), if_pos (by (first | lia | omega))]
      have q1 := f.d3 (g + x - 1 - i) (by (first | lia | omega)) (by (first | lia | omega))
      have q2 := f.d3 (g + x - 1 - j) (by (first | lia | omega)) (by (first | lia | omega))
      right
      constructor
      · rw [q1.1, q2.1]
      · rw [q1.2, q2.2]; (first | lia | omega)
  · rw [mirror_size] at h2
    rw [K2_mir hx, if_neg (by (first | lia | omega))]
    exact f.same i h1 h2
  · rw [mirror_size] at h2
    have hl := f.lt
    rw [K2_mir hx]
    split
    · rw [(f.d3 (g + x - 1 - i) (by (first | lia | omega)) (by (first | lia | omega))).2]; (first | lia | omega)
    · have := f.ahead i (by (first | lia | omega)) h2; (first | lia | omega)
theorem mirror_one (xs : Array Keyed) (i : Nat) : mirror xs i (i + 1) ((i + 1 - i) / 2) = xs := by
  have e : (i + 1 - i) / 2 = 0 := by (first | lia | omega)
  rw [e]; rfl
/-- the next one is smaller: a group of its own -/
theorem fall_new {xs : Array Keyed} {x : Nat} (hd : Dn xs x) (hl : Left xs x) (hx : x < xs.size) (h1 : 1 ≤ x) (hc : K xs x < K xs (x - 1)) : Fall xs (x + 1) x := by
  refine ⟨by (first | lia | omega), hd, fun i j h2 h3 h4 => ?_, fun i h2 h3 => ?_, fun i h2 h3 => hl.same i (by (first | lia | omega)) h3, fun i h2 h3 => hl.ahead i h2 h3⟩
  · have ej : j = x := by (first | lia | omega)
    subst ej
    have := hd.le (i := i) (j := j - 1) (by (first | lia | omega)) (by (first | lia | omega))
    (first | lia | omega)
  · have ei : i = x := by (first | lia | omega)
    subst ei
    exact ⟨rfl, hl.same i (Nat.le_refl _) hx⟩
/-- the next one is like the group -/
theorem fall_more {xs : Array Keyed} {x g : Nat} (f : Fall xs x g) (hx : x < xs.size) (he : K xs x = K xs (x - 1)) : Fall xs (x + 1) g := by
  have hl := f.lt
  refine ⟨by (first | lia | omega), f.d1, fun i j h2 h3 h4 => ?_, fun i h2 h3 => ?_, fun i h2 h3 => f.same i (by (first | lia | omega)) h3, f.ahead⟩
  · by_cases e : j < x
    · exact f.d2 i j h2 h3 e
    · have ej : j = x := by (first | lia | omega)
      subst ej
      rw [he]
      exact f.d2 i (j - 1) h2 (by (first | lia | omega)) (by (first | lia | omega))
  · rw [show x + 1 - 1 = x by (first | lia | omega)]
    by_cases e : i < x
    · have q := f.d3 i h2 e
      exact ⟨by rw [he]; exact q.1, q.2⟩
    · have ei : i = x := by (first | lia | omega)
      subst ei
      exact ⟨rfl, f.same i (Nat.le_refl _) hx⟩

theorem desc_st {st : SortSt} {n nrem : Nat} {Q : DescSt → SortSt → Prop} (h0 : IntKeys a₀) (hn : nrem ≤ a₀.size) (h1 : 1 ≤ n) (hnn : n ≤ nrem) (hB : SBase a₀ st)
    (hf : Fall (arrOf st) n (n - 1))
    (h : ∀ m neq st', SBase a₀ st' → n ≤ m → m ≤ nrem → neq + 1 ≤ m → Fall (arrOf st') m (m - (neq + 1)) → Q (none, m, neq) st') :
    wpS (model prog w) A E s (descLoop n nrem) Q st := by
  unfold descLoop
  refine wpS_forRange (I := fun x c st' => ∃ neq, c = (none, x, neq) ∧ SBase a₀ st' ∧ neq + 1 ≤ x ∧ Fall (arrOf st') x (x - (neq + 1))) ?turn ?fin ⟨0, rfl, hB, by (first | lia | omega), hf⟩
  case fin =>
    rintro c st' ⟨neq, rfl, hB', hq, f'⟩
    have e : max n nrem = nrem := by (first | lia | omega)
    rw [e] at hq f' ⊢
    exact h nrem neq st' hB' hnn (Nat.le_refl _) hq f'
  case turn =>
    rintro x c st' hax hxn ⟨neq, rfl, hB', hq, f'⟩
    dsimp only
    have hsz := hB'.size
    refine wpS_bind (wpS_ltK hB' h0 (by (first | lia | omega)) (by (first | lia | omega)) ?_)
    by_cases hc : K (arrOf st') x < K (arrOf st') (x - 1)
    · simp only [hc, decide_true, if_true]
      have hdn := f'.dn (by (first | lia | omega))
      by_cases hp : neq > 0
      · rw [if_pos hp]
        refine wpS_bind (wpS_reverse (wpS_pure ⟨0, rfl, hB'.setArr (mirror_perm _ _ _ _), by (first | lia | omega), ?_⟩))
        show Fall (mirror (arrOf st') (x - (neq + 1)) x ((x - (x - (neq + 1))) / 2)) (x + 1) (x + 1 - (0 + 1))
        have ex : x + 1 - (0 + 1) = x := by (first | lia | omega)
        rw [ex]
        refine fall_new hdn.1 hdn.2 (by rw [mirror_size]; (first | lia | omega)) (by (first | lia | omega)) ?_
        rw [K_mirror (by (first | lia | omega)), K_mirror (by (first | lia | omega)), if_neg (by (first | lia | omega)), if_pos (by (first | lia | omega))]
        have q := (f'.d3 (x - (neq + 1) + x - 1 - (x - 1)) (by (first | lia | omega)) (by (first | lia | omega))).1
        rw [q]; exact hc
      · rw [if_neg hp]
        have en : neq = 0 := by (first | lia | omega)
        subst en
        have eg : x - (0 + 1) + 1 = x := by (first | lia | omega)
        have hm := mirror_one (arrOf st') (x - (0 + 1))
        rw [eg] at hm
        rw [hm] at hdn
        refine wpS_pure ⟨0, rfl, hB', by (first | lia | omega), ?_⟩
        have ex : x + 1 - (0 + 1) = x := by (first | lia | omega)
        rw [ex]
        exact fall_new hdn.1 hdn.2 (by (first | lia | omega)) (by (first | lia | omega)) hc
    · simp only [hc, decide_false, Bool.false_eq_true, if_false]
      refine wpS_bind (wpS_ltK hB' h0 (by (first | lia | omega)) (by (first | lia | omega)) ?_)
      by_cases hb : K (arrOf st') (x - 1) < K (arrOf st') x
      · simp only [hb, decide_true, if_true]
        exact wpS_pure (h x neq st' hB' hax (by (first | lia | omega)) hq f')
      · simp only [hb, decide_false, Bool.false_eq_true, if_false]
        refine wpS_pure ⟨neq + 1, rfl, hB', by (first | lia | omega), ?_⟩
        have ex : x + 1 - (neq + 1 + 1) = x - (neq + 1) := by (first | lia | omega)
        rw [ex]
        exact fall_more f' (by (first | lia | omega)) (by (first | lia | omega))

theorem descPart_st {st : SortSt} {n nrem : Nat} {Q : Option Nat → SortSt → Prop} (h0 : IntKeys a₀) (hn : nrem ≤ a₀.size) (hnn : n + 1 ≤ nrem) (hB : SBase a₀ st)
    (hf : Fall (arrOf st) (n + 1) n) (h : ∀ m st', SBase a₀ st' → 1 ≤ m → m ≤ nrem → Up (arrOf st') m → Left (arrOf st') m → Q (some m) st') :
    wpS (model prog w) A E s (descPart n nrem) Q st := by
  unfold descPart
  refine wpS_bind (wpS_lift (wpAny_rule ⟨rfl, ?_⟩))
  refine wpS_bind (desc_st h0 hn (by (first | lia | omega)) hnn hB hf fun m neq st' hB' hm1 hm2 hq f' => ?_)
  dsimp only
  have hsz := hB'.size
  have hdn := f'.dn (by (first | lia | omega))
  by_cases hp : neq > 0
  · rw [if_pos hp]
    exact wpS_bind (wpS_reverse (tail_st h0 hn (by (first | lia | omega)) hm2 (hB'.setArr (mirror_perm _ _ _ _)) hdn.1 hdn.2 h))
  · rw [if_neg hp]
    have en : neq = 0 := by (first | lia | omega)
    subst en
    have eg : m - (0 + 1) + 1 = m := by (first | lia | omega)
    have hm := mirror_one (arrOf st') (m - (0 + 1))
    rw [eg] at hm
    rw [hm] at hdn
    exact tail_st h0 hn (by (first | lia | omega)) hm2 hB' hdn.1 hdn.2 h

theorem count_st {st : SortSt} {nrem : Nat} {Q : Option Nat → SortSt → Prop} (h0 : IntKeys a₀) (hn : nrem ≤ a₀.size) (h1 : 1 ≤ nrem) (hB : SBase a₀ st) (hl : Left (arrOf st) 0)
    (h : ∀ m st', SBase a₀ st' → 1 ≤ m → m ≤ nrem → Up (arrOf st') m → Left (arrOf st') m → Q (some m) st') :
    wpS (model prog w) A E s (countRun' 0 nrem) Q st := by
  rw [countRun0_eq]
  have hsz := hB.size
  have l1 : Left (arrOf st) 1 := left_step hl
  refine wpS_bind (asc_st h0 hn (Nat.le_refl 1) h1 hB (fun i j hij hj => by (first | lia | omega)) l1 fun n hn1 hn2 hu hln hor => ?_)
  dsimp only
  by_cases hnn : n = nrem
  · rw [if_pos (by simpa using hnn)]
    exact wpS_pure (h n st hB hn1 hn2 hu hln)
  · rw [if_neg (by simpa using hnn)]
    have hlt : K (arrOf st) n < K (arrOf st) (n - 1) := hor.resolve_left hnn
    by_cases hgt : n > 1
    · rw [if_pos hgt]
      refine wpS_bind (wpS_ltK hB h0 (by (first | lia | omega)) (by (first | lia | omega)) ?_)
      by_cases hrose : K (arrOf st) 0 < K (arrOf st) (n - 1)
      · simp only [hrose, decide_true, if_true]
        exact wpS_pure (h n st hB hn1 hn2 hu hln)
      · simp only [hrose, decide_false, Bool.false_eq_true, if_false]
        have hns : n ≤ (arrOf st).size := by (first | lia | omega)
        have all1 : ∀ k, k < n → K (arrOf st) k = K (arrOf st) (n - 1) := by
          intro k hk
          have a1 := hu.le (i := 0) (j := k) (by (first | lia | omega)) hk
          have a2 := hu.le (i := k) (j := n - 1) (by (first | lia | omega)) (by (first | lia | omega))
          (first | lia | omega)
        refine wpS_bind (wpS_reverse (descPart_st h0 hn (by (first | lia | omega)) (hB.setArr (mirror_perm _ _ _ _)) ?_ h))
        show Fall (mirror (arrOf st) 0 n ((n - 0) / 2)) (n + 1) n
        refine fall_new (fun i j hij hj => ?_) (left_mir hns (Nat.le_refl _) hln hns) (by rw [mirror_size]; (first | lia | omega)) (by (first | lia | omega)) ?_
        · rw [K_mirror hns, K_mirror hns, K2_mir hns, K2_mir hns, if_pos (by (first | lia | omega)), if_pos (by (first | lia | omega)), if_pos (by (first | lia | omega)), if_pos (by (first | lia | omega))]
          have b1 := all1 (0 + n - 1 - i) (by (first | lia | omega))
          have b2 := all1 (0 + n - 1 - j) (by (first | lia | omega))
          have b3 := hu (0 + n - 1 - j) (0 + n - 1 - i) (by (first | lia | omega)) (by (first | lia | omega))
          (first | lia | omega)
        · rw [K_mirror hns, K_mirror hns, if_neg (by (first | lia | omega)), if_pos (by (first | lia | omega))]
          have b1 := all1 (0 + n - 1 - (n - 1)) (by (first | lia | omega))
          (first | lia | omega)
    · rw [if_neg hgt]
      have e1 : n = 1 := by (first | lia | omega)
      subst e1
      exact descPart_st h0 hn (by (first | lia | omega)) hB (fall_new (fun i j hij hj => by (first | lia | omega)) hln (by (first | lia | omega)) (by (first | lia | omega)) hlt) h

theorem ins_st {st : SortSt} {n ok : Nat} {Q : Bool → SortSt → Prop} (h0 : IntKeys a₀) (hn : n ≤ a₀.size) (hok : ok ≤ n) (hok1 : 1 ≤ ok) (hB : SBase a₀ st) (hu : Up (arrOf st) ok) (hl : Left (arrOf st) ok)
    (h : ∀ st', SBase a₀ st' → Up (arrOf st') n → Q true st') : wpS (model prog w) A E s (binarySort' 0 n ok) Q st := by
  rw [binarySort'_eq]
  simp only [Nat.zero_add]
  have eo : max ok 1 = ok := by (first | lia | omega)
  rw [eo]
  refine wpS_bind (wpS_mono (wpS_forRange (I := fun k c st' => c = (none, ()) ∧ SBase a₀ st' ∧ Up (arrOf st') k ∧ Left (arrOf st') k)
    (Q := fun c st' => c = (none, ()) ∧ SBase a₀ st' ∧ Up (arrOf st') n) ?turn ?fin ⟨rfl, hB, hu, hl⟩) ?post)
  case post =>
    rintro c st' ⟨rfl, hB', hu'⟩
    exact wpS_pure (h st' hB' hu')
  case fin =>
    rintro c st' ⟨hc, hB', hu', _⟩
    have e : max ok n = n := by (first | lia | omega)
    rw [e] at hu'
    exact ⟨hc, hB', hu'⟩
  case turn =>
    rintro k c st' hak hkn ⟨rfl, hB', hu', hl'⟩
    have hsz := hB'.size
    have hk : k < a₀.size := by (first | lia | omega)
    refine wpS_bind (wpS_mono (wpS_forRange (I := fun x c st'' => st'' = st' ∧ ∃ l r, c = (none, l, r) ∧ l ≤ r ∧ r ≤ k ∧ r - l ≤ k - x ∧
        (∀ i, i < l → K (arrOf st') i ≤ K (arrOf st') k) ∧ (∀ i, r ≤ i → i < k → K (arrOf st') k < K (arrOf st') i))
      (Q := fun c st'' => st'' = st' ∧ ∃ l r, c = (none, l, r) ∧ l ≤ k ∧
        (∀ i, i < l → K (arrOf st') i ≤ K (arrOf st') k) ∧ (∀ i, l ≤ i → i < k → K (arrOf st') k < K (arrOf st') i)) ?t2 ?f2 ?i2) ?p2)
    case i2 => exact ⟨rfl, 0, k, rfl, by (first | lia | omega), by (first | lia | omega), by (first | lia | omega), fun i hi => by (first | lia | omega), fun i h1 h2 => by (first | lia | omega)⟩
    case f2 =>
      rintro c st'' ⟨rfl, l, r, rfl, hlr, hrk, hm, hlo, hhi⟩
      have e : l = r := by (first | lia | omega)
      subst e
      exact ⟨rfl, l, l, rfl, hrk, hlo, hhi⟩
    case t2 =>
      rintro x c st'' _ hxk ⟨rfl, l, r, rfl, hlr, hrk, hm, hlo, hhi⟩
      dsimp only
      by_cases hge : l ≥ r
      · rw [if_pos hge]
        have e : l = r := by (first | lia | omega)
        subst e
        exact wpS_pure ⟨rfl, l, l, rfl, hrk, hlo, hhi⟩
      · rw [if_neg hge]
        refine wpS_bind (wpS_ltK hB' h0 hk (by (first | lia | omega)) ?_)
        by_cases hless : K (arrOf st'') k < K (arrOf st'') ((l + r) / 2)
        · simp only [hless, decide_true, if_true]
          refine wpS_pure ⟨rfl, l, (l + r) / 2, rfl, by (first | lia | omega), by (first | lia | omega), by (first | lia | omega), hlo, fun i h1 h2 => ?_⟩
          have q := hu'.le h1 h2
          (first | lia | omega)
        · simp only [hless, decide_false, Bool.false_eq_true, if_false]
          refine wpS_pure ⟨rfl, (l + r) / 2 + 1, r, rfl, by (first | lia | omega), by (first | lia | omega), by (first | lia | omega), fun i h1 => ?_, hhi⟩
          have q := hu'.le (i := i) (j := (l + r) / 2) (by (first | lia | omega)) (by (first | lia | omega))
          (first | lia | omega)
    case p2 =>
      rintro c st'' ⟨rfl, l, r, rfl, hlk, hlo, hhi⟩
      show wpS _ _ _ _ (do moveDown' k l; pure (ForInStep.yield (none, ()))) _ _
      rw [moveDown'_eq]
      have hks : k < (arrOf st'').size := by (first | lia | omega)
      have ekl : k - (k - l) = l := by (first | lia | omega)
      have mine := hl'.same k (Nat.le_refl _) hks
      refine wpS_bind (wpS_modify (wpS_pure ⟨rfl, hB'.setArr (bubble_perm _ _ _), ?_, ?_⟩))
      · intro i j hij hj
        show K (bubble (arrOf st'') k (k - l)) i < K (bubble (arrOf st'') k (k - l)) j ∨ (K (bubble (arrOf st'') k (k - l)) i = K (bubble (arrOf st'') k (k - l)) j ∧ K2 (bubble (arrOf st'') k (k - l)) i < K2 (bubble (arrOf st'') k (k - l)) j)
        rw [K_bubble hks (by (first | lia | omega)), K_bubble hks (by (first | lia | omega)), K2_bub hks (by (first | lia | omega)), K2_bub hks (by (first | lia | omega)), ekl]
        by_cases hi : i < l
        · rw [if_neg (by (first | lia | omega) : ¬ i = l), if_neg (by (first | lia | omega) : ¬ (l < i ∧ i ≤ k)), if_neg (by (first | lia | omega) : ¬ i = l), if_neg (by (first | lia | omega) : ¬ (l < i ∧ i ≤ k))]
          by_cases hjl : j < l
          · rw [if_neg (by (first | lia | omega)), if_neg (by (first | lia | omega)), if_neg (by (first | lia | omega)), if_neg (by (first | lia | omega))]
            exact hu' i j hij (by (first | lia | omega))
          · by_cases hje : j = l
            · rw [if_pos hje, if_pos hje]
              have q1 := hlo i hi
              have q2 := hl'.ahead i (by (first | lia | omega)) (by (first | lia | omega))
              (first | lia | omega)
            · rw [if_neg hje, if_pos (by (first | lia | omega)), if_neg hje, if_pos (by (first | lia | omega))]
              exact hu' i (j - 1) (by (first | lia | omega)) (by (first | lia | omega))
        · by_cases hie : i = l
          · rw [if_pos hie, if_pos hie, if_neg (by (first | lia | omega)), if_pos (by (first | lia | omega)), if_neg (by (first | lia | omega)), if_pos (by (first | lia | omega))]
            exact .inl (hhi (j - 1) (by (first | lia | omega)) (by (first | lia | omega)))
          · have c1 : l < i ∧ i ≤ k := by (first | lia | omega)
            have c2 : ¬ j = l := by (first | lia | omega)
            have c3 : l < j ∧ j ≤ k := by (first | lia | omega)
            simp only [if_neg hie, if_pos c1, if_neg c2, if_pos c3]
            exact hu' (i - 1) (j - 1) (by (first | lia | omega)) (by (first | lia | omega))
      · refine ⟨fun i h1 h2 => ?_, fun i h1 h2 => ?_⟩
        · show K2 (bubble (arrOf st'') k (k - l)) i = i
          have h2' : i < (bubble (arrOf st'') k (k - l)).size := h2
          rw [bubble_size] at h2'
          rw [K2_bub hks (by (first | lia | omega)), ekl, if_neg (by (first | lia | omega)), if_neg (by (first | lia | omega))]
          exact hl'.same i (by (first | lia | omega)) h2'
        · show K2 (bubble (arrOf st'') k (k - l)) i < ((k + 1 : Nat) : Int)
          have h2' : i < (bubble (arrOf st'') k (k - l)).size := h2
          rw [bubble_size] at h2'
          rw [K2_bub hks (by (first | lia | omega)), ekl]
          split
          · (first | lia | omega)
          · split
            · have q := hl'.ahead (i - 1) (by (first | lia | omega)) (by (first | lia | omega))
              (first | lia | omega)
            · have q := hl'.ahead i (by (first | lia | omega)) (by (first | lia | omega))
              (first | lia | omega)

/-- the whole sort: in order, of like keys the lesser second number ahead -/
theorem runs_st {st : SortSt} {Q : Unit → SortSt → Prop} (h0 : IntKeys a₀) (hB : SBase a₀ st) (h2 : 2 ≤ a₀.size) (h64 : a₀.size < 64) (hl : Left (arrOf st) 0)
    (h : ∀ st', (arrOf st').Perm a₀ → failedOf st' = none → Up (arrOf st') a₀.size → Q () st') : wpS (model prog w) A E s sortRuns' Q st := by
  rw [sortRuns'_eq]
  refine wpS_bind (wpS_get ?_)
  dsimp only
  have hmr : minRun' a₀.size a₀.size 0 = a₀.size := by
    obtain ⟨f, hf⟩ : ∃ f, a₀.size = f + 1 := ⟨a₀.size - 1, by (first | lia | omega)⟩
    have q : minRun' (f + 1) a₀.size 0 = a₀.size := by rw [minRun'_succ, if_pos h64]; rfl
    rwa [← hf] at q
  simp only [hB.size, hmr]
  let Dn1 : SortSt → Prop := fun st' => (arrOf st').Perm a₀ ∧ failedOf st' = none ∧ pendingOf st' = #[(0, a₀.size, 0)] ∧ Up (arrOf st') a₀.size
  have fin1 : ∀ st', SBase a₀ st' → Up (arrOf st') a₀.size → Dn1 (setPending st' ((pendingOf st').push (0, a₀.size, 0))) := fun st' b u =>
    ⟨b.perm, b.failed, by show (pendingOf st').push _ = _; rw [b.pend]; rfl, u⟩
  refine wpS_bind (wpS_mono (wpS_forRange
    (I := fun x c st' => (x = 0 ∧ c = (none, 0) ∧ st' = st) ∨ (1 ≤ x ∧ c = (none, a₀.size) ∧ Dn1 st'))
    (Q := fun c st' => c = (none, a₀.size) ∧ Dn1 st') ?turn ?fin (.inl ⟨rfl, rfl, rfl⟩)) ?post)
  case fin =>
    rintro c st' (⟨hx, _, _⟩ | ⟨_, hc, hD⟩)
    · (first | lia | omega)
    · exact ⟨hc, hD⟩
  case turn =>
    rintro x c st' _ hx (⟨rfl, rfl, rfl⟩ | ⟨hx1, rfl, hD⟩)
    · dsimp only
      rw [if_neg (by (first | lia | omega))]
      simp only [Nat.sub_zero, Nat.min_self, Nat.zero_add]
      refine wpS_bind (count_st h0 (Nat.le_refl _) (by (first | lia | omega)) hB hl fun m st2 hB2 hm1 hm2 hu2 hl2 => ?_)
      dsimp only
      by_cases hlt : m < a₀.size
      · rw [if_pos hlt]
        refine wpS_bind (wpS_lift (wpAny_rule ⟨rfl, ?_⟩))
        refine wpS_bind (ins_st h0 (Nat.le_refl _) hm2 hm1 hB2 hu2 hl2 fun st3 hB3 hu3 => ?_)
        simp only [Bool.not_true, Bool.false_eq_true, if_false]
        refine wpS_bind (wpS_get ?_)
        have hb : (pendingOf st3).back? = none := by rw [hB3.pend]; rfl
        rw [hb]
        dsimp only
        exact wpS_bind (wpS_modify (wpS_pure (.inr ⟨by (first | lia | omega), rfl, fin1 _ hB3 hu3⟩)))
      · rw [if_neg hlt]
        have hm : m = a₀.size := by (first | lia | omega)
        subst hm
        refine wpS_bind (wpS_get ?_)
        have hb : (pendingOf st2).back? = none := by rw [hB2.pend]; rfl
        rw [hb]
        dsimp only
        exact wpS_bind (wpS_modify (wpS_pure (.inr ⟨by (first | lia | omega), rfl, fin1 _ hB2 hu2⟩)))
    · dsimp only
      rw [if_pos (Nat.le_refl _)]
      exact wpS_pure ⟨rfl, hD⟩
  case post =>
    rintro c st' ⟨rfl, hD⟩
    dsimp only
    refine wpS_bind (wpS_mono (wpS_forRange (I := fun _ c st'' => st'' = st' ∧ c = (none, ())) (Q := fun c st'' => st'' = st' ∧ c = (none, ())) ?_ (fun _ _ hh => hh) ⟨rfl, rfl⟩) ?_)
    · rintro x c st'' _ _ ⟨rfl, rfl⟩
      refine wpS_bind (wpS_get ?_)
      rw [if_pos (by rw [hD.2.2.1]; exact Nat.le_refl 1)]
      exact wpS_pure ⟨rfl, rfl⟩
    · rintro c st'' ⟨rfl, rfl⟩
      exact wpS_pure (h _ hD.1 hD.2.1 hD.2.2.2)
end
end SS

set_option linter.all false
set_option maxHeartbeats 4000000
set_option maxRecDepth 100000
namespace SS
open PySem PyProof.Rows

/-- n places, as ints: their values bear the places themselves -/
noncomputable def Places (vs : List Value) (n : Nat) : Prop := vs.length = n ∧ ∀ (i : Nat) v, vs[i]? = some v → ∃ t, v = .int (i : Int) t
/-- what the sort by key makes of n places -/
structure Sorted (key : Nat → Int) (n : Nat) (ps : List Nat) : Prop where
  perm : ps.Perm (List.range n)
  ord : ∀ (i j p q : Nat), i < j → ps[i]? = some p → ps[j]? = some q → key p < key q ∨ (key p = key q ∧ p < q)

section
variable {keys : Array Value} {vs : List Value} {n : Nat} {key : Nat → Int} {xs : Array Keyed}
theorem pair_at (hk : IntsAre keys.toList ((List.range n).map key)) (hv : Places vs n) {i : Nat} (hi : i < n) :
    ∃ t u, (keys.zip vs.toArray)[i]? = some (.int (key i) t, .int (i : Int) u) := by
  have hl : keys.size = n := by have q := hk.length; simpa using q
  obtain ⟨x, h1⟩ : ∃ x, vs[i]? = some x := ⟨_, List.getElem?_eq_getElem (by rw [hv.1]; exact hi)⟩
  obtain ⟨u, hu⟩ := hv.2 i _ h1
  obtain ⟨y, h2⟩ : ∃ y, keys.toList[i]? = some y := ⟨_, List.getElem?_eq_getElem (by simpa [hl] using hi)⟩
  obtain ⟨m, t, hm⟩ := hk.all y (List.mem_of_getElem? h2)
  have h3 : (keys.toList.map numOf)[i]? = some (key i) := by
    rw [hk.nums, List.getElem?_map, List.getElem?_range hi]; rfl
  rw [List.getElem?_map, h2, hm] at h3
  have h4 : m = key i := by simpa [numOf] using h3
  refine ⟨t, u, ?_⟩
  rw [← Array.getElem?_toList, ksk_zip, List.getElem?_zip_eq_some]
  exact ⟨by rw [h2, hm, h4], by rw [h1, hu]⟩
theorem pairs_size (hk : IntsAre keys.toList ((List.range n).map key)) (hv : Places vs n) : (keys.zip vs.toArray).size = n := by
  have hl : keys.size = n := by have q := hk.length; simpa using q
  rw [Array.size_zip, hl, List.size_toArray, hv.1, Nat.min_self]
theorem left0 (hk : IntsAre keys.toList ((List.range n).map key)) (hv : Places vs n) : Left (keys.zip vs.toArray) 0 := by
  refine ⟨fun i _ h2 => ?_, fun i h1 _ => by (first | lia | omega)⟩
  rw [pairs_size hk hv] at h2
  obtain ⟨t, u, e⟩ := pair_at hk hv h2
  unfold K2
  rw [e]; rfl
theorem mem_pair (hk : IntsAre keys.toList ((List.range n).map key)) (hv : Places vs n) {p : Keyed} (hp : p ∈ (keys.zip vs.toArray).toList) :
    ∃ (i : Nat) (t u : Tok), i < n ∧ p = (.int (key i) t, .int (i : Int) u) := by
  obtain ⟨i, hi, e⟩ := List.mem_iff_getElem.mp hp
  have hi' : i < n := by rw [Array.length_toList, pairs_size hk hv] at hi; exact hi
  obtain ⟨t, u, q⟩ := pair_at hk hv hi'
  rw [← Array.getElem?_toList, List.getElem?_eq_getElem hi, e] at q
  exact ⟨i, t, u, hi', Option.some.inj q⟩
noncomputable def psOf (xs : Array Keyed) : List Nat := xs.toList.map fun q => (numOf q.2).toNat
theorem sorted_of (hk : IntsAre keys.toList ((List.range n).map key)) (hv : Places vs n) (hp : xs.Perm (keys.zip vs.toArray)) (hu : Up xs xs.size) :
    Sorted key n (psOf xs) ∧ IntsAre (xs.map (·.2)).toList ((psOf xs).map fun p : Nat => (p : Int)) := by
  have hl : xs.toList.Perm (keys.zip vs.toArray).toList := Array.perm_iff_toList_perm.mp hp
  have hm : ∀ p ∈ xs.toList, ∃ (i : Nat) (t u : Tok), i < n ∧ p = (.int (key i) t, .int (i : Int) u) := fun p h => mem_pair hk hv (hl.mem_iff.mp h)
  refine ⟨⟨?_, ?_⟩, ?_⟩
  · have e : ((keys.zip vs.toArray).toList.map fun q => (numOf q.2).toNat) = List.range n := by
      refine List.ext_getElem? fun i => ?_
      rw [List.getElem?_map, Array.getElem?_toList]
      by_cases hi : i < n
      · obtain ⟨t, u, q⟩ := pair_at hk hv hi
        rw [q, List.getElem?_range hi]
        simp [numOf]
      · rw [Array.getElem?_eq_none (by rw [pairs_size hk hv]; (first | lia | omega)), List.getElem?_eq_none (by simp; (first | lia | omega))]
        rfl
    rw [← e]
    exact hl.map _
  · intro i j p q hij hi hj
    unfold psOf at hi hj
    rw [List.getElem?_map, Array.getElem?_toList] at hi hj
    cases ei : xs[i]? with
    | none => rw [ei] at hi; cases hi
    | some a =>
      cases ej : xs[j]? with
      | none => rw [ej] at hj; cases hj
      | some b =>
        rw [ei] at hi
        rw [ej] at hj
        have hjs : j < xs.size := (Array.getElem?_eq_some_iff.mp ej).1
        have q1 := hu i j hij hjs
        obtain ⟨x, t, u, _, rfl⟩ := hm a (by rw [Array.mem_toList_iff]; exact Array.mem_of_getElem? ei)
        obtain ⟨y, t', u', _, rfl⟩ := hm b (by rw [Array.mem_toList_iff]; exact Array.mem_of_getElem? ej)
        have hx : x = p := by simpa [numOf] using hi
        have hy : y = q := by simpa [numOf] using hj
        subst hx hy
        unfold K K2 at q1
        rw [ei, ej] at q1
        simp only [numOf] at q1
        (first | lia | omega)
  · have e1 : (xs.map (·.2)).toList = xs.toList.map (·.2) := by simp
    have e2 : (psOf xs).map (fun p : Nat => (p : Int)) = (xs.toList.map (·.2)).map numOf := by
      unfold psOf
      rw [List.map_map, List.map_map]
      refine List.map_congr_left fun p hpm => ?_
      obtain ⟨i, t, u, _, rfl⟩ := hm p hpm
      simp [numOf]
    rw [e1, e2]
    refine intsAre_map _ fun v hvm => ?_
    obtain ⟨p, hpm, rfl⟩ := List.mem_map.mp hvm
    obtain ⟨i, t, u, _, rfl⟩ := hm p hpm
    exact ⟨_, _, rfl⟩
end

section
variable {prog : Program} {w : World} {A : Around} {E : Value → Shared → Prop} {s : Shared} {a f : Addr} {vs : List Value} {n e0 : Nat} {key : Nat → Int} {P : PySem.Fin → Shared → Prop}

/-- kept but at a -/
noncomputable def But (a : Addr) (h h' : Heap) : Prop := ∀ b o, b ≠ a → h.get? b = some o → h'.get? b = some o

theorem sort_key (ho : s.heap.get? a = some (seqObj "list" vs.toArray e0)) (hv : Places vs n) (h64 : n < 64)
    (turn : ∀ (i : Nat) (t : Tok) (h : Heap) (tk : Nat), i < n → But a s.heap h →
      wpAny (model prog w) A (call (.ref f) [.int (i : Int) t]) (fun v s₂ => ∃ h' tk' t', s₂ = { s with heap := h', toks := tk' } ∧ v = .int (key i) t' ∧ ∀ b o, h.get? b = some o → h'.get? b = some o) (fun _ _ => False) { s with heap := h, toks := tk })
    (fin : ∀ (h' : Heap) (tk : Nat) (ps : List Nat) (out : Array Value) (c : Nat), But a s.heap h' → h'.get? a = some (seqObj "list" out c) → IntsAre out.toList (ps.map fun p : Nat => (p : Int)) → Sorted key n ps →
      P (.done (.ret .none)) { s with heap := h', toks := tk }) :
    wpAny (model prog w) A (ksk_tree a (.ref f) false) P E s := by
  have hlen := hv.1
  have hz : vs.length ≤ sizeLine := by rw [sizeLine_eq]; (first | lia | omega)
  obtain ⟨e1, ho1⟩ : ∃ e1, (s.heap.update a (Obj.mapSeq fun _ => (#[] : Array Value))).get? a = some (seqObj "list" #[] e1) := ⟨_, get?_update_seq ho fun _ => #[]⟩
  have b1 : But a s.heap (s.heap.update a (Obj.mapSeq fun _ => (#[] : Array Value))) := fun b o hb e => (Heap.get?_update_other _ _ (Ne.symm hb)).trans e
  have ha : a < s.heap.objs.size := Heap.lt_size ho
  unfold ksk_tree
  refine wpAny_bind (listItems_at ho rfl ?_)
  refine wpAny_bind (listUpdate_at ho rfl ?_ (by rw [List.size_toArray]; exact hz) (Nat.zero_le _))
  refine wpAny_bind (seqEpoch_at ho1 rfl ?_)
  refine wpAny_bind (wpAny_newTuple ?_ (by show vs.length ≤ _; exact hz))
  refine wpAny_bind (wpAny_newList ?_ (Nat.zero_le _))
  refine wpAny_holding ?_
  show wpAny _ _ (ksk_rest a (.ref f) false vs.toArray e1 (.ref ((s.heap.update a (Obj.mapSeq fun _ => (#[] : Array Value))).push (seqObj "tuple" vs.toArray 0)).objs.size)) _ _ { s with heap := ((s.heap.update a (Obj.mapSeq fun _ => (#[] : Array Value))).push (seqObj "tuple" vs.toArray 0)).push (seqObj "list" #[] 0) }
  generalize hH : (s.heap.update a (Obj.mapSeq fun _ => (#[] : Array Value))).push (seqObj "tuple" vs.toArray 0) = H
  have hHs : s.heap.objs.size < H.objs.size := by rw [← hH, size_push', Heap.size_update]; exact Nat.lt_succ_self _
  have b2 : But a s.heap (H.push (seqObj "list" #[] 0)) := fun b o hb e => Heap.get?_push_of_some _ (by rw [← hH]; exact Heap.get?_push_of_some _ (b1 b o hb e))
  have a2 : (H.push (seqObj "list" #[] 0)).get? a = some (seqObj "list" #[] e1) := Heap.get?_push_of_some _ (by rw [← hH]; exact Heap.get?_push_of_some _ ho1)
  have k2 : (H.push (seqObj "list" #[] 0)).get? H.objs.size = some (seqObj "list" #[] 0) := Heap.get?_push_size _ rfl
  have hka : H.objs.size ≠ a := fun e => by rw [e] at hHs; exact Nat.lt_irrefl _ (Nat.lt_trans ha hHs)
  have kNew : ∀ b o, s.heap.get? b = some o → b ≠ H.objs.size := fun b o e z => by have := Heap.lt_size e; rw [z] at this; exact Nat.lt_irrefl _ (Nat.lt_trans this hHs)
  unfold ksk_rest
  refine wpAny_bind (wpAny_rule ?_)
  first
    | rw [List.forIn_toArray]
    | (rw [← Array.forIn_toList]; simp only [List.toList_toArray])
  refine wpAny_bind (ksk_fold (fun i s' => ∃ h' tk kA e, s' = { s with heap := h', toks := tk } ∧ But a s.heap h' ∧ h'.get? a = some (seqObj "list" #[] e1) ∧ h'.get? H.objs.size = some (seqObj "list" kA e) ∧ IntsAre kA.toList ((List.range i).map key) ∧ i ≤ n) vs 0 _
    ⟨_, s.toks, #[], 0, rfl, b2, a2, k2, by simpa using IntsAre.nil, Nat.zero_le _⟩ ?step ?done)
  case step =>
    rintro j x s' hx ⟨h', tk, kA, e, rfl, b3, a3, k3, hk, _⟩
    simp only [Nat.zero_add] at hk ⊢
    have hj : j < n := by have := (List.getElem?_eq_some_iff.mp hx).1; (first | lia | omega)
    obtain ⟨t, rfl⟩ := hv.2 j x hx
    have hkz : kA.size ≤ n := by have q := hk.length; simp at q; (first | lia | omega)
    refine wpAny_bind (wpAny_attempt (wpAny_mono (turn j t h' tk hj b3) (fun v s'' he => ?_) fun _ _ hF => hF.elim))
    obtain ⟨g, tk2, t2, rfl, rfl, kp⟩ := he
    try dsimp only
    have a4 := kp _ _ a3
    have k4 := kp _ _ k3
    obtain ⟨c2, hc2⟩ : ∃ c2, (g.update H.objs.size (Obj.mapSeq (·.push (.int (key j) t2)))).get? H.objs.size = some (seqObj "list" (kA.push (.int (key j) t2)) c2) := ⟨_, get?_update_seq k4 (·.push (.int (key j) t2))⟩
    refine wpAny_bind (listUpdate_at k4 rfl ?_ (by rw [sizeLine_eq]; (first | lia | omega)) (Nat.le_trans (Nat.le_of_eq (Array.size_push ..)) (by rw [sizeLine_eq]; (first | lia | omega))))
    refine wpAny_pure ⟨rfl, _, _, kA.push (.int (key j) t2), c2, rfl, fun b o hb q => ?_, ?_, hc2, ?_, by (first | lia | omega)⟩
    · exact (Heap.get?_update_other _ _ (Ne.symm (kNew b o q))).trans (kp _ _ (b3 b o hb q))
    · exact (Heap.get?_update_other _ _ hka).trans a4
    · have ea : (kA.push (Value.int (key j) t2)).toList = kA.toList ++ [Value.int (key j) t2] := by simp
      rw [ea, List.range_succ, List.map_append]
      exact ksk_snoc hk
  case done =>
    rintro s' ⟨h', tk, kA, e, rfl, b3, a3, k3, hk, _⟩
    have en : 0 + vs.length = n := by (first | lia | omega)
    rw [en] at hk
    try dsimp only
    refine wpAny_bind (listItems_at k3 rfl ?_)
    have hks : kA.size = n := by have q := hk.length; simpa using q
    have hps := pairs_size hk hv
    -- what is done with the pairs in order
    have last : ∀ st : SortSt, (arrOf st).Perm (kA.zip vs.toArray) → failedOf st = none → Up (arrOf st) (arrOf st).size →
        wpAny (model prog w) A (ksk_tail a false e1 (.ref H.objs.size) st) P E { s with heap := h', toks := tk } := by
      intro st hp hfl hu
      obtain ⟨so, io⟩ := sorted_of hk hv hp hu
      have hos : ((arrOf st).map (·.2)).size = n := by rw [Array.size_map, hp.size_eq, hps]
      have a5 : (h'.update H.objs.size (Obj.mapSeq fun _ => (#[] : Array Value))).get? a = some (seqObj "list" #[] e1) := (Heap.get?_update_other _ _ hka).trans a3
      obtain ⟨c2, hc2⟩ : ∃ c2, ((h'.update H.objs.size (Obj.mapSeq fun _ => (#[] : Array Value))).update a (Obj.mapSeq fun _ => (arrOf st).map (·.2))).get? a = some (seqObj "list" ((arrOf st).map (·.2)) c2) := ⟨_, get?_update_seq a5 fun _ => (arrOf st).map (·.2)⟩
      unfold ksk_tail
      simp only [Bool.false_eq_true, if_false]
      refine wpAny_bind (listUpdate_at k3 rfl ?_ (by rw [hks, sizeLine_eq]; (first | lia | omega)) (Nat.zero_le _))
      refine wpAny_bind (wpAny_letGo ?_)
      refine wpAny_bind (seqEpoch_at a5 rfl ?_)
      refine wpAny_bind (listUpdate_at a5 rfl ?_ (Nat.zero_le _) (Nat.le_trans (Nat.le_of_eq hos) (by rw [sizeLine_eq]; (first | lia | omega))))
      rw [hfl]
      simp only [bne_self_eq_false, Bool.false_eq_true, if_false]
      refine wpAny_pure (fin _ _ _ _ c2 (fun b o hb q => ?_) hc2 io so)
      exact (Heap.get?_update_other _ _ (Ne.symm hb)).trans ((Heap.get?_update_other _ _ (Ne.symm (kNew b o q))).trans (b3 b o hb q))
    unfold ksk_end
    simp only [Bool.false_eq_true, if_false]
    by_cases hsm : vs.toArray.size < 2
    · rw [if_pos hsm, if_pos hsm]
      refine wpAny_bind (wpAny_pure ?_)
      rw [StateT.run_pure]
      refine wpAny_bind (wpAny_pure ?_)
      try dsimp only
      refine last (SortSt.mk' general' (kA.zip vs.toArray) #[] 7 none) (Array.Perm.refl _) rfl ?_
      intro i j hij hj
      have hj2 : j < (kA.zip vs.toArray).size := hj
      rw [hps] at hj2
      rw [List.size_toArray] at hsm
      (first | lia | omega)
    · rw [if_neg hsm, if_neg hsm]
      rw [List.size_toArray] at hsm
      rw [ksk_kind hk (by rw [hks]; (first | lia | omega))]
      refine wpAny_bind (wpAny_pure ?_)
      refine wpAny_bind (wpAny_mono (runs_st (a₀ := kA.zip vs.toArray) (st := SortSt.mk' oneType' (kA.zip vs.toArray) #[] 7 none)
        (Q := fun _ st' => (arrOf st').Perm (kA.zip vs.toArray) ∧ failedOf st' = none ∧ Up (arrOf st') (kA.zip vs.toArray).size)
        (ksk_intKeys hk) ⟨Array.Perm.refl _, rfl, rfl, rfl⟩ (by rw [hps]; (first | lia | omega)) (by rw [hps]; exact h64) (left0 hk hv) fun st' q1 q2 q3 => ⟨q1, q2, q3⟩) ?_ fun _ _ e => e)
      rintro ⟨⟨⟩, st'⟩ s' ⟨rfl, hp, hf, hu⟩
      try dsimp only
      exact last st' hp hf (by rw [hp.size_eq]; exact hu)
end

section
variable {prog : Program} {w : World} {A : Around} {E : Value → Shared → Prop} {s : Shared}
theorem collect_rng {r : Addr} {n : Nat} {t u v : Tok} {Q : List Value → Shared → Prop} (hh : A.handled = none) (hr : IsRange s.heap r 0 (n : Int) 1 t u v) (hn : n ≤ 1000)
    (h : ∀ (h' : Heap) (tk : Nat) (vs : List Value), (∀ b o, s.heap.get? b = some o → h'.get? b = some o) → Places vs n → Q vs { s with heap := h', toks := tk }) :
    wpAny (model prog w) A (collect (.ref r)) Q E s := by
  have hsz : Builtin.Range.rangeSize 0 (n : Int) 1 = (n : Int) := by rw [rangeSize_one]; split <;> (first | lia | omega)
  have hsm : Builtin.Range.small 0 (n : Int) 1 = true := small_one (by (first | lia | omega)) (by (first | lia | omega)) (by (first | lia | omega)) (by (first | lia | omega))
  have ent : ∀ (R : Result → Shared → Prop), (∀ h' tk acc' c', (∀ b o, s.heap.get? b = some o → h'.get? b = some o) → h'.get? s.heap.objs.size = some { cls := .type "list", dict := none, data := .seq acc' c', slots := #[] } →
      ItemsOf (fun i v => ∃ t, v = .int (0 + i * 1) t) acc' n → R (.ok (.ret (.ref s.heap.objs.size))) { s with heap := h', toks := tk }) →
      codeAny (model prog w) A (.builtin "proto.collect" ⟨[.ref r], []⟩) R s := by
    intro R hR
    refine codeAny_builtin entry_proto_collect' ?_
    rw [Around.under_plainId PySem.F.plain_proto_collect _]
    show wpAny _ A.in1 (newList [] >>= fun l => again (.builtin "list.__iadd__" ⟨[l, .ref r], []⟩)) _ _ s
    refine wpAny_bind (wpAny_newObj_type ?_)
    refine wpAny_pure ⟨plainId_quiet PySem.F.plain_list_iadd _, codeAny_builtin entry_list_iadd' ?_⟩
    rw [Around.under_plainId PySem.F.plain_list_iadd _]
    show wpAny _ A.in1 (Builtin.List.listExtendWith (.ref s.heap.objs.size) (.ref r) (.ref s.heap.objs.size)) _ _ _
    refine wpAny_extend_range (s := { s with heap := s.heap.push { cls := .type "list", data := .seq ([] : List Value).toArray } }) hh (Heap.get?_push_of_some _ hr) hsm hsz (by (first | lia | omega)) s.heap.objs.size (.ref s.heap.objs.size) 0 (Heap.get?_push_size _ rfl) ?_
    intro h' tk acc' c' hk hS hacc
    exact hR h' tk acc' c' (fun b o e => hk b o (Nat.ne_of_lt (Heap.lt_size e)) (Heap.get?_push_of_some _ e)) hS hacc
  unfold collect
  refine wpAny_bind (wpAny_runValue (ent _ ?_))
  intro h' tk acc' c' hk hS hacc
  show wpAny _ A (load s.heap.objs.size >>= _) _ _ _
  refine wpAny_bind (wpAny_load hS ?_)
  refine wpAny_pure (h h' tk acc'.toList hk ⟨by simpa using hacc.1, fun i v hv => ?_⟩)
  obtain ⟨t, e⟩ := hacc.2 i v (by rw [← Array.getElem?_toList]; exact hv)
  exact ⟨t, by rw [e]; simp⟩

/-- sorted(range(n), key=f): the places by their keys, of like keys the first first -/
theorem sorted_rng {r f : Addr} {n : Nat} {t u v : Tok} {key : Nat → Int} {Q : Value → Shared → Prop} (hh : A.handled = none) (hr : IsRange s.heap r 0 (n : Int) 1 t u v) (h64 : n < 64)
    (turn : ∀ (i : Nat) (t : Tok) (h : Heap) (tk : Nat), i < n → (∀ b o, s.heap.get? b = some o → h.get? b = some o) →
      wpAny (model prog w) A.in1.in1 (call (.ref f) [.int (i : Int) t]) (fun v s₂ => ∃ h' tk' t', s₂ = { s with heap := h', toks := tk' } ∧ v = .int (key i) t' ∧ ∀ b o, h.get? b = some o → h'.get? b = some o) (fun _ _ => False) { s with heap := h, toks := tk })
    (fin : ∀ (D : Addr) (h' : Heap) (tk : Nat) (ps : List Nat) (out : Array Value) (c : Nat), (∀ b o, s.heap.get? b = some o → h'.get? b = some o) → s.heap.get? D = none → h'.get? D = some (seqObj "list" out c) → IntsAre out.toList (ps.map fun p : Nat => (p : Int)) → Sorted key n ps →
      Q (.ref D) { s with heap := h', toks := tk }) :
    wpAny (model prog w) A (call (.builtin "sorted") [.ref r] [(Str.ofString "key", .ref f)]) Q E s := by
  refine call_function_entry_kw kind_sorted plain_sorted entry_sorted (ksk_s1 _ _) ?_
  unfold Builtin.«sorted»
  refine wpAny_bind (m := checkCount "sorted" 1 1 _) (wpAny_pure ?_)
  refine wpAny_bind (collect_rng (A := A.in1) hh hr (by (first | lia | omega)) fun h1 tk1 vs k1 hv => ?_)
  refine wpAny_bind (wpAny_newList ?_ (by rw [hv.1, sizeLine_eq]; (first | lia | omega)))
  have sz1 : s.heap.get? h1.objs.size = none := by
    cases q : s.heap.get? h1.objs.size with
    | none => rfl
    | some o => exact absurd (Heap.lt_size (k1 _ _ q)) (Nat.lt_irrefl _)
  refine wpAny_bind (wpAny_holding (wpAny_call_entry_kw slot_list_sort ⟨_, Heap.get?_push_size _ rfl, rfl⟩ entry_list_sort ?body (ksk_l1 _ _)))
  show wpAny (model prog w) A.in1.in1 (Builtin.«list.sort» ⟨[.ref h1.objs.size], [(Str.ofString "key", .ref f)]⟩) _ _ _
  rw [ksk_t1]
  refine sort_key (s := { s with heap := h1.push (seqObj "list" vs.toArray 0), toks := tk1 }) (Heap.get?_push_size _ rfl) hv h64 (fun i t h tk hi hb => ?_) fun h' tk ps out c hb ho io so => ⟨_, rfl, wpAny_pure ⟨_, rfl, fin _ h' tk ps out c (fun b o e => ?_) sz1 ho io so⟩⟩
  · exact turn i t h tk hi fun b o e => hb b o (Nat.ne_of_lt (Heap.lt_size (k1 b o e))) (Heap.get?_push_of_some _ (k1 b o e))
  · exact hb b o (Nat.ne_of_lt (Heap.lt_size (k1 b o e))) (Heap.get?_push_of_some _ (k1 b o e))
end
end SS

set_option linter.all false
set_option maxHeartbeats 4000000
set_option maxRecDepth 100000
namespace L2
open PySem PySem.Spec PyProof.Rows

/-- the def's table of codes at P: empty, or with the lambda's one -/
noncomputable def Tb (P : Addr) (lp : Pos) (lq : Str) (H : Hp) : Prop :=
  ∃ ps, H P = some (.tbl ps) ∧ (ps = #[] ∨ ∃ c', ps = #[rawInt lp.line, rawInt lp.col, .ref c'] ∧ H c' = some (.ext fun h => h.CodeRec (.ref c') lq))
/-- all but the table is as it was -/
structure Sm (P : Addr) (lp : Pos) (lq : Str) (H H' : Hp) : Prop where
  all : ∀ b o, b ≠ P → H b = some o → H' b = some o
  tb : Tb P lp lq H → Tb P lp lq H'
theorem Sm.trans {P : Addr} {lp : Pos} {lq : Str} {H H1 H2 : Hp} (a : Sm P lp lq H H1) (b : Sm P lp lq H1 H2) : Sm P lp lq H H2 := ⟨fun c o n h => b.all c o n (a.all c o n h), fun h => b.tb (a.tb h)⟩
theorem Tb.at {P : Addr} {lp : Pos} {lq : Str} {H H' : Hp} (t : Tb P lp lq H) (e : Same H H') : Tb P lp lq H' := by
  obtain ⟨ps, h, r⟩ := t
  refine ⟨ps, e _ _ h, ?_⟩
  rcases r with r | ⟨c', r, q⟩
  · exact .inl r
  · exact .inr ⟨c', r, e _ _ q⟩
theorem Same.sm {P : Addr} {lp : Pos} {lq : Str} {H H' : Hp} (e : Same H H') : Sm P lp lq H H' := ⟨fun b o _ h => e b o h, fun t => t.at e⟩
section
variable {X : Cx} {pins : List (Addr × Obj)} {σ : St} {H : Hp} {s : Shared} {P c : Addr} {lp : Pos} {la : Arguments} {lb : Expr} {lsc : Scope} {own : List Str} {cap : List Nat}

/-- a lambda of the def is made -/
theorem lam_make {E : Value → Shared → Prop} {Q : Value → Shared → Prop} (hcode : X.env.code = .ref c) (hC : PySem.W.CodeHd X.base c P) (hbm : X.base.BuiltinsAt X.mg P) (B : Blk X.env.scope X.N lsc own cap) (hdf : defaultsOf la X.env = ([], []))
    (I : Inv X pins σ H s) (tb : Tb P lp (X.env.qual ++ "<lambda>") H)
    (h : ∀ (f : Addr) (cl : List (Str × Addr)) (cd ct : Value) (H' : Hp) (s' : Shared), Inv X pins σ H' s' → s'.heap.get? f = some { cls := .type "function", data := .func (PySem.W.kla_fn "<lambda>" (X.env.qual ++ "<lambda>") la lb lsc cl ((X.mg "__name__").getD .none) cd ct) } →
      s'.heap.CodeRec cd (X.env.qual ++ "<lambda>") → (∀ x c, cl.lookup x = some c → X.env.cells.lookup x = some c) → (∀ x, (x, NameKind.free) ∈ lsc.names → ∃ c, cl.lookup x = some c) →
      (∀ b o, b ≠ P → H b = some o → H' b = some o) → Tb P lp (X.env.qual ++ "<lambda>") H' → (∀ b o, s.heap.get? b = some o → ∃ o', s'.heap.get? b = some o') → Q (.ref f) s') :
    wpAny (model X.prog X.w) X.A (eval (.Lambda la lb lsc lp) X.env) Q E s := by
  obtain ⟨cl, hcl, h1, h2⟩ := blk_clos B I
  obtain ⟨ps, hP, alt⟩ := tb
  have gP : s.heap.get? P = some (PySem.W.tabObj ps) := I.hok P _ hP
  have hg : s.heap.Ns mainGlobals X.mg := I.mod.glob.keeps I.bk
  have hgP : mainGlobals ≠ P := fun e => by
    obtain ⟨o, es, ep, ho, hd, _⟩ := hg
    rw [e, gP] at ho
    cases ho
    cases hd
  have hb : s.heap.BuiltinsAt X.mg P := by
    obtain ⟨bm, o, a1, a2, a3, a4, a5, r⟩ := hbm
    exact ⟨bm, o, a1, a2, a3, a4, I.bk _ _ a5, r⟩
  have hC' := hC.keeps I.bk
  rw [arm_eval_Lambda, hdf]
  show wpAny _ _ (evalAll [] >>= fun dv => holding dv (evalAllOpt []) >>= fun kdv => makeFunction "<lambda>" (X.env.qual ++ "<lambda>") la (.expr lb) lsc X.env dv kdv [] lp lp.line) _ _ s
  refine wpAny_bind (wpAny_pure (wpAny_bind (wpAny_holding (wpAny_pure ?_))))
  rcases alt with rfl | ⟨c', rfl, hc'⟩
  · refine PySem.W.kla_makeFunction hcl I.ok.glob hg hcode hC' gP trivial rfl hgP hb fun c' ctv h' tk ex hge hlt hrec htb => ?_
    have nP : ∀ b u, H b = some u → b ≠ P → s.heap.get? b ≠ none := fun b u e _ z => by
      obtain ⟨v, q⟩ := (I.hok b u e).there
      rw [z] at q; cases q
    have hcN : H c' = none := I.hok.fresh hge
    have hPc : P ≠ c' := fun e => by rw [e] at hP; rw [hcN] at hP; cases hP
    have nc : ∀ b o, s.heap.get? b = some o → b ≠ c' := fun b o e z => by have := Heap.lt_size e; rw [z] at this; exact absurd (Nat.lt_of_lt_of_le this hge) (Nat.lt_irrefl _)
    have kp : ∀ b o, b ≠ P → s.heap.get? b = some o → (h'.push (PySem.W.kla_obj "<lambda>" (X.env.qual ++ "<lambda>") la lb lsc cl ((X.mg "__name__").getD .none) c' ctv)).get? b = some o := fun b o n e => Heap.get?_push_of_some _ (ex b o n e)
    have hc2 : ∀ b u, H b = some u → b ≠ c' := fun b u e z => by rw [z, hcN] at e; cases e
    have I' : Inv X pins σ (upd (upd H P (.tbl (#[] ++ #[rawInt lp.line, rawInt lp.col, .ref c']))) c' (.ext fun h => h.CodeRec (.ref c') (X.env.qual ++ "<lambda>")))
        { s with heap := h'.push (PySem.W.kla_obj "<lambda>" (X.env.qual ++ "<lambda>") la lb lsc cl ((X.mg "__name__").getD .none) c' ctv), toks := tk } := by
      have hup : ∀ b u, H b = some u → b ≠ P → (upd (upd H P (.tbl (#[] ++ #[rawInt lp.line, rawInt lp.col, .ref c']))) c' (.ext fun h => h.CodeRec (.ref c') (X.env.qual ++ "<lambda>"))) b = some u := fun b u e n => by rw [upd_ne (hc2 b u e), upd_ne n]; exact e
      refine I.un ⟨fun b o e n _ _ => kp b o (fun z => by rw [z, hP] at n; cases n) e, fun b o e n _ _ => ⟨o.slots, kp b o (fun z => by rw [z, hP] at n; cases n) e⟩, fun b o e n _ => ?_, fun b o e _ => ?_, fun b xs e => hup b _ e (fun z => by rw [z, hP] at e; cases e),
        fun b o u e => hup b _ e (fun z => by rw [z, hP] at e; cases e), fun b qs e => ?_⟩ fun b u e => ?_
      · rw [upd_ne (nc b o e), upd_ne (fun z => by rw [z, hP] at n; cases n)]; exact n
      · by_cases z : b = P
        · rw [z]; exact ⟨_, Heap.get?_push_of_some _ htb⟩
        · exact ⟨o, kp b o z e⟩
      · by_cases z : b = P
        · subst z
          rw [hP] at e
          cases e
          exact ⟨_, by rw [upd_ne hPc, upd_same]⟩
        · exact ⟨#[], by rw [hup b _ e z]; simp⟩
      · by_cases z : b = c'
        · subst z
          rw [upd_same] at e
          cases e
          refine ⟨hrec.push _, ?_, fun g1 g2 q k => ?_⟩
          · obtain ⟨d, od, vs, t, e1, e2, _⟩ := hrec
            cases e1
            exact ⟨od, Heap.get?_push_of_some _ e2⟩
          · obtain ⟨d, od, vs, t, e1, e2, r⟩ := q
            cases e1
            exact ⟨_, od, vs, t, rfl, k od e2, r⟩
        · rw [upd_ne z] at e
          by_cases y : b = P
          · subst y
            rw [upd_same] at e
            cases e
            exact Heap.get?_push_of_some _ htb
          · rw [upd_ne y] at e
            refine (I.hok b u e).stay (fun d v hd q => kp d v ?_ q) (fun d q => hup d _ q fun w => by rw [w, hP] at q; cases q) fun d xs q => hup d _ q fun w => by rw [w, hP] at q; cases q
            rcases hd with hd | hd
            · rw [hd]; exact y
            · intro w; rw [w, hP] at hd; cases hd
    refine h h'.objs.size cl (.ref c') ctv _ _ I' (Heap.get?_push_size _ rfl) (hrec.push _) h1 h2 (fun b o n e => by rw [upd_ne (hc2 b o e), upd_ne n]; exact e) ⟨#[rawInt lp.line, rawInt lp.col, .ref c'], by rw [upd_ne hPc, upd_same]; rfl, .inr ⟨c', rfl, upd_same⟩⟩ fun b o e => ?_
    by_cases z : b = P
    · rw [z]; exact ⟨_, Heap.get?_push_of_some _ htb⟩
    · exact ⟨o, kp b o z e⟩
  · have hf : codeAmong lp (#[rawInt lp.line, rawInt lp.col, Value.ref c'] : Array Value).toList = some (.ref c') := by simp [codeAmong, rawInt]
    have hrec : s.heap.CodeRec (.ref c') (X.env.qual ++ "<lambda>") := (I.hok c' _ hc').1
    refine PySem.W.kla_makeFunctionHit hcl I.ok.glob hg hcode hC' gP trivial hf hb fun ctv h' tk kp _ => ?_
    have kq : ∀ b o, s.heap.get? b = some o → (h'.push { cls := .type "function", data := .func (PySem.W.kla_fn "<lambda>" (X.env.qual ++ "<lambda>") la lb lsc cl ((X.mg "__name__").getD .none) (.ref c') ctv) }).get? b = some o := fun b o e => Heap.get?_push_of_some _ (kp b o e)
    exact h h'.objs.size cl (.ref c') ctv H _ (I.kept (t' := tk) kq) (Heap.get?_push_size _ rfl) (hrec.keeps kq) h1 h2 (fun _ _ _ e => e) ⟨_, hP, .inr ⟨c', rfl, hc'⟩⟩ fun b o e => ⟨o, kq b o e⟩

/-- the lambda's call: -rests[place] -/
theorem lam_call {A : Around} {f a : Addr} {cl : List (Str × Addr)} {pm cd ct : Value} {lq rn pn : Str} {rp pp sp up : Pos} {its : List Value} {rs : List Int} {h : Heap} {tk : Nat} {i : Nat} {t : Tok} {c0 : Addr} (hroom : A.depth < recursionLimit)
    (hf : h.get? f = some { cls := .type "function", data := .func (PySem.W.kla_fn "<lambda>" lq la (.UnaryOp .USub (.Subscript (.Name rn rp) (.Name pn pp) sp) up) lsc cl pm cd ct) }) (hrec : h.CodeRec cd lq) (hlim : h.NoLimit)
    (hkind : lsc.kind = .function) (hco : lsc.isCoroutine = false) (hgen : lsc.isGenerator = false) (nocell : ∀ y ∈ lsc.names, y.2 ≠ .cell) (hpn : lsc.names.lookup pn = some .local) (hrn : lsc.names.lookup rn = some .free)
    (hd1 : (rn == ("__debug__" : Str)) = false) (hd2 : (pn == ("__debug__" : Str)) = false) (hd3 : (rn == ("__classdict__" : Str)) = false)
    (hbind : ∀ v : Value, bindArgs (PySem.W.kla_fn "<lambda>" lq la (.UnaryOp .USub (.Subscript (.Name rn rp) (.Name pn pp) sp) up) lsc cl pm cd ct) ⟨[v], []⟩ = pure [(pn, v)])
    (hc0 : cl.lookup rn = some c0) (hcell : h.IsCell c0 (some (.ref a))) (hl : h.IsList a its.toArray) (hi : IntsAre its rs) (hir : i < rs.length) (hz : rs.length ≤ 1000) :
    wpAny (model X.prog X.w) A (call (.ref f) [.int (i : Int) t]) (fun v s₂ => ∃ h' tk' t', s₂ = { s with heap := h', toks := tk' } ∧ v = .int (-(rs.getD i 0)) t' ∧ ∀ b o, h.get? b = some o → h'.get? b = some o) (fun _ _ => False) { s with heap := h, toks := tk } := by
  refine wpAny_call (PySem.W.kla_callFunE (s := { s with heap := h, toks := tk }) hroom hf rfl hco hgen rfl hrec ((BindsTo.of_eq (hbind _)) _ _ _ _ ?_))
  refine wpAny_newFunctionEnv nocell (fun y hy => by rw [List.mem_singleton.mp hy]; exact hpn) (fun h2 hns hsb => ⟨?_, PySem.W.kla_codeExpr ?_⟩) hkind
  · exact hlim.keeps fun b o e => hsb.extBut b o (Nat.ne_of_lt (Heap.lt_size e)) (Heap.get?_push_of_some _ e)
  · have kp : ∀ b o, h.get? b = some o → h2.get? b = some o := fun b o e => hsb.extBut b o (Nat.ne_of_lt (Heap.lt_size e)) (Heap.get?_push_of_some _ e)
    rw [arm_eval_UnaryOp]
    obtain ⟨oc, hoc, hdc⟩ := hcell
    have hl2 : h2.IsList a its.toArray := hl.at fun o e => kp _ o e
    obtain ⟨v, hv⟩ : ∃ v, its.toArray[i]? = some v := ⟨_, Array.getElem?_eq_getElem (by rw [List.size_toArray, hi.length]; exact hir)⟩
    obtain ⟨t1, rfl⟩ := ints_val hi hv
    refine wpAny_bind (Subscript_ (wpAny_Name (wpAny_loadName_free hkind hrn hc0 ⟨oc, kp _ _ hoc, hdc⟩ ?_ hd3) hd1))
    refine wpAny_Name (wpAny_loadName_local (v := .int (i : Int) t) hkind hpn hns (by simp [List.lookup_cons]) ?_) hd2
    refine item_listR hl2 (by (first | lia | omega)) (by (first | lia | omega)) (by simpa using hv) ?_ rfl
    refine wpAny_bind (wpAny_standAt (wpAny_holding (neg_int ?_)))
    exact ⟨_, _, _, rfl, rfl, kp⟩

/-- what is wanted behind sorted(range(n), key=lambda place: -rests[place]) -/
noncomputable def SortQ (K : PySem.W.Frag) (P : Addr) (lp : Pos) (lq : Str) (i : Nat) (σ : St) (Q : VK) (vs : List V) (H' : Hp) : Prop :=
  ∃ (r : Addr) (n : Nat) (H1 : Hp) (a : Addr) (rs : List Int), vs = [.ref r] ∧ H1 r = none ∧ H' = upd H1 r (.rng 0 (n : Int)) ∧ n < 64 ∧ Tb P lp lq H1 ∧ σ[i]? = some (some (.ref a)) ∧ SqL K H1 a (rs.map V.int) ∧ a ≠ P ∧ rs.length = n ∧
    ∀ (ps : List Nat) (H2 : Hp) (l : Addr), SS.Sorted (fun p => -(rs.getD p 0)) n ps → (∀ b o, b ≠ P → H1 b = some o → H2 b = some o) → Tb P lp lq H2 → H1 l = none → H2 l = some (.lst (ps.map fun p : Nat => V.int (p : Int))) → Q (.ref l) H2
noncomputable abbrev rRng : List V → Hp → VK → Prop := fun xs H Q => ∃ j : Int, xs = [.int j] ∧ ∀ p, H p = none → Q (.ref p) (upd H p (.rng 0 j))
noncomputable def tSort (K : PySem.W.Frag) (P : Addr) (lp : Pos) (lq : Str) (ta : TE) (i : Nat) : TE := fun σ H Q => tCons (tCB rRng (tCons ta tNil)) tNil σ H (SortQ K P lp lq i σ Q)
theorem pe_sort {a : Expr} {ta : TE} {i : Nat} {rn pn : Str} {p p2 pos pos2 kpos rp pp sp up : Pos} (hcode : X.env.code = .ref c) (hC : PySem.W.CodeHd X.base c P) (hbm : X.base.BuiltinsAt X.mg P) (B : Blk X.env.scope X.N lsc [pn] [i]) (hdf : defaultsOf la X.env = ([], []))
    (hc : X.calm = true) (hr : Room 1 X.A) (hN : X.N[i]? = some rn) (hco : lsc.isCoroutine = false) (hgen : lsc.isGenerator = false) (hpn : lsc.names.lookup pn = some .local) (hd1 : (rn == ("__debug__" : Str)) = false) (hd2 : (pn == ("__debug__" : Str)) = false) (hd3 : (rn == ("__classdict__" : Str)) = false)
    (hbind : ∀ (cl : List (Str × Addr)) (pm cd ct v : Value), bindArgs (PySem.W.kla_fn "<lambda>" (X.env.qual ++ "<lambda>") la (.UnaryOp .USub (.Subscript (.Name rn rp) (.Name pn pp) sp) up) lsc cl pm cd ct) ⟨[v], []⟩ = pure [(pn, v)])
    (g1 : Gl X "sorted") (m1 : X.mg "sorted" = none) (g2 : Gl X "range") (m2 : X.mg "range" = none) (ha : PE X a ta)
    (he1 : starEach [a] X.env = (false, eval a X.env) :: starEach [] X.env := by rfl)
    (he2 : starEach [.Call (.Name "range" p2) [a] [] pos2] X.env = (false, eval (.Call (.Name "range" p2) [a] [] pos2) X.env) :: starEach [] X.env := by rfl) :
    PE X (.Call (.Name "sorted" p) [.Call (.Name "range" p2) [a] [] pos2] [⟨some "key", .Lambda la (.UnaryOp .USub (.Subscript (.Name rn rp) (.Name pn pp) sp) up) lsc lp, kpos⟩] pos) (tSort X.K P lp (X.env.qual ++ "<lambda>") ta i) := by
  intro pins s σ H Q I h
  refine wpAny_Call_Name_kw (ld_blt I g1 m1 PyProof.Rows.boot_sorted ?_)
  have pr : PE X (.Call (.Name "range" p2) [a] [] pos2) (tCB rRng (tCons ta tNil)) := pe_callTy call_rng g2 m2 boot_range (pa_cons ha pa_nil he1) (he := he1)
  have pA : PA X [.Call (.Name "range" p2) [a] [] pos2] (tCons (tCB rRng (tCons ta tNil)) tNil) := pa_cons pr pa_nil he2
  refine callWith_kw (thn (pA pos pins s σ H _ I h) fun us s1 q1 => ?_)
  obtain ⟨vs, H', I1, r1, r, n, H1, a', rs, rfl, hr0, rfl, h64, tb, hσ, hq, haP, hlen, q⟩ := q1
  obtain ⟨ur, rfl, hur⟩ := vals1 r1
  cases (show ur = Value.ref r from hur)
  have hrP : r ≠ P := fun e => by obtain ⟨ps, hP, _⟩ := tb; rw [← e, hr0] at hP; cases hP
  have s01 : Same H1 (upd H1 r (.rng 0 (n : Int))) := fun b o e => by rw [upd_ne (ne_of_none e hr0)]; exact e
  show wpAny _ _ (evalAll [do let v ← eval (.Lambda la (.UnaryOp .USub (.Subscript (.Name rn rp) (.Name pn pp) sp) up) lsc lp) X.env; standAt pos; pure v]) _ _ s1
  refine wpAny_evalAll_cons (wpAny_bind (lam_make hcode hC hbm B hdf I1 (tb.at s01) fun f cl cd ct H2 s2 I2 hf hrec c1 c2 kH tb2 th => wpAny_bind (wpAny_standAt (wpAny_pure ?_))))
  refine wpAny_evalAll_nil ?_
  show wpAny _ _ (call (.builtin "sorted") [.ref r] [(Str.ofString "key", .ref f)]) _ _ s2
  have hr2 : H2 r = some (.rng 0 (n : Int)) := kH r _ hrP upd_same
  obtain ⟨t1, t2, t3, hrg⟩ := (show ObjOk X.prog X.w H2 s2.heap r (.rng 0 (n : Int)) from I2.hok r _ hr2)
  have hrn : lsc.names.lookup rn = some .free := by
    have e := B.capf i (List.mem_singleton.mpr rfl)
    rw [List.getD_eq_getElem?_getD, hN] at e
    exact e
  have hrm := mem_of_lookup hrn
  obtain ⟨c0, hc0⟩ := c2 rn hrm
  have vis := B.free (rn, .free) hrm rfl
  have hcell : s2.heap.IsCell c0 (some (.ref a')) := by
    obtain ⟨m, _, hl⟩ := I2.loc
    obtain ⟨u, ru, lk⟩ := hl i rn _ hN hσ (.inr vis)
    cases (show u = Value.ref a' from ru)
    rcases lk with ⟨z, _⟩ | ⟨_, d, ed, ic⟩
    · have z' : X.env.scope.names.lookup rn = some .local := z
      rcases vis with v | v <;> (rw [z'] at v; cases v)
    · have e := c1 rn c0 hc0
      rw [ed] at e
      cases e
      exact ic
  have hq2 : SqL X.K H2 a' (rs.map V.int) := by
    rcases hq with (e | ⟨o, e⟩) | e
    · exact .inl (.inl (kH _ _ haP (s01 _ _ e)))
    · exact .inl (.inr ⟨o, kH _ _ haP (s01 _ _ e)⟩)
    · exact .inr e
  obtain ⟨its, rv, pl, _⟩ := I2.list hq2
  have hi := intsAre_of rv
  refine SS.sorted_rng (key := fun p => -(rs.getD p 0)) (I.ok.hd hc) hrg h64 (fun i' t' g tk hi' kp => ?_) fun D g tk ps out cc kp hn ho io so => ?_
  · obtain ⟨oc, hoc, hdc⟩ := hcell
    exact lam_call (X := X) (s := s2) (A := X.A.in1.in1) hr.depth (kp _ _ hf) (hrec.keeps kp) (I2.nolimit.keeps kp) B.kind hco hgen B.nocell hpn hrn hd1 hd2 hd3 (hbind cl _ cd ct) hc0 ⟨oc, kp _ _ hoc, hdc⟩ (pl.isList.at fun o e => kp _ o e) hi (by (first | lia | omega)) (by (first | lia | omega))
  · have hvs : Vals (ps.map fun p : Nat => V.int (p : Int)) out.toList := by
      have e := vals_ints io
      rw [List.map_map] at e
      exact e
    have hz : (ps.map fun p : Nat => V.int (p : Int)).length ≤ sizeLine := by
      have e := so.perm.length_eq
      rw [List.length_range] at e
      rw [List.length_map, e]
      exact Nat.le_of_lt (small1000 (by (first | lia | omega)))
    have hD2 : H2 D = none := I2.no hn
    have I3 : Inv X pins σ (upd H2 D (.lst (ps.map fun p : Nat => V.int (p : Int)))) { s2 with heap := g, toks := tk } :=
      I2.gain kp hn ⟨hz, out.toList, cc, hvs, by simpa using ho⟩
    have nD : ∀ b o, H2 b = some o → b ≠ D := fun b o e z => by rw [z, hD2] at e; cases e
    refine ⟨.ref D, _, I3, rfl, q ps _ D so (fun b o n' e => ?_) (tb2.at fun b o e => by rw [upd_ne (nD b o e)]; exact e) ?_ upd_same⟩
    · have e2 := kH b o n' (s01 b o e)
      rw [upd_ne (nD b o e2)]; exact e2
    · cases z : H1 D with
      | none => rfl
      | some o =>
        by_cases dp : D = P
        · obtain ⟨ps', hP, _⟩ := tb2
          rw [← dp, hD2] at hP; cases hP
        · have e2 := kH D o dp (s01 D o z)
          rw [hD2] at e2; cases e2
end
end L2

set_option linter.all false
set_option maxHeartbeats 4000000
set_option maxRecDepth 100000
namespace L2
open PySem PySem.Spec PyProof.Rows

/-- the head where a def of the text makes a lambda: its table of codes stands at T, empty -/
theorem law_callT {P : Program} {w : World} {K : PySem.W.Frag} {mg mb : Str → Option Value} {CX : CXT} {k : Nat} {fa a c T : Addr} {fd : FuncData} {x : Str} {sp : Sp} {s₁ : Shared} {vs : List Value} {ns : List Int}
    (KX : K.In s₁.heap) (hns : s₁.heap.Ns mainGlobals mg) (hb : s₁.heap.Ns builtinsNs mb) (hbb : ∀ x : Str, x ≠ "__name__" → mb x = bootBuiltins x) (hlim : s₁.heap.NoLimit) (hg : s₁.gens = #[])
    (hC : PySem.W.CodeHd s₁.heap c T) (hT : s₁.heap.get? T = some (PySem.W.tabObj #[])) (hKT : K.lookup T = none) (hbm : s₁.heap.BuiltinsAt mg T)
    (ha : s₁.heap.get? a = some { cls := .type "list", data := .seq vs.toArray }) (hi : IntsAre vs ns) (hl : ns.length ≤ sizeLine) (hr : Room k callerA)
    (F : ∀ base : Heap, K.In base → base.Ns mainGlobals mg → PySem.W.CodeHd base c T → base.BuiltinsAt mg T → FnOk P w K mg base CX k fa fd [x] sp) (hbind : ∀ (s : Shared) (u : Value), BindsTo s fd ⟨[u], []⟩ [(x, u)])
    (hsp : ∀ H : Hp, a ≠ T → H T = some (.tbl #[]) → SqL K H a (ns.map V.int) → sp [.ref a] H (fun v _ => v = .bl true) fun _ _ _ => False)
    (hCX : ∀ H e s', CX [] H s₁ (fun _ _ _ => False) e s' → False) :
    codeAny (model P w) callerA (.call (.ref fa) ⟨[.ref a], []⟩) (fun r s' => r = .ok (.ret (.bool true)) ∧ OldK s₁.heap s'.heap ∧ s'.os = s₁.os ∧ AllBare s'.gens) s₁ := by
  have rv := vals_ints hi
  have lenV := hi.length
  have aT : a ≠ T := fun e => by
    rw [e, hT] at ha
    have z : PySem.W.tabObj #[] = ({ cls := .type "list", data := .seq vs.toArray } : Obj) := Option.some.inj ha
    have z2 := congrArg Obj.cls z
    cases z2
  have core : ∀ H : Hp, (∀ b u, H b = some u → (b = a ∧ ∃ o xs, u = .frz o (.lst xs)) ∨ (b = T ∧ u = .tbl #[])) → H T = some (.tbl #[]) → SqL K H a (ns.map V.int) → HOk P w H s₁.heap → (H a ≠ none → K.lookup a = none) →
      codeAny (model P w) callerA (.call (.ref fa) ⟨[.ref a], []⟩) (fun r s' => r = .ok (.ret (.bool true)) ∧ OldK s₁.heap s'.heap ∧ s'.os = s₁.os ∧ AllBare s'.gens) s₁ := by
    intro H hO hHT hS hok hK
    have free : ∀ {b : Addr}, b ≠ a → b ≠ T → H b = none := fun {b} h1 h2 => by
      cases q : H b with
      | none => rfl
      | some u =>
        rcases hO b u q with ⟨z, _⟩ | ⟨z, _⟩
        · exact absurd z h1
        · exact absurd z h2
    have base_of : ∀ {b : Addr} {o : Obj}, s₁.heap.get? b = some o → H b = none → (hidT s₁.heap H).get? b = some o := fun e n => hidT_get e n
    have noA : ∀ {b : Addr} {o : Obj}, s₁.heap.get? b = some o → o.cls ≠ .type "list" → o.cls ≠ .none → H b = none := fun {b o} e d1 d2 => by
      refine free (fun z => ?_) (fun z => ?_)
      · rw [z, ha] at e; cases e; exact d1 rfl
      · rw [z, hT] at e; cases e; exact d2 rfl
    have noD : ∀ {b : Addr} {o : Obj} {es : Array DictEntry} {ep : Nat}, s₁.heap.get? b = some o → o.data = .dict es ep → H b = none := fun {b o es ep} e d => by
      refine free (fun z => ?_) (fun z => ?_)
      · rw [z, ha] at e; cases e
        have d' : Data.seq vs.toArray _ = Data.dict es ep := d
        cases d'
      · rw [z, hT] at e; cases e
        have d' : Data.fields #[] = Data.dict es ep := d
        cases d'
    have nsK : ∀ {b : Addr} {m : Str → Option Value}, s₁.heap.Ns b m → (hidT s₁.heap H).Ns b m := fun {b m} ⟨o, es, ep, e, d, r⟩ => ⟨o, es, ep, base_of e (noD e d), d, r⟩
    have hKb : K.In (hidT s₁.heap H) := fun b o e => base_of (KX b o e) (by
      cases q : H b with
      | none => rfl
      | some u =>
        rcases hO b u q with ⟨z, _⟩ | ⟨z, _⟩
        · subst z; rw [hK (by rw [q]; simp)] at e; cases e
        · subst z; rw [hKT] at e; cases e)
    have hM : Mod K mg (hidT s₁.heap H) := ⟨hKb, nsK hns, ⟨mb, nsK hb, hbb⟩, let ⟨mc, h1, h2⟩ := hlim; ⟨mc, nsK h1, h2⟩⟩
    have hCb : PySem.W.CodeHd (hidT s₁.heap H) c T := by
      obtain ⟨o, vs', file, tf, flags, tg, inF, text, tt, e, e2, r⟩ := hC
      exact ⟨o, vs', file, tf, flags, tg, inF, text, tt, base_of e (noA e (by rw [e2]; intro z; injection z with z; exact absurd z (by decide)) (by rw [e2]; intro z; cases z)), e2, r⟩
    have hbb' : (hidT s₁.heap H).BuiltinsAt mg T := by
      obtain ⟨bm, o, a1, a2, a3, a4, a5, a6, r⟩ := hbm
      exact ⟨bm, o, a1, a2, a3, a4, base_of a5 (noA a5 (by rw [a6]; intro z; injection z with z; exact absurd z (by decide)) (by rw [a6]; intro z; cases z)), a6, r⟩
    have e0 : Env0 P w K mg (hidT s₁.heap H) callerA [] s₁ H := ⟨rfl, hM, fun b o e => of_hidT e, Nat.le_of_eq (hidT_size _ _), trivial, fun b hb => absurd (show b ∈ ([] : List Addr) from hb) (by simp), hok, .of_eq hg⟩
    refine codeAny_mono ((F _ hKb (nsK hns) hCb hbb').run callerA [] s₁ H ⟨[.ref a], []⟩ [.ref a] [.ref a] _ _ hr e0 (hbind s₁ (.ref a)) (.cons rfl .nil) (hsp H aT hHT hS)) fun r s' h => ?_
    cases r with
    | error e => exact (hCX H e s' h).elim
    | ok fl =>
      cases fl with
      | next => exact False.elim h
      | brk => exact False.elim h
      | cont => exact False.elim h
      | ret u =>
        obtain ⟨v, H', os, bare, un, hok', r', q⟩ := h
        have q' : v = .bl true := q
        subst q'
        obtain rfl : u = Value.bool true := r'
        have one : ∀ b o, s₁.heap.get? b = some o → (s'.heap.get? b = some o) ∨ (b = T ∧ ∃ more, s'.heap.get? b = some (PySem.W.tabObj more)) := fun b o e => by
          cases q : H b with
          | none => exact .inl (un.keep b o e q (by intro z; exact absurd (show b ∈ ([] : List Addr) from z) (by simp)) (by simp))
          | some u =>
            rcases hO b u q with ⟨z, ob, xs, rfl⟩ | ⟨z, rfl⟩
            · have z2 := un.frzs b ob _ q
              obtain ⟨e1, _⟩ := hok b _ q
              obtain ⟨e2, _⟩ := hok' b _ z2
              rw [e] at e1; cases e1
              exact .inl e2
            · obtain ⟨more, z2⟩ := un.tbls b _ q
              exact .inr ⟨z, _, hok' b _ z2⟩
        refine ⟨rfl, ⟨fun b o e => ?_, fun b o e => ?_⟩, os, bare⟩
        · rcases one b o e with z | ⟨z, more, e2⟩
          · exact .inl z
          · subst z
            rw [hT] at e
            cases e
            exact .inr (.inl ⟨(hC.tab hT).isCodeTable, rfl, #[], more, rfl, by rw [Array.empty_append]; exact e2⟩)
        · rcases one b o e with z | ⟨_, more, e2⟩
          · exact ⟨o, z⟩
          · exact ⟨_, e2⟩
  cases hk : K.lookup a with
  | some o =>
    have e := KX a o hk
    rw [ha] at e
    cases e
    refine core (fun b => if b = T then some (.tbl #[]) else none) (fun b u z => ?_) (if_pos rfl) (.inr ⟨_, vs.toArray, _, hk, rfl, rfl, rfl, by rw [List.size_toArray, lenV]; exact hl, by simpa using rv⟩) (fun b u z => ?_) (fun z => absurd (if_neg aT) z)
    · (try dsimp only at z)
      by_cases hb : b = T
      · rw [if_pos hb] at z; cases z; exact .inr ⟨hb, rfl⟩
      · rw [if_neg hb] at z; cases z
    · (try dsimp only at z)
      by_cases hb : b = T
      · rw [if_pos hb] at z; cases z; subst hb; exact hT
      · rw [if_neg hb] at z; cases z
  | none =>
    refine core (fun b => if b = T then some (.tbl #[]) else if b = a then some (.frz { cls := .type "list", data := .seq vs.toArray } (.lst (ns.map V.int))) else none) (fun b u z => ?_) (if_pos rfl) (.inl (.inr ⟨{ cls := .type "list", data := .seq vs.toArray }, by dsimp only; rw [if_neg aT, if_pos rfl]⟩)) (fun b u z => ?_) (fun _ => hk)
    · (try dsimp only at z)
      by_cases hb : b = T
      · rw [if_pos hb] at z; cases z; exact .inr ⟨hb, rfl⟩
      · rw [if_neg hb] at z
        by_cases hc : b = a
        · rw [if_pos hc] at z; cases z; exact .inl ⟨hc, _, _, rfl⟩
        · rw [if_neg hc] at z; cases z
    · (try dsimp only at z)
      by_cases hb : b = T
      · rw [if_pos hb] at z; cases z; subst hb; exact hT
      · rw [if_neg hb] at z
        by_cases hc : b = a
        · rw [if_pos hc] at z; cases z; subst hc; exact ⟨ha, by rw [List.length_map]; exact hl, vs, _, rv, ha⟩
        · rw [if_neg hc] at z; cases z
end L2

set_option linter.all false
set_option maxHeartbeats 4000000
set_option maxRecDepth 100000
namespace L2
open PySem PySem.Spec PyProof.Rows

section
variable {X : Cx} {tg : Expr}
/-- a list or a tuple walked -/
noncomputable def iSeq (K : PySem.W.Frag) (tl : TE) : TI := fun σ H R => tl σ H fun x H1 => ∃ a, x = .ref a ∧ (((∃ xs, SqL K H1 a xs) ∧ R (Itl K a) H1) ∨ ((∃ xs, SqT K H1 a xs) ∧ R (Itt K a) H1))
theorem pi_seq {l : Expr} {tl : TE} (hl : PE X l tl) : PI X tg l (iSeq X.K tl) := by
  intro pins s σ H R I h
  refine thn (hl pins s σ H _ I h) fun v s1 ⟨x, H1, I1, r1, q1⟩ => ?_
  obtain ⟨a, e, q⟩ := q1
  subst e
  cases r1
  rcases q with ⟨⟨xs, hq⟩, q⟩ | ⟨⟨xs, hq⟩, q⟩
  · obtain ⟨its, rv, p, hz⟩ := I1.list hq
    refine wpAny_pyIter_list p.isList ?_
    refine ⟨s1.heap.objs.size, [s1.heap.objs.size], _, _, H1, rfl, I1.kept (t' := s1.toks) fun b o e => Heap.get?_push_of_some _ e, turn_list a _, ⟨_, Heap.get?_push_size _ rfl, rfl, rfl⟩, fun b hb => ?_, q⟩
    have e : b = s1.heap.objs.size := by simpa using hb
    subst e
    exact I1.fpOk (Nat.le_refl _) (I1.hok.fresh (Nat.le_refl _))
  · obtain ⟨its, rv, p, hz⟩ := I1.tuple hq
    refine wpAny_pyIter_tuple (show s1.heap.IsTuple a its.toArray from p) ?_
    refine ⟨s1.heap.objs.size, [s1.heap.objs.size], _, _, H1, rfl, I1.kept (t' := s1.toks) fun b o e => Heap.get?_push_of_some _ e, turn_tuple a _, ⟨_, Heap.get?_push_size _ rfl, rfl, rfl⟩, fun b hb => ?_, q⟩
    have e : b = s1.heap.objs.size := by simpa using hb
    subst e
    exact I1.fpOk (Nat.le_refl _) (I1.hok.fresh (Nat.le_refl _))
end

/-! ### what a block over a list, a tuple, a range comes to; one name as its target -/
section
variable {K : PySem.W.Frag} {a : Addr} {xs : List V} {y : Str} {cap : List Nat} {tt : TT} {te : TE} {σ : St} {Z : List V → Hp → Prop} {H1 : Hp}
theorem wk_one (y : Str) (cap : List Nat) (σ : St) (x : V) : Wk (capS [y] cap σ) ((capS [y] cap σ).set 0 (some x)) := Wk.set (by show (none :: _ : St)[0]? = some none; rfl)
theorem blk_list (Pv : Nat → List V → Hp → Prop) (h0 : Pv 0 [] H1) (hS : ∀ i acc H, Pv i acc H → SqL K H a xs) (hz : ∀ i acc H, Pv i acc H → acc.length < sizeLine)
    (step : ∀ i x acc H (R : List V → Hp → Prop), (∀ acc' H', Pv (i + 1) acc' H' → R acc' H') → xs[i]? = some x → Pv i acc H → tt ((capS [y] cap σ).set 0 (some x)) H fun b H5 => if b = true then te ((capS [y] cap σ).set 0 (some x)) H5 fun v H6 => R (acc ++ [v]) H6 else R acc H5)
    (hd : ∀ acc H, Pv xs.length acc H → Z acc H) : tBlk [y] cap (gName 0) tt te σ Z (Itl K a) H1 := by
  refine ⟨fun i m acc H => m = xs.length - i ∧ i ≤ xs.length ∧ Pv i acc H, ⟨_, rfl, Nat.zero_le _, h0⟩, ?_⟩
  rintro i m acc H ⟨rfl, hi, p⟩
  refine ⟨hz i acc H p, ?_⟩
  have q := hS i acc H p
  by_cases hlt : i < xs.length
  · refine .inr ⟨⟨xs, xs[i], q, List.getElem?_eq_getElem hlt⟩, fun x H3 yl => ?_⟩
    obtain ⟨e, yx⟩ := yl
    subst e
    exact ⟨wk_one y cap σ x, step i x acc H3 (fun acc' H' => ∃ m', m' < xs.length - i ∧ m' = xs.length - (i + 1) ∧ i + 1 ≤ xs.length ∧ Pv (i + 1) acc' H') (fun acc' H' p' => ⟨_, by (first | lia | omega), rfl, hlt, p'⟩) (yx xs q) p⟩
  · have e : i = xs.length := by (first | lia | omega)
    subst e
    exact .inl ⟨⟨xs, q, Nat.le_refl _⟩, hd acc H p⟩
theorem blk_tup (Pv : Nat → List V → Hp → Prop) (h0 : Pv 0 [] H1) (hS : ∀ i acc H, Pv i acc H → SqT K H a xs) (hz : ∀ i acc H, Pv i acc H → acc.length < sizeLine)
    (step : ∀ i x acc H (R : List V → Hp → Prop), (∀ acc' H', Pv (i + 1) acc' H' → R acc' H') → xs[i]? = some x → Pv i acc H → tt ((capS [y] cap σ).set 0 (some x)) H fun b H5 => if b = true then te ((capS [y] cap σ).set 0 (some x)) H5 fun v H6 => R (acc ++ [v]) H6 else R acc H5)
    (hd : ∀ acc H, Pv xs.length acc H → Z acc H) : tBlk [y] cap (gName 0) tt te σ Z (Itt K a) H1 := by
  refine ⟨fun i m acc H => m = xs.length - i ∧ i ≤ xs.length ∧ Pv i acc H, ⟨_, rfl, Nat.zero_le _, h0⟩, ?_⟩
  rintro i m acc H ⟨rfl, hi, p⟩
  refine ⟨hz i acc H p, ?_⟩
  have q := hS i acc H p
  by_cases hlt : i < xs.length
  · refine .inr ⟨⟨xs, xs[i], q, List.getElem?_eq_getElem hlt⟩, fun x H3 yl => ?_⟩
    obtain ⟨e, yx⟩ := yl
    subst e
    exact ⟨wk_one y cap σ x, step i x acc H3 (fun acc' H' => ∃ m', m' < xs.length - i ∧ m' = xs.length - (i + 1) ∧ i + 1 ≤ xs.length ∧ Pv (i + 1) acc' H') (fun acc' H' p' => ⟨_, by (first | lia | omega), rfl, hlt, p'⟩) (yx xs q) p⟩
  · have e : i = xs.length := by (first | lia | omega)
    subst e
    exact .inl ⟨⟨xs, q, Nat.le_refl _⟩, hd acc H p⟩
theorem blk_rng {n : Nat} (Pv : Nat → List V → Hp → Prop) (h0 : Pv 0 [] H1) (hz : ∀ i acc H, Pv i acc H → acc.length < sizeLine)
    (step : ∀ i acc H (R : List V → Hp → Prop), (∀ acc' H', Pv (i + 1) acc' H' → R acc' H') → i < n → Pv i acc H → tt ((capS [y] cap σ).set 0 (some (.int (0 + (i : Int))))) H fun b H5 => if b = true then te ((capS [y] cap σ).set 0 (some (.int (0 + (i : Int))))) H5 fun v H6 => R (acc ++ [v]) H6 else R acc H5)
    (hd : ∀ acc H, Pv n acc H → Z acc H) : tBlk [y] cap (gName 0) tt te σ Z (Itr 0 n) H1 := by
  refine ⟨fun i m acc H => m = n - i ∧ i ≤ n ∧ Pv i acc H, ⟨_, rfl, Nat.zero_le _, h0⟩, ?_⟩
  rintro i m acc H ⟨rfl, hi, p⟩
  refine ⟨hz i acc H p, ?_⟩
  by_cases hlt : i < n
  · refine .inr ⟨hlt, fun x H3 yl => ?_⟩
    obtain ⟨e, yx⟩ := yl
    subst e
    subst yx
    exact ⟨wk_one y cap σ _, step i acc H3 (fun acc' H' => ∃ m', m' < n - i ∧ m' = n - (i + 1) ∧ i + 1 ≤ n ∧ Pv (i + 1) acc' H') (fun acc' H' p' => ⟨_, by (first | lia | omega), rfl, hlt, p'⟩) hlt p⟩
  · have e : i = n := by (first | lia | omega)
    subst e
    exact .inl ⟨Nat.le_refl _, hd acc H p⟩
/-- each item by a function, nothing changed -/
theorem blk_map {W : Type} (f : W → V) (inj : W → V) {ws : List W} (hS : SqL K H1 a (ws.map inj) ∨ SqT K H1 a (ws.map inj)) (hz : ws.length < sizeLine)
    (he : ∀ w ∈ ws, ∀ Q : VK, Q (f w) H1 → te ((capS [y] cap σ).set 0 (some (inj w))) H1 Q) (hd : Z (ws.map f) H1) :
    ((∃ xs, SqL K H1 a xs) ∧ tBlk [y] cap (gName 0) tYes te σ Z (Itl K a) H1) ∨ ((∃ xs, SqT K H1 a xs) ∧ tBlk [y] cap (gName 0) tYes te σ Z (Itt K a) H1) := by
  have stp : ∀ i x acc H (R : List V → Hp → Prop), (∀ acc' H', (acc' = (ws.take (i + 1)).map f ∧ H' = H1) → R acc' H') → (ws.map inj)[i]? = some x → (acc = (ws.take i).map f ∧ H = H1) →
      tYes ((capS [y] cap σ).set 0 (some x)) H fun b H5 => if b = true then te ((capS [y] cap σ).set 0 (some x)) H5 fun v H6 => R (acc ++ [v]) H6 else R acc H5 := by
    rintro i x acc H R k hx ⟨rfl, rfl⟩
    rw [List.getElem?_map] at hx
    cases e : ws[i]? with
    | none => rw [e] at hx; cases hx
    | some w =>
      rw [e] at hx
      cases hx
      unfold tYes
      dsimp only
      rw [if_pos rfl]
      refine he w (List.mem_of_getElem? e) _ (k _ _ ⟨?_, rfl⟩)
      rw [List.take_add_one, e]
      simp
  have fin : ∀ acc H, (acc = (ws.take (ws.map inj).length).map f ∧ H = H1) → Z acc H := by
    rintro acc H ⟨rfl, rfl⟩
    rw [List.length_map, List.take_length]
    exact hd
  have len : ∀ (i : Nat) acc (H : Hp), (acc = (ws.take i).map f ∧ H = H1) → acc.length < sizeLine := by
    rintro i acc H ⟨rfl, _⟩
    rw [List.length_map, List.length_take]
    (first | lia | omega)
  rcases hS with h | h
  · exact .inl ⟨⟨_, h⟩, blk_list (fun i acc H => acc = (ws.take i).map f ∧ H = H1) ⟨by simp, rfl⟩ (fun i acc H p => by rw [p.2]; exact h) len stp fin⟩
  · exact .inr ⟨⟨_, h⟩, blk_tup (fun i acc H => acc = (ws.take i).map f ∧ H = H1) ⟨by simp, rfl⟩ (fun i acc H p => by rw [p.2]; exact h) len stp fin⟩
end
end L2

set_option linter.all false
set_option maxHeartbeats 4000000
set_option maxRecDepth 100000
namespace L2
open PySem PySem.Spec PyProof.Rows
section
variable {X : Cx}
/-- two tuples of flat values compared -/
noncomputable def rEqT (K : PySem.W.Frag) : R2 := fun x y H Q => ∃ p b xs ys, x = .ref p ∧ y = .ref b ∧ SqT K H p xs ∧ SqT K H b ys ∧ xs.all flatV = true ∧ ys.all flatV = true ∧ Q (.bl (eqVs xs ys)) H
/-- xs.insert(i, y), i from 0 to the length -/
noncomputable def rInsert : V → List V → Hp → VK → Prop := fun x vs H Q => ∃ l xs i y, x = .ref l ∧ vs = [.int i, y] ∧ H l = some (.lst xs) ∧ 0 ≤ i ∧ i ≤ xs.length ∧ xs.length ≤ 900 ∧ Q .non (upd H l (.lst (xs.take i.toNat ++ y :: xs.drop i.toNat)))
end

section
variable {X : Cx} {K : PySem.W.Frag}
/-! the rules that name the written part, for blocks -/
theorem ix_listK (e : X.K = K) : IxR X (rIxL K) := by subst e; exact ix_list
theorem ix_tupK (e : X.K = K) : IxR X (rIxT K) := by subst e; exact ix_tup
end

/-! ### isinstance by names of types -/
noncomputable def tyNames : List String := ["NoneType", "bool", "int", "str", "list", "tuple", "dict"]
noncomputable def subTy (S T : String) : Bool := S == T || (S == "bool" && T == "int")
noncomputable def kitAll (K : PySem.W.Frag) : Bool := tyNames.all fun S => tyNames.all fun T => PySem.W.kitOne K (.type S) (.type T) == some (subTy S T)
theorem kit_of {K : PySem.W.Frag} (h : kitAll K = true) {S T : String} (hS : tyNames.contains S = true) (hT : tyNames.contains T = true) : PySem.W.kitOne K (.type S) (.type T) = some (subTy S T) := by
  have h1 := List.all_eq_true.mp h S (by simpa using hS)
  have h2 := List.all_eq_true.mp h1 T (by simpa using hT)
  exact beq_iff_eq.mp h2
/-- v is of a type of these, by its name -/
structure Is (K : PySem.W.Frag) (H : Hp) (v : V) (S : String) : Prop where
  ty : TyOf K H v (.type S)
  mem : tyNames.contains S = true
theorem Is.kit {K : PySem.W.Frag} {H : Hp} {v : V} {S : String} (x : Is K H v S) (h : kitAll K = true) (T : String) (hT : tyNames.contains T = true := by rfl) : PySem.W.kitOne K (.type S) (.type T) = some (subTy S T) := kit_of h x.mem hT
section
variable {K : PySem.W.Frag} {H : Hp}
theorem Is.int (i : Int) : Is K H (.int i) "int" := ⟨.int i, rfl⟩
theorem Is.lst {a : Addr} {xs : List V} (e : H a = some (.lst xs)) : Is K H (.ref a) "list" := ⟨.lst e, rfl⟩
theorem Is.tup {a : Addr} {xs : List V} (e : H a = some (.tup xs)) : Is K H (.ref a) "tuple" := ⟨.tup e, rfl⟩
theorem Is.dK {a : Addr} {xs : List (Key × V)} (e : H a = some (.dK xs)) : Is K H (.ref a) "dict" := ⟨.dK e, rfl⟩
end
/-- a number from 0 on -/
noncomputable def numV : V → Bool
  | .int i => decide (0 ≤ i)
  | _ => false
noncomputable def intV : V → Bool
  | .int _ => true
  | _ => false
noncomputable def blV : V → Bool
  | .bl _ => true
  | _ => false
theorem Is.num {K : PySem.W.Frag} {H : Hp} {v : V} {S : String} (x : Is K H v S) : (∃ i, v = .int i ∧ S = "int") ∨ (∃ b, v = .bl b ∧ S = "bool") ∨ (numV v = false ∧ intV v = false ∧ blV v = false ∧ subTy S "int" = false ∧ subTy S "bool" = false) := by
  obtain ⟨ty, mem⟩ := x
  cases ty with
  | non => exact .inr (.inr ⟨rfl, rfl, rfl, rfl, rfl⟩)
  | bl b => exact .inr (.inl ⟨b, rfl, rfl⟩)
  | int i => exact .inl ⟨i, rfl, rfl⟩
  | str y => exact .inr (.inr ⟨rfl, rfl, rfl, rfl, rfl⟩)
  | flt y => exact absurd mem (by decide)
  | lst e => exact .inr (.inr ⟨rfl, rfl, rfl, rfl, rfl⟩)
  | frz e => exact .inr (.inr ⟨rfl, rfl, rfl, rfl, rfl⟩)
  | tup e => exact .inr (.inr ⟨rfl, rfl, rfl, rfl, rfl⟩)
  | dK e => exact .inr (.inr ⟨rfl, rfl, rfl, rfl, rfl⟩)
  | dT e => exact .inr (.inr ⟨rfl, rfl, rfl, rfl, rfl⟩)
end L2

set_option linter.all false
set_option maxHeartbeats 4000000
set_option maxRecDepth 100000
namespace HT
open PySem PyProof.Rows
section
open PySem.SeqAt
open PySem.AutoSeq1 (wpAny_loadPart')
open PySem.MeetsSeq PySem.MeetsSeq2 PySem.MeetsSeq3
end
section
variable {prog : Program} {w : World} {A : Around} {E : Value → Shared → Prop} {s : Shared}
end
end HT
namespace PySem
open Sem (wp)

section
variable {prog : Program} {w : World} {A : Around} {R : Result → Shared → Prop} {I : Addr} {fp wr : List Addr} {n : Nat} {P : Nat → Value → Prop} {St : Nat → Heap → Prop}
/-- two items compared, where the heap is as it must be -/
noncomputable def CmpH (prog : Program) (w : World) (A : Around) (op : CmpOp) (OK : Heap → Prop) (P : Nat → Value → Prop) (bt : Nat → Nat → Bool) : Prop :=
  ∀ i j vi vj (s : Shared) (Q : Value → Shared → Prop) (E : Value → Shared → Prop), OK s.heap → P i vi → P j vj → Q (.bool (bt i j)) s → wpAny (model prog w) A (richCompare op vi vj) Q E s
end
section
variable {prog : Program} {w : World} {A : Around} {E : Value → Shared → Prop} {s : Shared}
end

section
variable {prog : Program} {w : World} {A : Around} {R : Result → Shared → Prop} {I : Addr} {fp wr : List Addr} {n : Nat} {P : Nat → Value → Prop} {St : Nat → Heap → Prop}
end
section
variable {prog : Program} {w : World} {A : Around} {E : Value → Shared → Prop} {s : Shared}
end

end PySem

set_option linter.all false
set_option maxHeartbeats 4000000
set_option maxRecDepth 100000
namespace L2
open PySem PySem.Spec PyProof.Rows
/-- pairs of ints, by the first, then the second -/
noncomputable def ltP (a b : Int × Int) : Prop := a.1 < b.1 ∨ (a.1 = b.1 ∧ a.2 < b.2)
noncomputable instance (a b : Int × Int) : Decidable (ltP a b) := inferInstanceAs (Decidable (_ ∨ _))
/-- a list of pairs -/
noncomputable def PairsAt (K : PySem.W.Frag) (H : Hp) (p : Addr) (ps : List (Int × Int)) : Prop :=
  ∃ as : List Addr, SqL K H p (as.map V.ref) ∧ as.length = ps.length ∧ ∀ (i : Nat) (a : Addr) (q : Int × Int), as[i]? = some a → ps[i]? = some q → SqT K H a [.int q.1, .int q.2]
section
variable {X : Cx}
noncomputable def rGtT (K : PySem.W.Frag) : R2 := fun x y H Q => ∃ a b ns ms, x = .ref a ∧ y = .ref b ∧ SqT K H a (ns.map V.int) ∧ SqT K H b (ms.map V.int) ∧ Q (.bl (HT.lexLt ms ns)) H
end
end L2

set_option linter.all false
namespace SM
/-- one more at each of these places -/
noncomputable def addAt (f : List Int) (ps : List Nat) : List Int := ps.foldl (fun f p => f.set p (f.getD p 0 + 1)) f
noncomputable def markAt (l : List Int) (ps : List Nat) : List Int := ps.foldl (fun l p => l.set p (-1)) l
/-- first place of the greatest -/
noncomputable def idxMax (l : List Int) : Nat := l.idxOf (l.foldl max (l.headD 0))
/-- the law's own turns -/
noncomputable def turns : Nat → List Int → List Int → List Int × List Int
  | 0, f, l => (f, l)
  | n + 1, f, l => turns n (f.set (idxMax l) (f.getD (idxMax l) 0 + 1)) (l.set (idxMax l) (-1))

theorem foldl_max_le (l : List Int) : ∀ a : Int, a ≤ l.foldl max a ∧ ∀ x ∈ l, x ≤ l.foldl max a := by
  induction l with
  | nil => intro a; simp
  | cons y r ih =>
    intro a
    obtain ⟨h1, h2⟩ := ih (max a y)
    simp only [List.foldl_cons]
    refine ⟨by (first | lia | omega), fun x hx => ?_⟩
    rcases List.mem_cons.mp hx with rfl | hx
    · (first | lia | omega)
    · exact h2 x hx
theorem foldl_max_mem (l : List Int) : ∀ a : Int, l.foldl max a = a ∨ l.foldl max a ∈ l := by
  induction l with
  | nil => intro a; simp
  | cons y r ih =>
    intro a
    simp only [List.foldl_cons]
    rcases ih (max a y) with h | h
    · by_cases hc : a ≤ y
      · right; rw [h, Int.max_eq_right hc]; exact List.mem_cons_self
      · left; rw [h, Int.max_eq_left (by (first | lia | omega))]
    · right; exact List.mem_cons_of_mem _ h

/-- if p holds the greatest and nobody ahead of it holds as much, the index of the greatest is p -/
theorem idxMax_eq {l : List Int} {p : Nat} {v : Int} (hp : l[p]? = some v) (hmax : ∀ x ∈ l, x ≤ v) (hfirst : ∀ (i : Nat) x, i < p → l[i]? = some x → x ≠ v) : idxMax l = p := by
  have hlt : p < l.length := (List.getElem?_eq_some_iff.mp hp).1
  have hmem : v ∈ l := List.mem_of_getElem? hp
  have hM : l.foldl max (l.headD 0) = v := by
    cases l with
    | nil => simp at hlt
    | cons y r =>
      have h1 := foldl_max_le (y :: r) y
      have h2 := foldl_max_mem (y :: r) y
      simp only [List.headD_cons] at *
      have a1 := h1.2 v hmem
      have a2 : (y :: r).foldl max y ≤ v := by
        rcases h2 with h | h
        · rw [h]; exact hmax y (List.mem_cons_self)
        · exact hmax _ h
      (first | lia | omega)
  unfold idxMax
  rw [hM]
  -- idxOf v l = p
  induction l generalizing p with
  | nil => simp at hlt
  | cons y r ih =>
    cases p with
    | zero =>
      simp at hp
      rw [hp]
      simp [List.idxOf_cons]
    | succ q =>
      have hy : y ≠ v := hfirst 0 y (by (first | lia | omega)) (by simp)
      rw [List.idxOf_cons]
      have : (y == v) = false := by simpa using hy
      rw [this]
      simp only [cond_false]
      have key : ∀ (l : List Int) (q : Nat), l[q]? = some v → (∀ (i : Nat) x, i < q → l[i]? = some x → x ≠ v) → l.idxOf v = q := by
        intro l
        induction l with
        | nil => intro q h; simp at h
        | cons z t iht =>
          intro q hq hf
          cases q with
          | zero => simp at hq; rw [hq]; simp [List.idxOf_cons]
          | succ q' =>
            have hz : z ≠ v := hf 0 z (by (first | lia | omega)) (by simp)
            rw [List.idxOf_cons]
            have : (z == v) = false := by simpa using hz
            rw [this]
            simp only [cond_false]
            rw [iht q' (by simpa using hq) (fun i x hi hx => hf (i+1) x (by (first | lia | omega)) (by simpa using hx))]
      rw [key r q (by simpa using hp) (fun i x hi hx => hfirst (i+1) x (by (first | lia | omega)) (by simpa using hx))]

theorem markAt_length (ps : List Nat) : ∀ l : List Int, (markAt l ps).length = l.length := by
  unfold markAt
  induction ps with
  | nil => intro l; rfl
  | cons p r ih => intro l; rw [List.foldl_cons, ih]; simp
theorem addAt_length (ps : List Nat) : ∀ l : List Int, (addAt l ps).length = l.length := by
  unfold addAt
  induction ps with
  | nil => intro l; rfl
  | cons p r ih => intro l; rw [List.foldl_cons, ih]; simp
theorem markAt_get (ps : List Nat) : ∀ (l : List Int) (i : Nat), i < l.length → (markAt l ps)[i]? = if i ∈ ps then some (-1) else l[i]? := by
  induction ps with
  | nil => intro l i hi; simp [markAt]
  | cons p r ih =>
    intro l i hi
    have e : markAt l (p :: r) = markAt (l.set p (-1)) r := rfl
    rw [e, ih _ i (by simpa using hi)]
    by_cases h1 : i ∈ r
    · simp [h1]
    · rw [if_neg h1]
      by_cases h2 : i = p
      · subst h2
        rw [List.getElem?_set_self hi]; simp
      · rw [List.getElem?_set_ne (Ne.symm h2)]; simp [h1, h2]

/-- the two roads agree: rs the rests (none below nought), ps the places in falling order of rests, of like ones the first first -/
theorem turns_eq {rs : List Int} {ps : List Nat} (hlen : ps.length = rs.length) (hnd : ps.Nodup) (hin : ∀ p ∈ ps, p < rs.length) (hall : ∀ i, i < rs.length → i ∈ ps) (h0 : ∀ r ∈ rs, (0 : Int) ≤ r)
    (hord : ∀ (i j : Nat) (p q : Nat), i < j → ps[i]? = some p → ps[j]? = some q → rs.getD q 0 < rs.getD p 0 ∨ (rs.getD q 0 = rs.getD p 0 ∧ p < q)) :
    ∀ (n k : Nat) (f : List Int), k + n ≤ ps.length → turns n (addAt f (ps.take k)) (markAt rs (ps.take k)) = (addAt f (ps.take (k + n)), markAt rs (ps.take (k + n))) := by
  intro n
  induction n with
  | zero => intro k f _; rfl
  | succ n ih =>
    intro k f hk
    have hkl : k < ps.length := by (first | lia | omega)
    have hp : ps[k]? = some ps[k] := List.getElem?_eq_getElem hkl
    generalize hpk : ps[k] = p at hp
    have hpin : p < rs.length := hin p (List.mem_of_getElem? hp)
    have hnot : p ∉ ps.take k := by
      intro hm
      obtain ⟨i, hi, e⟩ := List.mem_iff_getElem.mp hm
      have hik : i < k := by simp at hi; (first | lia | omega)
      rw [List.getElem_take] at e
      have := (List.getElem_inj hnd (h₀ := by (first | lia | omega)) (h₁ := hkl)).mp (e.trans hpk.symm)
      (first | lia | omega)
    have hv : (markAt rs (ps.take k))[p]? = some (rs.getD p 0) := by
      rw [markAt_get _ _ _ hpin, if_neg hnot, List.getElem?_eq_getElem hpin, List.getD_eq_getElem?_getD, List.getElem?_eq_getElem hpin]; rfl
    have later : ∀ i, i < rs.length → i ∉ ps.take k → i = p ∨ (rs.getD i 0 < rs.getD p 0 ∨ (rs.getD i 0 = rs.getD p 0 ∧ p < i)) := by
      intro i hi hni
      obtain ⟨j, hj, e⟩ := List.mem_iff_getElem.mp (hall i hi)
      by_cases hjk : j < k
      · exact absurd (List.mem_iff_getElem.mpr ⟨j, by simp; (first | lia | omega), by rw [List.getElem_take]; exact e⟩) hni
      · by_cases hjk' : j = k
        · left; subst hjk'; rw [← e]; exact hpk
        · right; exact hord k j p i (by (first | lia | omega)) hp (by rw [List.getElem?_eq_getElem hj, e])
    have hpnn : (0 : Int) ≤ rs.getD p 0 := by
      rw [List.getD_eq_getElem?_getD, List.getElem?_eq_getElem hpin]
      exact h0 _ (List.getElem_mem hpin)
    have hidx : idxMax (markAt rs (ps.take k)) = p := by
      refine idxMax_eq hv (fun x hx => ?_) (fun i x hi hx => ?_)
      · obtain ⟨i, hi, e⟩ := List.mem_iff_getElem.mp hx
        rw [markAt_length] at hi
        have g := markAt_get (ps.take k) rs i hi
        rw [List.getElem?_eq_getElem (by rw [markAt_length]; exact hi), e] at g
        by_cases hm : i ∈ ps.take k
        · rw [if_pos hm] at g
          have := Option.some.inj g
          (first | lia | omega)
        · rw [if_neg hm, List.getElem?_eq_getElem hi] at g
          have g' := Option.some.inj g
          have gd : rs.getD i 0 = x := by rw [List.getD_eq_getElem?_getD, List.getElem?_eq_getElem hi]; exact g'.symm
          rcases later i hi hm with rfl | h | h
          · (first | lia | omega)
          · (first | lia | omega)
          · (first | lia | omega)
      · have hil : i < rs.length := by (first | lia | omega)
        have g := markAt_get (ps.take k) rs i hil
        rw [hx] at g
        by_cases hm : i ∈ ps.take k
        · rw [if_pos hm] at g
          have := Option.some.inj g
          (first | lia | omega)
        · rw [if_neg hm, List.getElem?_eq_getElem hil] at g
          have g' := Option.some.inj g
          have gd : rs.getD i 0 = x := by rw [List.getD_eq_getElem?_getD, List.getElem?_eq_getElem hil]; exact g'.symm
          rcases later i hil hm with h | h | h
          · (first | lia | omega)
          · (first | lia | omega)
          · (first | lia | omega)
    rw [turns, hidx]
    have e1 : ps.take (k + 1) = ps.take k ++ [p] := by rw [List.take_succ, hp]; rfl
    have ea : (addAt f (ps.take k)).set p ((addAt f (ps.take k)).getD p 0 + 1) = addAt f (ps.take (k + 1)) := by
      rw [e1]; unfold addAt; rw [List.foldl_append]; rfl
    have em : (markAt rs (ps.take k)).set p (-1) = markAt rs (ps.take (k + 1)) := by
      rw [e1]; unfold markAt; rw [List.foldl_append]; rfl
    rw [ea, em, ih (k + 1) f (by (first | lia | omega))]
    rw [show k + 1 + n = k + (n + 1) by (first | lia | omega)]
end SM

set_option linter.all false
namespace SM
/-- the law's own share -/
noncomputable def baseL (t : Int) (ws : List Int) : List Int := ws.map fun w => t * w / ws.sum
noncomputable def restL (t : Int) (ws : List Int) : List Int := ws.map fun w => t * w % ws.sum
noncomputable def leftN (t : Int) (ws : List Int) : Int := t - (baseL t ws).sum
noncomputable def dueL (t : Int) (ws : List Int) : List Int := if ws.sum = 0 then ws.map fun _ => 0 else (turns (leftN t ws).toNat (baseL t ws) (restL t ws)).1

theorem sum_nonneg : ∀ (ws : List Int), (∀ w ∈ ws, (0 : Int) ≤ w) → 0 ≤ ws.sum
  | [], _ => Int.le_refl _
  | w :: r, h => by
    have h1 := h w List.mem_cons_self
    have h2 := sum_nonneg r fun x hx => h x (List.mem_cons_of_mem _ hx)
    rw [List.sum_cons]; (first | lia | omega)
theorem sum_le (M : Int) : ∀ (ws : List Int), (∀ w ∈ ws, w ≤ M) → ws.sum ≤ M * ws.length
  | [], _ => by simp
  | w :: r, h => by
    have h1 := h w List.mem_cons_self
    have h2 := sum_le M r fun x hx => h x (List.mem_cons_of_mem _ hx)
    rw [List.sum_cons, List.length_cons]
    have e : M * ((r.length + 1 : Nat) : Int) = M * (r.length : Int) + M := by push_cast; rw [Int.mul_add, Int.mul_one]
    (first | lia | omega)
theorem sum_map_mul (t : Int) : ∀ (ws : List Int), (ws.map fun w => t * w).sum = t * ws.sum
  | [] => by simp
  | w :: r => by rw [List.map_cons, List.sum_cons, sum_map_mul t r, List.sum_cons, Int.mul_add]
theorem sum_split (S : Int) (g : Int → Int) : ∀ (ws : List Int), (ws.map g).sum = S * (ws.map fun w => g w / S).sum + (ws.map fun w => g w % S).sum
  | [] => by simp
  | w :: r => by
    rw [List.map_cons, List.map_cons, List.map_cons, List.sum_cons, List.sum_cons, List.sum_cons, sum_split S g r, Int.mul_add]
    have e := Int.mul_ediv_add_emod (g w) S
    (first | lia | omega)
theorem rest_range {t : Int} {ws : List Int} (hS : 0 < ws.sum) : ∀ r ∈ restL t ws, 0 ≤ r ∧ r < ws.sum := by
  intro r hr
  unfold restL at hr
  obtain ⟨w, _, rfl⟩ := List.mem_map.mp hr
  exact ⟨Int.emod_nonneg _ (by (first | lia | omega)), Int.emod_lt_of_pos _ hS⟩
theorem rest_sum {t : Int} {ws : List Int} : ws.sum * leftN t ws = (restL t ws).sum := by
  have e := sum_split ws.sum (fun w => t * w) ws
  rw [sum_map_mul] at e
  unfold leftN restL baseL
  rw [Int.mul_sub, Int.mul_comm ws.sum t]
  (first | lia | omega)
theorem left_range {t : Int} {ws : List Int} (hS : 0 < ws.sum) : 0 ≤ leftN t ws ∧ leftN t ws ≤ ws.length := by
  have e := rest_sum (t := t) (ws := ws)
  have h0 := sum_nonneg (restL t ws) fun r hr => (rest_range hS r hr).1
  have h1 := sum_le ws.sum (restL t ws) fun r hr => Int.le_of_lt (rest_range hS r hr).2
  have hl : (restL t ws).length = ws.length := by unfold restL; simp
  rw [hl] at h1
  rw [← e] at h0 h1
  constructor
  · exact Int.nonneg_of_mul_nonneg_right h0 hS
  · exact Int.le_of_mul_le_mul_left h1 hS
theorem base_range {t : Int} {ws : List Int} (ht : 0 ≤ t) (hw : ∀ w ∈ ws, (0 : Int) ≤ w) (hS : 0 < ws.sum) : ∀ b ∈ baseL t ws, 0 ≤ b := by
  intro b hb
  unfold baseL at hb
  obtain ⟨w, hw', rfl⟩ := List.mem_map.mp hb
  exact Int.ediv_nonneg (Int.mul_nonneg ht (hw w hw')) (by (first | lia | omega))

/-- what the program's sort gives is what the law's turns give -/
theorem due_of_sorted {t : Int} {ws : List Int} {ps : List Nat} (hS : 0 < ws.sum) (so : SS.Sorted (fun p => -((restL t ws).getD p 0)) ws.length ps) :
    addAt (baseL t ws) (ps.take (leftN t ws).toNat) = (turns (leftN t ws).toNat (baseL t ws) (restL t ws)).1 := by
  have hl : (restL t ws).length = ws.length := by unfold restL; simp
  have hpl : ps.length = ws.length := by have := so.perm.length_eq; simpa using this
  have hlr := left_range (t := t) hS
  have e := turns_eq (rs := restL t ws) (ps := ps) (by (first | lia | omega)) (so.perm.nodup_iff.mpr List.nodup_range) (fun p hp => by have := List.mem_range.mp (so.perm.mem_iff.mp hp); (first | lia | omega))
    (fun i hi => so.perm.mem_iff.mpr (List.mem_range.mpr (by (first | lia | omega)))) (fun r hr => (rest_range hS r hr).1) (fun i j p q hij hp hq => by
      have z := so.ord i j p q hij hp hq
      (first | lia | omega)) (leftN t ws).toNat 0 (baseL t ws) (by (first | lia | omega))
  simp only [List.take_zero, Nat.zero_add] at e
  have e0 : addAt (baseL t ws) [] = baseL t ws := rfl
  have e1 : markAt (restL t ws) [] = restL t ws := rfl
  rw [e0, e1] at e
  rw [e]
end SM

set_option linter.all false
set_option maxHeartbeats 1000000
namespace SM
theorem getD_set (f : List Int) (p i : Nat) (v : Int) (h : p < f.length) : (f.set p v).getD i 0 = if i = p then v else f.getD i 0 := by
  rw [List.getD_eq_getElem?_getD, List.getElem?_set, List.getD_eq_getElem?_getD]
  by_cases e : p = i
  · subst e; simp [h]
  · rw [if_neg e, if_neg (Ne.symm e)]
theorem sum_set : ∀ (f : List Int) (p : Nat) (v : Int), p < f.length → (f.set p v).sum = f.sum - f.getD p 0 + v
  | [], p, v, h => by simp at h
  | x :: f, 0, v, h => by simp; (first | lia | omega)
  | x :: f, p + 1, v, h => by
    have := sum_set f p v (by simpa using h)
    simp at this ⊢
    (first | lia | omega)
noncomputable def posS : List Int → Int
  | [] => 0
  | x :: l => (if x < 0 then 0 else x) + posS l
theorem posS_sum : ∀ (l : List Int), (∀ x ∈ l, (0 : Int) ≤ x) → posS l = l.sum
  | [], _ => rfl
  | x :: l, h => by
    have h0 := h x (.head _)
    rw [posS, if_neg (by (first | lia | omega)), posS_sum l fun y hy => h y (.tail _ hy), List.sum_cons]
theorem posS_set : ∀ (l : List Int) (p : Nat), p < l.length → posS (l.set p (-1)) = posS l - (if l.getD p 0 < 0 then 0 else l.getD p 0)
  | [], p, h => by simp at h
  | x :: l, 0, h => by
    show (if (-1 : Int) < 0 then 0 else -1) + posS l = (if x < 0 then 0 else x) + posS l - (if x < 0 then 0 else x)
    rw [if_pos (by decide)]; (first | lia | omega)
  | x :: l, p + 1, h => by
    have ih := posS_set l p (by simpa using h)
    show (if x < 0 then 0 else x) + posS (l.set p (-1)) = (if x < 0 then 0 else x) + posS l - (if l.getD p 0 < 0 then 0 else l.getD p 0)
    rw [ih]; (first | lia | omega)
theorem posS_pos : ∀ (l : List Int), 0 < posS l → ∃ x ∈ l, 0 < x
  | [], h => by simp [posS] at h
  | x :: l, h => by
    by_cases hx : 0 < x
    · exact ⟨x, .head _, hx⟩
    · have : 0 < posS l := by
        unfold posS at h
        by_cases h2 : x < 0
        · rw [if_pos h2] at h; (first | lia | omega)
        · rw [if_neg h2] at h; (first | lia | omega)
      obtain ⟨y, hy, hp⟩ := posS_pos l this
      exact ⟨y, .tail _ hy, hp⟩
theorem idxMax_spec {l : List Int} (h : l ≠ []) : idxMax l < l.length ∧ (∀ x ∈ l, x ≤ l.getD (idxMax l) 0) ∧ ∀ i, i < idxMax l → l.getD i 0 ≠ l.getD (idxMax l) 0 := by
  cases l with
  | nil => exact absurd rfl h
  | cons a r =>
    have hm : (a :: r).foldl max ((a :: r).headD 0) ∈ a :: r := by
      show r.foldl max (max a a) ∈ a :: r
      rw [Int.max_self]
      rcases foldl_max_mem r a with e | e
      · rw [e]; exact .head _
      · exact .tail _ e
    have hle := (foldl_max_le (a :: r) ((a :: r).headD 0)).2
    have hlt : idxMax (a :: r) < (a :: r).length := List.idxOf_lt_length_iff.mpr hm
    have hg : (a :: r).getD (idxMax (a :: r)) 0 = (a :: r).foldl max ((a :: r).headD 0) := by
      rw [List.getD_eq_getElem?_getD, List.getElem?_eq_getElem hlt]
      exact List.getElem_idxOf hlt
    refine ⟨hlt, fun x hx => by rw [hg]; exact hle x hx, fun i hi e => ?_⟩
    rw [hg] at e
    have hil : i < (a :: r).length := Nat.lt_trans hi hlt
    have := List.not_of_lt_findIdx (p := (· == (a :: r).foldl max ((a :: r).headD 0))) (xs := a :: r) (i := i) hi
    rw [List.getD_eq_getElem?_getD, List.getElem?_eq_getElem hil] at e
    have e' : (a :: r)[i] = (a :: r).foldl max ((a :: r).headD 0) := e
    simp [e'] at this
/-- what k turns come to -/
structure Turned (S : Int) (n : Nat) (rs f0 : List Int) (k : Nat) (f l : List Int) (U : Nat → Bool) : Prop where
  fl : f.length = rs.length
  ll : l.length = rs.length
  fv : ∀ i, i < rs.length → f.getD i 0 = f0.getD i 0 + if U i = true then 1 else 0
  lv : ∀ i, i < rs.length → l.getD i 0 = if U i = true then -1 else rs.getD i 0
  ord : ∀ i j, i < rs.length → j < rs.length → U i = true → U j = false → rs.getD j 0 < rs.getD i 0 ∨ (rs.getD i 0 = rs.getD j 0 ∧ i < j)
  pos : ∀ i, i < rs.length → U i = true → 0 < rs.getD i 0
  big : ((n : Int) - k) * S ≤ posS l
  sum : f.sum = f0.sum + k
theorem Turned.step {S : Int} {n : Nat} {rs f0 : List Int} {k : Nat} {f l : List Int} {U : Nat → Bool} (hS : 0 < S) (hr : ∀ r ∈ rs, 0 ≤ r ∧ r < S) (hk : k < n) (T : Turned S n rs f0 k f l U) :
    Turned S n rs f0 (k + 1) (f.set (idxMax l) (f.getD (idxMax l) 0 + 1)) (l.set (idxMax l) (-1)) (fun i => U i || i == idxMax l) := by
  have hp : 0 < posS l := by
    have h1 : (1 : Int) * S ≤ ((n : Int) - k) * S := Int.mul_le_mul_of_nonneg_right (by (first | lia | omega)) (by (first | lia | omega))
    have := T.big; (first | lia | omega)
  obtain ⟨x, hx, hx0⟩ := posS_pos l hp
  have hne : l ≠ [] := fun e => by rw [e] at hx; cases hx
  obtain ⟨hlt, hmax, hfst⟩ := idxMax_spec hne
  generalize idxMax l = m at hlt hmax hfst ⊢
  have hm : 0 < l.getD m 0 := Int.lt_of_lt_of_le hx0 (hmax x hx)
  have hml : m < rs.length := by rw [← T.ll]; exact hlt
  have hUm : U m = false := by
    cases e : U m with
    | false => rfl
    | true => have := T.lv m hml; rw [if_pos e] at this; (first | lia | omega)
  have hlm : l.getD m 0 = rs.getD m 0 := by have := T.lv m hml; rw [hUm] at this; simpa using this
  have mem : ∀ j, j < rs.length → l.getD j 0 ∈ l := fun j hj => by
    rw [List.getD_eq_getElem?_getD, List.getElem?_eq_getElem (by rw [T.ll]; exact hj)]; exact List.getElem_mem _
  have memr : rs.getD m 0 ∈ rs := by rw [List.getD_eq_getElem?_getD, List.getElem?_eq_getElem hml]; exact List.getElem_mem _
  refine ⟨by rw [List.length_set]; exact T.fl, by rw [List.length_set]; exact T.ll, fun i hi => ?_, fun i hi => ?_, fun i j hi hj h1 h2 => ?_, fun i hi h => ?_, ?_, ?_⟩
  · rw [getD_set _ _ _ _ (by rw [T.fl]; exact hml)]
    by_cases e : i = m
    · subst e
      rw [if_pos rfl, T.fv i hi, hUm]; simp
    · rw [if_neg e, T.fv i hi]
      simp [e]
  · rw [getD_set _ _ _ _ hlt]
    by_cases e : i = m
    · subst e; simp
    · rw [if_neg e, T.lv i hi]; simp [e]
  · simp only [Bool.or_eq_true, beq_iff_eq, Bool.or_eq_false_iff, beq_eq_false_iff_ne] at h1 h2
    obtain ⟨h2, h3⟩ := h2
    rcases h1 with h1 | h1
    · exact T.ord i j hi hj h1 h2
    · subst h1
      have e := hmax _ (mem j hj)
      have ej : l.getD j 0 = rs.getD j 0 := by have := T.lv j hj; rw [h2] at this; simpa using this
      rw [ej, hlm] at e
      by_cases q : rs.getD j 0 = rs.getD i 0
      · refine .inr ⟨q.symm, ?_⟩
        rcases Nat.lt_or_ge j i with z | z
        · exact absurd (by rw [ej, hlm, q]) (hfst j z)
        · (first | lia | omega)
      · exact .inl (by (first | lia | omega))
  · simp only [Bool.or_eq_true, beq_iff_eq] at h
    rcases h with h | h
    · exact T.pos i hi h
    · subst h; rw [← hlm]; exact hm
  · rw [posS_set _ _ hlt, if_neg (by (first | lia | omega)), hlm]
    have h1 := (hr _ memr).2
    have h2 := T.big
    have h3 : ((n : Int) - ((k + 1 : Nat) : Int)) * S = ((n : Int) - k) * S - S := by
      rw [show ((n : Int) - ((k + 1 : Nat) : Int)) = ((n : Int) - k) - 1 by (first | lia | omega), Int.sub_mul, Int.one_mul]
    rw [h3]; (first | lia | omega)
  · rw [sum_set _ _ _ (by rw [T.fl]; exact hml), T.sum]; (first | lia | omega)
theorem turns_succ' : ∀ (n : Nat) (f l : List Int), turns (n + 1) f l =
    ((turns n f l).1.set (idxMax (turns n f l).2) ((turns n f l).1.getD (idxMax (turns n f l).2) 0 + 1), (turns n f l).2.set (idxMax (turns n f l).2) (-1))
  | 0, f, l => rfl
  | n + 1, f, l => by
    rw [turns, turns_succ' n]
    rw [show turns (n + 1) f l = turns n (f.set (idxMax l) (f.getD (idxMax l) 0 + 1)) (l.set (idxMax l) (-1)) from rfl]
theorem turned {S : Int} {n : Nat} {rs f0 : List Int} (hS : 0 < S) (hr : ∀ r ∈ rs, 0 ≤ r ∧ r < S) (hf : f0.length = rs.length) (hn : (n : Int) * S ≤ rs.sum) : ∀ k, k ≤ n → ∃ U, Turned S n rs f0 k (turns k f0 rs).1 (turns k f0 rs).2 U
  | 0, _ => ⟨fun _ => false, hf, rfl, fun i _ => by simp [turns], fun i _ => by simp [turns], fun i j _ _ h => (nomatch h), fun i _ h => (nomatch h), by rw [show (turns 0 f0 rs).2 = rs from rfl, posS_sum _ fun x hx => (hr x hx).1]; simpa using hn, by simp [turns]⟩
  | k + 1, h => by
    obtain ⟨U, T⟩ := turned hS hr hf hn k (by (first | lia | omega))
    rw [turns_succ']
    exact ⟨_, T.step hS hr (by (first | lia | omega))⟩
/-- the due row: rounded down or up -/
structure Due (t : Int) (ws row : List Int) (U : Nat → Bool) : Prop where
  len : row.length = ws.length
  val : ∀ i, i < ws.length → row.getD i 0 = t * ws.getD i 0 / ws.sum + if U i = true then 1 else 0
  ord : ∀ i j, i < ws.length → j < ws.length → U i = true → U j = false → t * ws.getD j 0 % ws.sum < t * ws.getD i 0 % ws.sum ∨ (t * ws.getD i 0 % ws.sum = t * ws.getD j 0 % ws.sum ∧ i < j)
  pos : ∀ i, i < ws.length → U i = true → 0 < t * ws.getD i 0 % ws.sum
  sum : row.sum = t
theorem map_getD (g : Int → Int) (ws : List Int) (i : Nat) (h : i < ws.length) : (ws.map g).getD i 0 = g (ws.getD i 0) := by
  rw [List.getD_eq_getElem?_getD, List.getElem?_map, List.getD_eq_getElem?_getD, List.getElem?_eq_getElem h]; rfl
theorem due_of {t : Int} {ws : List Int} (hS : 0 < ws.sum) : ∃ U, Due t ws (dueL t ws) U := by
  have hl := left_range (t := t) hS
  have hb : (baseL t ws).length = (restL t ws).length := by unfold baseL restL; simp
  have hrl : (restL t ws).length = ws.length := by unfold restL; simp
  have hn : (((leftN t ws).toNat : Nat) : Int) * ws.sum ≤ (restL t ws).sum := by
    rw [← rest_sum (t := t) (ws := ws), Int.toNat_of_nonneg hl.1, Int.mul_comm]; exact Int.le_refl _
  obtain ⟨U, T⟩ := turned hS (fun r hr => rest_range (t := t) hS r hr) hb hn _ (Nat.le_refl _)
  have e : dueL t ws = (turns (leftN t ws).toNat (baseL t ws) (restL t ws)).1 := by unfold dueL; rw [if_neg (by (first | lia | omega))]
  rw [e]
  have rv : ∀ i, i < ws.length → (restL t ws).getD i 0 = t * ws.getD i 0 % ws.sum := fun i hi => map_getD (fun w => t * w % ws.sum) ws i hi
  refine ⟨U, by rw [T.fl, hrl], fun i hi => ?_, fun i j hi hj h1 h2 => ?_, fun i hi h => ?_, ?_⟩
  · rw [T.fv i (by rw [hrl]; exact hi)]
    rw [show (baseL t ws).getD i 0 = t * ws.getD i 0 / ws.sum from map_getD (fun w => t * w / ws.sum) ws i hi]
  · have := T.ord i j (by rw [hrl]; exact hi) (by rw [hrl]; exact hj) h1 h2
    rw [rv i hi, rv j hj] at this; exact this
  · have := T.pos i (by rw [hrl]; exact hi) h
    rw [rv i hi] at this; exact this
  · rw [T.sum, Int.toNat_of_nonneg hl.1]; unfold leftN; (first | lia | omega)
end SM

set_option linter.all false
set_option maxHeartbeats 1000000
namespace SM
theorem turns_succ : ∀ (n : Nat) (f l : List Int), turns (n + 1) f l =
    ((turns n f l).1.set (idxMax (turns n f l).2) ((turns n f l).1.getD (idxMax (turns n f l).2) 0 + 1), (turns n f l).2.set (idxMax (turns n f l).2) (-1))
  | 0, f, l => rfl
  | n + 1, f, l => by
    rw [turns, turns_succ n]
    rw [show turns (n + 1) f l = turns n (f.set (idxMax l) (f.getD (idxMax l) 0 + 1)) (l.set (idxMax l) (-1)) from rfl]
theorem turns_len : ∀ (n : Nat) (f l : List Int), (turns n f l).1.length = f.length ∧ (turns n f l).2.length = l.length
  | 0, f, l => ⟨rfl, rfl⟩
  | n + 1, f, l => by
    rw [turns_succ]
    obtain ⟨a, b⟩ := turns_len n f l
    simp [a, b]
theorem idx_of_max {l : List Int} {M : Int} (hm : M ∈ l) (hM : ∀ a ∈ l, a ≤ M) : l.idxOf M = idxMax l := by
  refine (idxMax_eq (v := M) ?_ hM ?_).symm
  · have h := List.idxOf_lt_length_iff.mpr hm
    rw [List.getElem?_eq_getElem h, List.getElem_idxOf h]
  · intro i x hi hx e
    have h : i < l.length := Nat.lt_of_lt_of_le hi List.idxOf_le_length
    have := List.not_of_lt_findIdx (p := (· == M)) (xs := l) (i := i) hi
    rw [List.getElem?_eq_getElem h] at hx
    cases hx
    simp [e] at this
end SM
namespace SM
theorem dueL_len (t : Int) (ws : List Int) : (dueL t ws).length = ws.length := by
  unfold dueL
  split
  · simp
  · rw [(turns_len _ _ _).1]; unfold baseL; simp
end SM
namespace SM
theorem turns_nonneg : ∀ (n : Nat) (f l : List Int), (∀ b ∈ f, (0 : Int) ≤ b) → ∀ b ∈ (turns n f l).1, (0 : Int) ≤ b
  | 0, f, l, h => h
  | n + 1, f, l, h => by
    rw [turns]
    refine turns_nonneg n _ _ fun b hb => ?_
    rcases List.mem_or_eq_of_mem_set hb with h1 | h1
    · exact h b h1
    · rw [h1]
      have : 0 ≤ f.getD (idxMax l) 0 := by
        rw [List.getD_eq_getElem?_getD]
        cases e : f[idxMax l]? with
        | none => exact Int.le_refl _
        | some x => exact h x (List.mem_of_getElem? e)
      (first | lia | omega)
theorem dueL_nonneg {t : Int} {ws : List Int} (ht : 0 ≤ t) (hw : ∀ w ∈ ws, (0 : Int) ≤ w) : ∀ b ∈ dueL t ws, (0 : Int) ≤ b := by
  unfold dueL
  split
  · intro b hb
    obtain ⟨_, _, rfl⟩ := List.mem_map.mp hb
    exact Int.le_refl _
  · rename_i h
    have := sum_nonneg ws hw
    exact turns_nonneg _ _ _ (base_range ht hw (by (first | lia | omega)))
end SM

set_option linter.all false
set_option maxHeartbeats 4000000
set_option maxRecDepth 100000
namespace L2
open PySem
theorem Sm.free {P : Addr} {lp : Pos} {lq : Str} {H H' : Hp} (e : Sm P lp lq H H') (t : Tb P lp lq H) {l : Addr} (h : H' l = none) : H l = none := by
  cases q : H l with
  | none => rfl
  | some o =>
    by_cases z : l = P
    · obtain ⟨ps, hp, _⟩ := e.tb t
      rw [z, hp] at h; cases h
    · rw [e.all l o z q] at h; cases h
theorem Tb.ne {P : Addr} {lp : Pos} {lq : Str} {H : Hp} (t : Tb P lp lq H) {l : Addr} {xs : List V} (h : H l = some (.lst xs)) : l ≠ P := fun z => by
  obtain ⟨ps, hp, _⟩ := t; rw [z, hp] at h; cases h
theorem Tb.neT {P : Addr} {lp : Pos} {lq : Str} {H : Hp} (t : Tb P lp lq H) {l : Addr} {xs : List V} (h : H l = some (.tup xs)) : l ≠ P := fun z => by
  obtain ⟨ps, hp, _⟩ := t; rw [z, hp] at h; cases h
theorem Tb.neN {P : Addr} {lp : Pos} {lq : Str} {H : Hp} (t : Tb P lp lq H) {l : Addr} (h : H l = none) : l ≠ P := fun z => by
  obtain ⟨ps, hp, _⟩ := t; rw [z, hp] at h; cases h
/-- a list of ours is changed: the table stays -/
theorem Tb.set {P : Addr} {lp : Pos} {lq : Str} {H : Hp} (t : Tb P lp lq H) {l : Addr} {xs : List V} (h : H l = some (.lst xs)) (o : HO) : Tb P lp lq (upd H l o) := by
  have n := t.ne h
  obtain ⟨ps, hp, r⟩ := t
  refine ⟨ps, by rw [upd_ne n.symm]; exact hp, ?_⟩
  rcases r with r | ⟨c', r, q⟩
  · exact .inl r
  · refine .inr ⟨c', r, ?_⟩
    rw [upd_ne (fun z => by rw [z, h] at q; cases q)]; exact q
theorem flat_ints : ∀ (ns : List Int), (ns.map V.int).all flatV = true
  | [] => rfl
  | n :: ns => by rw [List.map_cons, List.all_cons, flat_ints ns]; rfl
theorem eqVs_self (ns : List Int) : eqVs (ns.map V.int) (ns.map V.int) = true := by rw [eqVs_ints]; exact decide_eq_true rfl
end L2
namespace L2
open PySem
/-- ints and truths -/
noncomputable def IB (x : V) : Prop := (∃ i, x = .int i) ∨ ∃ b, x = .bl b
structure IBL (xs : List V) : Prop where
  n : xs.length ≤ 70
  ib : ∀ x ∈ xs, IB x
theorem eqV_refl {x : V} (h : flatV x = true) : eqV x x = true := by
  cases x <;> first | rfl | (simp [eqV]; done) | (cases h)
/-- a row that may be the due one: what is_share is to say of it -/
inductive RowV (H : Hp) (ds : List Int) : V → Bool → Prop where
  | lst {l : Addr} {xs : List V} (e : H l = some (.lst xs)) (h : IBL xs) : RowV H ds (.ref l) (xs.all intV && eqVs xs (ds.map V.int))
  | tup {l : Addr} {xs : List V} (e : H l = some (.tup xs)) (h : IBL xs) : RowV H ds (.ref l) false
  | non : RowV H ds .non false
  | str (x : Str) : RowV H ds (.str x) false
end L2
namespace L2
open PySem
theorem neV {i j : Int} (c : ¬ decide (V.int i = V.int j) = true) : i ≠ j := fun e => c (decide_eq_true (by rw [e]))
theorem eqV' {i j : Int} (c : decide (V.int i = V.int j) = true) : i = j := by have e := of_decide_eq_true c; injection e
end L2
namespace L2
open PySem PySem.Spec PyProof.Rows
end L2

set_option linter.all false
set_option maxHeartbeats 4000000
set_option maxRecDepth 100000
namespace PySem
open Sem (wp)
/-- a list (b) or a tuple walked: its iterator at i stands at k -/
noncomputable def SeqIt (h : Heap) (b : Bool) (i l : Addr) (k : Nat) (xs : Array Value) : Prop :=
  (b = true ∧ h.IsListIter i l k ∧ h.IsList l xs) ∨ (b = false ∧ h.IsTupleIter i l k ∧ h.IsTuple l xs)
section
variable {h h' : Heap} {b : Bool} {i l c : Addr} {k : Nat} {xs : Array Value}
theorem SeqIt.ext (x : SeqIt h b i l k xs) (e : Heap.ExtBut c h h') (n1 : i ≠ c) (n2 : l ≠ c) : SeqIt h' b i l k xs := by
  rcases x with ⟨hb, x, y⟩ | ⟨hb, x, y⟩
  · exact .inl ⟨hb, x.extBut e n1, y.extBut e n2⟩
  · exact .inr ⟨hb, x.extBut e n1, y.extBut e n2⟩
theorem SeqIt.mv (x : SeqIt h b i l k xs) (e1 : ∀ o, h.get? i = some o → h'.get? i = some o) (e2 : ∀ o, h.get? l = some o → h'.get? l = some o) : SeqIt h' b i l k xs := by
  rcases x with ⟨hb, x, y⟩ | ⟨hb, x, y⟩
  · exact .inl ⟨hb, x.at e1, y.at e2⟩
  · exact .inr ⟨hb, x.at e1, y.at e2⟩
end
section
variable {prog : Program} {w : World} {A : Around} {E : Value → Shared → Prop} {s : Shared}
theorem seq_next {b : Bool} {i l : Addr} {k : Nat} {xs : Array Value} {x : Value} {Q : Value → Shared → Prop} (it : SeqIt s.heap b i l k xs) (ne : l ≠ i) (hx : xs[k]? = some x)
    (q : ∀ h', SeqIt h' b i l (k + 1) xs → Heap.SameBut i s.heap h' → Q x { s with heap := h' }) : wpAny (model prog w) A (Builtin.SmallTypes.nextOf (.ref i)) Q E s := by
  rcases it with ⟨hb, it, hl⟩ | ⟨hb, it, hl⟩
  · exact wpAny_nextOf_list_item it hl hx fun h' it' sb => q h' (.inl ⟨hb, it', hl.extBut sb.extBut ne⟩) sb
  · obtain ⟨o, ho, hc, hd⟩ := id it
    obtain ⟨ol, hol, _, nl, hdl⟩ := id hl
    unfold Builtin.SmallTypes.nextOf
    refine wpAny_bind (wpAny_callSpecial?_slot (name := Str.ofString "__next__") it.typeIs F.slot_tuple_iterator_next (wpAny_call_entry F.slot_tuple_iterator_next it.typeIs F.entry_tuple_iterator_next ?_ (F.args_tuple_iterator_next_1 _)))
    show wpAny _ _ (field (.ref i) 0 >>= _) _ _ s
    refine wpAny_bind (wpAny_field ho hd (x := .ref l) rfl ?_)
    show wpAny _ _ (if (Value.ref l == Value.none) = true then _ else _) _ _ s
    rw [if_neg (show ¬ ((Value.ref l == Value.none) = true) from Bool.false_ne_true)]
    show wpAny _ _ (field (.ref i) 1 >>= _) _ _ s
    refine wpAny_bind (wpAny_field ho hd (x := .int k 0) rfl ?_)
    show wpAny _ _ (seqItems? (.ref l) >>= _) _ _ s
    refine wpAny_bind (wpAny_seqItems hol hdl ?_)
    simp only [Int.toNat_natCast, hx]
    refine wpAny_bind (wpAny_setField ho hd (by simp) (wpAny_pure ⟨x, rfl, wpAny_pure (q _ (.inr ⟨hb, ?_, hl.extBut (Heap.SameBut.update ..).extBut ne⟩) (Heap.SameBut.update ..))⟩))
    exact ⟨_, Heap.get?_update_self _ ho (Obj.isFreed_of_fields (Obj.data_mapFields hd _)), (Obj.cls_mapFields ..).trans hc, by rw [Obj.data_mapFields hd]; simp [rawInt]⟩
theorem seq_end {b : Bool} {i l : Addr} {k : Nat} {xs : Array Value} {Q : Value → Shared → Prop} (hh : A.handled = none) (it : SeqIt s.heap b i l k xs) (hx : xs[k]? = none)
    (q : ∀ h' e, Heap.ExtBut i s.heap h' → (∃ o, h'.get? e = some o ∧ o.cls = .type "StopIteration") → E (.ref e) { s with heap := h' }) : wpAny (model prog w) A (Builtin.SmallTypes.nextOf (.ref i)) Q E s := by
  rcases it with ⟨hb, it, hl⟩ | ⟨hb, it, hl⟩
  · exact wpAny_nextOf_list_end hh it hl hx q
  · obtain ⟨o, ho, hc, hd⟩ := id it
    obtain ⟨ol, hol, _, nl, hdl⟩ := id hl
    unfold Builtin.SmallTypes.nextOf
    refine wpAny_bind (wpAny_callSpecial?_slot (name := Str.ofString "__next__") it.typeIs F.slot_tuple_iterator_next (wpAny_call_entry F.slot_tuple_iterator_next it.typeIs F.entry_tuple_iterator_next ?_ (F.args_tuple_iterator_next_1 _)))
    show wpAny _ _ (field (.ref i) 0 >>= _) _ _ s
    refine wpAny_bind (wpAny_field ho hd (x := .ref l) rfl ?_)
    show wpAny _ _ (if (Value.ref l == Value.none) = true then _ else _) _ _ s
    rw [if_neg (show ¬ ((Value.ref l == Value.none) = true) from Bool.false_ne_true)]
    show wpAny _ _ (field (.ref i) 1 >>= _) _ _ s
    refine wpAny_bind (wpAny_field ho hd (x := .int k 0) rfl ?_)
    show wpAny _ _ (seqItems? (.ref l) >>= _) _ _ s
    refine wpAny_bind (wpAny_seqItems hol hdl ?_)
    simp only [Int.toNat_natCast, hx]
    refine wpAny_bind (wpAny_rule (wpAny_bind (wpAny_setField ho hd (by simp) ?_)))
    show wpAny _ _ (newExc (.type "StopIteration") [] >>= _) _ _ _
    refine wpAny_bind ?_
    simp only [newExc, newTuple]
    refine wpAny_bind (wpAny_newObj_type ?_ (by size_fits))
    refine wpAny_bind (m := firstArgMember _ _) (wpAny_of_eq (a := Value.none) (by first | rfl | (simp only [firstArgMember]; rfl)) ?_)
    refine wpAny_newObj_type ?_ (by size_fits)
    simp only [raiseNew]
    refine wpAny_bind (wpAny_handled ?_)
    first | rw [show A.in1.handled = none from hh] | rw [hh]
    refine wpAny_bind (wpAny_pure (wpAny_throw ?_))
    exact q _ _ (((Heap.SameBut.update ..).extBut.push _).push _) ⟨_, Heap.get?_push_size _ rfl, rfl⟩
/-- the zip at z, its two iterators at k -/
structure ZipSt (h : Heap) (b1 b2 : Bool) (z TI TO i1 i2 l1 l2 : Addr) (f0 : Value) (k : Nat) (xs ys : Array Value) : Prop where
  z : IsZip h z TI TO f0
  ti : IsPair h TI (.ref i1) (.ref i2)
  to : ∃ a b, IsPair h TO a b
  a : SeqIt h b1 i1 l1 k xs
  b : SeqIt h b2 i2 l2 k ys
theorem zip_item {b1 b2 : Bool} {z TI TO i1 i2 l1 l2 : Addr} {k : Nat} {xs ys : Array Value} {x y : Value} {Q : Option Value → Shared → Prop} (D : ZipApart z TI TO i1 i2 l1 l2)
    (Z : ZipSt s.heap b1 b2 z TI TO i1 i2 l1 l2 .none k xs ys) (hx : xs[k]? = some x) (hy : ys[k]? = some y)
    (q : ∀ h', ZipSt h' b1 b2 z TI TO i1 i2 l1 l2 (rawInt s.heap.objs.size) (k + 1) xs ys → IsPair h' s.heap.objs.size x y →
      (∀ c o, c ≠ z → c ≠ TO → c ≠ i1 → c ≠ i2 → s.heap.get? c = some o → h'.get? c = some o) → Q (some (.ref s.heap.objs.size)) { s with heap := h' }) :
    wpAny (model prog w) A (pyNext (.ref z)) Q E s := by
  obtain ⟨hz, hTI, ⟨a, b, hTO⟩, h1, h2⟩ := Z
  have hT : s.TypeIs (.ref z) "zip" := ⟨_, hz, rfl⟩
  unfold pyNext
  refine wpAny_bind (wpAny_attempt (wpAny_callSpecial?_slot (name := Str.ofString "__next__") hT F.slot_zip_next (wpAny_call_entry F.slot_zip_next hT F.entry_zip_next ?_ (F.args_zip_next_1 _))))
  show wpAny _ _ (field (.ref z) 2 >>= _) _ _ _
  refine wpAny_bind (wpAny_field hz rfl (x := .bool false) rfl ?_)
  show wpAny _ _ (field (.ref z) 3 >>= _) _ _ _
  refine wpAny_bind (wpAny_field hz rfl (x := .ref TI) rfl (wpAny_bind (wpAny_seqItems hTI rfl ?_)))
  show wpAny _ _ (Builtin.SmallTypes.ownedTupleIsFree (.ref z) >>= _) _ _ _
  refine wpAny_bind ?_
  unfold Builtin.SmallTypes.ownedTupleIsFree
  refine wpAny_bind (wpAny_field hz rfl (x := .none) rfl (wpAny_pure ?_))
  simp only [if_true]
  refine wpAny_bind (wpAny_rule (wpAny_bind (wpAny_field hz rfl (x := .ref TO) rfl (wpAny_bind (wpAny_setField_rec hz (by simp) fun g1 z1 s1 => ?_)))))
  replace z1 : IsZip g1 z TI TO .ellipsis := z1
  refine wpAny_bind ?_
  simp only [List.zipIdx_cons, List.zipIdx_nil, List.forIn_cons, List.forIn_nil]
  refine wpAny_bind (wpAny_bind (wpAny_onRaise ?_))
  show wpAny _ _ (Builtin.SmallTypes.nextOf (.ref i1) >>= _) _ _ _
  refine wpAny_bind (seq_next (h1.ext s1.extBut D.i1z D.l1z) D.l1i1 hx fun g2 a2 s2 => wpAny_pure ?_)
  have to2 : IsPair g2 TO a b := s2.extBut _ _ D.TOi1 (s1.extBut _ _ D.TOz hTO)
  refine wpAny_bind (wpAny_seqItems to2 rfl (wpAny_bind (wpAny_updateSeq_pair to2 fun g3 to3 s3 => ?_)))
  replace to3 : IsPair g3 TO x b := to3
  refine wpAny_bind (wpAny_letGo (wpAny_pure (wpAny_bind (wpAny_bind (wpAny_onRaise ?_)))))
  show wpAny _ _ (Builtin.SmallTypes.nextOf (.ref i2) >>= _) _ _ _
  refine wpAny_bind (seq_next (((h2.ext s1.extBut D.i2z D.l2z).ext s2.extBut D.i12.symm D.l2i1).ext s3.extBut D.TOi2.symm D.l2TO) D.l2i2 hy fun g4 b4 s4 => wpAny_pure ?_)
  have to4 : IsPair g4 TO x b := s4.extBut _ _ D.TOi2 to3
  refine wpAny_bind (wpAny_seqItems to4 rfl (wpAny_bind (wpAny_updateSeq_pair to4 fun g5 to5 s5 => ?_)))
  replace to5 : IsPair g5 TO x y := to5
  refine wpAny_bind (wpAny_letGo (wpAny_pure (wpAny_pure (wpAny_bind (wpAny_seqItems to5 rfl (wpAny_bind (wpAny_newTuple ?_)))))))
  have sz : g5.objs.size = s.heap.objs.size := by rw [s5.1, s4.1, s3.1, s2.1, s1.1]
  have z5 : IsZip g5 z TI TO .ellipsis := s5.extBut _ _ D.TOz.symm (s4.extBut _ _ D.i2z.symm (s3.extBut _ _ D.TOz.symm (s2.extBut _ _ D.i1z.symm z1)))
  have kp : ∀ c o, c ≠ z → c ≠ TO → c ≠ i1 → c ≠ i2 → s.heap.get? c = some o → g5.get? c = some o := fun c o c1 c2 c3 c4 e =>
    s5.extBut _ _ c2 (s4.extBut _ _ c4 (s3.extBut _ _ c2 (s2.extBut _ _ c3 (s1.extBut _ _ c1 e))))
  have a5 : SeqIt g5 b1 i1 l1 (k + 1) xs := ((a2.ext s3.extBut D.TOi1.symm D.l1TO).ext s4.extBut D.i12 D.l1i2).ext s5.extBut D.TOi1.symm D.l1TO
  have b5 : SeqIt g5 b2 i2 l2 (k + 1) ys := b4.ext s5.extBut D.TOi2.symm D.l2TO
  have zlt : z < g5.objs.size := Heap.lt_size z5
  show wpAny _ _ (Builtin.SmallTypes.ownedTupleHandOut (.ref z) (.ref g5.objs.size) >>= _) _ _ _
  refine wpAny_bind ?_
  unfold Builtin.SmallTypes.ownedTupleHandOut
  have z6 : IsZip (g5.push { cls := .type "tuple", data := .seq #[x, y] }) z TI TO .ellipsis := Heap.get?_push_of_some _ z5
  refine wpAny_bind (wpAny_setField_rec z6 (by simp) fun g7 z7 s7 => ?_)
  replace z7 : IsZip g7 z TI TO (rawInt g5.objs.size) := z7
  refine wpAny_setField_rec z7 (by simp) fun g8 z8 s8 => ?_
  replace z8 : IsZip g8 z TI TO (rawInt g5.objs.size) := z8
  have up : ∀ c o, c ≠ z → g5.get? c = some o → g8.get? c = some o := fun c o c1 e => s8.extBut _ _ c1 (s7.extBut _ _ c1 (Heap.get?_push_of_some _ e))
  have t8 : IsPair g8 g5.objs.size x y := s8.extBut _ _ (Nat.ne_of_gt zlt) (s7.extBut _ _ (Nat.ne_of_gt zlt) (Heap.get?_push_size _ rfl))
  rw [sz] at z8 t8
  refine wpAny_pure ⟨_, rfl, ?_⟩
  show wpAny _ _ _ _ _ _
  rw [sz]
  exact wpAny_pure (q g8 ⟨z8, up _ _ D.TIz (kp _ _ D.TIz D.TITO D.TIi1 D.TIi2 hTI), ⟨_, _, up _ _ D.TOz to5⟩, a5.mv (fun o e => up _ o D.i1z e) (fun o e => up _ o D.l1z e), b5.mv (fun o e => up _ o D.i2z e) (fun o e => up _ o D.l2z e)⟩ t8 fun c o c1 c2 c3 c4 e => up c o c1 (kp c o c1 c2 c3 c4 e))
theorem zip_done {b1 b2 : Bool} {z TI TO i1 i2 l1 l2 : Addr} {k : Nat} {xs ys : Array Value} {Q : Option Value → Shared → Prop} (hh : A.handled = none) (D : ZipApart z TI TO i1 i2 l1 l2)
    (Z : ZipSt s.heap b1 b2 z TI TO i1 i2 l1 l2 .none k xs ys) (hend : xs[k]? = none ∨ ys[k]? = none)
    (q : ∀ h', (∀ c o, c ≠ z → c ≠ TO → c ≠ i1 → c ≠ i2 → s.heap.get? c = some o → h'.get? c = some o) → Q none { s with heap := h' }) : wpAny (model prog w) A (pyNext (.ref z)) Q E s := by
  obtain ⟨hz, hTI, ⟨a, b, hTO⟩, h1, h2⟩ := Z
  have hT : s.TypeIs (.ref z) "zip" := ⟨_, hz, rfl⟩
  have stopped : ∀ (h' : Heap) (e : Addr), (∀ c o, c ≠ z → c ≠ TO → c ≠ i1 → c ≠ i2 → s.heap.get? c = some o → h'.get? c = some o) → (∃ o, h'.get? e = some o ∧ o.cls = .type "StopIteration") →
      wpAny (model prog w) A (isInstance (.ref e) (.type "StopIteration") >>= fun r => if r = true then (pure none : Sem (Option Value)) else Sem.raise (.ref e)) Q E { s with heap := h' } := fun h' e kp ⟨o, ho, hc⟩ => by
    refine wpAny_bind (wpAny_isInstance (T := "StopIteration") (b := true) ⟨o, ho, hc⟩ isSubtype_stop ?_)
    exact wpAny_pure (q _ kp)
  unfold pyNext
  refine wpAny_bind (wpAny_attempt (wpAny_callSpecial?_slot (name := Str.ofString "__next__") hT F.slot_zip_next (wpAny_call_entry F.slot_zip_next hT F.entry_zip_next ?_ (F.args_zip_next_1 _))))
  show wpAny _ _ (field (.ref z) 2 >>= _) _ _ _
  refine wpAny_bind (wpAny_field hz rfl (x := .bool false) rfl ?_)
  show wpAny _ _ (field (.ref z) 3 >>= _) _ _ _
  refine wpAny_bind (wpAny_field hz rfl (x := .ref TI) rfl (wpAny_bind (wpAny_seqItems hTI rfl ?_)))
  show wpAny _ _ (Builtin.SmallTypes.ownedTupleIsFree (.ref z) >>= _) _ _ _
  refine wpAny_bind ?_
  unfold Builtin.SmallTypes.ownedTupleIsFree
  refine wpAny_bind (wpAny_field hz rfl (x := .none) rfl (wpAny_pure ?_))
  simp only [if_true]
  refine wpAny_bind (wpAny_rule (wpAny_bind (wpAny_field hz rfl (x := .ref TO) rfl (wpAny_bind (wpAny_setField_rec hz (by simp) fun g1 z1 s1 => ?_)))))
  replace z1 : IsZip g1 z TI TO .ellipsis := z1
  refine wpAny_bind ?_
  simp only [List.zipIdx_cons, List.zipIdx_nil, List.forIn_cons, List.forIn_nil]
  refine wpAny_bind (wpAny_bind (wpAny_onRaise ?_))
  show wpAny _ _ (Builtin.SmallTypes.nextOf (.ref i1) >>= _) _ _ _
  cases hx : xs[k]? with
  | none =>
    refine wpAny_bind (seq_end hh (h1.ext s1.extBut D.i1z D.l1z) hx fun g2 e s2 he => ?_)
    obtain ⟨oe, hoe, hce⟩ := he
    have z2 : IsZip g2 z TI TO .ellipsis := s2 _ _ D.i1z.symm z1
    have hez : e ≠ z := fun x => by subst x; rw [z2] at hoe; cases hoe; simp at hce
    refine wpAny_setField_rec z2 (by simp) fun g3 _ s3 => ?_
    exact stopped g3 e (fun c o c1 _ c3 _ x => s3.extBut _ _ c1 (s2 _ _ c3 (s1.extBut _ _ c1 x))) ⟨oe, s3.extBut _ _ hez hoe, hce⟩
  | some x =>
    have hy : ys[k]? = none := by
      rcases hend with h | h
      · rw [hx] at h; cases h
      · exact h
    refine wpAny_bind (seq_next (h1.ext s1.extBut D.i1z D.l1z) D.l1i1 hx fun g2 a2 s2 => wpAny_pure ?_)
    have to2 : IsPair g2 TO a b := s2.extBut _ _ D.TOi1 (s1.extBut _ _ D.TOz hTO)
    refine wpAny_bind (wpAny_seqItems to2 rfl (wpAny_bind (wpAny_updateSeq_pair to2 fun g3 to3 s3 => ?_)))
    refine wpAny_bind (wpAny_letGo (wpAny_pure (wpAny_bind (wpAny_bind (wpAny_onRaise ?_)))))
    show wpAny _ _ (Builtin.SmallTypes.nextOf (.ref i2) >>= _) _ _ _
    refine wpAny_bind (seq_end hh (((h2.ext s1.extBut D.i2z D.l2z).ext s2.extBut D.i12.symm D.l2i1).ext s3.extBut D.TOi2.symm D.l2TO) hy fun g4 e s4 he => ?_)
    obtain ⟨oe, hoe, hce⟩ := he
    have z4 : IsZip g4 z TI TO .ellipsis := s4 _ _ D.i2z.symm (s3.extBut _ _ D.TOz.symm (s2.extBut _ _ D.i1z.symm z1))
    have hez : e ≠ z := fun x => by subst x; rw [z4] at hoe; cases hoe; simp at hce
    refine wpAny_setField_rec z4 (by simp) fun g5 _ s5 => ?_
    exact stopped g5 e (fun c o c1 c2 c3 c4 x => s5.extBut _ _ c1 (s4 _ _ c4 (s3.extBut _ _ c2 (s2.extBut _ _ c3 (s1.extBut _ _ c1 x))))) ⟨oe, s5.extBut _ _ hez hoe, hce⟩
/-- zip of a tuple and a list is made -/
noncomputable abbrev zt1 (h : Heap) (l1 : Addr) : Heap := h.push { cls := .type "tuple_iterator", data := .fields #[.ref l1, .int 0 0] }
noncomputable abbrev zt2 (h : Heap) (l1 l2 : Addr) : Heap := (zt1 h l1).push { cls := .type "list_iterator", data := .fields #[.ref l2, .int 0 0] }
noncomputable abbrev zt3 (h : Heap) (l1 l2 : Addr) : Heap := (zt2 h l1 l2).push { cls := .type "tuple", data := .seq #[.ref h.objs.size, .ref (zt1 h l1).objs.size] }
noncomputable abbrev zt4 (h : Heap) (l1 l2 : Addr) : Heap := (zt3 h l1 l2).push { cls := .type "tuple", data := .seq #[.none, .none] }
noncomputable abbrev zt5 (h : Heap) (l1 l2 : Addr) : Heap := (zt4 h l1 l2).push { cls := .type "zip", data := .fields #[.none, .bool false, .bool false, .ref (zt2 h l1 l2).objs.size, .ref (zt3 h l1 l2).objs.size] }
theorem zt_new (l1 l2 : Addr) (xs ys : Array Value) :
    Meets (Builtin.«zip.__new__» ⟨[.type "zip", .ref l1, .ref l2], []⟩) (fun _ R s => s.heap.IsTuple l1 xs ∧ s.heap.IsList l2 ys ∧
      R (.ok (.ret (.ref (zt4 s.heap l1 l2).objs.size))) { s with heap := zt5 s.heap l1 l2 }) :=
  .of_wp fun prog w A R s h => by
    obtain ⟨hp, g, d, tk, os⟩ := s; obtain ⟨hl1, hl2, h⟩ := h
    have hsub := sub_zip
    have e1 : Heap.IsTuple (Shared.heap ⟨hp, g, d, tk, os⟩) l1 xs := hl1
    have e2 : Heap.IsList (Shared.heap ⟨hp.push { cls := .type "tuple_iterator", data := .fields #[.ref l1, .int 0 0] }, g, d, tk, os⟩) l2 ys := Heap.IsList.push hl2 _
    wp_walk using wpAny_pyIter_tuple e1, wpAny_pyIter_list e2
    exact ⟨_, rfl, h⟩
theorem call_zt {l1 l2 : Addr} {xs ys : Array Value} {Q : Value → Shared → Prop} (hl1 : s.heap.IsTuple l1 xs) (hl2 : s.heap.IsList l2 ys)
    (h : ∀ h', IsZip h' (s.heap.objs.size + 4) (s.heap.objs.size + 2) (s.heap.objs.size + 3) .none → IsPair h' (s.heap.objs.size + 2) (.ref s.heap.objs.size) (.ref (s.heap.objs.size + 1)) →
      IsPair h' (s.heap.objs.size + 3) .none .none → h'.IsTupleIter s.heap.objs.size l1 0 → h'.IsListIter (s.heap.objs.size + 1) l2 0 →
      (∀ c o, s.heap.get? c = some o → h'.get? c = some o) → Q (.ref (s.heap.objs.size + 4)) { s with heap := h' }) :
    wpAny (model prog w) A (call (.type "zip") [.ref l1, .ref l2]) Q E s := by
  refine callType_new F.called_zip (by decide) (F.typeCall_zip_2 _ _) (F.newCall_zip_2 _ _) (fun obj => F.args_object_init_3 obj _ _) F.entry_zip_new (zt_new l1 l2 xs ys) ⟨hl1, hl2, ?_⟩
  have n1 : (zt1 s.heap l1).objs.size = s.heap.objs.size + 1 := Heap.size_push ..
  have n2 : (zt2 s.heap l1 l2).objs.size = s.heap.objs.size + 2 := by rw [Heap.size_push, n1]
  have n3 : (zt3 s.heap l1 l2).objs.size = s.heap.objs.size + 3 := by rw [Heap.size_push, n2]
  have n4 : (zt4 s.heap l1 l2).objs.size = s.heap.objs.size + 4 := by rw [Heap.size_push, n3]
  have p5 : (zt5 s.heap l1 l2).get? (zt4 s.heap l1 l2).objs.size = some _ := Heap.get?_push_size _ rfl
  have p4 : (zt5 s.heap l1 l2).get? (zt3 s.heap l1 l2).objs.size = some _ := Heap.get?_push_of_some _ (Heap.get?_push_size _ rfl)
  have p3 : (zt5 s.heap l1 l2).get? (zt2 s.heap l1 l2).objs.size = some _ := Heap.get?_push_of_some _ (Heap.get?_push_of_some _ (Heap.get?_push_size _ rfl))
  have p2 : (zt5 s.heap l1 l2).get? (zt1 s.heap l1).objs.size = some _ := Heap.get?_push_of_some _ (Heap.get?_push_of_some _ (Heap.get?_push_of_some _ (Heap.get?_push_size _ rfl)))
  have p1 : (zt5 s.heap l1 l2).get? s.heap.objs.size = some _ := Heap.get?_push_of_some _ (Heap.get?_push_of_some _ (Heap.get?_push_of_some _ (Heap.get?_push_of_some _ (Heap.get?_push_size _ rfl))))
  show _ ∧ _
  rw [n2, n3, n4] at p5
  rw [n1, n2] at p3
  rw [n3] at p4
  rw [n1] at p2
  rw [n4]
  exact ⟨⟨_, p5, rfl⟩, h _ p5 p3 p4 ⟨_, p1, rfl, rfl⟩ ⟨_, p2, rfl, rfl⟩ fun c o x =>
    Heap.get?_push_of_some _ (Heap.get?_push_of_some _ (Heap.get?_push_of_some _ (Heap.get?_push_of_some _ (Heap.get?_push_of_some _ x))))⟩
end
end PySem

set_option linter.all false
set_option maxHeartbeats 4000000
set_option maxRecDepth 100000
namespace L2
open PySem PySem.Spec PyProof.Rows
section
variable {X : Cx} {pins : List (Addr × Obj)} {σ : St} {H : Hp} {s : Shared} {h' : Heap}
/-- untracked records of ours have turned -/
theorem Inv.turnedL {t' : Nat} {ch : List Addr} (I : Inv X pins σ H s) (k : ∀ b o, b ∉ ch → s.heap.get? b = some o → h'.get? b = some o) (hf : ∀ b ∈ ch, FpOk X pins H b) :
    Inv X pins σ H { s with heap := h', toks := t' } := by
  have nit : ∀ b u, H b = some u → b ∉ ch := fun b u e z => by rw [(hf b z).1] at e; cases e
  refine I.step (g' := s.gens) (d' := s.drawn) (ch := ch) (fun b hb => ?_) (fun b o _ _ hc e _ => k b o hc e) (fun b o _ _ hc e _ => ⟨o.slots, k b o hc e⟩) (fun _ _ _ _ n => n)
    (fun b o hc e => ⟨o, k b o hc e⟩) (fun _ _ e => e) (fun _ _ _ e => e) (fun b ps e => ⟨#[], by rw [e]; simp⟩) (fun m hm => ?_) (fun b u e => ?_) I.bare
  · obtain ⟨_, f1, _, f3, f4, f5⟩ := hf b hb
    exact ⟨f3, f1, f4, f5⟩
  · obtain ⟨o, es, ep, ho, r⟩ := hm
    exact ⟨o, es, ep, k _ o (fun z => (hf _ z).2.1 rfl) ho, r⟩
  · refine (I.hok b u e).stay (fun c v hc q => k c v ?_ q) (fun _ q => q) fun _ _ q => q
    rcases hc with z | z
    · rw [z]; exact nit b u e
    · exact nit c _ z
/-- .. and a new thing is tracked -/
theorem Inv.turnedT {t' : Nat} {ch : List Addr} {T : Addr} {o : HO} (I : Inv X pins σ H s) (k : ∀ b o, b ∉ ch → s.heap.get? b = some o → h'.get? b = some o) (hf : ∀ b ∈ ch, FpOk X pins H b)
    (hT : s.heap.objs.size ≤ T) (new : ObjOk X.prog X.w (upd H T o) h' T o) : Inv X pins σ (upd H T o) { s with heap := h', toks := t' } := by
  have fT : H T = none := I.hok.fresh hT
  have nit : ∀ b u, H b = some u → b ∉ ch := fun b u e z => by rw [(hf b z).1] at e; cases e
  have neT : ∀ b u, s.heap.get? b = some u → b ≠ T := fun b u e => Nat.ne_of_lt (Nat.lt_of_lt_of_le (Heap.lt_size e) hT)
  refine I.step (g' := s.gens) (d' := s.drawn) (ch := ch) (fun b hb => ?_) (fun b o _ _ hc e _ => k b o hc e) (fun b o _ _ hc e _ => ⟨o.slots, k b o hc e⟩) (fun b o _ e n => by rw [upd_ne (neT b o e)]; exact n)
    (fun b o hc e => ⟨o, k b o hc e⟩) (fun b xs e => by rw [upd_ne (ne_of_none e fT)]; exact e) (fun b u v e => by rw [upd_ne (ne_of_none e fT)]; exact e) (fun b ps e => ⟨#[], by rw [upd_ne (ne_of_none e fT), e]; simp⟩) (fun m hm => ?_) (fun b u e => ?_) I.bare
  · obtain ⟨_, f1, _, f3, f4, f5⟩ := hf b hb
    exact ⟨f3, f1, f4, f5⟩
  · obtain ⟨o, es, ep, ho, r⟩ := hm
    exact ⟨o, es, ep, k _ o (fun z => (hf _ z).2.1 rfl) ho, r⟩
  · by_cases hb : b = T
    · subst hb; rw [upd_same] at e; cases e; exact new
    · rw [upd_ne hb] at e
      refine (I.hok b u e).stay (fun c v hc q => k c v ?_ q) (fun c q => by rw [upd_ne (ne_of_none q fT)]; exact q) fun c xs q => by rw [upd_ne (ne_of_none q fT)]; exact q
      rcases hc with z | z
      · rw [z]; exact nit b u e
      · exact nit c _ z
end
/-- a list (true) or a tuple -/
noncomputable def SqX (K : PySem.W.Frag) (b : Bool) (H : Hp) (a : Addr) (xs : List V) : Prop := (b = true ∧ SqL K H a xs) ∨ (b = false ∧ SqT K H a xs)
noncomputable def ItPos (h : Heap) (b : Bool) (i l : Addr) (k : Nat) : Prop := (b = true ∧ h.IsListIter i l k) ∨ (b = false ∧ h.IsTupleIter i l k)
/-- two walked at once: a new pair each turn -/
noncomputable def Itz (K : PySem.W.Frag) (b1 b2 : Bool) (a b : Addr) : It :=
  ⟨fun i H => ∃ xs ys x y, SqX K b1 H a xs ∧ SqX K b2 H b ys ∧ xs[i]? = some x ∧ ys[i]? = some y,
   fun i H v H' => ∃ T x y, v = .ref T ∧ H T = none ∧ H' = upd H T (.tup [x, y]) ∧ (∀ xs, SqX K b1 H a xs → xs[i]? = some x) ∧ (∀ ys, SqX K b2 H b ys → ys[i]? = some y),
   fun i H => ∃ xs ys, SqX K b1 H a xs ∧ SqX K b2 H b ys ∧ (xs.length ≤ i ∨ ys.length ≤ i)⟩
theorem ItPos.keep {h h' : Heap} {b : Bool} {i l : Addr} {k : Nat} (x : ItPos h b i l k) (e : ∀ o, h.get? i = some o → h'.get? i = some o) : ItPos h' b i l k := by
  rcases x with ⟨q, x⟩ | ⟨q, x⟩
  · exact .inl ⟨q, x.at e⟩
  · exact .inr ⟨q, x.at e⟩
theorem SeqIt.pos {h : Heap} {b : Bool} {i l : Addr} {k : Nat} {xs : Array Value} (x : SeqIt h b i l k xs) : ItPos h b i l k := by
  rcases x with ⟨q, x, _⟩ | ⟨q, x, _⟩
  · exact .inl ⟨q, x⟩
  · exact .inr ⟨q, x⟩
theorem ItPos.obj {h : Heap} {b : Bool} {i l : Addr} {k : Nat} (x : ItPos h b i l k) : ∃ o, h.get? i = some o ∧ ∀ v, o.data ≠ .cell v := by
  rcases x with ⟨q, o, e, c, d⟩ | ⟨q, o, e, c, d⟩ <;> exact ⟨o, e, fun v z => by rw [d] at z; cases z⟩
section
variable {X : Cx} {pins : List (Addr × Obj)} {σ : St} {H : Hp} {s : Shared}
theorem Inv.sqx {b : Bool} {i l : Addr} {k : Nat} {xs : List V} (I : Inv X pins σ H s) (h : SqX X.K b H l xs) (p : ItPos s.heap b i l k) : ∃ its : List Value, Vals xs its ∧ SeqIt s.heap b i l k its.toArray := by
  rcases h with ⟨hb, h⟩ | ⟨hb, h⟩
  · obtain ⟨its, rv, pl, _⟩ := I.list h
    rcases p with ⟨_, p⟩ | ⟨hb', p⟩
    · exact ⟨its, rv, .inl ⟨hb, p, pl.isList⟩⟩
    · rw [hb] at hb'; cases hb'
  · obtain ⟨its, rv, pl, _⟩ := I.tuple h
    rcases p with ⟨hb', p⟩ | ⟨_, p⟩
    · rw [hb] at hb'; cases hb'
    · exact ⟨its, rv, .inr ⟨hb, p, pl⟩⟩
theorem Inv.sqx_inj {b : Bool} {l : Addr} {xs ys : List V} (I : Inv X pins σ H s) (h1 : SqX X.K b H l xs) (h2 : SqX X.K b H l ys) : xs = ys := by
  rcases h1 with ⟨hb, h1⟩ | ⟨hb, h1⟩ <;> rcases h2 with ⟨hb', h2⟩ | ⟨hb', h2⟩
  · exact I.list_inj h1 h2
  · rw [hb] at hb'; cases hb'
  · rw [hb] at hb'; cases hb'
  · exact I.tuple_inj h1 h2
end
theorem turn_zip {P : Program} {w : World} {K : PySem.W.Frag} {es : List Expr} {kk : Nat} {tp : Pos} {b1 b2 : Bool} {z TI TO i1 i2 l1 l2 : Addr} (D : ZipApart z TI TO i1 i2 l1 l2) :
    Turn P w K (.Tuple es kk tp) (Itz K b1 b2 l1 l2) [z, TI, TO, i1, i2] z (fun i h => IsZip h z TI TO .none ∧ IsPair h TI (.ref i1) (.ref i2) ∧ (∃ a b, IsPair h TO a b) ∧ ItPos h b1 i1 l1 i ∧ ItPos h b2 i2 l2 i) where
  mem := by simp
  obj := by
    rintro i h ⟨e1, e2, ⟨a, b, e3⟩, e4, e5⟩ c hc
    simp only [List.mem_cons, List.not_mem_nil, or_false] at hc
    rcases hc with rfl | rfl | rfl | rfl | rfl
    · exact ⟨_, e1, fun v q => by have q' : Data.fields _ = Data.cell v := q; cases q'⟩
    · exact ⟨_, e2, fun v q => by have q' : Data.seq _ _ = Data.cell v := q; cases q'⟩
    · exact ⟨_, e3, fun v q => by have q' : Data.seq _ _ = Data.cell v := q; cases q'⟩
    · exact e4.obj
    · exact e5.obj
  keep := by
    rintro i h h' ⟨e1, e2, ⟨a, b, e3⟩, e4, e5⟩ k
    exact ⟨k z (by simp) _ e1, k TI (by simp) _ e2, ⟨a, b, k TO (by simp) _ e3⟩, e4.keep fun o e => k i1 (by simp) o e, e5.keep fun o e => k i2 (by simp) o e⟩
  item := by
    intro X hP hw hK hc i pins s σ H E I hf st hg
    subst hP hw hK
    obtain ⟨xs, ys, x, y, hx, hy, ex, ey⟩ := hg
    obtain ⟨e1, e2, e3, e4, e5⟩ := st
    obtain ⟨its, rx, sx⟩ := I.sqx hx e4
    obtain ⟨jts, ry, sy⟩ := I.sqx hy e5
    obtain ⟨u, hu, ru⟩ := rx.get ex
    obtain ⟨v, hv, rv⟩ := ry.get ey
    have hZ : ZipSt s.heap b1 b2 z TI TO i1 i2 l1 l2 .none i its.toArray jts.toArray := ⟨e1, e2, e3, sx, sy⟩
    refine zip_item D hZ (x := u) (y := v) (by simpa using hu) (by simpa using hv) fun h1 Z1 pT kp => ?_
    refine ⟨_, rfl, wpAny_letOwnedTupleGo_zip (s := { s with heap := h1 }) Z1.z fun h2 z2 sb => ?_⟩
    have lz : z < s.heap.objs.size := Heap.lt_size e1
    have kp2 : ∀ b o, b ∉ [z, TO, i1, i2] → s.heap.get? b = some o → h2.get? b = some o := fun b o hb e => by
      simp only [List.mem_cons, List.not_mem_nil, or_false, not_or] at hb
      exact sb.extBut _ _ hb.1 (kp b o hb.1 hb.2.1 hb.2.2.1 hb.2.2.2 e)
    have nT : s.heap.objs.size ≠ z := Nat.ne_of_gt lz
    have pT2 : IsPair h2 s.heap.objs.size u v := sb.extBut _ _ nT pT
    have fT : H s.heap.objs.size = none := I.hok.fresh (Nat.le_refl _)
    have IN : Inv X pins σ (upd H s.heap.objs.size (.tup [x, y])) { s with heap := h2 } := I.turnedT (t' := s.toks) (ch := [z, TO, i1, i2]) kp2 (fun b hb => hf b (by
        simp only [List.mem_cons, List.not_mem_nil, or_false] at hb ⊢
        rcases hb with rfl | rfl | rfl | rfl <;> simp)) (Nat.le_refl _)
      ⟨Nat.le_of_lt (small1000 (by show 2 ≤ 1000; decide)), [u, v], .cons ru (.cons rv .nil), _, pT2, rfl, _, rfl⟩
    refine ⟨.ref s.heap.objs.size, _, IN, rfl, ⟨_, x, y, rfl, fT, rfl, fun xs' q => by rw [I.sqx_inj q hx]; exact ex, fun ys' q => by rw [I.sqx_inj q hy]; exact ey⟩,
      ⟨z2, sb.extBut _ _ D.TIz Z1.ti, let ⟨a, b, e⟩ := Z1.to; ⟨a, b, sb.extBut _ _ D.TOz e⟩, (SeqIt.pos Z1.a).keep fun o e => sb.extBut _ _ D.i1z e, (SeqIt.pos Z1.b).keep fun o e => sb.extBut _ _ D.i2z e⟩, fun b hb => ?_⟩
    have hb0 := (hf b hb).1
    have hlt : b ≠ s.heap.objs.size := by
      have ob : ∃ o, s.heap.get? b = some o := by
        obtain ⟨a', b', e3⟩ := e3
        simp only [List.mem_cons, List.not_mem_nil, or_false] at hb
        rcases hb with rfl | rfl | rfl | rfl | rfl
        · exact ⟨_, e1⟩
        · exact ⟨_, e2⟩
        · exact ⟨_, e3⟩
        · obtain ⟨o, e, _⟩ := e4.obj; exact ⟨o, e⟩
        · obtain ⟨o, e, _⟩ := e5.obj; exact ⟨o, e⟩
      obtain ⟨o, e⟩ := ob
      exact Nat.ne_of_lt (Heap.lt_size e)
    rw [upd_ne hlt]; exact hb0
  done := by
    intro X hP hw hK hc i pins s σ H E I hf st hg
    subst hP hw hK
    obtain ⟨xs, ys, hx, hy, hle⟩ := hg
    obtain ⟨e1, e2, e3, e4, e5⟩ := st
    obtain ⟨its, rx, sx⟩ := I.sqx hx e4
    obtain ⟨jts, ry, sy⟩ := I.sqx hy e5
    have lx := rx.length
    have ly := ry.length
    refine zip_done (I.ok.hd hc) D (⟨e1, e2, e3, sx, sy⟩ : ZipSt s.heap b1 b2 z TI TO i1 i2 l1 l2 .none i its.toArray jts.toArray) ?_ fun h' kp => ⟨rfl, I.turnedL (t' := s.toks) (ch := [z, TO, i1, i2]) (fun b o hb e => ?_) (fun b hb => hf b (by
        simp only [List.mem_cons, List.not_mem_nil, or_false] at hb ⊢
        rcases hb with rfl | rfl | rfl | rfl <;> simp))⟩
    · rcases hle with h | h
      · left; simp; (first | lia | omega)
      · right; simp; (first | lia | omega)
    · simp only [List.mem_cons, List.not_mem_nil, or_false, not_or] at hb
      exact kp b o hb.1 hb.2.1 hb.2.2.1 hb.2.2.2 e
  self := fun _ _ _ _ _ st h => wpAny_pyIter_zip st.1 h
section
variable {X : Cx}
noncomputable def iZip (K : PySem.W.Frag) (ta : TA) : TI := fun σ H R => ta σ H fun vs H1 => ∃ (a b : Addr) (xs ys : List V) (q : Bool), vs = [.ref a, .ref b] ∧ SqX K q H1 a xs ∧ SqL K H1 b ys ∧ R (Itz K q true a b) H1
theorem pi_zip {a b : Expr} {es : List Expr} {kk : Nat} {tp : Pos} {ta : TA} {p pos : Pos} (hg : Gl X "zip") (hm : X.mg "zip" = none) (ha : PA X [a, b] ta) (hs : starEach [a, b] X.env = [(false, eval a X.env), (false, eval b X.env)] := by rfl) (hs2 : starEach [b] X.env = [(false, eval b X.env)] := by rfl) :
    PI X (.Tuple es kk tp) (.Call (.Name "zip" p) [a, b] [] pos) (iZip X.K ta) := by
  intro pins s σ H R I h
  refine Call_ (ld_blt I hg hm PyProof.Rows.boot_zip (PyProof.Rows.callWith_type1 (thn (ha pos pins s σ H _ I h) fun us s1 ⟨vs, H1, I1, r1, q1⟩ => ?_) (by rw [hs, hs2]) (by rw [hs2]; rfl)))
  obtain ⟨a, b, xs, ys, q, e, hx, hy, hR⟩ := q1
  subst e
  cases r1 with
  | cons r rr =>
    cases rr with
    | cons r' rr =>
      cases rr
      cases r
      cases r'
      obtain ⟨jts, ry, pl2, _⟩ := I1.list hy
      have l2 : b < s1.heap.objs.size := by obtain ⟨_, e, _⟩ := pl2.isList; exact Heap.lt_size e
      have fin : ∀ h', IsZip h' (s1.heap.objs.size + 4) (s1.heap.objs.size + 2) (s1.heap.objs.size + 3) .none → IsPair h' (s1.heap.objs.size + 2) (.ref s1.heap.objs.size) (.ref (s1.heap.objs.size + 1)) →
          IsPair h' (s1.heap.objs.size + 3) .none .none → ItPos h' q s1.heap.objs.size a 0 → ItPos h' true (s1.heap.objs.size + 1) b 0 → a < s1.heap.objs.size →
          (∀ c o, s1.heap.get? c = some o → h'.get? c = some o) → wpAny (model X.prog X.w) X.A (pyIter (.ref (s1.heap.objs.size + 4))) (PIE X pins σ (.Tuple es kk tp) R) X.xe { s1 with heap := h' } := fun h' z1 z2 z3 z4 z5 l1 kp => by
        refine wpAny_pyIter_zip z1 ⟨_, [s1.heap.objs.size + 4, s1.heap.objs.size + 2, s1.heap.objs.size + 3, s1.heap.objs.size, s1.heap.objs.size + 1], _, _, H1, rfl, I1.kept (t' := s1.toks) kp, turn_zip (PyProof.Rows.zipApart_new l1 l2), ⟨z1, z2, ⟨_, _, z3⟩, z4, z5⟩, fun c hc => ?_, hR⟩
        have hge : s1.heap.objs.size ≤ c := by
          simp only [List.mem_cons, List.not_mem_nil, or_false] at hc
          rcases hc with rfl | rfl | rfl | rfl | rfl <;> (first | lia | omega)
        exact I1.fpOk hge (I1.hok.fresh hge)
      rcases hx with ⟨rfl, hx⟩ | ⟨rfl, hx⟩
      · obtain ⟨its, rx, pl1, _⟩ := I1.list hx
        have l1 : a < s1.heap.objs.size := by obtain ⟨_, e, _⟩ := pl1.isList; exact Heap.lt_size e
        exact call_zip_2 pl1.isList pl2.isList fun h' e1 e2 e3 e4 e5 _ kp => fin h' e1 e2 e3 (.inl ⟨rfl, e4⟩) (.inl ⟨rfl, e5⟩) l1 kp
      · obtain ⟨its, rx, pl1, _⟩ := I1.tuple hx
        have pt : s1.heap.IsTuple a its.toArray := pl1
        have l1 : a < s1.heap.objs.size := by obtain ⟨_, e, _⟩ := pt; exact Heap.lt_size e
        exact call_zt pt pl2.isList fun h' e1 e2 e3 e4 e5 kp => fin h' e1 e2 e3 (.inr ⟨rfl, e4⟩) (.inl ⟨rfl, e5⟩) l1 kp
end
/-! ### blocks over anything -/
section
variable {J : It} {own : List Str} {cap : List Nat} {g : TG} {tt : TT} {te : TE} {σ : St} {Z : List V → Hp → Prop} {H1 : Hp}
theorem blk_any (n : Nat) (Pv : Nat → List V → Hp → Prop) (h0 : Pv 0 [] H1) (hz : ∀ i acc H, Pv i acc H → acc.length < sizeLine) (hgo : ∀ i acc H, i < n → Pv i acc H → J.go i H) (hst : ∀ acc H, Pv n acc H → J.stop n H)
    (step : ∀ i x acc H H3 (R : List V → Hp → Prop), (∀ acc' H', Pv (i + 1) acc' H' → R acc' H') → i < n → Pv i acc H → J.yld i H x H3 → g x (capS own cap σ) H3 fun σ4 H4 => Wk (capS own cap σ) σ4 ∧ tt σ4 H4 fun b H5 =>
      if b = true then te σ4 H5 fun v H6 => R (acc ++ [v]) H6 else R acc H5)
    (hd : ∀ acc H, Pv n acc H → Z acc H) : tBlk own cap g tt te σ Z J H1 := by
  refine ⟨fun i m acc H => m = n - i ∧ i ≤ n ∧ Pv i acc H, ⟨_, rfl, Nat.zero_le _, h0⟩, ?_⟩
  rintro i m acc H ⟨rfl, hi, p⟩
  refine ⟨hz i acc H p, ?_⟩
  by_cases hlt : i < n
  · refine .inr ⟨hgo i acc H hlt p, fun x H3 yl => ?_⟩
    exact step i x acc H H3 (fun acc' H' => ∃ m', m' < n - i ∧ m' = n - (i + 1) ∧ i + 1 ≤ n ∧ Pv (i + 1) acc' H') (fun acc' H' p' => ⟨_, by (first | lia | omega), rfl, hlt, p'⟩) hlt p yl
  · have e : i = n := by (first | lia | omega)
    subst e
    exact .inl ⟨hst acc H p, hd acc H p⟩
end
/-- two names as the target -/
noncomputable def g2 (K : PySem.W.Frag) : TG := gTup K 2 (gCons (gName 0) (gCons (gName 1) gNil))
section
variable {K : PySem.W.Frag} {a b : Addr} {y1 y2 : Str} {cap : List Nat} {te : TE} {σ : St} {Z : List V → Hp → Prop} {H1 : Hp} {q : Bool}
theorem wk_two (y1 y2 : Str) (cap : List Nat) (σ : St) (x y : V) : Wk (capS [y1, y2] cap σ) (((capS [y1, y2] cap σ).set 0 (some x)).set 1 (some y)) := by
  refine ⟨by simp, fun i v e => ?_⟩
  cases i with
  | zero => cases e
  | succ i => cases i with
    | zero => cases e
    | succ i => exact e
/-- each pair by a function; the heap grows -/
theorem blk_zip {α β : Type} (ia : α → V) (ib : β → V) (f : α → β → V) {xs : List α} {ys : List β} (hxs : ∀ H, Same H1 H → SqX K q H a (xs.map ia)) (hys : ∀ H, Same H1 H → SqL K H b (ys.map ib)) (hl : xs.length = ys.length) (hz : xs.length < sizeLine)
    (he : ∀ (x : α) (y : β) (H : Hp) (Q : VK), (x, y) ∈ xs.zip ys → Same H1 H → (∀ H', Same H H' → Q (f x y) H') → te (((capS [y1, y2] cap σ).set 0 (some (ia x))).set 1 (some (ib y))) H Q)
    (hd : ∀ H, Same H1 H → Z (List.zipWith f xs ys) H) : tBlk [y1, y2] cap (g2 K) tYes te σ Z (Itz K q true a b) H1 := by
  refine blk_any xs.length (fun i acc H => acc = List.zipWith f (xs.take i) (ys.take i) ∧ Same H1 H) ⟨by simp, .refl _⟩ (fun i acc H h => ?_) (fun i acc H hi h => ?_) (fun acc H h => ?_) (fun i x acc H H3 R k hi h yl => ?_) (fun acc H h => ?_)
  · rw [h.1, List.length_zipWith, List.length_take, List.length_take]; (first | lia | omega)
  · refine ⟨_, _, ia xs[i], ib ys[i], hxs H h.2, .inl ⟨rfl, hys H h.2⟩, ?_, ?_⟩
    · rw [List.getElem?_map, List.getElem?_eq_getElem hi]; rfl
    · rw [List.getElem?_map, List.getElem?_eq_getElem (by (first | lia | omega))]; rfl
  · exact ⟨_, _, hxs H h.2, .inl ⟨rfl, hys H h.2⟩, .inl (by rw [List.length_map]; exact Nat.le_refl _)⟩
  · obtain ⟨T, u, v, rfl, hT, rfl, yx, yy⟩ := yl
    have hiy : i < ys.length := by (first | lia | omega)
    have eu := yx _ (hxs H h.2)
    have ev := yy _ (.inl ⟨rfl, hys H h.2⟩)
    rw [List.getElem?_map, List.getElem?_eq_getElem hi] at eu
    rw [List.getElem?_map, List.getElem?_eq_getElem hiy] at ev
    cases eu
    cases ev
    have sT : Same H (upd H T (.tup [ia xs[i], ib ys[i]])) := fun c o e => by rw [upd_ne (ne_of_none e hT)]; exact e
    refine ⟨T, _, rfl, .of upd_same, rfl, _, _, rfl, _, _, rfl, rfl, wk_two y1 y2 cap σ _ _, ?_⟩
    unfold tYes
    dsimp only
    rw [if_pos rfl]
    refine he xs[i] ys[i] _ _ ?_ (h.2.trans sT) (fun H' s' => k _ _ ⟨?_, h.2.trans (sT.trans s')⟩)
    · exact List.mem_iff_getElem.mpr ⟨i, by rw [List.length_zip]; (first | lia | omega), by rw [List.getElem_zip]⟩
    · rw [h.1]
      rw [List.take_add_one, List.take_add_one, List.getElem?_eq_getElem hi, List.getElem?_eq_getElem hiy]
      rw [List.zipWith_append (by rw [List.length_take, List.length_take]; (first | lia | omega))]
      rfl
  · rw [h.1]
    have e2 : ys.take xs.length = ys := by rw [hl, List.take_length]
    rw [List.take_length, e2]
    exact hd H h.2
end
end L2

set_option linter.all false
set_option maxHeartbeats 4000000
set_option maxRecDepth 100000
namespace L2
open PySem PySem.Spec PyProof.Rows
/-- == of things within things -/
inductive DEq (K : PySem.W.Frag) (H : Hp) : Nat → V → V → Bool → Prop where
  | flat {n : Nat} {x y : V} (fx : flatV x = true) (fy : flatV y = true) : DEq K H n x y (eqV x y)
  | same {n : Nat} (a : Addr) : DEq K H n (.ref a) (.ref a) true
  | lst {n : Nat} {a b : Addr} {xs ys : List V} (e : Nat → Bool) (ne : a ≠ b) (ha : SqL K H a xs) (hb : SqL K H b ys) (hl : xs.length = ys.length)
      (h : ∀ i, i < xs.length → DEq K H n (xs.getD i .non) (ys.getD i .non) (e i)) : DEq K H (n + 1) (.ref a) (.ref b) ((List.range xs.length).all e)
  | lstN {n : Nat} {a b : Addr} {xs ys : List V} (ha : SqL K H a xs) (hb : SqL K H b ys) (hl : xs.length ≠ ys.length) : DEq K H (n + 1) (.ref a) (.ref b) false
section
variable {X : Cx} {pins : List (Addr × Obj)} {σ : St} {H : Hp} {s : Shared}
theorem deq_at (I : Inv X pins σ H s) : ∀ {n : Nat} {x y : V} {b : Bool}, DEq X.K H n x y b → ∀ {A : Around} {u v : Value}, RelV x u → RelV y v → A.units + n < cLine → SeqAt.EqAt A s u v b := by
  intro n x y b d
  induction d with
  | flat fx fy => intro A u v rx ry hu; exact eqAt_V rx ry fx fy
  | same a => intro A u v rx ry hu; cases rx; cases ry; exact SeqAt.EqAt.same _
  | @lst n a b xs ys e ne ha hb hl h ih =>
    intro A u v rx ry hu
    cases rx
    cases ry
    obtain ⟨its, r1, p1, _⟩ := I.list ha
    obtain ⟨jts, r2, p2, _⟩ := I.list hb
    have l1 := r1.length
    have l2 := r2.length
    have rc := SeqAt.RcAt.lists (A := A) (e := e) p1.isList p2.isList (by simp only [List.size_toArray]; (first | lia | omega)) (by (first | lia | omega)) (fun j h1 h2 => ih j (by simp only [List.size_toArray] at h1; (first | lia | omega)) (A := A.in1) (rel_at r1 h1) (rel_at r2 h2) (by show A.units + 1 + n < cLine; (first | lia | omega)))
    rw [List.size_toArray, ← l1] at rc
    exact SeqAt.EqAt.of_refs ne rc
  | @lstN n a b xs ys ha hb hl =>
    intro A u v rx ry hu
    cases rx
    cases ry
    have ne : a ≠ b := fun z => by subst z; exact hl (by rw [I.list_inj ha hb])
    obtain ⟨its, r1, p1, _⟩ := I.list ha
    obtain ⟨jts, r2, p2, _⟩ := I.list hb
    have l1 := r1.length
    have l2 := r2.length
    exact SeqAt.EqAt.of_refs ne (SeqAt.RcAt.lists_lengths p1.isList p2.isList (by simp only [List.size_toArray, bne_iff_ne]; (first | lia | omega)) (by (first | lia | omega)))
noncomputable def rEqD (K : PySem.W.Frag) (neg : Bool) : R2 := fun x y H Q => ∃ (p b : Addr) (xs ys : List V) (n : Nat) (e : Nat → Bool), x = .ref p ∧ y = .ref b ∧ SqL K H p xs ∧ SqL K H b ys ∧ n ≤ 60 ∧
  ((xs.length = ys.length ∧ (∀ i, i < xs.length → DEq K H n (xs.getD i .non) (ys.getD i .non) (e i)) ∧ Q (.bl (if neg then !(List.range xs.length).all e else (List.range xs.length).all e)) H) ∨ (xs.length ≠ ys.length ∧ Q (.bl neg) H))
theorem op_eqD (hu : X.A.units + 64 < cLine) : OpR X (compareOp .Eq) (rEqD X.K false) := by
  intro pins s σ H x y v u Q I rx ry h
  obtain ⟨p, b, xs, ys, n, e, rfl, rfl, hp, hb, hn, alt⟩ := h
  cases rx
  cases ry
  obtain ⟨its, r1, p1, _⟩ := I.list hp
  obtain ⟨jts, r2, p2, _⟩ := I.list hb
  have l1 := r1.length
  have l2 := r2.length
  rcases alt with ⟨hl, hd, q⟩ | ⟨hl, q⟩
  · simp only [Bool.false_eq_true, if_false] at q
    refine SeqAt.eq_listAt (e := e) p1.isList p2.isList (by simp only [List.size_toArray]; (first | lia | omega)) (by (first | lia | omega)) (fun j h1 h2 => deq_at I (hd j (by simp only [List.size_toArray] at h1; (first | lia | omega))) (A := X.A.in1) (rel_at r1 h1) (rel_at r2 h2) (by show X.A.units + 1 + n < cLine; (first | lia | omega))) ?_
    rw [List.size_toArray, ← l1]
    exact ⟨.bl _, H, I, rfl, q⟩
  · refine SeqAt.eq_list_lengthsAt p1.isList p2.isList (by simp only [List.size_toArray, bne_iff_ne]; (first | lia | omega)) (by (first | lia | omega)) ?_
    exact ⟨.bl false, H, I, rfl, q⟩
theorem op_neD (hu : X.A.units + 64 < cLine) : OpR X (compareOp .NotEq) (rEqD X.K true) := by
  intro pins s σ H x y v u Q I rx ry h
  obtain ⟨p, b, xs, ys, n, e, rfl, rfl, hp, hb, hn, alt⟩ := h
  cases rx
  cases ry
  obtain ⟨its, r1, p1, _⟩ := I.list hp
  obtain ⟨jts, r2, p2, _⟩ := I.list hb
  have l1 := r1.length
  have l2 := r2.length
  rcases alt with ⟨hl, hd, q⟩ | ⟨hl, q⟩
  · simp only [if_true] at q
    refine SeqAt.RcNeAt.lists (e := e) p1.isList p2.isList (by simp only [List.size_toArray]; (first | lia | omega)) (by (first | lia | omega)) (fun j h1 h2 => deq_at I (hd j (by simp only [List.size_toArray] at h1; (first | lia | omega))) (A := X.A.in1) (rel_at r1 h1) (rel_at r2 h2) (by show X.A.units + 1 + n < cLine; (first | lia | omega))) _ _ _ _ ?_
    rw [List.size_toArray, ← l1]
    exact ⟨.bl _, H, I, rfl, q⟩
  · refine SeqAt.RcNeAt.lists_lengths p1.isList p2.isList (by simp only [List.size_toArray, bne_iff_ne]; (first | lia | omega)) (by (first | lia | omega)) _ _ _ _ ?_
    exact ⟨.bl true, H, I, rfl, q⟩
/-- max of a tuple of ints -/
theorem call_maxTup (hc : X.calm = true) : CallR X (.builtin "max") (fun xs H Q => ∃ (p : Addr) (ns : List Int), xs = [.ref p] ∧ SqT X.K H p (ns.map V.int) ∧ 0 < ns.length ∧ ∀ M, M ∈ ns → (∀ a ∈ ns, a ≤ M) → Q (.int M) H) := by
  intro pins s σ H xs us Q I r h
  obtain ⟨p, ns, rfl, hq, hne, q⟩ := h
  obtain ⟨u, rfl, rx⟩ := vals1 r
  cases rx
  have hh := I.ok.hd hc
  obtain ⟨its, rv, pl, _⟩ := I.tuple hq
  have hi := intsAre_of rv
  have hl : s.heap.IsTuple p its.toArray := pl
  obtain ⟨ol, hol, _⟩ := id hl
  have hlen : its.length = ns.length := hi.length
  refine call_max_walk (wpAny_pyIter_tuple hl ⟨s.heap.objs.size, _, _, _, _, _, fun i j => decide (ns.getD i 0 > ns.getD j 0), rfl, Walks.tuple (A := X.A.in1) hh s.heap.objs.size p (Nat.ne_of_lt (Heap.lt_size hol)) its.toArray,
    ⟨⟨_, Heap.get?_push_size _ rfl, rfl, rfl⟩, hl.at fun o e => Heap.get?_push_of_some _ e⟩, ?_, by rw [List.size_toArray]; (first | lia | omega), CmpOf.ints_gt (fun i => ns.getD i 0) (fun i v e => ints_val hi e), fun v h' tk hP hk => ?_⟩)
  · intro b hb
    show b < (s.heap.push _).objs.size
    rw [Heap.size_push]
    rcases List.mem_cons.mp hb with e | hb
    · rw [e]; exact Nat.lt_succ_self _
    · rw [List.mem_singleton.mp hb]; exact Nat.lt_succ_of_lt (Heap.lt_size hol)
  · obtain ⟨h1, h2⟩ := argBest_gt (fun i => ns.getD i 0) (its.toArray.size - 1)
    rw [List.size_toArray] at h1 h2
    obtain ⟨t, rfl⟩ := ints_val hi hP
    have hm : ∀ i, i < ns.length → ns.getD i 0 ∈ ns := fun i hi' => by rw [List.getD_eq_getElem?_getD, List.getElem?_eq_getElem hi']; exact List.getElem_mem hi'
    refine ⟨.int _, H, I.kept (t' := tk) fun b u e => hk b u (fun z => absurd (Heap.lt_size e) (by rw [List.mem_singleton.mp z]; exact Nat.lt_irrefl _)) (Heap.get?_push_of_some _ e), ⟨t, rfl⟩, q _ (hm _ (by rw [List.size_toArray]; (first | lia | omega))) fun a ha => ?_⟩
    obtain ⟨j, hj, rfl⟩ := List.mem_iff_getElem.mp ha
    have e := h2 j (by (first | lia | omega))
    have ej : ns.getD j 0 = ns[j] := by rw [List.getD_eq_getElem?_getD, List.getElem?_eq_getElem hj]; rfl
    rw [ej] at e
    rw [List.size_toArray]
    exact e
end
theorem Same.seqT {K : PySem.W.Frag} {H H' : Hp} {a : Addr} {xs : List V} (e : Same H H') (h : SqT K H a xs) : SqT K H' a xs := by
  rcases h with (h | ⟨o, h⟩) | h
  · exact .inl (.inl (e _ _ h))
  · exact .inl (.inr ⟨o, e _ _ h⟩)
  · exact .inr h
/-- four names as the target -/
noncomputable def g4 (K : PySem.W.Frag) : TG := gTup K 4 (gCons (gName 0) (gCons (gName 1) (gCons (gName 2) (gCons (gName 3) gNil))))
section
variable {K : PySem.W.Frag} {a : Addr} {y y1 y2 y3 y4 : Str} {cap : List Nat} {te : TE} {σ : St} {Z : List V → Hp → Prop} {H1 : Hp}
theorem wk_four (y1 y2 y3 y4 : Str) (cap : List Nat) (σ : St) (x1 x2 x3 x4 : V) : Wk (capS [y1, y2, y3, y4] cap σ) (((((capS [y1, y2, y3, y4] cap σ).set 0 (some x1)).set 1 (some x2)).set 2 (some x3)).set 3 (some x4)) := by
  refine ⟨by simp, fun i v e => ?_⟩
  match i with
  | 0 => cases e
  | 1 => cases e
  | 2 => cases e
  | 3 => cases e
  | i + 4 => exact e
/-- quads, each by a function; nothing changed -/
theorem blk_quads {α : Type} (adr : α → Addr) (v1 v2 v3 v4 : α → V) (f : α → V) {xs : List α} (hS : SqL K H1 a (xs.map fun x => V.ref (adr x)) ∨ SqT K H1 a (xs.map fun x => V.ref (adr x))) (hz : xs.length < sizeLine)
    (ht : ∀ x ∈ xs, SqT K H1 (adr x) [v1 x, v2 x, v3 x, v4 x])
    (he : ∀ x ∈ xs, ∀ Q : VK, Q (f x) H1 → te (((((capS [y1, y2, y3, y4] cap σ).set 0 (some (v1 x))).set 1 (some (v2 x))).set 2 (some (v3 x))).set 3 (some (v4 x))) H1 Q) (hd : Z (xs.map f) H1) :
    ((∃ xs, SqL K H1 a xs) ∧ tBlk [y1, y2, y3, y4] cap (g4 K) tYes te σ Z (Itl K a) H1) ∨ ((∃ xs, SqT K H1 a xs) ∧ tBlk [y1, y2, y3, y4] cap (g4 K) tYes te σ Z (Itt K a) H1) := by
  have stp : ∀ (i : Nat) (x : V) (acc : List V) (H : Hp) (R : List V → Hp → Prop), (∀ acc' H', (acc' = (xs.take (i + 1)).map f ∧ H' = H1) → R acc' H') → i < xs.length → (acc = (xs.take i).map f ∧ H = H1) → (xs.map fun x => V.ref (adr x))[i]? = some x →
      g4 K x (capS [y1, y2, y3, y4] cap σ) H fun σ4 H4 => Wk (capS [y1, y2, y3, y4] cap σ) σ4 ∧ tYes σ4 H4 fun b H5 => if b = true then te σ4 H5 fun v H6 => R (acc ++ [v]) H6 else R acc H5 := by
    rintro i x acc H R k hi ⟨rfl, rfl⟩ hx
    rw [List.getElem?_map, List.getElem?_eq_getElem hi] at hx
    cases hx
    have hm : xs[i] ∈ xs := List.getElem_mem hi
    refine ⟨_, _, rfl, ht _ hm, rfl, _, _, rfl, _, _, rfl, _, _, rfl, _, _, rfl, rfl, wk_four y1 y2 y3 y4 cap σ _ _ _ _, ?_⟩
    unfold tYes
    dsimp only
    rw [if_pos rfl]
    refine he _ hm _ (k _ _ ⟨?_, rfl⟩)
    rw [List.take_add_one, List.getElem?_eq_getElem hi, List.map_append]; rfl
  have len : ∀ (i : Nat) acc (H : Hp), (acc = (xs.take i).map f ∧ H = H1) → acc.length < sizeLine := by
    rintro i acc H ⟨rfl, _⟩
    rw [List.length_map, List.length_take]; (first | lia | omega)
  have fin : ∀ acc H, (acc = (xs.take xs.length).map f ∧ H = H1) → Z acc H := by
    rintro acc H ⟨rfl, rfl⟩
    rw [List.take_length]; exact hd
  have at_ : ∀ i (hi : i < xs.length), (xs.map fun x => V.ref (adr x))[i]? = some (V.ref (adr (xs[i]'hi))) := fun i hi => by rw [List.getElem?_map, List.getElem?_eq_getElem hi]; rfl
  rcases hS with h | h
  · refine .inl ⟨⟨_, h⟩, blk_any xs.length (fun i acc H => acc = (xs.take i).map f ∧ H = H1) ⟨by simp, rfl⟩ len (fun i acc H hi p => ⟨xs.map fun x => V.ref (adr x), _, p.2 ▸ h, at_ i hi⟩) (fun acc H p => ⟨xs.map fun x => V.ref (adr x), p.2 ▸ h, by rw [List.length_map]; exact Nat.le_refl _⟩) (fun i x acc H H3 R k hi p yl => ?_) fin⟩
    obtain ⟨e, yx⟩ := yl
    subst e
    exact stp i x acc _ R k hi p (yx _ (p.2 ▸ h))
  · refine .inr ⟨⟨_, h⟩, blk_any xs.length (fun i acc H => acc = (xs.take i).map f ∧ H = H1) ⟨by simp, rfl⟩ len (fun i acc H hi p => ⟨xs.map fun x => V.ref (adr x), _, p.2 ▸ h, at_ i hi⟩) (fun acc H p => ⟨xs.map fun x => V.ref (adr x), p.2 ▸ h, by rw [List.length_map]; exact Nat.le_refl _⟩) (fun i x acc H H3 R k hi p yl => ?_) fin⟩
    obtain ⟨e, yx⟩ := yl
    subst e
    exact stp i x acc _ R k hi p (yx _ (p.2 ▸ h))
/-- each item by a function; the heap grows -/
theorem blk_mapS {W : Type} (f : W → V) (inj : W → V) {ws : List W} (hS : SqL K H1 a (ws.map inj) ∨ SqT K H1 a (ws.map inj)) (hz : ws.length < sizeLine)
    (he : ∀ w ∈ ws, ∀ (H : Hp) (Q : VK), Same H1 H → (∀ H', Same H H' → Q (f w) H') → te ((capS [y] cap σ).set 0 (some (inj w))) H Q) (hd : ∀ H, Same H1 H → Z (ws.map f) H) :
    ((∃ xs, SqL K H1 a xs) ∧ tBlk [y] cap (gName 0) tYes te σ Z (Itl K a) H1) ∨ ((∃ xs, SqT K H1 a xs) ∧ tBlk [y] cap (gName 0) tYes te σ Z (Itt K a) H1) := by
  have stp : ∀ i x acc H (R : List V → Hp → Prop), (∀ acc' H', (acc' = (ws.take (i + 1)).map f ∧ Same H1 H') → R acc' H') → (ws.map inj)[i]? = some x → (acc = (ws.take i).map f ∧ Same H1 H) →
      tYes ((capS [y] cap σ).set 0 (some x)) H fun b H5 => if b = true then te ((capS [y] cap σ).set 0 (some x)) H5 fun v H6 => R (acc ++ [v]) H6 else R acc H5 := by
    rintro i x acc H R k hx ⟨rfl, hs⟩
    rw [List.getElem?_map] at hx
    cases e : ws[i]? with
    | none => rw [e] at hx; cases hx
    | some w =>
      rw [e] at hx
      cases hx
      unfold tYes
      dsimp only
      rw [if_pos rfl]
      refine he w (List.mem_of_getElem? e) _ _ hs fun H' s' => k _ _ ⟨?_, hs.trans s'⟩
      rw [List.take_add_one, e]
      simp
  have fin : ∀ acc H, (acc = (ws.take (ws.map inj).length).map f ∧ Same H1 H) → Z acc H := by
    rintro acc H ⟨rfl, h⟩
    rw [List.length_map, List.take_length]
    exact hd H h
  have len : ∀ (i : Nat) acc (H : Hp), (acc = (ws.take i).map f ∧ Same H1 H) → acc.length < sizeLine := by
    rintro i acc H ⟨rfl, _⟩
    rw [List.length_map, List.length_take]
    (first | lia | omega)
  rcases hS with h | h
  · exact .inl ⟨⟨_, h⟩, blk_list (fun i acc H => acc = (ws.take i).map f ∧ Same H1 H) ⟨by simp, .refl _⟩ (fun i acc H p => p.2.seq h) len stp fin⟩
  · exact .inr ⟨⟨_, h⟩, blk_tup (fun i acc H => acc = (ws.take i).map f ∧ Same H1 H) ⟨by simp, .refl _⟩ (fun i acc H p => p.2.seqT h) len stp fin⟩
end
section
variable {X : Cx} {K : PySem.W.Frag} {pos : Pos}
theorem pg_tupK {es : List Expr} {k : Nat} {t : TGs} {n : Nat} (eK : X.K = K) (hc : X.calm = true) (h : PGs X es t)
    (hn : (assignEach es X.env).length = n) (hst : (assignEach es X.env).findIdx? (·.1) = none) : PG X (.Tuple es k pos) (gTup K n t) := by
  subst eK; exact pg_tup hc h hn hst
end
end L2

set_option linter.all false
set_option maxHeartbeats 1000000
namespace FM
open SM
/-- a part: begin, least, most, weight -/
structure Pt where
  b : Int
  l : Int
  m : Int
  w : Int
  deriving DecidableEq
structure GoodPt (p : Pt) : Prop where
  l0 : 0 ≤ p.l
  lb : p.l ≤ p.b
  bm : p.b ≤ p.m
  m9 : p.m ≤ 9999
  w0 : 0 ≤ p.w
  w9 : p.w ≤ 9999
noncomputable def wts (ps : List Pt) (rooms : List Int) : List Int := List.zipWith (fun p r => if 0 < r then p.w else 0) ps rooms
noncomputable def given (lack : Int) (ps : List Pt) (rooms : List Int) : List Int := List.zipWith min (dueL lack (wts ps rooms)) rooms
/-- the rooms and what lacks behind k rounds -/
noncomputable def st (ps : List Pt) (lack : Int) : Nat → List Int × Int
  | 0 => (ps.map fun p => p.m - p.b, lack)
  | k + 1 => (List.zipWith (· - ·) (st ps lack k).1 (given (st ps lack k).2 ps (st ps lack k).1), (st ps lack k).2 - (given (st ps lack k).2 ps (st ps lack k).1).sum)
noncomputable def gv (ps : List Pt) (lack : Int) (k : Nat) : List Int := given (st ps lack k).2 ps (st ps lack k).1
structure Ends (ps : List Pt) (lack : Int) (i : Nat) : Prop where
  on : ∀ k, k < i → 0 < (st ps lack k).2 ∧ (gv ps lack k).sum ≠ 0
  off : ¬ 0 < (st ps lack i).2 ∨ (gv ps lack i).sum = 0
theorem Ends.uniq {ps : List Pt} {lack : Int} {i j : Nat} (a : Ends ps lack i) (b : Ends ps lack j) : i = j := by
  rcases Nat.lt_trichotomy i j with h | h | h
  · obtain ⟨h1, h2⟩ := b.on i h
    rcases a.off with z | z
    · exact absurd h1 z
    · exact absurd z h2
  · exact h
  · obtain ⟨h1, h2⟩ := a.on j h
    rcases b.off with z | z
    · exact absurd h1 z
    · exact absurd z h2
theorem wts_len {ps : List Pt} {rooms : List Int} (h : rooms.length = ps.length) : (wts ps rooms).length = ps.length := by unfold wts; rw [List.length_zipWith]; (first | lia | omega)
theorem given_len {lack : Int} {ps : List Pt} {rooms : List Int} (h : rooms.length = ps.length) : (given lack ps rooms).length = ps.length := by
  unfold given; rw [List.length_zipWith, dueL_len, wts_len h]; (first | lia | omega)
theorem st_len (ps : List Pt) (lack : Int) : ∀ k, (st ps lack k).1.length = ps.length
  | 0 => by simp [st]
  | k + 1 => by
    show (List.zipWith _ _ _).length = _
    rw [List.length_zipWith, st_len ps lack k, given_len (st_len ps lack k)]; (first | lia | omega)
theorem gv_len (ps : List Pt) (lack : Int) (k : Nat) : (gv ps lack k).length = ps.length := given_len (st_len ps lack k)
theorem mem_zipWith {α β γ : Type} {f : α → β → γ} : ∀ {xs : List α} {ys : List β} {z : γ}, z ∈ List.zipWith f xs ys → ∃ x y, x ∈ xs ∧ y ∈ ys ∧ (x, y) ∈ xs.zip ys ∧ z = f x y
  | [], _, z, h => by simp at h
  | _ :: _, [], z, h => by simp at h
  | x :: xs, y :: ys, z, h => by
    rw [List.zipWith_cons_cons] at h
    cases h with
    | head => exact ⟨x, y, .head _, .head _, .head _, rfl⟩
    | tail _ h =>
      obtain ⟨a, b, h1, h2, h3, h4⟩ := mem_zipWith h
      exact ⟨a, b, .tail _ h1, .tail _ h2, .tail _ h3, h4⟩
theorem wts_range {ps : List Pt} {rooms : List Int} (hp : ∀ p ∈ ps, GoodPt p) : ∀ w ∈ wts ps rooms, 0 ≤ w ∧ w ≤ 9999 := fun w hw => by
  obtain ⟨p, r, h1, _, _, rfl⟩ := mem_zipWith hw
  have := (hp p h1).w0
  have := (hp p h1).w9
  split <;> (first | lia | omega)
theorem min_nonneg {a b : Int} (h1 : 0 ≤ a) (h2 : 0 ≤ b) : 0 ≤ min a b := by
  rcases Int.le_total a b with h | h
  · rw [Int.min_eq_left h]; exact h1
  · rw [Int.min_eq_right h]; exact h2
theorem given_nonneg {lack : Int} {ps : List Pt} {rooms : List Int} (hl : 0 ≤ lack) (hp : ∀ p ∈ ps, GoodPt p) (hr : ∀ r ∈ rooms, (0 : Int) ≤ r) : ∀ x ∈ given lack ps rooms, (0 : Int) ≤ x := fun x hx => by
  obtain ⟨s, r, h1, h2, _, rfl⟩ := mem_zipWith hx
  exact min_nonneg (dueL_nonneg hl (fun w hw => (wts_range hp w hw).1) s h1) (hr r h2)
theorem zip_sub_nonneg : ∀ {xs ys : List Int}, (∀ (i : Nat), i < xs.length → i < ys.length → ys.getD i 0 ≤ xs.getD i 0) → ∀ z ∈ List.zipWith (· - ·) xs ys, (0 : Int) ≤ z
  | [], _, _, z, h => by simp at h
  | _ :: _, [], _, z, h => by simp at h
  | x :: xs, y :: ys, hle, z, h => by
    rw [List.zipWith_cons_cons] at h
    cases h with
    | head => have := hle 0 (by simp) (by simp); simp at this; show (0 : Int) ≤ x - y; (first | lia | omega)
    | tail _ h => exact zip_sub_nonneg (fun i h1 h2 => by have := hle (i + 1) (by simpa using h1) (by simpa using h2); simpa using this) z h
theorem zipWith_getD {f : Int → Int → Int} : ∀ {xs ys : List Int} {i : Nat}, i < xs.length → i < ys.length → (List.zipWith f xs ys).getD i 0 = f (xs.getD i 0) (ys.getD i 0)
  | [], _, i, h, _ => by simp at h
  | _ :: _, [], i, _, h => by simp at h
  | x :: xs, y :: ys, 0, _, _ => by simp
  | x :: xs, y :: ys, i + 1, h1, h2 => by
    have := zipWith_getD (f := f) (xs := xs) (ys := ys) (i := i) (by simpa using h1) (by simpa using h2)
    simpa using this
theorem min_le_r (a b : Int) : min a b ≤ b := Int.min_le_right a b
/-- rooms are never below nought, nor above 9999 -/
theorem st_range (ps : List Pt) (lack : Int) (hp : ∀ p ∈ ps, GoodPt p) (hl : 0 ≤ lack) : ∀ k, (∀ j, j < k → 0 ≤ (st ps lack j).2) → ∀ r ∈ (st ps lack k).1, (0 : Int) ≤ r
  | 0, _, r, h => by
    obtain ⟨p, hp', rfl⟩ := List.mem_map.mp h
    have := (hp p hp').bm; (first | lia | omega)
  | k + 1, hk, r, h => by
    refine zip_sub_nonneg (fun i h1 h2 => ?_) r h
    have hl1 : i < (dueL (st ps lack k).2 (wts ps (st ps lack k).1)).length := by
      unfold given at h2; rw [List.length_zipWith] at h2; (first | lia | omega)
    unfold given
    rw [zipWith_getD hl1 h1]
    exact min_le_r _ _
theorem st_top (ps : List Pt) (lack : Int) (hp : ∀ p ∈ ps, GoodPt p) (hl : 0 ≤ lack) : ∀ k, (∀ j, j < k → 0 ≤ (st ps lack j).2) → ∀ r ∈ (st ps lack k).1, r ≤ 9999
  | 0, _, r, h => by
    obtain ⟨p, hp', rfl⟩ := List.mem_map.mp h
    have := (hp p hp').m9
    have := (hp p hp').l0
    have := (hp p hp').lb; (first | lia | omega)
  | k + 1, hk, r, h => by
    obtain ⟨x, y, h1, h2, _, rfl⟩ := mem_zipWith h
    have a := st_top ps lack hp hl k (fun j hj => hk j (by (first | lia | omega))) x h1
    have b := given_nonneg (hk k (by (first | lia | omega))) hp (st_range ps lack hp hl k fun j hj => hk j (by (first | lia | omega))) y h2
    show x - y ≤ 9999
    (first | lia | omega)
/-- the sizes behind k rounds -/
noncomputable def szs (ps : List Pt) (rooms : List Int) : List Int := List.zipWith (fun p r => p.m - r) ps rooms
theorem szs_0 : ∀ (ps : List Pt), szs ps (ps.map fun p => p.m - p.b) = ps.map fun p => p.b
  | [] => rfl
  | p :: ps => by
    have := szs_0 ps
    unfold szs at this ⊢
    rw [List.map_cons, List.zipWith_cons_cons, this, List.map_cons]
    congr 1; (first | lia | omega)
theorem szs_step : ∀ (ps : List Pt) (rooms g : List Int), rooms.length = ps.length → g.length = ps.length → szs ps (List.zipWith (· - ·) rooms g) = List.zipWith (· + ·) (szs ps rooms) g
  | [], _, _, h1, h2 => by simp [szs]
  | p :: ps, r :: rooms, x :: g, h1, h2 => by
    have := szs_step ps rooms g (by simpa using h1) (by simpa using h2)
    unfold szs at this ⊢
    rw [List.zipWith_cons_cons, List.zipWith_cons_cons, List.zipWith_cons_cons, List.zipWith_cons_cons, this]
    congr 1; (first | lia | omega)
  | _ :: _, [], _, h1, _ => by simp at h1
  | _ :: _, _ :: _, [], _, h2 => by simp at h2
theorem szs_sum : ∀ (ps : List Pt) (rooms g : List Int), rooms.length = ps.length → g.length = ps.length → (szs ps (List.zipWith (· - ·) rooms g)).sum = (szs ps rooms).sum + g.sum
  | [], _, g, h1, h2 => by
    have : g = [] := List.length_eq_zero_iff.mp (by simpa using h2)
    subst this
    simp [szs]
  | p :: ps, r :: rooms, x :: g, h1, h2 => by
    have := szs_sum ps rooms g (by simpa using h1) (by simpa using h2)
    unfold szs at this ⊢
    rw [List.zipWith_cons_cons, List.zipWith_cons_cons, List.zipWith_cons_cons, List.sum_cons, List.sum_cons, List.sum_cons, this]
    (first | lia | omega)
  | _ :: _, [], _, h1, _ => by simp at h1
  | _ :: _, _ :: _, [], _, h2 => by simp at h2
theorem lack_eq (ps : List Pt) (total : Int) : ∀ k, (st ps (total - (ps.map fun p => p.b).sum) k).2 = total - (szs ps (st ps (total - (ps.map fun p => p.b).sum) k).1).sum
  | 0 => by show total - _ = total - _; rw [show (st ps (total - (ps.map fun p => p.b).sum) 0).1 = ps.map fun p => p.m - p.b from rfl, szs_0]
  | k + 1 => by
    have ih := lack_eq ps total k
    show (st ps _ k).2 - _ = total - (szs ps (List.zipWith _ _ _)).sum
    rw [szs_sum ps _ _ (st_len ps _ k) (given_len (st_len ps _ k))]
    (first | lia | omega)
/-- what is taken -/
noncomputable def above (ps : List Pt) : List Int := ps.map fun p => p.b - p.l
noncomputable def taken (total : Int) (ps : List Pt) : Int := min ((ps.map fun p => p.b).sum - total) (above ps).sum
/-- the rounds and the sizes that are due -/
inductive Fill (total : Int) (ps : List Pt) : List (List Int) → List Int → Prop where
  | none (h : (ps.map fun p => p.b).sum > total) (h0 : taken total ps = 0) : Fill total ps [] (ps.map fun p => p.b)
  | less (h : (ps.map fun p => p.b).sum > total) (h0 : taken total ps ≠ 0) : Fill total ps [dueL (taken total ps) (above ps)] (List.zipWith (· - ·) (ps.map fun p => p.b) (dueL (taken total ps) (above ps)))
  | more (i : Nat) (h : ¬ (ps.map fun p => p.b).sum > total) (e : Ends ps (total - (ps.map fun p => p.b).sum) i) : Fill total ps ((List.range i).map (gv ps (total - (ps.map fun p => p.b).sum))) (szs ps (st ps (total - (ps.map fun p => p.b).sum) i).1)
theorem Fill.uniq {total : Int} {ps : List Pt} {r r' : List (List Int)} {s s' : List Int} (a : Fill total ps r s) (b : Fill total ps r' s') : r = r' ∧ s = s' := by
  cases a with
  | none h h0 => cases b with
    | none _ _ => exact ⟨rfl, rfl⟩
    | less _ h1 => exact absurd h0 h1
    | more i h1 _ => exact absurd h h1
  | less h h0 => cases b with
    | none _ h1 => exact absurd h1 h0
    | less _ _ => exact ⟨rfl, rfl⟩
    | more i h1 _ => exact absurd h h1
  | more i h e => cases b with
    | none h1 _ => exact absurd h1 h
    | less h1 _ => exact absurd h1 h
    | more j _ e' =>
      have := e.uniq e'
      subst this
      exact ⟨rfl, rfl⟩
/-- sizes by the rounds alone -/
noncomputable def behind (sign : Int) (rows : List (List Int)) (sz : List Int) : List Int := rows.foldl (fun sz row => List.zipWith (fun s n => s + sign * n) sz row) sz
theorem zipWith_congr {f g : Int → Int → Int} (h : ∀ a b, f a b = g a b) (xs ys : List Int) : List.zipWith f xs ys = List.zipWith g xs ys := by
  have : f = g := funext fun a => funext fun b => h a b
  rw [this]
theorem behind_more (ps : List Pt) (lack : Int) : ∀ i, behind 1 ((List.range i).map (gv ps lack)) (ps.map fun p => p.b) = szs ps (st ps lack i).1
  | 0 => (szs_0 ps).symm
  | i + 1 => by
    unfold behind
    rw [List.range_succ, List.map_append, List.foldl_append]
    have ih := behind_more ps lack i
    unfold behind at ih
    rw [ih]
    show List.zipWith (fun s n => s + 1 * n) (szs ps (st ps lack i).1) (gv ps lack i) = szs ps (List.zipWith _ _ _)
    rw [szs_step ps _ _ (st_len ps lack i) (given_len (st_len ps lack i)), zipWith_congr (g := fun s n => s + n) (fun a b => by (first | lia | omega))]
    rfl
theorem Fill.behind {total : Int} {ps : List Pt} {r : List (List Int)} {s : List Int} (a : Fill total ps r s) : FM.behind (if (ps.map fun p => p.b).sum > total then -1 else 1) r (ps.map fun p => p.b) = s := by
  cases a with
  | none h h0 => rfl
  | less h h0 =>
    rw [if_pos h]
    show List.zipWith (fun s n => s + -1 * n) _ _ = _
    exact zipWith_congr (fun a b => by (first | lia | omega)) _ _
  | more i h e => rw [if_neg h]; exact behind_more _ _ _
theorem above_sum0 {ps : List Pt} (hp : ∀ p ∈ ps, GoodPt p) : ∀ x ∈ above ps, (0 : Int) ≤ x := fun x hx => by
  obtain ⟨p, h, rfl⟩ := List.mem_map.mp hx
  have := (hp p h).lb; (first | lia | omega)
theorem sum_sub : ∀ (xs ys : List Int), xs.length = ys.length → (List.zipWith (· - ·) xs ys).sum = xs.sum - ys.sum
  | [], [], _ => rfl
  | x :: xs, y :: ys, h => by
    rw [List.zipWith_cons_cons, List.sum_cons, List.sum_cons, List.sum_cons, sum_sub xs ys (by simpa using h)]; (first | lia | omega)
  | [], _ :: _, h => by simp at h
  | _ :: _, [], h => by simp at h
theorem rounds_le {ps : List Pt} {lack : Int} (hp : ∀ p ∈ ps, GoodPt p) (hl : 0 ≤ lack) : ∀ i, (∀ k, k < i → 0 < (st ps lack k).2 ∧ (gv ps lack k).sum ≠ 0) → (st ps lack i).1.sum + i ≤ (st ps lack 0).1.sum
  | 0, _ => by simp
  | i + 1, h => by
    have ih := rounds_le hp hl i fun k hk => h k (by (first | lia | omega))
    have hn : ∀ j, j < i → 0 ≤ (st ps lack j).2 := fun j hj => Int.le_of_lt (h j (by (first | lia | omega))).1
    have h1 := SM.sum_nonneg _ (given_nonneg (Int.le_of_lt (h i (by (first | lia | omega))).1) hp (st_range ps lack hp hl i hn))
    have h2 := (h i (by (first | lia | omega))).2
    have e : (st ps lack (i + 1)).1.sum = (st ps lack i).1.sum - (gv ps lack i).sum := sum_sub _ _ (by rw [st_len, given_len (st_len ps lack i)])
    have e2 : (gv ps lack i).sum = (given (st ps lack i).2 ps (st ps lack i).1).sum := rfl
    rw [e]
    rw [e2] at h2 ⊢
    (first | lia | omega)
theorem rounds_few {ps : List Pt} {lack : Int} (hp : ∀ p ∈ ps, GoodPt p) (hl : 0 ≤ lack) (hn : ps.length ≤ 60) {i : Nat} (h : ∀ k, k < i → 0 < (st ps lack k).2 ∧ (gv ps lack k).sum ≠ 0) : i ≤ 600000 := by
  have h1 := rounds_le hp hl i h
  have h2 := SM.sum_nonneg _ (st_range ps lack hp hl i fun j hj => Int.le_of_lt (h j hj).1)
  have h3 := SM.sum_le 9999 (st ps lack 0).1 (st_top ps lack hp hl 0 fun j hj => absurd hj (Nat.not_lt_zero j))
  rw [st_len] at h3
  (first | lia | omega)
theorem Fill.len {total : Int} {ps : List Pt} {r : List (List Int)} {s : List Int} (a : Fill total ps r s) : (∀ row ∈ r, row.length = ps.length) ∧ s.length = ps.length := by
  cases a with
  | none h h0 => exact ⟨fun row h => (nomatch h), by simp⟩
  | less h h0 =>
    have e : (dueL (taken total ps) (above ps)).length = ps.length := by rw [dueL_len]; unfold above; simp
    refine ⟨fun row h => by rw [List.mem_singleton.mp h]; exact e, ?_⟩
    rw [List.length_zipWith, e]; simp
  | more i h e =>
    refine ⟨fun row h => ?_, ?_⟩
    · obtain ⟨k, _, rfl⟩ := List.mem_map.mp h
      exact gv_len _ _ _
    · unfold szs
      rw [List.length_zipWith, st_len]; simp
theorem behind_len (sign : Int) : ∀ (rows : List (List Int)) (sz : List Int), (∀ row ∈ rows, row.length = sz.length) → (behind sign rows sz).length = sz.length
  | [], sz, _ => rfl
  | row :: rows, sz, h => by
    have h1 := h row (.head _)
    have e : (List.zipWith (fun s n => s + sign * n) sz row).length = sz.length := by rw [List.length_zipWith]; (first | lia | omega)
    show (behind sign rows (List.zipWith _ sz row)).length = _
    rw [behind_len sign rows _ fun r hr => by rw [e]; exact h r (.tail _ hr), e]
theorem behind_snoc (sign : Int) (rows : List (List Int)) (row sz : List Int) : behind sign (rows ++ [row]) sz = List.zipWith (fun s n => s + sign * n) (behind sign rows sz) row := by
  unfold behind; rw [List.foldl_append]; rfl
end FM


set_option linter.all false
set_option maxHeartbeats 1000000
namespace FM
open SM
theorem zeros_sum (ws : List Int) : (ws.map fun _ => (0 : Int)).sum = 0 := by
  induction ws with
  | nil => rfl
  | cons x r ih => rw [List.map_cons, List.sum_cons, ih]; rfl
section
variable {ps : List Pt} {lack : Int}
end
end FM

set_option linter.all false
set_option maxHeartbeats 4000000
set_option maxRecDepth 100000
namespace L2
open PySem PySem.Spec PyProof.Rows
/-- a list walked, with its places -/
noncomputable def Ite (K : PySem.W.Frag) (a : Addr) : It :=
  ⟨fun i H => ∃ xs x, SqL K H a xs ∧ xs[i]? = some x,
   fun i H v H' => ∃ T x, v = .ref T ∧ H T = none ∧ H' = upd H T (.tup [.int i, x]) ∧ ∀ xs, SqL K H a xs → xs[i]? = some x,
   fun i H => ∃ xs, SqL K H a xs ∧ xs.length ≤ i⟩
section
variable {X : Cx}
noncomputable def iEnum (K : PySem.W.Frag) (ta : TA) : TI := fun σ H R => ta σ H fun vs H1 => ∃ (a : Addr) (xs : List V), vs = [.ref a] ∧ SqL K H1 a xs ∧ R (Ite K a) H1
end
end L2

set_option linter.all false
namespace L2
open PySem PySem.W PyProof.Rows
/-- an exception that flies behind a call, up to the callers' frames: B holds all that was known, and all that is told -/
noncomputable def CXW (P : Program) (w : World) : CXT := fun outer H s E e s' => ∃ (a C : Addr) (a0 : Value) (H' : Hp) (B : Heap), e = .ref a ∧ s'.os = s.os ∧ AllBare s'.gens ∧ Un (frs outer) [] H H' s.heap s'.heap ∧ HOk P w H' s'.heap ∧
  Heap.FlyingW B outer a (.ref C) a0 s'.heap ∧ (∀ b o, s.heap.get? b = some o → H b = none → b ∉ frs outer → B.get? b = some o) ∧ (∀ b u o, H' b = some u → s'.heap.get? b = some o → B.get? b = some o) ∧
  (∀ b o, s.heap.get? b = some o → b ∉ frs outer → ∃ o', B.get? b = some o') ∧ E (.ref C) none H'
theorem ObjOk.is {P : Program} {w : World} {H : Hp} {h : Heap} {a : Addr} {o : HO} (x : ObjOk P w H h a o) : ∃ u, h.get? a = some u := by
  cases o with
  | lst xs => obtain ⟨_, _, _, _, e⟩ := x; exact ⟨_, e⟩
  | tup xs => obtain ⟨_, _, _, _, e, _⟩ := x; exact ⟨_, e⟩
  | dK kvs => obtain ⟨_, _, _, _, o, _, _, e, _⟩ := x; exact ⟨_, e⟩
  | dT kvs => obtain ⟨_, _, _, _, o, _, _, e, _⟩ := x; exact ⟨_, e⟩
  | set S n => obtain ⟨o, _, _, _, e, _⟩ := x; exact ⟨_, e⟩
  | ins C dx fs => obtain ⟨_, _, _, e, _⟩ := x; exact ⟨_, e⟩
  | own y => obtain ⟨_, e⟩ := x; exact ⟨_, e⟩
  | xd fs => obtain ⟨_, ⟨_, _, _, e, _⟩, _⟩ := x; exact ⟨_, e⟩
  | rng lo hi => obtain ⟨_, _, _, e⟩ := x; exact ⟨_, e⟩
  | frz ob u => obtain ⟨e, _⟩ := x; exact ⟨_, e⟩
  | tbl ps => exact ⟨_, (show h.get? a = some _ from x)⟩
  | met f y => exact ⟨_, (show h.get? a = some _ from x)⟩
  | ext φ => obtain ⟨_, e, _⟩ := x; exact e
theorem cxw_of {P : Program} {w : World} {outer : List Env} {H H' : Hp} {s s' : Shared} {g B : Heap} {E : XK} {a C : Addr} {a0 : Value} (un : Un (frs outer) [] H H' s.heap g) (hok : HOk P w H' g) (up : g.UpToSlots s'.heap)
    (fl : Heap.FlyingW B outer a (.ref C) a0 s'.heap) (fr : ∀ b ∈ frs outer, ∃ o, g.get? b = some o ∧ ∀ vs, o.data ≠ .fields vs)
    (c1 : ∀ b o, s.heap.get? b = some o → H b = none → b ∉ frs outer → B.get? b = some o) (c2 : ∀ b u o, H' b = some u → g.get? b = some o → B.get? b = some o)
    (c3 : ∀ b o, s.heap.get? b = some o → b ∉ frs outer → ∃ o', B.get? b = some o') (os : s'.os = s.os) (bare : AllBare s'.gens) (e : E (.ref C) none H') : CXW P w outer H s E (.ref a) s' := by
  refine ⟨a, C, a0, H', B, rfl, os, bare, ⟨fun b o q n hb _ => fl.1 b o (c1 b o q n hb), fun b o q n hb hx => ?_, un.free, fun b o q hx => ?_, un.tups, un.frzs, un.tbls⟩,
    fun b u q => (hok b u q).stay (fun c v hc r => fl.1 c v ?_) (fun _ z => z) fun _ _ z => z, fl, c1, fun b u o q r => ?_, c3, e⟩
  · obtain ⟨sl, h1⟩ := un.slot b o q n hb hx
    obtain ⟨o1, h2, h3⟩ := fr b hb
    rw [h1] at h2
    cases h2
    obtain ⟨sl2, h4⟩ := up b _ h1 h3
    exact ⟨sl2, h4⟩
  · by_cases hb : b ∈ frs outer
    · obtain ⟨o1, h2, h3⟩ := fr b hb
      obtain ⟨sl2, h4⟩ := up b _ h2 h3
      exact ⟨_, h4⟩
    · obtain ⟨o', h1⟩ := c3 b o q hb
      exact ⟨o', fl.1 b o' h1⟩
  · rcases hc with rfl | hc
    · exact c2 _ _ _ q r
    · exact c2 _ _ _ hc r
  · obtain ⟨o1, h1⟩ := (hok b u q).is
    have h2 := c2 b u o1 q h1
    have h3 := fl.1 b o1 h2
    rw [r] at h3
    cases h3
    exact h2
section
variable {P : Program} {w : World} {K : PySem.W.Frag} {mg : Str → Option Value} {base : Heap} {N : List Str} {qual : Str} {scope : Scope} {f : Addr} {cd : Value} {A : Around} {outer : List Env} {s : Shared} {H : Hp} {E : XK}
theorem frs_cons {b : Addr} {n : Addr} : b ∈ frs (envOfC qual scope n f cd :: outer) ↔ b = n ∨ b ∈ frs outer := by
  unfold frs
  rw [List.filterMap_cons]
  show b ∈ n :: _ ↔ _
  exact List.mem_cons
/-- what a callee raises goes on -/
theorem passW {E' : XK} (hE : ∀ c x H', E' c x H' → E c x H') : Passes (CXW P w) (cxOf (CXW P w) P w K mg base N qual scope f cd A outer s H E) E' := by
  rintro pins σ H1 s1 e s' I ⟨a, C, a0, H', B, rfl, os, bare, un, hok, fl, c1, c2, c3, ee⟩
  have J : Inv (cxOf (CXW P w) P w K mg base N qual scope f cd A outer s H E) pins σ H' s' := I.call' os un hok bare fun b z => absurd z (by simp)
  have lt : ∀ b o, s.heap.get? b = some o → b ∉ frs outer → b ∉ frs (envOfC qual scope s.heap.objs.size f cd :: outer) := fun b o q hb z => by
    rcases frs_cons.mp z with z | z
    · rw [z] at q; exact absurd (Heap.lt_size q) (Nat.lt_irrefl _)
    · exact hb z
  show wpAny (model P w) (A.deeper (envOfC qual scope s.heap.objs.size f cd)) (leaving (envOfC qual scope s.heap.objs.size f cd) (.ref a)) _ _ s'
  refine wpAny_leaves_onW I.ok.frames rfl fl fun h' fl' up => ?_
  refine cxw_of (s' := { s' with heap := h' }) (g := s'.heap) J.base hok up fl' (fun b hb => (fl.2.2.1.mem (frs_cons.mpr (.inr hb))).2) (fun b o q n hb => ?_) c2 (fun b o q hb => ?_) J.os bare (hE _ _ _ ee)
  · exact c1 b o (I.base.keep b o q n hb (by simp [cxOf])) (I.base.free b o q n (by simp [cxOf])) (lt b o q hb)
  · obtain ⟨o1, h1⟩ := I.base.there b o q (by simp [cxOf])
    exact c3 b o1 h1 (lt b o q hb)
/-- an exception made here leaves -/
theorem raiseW {pins : List (Addr × Obj)} {σ : St} {H1 : Hp} {s1 : Shared} {a C : Addr} {args : List Value} {h1 : Heap} (I : Inv (cxOf (CXW P w) P w K mg base N qual scope f cd A outer s H E) pins σ H1 s1)
    (mk : Heap.MadeExcOf s1.heap h1 a (.ref C) args) (e : E (.ref C) none H1) : (cxOf (CXW P w) P w K mg base N qual scope f cd A outer s H E).xe (.ref a) { s1 with heap := h1 } := by
  have hin : ∀ env ∈ (envOfC qual scope s.heap.objs.size f cd :: outer), ∀ b, env.frame = some b → b ∈ frs (envOfC qual scope s.heap.objs.size f cd :: outer) := fun env he b hb => List.mem_filterMap.mpr ⟨env, he, hb⟩
  have lt : ∀ b o, s.heap.get? b = some o → b ∉ frs outer → b ∉ frs (envOfC qual scope s.heap.objs.size f cd :: outer) := fun b o q hb z => by
    rcases frs_cons.mp z with z | z
    · rw [z] at q; exact absurd (Heap.lt_size q) (Nat.lt_irrefl _)
    · exact hb z
  have hst : s1.heap.FunFrames base (envOfC qual scope s.heap.objs.size f cd :: outer) := I.stack
  show wpAny (model P w) (A.deeper (envOfC qual scope s.heap.objs.size f cd)) (leaving (envOfC qual scope s.heap.objs.size f cd) (.ref a)) _ _ { s1 with heap := h1 }
  refine wpAny_leaves_madeW (base := hideAll s1.heap (frs (envOfC qual scope s.heap.objs.size f cd :: outer))) I.ok.frames rfl (fun b o q => of_hideAll _ q) (funFrames_hide hst hin) mk fun h' t fl _ _ up => ?_
  refine cxw_of (s' := { s1 with heap := h' }) (g := s1.heap) I.base I.hok ((Heap.UpToSlots.of_keeps mk.keeps).trans up) fl (fun b hb => (hst.mem (frs_cons.mpr (.inr hb))).2) (fun b o q n hb => ?_) (fun b u o q r => ?_) (fun b o q hb => ?_) I.os I.bare e
  · exact hideAll_get _ (I.base.keep b o q n hb (by simp [cxOf])) (lt b o q hb)
  · refine hideAll_get _ r fun z => ?_
    have := I.stkFree b z
    rw [q] at this; cases this
  · obtain ⟨o1, h2⟩ := I.base.there b o q (by simp [cxOf])
    exact ⟨o1, hideAll_get _ h2 (lt b o q hb)⟩
end
end L2

set_option linter.all false
namespace L2
open PySem PySem.W PyProof.Rows
/-- an own exception's class, as the fragment shows it -/
theorem own_in {K : Frag} {h : Heap} {mg : Str → Option Value} {x : Str} {C : Addr} {bmB : List Value} {newId : String} (X : K.In h) (e : mg x = some (.ref C)) (q : excIn K C bmB newId = true) : OwnCls x C bmB newId mg h := by
  refine ⟨e, ?_⟩
  rw [excIn] at q
  cases hl : K.lookup C with
  | none => rw [hl] at q; cases q
  | some ob =>
    rw [hl] at q
    obtain ⟨oc, odd, odt, ⟨l⟩⟩ := ob
    split at q
    · rename_i eq0
      cases eq0
      rename_i cd
      split at q
      · rename_i z1 z2 z3 z4 z5 z6 z7 z8 hm hs
        simp only [Bool.and_eq_true, beq_iff_eq, Bool.not_eq_true'] at q
        have hs' : l = [z3, z4, z5, z6, some (.builtin z7), z8] := hs
        obtain ⟨⟨⟨⟨⟨rfl, rfl⟩, hdel⟩, ht⟩, hok⟩, hni⟩ := q
        cases cd
        dsimp only at hm hdel hok hni
        subst hm hdel hs'
        exact ⟨_, _, _, _, _, _, _, _, _, _, _, _, _, _, _, _, _, X _ _ hl, .of_isNs (isNs_of_in X hok), nsMap_none_of_in X hok hni, tail_of_in X ht⟩
      · cases q
    · cases q
/-- what this body wants of an exception that it makes -/
noncomputable def RaisesTo (X : Cx) (E : XK) : Prop := ∀ (pins : List (Addr × Obj)) (σ : St) (H1 : Hp) (s1 : Shared) (a C : Addr) (args : List Value) (h1 : Heap), Inv X pins σ H1 s1 → Heap.MadeExcOf s1.heap h1 a (.ref C) args → E (.ref C) none H1 → X.xe (.ref a) { s1 with heap := h1 }
theorem raisesW {P : Program} {w : World} {K : PySem.W.Frag} {mg : Str → Option Value} {base : Heap} {N : List Str} {qual : Str} {scope : Scope} {f : Addr} {cd : Value} {A : Around} {outer : List Env} {s : Shared} {H : Hp} {E : XK} :
    RaisesTo (cxOf (CXW P w) P w K mg base N qual scope f cd A outer s H E) E := fun _ _ _ _ _ _ _ _ I mk e => raiseW I mk e
/-- raise C(..), C an own exception -/
noncomputable def tRaise (E : XK) (C : Addr) (ta : TA) : TS := fun _ σ H => ta σ H fun _ H1 => E (.ref C) none H1
theorem ps_raise {X : Cx} {E : XK} {x : Str} {C : Addr} {bmB : List Value} {newId : String} {e : Expr} {es : List Expr} {ta : TA} {np cpos pos : Pos} {B Bn nid initId inN : String} {bmN : List Value}
    (hE : RaisesTo X E) (hc : X.calm = true) (hg : Gl X x) (hm : X.mg x = some (.ref C)) (hq : excIn X.K C bmB newId = true) (Fn : ExcBaseFacts Bn newId inN bmN) (FB : ExcBaseFacts B nid initId bmB) (hBn : bmB.contains (.type Bn) = true)
    (hn : (e :: es).length ≤ 1000) (ha : PA X (e :: es) ta) (hlen : ∀ σ H Q, ta σ H Q → ta σ H fun vs H1 => vs.length ≤ sizeLine ∧ Q vs H1) (hd : (x == ("__debug__" : Str)) = false := by decide)
    (he : starEach (e :: es) X.env = (false, eval e X.env) :: starEach es X.env := by rfl) (hplain : (backTo cpos (starEach es X.env)).any (·.1) = false := by rfl) :
    PS X (.Raise (some (.Call (.Name x np) (e :: es) [] cpos)) none pos) (tRaise E C ta) := by
  intro pins s σ H D I h
  have O : ∀ h, X.K.In h → OwnCls x C bmB newId X.mg h := fun h k => own_in k hm hq
  obtain ⟨tl, N, nm, q, bs, hdct, sn, sub, ab, col, dd, k0, k1, k2, k3, k5, mN, hC, hN, hni, T⟩ := (O _ I.ok.mod.kin).obj
  refine wpAny_Raise_call_subU (C := C) (nm := nm) (q := q) (N := N) (bs := bs) (bm := tl) (hdct := hdct) (sn := sn) (sub := sub) (ab := ab) (col := col) (dd := dd) (k0 := k0) (k1 := k1) (k2 := k2) (k3 := k3) (k5 := k5)
    Fn hBn FB (mN := mN) (T.hasType FB.hasBase) (I.ok.hd hc) (by rw [he]; show (false || (backTo cpos (starEach es X.env)).any (·.1)) = false; rw [hplain]; rfl) hni (ld_glob I hg hm ⟨rfl, ?_⟩ hd)
  have h2 := ha cpos pins s σ H _ I (hlen _ _ _ h)
  rw [he] at h2 ⊢
  refine Calls.evalArgs_plain (wpAny_mono h2 (fun vs s₂ h₃ => ?_) fun _ _ y => y)
  obtain ⟨zs, H1, I1, r, hl, ee⟩ := h₃
  exact ⟨rfl, by rw [← r.length]; exact hl, I1.bk _ _ hC, hN.keeps I1.bk, T.keeps I1.bk, fun h' a mk => hE pins σ H1 s₂ a C vs h' I1 mk ee⟩
end L2

set_option linter.all false
namespace L2
open PySem PySem.W PyProof.Rows
/-- a def whose exceptions are told -/
theorem Fun.okW {P : Program} {w : World} {K : PySem.W.Frag} {mg : Str → Option Value} {base : Heap} {x qual : Str} {st : Stmt} {f : Addr} {fd : FuncData} {N ps : List Str} {k : Nat} {sp : Sp} (F : Fun K x qual st f fd) (S : FnScope N ps (defScope st)) (len : ∀ vs H Q E, sp vs H Q E → vs.length = ps.length)
    (hbody : ∀ (cdv : Value) (A : Around) (outer : List Env) (s : Shared) (H : Hp) (vs : List V) (Q : VK) (E : XK), Room k (A.deeper (envOfC qual (defScope st) s.heap.objs.size f cdv)) → sp vs H Q E →
      ∃ t, PSs (cxOf (CXW P w) P w K mg base N qual (defScope st) f cdv A outer s H E) (defBody st) t ∧ t { nx := fun _ H' => Q .non H', rt := Q } (start N vs) H) : FnOk P w K mg base (CXW P w) (k + 1) f fd ps sp := by
  obtain ⟨oc, od, kV, doc, pm, an, cdv, ct, osl, rfl, lk, hcd⟩ := F.ex
  exact fn_of lk hcd S len fun A outer s H vs Q E hr hsp => hbody cdv A outer s H vs Q E hr hsp
section
variable {X : Cx} {pins : List (Addr × Obj)} {σ : St} {H H' H1 : Hp} {s s' s1 : Shared}
/-- the callee runs, whatever is wanted of its exceptions -/
theorem run_fnE {CX : CXT} {k : Nat} {f : Addr} {fd : FuncData} {ps : List Str} {sp : Sp} {dvs : List V} {ds : List Value} {E : XK} {Q : VK} {us : List Value} {vs : List V} {xe : Value → Shared → Prop} (F : FnOk X.prog X.w X.K X.mg X.base CX k f fd ps sp) (hr : Room k X.A) (hb : Binds X.K fd ps ds) (hd : Vals dvs ds)
    (I : Inv X pins σ H s) (r : Vals vs us) (h : sp (vs ++ dvs) H Q E) (hx : ∀ e s', CX X.stack H s E e s' → xe e s') : wpAny (model X.prog X.w) X.A (call (.ref f) us) (EP X pins σ Q) xe s := by
  have r2 := r.append hd
  refine wpAny_call (codeAny_mono (F.run X.A X.stack s H ⟨us, []⟩ _ _ Q E hr I.env0 (hb s us I.kIn (r2.length ▸ F.len _ _ _ _ h)) r2 h) fun res s' hq => ?_)
  match res, hq with
  | .error e, hq => exact hx e s' hq
  | .ok (.ret u), hq => exact I.after hq
  | .ok .next, hq => exact hq.elim
  | .ok .brk, hq => exact hq.elim
  | .ok .cont, hq => exact hq.elim
/-- an exception object -/
noncomputable abbrev excO (a C : Addr) : HO := .ext fun h => ∃ oe ws, h.get? a = some oe ∧ oe.cls = .ref C ∧ oe.data = .fields ws
/-- a record that came with a call is told from here on -/
theorem Inv.adopt {a C : Addr} {oe : Obj} {ws : Array Value} (I1 : Inv X pins σ H1 s1) (n1 : s1.heap.get? a = none) (hex : a ∉ X.ex) (I : Inv X pins σ H s) (n : H a = none) (e : s.heap.get? a = some oe) (hc : oe.cls = .ref C) (hd : oe.data = .fields ws) :
    Inv X pins σ (upd H a (excO a C)) s := by
  have n0 : ∀ o, X.s₀.heap.get? a ≠ some o := fun o q => by
    obtain ⟨o', h⟩ := I1.base.there a o q hex
    rw [n1] at h; cases h
  have ne : ∀ {b : Addr} {u : HO}, H b = some u → b ≠ a := fun q z => by rw [z, n] at q; cases q
  refine ⟨I.ok, I.os, I.bare, ⟨I.base.keep, I.base.slot, fun b o q m hx => ?_, I.base.there, fun b xs q => ?_, fun b o u q => ?_, fun b ps q => ?_⟩, I.loc, I.cell, ?_, fun x c q => ?_, fun p hp => ?_, fun b u q => ?_, I.len⟩
  · have hba : b ≠ a := fun z => by subst z; exact n0 o q
    rw [upd_ne hba]; exact I.base.free b o q m hx
  · have h := I.base.tups b xs q; rw [upd_ne (ne h)]; exact h
  · have h := I.base.frzs b o u q; rw [upd_ne (ne h)]; exact h
  · obtain ⟨more, h⟩ := I.base.tbls b ps q; exact ⟨more, by rw [upd_ne (ne h)]; exact h⟩
  · rw [upd_ne (fun z => ?_)]
    · exact I.free
    · obtain ⟨m, ⟨o, es, ep, ho, hdd, _⟩, _⟩ := I.loc
      rw [z, e] at ho; cases ho; rw [hd] at hdd; cases hdd
  · rw [upd_ne (fun z => ?_)]
    · exact I.freeC x c q
    · obtain ⟨v, o, ho, hdd⟩ := I.cell x c q
      rw [z, e] at ho; cases ho; rw [hd] at hdd; cases hdd
  · obtain ⟨p1, p2, p3, p4, p5⟩ := I.pin p hp
    refine ⟨p1, ?_, p3, p4, p5⟩
    rw [upd_ne (fun z => ?_)]
    · exact p2
    · have := (I1.pin p hp).1; rw [z, n1] at this; cases this
  · by_cases hb : b = a
    · subst hb
      rw [upd_same] at q; cases q
      refine ⟨⟨oe, ws, e, hc, hd⟩, ⟨oe, e⟩, fun h1 h2 ⟨o1, w1, a1, a2, a3⟩ k => ⟨o1, w1, k _ a1, a2, a3⟩⟩
    · rw [upd_ne hb] at q
      exact (I.hok b u q).stay (fun c v _ r => r) (fun c r => by rw [upd_ne (ne r)]; exact r) fun c xs r => by rw [upd_ne (ne r)]; exact r
/-- what flies is none of what was there -/
theorem CXW.new {P : Program} {w : World} {outer : List Env} {E : XK} {a C : Addr} {a0 : Value} {B : Heap} (hok : HOk P w H' s'.heap) (fl : Heap.FlyingW B outer a (.ref C) a0 s'.heap)
    (c2 : ∀ b u o, H' b = some u → s'.heap.get? b = some o → B.get? b = some o) (c3 : ∀ b o, s.heap.get? b = some o → b ∉ frs outer → ∃ o', B.get? b = some o') : H' a = none ∧ s.heap.get? a = none ∧ ∃ oe ws, s'.heap.get? a = some oe ∧ oe.cls = .ref C ∧ oe.data = .fields ws := by
  obtain ⟨oe, ws, he, hc, hd, _⟩ := fl.first
  refine ⟨?_, ?_, oe, ws, he, hc, hd⟩
  · cases q : H' a with
    | none => rfl
    | some u =>
      have := c2 a u oe q he
      rw [fl.2.1] at this; cases this
  · cases q : s.heap.get? a with
    | none => rfl
    | some o =>
      have nf : a ∉ frs outer := fun z => by
        obtain ⟨_, o1, h1, h2⟩ := fl.2.2.1.mem z
        rw [he] at h1; cases h1; exact h2 _ hd
      obtain ⟨o', h⟩ := c3 a o q nf
      rw [fl.2.1] at h; cases h
end
end L2

set_option linter.all false
namespace L2
open PySem PySem.W PyProof.Rows
section
variable {M : Model} {A : Around} {E : Value → Shared → Prop}
variable {nm q : Str} {C N : Addr} {bs bm : List Value} {hdct : Bool} {sn : List Str} {sub : List Value} {ab : Bool} {col : Option Bool} {dd : Option Addr} {k0 k1 k2 k3 k5 : Option Value} {newId : String}
variable {nm' q' : Str} {C0 N' : Addr} {bs' bm0 : List Value} {hdct' : Bool} {sn' : List Str} {sub' : List Value} {ab' : Bool} {col' : Option Bool} {dd' : Option Addr} {j0 j1 j2 j3 j5 : Option Value} {newId' : String}
/-- an own class catches what is of a class below it -/
theorem excMatches_below {h : Heap} {g : Array GenState} {d : Drawn} {t : Nat} {os : OsState} {e : Addr} {oe : Obj} {Q : Bool → Shared → Prop}
    (hC : h.get? C = some (excClassObj nm q C N bs bm hdct sn sub ab col dd k0 k1 k2 k3 k5 newId)) (hC0 : h.get? C0 = some (excClassObj nm' q' C0 N' bs' bm0 hdct' sn' sub' ab' col' dd' j0 j1 j2 j3 j5 newId')) (he : h.get? e = some oe) (hcls : oe.cls = .ref C)
    (hbase : bm0.contains (.type "BaseException") = true) (hin : (Value.ref C :: bm).contains (.ref C0) = true) (hq : Q true ⟨h, g, d, t, os⟩) : wpAny M A (excMatches (.ref e) (.ref C0)) Q E ⟨h, g, d, t, os⟩ := by
  have hcB : (Value.ref C0 :: bm0).contains (.type "BaseException") = true := by rw [List.contains_cons, hbase, Bool.or_true]
  have f := tc_notTuple
  unfold excMatches
  repeat (first | (with_reducible refine wpAny_loadPart_at he ?_; rw [hcls]) | with_reducible refine wpAny_loadPart_at hC0 ?_ | (with_reducible refine wpAny_isSubtype_exc hC0 ?_; rw [hcB]) | (with_reducible refine wpAny_isSubtype_exc hC ?_; rw [hin]) | wp_step)
  exact hq
end
section
variable {X : Cx} {pins : List (Addr × Obj)} {σ : St} {H : Hp} {s : Shared}
/-- behind a suite with `as` its name is gone -/
theorem goes_ok {M : Model} {A : Around} {E : Value → Shared → Prop} {i : Nat} {n : Str} {pos : Pos} {Q : Unit → Shared → Prop} (I : Inv X pins σ H s) (hN : X.N.Nodup) (hi : X.N[i]? = some n) (hk : X.env.kindOf n = some .local)
    (h : ∀ s', Inv X pins (σ.set i none) H s' → Q () s') : wpAny M A (do bindName X.env n .none; unbindBehindTheSuite X.env n pos) Q E s := by
  obtain ⟨m, hn, hl⟩ := id I.loc
  have up : ∀ {b : Addr} {o : Obj}, X.s₀.heap.get? b = some o → b ≠ X.env.locals := fun e => Nat.ne_of_lt (Nat.lt_of_lt_of_le (Heap.lt_size e) I.ok.above)
  refine wpAny_nameGoes_keeps hk hn (by rw [I.ok.kind]; rfl) fun h' v hn' hs => h _ ?_
  have kp : ∀ {b : Addr} {o : Obj}, b ≠ X.env.locals → s.heap.get? b = some o → h'.get? b = some o := fun nb e => (hs.2 _ nb).trans e
  have nl : ∀ {b : Addr} {u : HO}, H b = some u → b ≠ X.env.locals := fun q z => by rw [z, I.free] at q; cases q
  refine ⟨I.ok, I.os, I.bare, ⟨fun b o e q hb hx => kp (up e) (I.base.keep b o e q hb hx), fun b o e q hb hx => ?_, I.base.free, fun b o e hx => ?_, I.base.tups, I.base.frzs, I.base.tbls⟩, ⟨_, hn', fun j y v' e1 e2 e3 => ?_⟩, fun y c e => ?_, I.free, I.freeC, fun p hp => ?_,
    fun b u q => (I.hok b u q).stay (fun c w' hc r => kp ?_ r) (fun _ z => z) fun _ _ z => z, by simpa using I.len⟩
  · obtain ⟨sl, e1⟩ := I.base.slot b o e q hb hx
    exact ⟨sl, kp (up e) e1⟩
  · obtain ⟨o', e1⟩ := I.base.there b o e hx
    exact ⟨o', kp (up e) e1⟩
  · have hj : j ≠ i := fun z => by
      subst z
      by_cases hlt : j < σ.length
      · rw [List.getElem?_set_self hlt] at e2; cases e2
      · rw [List.getElem?_eq_none (by rw [List.length_set]; (first | lia | omega))] at e2; cases e2
    rw [List.getElem?_set_ne (Ne.symm hj)] at e2
    obtain ⟨u', r', q⟩ := hl j y v' e1 e2 e3
    refine ⟨u', r', ?_⟩
    rcases q with ⟨k, e⟩ | ⟨k, c, e, z⟩
    · refine .inl ⟨k, ?_⟩
      have : y ≠ n := fun e => hj (nodup_ix hN e1 (e ▸ hi))
      simp [this, e]
    · exact .inr ⟨k, c, e, z.sameBut hs (I.cne y c e)⟩
  · obtain ⟨w', z⟩ := I.cell y c e
    exact ⟨w', z.sameBut hs (I.cne y c e)⟩
  · obtain ⟨p1, p2, p3, p4, p5⟩ := I.pin p hp
    exact ⟨kp p3 p1, p2, p3, p4, p5⟩
  · rcases hc with rfl | hc
    · exact nl q
    · exact nl hc
/-- the context of a suite that handles the exception at a -/
noncomputable abbrev Cx.held (X : Cx) (a : Addr) : Cx := { X with A := X.A.mark (some (.ref a)), calm := false, xe := fun _ _ => False }
theorem Inv.hold (I : Inv X pins σ H s) (a : Addr) : Inv (X.held a) pins σ H s :=
  ⟨⟨I.ok.mod, I.ok.kind, I.ok.glob, I.ok.blt, I.ok.above, I.ok.inj, I.ok.has, I.ok.cab, (fun z => nomatch z), I.ok.frames, I.ok.stk, I.ok.exf, I.ok.bs, I.ok.bsz, I.ok.noex, I.ok.exfs, I.ok.funs, I.ok.frf⟩, I.os, I.bare, I.base, I.loc, I.cell, I.free, I.freeC, I.pin, I.hok, I.len⟩
theorem Inv.unhold {a : Addr} (ok : X.Ok) (I : Inv (X.held a) pins σ H s) : Inv X pins σ H s := ⟨ok, I.os, I.bare, I.base, I.loc, I.cell, I.free, I.freeC, I.pin, I.hok, I.len⟩
end
end L2

set_option linter.all false
set_option maxRecDepth 100000
namespace L2
open PySem PySem.W PyProof.Rows
theorem CXW.step {P : Program} {w : World} {outer : List Env} {H : Hp} {s s' : Shared} {E : XK} {a : Addr} (c : CXW P w outer H s E (.ref a) s') :
    ∃ B C a0, Heap.FlyingW B outer a (.ref C) a0 s'.heap ∧ ∀ h', Heap.FlyingW B outer a (.ref C) a0 h' → s'.heap.UpToSlots h' → CXW P w outer H s E (.ref a) { s' with heap := h' } := by
  obtain ⟨a1, C, a0, H', B, e1, os, bare, un, hok, fl, c1, c2, c3, ee⟩ := c
  cases e1
  exact ⟨B, C, a0, fl, fun h' fl' up => cxw_of (s' := { s' with heap := h' }) un hok up fl' (fun b hb => (fl.2.2.1.mem hb).2) c1 c2 c3 os bare ee⟩
/-- the class at C is the one at C0 or below it -/
noncomputable def belowIn (K : Frag) (C C0 : Addr) : Bool := match K.lookup C with
  | some ⟨_, _, .cls cd, _⟩ => cd.mro.contains (.ref C0)
  | _ => false
/-- try: f(..) except C0 as the i-th name: .. -/
noncomputable def tTry (sp : Sp) (K : Frag) (C0 : Addr) (i : Nat) (t : TA) (ts : TS) : TS := fun D σ H => t σ H fun vs H1 => sp vs H1 (fun _ H2 => D.nx σ H2) fun cls _ H2 => ∃ C bm nid, cls = .ref C ∧ excIn K C bm nid = true ∧ belowIn K C C0 = true ∧
  ∀ a, H2 a = none → ts { nx := fun σ' H' => D.nx (σ'.set i none) H', rt := D.rt, bk := fun σ' H' => D.bk (σ'.set i none) H', ct := fun σ' H' => D.ct (σ'.set i none) H' } (σ.set i (some (.ref a))) (upd H2 a (excO a C))
section
variable {X : Cx} {k : Nat} {f : Addr} {fd : FuncData} {ps : List Str} {sp : Sp} {x c n : Str} {p cpos epos np hpos pos : Pos} {e : Expr} {es : List Expr} {b₀ : Stmt} {suite : List Stmt} {t : TA} {ts : TS} {i : Nat} {C0 : Addr} {bmB : List Value} {newId : String}
theorem ps_try (F : FnOk X.prog X.w X.K X.mg X.base (CXW X.prog X.w) k f fd ps sp) (hr : Room k X.A) (hg : Gl X x) (hm : X.mg x = some (.ref f)) (hk : PySem.W.keepIn X.K (.ref f) = true) (hb : Binds X.K fd ps []) (ha : PA X.nox (e :: es) t)
    (hstk : X.stack = X.env :: X.outer) (hfr : X.env.frame = some X.env.locals) (hex : X.ex = [])
    (hgc : Gl X c) (hmc : X.mg c = some (.ref C0)) (hq0 : excIn X.K C0 bmB newId = true) (hbB : bmB.contains (.type "BaseException") = true) (hN : X.N.Nodup) (hi : X.N[i]? = some n) (hl : X.env.kindOf n = some .local) (hln : X.env.scope.names.lookup n = some .local)
    (hs : ∀ a, PSs (X.held a) (b₀ :: suite) ts) (hdb : (x == ("__debug__" : Str)) = false := by decide) (hdc : (c == ("__debug__" : Str)) = false := by decide)
    (he : starEach (e :: es) X.env = (false, eval e X.env) :: starEach es X.env := by rfl) (hpl : (backTo cpos (starEach es X.env)).any (·.1) = false := by rfl)
    (hsw : swapsWith (.Call (.Name x p) (e :: es) [] cpos) none epos.line X.env = pure false := by rfl) :
    PS X (.Try [.Expr (.Call (.Name x p) (e :: es) [] cpos) epos] [.ExceptHandler (some (.Name c np)) (some n) (b₀ :: suite) hpos] [] [] pos) (tTry sp X.K C0 i t ts) := by
  intro pins s σ H D I h
  refine wpAny_Try_except ?_
  refine wpAny_execs_cons (wpAny_Expr_any (wpAny_Call_Name_kw (ld_glob I hg hm ?_ hdb)) I.quiet hsw)
  refine PySem.W.callWith_K (h₀ := X.base) I.ok.mod.kin hk (wpAny_mono (ha cpos pins s σ H _ (I.wish _) h) (fun us s1 hq => ?_) fun _ _ z => z.elim) he hpl
  obtain ⟨vs, H1, I1, r, q⟩ := hq
  replace I1 : Inv X pins σ H1 s1 := I1.unwish
  refine ⟨I1.kIn, thn (run_fnE (dvs := []) (Q := fun _ H2 => D.nx σ H2) F hr hb .nil I1 r (by rw [List.append_nil]; exact q) ?_) ?_⟩
  · -- an exception
    intro ex s' cx
    obtain ⟨a, C, a0, H', B, rfl, os, bare, un, hok, fl, c1, c2, c3, C', bm, nid, eC, hexc, hbel, hgo⟩ := cx
    cases eC
    obtain ⟨na, n1, _⟩ := CXW.new (E := fun _ _ _ => True) (s := s1) hok fl c2 c3
    have cx : CXW X.prog X.w X.stack H1 s1 (fun cls _ H2 => cls = .ref C ∧ H2 = H') (.ref a) s' := ⟨a, C, a0, H', B, rfl, os, bare, un, hok, fl, c1, c2, c3, rfl, rfl⟩
    clear fl c1 c2 c3 un hok
    have inv : ∀ {s5 : Shared}, CXW X.prog X.w X.stack H1 s1 (fun cls _ H2 => cls = .ref C ∧ H2 = H') (.ref a) s5 → Inv X pins σ H' s5 ∧ ∃ oe ws, s5.heap.get? a = some oe ∧ oe.cls = .ref C ∧ oe.data = .fields ws := fun {s5} cx => by
      obtain ⟨a1, C1, _, H5, B5, e1, os, bare, un, hok, fl, c1, c2, c3, e2, e3⟩ := cx
      cases e1; cases e2; subst e3
      exact ⟨I1.call' os un hok bare fun b z => absurd z (by simp), (CXW.new (E := fun _ _ _ => True) (s := s1) hok fl c2 c3).2.2⟩
    obtain ⟨B4, C4, a4, fl4, st4⟩ := cx.step
    rw [hstk] at fl4 st4
    refine wpAny_looks_onW (by rw [I.ok.frames, hstk]) hfr fl4 fun h₄ held₄ up₄ => ?_
    refine wpAny_landsW held₄ fun h₅ fl₅ up₅ => ?_
    have cx5 := st4 h₅ fl₅ (up₄.trans up₅)
    rw [← hstk] at cx5
    obtain ⟨J5, oe, ws, he5, hc5, hd5⟩ := inv cx5
    refine wpAny_handleBy_cons (codeAny_handlers_test (ld_glob (X := X.held a) (J5.hold a) hgc hmc ?_ hdc)) (by intro q; cases q)
    obtain ⟨tl, N1, nm, q1, bs, hdct, sn, sub, ab, col, dd, k0, k1, k2, k3, k5, mN, hC, hN1, hni, T⟩ := (own_in (x := c) (mg := fun _ => some (.ref C)) J5.kIn rfl hexc).obj
    obtain ⟨tl', N1', nm', q1', bs', hdct', sn', sub', ab', col', dd', j0, j1, j2, j3, j5, mN', hC', hN1', hni', T'⟩ := (own_in J5.kIn hmc hq0).obj
    have hin : (Value.ref C :: tl).contains (.ref C0) = true := by
      unfold belowIn at hbel
      split at hbel
      · rename_i ho
        have := J5.kIn _ _ ho
        rw [hC] at this
        cases this
        exact hbel
      · cases hbel
    refine excMatches_below hC hC' he5 hc5 (T'.hasType hbB) hin (codeAny_handlers_suite_as ?_)
    obtain ⟨B6, C6, a6, fl6, st6⟩ := cx5.step
    refine lands_againW fl6 fun h₆ fl₆ up₆ => ?_
    obtain ⟨J6, oe6, ws6, he6, hc6, hd6⟩ := inv (st6 h₆ fl₆ up₆)
    have J7 := Inv.adopt (C := C) I1 n1 (by rw [hex]; simp) J6 na he6 hc6 hd6
    refine store_ok (X := X.held a) (v := .ref a) (J7.hold a) hN hi (.inl hln) rfl (fun s8 J8 => ?_) (.inr hln)
    refine wpAny_mono (hs a pins s8 _ _ _ J8 (hgo a na)) (fun fl9 s9 q9 => ?_) fun _ _ z => z.elim
    cases fl9 with
    | next => obtain ⟨σ', H9, J9, q9⟩ := q9; exact goes_ok (J9.unhold I.ok) hN hi hl fun s' K' => ⟨_, _, K', q9⟩
    | brk => obtain ⟨σ', H9, J9, q9⟩ := q9; exact goes_ok (J9.unhold I.ok) hN hi hl fun s' K' => ⟨_, _, K', q9⟩
    | cont => obtain ⟨σ', H9, J9, q9⟩ := q9; exact goes_ok (J9.unhold I.ok) hN hi hl fun s' K' => ⟨_, _, K', q9⟩
    | ret u => obtain ⟨v, σ', H9, J9, r9, q9⟩ := q9; exact goes_ok (J9.unhold I.ok) hN hi hl fun s' K' => ⟨v, _, _, K', r9, q9⟩
  · rintro v s2 ⟨v', H2, I2, r2, q2⟩
    exact wpAny_execs_nil (wpAny_execs_nil ⟨σ, H2, I2, q2⟩)
end
end L2

set_option linter.all false
set_option maxRecDepth 100000
namespace L2
open PySem PySem.W PySem.Spec PySem.Calls PyProof.Rows
section
variable {prog : Program} {w : World} {A : Around} {E : Value → Shared → Prop} {h : Heap} {g : Array GenState} {d : Drawn} {t : Nat} {os : OsState} {K : Frag} {a C : Addr} {o : Obj}
theorem exc_class_get {R : Result → Shared → Prop} (X : K.In h) (hx : h.get? a = some o) (hc : o.cls = .ref C) (hm : mroIn K C (.type "object") = some true) (hq : R (.ok (.ret (.ref C))) ⟨h, g, d, t, os⟩) :
    codeAny (model prog w) A (.call (.builtin "getset_descriptor.__get__") ⟨[.builtin "object.__class__", .ref a, .ref C], []⟩) R ⟨h, g, d, t, os⟩ := by
  have L1 : Looks (model prog w) h (isSubtype (.ref C) (.type (".".intercalate ("object.__class__".cutAt '.').dropLast))) true := by
    rw [show ".".intercalate ("object.__class__".cutAt '.').dropLast = "object" by decide +kernel]
    exact looks_mroIn (M := model prog w) X hm
  have hT5 : (⟨h, g, d, t, os⟩ : Shared).TypeIs (.builtin "object.__class__") "getset_descriptor" := F.typeOf_object_class
  refine codeAny_call_builtin F.slot_gs_get.plain F.entry_gs_get (F.slot_gs_get.check _ _ _ _ _ _ _ _ hT5 (F.args_gs_get _ _ _) ?_)
  repeat (any_goals (first | assumption | (with_reducible refine wpAny_loadPart_at hx ?_; rw [hc]) | with_reducible refine L1.at ?_ | wp_step))
  refine ⟨Code.quiet_builtin _ (by decide +kernel), codeAny_builtin F.entry_object_class ?_⟩
  repeat (any_goals (first | assumption | (with_reducible refine wpAny_loadPart_at hx ?_; rw [hc]) | wp_step))
theorem exc_class_entry {tk : Tok} {Q : Fin → Shared → Prop} (X : K.In h) (hx : h.get? a = some o) (hc : o.cls = .ref C) (hm : mroIn K C (.type "object") = some true) (hk : findIn K (.ref C) "__class__" = some (some (.builtin "object.__class__")))
    (hq : Q (.done (.ret (.ref C))) ⟨h, g, d, t, os⟩) : wpAny (model prog w) A (Builtin.«object.__getattribute__» ⟨[.ref a, .str "__class__" tk], []⟩) Q E ⟨h, g, d, t, os⟩ := by
  have L2 := looks_findIn (M := model prog w) X hk
  have hT5 : (⟨h, g, d, t, os⟩ : Shared).TypeIs (.builtin "object.__class__") "getset_descriptor" := F.typeOf_object_class
  have f5 := F.typeOf_object_class
  have f6 := F.slot_gs_get.lookup
  have f7 := F.slot_gs_set.lookup
  repeat (any_goals (first | assumption | (with_reducible refine wpAny_loadPart_at hx ?_; rw [hc]) | with_reducible refine L2.at ?_ | wp_step))
  refine exc_class_get X hx hc hm ?_
  repeat (any_goals (first | assumption | wp_step))
theorem exc_check_ga {M : Model} {nameV : Value} {Q : Unit → Shared → Prop} (X : K.In h) (hx : h.get? a = some o) (hc : o.cls = .ref C) (hB : mroIn K C (.type "BaseException") = some true) (hq : Q () ⟨h, g, d, t, os⟩) :
    wpAny M A (checkBuiltinCall "BaseException.__getattribute__" ⟨[.ref a, nameV], []⟩) Q E ⟨h, g, d, t, os⟩ := by
  have hk : builtinKind "BaseException.__getattribute__" = some .slot := by decide +kernel
  have hsplit : splitId "BaseException.__getattribute__" = some ("BaseException", "__getattribute__") := by decide +kernel
  have L1 := looks_mroIn (M := M) X hB
  have ha := F.args_bexc_ga (.ref a) nameV
  simp only [checkBuiltinCall, hk, hsplit]
  refine wpAny_bind ?_
  unfold isInstance
  repeat (first | (with_reducible refine wpAny_loadPart_at hx ?_; rw [hc]) | with_reducible refine L1.at ?_ | wp_step)
  exact hq
/-- what the fragment tells of an own exception class, for isinstance -/
structure ExcIsi (K : Frag) (C : Addr) : Prop where
  obj : mroIn K C (.type "object") = some true
  base : mroIn K C (.type "BaseException") = some true
  cls : findIn K (.ref C) "__class__" = some (some (.builtin "object.__class__"))
  ga : findIn K (.ref C) "__getattribute__" = some (some (.builtin "BaseException.__getattribute__"))
  no : findIn K (.ref C) "__getattr__" = some none
theorem exc_class_by {tk : Tok} {Q : Value → Shared → Prop} (X : K.In h) (hx : h.get? a = some o) (hc : o.cls = .ref C) (F1 : ExcIsi K C) (hq : Q (.ref C) ⟨h, g, d, t, os⟩) :
    wpAny (model prog w) A (getAttrBy (.ref a) (.str "__class__" tk) false) Q E ⟨h, g, d, t, os⟩ := by
  have L1 := looks_findIn (M := model prog w) X F1.ga
  have L2 := looks_findIn (M := model prog w) X F1.no
  have f3 := F.attr_ValueError.ga.bind (.ref a)
  have hx2 : (Value.builtin "BaseException.__getattribute__" == Value.builtin "object.__getattribute__") = false := by decide +kernel
  have hx1 : (onTheHeap (Value.ref C) && Value.builtin "BaseException.__getattribute__" == Value.builtin "object.__getattribute__") = false := by rw [hx2]; rfl
  repeat (any_goals (first | assumption | (with_reducible refine wpAny_loadPart_at hx ?_; rw [hc]) | with_reducible refine L1.at ?_ | with_reducible refine L2.at ?_ | wp_step))
  refine codeAny_call_builtin F.attr_ValueError.ga.plain F.entry_bexc_ga (exc_check_ga X hx hc F1.base (exc_class_entry X hx hc F1.obj F1.cls ?_))
  repeat (any_goals (first | assumption | wp_step))
theorem exc_class_attr {Q : Option Value → Shared → Prop} (X : K.In h) (hx : h.get? a = some o) (hc : o.cls = .ref C) (F1 : ExcIsi K C) (hq : Q (some (.ref C)) ⟨h, g, d, t + 1, os⟩) :
    wpAny (model prog w) A (getAttr? (.ref a) "__class__") Q E ⟨h, g, d, t, os⟩ := by
  unfold getAttr? getAttrBy?
  repeat (any_goals (first | assumption | with_reducible apply exc_class_by X hx hc F1 | wp_step))
end
end L2

set_option linter.all false
set_option maxRecDepth 100000
namespace L2
open PySem PySem.W PySem.Spec PySem.Calls PyProof.Rows
theorem kitx_exc {K : Frag} {a C : Addr} (F1 : ExcIsi K C) : KitX K (.ref a) (.ref C) (fun h => ∃ o, h.get? a = some o ∧ o.cls = .ref C) := by
  have hc : ∃ cd, clsIn K C = some cd := by
    obtain ⟨cd, h, _⟩ := Option.bind_eq_some_iff.mp F1.obj
    exact ⟨cd, h⟩
  have ho : ∃ c' d' cd' sl', K.lookup C = some ⟨c', d', .cls cd', sl'⟩ := by
    obtain ⟨cd, h⟩ := hc
    unfold clsIn at h
    split at h
    · rename_i ho; exact ⟨_, _, _, _, ho⟩
    · cases h
  obtain ⟨c', d', cd', sl', ho⟩ := ho
  refine ⟨fun _ _ _ ⟨o, hx, hc⟩ => hc ▸ (Looks.ld hx).andThen .now, fun _ _ X _ => ?_, fun h tp dd its n sl X htp => ?_, fun {prog w A E Q s} X p k => ?_⟩
  · intro A' Q' E' s' k q
    unfold isType loadHead
    exact wpAny_bind (wpAny_loadPart (k _ _ (X _ _ ho)) (wpAny_pure q))
  · refine Bool.eq_false_iff.mpr fun q => ?_
    have e : C = tp := Value.ref.inj (beq_iff_eq.mp q)
    subst e
    have z := (X _ _ ho).symm.trans htp
    cases z
  · obtain ⟨o, hx, hc⟩ := p
    obtain ⟨h, g, d, t, os⟩ := s
    exact exc_class_attr X hx hc F1 k
section
variable {X : Cx}
/-- isinstance(e, C0), e a caught exception, C0 an own class or a built-in one -/
theorem call_isiE : CallR X (.builtin "isinstance") (fun xs H Q => ∃ a C c v b, xs = [.ref a, v] ∧ H a = some (excO a C) ∧ ExcIsi X.K C ∧ ((v = .ref c ∧ PySem.W.kitOne X.K (.ref C) (.ref c) = some b) ∨ (∃ T, v = .ty T ∧ PySem.W.kitOne X.K (.ref C) (.type T) = some b)) ∧ Q (.bl b) H) := by
  intro pins s σ H xs us Q I r h
  obtain ⟨a, C, c, v, b, rfl, ha, F1, alt, q⟩ := h
  obtain ⟨u, w', rfl, rx, ry⟩ := vals2 r
  cases (show u = Value.ref a from rx)
  obtain ⟨⟨oe, ws, h1, h2, _⟩, _⟩ := I.hok a _ ha
  rcases alt with ⟨rfl, e⟩ | ⟨T, rfl, e⟩
  · cases (show w' = Value.ref c from ry)
    exact PySem.W.kia_one (kitx_exc F1) I.kIn ⟨oe, h1, h2⟩ e (fun z => nomatch z) fun tk => ⟨.bl b, H, I.tok tk, rfl, q⟩
  · cases (show w' = Value.type T from ry)
    exact PySem.W.kia_one (kitx_exc F1) I.kIn ⟨oe, h1, h2⟩ e (fun z => nomatch z) fun tk => ⟨.bl b, H, I.tok tk, rfl, q⟩
theorem vals_refs : ∀ {cs : List Addr} {us : List Value}, Vals (cs.map V.ref) us → us = cs.map Value.ref
  | [], _, .nil => rfl
  | c :: cs, u :: us, .cons r t => by
    cases (show u = Value.ref c from r)
    rw [List.map_cons, vals_refs t]
/-- isinstance(e, (C1, ..)), own classes -/
theorem call_isiEs : CallR X (.builtin "isinstance") (fun xs H Q => ∃ (a C p : Addr) (cs : List Addr) (b : Bool), xs = [.ref a, .ref p] ∧ H a = some (excO a C) ∧ H p = some (.tup (cs.map V.ref)) ∧ ExcIsi X.K C ∧ PySem.W.kitAny X.K (.ref C) (cs.map Value.ref) = some b ∧ Q (.bl b) H) := by
  intro pins s σ H xs us Q I r h
  obtain ⟨a, C, p, cs, b, rfl, ha, hp, F1, e, q⟩ := h
  obtain ⟨u, w', rfl, rx, ry⟩ := vals2 r
  cases (show u = Value.ref a from rx)
  cases (show w' = Value.ref p from ry)
  obtain ⟨⟨oe, ws, h1, h2, _⟩, _⟩ := I.hok a _ ha
  obtain ⟨_, its, rv, o, ho, hc, n, hd⟩ := I.hok p _ hp
  have := vals_refs rv
  subst this
  obtain ⟨oc, od, odt, osl⟩ := o
  simp only at hc hd
  subst hc hd
  exact PySem.W.kia_tup (kitx_exc F1) I.kIn ⟨oe, h1, h2⟩ ho e (fun z => nomatch z) fun tk => ⟨.bl b, H, I.tok tk, rfl, q⟩
end
end L2

set_option linter.all false
set_option maxRecDepth 100000
namespace L2
open PySem PySem.W PySem.Spec PySem.Calls PyProof.Rows
/-- room, though an exception is being handled -/
structure RoomU (k : Nat) (A : Around) : Prop where
  dp : A.depth + 3 * k + 5 < recursionLimit
  un : A.units + 16 * k + 200 < cLine
theorem Room.u {k : Nat} {A : Around} (r : Room k A) (h : Option Value) : RoomU k (A.mark h) := ⟨r.dp, r.un⟩
/-- a def that may be called from a suite that handles an exception -/
structure FnOkU (P : Program) (w : World) (K : PySem.W.Frag) (mg : Str → Option Value) (base : Heap) (k : Nat) (f : Addr) (fd : FuncData) (ps : List Str) (sp : Sp) : Prop where
  len : ∀ vs H Q E, sp vs H Q E → vs.length = ps.length
  run : ∀ (A : Around) (outer : List Env) (s : Shared) (H : Hp) (args : Args) (us : List Value) (vs : List V) (Q : VK) (E : XK), RoomU k A → Env0 P w K mg base A outer s H → BindsTo s fd args (ps.zip us) → Vals vs us → sp vs H Q E →
    codeAny (model P w) A (.call (.ref f) args) (CR CX0 outer P w H s Q E) s
/-- the body's context -/
noncomputable abbrev cxU (P : Program) (w : World) (K : PySem.W.Frag) (mg : Str → Option Value) (base : Heap) (N : List Str) (qual : Str) (scope : Scope) (f : Addr) (cd : Value) (A : Around) (outer : List Env) (s : Shared) (H : Hp) : Cx :=
  { cxOf CX0 P w K mg base N qual scope f cd A outer s H E0 with calm := false, xe := fun _ _ => False }
theorem Fun.okU {P : Program} {w : World} {K : PySem.W.Frag} {mg : Str → Option Value} {base : Heap} {x qual : Str} {st : Stmt} {f : Addr} {fd : FuncData} {N ps : List Str} {k : Nat} {sp : Sp} (F : Fun K x qual st f fd) (S : FnScope N ps (defScope st)) (len : ∀ vs H Q E, sp vs H Q E → vs.length = ps.length)
    (hbody : ∀ (cdv : Value) (A : Around) (outer : List Env) (s : Shared) (H : Hp) (vs : List V) (Q : VK) (E : XK), RoomU k (A.deeper (envOfC qual (defScope st) s.heap.objs.size f cdv)) → sp vs H Q E →
      ∃ t, PSs (cxU P w K mg base N qual (defScope st) f cdv A outer s H) (defBody st) t ∧ t { nx := fun _ H' => Q .non H', rt := Q } (start N vs) H) : FnOkU P w K mg base (k + 1) f fd ps sp := by
  obtain ⟨oc, od, kV, doc, pm, an, cdv, ct, osl, rfl, lk, hcd⟩ := F.ex
  refine ⟨len, fun A outer s H args us vs Q E hr e0 hb r hsp => ?_⟩
  have KX : K.In s.heap := e0.mod.kin.keeps fun b o e => (e0.bs b o e).1
  refine codeAny_call_function (by have := hr.dp; (first | lia | omega)) (KX _ _ lk) rfl S.co S.gen rfl (PySem.W.codeRec_of KX hcd) (hb _ _ _ _ ?_)
  refine wpAny_newFunctionEnv_cells S.kind (fun y hy => ?_) fun env he s1 x1 => ?_
  · rcases S.par y.1 (List.of_mem_zip (show (y.1, y.2) ∈ ps.zip us from hy)).1 with q | q
    · exact .inl q
    · exact .inr ⟨q, PySem.W.cellsFrom_some _ _ _ (.inl q)⟩
  subst he
  refine ⟨(e0.mod.nolimit.keeps fun b o e => (e0.bs b o e).1).keeps x1.toInCall.keep, codeAny_func ?_⟩
  have e0' : Env0 P w K mg base { A with handled := none } outer s H := ⟨e0.frames, e0.mod, e0.bs, e0.bsz, e0.funs, e0.frf, e0.hok, e0.bare⟩
  have I0 := inv_start (CX := CX0) (E := E0) (A := { A with handled := none }) (cd := cdv) (f := f) (qual := qual) S rfl e0' (len _ _ _ _ hsp) r x1
  have I : Inv (cxU P w K mg base N qual (defScope st) f cdv A outer s H) [] (start N vs) H s1 :=
    ⟨⟨I0.ok.mod, I0.ok.kind, I0.ok.glob, I0.ok.blt, I0.ok.above, I0.ok.inj, I0.ok.has, I0.ok.cab, (fun z => nomatch z), I0.ok.frames, I0.ok.stk, I0.ok.exf, I0.ok.bs, I0.ok.bsz, I0.ok.noex, I0.ok.exfs, I0.ok.funs, I0.ok.frf⟩, I0.os, I0.bare, I0.base, I0.loc, I0.cell, I0.free, I0.freeC, I0.pin, I0.hok, I0.len⟩
  obtain ⟨t, ht, hq⟩ := hbody cdv A outer s H vs Q E ⟨by have := hr.dp; show A.depth + 1 + 3 * k + 5 < _; (first | lia | omega), by have := hr.un; show A.units + 3 + 16 * k + 200 < _; (first | lia | omega)⟩ hsp
  refine wpAny_mono (ht [] s1 (start N vs) H _ I hq) (fun fl s' hs => ?_) fun e s' hs => hs.elim
  match fl, hs with
  | .ret u, ⟨v, σ', H', J, rv, q⟩ => exact ⟨v, H', J.os, J.bare, J.base, J.hok, rv, q⟩
  | .next, ⟨σ', H', J, q⟩ => exact ⟨.non, H', J.os, J.bare, J.base, J.hok, rfl, q⟩
  | .brk, ⟨_, _, _, q⟩ => exact q.elim
  | .cont, ⟨_, _, _, q⟩ => exact q.elim
/-- a call of such a def from a suite -/
theorem pe_callU {X : Cx} {k : Nat} {f : Addr} {fd : FuncData} {ps : List Str} {sp : Sp} {x : Str} {p pos : Pos} {e : Expr} {es : List Expr} {t : TA} (F : FnOkU X.prog X.w X.K X.mg X.base k f fd ps sp) (hr : RoomU k X.A) (hg : Gl X x) (hm : X.mg x = some (.ref f)) (hk : PySem.W.keepIn X.K (.ref f) = true)
    (hb : Binds X.K fd ps []) (ha : PA X (e :: es) t) (hdb : (x == ("__debug__" : Str)) = false := by decide) (he : starEach (e :: es) X.env = (false, eval e X.env) :: starEach es X.env := by rfl) (hpl : (backTo pos (starEach es X.env)).any (·.1) = false := by rfl) :
    PE X (.Call (.Name x p) (e :: es) [] pos) (tCall sp [] E0 t) := by
  intro pins s σ H Q I h
  refine wpAny_Call_Name_kw (ld_glob I hg hm ?_ hdb)
  refine PySem.W.callWith_K (h₀ := X.base) I.ok.mod.kin hk (thn (ha pos pins s σ H _ I h) fun us s1 ⟨vs, H1, I1, r, q⟩ => ⟨I1.kIn, ?_⟩) he hpl
  replace q : sp (vs ++ []) H1 Q E0 := q
  rw [List.append_nil] at q
  have r2 : (us ++ ([] : List Value)).length = ps.length := by rw [List.append_nil, ← r.length]; exact F.len _ _ _ _ q
  have b := hb s1 us I1.kIn r2
  rw [List.append_nil] at b
  refine wpAny_call (codeAny_mono (F.run X.A X.stack s1 H1 ⟨us, []⟩ us vs Q E0 hr I1.env0 b r q) fun res s' hq => ?_)
  match res, hq with
  | .error e, hq => exact hq.elim
  | .ok (.ret u), hq => exact I1.after hq
  | .ok .next, hq => exact hq.elim
  | .ok .brk, hq => exact hq.elim
  | .ok .cont, hq => exact hq.elim
end L2

set_option linter.all false
set_option maxRecDepth 100000
namespace L2
open PySem PySem.W PySem.Spec PySem.Calls PyProof.Rows
noncomputable abbrev bmVE : List Value := [.type "ValueError", .type "Exception", .type "BaseException", .type "object"]
/-- the classes at cs stand below the one at pe, each beside the others -/
noncomputable def clsAll (K : Frag) (pe : Addr) (cs : List Addr) : Bool := decide cs.Nodup && excIn K pe bmVE "ValueError.__new__" && cs.all fun c => excIn K c bmVE "ValueError.__new__" && belowIn K c pe && (mroIn K c (.type "object") == some true) && (mroIn K c (.type "BaseException") == some true) &&
  (findIn K (.ref c) "__class__" == some (some (.builtin "object.__class__"))) && (findIn K (.ref c) "__getattribute__" == some (some (.builtin "BaseException.__getattribute__"))) && (findIn K (.ref c) "__getattr__" == some none) &&
  (kitOne K (.ref c) (.type "ValueError") == some true) && cs.all fun c' => kitOne K (.ref c) (.ref c') == some (c == c')
structure ClsAt (K : Frag) (pe : Addr) (cs : List Addr) (c : Addr) : Prop where
  exc : excIn K c bmVE "ValueError.__new__" = true
  below : belowIn K c pe = true
  isi : ExcIsi K c
  ve : kitOne K (.ref c) (.type "ValueError") = some true
  each : ∀ c' ∈ cs, kitOne K (.ref c) (.ref c') = some (c == c')
theorem cls_nd {K : Frag} {pe : Addr} {cs : List Addr} (h : clsAll K pe cs = true) : cs.Nodup := by
  unfold clsAll at h
  rw [Bool.and_assoc, Bool.and_eq_true] at h
  exact of_decide_eq_true h.1
theorem cls_at {K : Frag} {pe : Addr} {cs : List Addr} (h : clsAll K pe cs = true) : excIn K pe bmVE "ValueError.__new__" = true ∧ ∀ c ∈ cs, ClsAt K pe cs c := by
  unfold clsAll at h
  simp only [Bool.and_eq_true, List.all_eq_true, beq_iff_eq] at h
  refine ⟨h.1.2, fun c hc => ?_⟩
  obtain ⟨⟨⟨⟨⟨⟨⟨⟨h1, h2⟩, h3⟩, h4⟩, h5⟩, h6⟩, h7⟩, h8⟩, h9⟩ := h.2 c hc
  exact ⟨h1, h2, ⟨h3, h4, h5, h6, h7⟩, h8, h9⟩
theorem kit_none {K : Frag} {t : Value} : ∀ {cs : List Value}, (∀ c ∈ cs, kitOne K t c = some false) → kitAny K t cs = some false
  | [], _ => rfl
  | c :: cs, h => by
    unfold kitAny
    rw [h c (.head _)]
    exact kit_none fun x hx => h x (.tail _ hx)
end L2

set_option linter.all false
set_option maxRecDepth 100000
namespace L2
open PySem PySem.W PySem.Spec PySem.Calls PyProof.Rows
/-- {i: v}, two whole numbers -/
noncomputable def tD1 (i v : Int) : TE := fun _ H Q => ∀ a, H a = none → Q (.ref a) (upd H a (.dK [(.inl i, .int v)]))
end L2

set_option linter.all false
set_option maxHeartbeats 4000000
set_option maxRecDepth 100000
namespace L2
open PySem PySem.W PySem.Spec PySem.Calls PyProof.Rows
section
variable {X : Cx}
/-- != of two tuples of like lengths -/
noncomputable def rNeT (K : PySem.W.Frag) : R2 := fun x y H Q => ∃ (p b : Addr) (xs ys : List V) (n : Nat) (e : Nat → Bool), x = .ref p ∧ y = .ref b ∧ SqT K H p xs ∧ SqT K H b ys ∧ n ≤ 60 ∧
  xs.length = ys.length ∧ (∀ i, i < xs.length → DEq K H n (xs.getD i .non) (ys.getD i .non) (e i)) ∧ Q (.bl (!(List.range xs.length).all e)) H
theorem op_neT (hu : X.A.units + 64 < cLine) : OpR X (compareOp .NotEq) (rNeT X.K) := by
  intro pins s σ H x y v u Q I rx ry h
  obtain ⟨p, b, xs, ys, n, e, rfl, rfl, hp, hb, hn, hl, hd, q⟩ := h
  cases rx
  cases ry
  obtain ⟨its, r1, p1, _⟩ := I.tuple hp
  obtain ⟨jts, r2, p2, _⟩ := I.tuple hb
  have l1 := r1.length
  have l2 := r2.length
  refine SeqAt.RcNeAt.tuples (e := e) p1 p2 (by (first | lia | omega)) (fun j h1 h2 => deq_at I (hd j (by simp only [List.size_toArray] at h1; (first | lia | omega))) (A := X.A.in1) (rel_at r1 h1) (rel_at r2 h2) (by show X.A.units + 1 + n < cLine; (first | lia | omega))) _ _ _ _ ?_
  have e1 : its.toArray.size = xs.length := by simp only [List.size_toArray]; (first | lia | omega)
  have e2 : jts.toArray.size = xs.length := by simp only [List.size_toArray]; (first | lia | omega)
  rw [e1, e2, Nat.min_self, beq_self_eq_true, Bool.and_true]
  exact ⟨.bl _, H, I, rfl, q⟩
/-- a dict of one pair with itself -/
noncomputable def rNeK : R2 := fun x y H Q => ∃ (p : Addr) (k v : Int), x = .ref p ∧ y = .ref p ∧ H p = some (.dK [(.inl k, .int v)]) ∧ Q (.bl false) H
end
end L2

set_option linter.all false
set_option maxHeartbeats 4000000
set_option maxRecDepth 100000
namespace KP
open PySem L2
/-! the text by places -/
noncomputable def top (i : Nat) : Stmt := PySem.Challenge.pw_panehouse_k06_fills_refused.main.body.getD i (.Pass ⟨0, 0, 0, 0⟩)
noncomputable abbrev s_is_number : Stmt := top 13
noncomputable abbrev s_is_number_list : Stmt := top 14
noncomputable abbrev s_need_total : Stmt := top 17
noncomputable abbrev s_need_few : Stmt := top 18
noncomputable abbrev s_need_weights : Stmt := top 19
noncomputable abbrev s_share_out : Stmt := top 20
noncomputable abbrev s_is_part : Stmt := top 23
noncomputable abbrev s_need_parts : Stmt := top 24
noncomputable abbrev s_begins_of : Stmt := top 25
noncomputable abbrev s_given_once : Stmt := top 26
noncomputable abbrev s_given_rounds : Stmt := top 27
noncomputable abbrev s_taken_rounds : Stmt := top 28
noncomputable abbrev s_rounds_till : Stmt := top 29
noncomputable abbrev s_fill_rounds : Stmt := top 30
noncomputable abbrev s_sizes_behind : Stmt := top 31
noncomputable abbrev s_fill_sizes : Stmt := top 32
noncomputable abbrev s_is_row_list : Stmt := top 33
noncomputable abbrev s_is_fill : Stmt := top 34
noncomputable abbrev s_l_cell_at : Stmt := top 36
noncomputable abbrev s_l_mix : Stmt := top 37
noncomputable abbrev s_l_part : Stmt := top 38
noncomputable abbrev s_l_due : Stmt := top 39
noncomputable abbrev s_l_step : Stmt := top 40
noncomputable abbrev s_l_walked : Stmt := top 41
noncomputable abbrev s_l_alone : Stmt := top 42
noncomputable abbrev s_l_bad_part : Stmt := top 43
noncomputable abbrev s_l_wrong : Stmt := top 44
noncomputable abbrev s_l_asked : Stmt := top 45
noncomputable abbrev s_l_refused : Stmt := top 46
noncomputable abbrev s_law : Stmt := top 47
-- is_number: 0=thing
noncomputable abbrev N_is_number : List Str := ["thing"]
noncomputable abbrev P_is_number : List Str := ["thing"]
theorem sc_is_number : FnScope N_is_number P_is_number (defScope s_is_number) := ⟨rfl, rfl, rfl, by decide +kernel, rfl, by decide +kernel, by decide +kernel⟩
-- is_number_list: 0=thing
noncomputable abbrev N_is_number_list : List Str := ["thing"]
noncomputable abbrev P_is_number_list : List Str := ["thing"]
theorem sc_is_number_list : FnScope N_is_number_list P_is_number_list (defScope s_is_number_list) := ⟨rfl, rfl, rfl, by decide +kernel, rfl, by decide +kernel, by decide +kernel⟩
-- need_total: 0=total
noncomputable abbrev N_need_total : List Str := ["total"]
noncomputable abbrev P_need_total : List Str := ["total"]
theorem sc_need_total : FnScope N_need_total P_need_total (defScope s_need_total) := ⟨rfl, rfl, rfl, by decide +kernel, rfl, by decide +kernel, by decide +kernel⟩
-- need_few: 0=things
noncomputable abbrev N_need_few : List Str := ["things"]
noncomputable abbrev P_need_few : List Str := ["things"]
theorem sc_need_few : FnScope N_need_few P_need_few (defScope s_need_few) := ⟨rfl, rfl, rfl, by decide +kernel, rfl, by decide +kernel, by decide +kernel⟩
-- need_weights: 0=weights
noncomputable abbrev N_need_weights : List Str := ["weights"]
noncomputable abbrev P_need_weights : List Str := ["weights"]
theorem sc_need_weights : FnScope N_need_weights P_need_weights (defScope s_need_weights) := ⟨rfl, rfl, rfl, by decide +kernel, rfl, by decide +kernel, by decide +kernel⟩
-- share_out: 0=total 1=weights 2=whole 3=shares 4=rests 5=places 6=place
noncomputable abbrev N_share_out : List Str := ["total", "weights", "whole", "shares", "rests", "places", "place"]
noncomputable abbrev P_share_out : List Str := ["total", "weights"]
theorem sc_share_out : FnScope N_share_out P_share_out (defScope s_share_out) := ⟨rfl, rfl, rfl, by decide +kernel, rfl, by decide +kernel, by decide +kernel⟩
-- is_part: 0=thing
noncomputable abbrev N_is_part : List Str := ["thing"]
noncomputable abbrev P_is_part : List Str := ["thing"]
theorem sc_is_part : FnScope N_is_part P_is_part (defScope s_is_part) := ⟨rfl, rfl, rfl, by decide +kernel, rfl, by decide +kernel, by decide +kernel⟩
-- need_parts: 0=parts
noncomputable abbrev N_need_parts : List Str := ["parts"]
noncomputable abbrev P_need_parts : List Str := ["parts"]
theorem sc_need_parts : FnScope N_need_parts P_need_parts (defScope s_need_parts) := ⟨rfl, rfl, rfl, by decide +kernel, rfl, by decide +kernel, by decide +kernel⟩
-- begins_of: 0=parts
noncomputable abbrev N_begins_of : List Str := ["parts"]
noncomputable abbrev P_begins_of : List Str := ["parts"]
theorem sc_begins_of : FnScope N_begins_of P_begins_of (defScope s_begins_of) := ⟨rfl, rfl, rfl, by decide +kernel, rfl, by decide +kernel, by decide +kernel⟩
-- given_once: 0=lacking 1=parts 2=rooms 3=weights 4=shares
noncomputable abbrev N_given_once : List Str := ["lacking", "parts", "rooms", "weights", "shares"]
noncomputable abbrev P_given_once : List Str := ["lacking", "parts", "rooms"]
theorem sc_given_once : FnScope N_given_once P_given_once (defScope s_given_once) := ⟨rfl, rfl, rfl, by decide +kernel, rfl, by decide +kernel, by decide +kernel⟩
-- given_rounds: 0=lacking 1=parts 2=rooms 3=rounds 4=given
noncomputable abbrev N_given_rounds : List Str := ["lacking", "parts", "rooms", "rounds", "given"]
noncomputable abbrev P_given_rounds : List Str := ["lacking", "parts"]
theorem sc_given_rounds : FnScope N_given_rounds P_given_rounds (defScope s_given_rounds) := ⟨rfl, rfl, rfl, by decide +kernel, rfl, by decide +kernel, by decide +kernel⟩
-- taken_rounds: 0=too_much 1=parts 2=above 3=taken
noncomputable abbrev N_taken_rounds : List Str := ["too_much", "parts", "above", "taken"]
noncomputable abbrev P_taken_rounds : List Str := ["too_much", "parts"]
theorem sc_taken_rounds : FnScope N_taken_rounds P_taken_rounds (defScope s_taken_rounds) := ⟨rfl, rfl, rfl, by decide +kernel, rfl, by decide +kernel, by decide +kernel⟩
-- rounds_till: 0=total 1=parts 2=begun
noncomputable abbrev N_rounds_till : List Str := ["total", "parts", "begun"]
noncomputable abbrev P_rounds_till : List Str := ["total", "parts"]
theorem sc_rounds_till : FnScope N_rounds_till P_rounds_till (defScope s_rounds_till) := ⟨rfl, rfl, rfl, by decide +kernel, rfl, by decide +kernel, by decide +kernel⟩
-- fill_rounds: 0=total 1=parts
noncomputable abbrev N_fill_rounds : List Str := ["total", "parts"]
noncomputable abbrev P_fill_rounds : List Str := ["total", "parts"]
theorem sc_fill_rounds : FnScope N_fill_rounds P_fill_rounds (defScope s_fill_rounds) := ⟨rfl, rfl, rfl, by decide +kernel, rfl, by decide +kernel, by decide +kernel⟩
-- sizes_behind: 0=total 1=parts 2=rounds 3=sizes 4=sign 5=cells
noncomputable abbrev N_sizes_behind : List Str := ["total", "parts", "rounds", "sizes", "sign", "cells"]
noncomputable abbrev P_sizes_behind : List Str := ["total", "parts", "rounds"]
theorem sc_sizes_behind : FnScope N_sizes_behind P_sizes_behind (defScope s_sizes_behind) := ⟨rfl, rfl, rfl, by decide +kernel, rfl, by decide +kernel, by decide +kernel⟩
-- fill_sizes: 0=total 1=parts
noncomputable abbrev N_fill_sizes : List Str := ["total", "parts"]
noncomputable abbrev P_fill_sizes : List Str := ["total", "parts"]
theorem sc_fill_sizes : FnScope N_fill_sizes P_fill_sizes (defScope s_fill_sizes) := ⟨rfl, rfl, rfl, by decide +kernel, rfl, by decide +kernel, by decide +kernel⟩
-- is_row_list: 0=thing
noncomputable abbrev N_is_row_list : List Str := ["thing"]
noncomputable abbrev P_is_row_list : List Str := ["thing"]
-- is_fill: 0=total 1=parts 2=sizes 3=rows 4=rounds
noncomputable abbrev N_is_fill : List Str := ["total", "parts", "sizes", "rows", "rounds"]
noncomputable abbrev P_is_fill : List Str := ["total", "parts", "sizes", "rows"]
theorem sc_is_fill : FnScope N_is_fill P_is_fill (defScope s_is_fill) := ⟨rfl, rfl, rfl, by decide +kernel, rfl, by decide +kernel, by decide +kernel⟩
-- _law_cell_at: 0=_law_script 1=_law_k
noncomputable abbrev N_l_cell_at : List Str := ["_law_script", "_law_k"]
noncomputable abbrev P_l_cell_at : List Str := ["_law_script", "_law_k"]
theorem sc_l_cell_at : FnScope N_l_cell_at P_l_cell_at (defScope s_l_cell_at) := ⟨rfl, rfl, rfl, by decide +kernel, rfl, by decide +kernel, by decide +kernel⟩
-- _law_mix: 0=_law_state 1=_law_cell
noncomputable abbrev N_l_mix : List Str := ["_law_state", "_law_cell"]
noncomputable abbrev P_l_mix : List Str := ["_law_state", "_law_cell"]
theorem sc_l_mix : FnScope N_l_mix P_l_mix (defScope s_l_mix) := ⟨rfl, rfl, rfl, by decide +kernel, rfl, by decide +kernel, by decide +kernel⟩
-- _law_part: 0=_law_state 1=_law_cell 2=_law_kind 3=_law_least 4=_law_wide 5=_law_begin 6=_law_most 7=_law_weight
noncomputable abbrev N_l_part : List Str := ["_law_state", "_law_cell", "_law_kind", "_law_least", "_law_wide", "_law_begin", "_law_most", "_law_weight"]
noncomputable abbrev P_l_part : List Str := ["_law_state", "_law_cell", "_law_kind"]
theorem sc_l_part : FnScope N_l_part P_l_part (defScope s_l_part) := ⟨rfl, rfl, rfl, by decide +kernel, rfl, by decide +kernel, by decide +kernel⟩
-- _law_due: 0=_law_total 1=_law_weights 2=_law_whole 3=_law_found 4=_law_lefts 5=_law_turn 6=_law_at
noncomputable abbrev N_l_due : List Str := ["_law_total", "_law_weights", "_law_whole", "_law_found", "_law_lefts", "_law_turn", "_law_at"]
noncomputable abbrev P_l_due : List Str := ["_law_total", "_law_weights"]
theorem sc_l_due : FnScope N_l_due P_l_due (defScope s_l_due) := ⟨rfl, rfl, rfl, by decide +kernel, rfl, by decide +kernel, by decide +kernel⟩
-- _law_step: 0=_law_lacking 1=_law_parts 2=_law_sizes 3=_law_weights 4=_law_shares
noncomputable abbrev N_l_step : List Str := ["_law_lacking", "_law_parts", "_law_sizes", "_law_weights", "_law_shares"]
noncomputable abbrev P_l_step : List Str := ["_law_lacking", "_law_parts", "_law_sizes"]
theorem sc_l_step : FnScope N_l_step P_l_step (defScope s_l_step) := ⟨rfl, rfl, rfl, by decide +kernel, rfl, by decide +kernel, by decide +kernel⟩
-- _law_walked: 0=_law_total 1=_law_parts 2=_law_sizes 3=_law_rows 4=_law_rooms 5=_law_row
noncomputable abbrev N_l_walked : List Str := ["_law_total", "_law_parts", "_law_sizes", "_law_rows", "_law_rooms", "_law_row"]
noncomputable abbrev P_l_walked : List Str := ["_law_total", "_law_parts"]
theorem sc_l_walked : FnScope N_l_walked P_l_walked (defScope s_l_walked) := ⟨rfl, rfl, rfl, by decide +kernel, rfl, by decide +kernel, by decide +kernel⟩
-- _law_alone: 0=_law_e
noncomputable abbrev N_l_alone : List Str := ["_law_e"]
noncomputable abbrev P_l_alone : List Str := ["_law_e"]
theorem sc_l_alone : FnScope N_l_alone P_l_alone (defScope s_l_alone) := ⟨rfl, rfl, rfl, by decide +kernel, rfl, by decide +kernel, by decide +kernel⟩
-- _law_bad_part: 0=_law_state 1=_law_way 2=_law_least 3=_law_begin 4=_law_most 5=_law_weight 6=_law_some
noncomputable abbrev N_l_bad_part : List Str := ["_law_state", "_law_way", "_law_least", "_law_begin", "_law_most", "_law_weight", "_law_some"]
noncomputable abbrev P_l_bad_part : List Str := ["_law_state", "_law_way"]
theorem sc_l_bad_part : FnScope N_l_bad_part P_l_bad_part (defScope s_l_bad_part) := ⟨rfl, rfl, rfl, by decide +kernel, rfl, by decide +kernel, by decide +kernel⟩
-- _law_wrong: 0=_law_total 1=_law_parts 2=_law_state 3=_law_way 4=_law_at
noncomputable abbrev N_l_wrong : List Str := ["_law_total", "_law_parts", "_law_state", "_law_way", "_law_at"]
noncomputable abbrev P_l_wrong : List Str := ["_law_total", "_law_parts", "_law_state"]
theorem sc_l_wrong : FnScope N_l_wrong P_l_wrong (defScope s_l_wrong) := ⟨rfl, rfl, rfl, by decide +kernel, rfl, by decide +kernel, by decide +kernel⟩
-- _law_asked: 0=_law_way 1=_law_total 2=_law_parts
noncomputable abbrev N_l_asked : List Str := ["_law_way", "_law_total", "_law_parts"]
noncomputable abbrev P_l_asked : List Str := ["_law_way", "_law_total", "_law_parts"]
theorem sc_l_asked : FnScope N_l_asked P_l_asked (defScope s_l_asked) := ⟨rfl, rfl, rfl, by decide +kernel, rfl, by decide +kernel, by decide +kernel⟩
-- _law_refused: 0=_law_way 1=_law_total 2=_law_parts 3=_law_e
noncomputable abbrev N_l_refused : List Str := ["_law_way", "_law_total", "_law_parts", "_law_e"]
noncomputable abbrev P_l_refused : List Str := ["_law_way", "_law_total", "_law_parts"]
theorem sc_l_refused : FnScope N_l_refused P_l_refused (defScope s_l_refused) := ⟨rfl, rfl, rfl, by decide +kernel, rfl, by decide +kernel, by decide +kernel⟩
-- law: 0=_law_script 1=_law_state 2=_law_parts 3=_law_total 4=_law_wrong_here 5=_law_some 6=_law_copied 7=_law_due_here 8=_law_sixty
noncomputable abbrev N_law : List Str := ["_law_script", "_law_state", "_law_parts", "_law_total", "_law_wrong_here", "_law_some", "_law_copied", "_law_due_here", "_law_sixty"]
noncomputable abbrev P_law : List Str := ["_law_script"]
theorem sc_law : FnScope N_law P_law (defScope s_law) := ⟨rfl, rfl, rfl, by decide +kernel, rfl, by decide +kernel, by decide +kernel⟩
set_option genInjectivity false in
set_option genSizeOfSpec false in
structure Adr where
  f_is_number : Addr
  d_is_number : FuncData
  f_is_number_list : Addr
  d_is_number_list : FuncData
  f_need_total : Addr
  d_need_total : FuncData
  f_need_few : Addr
  d_need_few : FuncData
  f_need_weights : Addr
  d_need_weights : FuncData
  f_share_out : Addr
  d_share_out : FuncData
  f_is_part : Addr
  d_is_part : FuncData
  f_need_parts : Addr
  d_need_parts : FuncData
  f_begins_of : Addr
  d_begins_of : FuncData
  f_given_once : Addr
  d_given_once : FuncData
  f_given_rounds : Addr
  d_given_rounds : FuncData
  f_taken_rounds : Addr
  d_taken_rounds : FuncData
  f_rounds_till : Addr
  d_rounds_till : FuncData
  f_fill_rounds : Addr
  d_fill_rounds : FuncData
  f_sizes_behind : Addr
  d_sizes_behind : FuncData
  f_fill_sizes : Addr
  d_fill_sizes : FuncData
  f_is_row_list : Addr
  d_is_row_list : FuncData
  f_is_fill : Addr
  d_is_fill : FuncData
  f_l_cell_at : Addr
  d_l_cell_at : FuncData
  f_l_mix : Addr
  d_l_mix : FuncData
  f_l_part : Addr
  d_l_part : FuncData
  f_l_due : Addr
  d_l_due : FuncData
  f_l_step : Addr
  d_l_step : FuncData
  f_l_walked : Addr
  d_l_walked : FuncData
  f_l_alone : Addr
  d_l_alone : FuncData
  f_l_bad_part : Addr
  d_l_bad_part : FuncData
  f_l_wrong : Addr
  d_l_wrong : FuncData
  f_l_asked : Addr
  d_l_asked : FuncData
  f_l_refused : Addr
  d_l_refused : FuncData
  f_law : Addr
  d_law : FuncData
  cC : Addr
  cT : Addr
  c_PaneError : Addr
  c_NoShare : Addr
  c_NoBox : Addr
  c_NoText : Addr
  c_NoRule : Addr
  c_NoName : Addr
  c_NoPlace : Addr
  c_NoPage : Addr
  c_NoChange : Addr
  c_NoUndo : Addr
  c_NoRow : Addr
structure Txt (K : PySem.W.Frag) (mg : Str → Option Value) (A : Adr) : Prop where
  F_is_number : Fun K "is_number" "is_number" s_is_number A.f_is_number A.d_is_number
  b_is_number : Binds K A.d_is_number P_is_number []
  m_is_number : mg "is_number" = some (.ref A.f_is_number)
  F_is_number_list : Fun K "is_number_list" "is_number_list" s_is_number_list A.f_is_number_list A.d_is_number_list
  b_is_number_list : Binds K A.d_is_number_list P_is_number_list []
  m_is_number_list : mg "is_number_list" = some (.ref A.f_is_number_list)
  F_need_total : Fun K "need_total" "need_total" s_need_total A.f_need_total A.d_need_total
  b_need_total : Binds K A.d_need_total P_need_total []
  m_need_total : mg "need_total" = some (.ref A.f_need_total)
  F_need_few : Fun K "need_few" "need_few" s_need_few A.f_need_few A.d_need_few
  b_need_few : Binds K A.d_need_few P_need_few []
  m_need_few : mg "need_few" = some (.ref A.f_need_few)
  F_need_weights : Fun K "need_weights" "need_weights" s_need_weights A.f_need_weights A.d_need_weights
  b_need_weights : Binds K A.d_need_weights P_need_weights []
  m_need_weights : mg "need_weights" = some (.ref A.f_need_weights)
  F_share_out : Fun K "share_out" "share_out" s_share_out A.f_share_out A.d_share_out
  b_share_out : Binds K A.d_share_out P_share_out []
  m_share_out : mg "share_out" = some (.ref A.f_share_out)
  F_is_part : Fun K "is_part" "is_part" s_is_part A.f_is_part A.d_is_part
  b_is_part : Binds K A.d_is_part P_is_part []
  m_is_part : mg "is_part" = some (.ref A.f_is_part)
  F_need_parts : Fun K "need_parts" "need_parts" s_need_parts A.f_need_parts A.d_need_parts
  b_need_parts : Binds K A.d_need_parts P_need_parts []
  m_need_parts : mg "need_parts" = some (.ref A.f_need_parts)
  F_begins_of : Fun K "begins_of" "begins_of" s_begins_of A.f_begins_of A.d_begins_of
  b_begins_of : Binds K A.d_begins_of P_begins_of []
  m_begins_of : mg "begins_of" = some (.ref A.f_begins_of)
  F_given_once : Fun K "given_once" "given_once" s_given_once A.f_given_once A.d_given_once
  b_given_once : Binds K A.d_given_once P_given_once []
  m_given_once : mg "given_once" = some (.ref A.f_given_once)
  F_given_rounds : Fun K "given_rounds" "given_rounds" s_given_rounds A.f_given_rounds A.d_given_rounds
  b_given_rounds : Binds K A.d_given_rounds P_given_rounds []
  m_given_rounds : mg "given_rounds" = some (.ref A.f_given_rounds)
  F_taken_rounds : Fun K "taken_rounds" "taken_rounds" s_taken_rounds A.f_taken_rounds A.d_taken_rounds
  b_taken_rounds : Binds K A.d_taken_rounds P_taken_rounds []
  m_taken_rounds : mg "taken_rounds" = some (.ref A.f_taken_rounds)
  F_rounds_till : Fun K "rounds_till" "rounds_till" s_rounds_till A.f_rounds_till A.d_rounds_till
  b_rounds_till : Binds K A.d_rounds_till P_rounds_till []
  m_rounds_till : mg "rounds_till" = some (.ref A.f_rounds_till)
  F_fill_rounds : Fun K "fill_rounds" "fill_rounds" s_fill_rounds A.f_fill_rounds A.d_fill_rounds
  b_fill_rounds : Binds K A.d_fill_rounds P_fill_rounds []
  m_fill_rounds : mg "fill_rounds" = some (.ref A.f_fill_rounds)
  F_sizes_behind : Fun K "sizes_behind" "sizes_behind" s_sizes_behind A.f_sizes_behind A.d_sizes_behind
  b_sizes_behind : Binds K A.d_sizes_behind P_sizes_behind []
  m_sizes_behind : mg "sizes_behind" = some (.ref A.f_sizes_behind)
  F_fill_sizes : Fun K "fill_sizes" "fill_sizes" s_fill_sizes A.f_fill_sizes A.d_fill_sizes
  b_fill_sizes : Binds K A.d_fill_sizes P_fill_sizes []
  m_fill_sizes : mg "fill_sizes" = some (.ref A.f_fill_sizes)
  F_is_row_list : Fun K "is_row_list" "is_row_list" s_is_row_list A.f_is_row_list A.d_is_row_list
  b_is_row_list : Binds K A.d_is_row_list P_is_row_list []
  m_is_row_list : mg "is_row_list" = some (.ref A.f_is_row_list)
  F_is_fill : Fun K "is_fill" "is_fill" s_is_fill A.f_is_fill A.d_is_fill
  b_is_fill : Binds K A.d_is_fill P_is_fill []
  m_is_fill : mg "is_fill" = some (.ref A.f_is_fill)
  F_l_cell_at : Fun K "_law_cell_at" "_law_cell_at" s_l_cell_at A.f_l_cell_at A.d_l_cell_at
  b_l_cell_at : Binds K A.d_l_cell_at P_l_cell_at []
  m_l_cell_at : mg "_law_cell_at" = some (.ref A.f_l_cell_at)
  F_l_mix : Fun K "_law_mix" "_law_mix" s_l_mix A.f_l_mix A.d_l_mix
  b_l_mix : Binds K A.d_l_mix P_l_mix []
  m_l_mix : mg "_law_mix" = some (.ref A.f_l_mix)
  F_l_part : Fun K "_law_part" "_law_part" s_l_part A.f_l_part A.d_l_part
  b_l_part : Binds K A.d_l_part P_l_part []
  m_l_part : mg "_law_part" = some (.ref A.f_l_part)
  F_l_due : Fun K "_law_due" "_law_due" s_l_due A.f_l_due A.d_l_due
  b_l_due : Binds K A.d_l_due P_l_due []
  m_l_due : mg "_law_due" = some (.ref A.f_l_due)
  F_l_step : Fun K "_law_step" "_law_step" s_l_step A.f_l_step A.d_l_step
  b_l_step : Binds K A.d_l_step P_l_step []
  m_l_step : mg "_law_step" = some (.ref A.f_l_step)
  F_l_walked : Fun K "_law_walked" "_law_walked" s_l_walked A.f_l_walked A.d_l_walked
  b_l_walked : Binds K A.d_l_walked P_l_walked []
  m_l_walked : mg "_law_walked" = some (.ref A.f_l_walked)
  F_l_alone : Fun K "_law_alone" "_law_alone" s_l_alone A.f_l_alone A.d_l_alone
  b_l_alone : Binds K A.d_l_alone P_l_alone []
  m_l_alone : mg "_law_alone" = some (.ref A.f_l_alone)
  F_l_bad_part : Fun K "_law_bad_part" "_law_bad_part" s_l_bad_part A.f_l_bad_part A.d_l_bad_part
  b_l_bad_part : Binds K A.d_l_bad_part P_l_bad_part []
  m_l_bad_part : mg "_law_bad_part" = some (.ref A.f_l_bad_part)
  F_l_wrong : Fun K "_law_wrong" "_law_wrong" s_l_wrong A.f_l_wrong A.d_l_wrong
  b_l_wrong : Binds K A.d_l_wrong P_l_wrong []
  m_l_wrong : mg "_law_wrong" = some (.ref A.f_l_wrong)
  F_l_asked : Fun K "_law_asked" "_law_asked" s_l_asked A.f_l_asked A.d_l_asked
  b_l_asked : Binds K A.d_l_asked P_l_asked []
  m_l_asked : mg "_law_asked" = some (.ref A.f_l_asked)
  F_l_refused : Fun K "_law_refused" "_law_refused" s_l_refused A.f_l_refused A.d_l_refused
  b_l_refused : Binds K A.d_l_refused P_l_refused []
  m_l_refused : mg "_law_refused" = some (.ref A.f_l_refused)
  F_law : Fun K "law" "law" s_law A.f_law A.d_law
  b_law : Binds K A.d_law P_law []
  m_law : mg "law" = some (.ref A.f_law)
  g_MOST_THINGS : ∃ t, mg "MOST_THINGS" = some (.int 60 t)
  g_MOST_PART : ∃ t, mg "MOST_PART" = some (.int 9999 t)
  n_ValueError : mg "ValueError" = none
  n_all : mg "all" = none
  n_bool : mg "bool" = none
  n_int : mg "int" = none
  n_isinstance : mg "isinstance" = none
  n_len : mg "len" = none
  n_list : mg "list" = none
  n_max : mg "max" = none
  n_min : mg "min" = none
  n_range : mg "range" = none
  n_sorted : mg "sorted" = none
  n_sum : mg "sum" = none
  n_tuple : mg "tuple" = none
  n_zip : mg "zip" = none
  m_PaneError : mg "PaneError" = some (.ref A.c_PaneError)
  m_NoShare : mg "NoShare" = some (.ref A.c_NoShare)
  m_NoBox : mg "NoBox" = some (.ref A.c_NoBox)
  m_NoText : mg "NoText" = some (.ref A.c_NoText)
  m_NoRule : mg "NoRule" = some (.ref A.c_NoRule)
  m_NoName : mg "NoName" = some (.ref A.c_NoName)
  m_NoPlace : mg "NoPlace" = some (.ref A.c_NoPlace)
  m_NoPage : mg "NoPage" = some (.ref A.c_NoPage)
  m_NoChange : mg "NoChange" = some (.ref A.c_NoChange)
  m_NoUndo : mg "NoUndo" = some (.ref A.c_NoUndo)
  m_NoRow : mg "NoRow" = some (.ref A.c_NoRow)
  cls : clsAll K A.c_PaneError [A.c_NoShare, A.c_NoBox, A.c_NoText, A.c_NoRule, A.c_NoName, A.c_NoPlace, A.c_NoPage, A.c_NoChange, A.c_NoUndo, A.c_NoRow] = true
  code : A.d_share_out.code = .ref A.cC
  kit : kitAll K = true
end KP

set_option linter.all false
set_option maxHeartbeats 4000000
set_option maxRecDepth 100000
namespace KP
open PySem L2 PyProof.Rows

theorem b_isinstance : bootBuiltins "isinstance" = some (.builtin "isinstance") := by decide +kernel
theorem b_int : bootBuiltins "int" = some (.type "int") := by decide +kernel
theorem b_bool : bootBuiltins "bool" = some (.type "bool") := by decide +kernel
theorem b_list : bootBuiltins "list" = some (.type "list") := by decide +kernel
theorem b_tuple : bootBuiltins "tuple" = some (.type "tuple") := by decide +kernel
theorem b_all : bootBuiltins "all" = some (.builtin "all") := by decide +kernel
theorem b_sum : bootBuiltins "sum" = some (.builtin "sum") := by decide +kernel
theorem b_max : bootBuiltins "max" = some (.builtin "max") := by decide +kernel
theorem b_min : bootBuiltins "min" = some (.builtin "min") := by decide +kernel
theorem b_len : bootBuiltins "len" = some (.builtin "len") := by decide +kernel

/-- a def, its code known -/
theorem Fun.okC {P : Program} {w : World} {K : PySem.W.Frag} {mg : Str → Option Value} {base : Heap} {x qual : Str} {st : Stmt} {f : Addr} {fd : FuncData} {N ps : List Str} {k : Nat} {sp : Sp} (F : Fun K x qual st f fd) (S : FnScope N ps (defScope st)) (len : ∀ vs H Q E, sp vs H Q E → vs.length = ps.length)
    (hbody : ∀ (cdv : Value) (A : Around) (outer : List Env) (s : Shared) (H : Hp) (vs : List V) (Q : VK) (E : XK), fd.code = cdv → Room k (A.deeper (envOfC qual (defScope st) s.heap.objs.size f cdv)) → sp vs H Q E →
      ∃ t, PSs (cxOf CX0 P w K mg base N qual (defScope st) f cdv A outer s H E).nox (defBody st) t ∧ t { nx := fun _ H' => Q .non H', rt := Q } (start N vs) H) : FnOk P w K mg base CX0 (k + 1) f fd ps sp := by
  obtain ⟨oc, od, kV, doc, pm, an, cdv, ct, osl, rfl, lk, hcd⟩ := F.ex
  refine fn_of lk hcd S len fun A outer s H vs Q E hr hsp => ?_
  obtain ⟨t, h, q⟩ := hbody cdv A outer s H vs Q E rfl hr hsp
  exact ⟨t, h.nox, q⟩

/-- a list or a tuple of ints, tracked -/
noncomputable def WT (H : Hp) (p : Addr) (ws : List Int) : Prop := H p = some (.lst (ws.map V.int)) ∨ H p = some (.tup (ws.map V.int))
theorem WT.seq {K : PySem.W.Frag} {H : Hp} {p : Addr} {ws : List Int} (h : WT H p ws) : SqL K H p (ws.map V.int) ∨ SqT K H p (ws.map V.int) := h.elim (fun e => .inl (.of e)) fun e => .inr (.of e)
theorem WT.same {H H' : Hp} {p : Addr} {ws : List Int} (h : WT H p ws) (e : Same H H') : WT H' p ws := h.elim (fun q => .inl (e _ _ q)) fun q => .inr (e _ _ q)
theorem same_upd {H : Hp} {p : Addr} (h : H p = none) (o : HO) : Same H (upd H p o) := fun b u q => by rw [upd_ne (ne_of_none q h)]; exact q
theorem small {n : Nat} (h : n ≤ 1000) : n ≤ sizeLine := Nat.le_of_lt (small1000 h)

section
variable {P : Program} {w : World} {K : PySem.W.Frag} {mg : Str → Option Value} {base : Heap} {A : Adr}

noncomputable def spNum (K : PySem.W.Frag) : Sp := fun vs H Q _ => ∃ (v : V) (S : String), vs = [v] ∧ Is K H v S ∧ Q (.bl (numV v)) H
theorem ok_is_number (T : Txt K mg A) : FnOk P w K mg base CX0 1 A.f_is_number A.d_is_number P_is_number (spNum K) := by
  refine T.F_is_number.ok sc_is_number (fun vs H Q E h => ?_) (fun cdv A outer s H vs Q E hr h => ?_)
  · obtain ⟨v, S, rfl, _⟩ := h; rfl
  obtain ⟨v, S, rfl, ty, q⟩ := h
  refine ⟨_, pss_one (ps_ret (pe_and (pe_callB call_isi rfl T.n_isinstance b_isinstance (pa_cons (pv 0) (pa_cons (pe_bltn rfl T.n_int b_int (v := .ty "int") rfl) pa_nil)))
    (pe_and (pe_not (pe_callB call_isi rfl T.n_isinstance b_isinstance (pa_cons (pv 0) (pa_cons (pe_bltn rfl T.n_bool b_bool (v := .ty "bool") rfl) pa_nil))))
      (pe_one (pe_cmpR op_ge (pv 0) pe_int (nomark _)))))), ?_⟩
  refine ⟨_, rfl, _, "int", _, _, rfl, ty.ty, ty.kit T.kit "int", _, rfl, ?_⟩
  rcases ty.num with ⟨i, rfl, rfl⟩ | ⟨b, rfl, rfl⟩ | ⟨h1, _, _, h2, h3⟩
  · refine iteT ⟨_, rfl, _, "bool", _, _, rfl, ty.ty, ty.kit T.kit "bool", _, rfl, _, rfl, ?_⟩
    exact iteT ⟨_, rfl, _, _, rfl, rfl, q⟩
  · refine iteT ⟨_, rfl, _, "bool", _, _, rfl, ty.ty, ty.kit T.kit "bool", _, rfl, _, rfl, ?_⟩
    exact iteF q
  · rw [h2]
    rw [h1] at q
    exact iteF q

/-- the list of numbers, or anything else -/
inductive NumL (K : PySem.W.Frag) (H : Hp) : V → Bool → Prop where
  | lst {p : Addr} {xs : List V} (e : H p = some (.lst xs)) (n : xs.length ≤ 900) (t : ∀ x ∈ xs, ∃ S, Is K H x S) : NumL K H (.ref p) (xs.all numV)
  | no {v : V} {S : String} (t : Is K H v S) (n : subTy S "list" = false) : NumL K H v false
noncomputable def spNumL (K : PySem.W.Frag) : Sp := fun vs H Q _ => ∃ (v : V) (b : Bool), vs = [v] ∧ NumL K H v b ∧ ∀ H', Same H H' → Q (.bl b) H'
theorem blk1 : Blk (defScope s_is_number_list) N_is_number_list (match (defBody s_is_number_list) with | [.Return (some (.BoolOp _ [_, .Call _ [.ListComp _ _ sc _] _ _] _)) _] => sc | _ => defScope s_law) ["n"] [] :=
  ⟨rfl, by decide +kernel, by decide +kernel, by decide +kernel, by decide +kernel⟩
theorem nd1 : (capN N_is_number_list ["n"] []).Nodup := by decide +kernel
theorem ok_is_number_list (T : Txt K mg A) : FnOk P w K mg base CX0 2 A.f_is_number_list A.d_is_number_list P_is_number_list (spNumL K) := by
  have G1 : FnOk P w K mg base CX0 1 A.f_is_number A.d_is_number P_is_number (spNum K) := ok_is_number T
  refine T.F_is_number_list.ok sc_is_number_list (fun vs H Q E h => ?_) (fun cdv A outer s H vs Q E hr h => ?_)
  · obtain ⟨p, ns, rfl, _⟩ := h; rfl
  obtain ⟨v, b, rfl, nl, q⟩ := h
  refine ⟨_, pss_one (ps_ret (pe_and (pe_callB call_isi rfl T.n_isinstance b_isinstance (pa_cons (pv 0) (pa_cons (pe_bltn rfl T.n_list b_list (v := .ty "list") rfl) pa_nil)))
    (pe_one (pe_callB (call_all rfl) rfl T.n_all b_all (pa_cons (pe_comp blk1 rfl (pi_seq (pv 0)) (fun _ _ _ _ _ => pg_name (i := 0) nd1 rfl (.inl rfl)) (fun _ _ _ _ _ => pif_nil)
      (fun _ _ _ _ _ => pe_call G1 hr rfl T.m_is_number T.F_is_number.kp T.b_is_number .nil pass0 (pa_cons (pv 0) pa_nil))) pa_nil))))), ?_⟩
  cases nl with
  | @lst p xs hp hn ht =>
    refine ⟨_, rfl, _, "list", _, _, rfl, .lst hp, (Is.lst hp).kit T.kit "list", _, rfl, iteT ?_⟩
    refine ⟨_, rfl, p, rfl, ?_⟩
    refine blk_map (fun x : V => V.bl (numV x)) id (ws := xs) (.inl (by rw [List.map_id]; exact .of hp)) (small1000 (by (first | lia | omega))) (fun x hx Q hQ => ?_) ?_
    · obtain ⟨S, ty⟩ := ht x hx
      exact ⟨_, rfl, x, S, rfl, ty, hQ⟩
    intro l hl
    refine ⟨l, xs.map numV, rfl, ?_, ?_⟩
    · refine .of ?_
      rw [upd_same, List.map_map]; rfl
    · have e : (xs.map numV).all id = xs.all numV := by rw [List.all_map]; rfl
      rw [e]
      exact q _ (same_upd hl _)
  | @no v S ty n =>
    refine ⟨_, rfl, _, "list", _, _, rfl, ty.ty, ty.kit T.kit "list", _, rfl, ?_⟩
    rw [n]
    exact iteF (q _ (.refl _))
theorem NumL.ints {K : PySem.W.Frag} {H : Hp} {p : Addr} {ns : List Int} (e : H p = some (.lst (ns.map V.int))) (n : ns.length ≤ 900) : NumL K H (.ref p) (ns.all fun i => decide (0 ≤ i)) := by
  have h := NumL.lst (K := K) e (by rw [List.length_map]; exact n) (fun x hx => by obtain ⟨i, _, rfl⟩ := List.mem_map.mp hx; exact ⟨_, .int i⟩)
  have e2 : (ns.map V.int).all numV = ns.all fun i => decide (0 ≤ i) := by rw [List.all_map]; rfl
  rw [e2] at h; exact h
end
end KP

set_option linter.all false
set_option maxHeartbeats 4000000
set_option maxRecDepth 100000
namespace KP
open PySem L2 PyProof.Rows
section
variable {P : Program} {w : World} {K : PySem.W.Frag} {mg : Str → Option Value} {base : Heap} {A : Adr}

noncomputable def spNeedT : Sp := fun vs H Q _ => ∃ i : Int, vs = [.int i] ∧ 0 ≤ i ∧ Q .non H
theorem ok_need_total (T : Txt K mg A) : FnOk P w K mg base CX0 2 A.f_need_total A.d_need_total P_need_total spNeedT := by
  have G1 : FnOk P w K mg base CX0 1 A.f_is_number A.d_is_number P_is_number (spNum K) := ok_is_number T
  refine T.F_need_total.ok sc_need_total (fun vs H Q E h => ?_) (fun cdv A outer s H vs Q E hr h => ?_)
  · obtain ⟨i, rfl, _⟩ := h; rfl
  obtain ⟨i, rfl, h0, q⟩ := h
  refine ⟨_, pss_one (ps_if (pt_not (pt_val (pe_call G1 hr rfl T.m_is_number T.F_is_number.kp T.b_is_number .nil pass0 (pa_cons (pv 0) pa_nil)))) pss_never pss_nil), ?_⟩
  refine ⟨_, rfl, .int i, _, rfl, .int i, _, rfl, ?_⟩
  show if (!decide (0 ≤ i)) = true then _ else _
  rw [decide_eq_true h0]
  exact iteF q

noncomputable def spFew : Sp := fun vs H Q _ => ∃ (p : Addr) (xs : List V), vs = [.ref p] ∧ (H p = some (.lst xs) ∨ H p = some (.tup xs)) ∧ xs.length ≤ 60 ∧ ∀ H', Same H H' → Q .non H'
theorem ok_need_few (T : Txt K mg A) : FnOk P w K mg base CX0 1 A.f_need_few A.d_need_few P_need_few spFew := by
  refine T.F_need_few.ok sc_need_few (fun vs H Q E h => ?_) (fun cdv A outer s H vs Q E hr h => ?_)
  · obtain ⟨p, xs, rfl, _⟩ := h; rfl
  obtain ⟨p, xs, rfl, hp, hn, q⟩ := h
  obtain ⟨t60, hm⟩ := T.g_MOST_THINGS
  refine ⟨_, pss_cons (ps_if (pt_not (pt_val (pe_callB call_isi2 rfl T.n_isinstance b_isinstance (pa_cons (pv 0) (pa_cons (pe_tup (pa_cons (pe_bltn rfl T.n_list b_list (v := .ty "list") rfl) (pa_cons (pe_bltn rfl T.n_tuple b_tuple (v := .ty "tuple") rfl) pa_nil))) pa_nil))))) pss_never pss_nil)
    (pss_one (ps_if (pt_cmpR op_gt (pe_callB call_len_seq rfl T.n_len b_len (pa_cons (pv 0) pa_nil)) (pe_glob rfl hm (v := .int 60) ⟨t60, rfl⟩) (nomark _)) pss_never pss_nil)), ?_⟩
  refine ⟨_, rfl, (by show 2 ≤ sizeLine; decide), fun r hr0 => ?_⟩
  have s1 : Same H (upd H r (.tup [.ty "list", .ty "tuple"])) := same_upd hr0 _
  obtain ⟨t, ty, kt⟩ : ∃ t, TyOf K (upd H r (.tup [.ty "list", .ty "tuple"])) (.ref p) t ∧ PySem.W.kitAny K t [.type "list", .type "tuple"] = some true := by
    rcases hp with e | e
    · exact ⟨_, .lst (s1 _ _ e), by unfold PySem.W.kitAny PySem.W.kitOne; rfl⟩
    · refine ⟨_, .tup (s1 _ _ e), ?_⟩
      unfold PySem.W.kitAny
      rw [kit_of T.kit (S := "tuple") (T := "list") rfl rfl]
      show PySem.W.kitAny K (.type "tuple") [.type "tuple"] = some true
      unfold PySem.W.kitAny PySem.W.kitOne; rfl
  have sq : SqL K (upd H r (.tup [.ty "list", .ty "tuple"])) p xs ∨ SqT K (upd H r (.tup [.ty "list", .ty "tuple"])) p xs := hp.elim (fun e => .inl (.of (s1 _ _ e))) fun e => .inr (.of (s1 _ _ e))
  refine ⟨_, r, "list", "tuple", t, true, rfl, upd_same, ty, kt, _, rfl, iteF ?_⟩
  refine ⟨_, rfl, p, xs, rfl, sq, _, _, rfl, rfl, _, rfl, ?_⟩
  have hd : decide ((60 : Int) < (xs.length : Int)) = false := decide_eq_false (by (first | lia | omega))
  rw [hd]
  exact iteF (q _ s1)

noncomputable def spNeedW : Sp := fun vs H Q _ => ∃ (p : Addr) (ws : List Int), vs = [.ref p] ∧ WT H p ws ∧ ws.length ≤ 60 ∧ (∀ w ∈ ws, (0 : Int) ≤ w) ∧ ∀ H', Same H H' → Q .non H'
theorem ok_need_weights (T : Txt K mg A) : FnOk P w K mg base CX0 3 A.f_need_weights A.d_need_weights P_need_weights spNeedW := by
  have G1 : FnOk P w K mg base CX0 2 A.f_need_few A.d_need_few P_need_few spFew := (ok_need_few T).mono (by decide)
  have G2 : FnOk P w K mg base CX0 2 A.f_is_number_list A.d_is_number_list P_is_number_list (spNumL K) := ok_is_number_list T
  refine T.F_need_weights.ok sc_need_weights (fun vs H Q E h => ?_) (fun cdv A outer s H vs Q E hr h => ?_)
  · obtain ⟨p, ws, rfl, _⟩ := h; rfl
  obtain ⟨p, ws, rfl, hp, hn, h0, q⟩ := h
  refine ⟨_, pss_cons (ps_expr (pe_call G1 hr rfl T.m_need_few T.F_need_few.kp T.b_need_few .nil pass0 (pa_cons (pv 0) pa_nil)))
    (pss_one (ps_if (pt_not (pt_val (pe_call G2 hr rfl T.m_is_number_list T.F_is_number_list.kp T.b_is_number_list .nil pass0 (pa_cons (pe_callTy call_list_of rfl T.n_list b_list (pa_cons (pv 0) pa_nil)) pa_nil)))) pss_never pss_nil)), ?_⟩
  refine ⟨_, rfl, p, ws.map V.int, rfl, hp, by rw [List.length_map]; exact hn, fun H1 s1 => ?_⟩
  refine ⟨_, rfl, p, _, rfl, (hp.same s1).seq, fun l hl => ?_⟩
  refine ⟨.ref l, _, rfl, .ints upd_same (by (first | lia | omega)), fun H2 s2 => ?_⟩
  have e : (ws.all fun i => decide (0 ≤ i)) = true := List.all_eq_true.mpr fun i hi => decide_eq_true (h0 i hi)
  rw [e]
  refine ⟨_, rfl, iteF (q _ (s1.trans ((same_upd hl _).trans s2)))⟩

/-! share_out -/
/-- the scope of a statement's comprehension or lambda -/
noncomputable def scOf : Stmt → Scope
  | .Assign _ (.ListComp _ _ sc _) _ => sc
  | .Assign _ (.Call _ _ [⟨_, .Lambda _ _ sc _, _⟩] _) _ => sc
  | .If _ [.Return (some (.ListComp _ _ sc _)) _] _ _ => sc
  | .Return (some (.ListComp _ _ sc _)) _ => sc
  | .Return (some (.Compare (.ListComp _ _ sc _) _ _ _)) _ => sc
  | _ => { kind := .function, names := [], isGenerator := false, isCoroutine := false }
noncomputable def lpOf : Stmt → Pos
  | .Assign _ (.Call _ _ [⟨_, .Lambda _ _ _ lp, _⟩] _) _ => lp
  | _ => ⟨0, 0, 0, 0⟩
noncomputable abbrev nth (s : Stmt) (i : Nat) : Stmt := (defBody s).getD i (.Pass ⟨0, 0, 0, 0⟩)
noncomputable abbrev lpos : Pos := lpOf (nth s_share_out 6)
noncomputable abbrev lqual : Str := ((Str.ofString "share_out") ++ ".<locals>.") ++ "<lambda>"
noncomputable abbrev scA : Scope := scOf (nth s_share_out 3)
noncomputable abbrev scB : Scope := scOf (nth s_share_out 4)
noncomputable abbrev scC : Scope := scOf (nth s_share_out 5)
noncomputable abbrev scD : Scope := scOf (nth s_share_out 6)
theorem blkA : Blk (defScope s_share_out) N_share_out scA ["weight"] [] := ⟨rfl, by decide +kernel, by decide +kernel, by decide +kernel, by decide +kernel⟩
theorem blkB : Blk (defScope s_share_out) N_share_out scB ["weight"] [0, 2] := ⟨rfl, by decide +kernel, by decide +kernel, by decide +kernel, by decide +kernel⟩
theorem blkC : Blk (defScope s_share_out) N_share_out scC ["weight"] [0, 2] := ⟨rfl, by decide +kernel, by decide +kernel, by decide +kernel, by decide +kernel⟩
theorem blkD : Blk (defScope s_share_out) N_share_out scD ["place"] [4] := ⟨rfl, by decide +kernel, by decide +kernel, by decide +kernel, by decide +kernel⟩
theorem ndA : (capN N_share_out ["weight"] []).Nodup := by decide +kernel
theorem ndB : (capN N_share_out ["weight"] [0, 2]).Nodup := by decide +kernel

/-- total and weights that are good, of a size that the model takes -/
structure Good (t : Int) (ws : List Int) : Prop where
  t0 : 0 ≤ t
  tb : t < 2 ^ 190
  n : ws.length ≤ 60
  w0 : ∀ w ∈ ws, (0 : Int) ≤ w
  wb : ∀ w ∈ ws, w < 2 ^ 190
theorem Good.sum0 {t : Int} {ws : List Int} (g : Good t ws) : 0 ≤ ws.sum := SM.sum_nonneg ws g.w0
theorem Good.sumb {t : Int} {ws : List Int} (g : Good t ws) : ws.sum < 2 ^ 200 := by
  have h := SM.sum_le (2 ^ 190) ws fun w hw => Int.le_of_lt (g.wb w hw)
  have hn := g.n
  have e : (2 ^ 190 : Int) * (ws.length : Int) ≤ 2 ^ 190 * 60 := Int.mul_le_mul_of_nonneg_left (by (first | lia | omega)) (by decide)
  have e2 : (2 ^ 190 : Int) * 60 < 2 ^ 200 := by decide
  (first | lia | omega)
noncomputable def spShare (cT : Addr) : Sp := fun vs H Q _ => ∃ (t : Int) (p : Addr) (ws : List Int), vs = [.int t, .ref p] ∧ WT H p ws ∧ p ≠ cT ∧ Good t ws ∧ Tb cT lpos lqual H ∧
  ∀ (l : Addr) (H' : Hp), Sm cT lpos lqual H H' → H l = none → H' l = some (.lst ((SM.dueL t ws).map V.int)) → Q (.ref l) H'
end
end KP

set_option linter.all false
set_option maxHeartbeats 4000000
set_option maxRecDepth 100000
namespace KP
open PySem L2 PyProof.Rows
section
variable {P : Program} {w : World} {K : PySem.W.Frag} {mg : Str → Option Value} {base : Heap} {A : Adr}

theorem Good.big {t : Int} {ws : List Int} (g : Good t ws) {w : Int} (hw : w ∈ ws) : CBig t w := by
  have h1 := g.t0; have h2 := g.tb; have h3 := g.w0 w hw; have h4 := g.wb w hw
  have e : (2 ^ 190 : Int) < 2 ^ 200 := by decide
  refine ⟨⟨?_, ?_⟩, ⟨?_, ?_⟩⟩ <;> (first | lia | omega)
theorem set_int (xs : List Int) (j : Nat) (v : Int) : (xs.map V.int).set j (.int v) = (xs.set j v).map V.int := by rw [List.map_set]
theorem atI_int {xs : List Int} {j : Nat} (h : j < xs.length) : atI (xs.map V.int) (j : Int) = some (.int (xs.getD j 0)) := by
  refine atI_nat ?_
  rw [List.getElem?_map, List.getElem?_eq_getElem h, List.getD_eq_getElem?_getD, List.getElem?_eq_getElem h]; rfl
theorem ixN_nat {n j : Nat} (h : j < n) : ixN n (j : Int) = some j := by
  unfold ixN
  rw [if_pos (by (first | lia | omega)), if_pos (by (first | lia | omega))]
  simp
theorem cut_take (xs : List V) (n : Int) (h0 : 0 ≤ n) : cutV xs none (some n) = xs.take n.toNat := by
  obtain ⟨k, rfl⟩ := Int.eq_ofNat_of_zero_le h0
  unfold cutV
  rw [HT.sIx_none, HT.sIx_nat, Nat.sub_zero, List.drop_zero]
  by_cases h : k ≤ xs.length
  · rw [Nat.min_eq_left h]; simp
  · rw [Nat.min_eq_right (by (first | lia | omega)), List.take_length, List.take_of_length_le (by simp; (first | lia | omega))]

theorem ok_share_out (T : Txt K mg A) (hC : PySem.W.CodeHd base A.cC A.cT) (hbm : base.BuiltinsAt mg A.cT) : FnOk P w K mg base CX0 4 A.f_share_out A.d_share_out P_share_out (spShare A.cT) := by
  have G1 : FnOk P w K mg base CX0 3 A.f_need_total A.d_need_total P_need_total spNeedT := (ok_need_total T).mono (by decide)
  have G2 : FnOk P w K mg base CX0 3 A.f_need_weights A.d_need_weights P_need_weights spNeedW := ok_need_weights T
  refine Fun.okC T.F_share_out sc_share_out (fun vs H Q E h => ?_) (fun cdv B outer s H vs Q E hcd hr h => ?_)
  · obtain ⟨t, p, ws, rfl, _⟩ := h; rfl
  obtain ⟨t, p, ws, rfl, hp, hpT, g, tb, q⟩ := h
  have hcode : cdv = .ref A.cC := hcd.symm.trans T.code
  subst hcode
  refine ⟨_, pss_cons (ps_expr (pe_call G1 hr rfl T.m_need_total T.F_need_total.kp T.b_need_total .nil pass0 (pa_cons (pv 0) pa_nil)))
    (pss_cons (ps_expr (pe_call G2 hr rfl T.m_need_weights T.F_need_weights.kp T.b_need_weights .nil pass0 (pa_cons (pv 1) pa_nil)))
    (pss_cons (ps_set (i := 2) sc_share_out.nd rfl (Or.inr rfl) (pe_callB (call_sum rfl) rfl T.n_sum b_sum (pa_cons (pv 1) pa_nil)))
    (pss_cons (ps_if (pt_cmpR op_eq (pv 2) pe_int (nomark _)) (pss_one (ps_ret (pe_comp blkA rfl (pi_seq (pv 1)) (fun _ _ _ _ _ => pg_name (i := 0) ndA rfl (.inl rfl)) (fun _ _ _ _ _ => pif_nil) (fun _ _ _ _ _ => pe_int)))) pss_nil)
    (pss_cons (ps_setComp (i := 3) blkB rfl (pi_seq (pv 1)) (fun _ _ _ _ _ => pg_name (i := 0) ndB rfl (.inl rfl)) (fun _ _ _ _ _ => pif_nil) (fun _ _ _ _ _ => pe_op op_fdivB (pe_op op_mulB (pv 1) (pv 0)) (pv 2)) sc_share_out.nd rfl rfl)
    (pss_cons (ps_set (i := 4) sc_share_out.nd rfl (Or.inr rfl) (pe_comp blkC rfl (pi_seq (pv 1)) (fun _ _ _ _ _ => pg_name (i := 0) ndB rfl (.inl rfl)) (fun _ _ _ _ _ => pif_nil) (fun _ _ _ _ _ => pe_op op_mod (pe_op op_mulB (pv 1) (pv 0)) (pv 2))))
    (pss_cons (ps_set (i := 5) sc_share_out.nd rfl (Or.inl rfl) (pe_sort (P := A.cT) (c := A.cC) rfl hC hbm blkD rfl rfl (hr.mono (by decide)) rfl rfl rfl rfl (by decide +kernel) (by decide +kernel) (by decide +kernel) (fun _ _ _ _ _ => rfl) rfl T.n_sorted rfl T.n_range (pe_callB call_len_seq rfl T.n_len b_len (pa_cons (pv 1) pa_nil))))
    (pss_cons (ps_for PassesOwn.never rfl (pi_list (pe_slice sl_list (pv 5) po_none (po_some (pe_op op_sub (pv 0) (pe_callB (call_sum rfl) rfl T.n_sum b_sum (pa_cons (pv 3) pa_nil)))))) (pg_name (i := 6) sc_share_out.nd rfl (Or.inl rfl))
      (pss_one (ps_asg (pe_op op_add (pe_ix ix_list (pv 3) (pv 6) (fun _ _ => rfl)) pe_int) (pg_sub (pv 3) (pv 6) set_list))))
    (pss_one (ps_ret (pv 3)))))))))), ?_⟩
  refine ⟨_, rfl, t, rfl, g.t0, ?_⟩
  refine ⟨_, rfl, p, ws, rfl, hp, g.n, g.w0, fun H1 s1 => ?_⟩
  have hp1 := hp.same s1
  have hz : ws.length < sizeLine := small1000 (by have := g.n; (first | lia | omega))
  refine ⟨_, rfl, p, ws, rfl, hp1.seq, ?_⟩
  refine ⟨_, rfl, rfl, _, rfl, ite2 (fun c => ?_) (fun c => ?_)⟩
  · -- all weights are 0
    have hS : ws.sum = 0 := by
      have e : V.int ws.sum = V.int 0 := of_decide_eq_true c
      injection e
    refine ⟨_, rfl, p, rfl, blk_map (fun _ : Int => V.int 0) V.int hp1.seq hz (fun w _ Q hQ => hQ) fun l hl => ?_⟩
    refine q l _ (s1.trans (same_upd hl _)).sm (s1.free hl) ?_
    rw [upd_same]
    unfold SM.dueL
    rw [if_pos hS, List.map_map]; rfl
  · have hS0 : ws.sum ≠ 0 := fun e => c (decide_eq_true (by rw [e]))
    have hS : 0 < ws.sum := by have := g.sum0; (first | lia | omega)
    have hSb := g.sumb
    refine ⟨_, rfl, p, rfl, blk_map (fun w : Int => V.int (t * w / ws.sum)) V.int hp1.seq hz (fun w hw Q hQ => ⟨_, rfl, _, rfl, _, _, rfl, rfl, g.big hw, _, rfl, _, _, rfl, rfl, ⟨hS, hSb⟩, hQ⟩) fun l1 hl1 => ?_⟩
    have s2 : Same H1 (upd H1 l1 (.lst (ws.map fun w : Int => V.int (t * w / ws.sum)))) := same_upd hl1 _
    have hp2 := hp1.same s2
    refine ⟨_, rfl, p, rfl, blk_map (fun w : Int => V.int (t * w % ws.sum)) V.int hp2.seq hz (fun w hw Q hQ => ⟨_, rfl, _, rfl, _, _, rfl, rfl, g.big hw, _, rfl, _, _, rfl, rfl, hS, hQ⟩) fun l2 hl2 => ?_⟩
    have s3 : Same (upd H1 l1 (.lst (ws.map fun w : Int => V.int (t * w / ws.sum)))) (upd (upd H1 l1 (.lst (ws.map fun w : Int => V.int (t * w / ws.sum)))) l2 (.lst (ws.map fun w : Int => V.int (t * w % ws.sum)))) := same_upd hl2 _
    have hp3 := hp2.same s3
    have s13 : Same H _ := s1.trans (s2.trans s3)
    have eb : (ws.map fun w : Int => V.int (t * w / ws.sum)) = (SM.baseL t ws).map V.int := by unfold SM.baseL; rw [List.map_map]; rfl
    have er : (ws.map fun w : Int => V.int (t * w % ws.sum)) = (SM.restL t ws).map V.int := by unfold SM.restL; rw [List.map_map]; rfl
    have hrl : (SM.restL t ws).length = (ws.map V.int).length := by unfold SM.restL; simp
    have hbl : (SM.baseL t ws).length = ws.length := by unfold SM.baseL; simp
    have hlr := SM.left_range (t := t) hS
    generalize hH3 : upd (upd H1 l1 (.lst (ws.map fun w : Int => V.int (t * w / ws.sum)))) l2 (.lst (ws.map fun w : Int => V.int (t * w % ws.sum))) = H3 at s3 hp3 s13 ⊢
    have e2 : H3 l2 = some (.lst ((SM.restL t ws).map V.int)) := by rw [← hH3, upd_same, er]
    have e1 : H3 l1 = some (.lst ((SM.baseL t ws).map V.int)) := by rw [← eb]; exact s3 _ _ upd_same
    have tb3 : Tb A.cT lpos lqual H3 := tb.at s13
    have neT : ∀ {b : Addr} {xs : List V}, H3 b = some (.lst xs) → b ≠ A.cT := fun {b xs} e z => by
      obtain ⟨qs, hq, _⟩ := tb3
      rw [z, hq] at e; cases e
    refine ⟨_, rfl, p, ws.map V.int, rfl, hp3.seq, _, rfl, fun r hr0 => ?_⟩
    refine ⟨r, (ws.map V.int).length, H3, l2, SM.restL t ws, rfl, hr0, rfl, by rw [List.length_map]; have := g.n; (first | lia | omega), tb3, rfl, .of e2, neT e2, hrl, fun ps H4 l3 so kp4 tb4 hl3 e3 => ?_⟩
    rw [List.length_map] at so
    have e14 := kp4 _ _ (neT e1) e1
    -- for place in places[:total - sum(shares)]
    refine ⟨_, rfl, _, rfl, _, rfl, l1, SM.baseL t ws, rfl, .inl (.of e14), _, _, rfl, rfl, _, rfl, l3, _, rfl, .of e3, fun l4 hl4 => ?_⟩
    have en : t - (SM.baseL t ws).sum = SM.leftN t ws := rfl
    have hpl : ps.length = ws.length := by have := so.perm.length_eq; simpa using this
    have hcut : cutV (ps.map fun p : Nat => V.int (p : Int)) none (some (t - (SM.baseL t ws).sum)) = (ps.take (SM.leftN t ws).toNat).map fun p : Nat => V.int (p : Int) := by
      rw [en, cut_take _ _ hlr.1, List.map_take]
    have n14 : l1 ≠ l4 := ne_of_none e14 hl4
    have s5 : Same H4 (upd H4 l4 (.lst (cutV (ps.map fun p : Nat => V.int (p : Int)) none (some (t - (SM.baseL t ws).sum))))) := same_upd hl4 _
    refine ⟨l4, rfl, ⟨_, .of upd_same⟩, for_list (K := K) (a := l4) (xs := (ps.take (SM.leftN t ws).toNat).map fun p : Nat => V.int (p : Int))
      (fun i σ H' => ∃ v, σ = [some (.int t), some (.ref p), some (.int ws.sum), some (.ref l1), some (.ref l2), some (.ref l3), v] ∧
        (∀ b o, b ≠ l1 → (upd H4 l4 (.lst (cutV (ps.map fun p : Nat => V.int (p : Int)) none (some (t - (SM.baseL t ws).sum))))) b = some o → H' b = some o) ∧ H' l1 = some (.lst ((SM.addAt (SM.baseL t ws) (ps.take i)).map V.int)))
      ⟨none, rfl, fun b o _ e => e, s5 _ _ e14⟩ (fun i σ H' _ ⟨v, _, kp, _⟩ => .of (kp l4 _ n14.symm (by rw [upd_same, hcut]))) ?_ ?_⟩
    · rintro i x σ H' hx ⟨v, rfl, kp, e⟩
      rw [List.getElem?_map] at hx
      cases ei : (ps.take (SM.leftN t ws).toNat)[i]? with
      | none => rw [ei] at hx; cases hx
      | some pl =>
        rw [ei] at hx
        cases hx
        have hil : i < (SM.leftN t ws).toNat := by
          have := (List.getElem?_eq_some_iff.mp ei).1
          rw [List.length_take] at this; (first | lia | omega)
        have ei' : ps[i]? = some pl := by rw [List.getElem?_take_of_lt hil] at ei; exact ei
        have hpl2 : pl < ws.length := List.mem_range.mp (so.perm.mem_iff.mp (List.mem_of_getElem? ei'))
        have hal : (SM.addAt (SM.baseL t ws) (ps.take i)).length = ws.length := by rw [SM.addAt_length]; exact hbl
        refine ⟨_, rfl, _, rfl, l1, _, _, _, rfl, rfl, .of e, atI_int (by rw [hal]; exact hpl2), _, _, rfl, rfl, ?_⟩
        refine ⟨_, rfl, _, rfl, l1, _, _, pl, rfl, rfl, e, ixN_nat (by rw [List.length_map, hal]; exact hpl2), ?_⟩
        refine ⟨_, rfl, fun b o hb q' => by rw [upd_ne hb]; exact kp b o hb q', ?_⟩
        rw [upd_same, set_int]
        have et : ps.take (i + 1) = ps.take i ++ [pl] := by rw [List.take_add_one, ei']; rfl
        rw [et]
        unfold SM.addAt
        rw [List.foldl_append]; rfl
    · rintro σ H' ⟨v, rfl, kp, e⟩
      rw [List.length_map, List.length_take, Nat.min_eq_left (by (first | lia | omega))] at e
      refine ⟨_, rfl, ?_⟩
      have hl1n : H l1 = none := s1.free hl1
      refine q l1 H' ⟨fun b o hb q' => ?_, fun _ => ?_⟩ hl1n ?_
      · exact kp b o (ne_of_none q' hl1n) (s5 _ _ (kp4 b o hb (s13 _ _ q')))
      · obtain ⟨qs, hq, alt⟩ := tb4.at s5
        refine ⟨qs, kp _ _ (fun z => ?_) hq, ?_⟩
        · rw [z] at hq
          rw [s5 _ _ e14] at hq; cases hq
        · rcases alt with alt | ⟨c', a1, a2⟩
          · exact .inl alt
          · refine .inr ⟨c', a1, kp _ _ (fun z => ?_) a2⟩
            rw [z] at a2
            rw [s5 _ _ e14] at a2; cases a2
      · rw [e]
        unfold SM.dueL
        rw [if_neg hS0, SM.due_of_sorted hS so]
end
end KP

set_option linter.all false
set_option maxHeartbeats 4000000
set_option maxRecDepth 100000
namespace KP
open PySem L2 PyProof.Rows

theorem atI_mem {xs : List V} {i : Int} (h0 : 0 ≤ i) (h : i < xs.length) : ∃ v, atI xs i = some v ∧ v ∈ xs := by
  obtain ⟨k, rfl⟩ := Int.eq_ofNat_of_zero_le h0
  have hk : k < xs.length := by (first | lia | omega)
  exact ⟨xs[k], atI_nat (List.getElem?_eq_getElem hk), List.getElem_mem hk⟩

section
variable {P : Program} {w : World} {K : PySem.W.Frag} {mg : Str → Option Value} {base : Heap} {A : Adr}

noncomputable def spCell (K : PySem.W.Frag) : Sp := fun vs H Q _ => ∃ (a : Addr) (ns : List Int) (k : Int), vs = [.ref a, .int k] ∧ SqL K H a (ns.map V.int) ∧ ns.length ≤ 63 ∧ 0 ≤ k ∧ ∀ v : Int, Q (.int v) H
theorem ok_cell (T : Txt K mg A) : FnOk P w K mg base CX0 1 A.f_l_cell_at A.d_l_cell_at P_l_cell_at (spCell K) := by
  refine T.F_l_cell_at.ok sc_l_cell_at (fun vs H Q E h => ?_) (fun cdv B outer s H vs Q E hr h => ?_)
  · obtain ⟨a, ns, k, rfl, _⟩ := h; rfl
  obtain ⟨a, ns, k, rfl, hS, hn, h0, q⟩ := h
  refine ⟨_, pss_cons (ps_if (pt_cmpR op_lt (pv 1) (pe_callB call_len_seq rfl T.n_len b_len (pa_cons (pv 0) pa_nil)) (nomark _)) (pss_one (ps_ret (pe_ix ix_list (pv 0) (pv 1) (fun _ _ => rfl)))) pss_nil) (pss_one (ps_ret pe_int)), ?_⟩
  refine ⟨_, rfl, _, rfl, a, _, rfl, .inl hS, _, _, rfl, rfl, _, rfl, ite2 (fun c => ?_) (fun c => ?_)⟩
  · have c' : k < (((ns.map V.int).length : Nat) : Int) := of_decide_eq_true c
    rw [List.length_map] at c'
    obtain ⟨j, rfl⟩ := Int.eq_ofNat_of_zero_le h0
    exact ⟨_, rfl, _, rfl, a, _, _, _, rfl, rfl, hS, atI_int (by (first | lia | omega)), q _⟩
  · exact q 0

/-- the law's state: a list of one number -/
noncomputable def St (st : Addr) (H : Hp) : Prop := ∃ s : Int, H st = some (.lst [.int s]) ∧ 0 ≤ s ∧ s < 2147483648
/-- all but the state is as it was -/
structure Ms (st : Addr) (H H' : Hp) : Prop where
  keep : ∀ b o, b ≠ st → H b = some o → H' b = some o
  st : St st H'
theorem Ms.trans {st : Addr} {H H1 H2 : Hp} (a : Ms st H H1) (b : Ms st H1 H2) : Ms st H H2 := ⟨fun c o n h => b.keep c o n (a.keep c o n h), b.st⟩
theorem Ms.of {st : Addr} {H H' : Hp} (h : St st H) (e : Same H H') : Ms st H H' := ⟨fun b o _ q => e b o q, let ⟨s, a, b⟩ := h; ⟨s, e _ _ a, b⟩⟩
theorem Ms.grow {st : Addr} {H H1 H2 : Hp} (a : Ms st H H1) (e : Same H1 H2) : Ms st H H2 := a.trans (.of a.st e)
/-- the script: not the state, or of the written part -/
noncomputable def Off (K : PySem.W.Frag) (a st : Addr) (xs : List V) : Prop := a ≠ st ∨ ∀ H : Hp, SqL K H a xs
theorem Off.of {H : Hp} {a st : Addr} {xs : List V} (h : SqL K H a xs) (e : H st = none) : Off K a st xs := by
  rcases h with (h | ⟨o, h⟩) | h
  · exact .inl fun z => by rw [z, e] at h; cases h
  · exact .inl fun z => by rw [z, e] at h; cases h
  · exact .inr fun _ => .inr h
theorem Ms.seq {st : Addr} {H H' : Hp} {a : Addr} {xs : List V} (m : Ms st H H') (n : Off K a st xs) (h : SqL K H a xs) : SqL K H' a xs := by
  rcases n with n | n
  · rcases h with (h | ⟨o, h⟩) | h
    · exact .inl (.inl (m.keep _ _ n h))
    · exact .inl (.inr ⟨o, m.keep _ _ n h⟩)
    · exact .inr h
  · exact n _
theorem Ms.free {st : Addr} {H H' : Hp} (m : Ms st H H') (hs : St st H) {l : Addr} (h : H' l = none) : H l = none := by
  cases q : H l with
  | none => rfl
  | some o =>
    by_cases e : l = st
    · obtain ⟨s, a, _⟩ := m.st
      rw [e, a] at h; cases h
    · rw [m.keep l o e q] at h; cases h

noncomputable def spMix : Sp := fun vs H Q _ => ∃ (p : Addr) (c : Int), vs = [.ref p, .int c] ∧ St p H ∧ ∀ (r : Int) (H' : Hp), 0 ≤ r → r < 2147483648 → Ms p H H' → (∀ b, H b = none → H' b = none) → Q (.int r) H'
theorem ok_mix (T : Txt K mg A) : FnOk P w K mg base CX0 1 A.f_l_mix A.d_l_mix P_l_mix spMix := by
  refine T.F_l_mix.ok sc_l_mix (fun vs H Q E h => ?_) (fun cdv B outer s H vs Q E hr h => ?_)
  · obtain ⟨p, c, rfl, _⟩ := h; rfl
  obtain ⟨p, c, rfl, ⟨s0, hp, h0, h1⟩, q⟩ := h
  refine ⟨_, pss_cons (ps_asg (pe_op op_mod (pe_op op_add (pe_op op_add (pe_op op_mul (pe_ix ix_list (pv 0) pe_int (fun _ _ => rfl)) pe_int) (pe_op op_mul (pv 1) pe_int)) pe_int) pe_int) (pg_sub (pv 0) pe_int set_list))
    (pss_one (ps_ret (pe_op op_fdiv (pe_op op_mod (pe_op op_mul (pe_ix ix_list (pv 0) pe_int (fun _ _ => rfl)) (pe_ix ix_list (pv 0) pe_int (fun _ _ => rfl))) pe_int) pe_int))), ?_⟩
  refine ⟨_, rfl, p, _, _, _, rfl, rfl, .of hp, rfl, _, _, rfl, rfl, .inl ⟨by (first | lia | omega), by (first | lia | omega)⟩, _, rfl, _, _, rfl, rfl, .inr ⟨by decide, by decide⟩, _, _, rfl, rfl, _, _, rfl, rfl, _, _, rfl, rfl, (by show (0 : Int) < 2147483647; decide), ?_⟩
  refine ⟨_, rfl, p, _, _, 0, rfl, rfl, hp, rfl, ?_⟩
  generalize hs1 : (s0 * 48271 + c * 16807 + 11) % 2147483647 = s1
  have b0 : 0 ≤ s1 := by rw [← hs1]; exact Int.emod_nonneg _ (by decide)
  have b1 : s1 < 2147483647 := by rw [← hs1]; exact Int.emod_lt_of_pos _ (by decide)
  refine ⟨_, rfl, p, _, _, _, rfl, rfl, .of upd_same, rfl, _, rfl, p, _, _, _, rfl, rfl, .of upd_same, rfl, _, _, rfl, rfl, .inl ⟨by (first | lia | omega), by (first | lia | omega)⟩, _, _, rfl, rfl, (by show (0 : Int) < 2147483647; decide), _, _, rfl, rfl, ⟨by decide, by decide⟩, ?_⟩
  generalize hz : s1 * s1 % 2147483647 = z
  have c0 : 0 ≤ z := by rw [← hz]; exact Int.emod_nonneg _ (by decide)
  have c1 : z < 2147483647 := by rw [← hz]; exact Int.emod_lt_of_pos _ (by decide)
  refine q _ _ (by (first | lia | omega)) (by (first | lia | omega)) ⟨fun b o n e => by rw [upd_ne n]; exact e, ⟨s1, by rw [upd_same]; show some (HO.lst [V.int ((s0 * 48271 + c * 16807 + 11) % 2147483647)]) = _; rw [hs1], b0, by (first | lia | omega)⟩⟩ fun b e => ?_
  rw [upd_ne (fun z => by rw [z, hp] at e; cases e)]; exact e
end
end KP

set_option linter.all false
set_option maxHeartbeats 4000000
set_option maxRecDepth 100000
namespace KP
open PySem L2 PyProof.Rows
open FM (Pt GoodPt)
noncomputable abbrev PA := List (Pt × Addr)
noncomputable abbrev PA.ps (pa : PA) : List Pt := pa.map (·.1)
noncomputable def ptV (p : Pt) : List V := [.int p.b, .int p.l, .int p.m, .int p.w]
/-- parts, in a list or a tuple -/
structure PartsAt (H : Hp) (p : Addr) (pa : PA) : Prop where
  seq : H p = some (.lst (pa.map fun x => V.ref x.2)) ∨ H p = some (.tup (pa.map fun x => V.ref x.2))
  it : ∀ x ∈ pa, H x.2 = some (.tup (ptV x.1))
structure GoodPa (pa : PA) : Prop where
  n : pa.length ≤ 60
  good : ∀ x ∈ pa, GoodPt x.1
theorem GoodPa.ps {pa : PA} (g : GoodPa pa) : ∀ p ∈ pa.ps, GoodPt p := fun p hp => by obtain ⟨x, hx, rfl⟩ := List.mem_map.mp hp; exact g.good x hx
section
variable {P : Program} {w : World} {K : PySem.W.Frag} {mg : Str → Option Value} {base : Heap} {A : Adr}
theorem PartsAt.same {H H' : Hp} {p : Addr} {pa : PA} (h : PartsAt H p pa) (e : Same H H') : PartsAt H' p pa := ⟨h.seq.elim (fun q => .inl (e _ _ q)) fun q => .inr (e _ _ q), fun x hx => e _ _ (h.it x hx)⟩
theorem PartsAt.sm {cT : Addr} {lp : Pos} {lq : Str} {H H' : Hp} {p : Addr} {pa : PA} (h : PartsAt H p pa) (t : Tb cT lp lq H) (e : Sm cT lp lq H H') : PartsAt H' p pa :=
  ⟨h.seq.elim (fun q => .inl (e.all _ _ (t.ne q) q)) fun q => .inr (e.all _ _ (t.neT q) q), fun x hx => e.all _ _ (t.neT (h.it x hx)) (h.it x hx)⟩
theorem PartsAt.sq {H : Hp} {p : Addr} {pa : PA} (h : PartsAt H p pa) : SqL K H p (pa.map fun x => V.ref x.2) ∨ SqT K H p (pa.map fun x => V.ref x.2) := h.seq.elim (fun q => .inl (.of q)) fun q => .inr (.of q)
theorem PartsAt.sqx {H : Hp} {p : Addr} {pa : PA} (h : PartsAt H p pa) : ∃ q, ∀ H', Same H H' → SqX K q H' p (pa.map fun x => V.ref x.2) := by
  rcases h.seq with e | e
  · exact ⟨true, fun H' s => .inl ⟨rfl, .of (s _ _ e)⟩⟩
  · exact ⟨false, fun H' s => .inr ⟨rfl, .of (s _ _ e)⟩⟩

noncomputable def spPart : Sp := fun vs H Q _ => ∃ (a : Addr) (p : Pt), vs = [.ref a] ∧ H a = some (.tup (ptV p)) ∧ GoodPt p ∧ ∀ H', Same H H' → Q (.bl true) H'
theorem ok_is_part (T : Txt K mg A) : FnOk P w K mg base CX0 3 A.f_is_part A.d_is_part P_is_part spPart := by
  have G_is_number_list : FnOk P w K mg base CX0 2 A.f_is_number_list A.d_is_number_list P_is_number_list (spNumL K) := ok_is_number_list T
  refine T.F_is_part.ok sc_is_part (fun vs H Q E h => ?_) (fun cdv B outer s H vs Q E hr h => ?_)
  · obtain ⟨a, p, rfl, _⟩ := h; rfl
  obtain ⟨a, p, rfl, ha, g, q⟩ := h
  obtain ⟨tM, hg_MOST_PART⟩ := T.g_MOST_PART
  refine ⟨_, @pss_cons _ _ _ _ _ (ps_if (PW.pt (pw_or (pt_not (pt_val (pe_callB call_isi rfl T.n_isinstance b_isinstance (pa_cons (pv 0) (pa_cons (pe_bltn rfl T.n_tuple b_tuple (v := .ty "tuple") rfl) pa_nil))))) (pw_or1 (pt_cmpR op_ne (pe_callB call_len_seq rfl T.n_len b_len (pa_cons (pv 0) pa_nil)) pe_int (nomark _))))) (pss_one (ps_ret pe_bl)) pss_nil)
    (@pss_cons _ _ _ _ _ (ps_if (PW.pt (pw_or (pt_not (pt_val (pe_call G_is_number_list hr rfl T.m_is_number_list T.F_is_number_list.kp T.b_is_number_list .nil pass0 (pa_cons (pe_callTy call_list_of rfl T.n_list b_list (pa_cons (pv 0) pa_nil)) pa_nil)))) (pw_or1 (pt_cmpR op_gt (pe_callB (call_maxTup rfl) rfl T.n_max b_max (pa_cons (pv 0) pa_nil)) (pe_glob rfl hg_MOST_PART (v := .int 9999) ⟨_, rfl⟩) (nomark _))))) (pss_one (ps_ret pe_bl)) pss_nil)
    (pss_one (ps_ret (pe_chain op_le op_le (pe_ix ix_tup (pv 0) pe_int (fun _ _ => rfl)) (pe_ix ix_tup (pv 0) pe_int (fun _ _ => rfl)) (pe_ix ix_tup (pv 0) pe_int (fun _ _ => rfl)))))), ?_⟩
  have g1 := g.l0; have g2 := g.lb; have g3 := g.bm; have g4 := g.m9; have g5 := g.w0; have g6 := g.w9
  refine ⟨_, rfl, _, "tuple", _, _, rfl, .tup ha, (Is.tup ha).kit T.kit "tuple", _, rfl, iteF ⟨_, rfl, a, _, rfl, .inr (.of ha), rfl, _, rfl, iteF ?_⟩⟩
  refine ⟨_, rfl, a, _, rfl, .inr (.of ha), fun l hl => ?_⟩
  have s1 := same_upd hl (.lst (ptV p))
  refine ⟨.ref l, _, rfl, .ints (ns := [p.b, p.l, p.m, p.w]) upd_same (by simp), fun H2 s2 => ⟨_, rfl, ?_⟩⟩
  have e : ([p.b, p.l, p.m, p.w].all fun i => decide (0 ≤ i)) = true := by
    simp only [List.all_cons, List.all_nil, Bool.and_true, Bool.and_eq_true, decide_eq_true_eq]
    exact ⟨by (first | lia | omega), by (first | lia | omega), by (first | lia | omega), by (first | lia | omega)⟩
  rw [e]
  have ha2 := s2 _ _ (s1 _ _ ha)
  refine iteF ⟨_, rfl, a, [p.b, p.l, p.m, p.w], rfl, .of ha2, by simp, fun M hM hmax => ⟨_, _, rfl, rfl, _, rfl, ?_⟩⟩
  have hM9 : M ≤ 9999 := by
    simp only [List.mem_cons, List.not_mem_nil, or_false] at hM
    rcases hM with rfl | rfl | rfl | rfl <;> (first | lia | omega)
  rw [decide_eq_false (show ¬ (9999 : Int) < M by (first | lia | omega))]
  refine iteF ⟨_, rfl, a, _, 1, _, rfl, rfl, .of ha2, rfl, _, rfl, a, _, 0, _, rfl, rfl, .of ha2, rfl, _, _, rfl, rfl, _, rfl, ?_⟩
  rw [decide_eq_true g2]
  refine iteT ⟨_, rfl, a, _, 2, _, rfl, rfl, .of ha2, rfl, _, _, rfl, rfl, ?_⟩
  show Q (.bl (decide (p.b ≤ p.m))) H2
  rw [decide_eq_true g3]
  exact q _ (s1.trans s2)

noncomputable abbrev sc_need_parts_0 : Scope := (match defBody s_need_parts with | _ :: (.If (.UnaryOp _ (.Call _ ((.ListComp _ _ sc _) :: _) _ _) _) _ _ _) :: _ => sc | _ => defScope s_need_parts)
theorem blk_need_parts_0 : Blk (defScope s_need_parts) N_need_parts sc_need_parts_0 ["part"] [] := ⟨rfl, by decide +kernel, by decide +kernel, by decide +kernel, by decide +kernel⟩
theorem nd_need_parts_0 : (capN N_need_parts ["part"] []).Nodup := by decide +kernel
noncomputable def spNeedP : Sp := fun vs H Q _ => ∃ (p : Addr) (pa : PA), vs = [.ref p] ∧ PartsAt H p pa ∧ GoodPa pa ∧ ∀ H', Same H H' → Q .non H'
theorem ok_need_parts (T : Txt K mg A) : FnOk P w K mg base CX0 4 A.f_need_parts A.d_need_parts P_need_parts spNeedP := by
  have G_need_few : FnOk P w K mg base CX0 3 A.f_need_few A.d_need_few P_need_few spFew := (ok_need_few T).mono (by decide)
  have G_is_part : FnOk P w K mg base CX0 3 A.f_is_part A.d_is_part P_is_part spPart := ok_is_part T
  refine T.F_need_parts.ok sc_need_parts (fun vs H Q E h => ?_) (fun cdv B outer s H vs Q E hr h => ?_)
  · obtain ⟨p, pa, rfl, _⟩ := h; rfl
  obtain ⟨p, pa, rfl, hp, g, q⟩ := h
  have hn := g.n
  refine ⟨_, @pss_cons _ _ _ _ _ (ps_expr (pe_call G_need_few hr rfl T.m_need_few T.F_need_few.kp T.b_need_few .nil pass0 (pa_cons (pv 0) pa_nil)))
    (pss_one (ps_if (pt_not (pt_val (pe_callB (call_all rfl) rfl T.n_all b_all (pa_cons (pe_comp blk_need_parts_0 rfl (pi_seq (pv 0)) (fun _ _ _ _ _ => pg_name (i := 0) nd_need_parts_0 rfl (.inl rfl)) (fun _ _ _ _ _ => pif_nil) (fun _ _ _ _ _ => pe_call G_is_part hr rfl T.m_is_part T.F_is_part.kp T.b_is_part .nil pass0 (pa_cons (pv 0) pa_nil))) pa_nil)))) pss_never pss_nil)), ?_⟩
  refine ⟨_, rfl, p, _, rfl, hp.seq, by rw [List.length_map]; exact hn, fun H1 s1 => ?_⟩
  have hp1 := hp.same s1
  refine ⟨_, rfl, p, rfl, blk_mapS (fun _ : Pt × Addr => V.bl true) (fun x => V.ref x.2) hp1.sq (small1000 (by (first | lia | omega))) (fun x hx H2 Q2 s2 k => ?_) (fun H2 s2 => ?_)⟩
  · exact ⟨_, rfl, x.2, x.1, rfl, s2 _ _ (hp1.it x hx), g.good x hx, k⟩
  · intro l hl
    refine ⟨l, pa.map fun _ => true, rfl, .of (by rw [upd_same, List.map_map]; rfl), _, rfl, ?_⟩
    have e : (pa.map fun _ => true).all id = true := List.all_eq_true.mpr fun x hx => by obtain ⟨_, _, rfl⟩ := List.mem_map.mp hx; rfl
    rw [e]
    exact iteF (q _ (s1.trans (s2.trans (same_upd hl _))))

noncomputable abbrev sc_begins_of_0 : Scope := (match defBody s_begins_of with | (.Return (some (.ListComp _ _ sc _)) _) :: _ => sc | _ => defScope s_begins_of)
theorem blk_begins_of_0 : Blk (defScope s_begins_of) N_begins_of sc_begins_of_0 ["begin", "least", "most", "weight"] [] := ⟨rfl, by decide +kernel, by decide +kernel, by decide +kernel, by decide +kernel⟩
theorem nd_begins_of_0 : (capN N_begins_of ["begin", "least", "most", "weight"] []).Nodup := by decide +kernel
noncomputable def spBegins : Sp := fun vs H Q _ => ∃ (p : Addr) (pa : PA), vs = [.ref p] ∧ PartsAt H p pa ∧ GoodPa pa ∧ ∀ l H', Same H H' → H l = none → H' l = some (.lst ((pa.ps.map fun x => x.b).map V.int)) → Q (.ref l) H'
theorem ok_begins_of (T : Txt K mg A) : FnOk P w K mg base CX0 1 A.f_begins_of A.d_begins_of P_begins_of spBegins := by
  refine T.F_begins_of.ok sc_begins_of (fun vs H Q E h => ?_) (fun cdv B outer s H vs Q E hr h => ?_)
  · obtain ⟨p, pa, rfl, _⟩ := h; rfl
  obtain ⟨p, pa, rfl, hp, g, q⟩ := h
  have hn := g.n
  refine ⟨_, pss_one (ps_ret (pe_comp blk_begins_of_0 rfl (pi_seq (pv 0)) (fun _ _ _ _ _ => pg_tupK (K := K) (n := 4) rfl rfl (pgs_cons (pg_name (i := 0) nd_begins_of_0 rfl (.inl rfl)) (pgs_cons (pg_name (i := 1) nd_begins_of_0 rfl (.inl rfl)) (pgs_cons (pg_name (i := 2) nd_begins_of_0 rfl (.inl rfl)) (pgs_cons (pg_name (i := 3) nd_begins_of_0 rfl (.inl rfl)) pgs_nil)))) rfl rfl) (fun _ _ _ _ _ => pif_nil) (fun _ _ _ _ _ => pv 0))), ?_⟩
  refine ⟨_, rfl, p, rfl, blk_quads (fun x : Pt × Addr => x.2) (fun x => .int x.1.b) (fun x => .int x.1.l) (fun x => .int x.1.m) (fun x => .int x.1.w) (fun x => .int x.1.b) hp.sq (small1000 (by (first | lia | omega))) (fun x hx => .of (hp.it x hx)) (fun x hx Q hQ => ⟨_, rfl, hQ⟩) fun l hl => ?_⟩
  exact q l _ (same_upd hl _) hl (by rw [upd_same, List.map_map, List.map_map]; rfl)

theorem min_if (i j : Int) : (if j < i then j else i) = min i j := by
  split
  · rw [Int.min_eq_right (by (first | lia | omega))]
  · rw [Int.min_eq_left (by (first | lia | omega))]
theorem wts_eq (pa : PA) (rooms : List Int) : List.zipWith (fun (x : Pt × Addr) (r : Int) => V.int (if 0 < r then x.1.w else 0)) pa rooms = (FM.wts pa.ps rooms).map V.int := by
  unfold FM.wts PA.ps
  rw [List.zipWith_map_left, List.map_zipWith]
theorem given_eq (lack : Int) (ps : List Pt) (rooms : List Int) : List.zipWith (fun s r : Int => V.int (if r < s then r else s)) (SM.dueL lack (FM.wts ps rooms)) rooms = (FM.given lack ps rooms).map V.int := by
  unfold FM.given
  rw [List.map_zipWith]
  congr 1
  funext s r
  rw [min_if]
theorem goodW {lack : Int} {pa : PA} {rooms : List Int} (g : GoodPa pa) (h0 : 0 ≤ lack) (h1 : lack < 2 ^ 150) (hl : rooms.length = pa.length) : Good lack (FM.wts pa.ps rooms) := by
  have r := FM.wts_range (rooms := rooms) g.ps
  refine ⟨h0, Int.lt_trans h1 (by decide), ?_, fun w hw => (r w hw).1, fun w hw => Int.lt_of_le_of_lt (r w hw).2 (by decide)⟩
  rw [FM.wts_len (by rw [hl]; simp)]
  simp; exact g.n
noncomputable abbrev sc_given_once_0 : Scope := (match defBody s_given_once with | (.Assign _ (.ListComp _ _ sc _) _) :: _ => sc | _ => defScope s_given_once)
theorem blk_given_once_0 : Blk (defScope s_given_once) N_given_once sc_given_once_0 ["part", "room"] [] := ⟨rfl, by decide +kernel, by decide +kernel, by decide +kernel, by decide +kernel⟩
theorem nd_given_once_0 : (capN N_given_once ["part", "room"] []).Nodup := by decide +kernel
noncomputable abbrev sc_given_once_1 : Scope := (match defBody s_given_once with | _ :: _ :: (.Return (some (.ListComp _ _ sc _)) _) :: _ => sc | _ => defScope s_given_once)
theorem blk_given_once_1 : Blk (defScope s_given_once) N_given_once sc_given_once_1 ["share", "room"] [] := ⟨rfl, by decide +kernel, by decide +kernel, by decide +kernel, by decide +kernel⟩
theorem nd_given_once_1 : (capN N_given_once ["share", "room"] []).Nodup := by decide +kernel
noncomputable def spGiven (cT : Addr) : Sp := fun vs H Q _ => ∃ (lack : Int) (p rm : Addr) (pa : PA) (rooms : List Int), vs = [.int lack, .ref p, .ref rm] ∧ PartsAt H p pa ∧ GoodPa pa ∧ H rm = some (.lst (rooms.map V.int)) ∧ rooms.length = pa.length ∧ 0 ≤ lack ∧ lack < 2 ^ 150 ∧ Tb cT lpos lqual H ∧
  ∀ l H', Sm cT lpos lqual H H' → H l = none → H' l = some (.lst ((FM.given lack pa.ps rooms).map V.int)) → Q (.ref l) H'
theorem ok_given_once (T : Txt K mg A) (hC : PySem.W.CodeHd base A.cC A.cT) (hbm : base.BuiltinsAt mg A.cT) : FnOk P w K mg base CX0 5 A.f_given_once A.d_given_once P_given_once (spGiven A.cT) := by
  have G_share_out : FnOk P w K mg base CX0 4 A.f_share_out A.d_share_out P_share_out (spShare A.cT) := ok_share_out T hC hbm
  refine T.F_given_once.ok sc_given_once (fun vs H Q E h => ?_) (fun cdv B outer s H vs Q E hr h => ?_)
  · obtain ⟨lack, p, rm, pa, rooms, rfl, _⟩ := h; rfl
  obtain ⟨lack, p, rm, pa, rooms, rfl, hp, g, hrm, hlen, h0, h1, tb, q⟩ := h
  have hn := g.n
  refine ⟨_, @pss_cons _ _ _ _ _ (ps_setComp (i := 3) blk_given_once_0 rfl (pi_zip rfl T.n_zip (pa_cons (pv 1) (pa_cons (pv 2) pa_nil))) (fun _ _ _ _ _ => pg_tupK (K := K) (n := 2) rfl rfl (pgs_cons (pg_name (i := 0) nd_given_once_0 rfl (.inl rfl)) (pgs_cons (pg_name (i := 1) nd_given_once_0 rfl (.inl rfl)) pgs_nil)) rfl rfl) (fun _ _ _ _ _ => pif_nil) (fun _ _ _ _ _ => pe_ifExp (pt_cmpR op_gt (pv 1) pe_int (nomark _)) (pe_ix (ix_tupK (K := K) rfl) (pv 0) pe_int (fun _ _ => rfl)) pe_int) sc_given_once.nd rfl rfl)
    (@pss_cons _ _ _ _ _ (ps_set (i := 4) sc_given_once.nd rfl (Or.inl rfl) (pe_call G_share_out hr rfl T.m_share_out T.F_share_out.kp T.b_share_out .nil pass0 (pa_cons (pv 0) (pa_cons (pv 3) pa_nil))))
    (pss_one (ps_ret (pe_comp blk_given_once_1 rfl (pi_zip rfl T.n_zip (pa_cons (pv 4) (pa_cons (pv 2) pa_nil))) (fun _ _ _ _ _ => pg_tupK (K := K) (n := 2) rfl rfl (pgs_cons (pg_name (i := 0) nd_given_once_1 rfl (.inl rfl)) (pgs_cons (pg_name (i := 1) nd_given_once_1 rfl (.inl rfl)) pgs_nil)) rfl rfl) (fun _ _ _ _ _ => pif_nil) (fun _ _ _ _ _ => pe_callB (call_min2 rfl) rfl T.n_min b_min (pa_cons (pv 0) (pa_cons (pv 1) pa_nil))))))), ?_⟩
  obtain ⟨qk, hx⟩ := hp.sqx (K := K)
  refine ⟨_, rfl, _, rfl, p, rm, _, _, qk, rfl, hx H (.refl _), .of hrm, blk_zip (fun x : Pt × Addr => V.ref x.2) V.int (fun x r => V.int (if 0 < r then x.1.w else 0)) hx (fun H' s' => .of (s' _ _ hrm)) hlen.symm (small1000 (by (first | lia | omega))) (fun x y H2 Q2 hm s2 k => ?_) (fun H2 s2 => ?_)⟩
  · refine ⟨_, rfl, _, _, rfl, rfl, _, rfl, ite2 (fun c => ?_) (fun c => ?_)⟩
    · have c' : 0 < y := of_decide_eq_true c
      rw [if_pos c'] at k
      exact ⟨_, rfl, x.2, _, 3, _, rfl, rfl, .of (s2 _ _ (hp.it x (List.of_mem_zip hm).1)), rfl, k _ (.refl _)⟩
    · have c' : ¬ 0 < y := fun z => c (decide_eq_true z)
      rw [if_neg c'] at k
      exact k _ (.refl _)
  intro l hl
  rw [wts_eq]
  have s3 := s2.trans (same_upd hl (.lst ((FM.wts pa.ps rooms).map V.int)))
  have B3 := tb.at s3
  refine ⟨_, rfl, _, rfl, lack, l, FM.wts pa.ps rooms, rfl, .inl upd_same, (tb.at s2).neN hl, goodW g h0 h1 hlen, B3, fun sl H4 m4 f4 e4 => ?_⟩
  have m04 : Sm A.cT lpos lqual H H4 := s3.sm.trans m4
  have hrm4 := m04.all _ _ (tb.ne hrm) hrm
  have hdl : (SM.dueL lack (FM.wts pa.ps rooms)).length = rooms.length := by rw [SM.dueL_len, FM.wts_len (by rw [hlen]; simp), hlen]; simp
  refine ⟨_, rfl, _, rfl, sl, rm, _, _, true, rfl, .inl ⟨rfl, .of e4⟩, .of hrm4, blk_zip V.int V.int (fun s r : Int => V.int (if r < s then r else s)) (fun H' s' => .inl ⟨rfl, .of (s' _ _ e4)⟩) (fun H' s' => .of (s' _ _ hrm4)) hdl (small1000 (by (first | lia | omega))) (fun x y H5 Q5 hm s5 k => ⟨_, rfl, _, rfl, _, _, rfl, k _ (.refl _)⟩) (fun H5 s5 => ?_)⟩
  intro l2 hl2
  refine q l2 _ (m04.trans (s5.trans (same_upd hl2 _)).sm) (m04.free tb (s5.free hl2)) ?_
  rw [upd_same, given_eq]
end
end KP

set_option linter.all false
set_option maxHeartbeats 4000000
set_option maxRecDepth 100000
namespace KP
open PySem L2 PyProof.Rows
open FM (Pt GoodPt)
noncomputable abbrev RA := List (List Int × Addr)
noncomputable abbrev RA.rows (ra : RA) : List (List Int) := ra.map (·.1)
noncomputable abbrev RA.adr (ra : RA) : List Addr := ra.map (·.2)
structure RowsAt (H : Hp) (l : Addr) (ra : RA) : Prop where
  lst : H l = some (.lst (ra.map fun x => V.ref x.2))
  it : ∀ x ∈ ra, H x.2 = some (.lst (x.1.map V.int))
/-- all new, no two alike -/
structure Fresh (H : Hp) (l : Addr) (ra : RA) : Prop where
  l0 : H l = none
  it : ∀ x ∈ ra, H x.2 = none
  nd : ra.adr.Nodup
  nl : l ∉ ra.adr
theorem RowsAt.same {H H' : Hp} {l : Addr} {ra : RA} (h : RowsAt H l ra) (e : Same H H') : RowsAt H' l ra := ⟨e _ _ h.lst, fun x hx => e _ _ (h.it x hx)⟩
theorem RowsAt.sm {cT : Addr} {lp : Pos} {lq : Str} {H H' : Hp} {l : Addr} {ra : RA} (h : RowsAt H l ra) (t : Tb cT lp lq H) (e : Sm cT lp lq H H') : RowsAt H' l ra := ⟨e.all _ _ (t.ne h.lst) h.lst, fun x hx => e.all _ _ (t.ne (h.it x hx)) (h.it x hx)⟩
/-- one row more -/
theorem RowsAt.add {H : Hp} {l r : Addr} {ra : RA} {row : List Int} (h : RowsAt H l ra) (hr : H r = some (.lst (row.map V.int))) (n1 : l ∉ ra.adr) (n2 : r ≠ l) : RowsAt (upd H l (.lst ((ra.map fun x => V.ref x.2) ++ [.ref r]))) l (ra ++ [(row, r)]) := by
  refine ⟨by rw [upd_same, List.map_append]; rfl, fun x hx => ?_⟩
  rcases List.mem_append.mp hx with h1 | h1
  · rw [upd_ne (fun z => n1 (List.mem_map.mpr ⟨x, h1, z⟩))]; exact h.it x h1
  · rw [List.mem_singleton.mp h1, upd_ne n2]; exact hr
theorem Fresh.add {H : Hp} {l r : Addr} {ra : RA} {row : List Int} (h : Fresh H l ra) (hr : H r = none) (n1 : r ∉ ra.adr) (n2 : r ≠ l) : Fresh H l (ra ++ [(row, r)]) := by
  refine ⟨h.l0, fun x hx => ?_, ?_, ?_⟩
  · rcases List.mem_append.mp hx with h1 | h1
    · exact h.it x h1
    · rw [List.mem_singleton.mp h1]; exact hr
  · show ((ra ++ [(row, r)]).map (·.2)).Nodup
    rw [List.map_append]
    refine List.nodup_append.mpr ⟨h.nd, by simp, fun a ha b hb => ?_⟩
    have e : b = r := by simpa using hb
    rw [e]
    exact fun z => n1 (z ▸ ha)
  · show l ∉ (ra ++ [(row, r)]).map (·.2)
    rw [List.map_append]
    intro z
    rcases List.mem_append.mp z with z | z
    · exact h.nl z
    · have e : l = r := by simpa using z
      exact n2 e.symm
section
variable {P : Program} {w : World} {K : PySem.W.Frag} {mg : Str → Option Value} {base : Heap} {A : Adr}
theorem psmap {α : Type} (pa : PA) (f : Pt → α) : (pa.map fun x => f x.1) = pa.ps.map f := by unfold PA.ps; rw [List.map_map]; rfl
noncomputable abbrev sc_given_rounds_0 : Scope := (match defBody s_given_rounds with | (.Assign _ (.ListComp _ _ sc _) _) :: _ => sc | _ => defScope s_given_rounds)
theorem blk_given_rounds_0 : Blk (defScope s_given_rounds) N_given_rounds sc_given_rounds_0 ["begin", "least", "most", "weight"] [] := ⟨rfl, by decide +kernel, by decide +kernel, by decide +kernel, by decide +kernel⟩
theorem nd_given_rounds_0 : (capN N_given_rounds ["begin", "least", "most", "weight"] []).Nodup := by decide +kernel
noncomputable abbrev sc_given_rounds_1 : Scope := (match defBody s_given_rounds with | _ :: _ :: (.While _ (_ :: _ :: _ :: (.Assign _ (.ListComp _ _ sc _) _) :: _) _ _) :: _ => sc | _ => defScope s_given_rounds)
theorem blk_given_rounds_1 : Blk (defScope s_given_rounds) N_given_rounds sc_given_rounds_1 ["room", "cells"] [] := ⟨rfl, by decide +kernel, by decide +kernel, by decide +kernel, by decide +kernel⟩
theorem nd_given_rounds_1 : (capN N_given_rounds ["room", "cells"] []).Nodup := by decide +kernel
noncomputable def spGivenR (cT : Addr) : Sp := fun vs H Q _ => ∃ (lack : Int) (p : Addr) (pa : PA), vs = [.int lack, .ref p] ∧ PartsAt H p pa ∧ GoodPa pa ∧ 0 ≤ lack ∧ lack < 2 ^ 150 ∧ Tb cT lpos lqual H ∧
  ∀ (i : Nat) (l : Addr) (ra : RA) (H' : Hp), Sm cT lpos lqual H H' → FM.Ends pa.ps lack i → ra.rows = (List.range i).map (FM.gv pa.ps lack) → RowsAt H' l ra → Fresh H l ra → Q (.ref l) H'
theorem ok_given_rounds (T : Txt K mg A) (hC : PySem.W.CodeHd base A.cC A.cT) (hbm : base.BuiltinsAt mg A.cT) : FnOk P w K mg base CX0 6 A.f_given_rounds A.d_given_rounds P_given_rounds (spGivenR A.cT) := by
  have G_given_once : FnOk P w K mg base CX0 5 A.f_given_once A.d_given_once P_given_once (spGiven A.cT) := ok_given_once T hC hbm
  refine T.F_given_rounds.ok sc_given_rounds (fun vs H Q E h => ?_) (fun cdv B outer s H vs Q E hr h => ?_)
  · obtain ⟨lack, p, pa, rfl, _⟩ := h; rfl
  obtain ⟨lack, p, pa, rfl, hp, g, h0, h1, tb, q⟩ := h
  have hn := g.n
  have hpl : pa.ps.length = pa.length := by simp
  refine ⟨_, @pss_cons _ _ _ _ _ (ps_setComp (i := 2) blk_given_rounds_0 rfl (pi_seq (pv 1)) (fun _ _ _ _ _ => pg_tupK (K := K) (n := 4) rfl rfl (pgs_cons (pg_name (i := 0) nd_given_rounds_0 rfl (.inl rfl)) (pgs_cons (pg_name (i := 1) nd_given_rounds_0 rfl (.inl rfl)) (pgs_cons (pg_name (i := 2) nd_given_rounds_0 rfl (.inl rfl)) (pgs_cons (pg_name (i := 3) nd_given_rounds_0 rfl (.inl rfl)) pgs_nil)))) rfl rfl) (fun _ _ _ _ _ => pif_nil) (fun _ _ _ _ _ => pe_op op_sub (pv 2) (pv 0)) sc_given_rounds.nd rfl rfl)
    (@pss_cons _ _ _ _ _ (ps_set (i := 3) sc_given_rounds.nd rfl (Or.inl rfl) (pe_lst pa_nil))
    (@pss_cons _ _ _ _ _ (ps_while PassesOwn.never (pt_cmpR op_gt (pv 0) pe_int (nomark _)) (@pss_cons _ _ _ _ _ (ps_set (i := 4) sc_given_rounds.nd rfl (Or.inl rfl) (pe_call G_given_once hr rfl T.m_given_once T.F_given_once.kp T.b_given_once .nil pass0 (pa_cons (pv 0) (pa_cons (pv 1) (pa_cons (pv 2) pa_nil)))))
    (@pss_cons _ _ _ _ _ (ps_if (pt_cmpR op_eq (pe_callB (call_sum rfl) rfl T.n_sum b_sum (pa_cons (pv 4) pa_nil)) pe_int (nomark _)) (pss_one ps_break) pss_nil)
    (@pss_cons _ _ _ _ _ (ps_expr (pe_bm PySem.F.plainAttrs_list PySem.F.slot_list_append PySem.F.type_list_append mt_append (pv 3) (pa_cons (pv 4) pa_nil)))
    (@pss_cons _ _ _ _ _ (ps_setComp (i := 2) blk_given_rounds_1 rfl (pi_zip rfl T.n_zip (pa_cons (pv 2) (pa_cons (pv 4) pa_nil))) (fun _ _ _ _ _ => pg_tupK (K := K) (n := 2) rfl rfl (pgs_cons (pg_name (i := 0) nd_given_rounds_1 rfl (.inl rfl)) (pgs_cons (pg_name (i := 1) nd_given_rounds_1 rfl (.inl rfl)) pgs_nil)) rfl rfl) (fun _ _ _ _ _ => pif_nil) (fun _ _ _ _ _ => pe_op op_sub (pv 0) (pv 1)) sc_given_rounds.nd rfl rfl)
    (pss_one (ps_set (i := 0) sc_given_rounds.nd rfl (Or.inl rfl) (pe_op op_sub (pv 0) (pe_callB (call_sum rfl) rfl T.n_sum b_sum (pa_cons (pv 4) pa_nil))))))))))
    (pss_one (ps_ret (pv 3))))), ?_⟩
  refine ⟨_, rfl, p, rfl, blk_quads (fun x : Pt × Addr => x.2) (fun x => .int x.1.b) (fun x => .int x.1.l) (fun x => .int x.1.m) (fun x => .int x.1.w) (fun x => .int (x.1.m - x.1.b)) hp.sq (small1000 (by (first | lia | omega))) (fun x hx => .of (hp.it x hx)) (fun x hx Q hQ => ⟨_, rfl, _, rfl, _, _, rfl, rfl, hQ⟩) fun rm hrm => ?_⟩
  have e0 : (pa.map fun x => V.int (x.1.m - x.1.b)) = (FM.st pa.ps lack 0).1.map V.int := by
    show _ = (pa.ps.map fun p => p.m - p.b).map V.int
    rw [List.map_map]; exact psmap pa fun p => V.int (p.m - p.b)
  rw [e0]
  have s1 := same_upd hrm (.lst ((FM.st pa.ps lack 0).1.map V.int))
  refine ⟨small (by simp), fun rl hrl => ?_⟩
  have s2 := same_upd hrl (.lst [])
  refine ⟨fun m σ H' => ∃ (i : Nat) (vg : Option V) (ra : RA) (rm : Addr), m = (FM.st pa.ps lack i).2.toNat ∧ σ = [some (.int (FM.st pa.ps lack i).2), some (.ref p), some (.ref rm), some (.ref rl), vg] ∧ Sm A.cT lpos lqual H H' ∧ H' rm = some (.lst ((FM.st pa.ps lack i).1.map V.int)) ∧ rm ≠ rl ∧
      RowsAt H' rl ra ∧ Fresh H rl ra ∧ ra.rows = (List.range i).map (FM.gv pa.ps lack) ∧ (∀ k, k < i → 0 < (FM.st pa.ps lack k).2 ∧ (FM.gv pa.ps lack k).sum ≠ 0) ∧ (FM.st pa.ps lack i).2 ≤ lack,
    ⟨_, 0, none, [], rm, rfl, rfl, (s1.trans s2).sm, s2 _ _ upd_same, ne_of_none upd_same hrl, ⟨upd_same, fun x hx => (nomatch hx)⟩, ⟨s1.free hrl, fun x hx => (nomatch hx), List.nodup_nil, fun z => (nomatch z)⟩, rfl, fun k hk => absurd hk (Nat.not_lt_zero k), Int.le_refl _⟩, ?_⟩
  rintro m σ H' ⟨i, vg, ra, rm, rfl, rfl, sm, erm, nrm, hra, fr, erow, hon, hle⟩
  have B' := sm.tb tb
  have hp' := hp.sm tb sm
  refine ⟨_, rfl, _, _, rfl, rfl, _, rfl, ?_⟩
  by_cases c : 0 < (FM.st pa.ps lack i).2
  · rw [decide_eq_true c]
    refine iteT ⟨fun σ' H'' => ∃ m', m' < (FM.st pa.ps lack i).2.toNat ∧ ∃ (i : Nat) (vg : Option V) (ra : RA) (rm : Addr), m' = (FM.st pa.ps lack i).2.toNat ∧ σ' = [some (.int (FM.st pa.ps lack i).2), some (.ref p), some (.ref rm), some (.ref rl), vg] ∧ Sm A.cT lpos lqual H H'' ∧ H'' rm = some (.lst ((FM.st pa.ps lack i).1.map V.int)) ∧ rm ≠ rl ∧
      RowsAt H'' rl ra ∧ Fresh H rl ra ∧ ra.rows = (List.range i).map (FM.gv pa.ps lack) ∧ (∀ k, k < i → 0 < (FM.st pa.ps lack k).2 ∧ (FM.gv pa.ps lack k).sum ≠ 0) ∧ (FM.st pa.ps lack i).2 ≤ lack, fun σ' H'' z => z, ?_⟩
    have hrl' : (FM.st pa.ps lack i).1.length = pa.length := by rw [FM.st_len]; exact hpl
    refine ⟨_, rfl, _, rfl, _, rfl, _, p, rm, pa, _, rfl, hp', g, erm, hrl', Int.le_of_lt c, Int.lt_of_le_of_lt hle h1, B', fun gl H2 m2 f2 e2 => ?_⟩
    have eg : FM.given (FM.st pa.ps lack i).2 pa.ps (FM.st pa.ps lack i).1 = FM.gv pa.ps lack i := rfl
    rw [eg] at e2
    have m02 := sm.trans m2
    have B2 := m2.tb B'
    have hrows2 := hra.sm B' m2
    have erm2 := m2.all _ _ (B'.ne erm) erm
    refine ⟨_, rfl, gl, FM.gv pa.ps lack i, rfl, .inl (.of e2), rfl, _, rfl, ite2 (fun z => ?_) (fun z => ?_)⟩
    · have z' : (FM.gv pa.ps lack i).sum = 0 := eqV' z
      exact ⟨_, rfl, q i rl ra H2 m02 ⟨hon, .inr z'⟩ erow hrows2 fr⟩
    have z' := neV z
    have hfg : H gl = none := sm.free tb f2
    have n1 : gl ∉ ra.adr := fun z => by
      obtain ⟨x, hx, rfl⟩ := List.mem_map.mp z
      have := hra.it x hx; rw [f2] at this; cases this
    have n2 : gl ≠ rl := fun z => by have := hra.lst; rw [← z, f2] at this; cases this
    have hral : ra.length = i := by have := congrArg List.length erow; simpa using this
    have hi1000 : (FM.gv pa.ps lack i).length = pa.length := by rw [FM.gv_len]; exact hpl
    -- rounds.append(given)
    have hbound : ra.length < sizeLine := by
      have := FM.rounds_few g.ps h0 (by rw [hpl]; exact hn) hon
      rw [hral]
      exact Nat.lt_of_le_of_lt this (by decide)
    refine ⟨_, rfl, .inl ⟨rfl, _, .of hrows2.lst⟩, _, rfl, rl, _, _, rfl, rfl, hrows2.lst, by rw [List.length_map]; exact hbound, ?_⟩
    have hra3 := hrows2.add e2 fr.nl n2
    have fr3 := fr.add (row := FM.gv pa.ps lack i) hfg n1 n2
    have erm3 : upd H2 rl (.lst ((ra.map fun x => V.ref x.2) ++ [.ref gl])) rm = _ := (upd_ne nrm).trans erm2
    have eg3 : upd H2 rl (.lst ((ra.map fun x => V.ref x.2) ++ [.ref gl])) gl = _ := (upd_ne n2).trans e2
    have m03 : Sm A.cT lpos lqual H (upd H2 rl (.lst ((ra.map fun x => V.ref x.2) ++ [.ref gl]))) := by
      refine ⟨fun b o nb e => ?_, fun t => ?_⟩
      · rw [upd_ne (ne_of_none e fr.l0)]; exact m02.all b o nb e
      · exact (m02.tb t).set hrows2.lst _
    generalize upd H2 rl (.lst ((ra.map fun x => V.ref x.2) ++ [.ref gl])) = H3 at hra3 erm3 eg3 m03 ⊢
    have B3 := m03.tb tb
    refine ⟨_, rfl, _, rfl, rm, gl, _, _, true, rfl, .inl ⟨rfl, .of erm3⟩, .of eg3, blk_zip V.int V.int (fun a b : Int => V.int (a - b)) (fun H' s' => .inl ⟨rfl, .of (s' _ _ erm3)⟩) (fun H' s' => .of (s' _ _ eg3)) (by rw [hrl', hi1000]) (small1000 (by (first | lia | omega))) (fun x y H5 Q5 hm s5 k => ⟨_, rfl, _, rfl, _, _, rfl, rfl, k _ (.refl _)⟩) (fun H5 s5 => ?_)⟩
    intro rm2 hrm2
    have s6 := s5.trans (same_upd hrm2 (.lst (List.zipWith (fun a b : Int => V.int (a - b)) (FM.st pa.ps lack i).1 (FM.gv pa.ps lack i))))
    refine ⟨_, rfl, _, rfl, gl, FM.gv pa.ps lack i, rfl, .inl (.of (s6 _ _ eg3)), _, _, rfl, rfl, ?_⟩
    have hpos : ∀ j, j < i + 1 → 0 ≤ (FM.st pa.ps lack j).2 := fun j hj => by
      rcases Nat.lt_or_ge j i with h | h
      · exact Int.le_of_lt (hon j h).1
      · have : j = i := by (first | lia | omega)
        subst this; exact Int.le_of_lt c
    have hgn := FM.given_nonneg (Int.le_of_lt c) g.ps (FM.st_range pa.ps lack g.ps h0 i fun j hj => hpos j (by (first | lia | omega)))
    have hgs : 0 ≤ (FM.gv pa.ps lack i).sum := SM.sum_nonneg _ hgn
    have e6 : (FM.st pa.ps lack (i + 1)).2 = (FM.st pa.ps lack i).2 - (FM.gv pa.ps lack i).sum := rfl
    refine ⟨(FM.st pa.ps lack (i + 1)).2.toNat, by rw [e6]; (first | lia | omega), i + 1, some (.ref gl), ra ++ [(FM.gv pa.ps lack i, gl)], rm2, rfl, by rw [e6]; rfl, m03.trans s6.sm, ?_, ?_, hra3.same s6, fr3, ?_, fun k hk => ?_, by rw [e6]; (first | lia | omega)⟩
    · rw [upd_same, ← List.map_zipWith]; rfl
    · exact fun z => by have := (s5 _ _ hra3.lst); rw [← z, hrm2] at this; cases this
    · show (ra ++ [(FM.gv pa.ps lack i, gl)]).map (fun x : List Int × Addr => x.1) = _
      rw [List.map_append, List.range_succ, List.map_append]
      exact congrArg (· ++ _) erow
    · rcases Nat.lt_or_ge k i with h | h
      · exact hon k h
      · have : k = i := by (first | lia | omega)
        subst this; exact ⟨c, z'⟩
  · rw [decide_eq_false c]
    exact iteF ⟨_, rfl, q i rl ra H' sm ⟨hon, .inl c⟩ erow hra fr⟩
noncomputable def spTakenR (cT : Addr) : Sp := fun vs H Q _ => ∃ (much : Int) (p : Addr) (pa : PA), vs = [.int much, .ref p] ∧ PartsAt H p pa ∧ GoodPa pa ∧ 0 < much ∧ much < 2 ^ 150 ∧ Tb cT lpos lqual H ∧
  ∀ (l : Addr) (ra : RA) (H' : Hp), Sm cT lpos lqual H H' → ra.rows = (if min much (FM.above pa.ps).sum = 0 then [] else [SM.dueL (min much (FM.above pa.ps).sum) (FM.above pa.ps)]) → RowsAt H' l ra → Fresh H l ra → Q (.ref l) H'
noncomputable abbrev sc_taken_rounds_0 : Scope := (match defBody s_taken_rounds with | (.Assign _ (.ListComp _ _ sc _) _) :: _ => sc | _ => defScope s_taken_rounds)
theorem blk_taken_rounds_0 : Blk (defScope s_taken_rounds) N_taken_rounds sc_taken_rounds_0 ["begin", "least", "most", "weight"] [] := ⟨rfl, by decide +kernel, by decide +kernel, by decide +kernel, by decide +kernel⟩
theorem nd_taken_rounds_0 : (capN N_taken_rounds ["begin", "least", "most", "weight"] []).Nodup := by decide +kernel
theorem ok_taken_rounds (T : Txt K mg A) (hC : PySem.W.CodeHd base A.cC A.cT) (hbm : base.BuiltinsAt mg A.cT) : FnOk P w K mg base CX0 6 A.f_taken_rounds A.d_taken_rounds P_taken_rounds (spTakenR A.cT) := by
  have G_share_out : FnOk P w K mg base CX0 5 A.f_share_out A.d_share_out P_share_out (spShare A.cT) := (ok_share_out T hC hbm).mono (by decide)
  refine T.F_taken_rounds.ok sc_taken_rounds (fun vs H Q E h => ?_) (fun cdv B outer s H vs Q E hr h => ?_)
  · obtain ⟨much, p, pa, rfl, _⟩ := h; rfl
  obtain ⟨much, p, pa, rfl, hp, g, h0, h1, tb, q⟩ := h
  have hn := g.n
  refine ⟨_, @pss_cons _ _ _ _ _ (ps_setComp (i := 2) blk_taken_rounds_0 rfl (pi_seq (pv 1)) (fun _ _ _ _ _ => pg_tupK (K := K) (n := 4) rfl rfl (pgs_cons (pg_name (i := 0) nd_taken_rounds_0 rfl (.inl rfl)) (pgs_cons (pg_name (i := 1) nd_taken_rounds_0 rfl (.inl rfl)) (pgs_cons (pg_name (i := 2) nd_taken_rounds_0 rfl (.inl rfl)) (pgs_cons (pg_name (i := 3) nd_taken_rounds_0 rfl (.inl rfl)) pgs_nil)))) rfl rfl) (fun _ _ _ _ _ => pif_nil) (fun _ _ _ _ _ => pe_op op_sub (pv 0) (pv 1)) sc_taken_rounds.nd rfl rfl)
    (@pss_cons _ _ _ _ _ (ps_set (i := 3) sc_taken_rounds.nd rfl (Or.inl rfl) (pe_callB (call_min2 rfl) rfl T.n_min b_min (pa_cons (pv 0) (pa_cons (pe_callB (call_sum rfl) rfl T.n_sum b_sum (pa_cons (pv 2) pa_nil)) pa_nil))))
    (@pss_cons _ _ _ _ _ (ps_if (pt_cmpR op_eq (pv 3) pe_int (nomark _)) (pss_one (ps_ret (pe_lst pa_nil))) pss_nil)
    (pss_one (ps_ret (pe_lst (pa_cons (pe_call G_share_out hr rfl T.m_share_out T.F_share_out.kp T.b_share_out .nil pass0 (pa_cons (pv 3) (pa_cons (pv 2) pa_nil))) pa_nil)))))), ?_⟩
  refine ⟨_, rfl, p, rfl, blk_quads (fun x : Pt × Addr => x.2) (fun x => .int x.1.b) (fun x => .int x.1.l) (fun x => .int x.1.m) (fun x => .int x.1.w) (fun x => .int (x.1.b - x.1.l)) hp.sq (small1000 (by (first | lia | omega))) (fun x hx => .of (hp.it x hx)) (fun x hx Q hQ => ⟨_, rfl, _, rfl, _, _, rfl, rfl, hQ⟩) fun al hal => ?_⟩
  have e0 : (pa.map fun x => V.int (x.1.b - x.1.l)) = (FM.above pa.ps).map V.int := by
    unfold FM.above
    rw [List.map_map]; exact psmap pa fun p => V.int (p.b - p.l)
  rw [e0]
  have s1 := same_upd hal (.lst ((FM.above pa.ps).map V.int))
  have hab := FM.above_sum0 g.ps
  have hs0 := SM.sum_nonneg _ hab
  refine ⟨_, rfl, _, rfl, al, FM.above pa.ps, rfl, .inl (.of upd_same), _, _, rfl, ?_⟩
  refine ⟨_, rfl, rfl, _, rfl, ite2 (fun c => ?_) (fun c => ?_)⟩
  · have c' : (if (FM.above pa.ps).sum < much then (FM.above pa.ps).sum else much) = 0 := eqV' c
    rw [min_if] at c'
    refine ⟨small (by simp), fun l hl => q l [] _ (s1.trans (same_upd hl _)).sm ?_ ⟨upd_same, fun x hx => (nomatch hx)⟩ ⟨s1.free hl, fun x hx => (nomatch hx), List.nodup_nil, fun z => (nomatch z)⟩⟩
    rw [if_pos c']; rfl
  have c' : min much (FM.above pa.ps).sum ≠ 0 := fun z => neV c (by rw [min_if]; exact z)
  have hg : Good (min much (FM.above pa.ps).sum) (FM.above pa.ps) := by
    refine ⟨FM.min_nonneg (by (first | lia | omega)) hs0, Int.lt_of_le_of_lt (Int.min_le_left _ _) (Int.lt_trans h1 (by decide)), by unfold FM.above; simp; exact hn, hab, fun x hx => ?_⟩
    obtain ⟨y, hy, rfl⟩ := List.mem_map.mp hx
    have a1 := (g.ps y hy).bm
    have a2 := (g.ps y hy).m9
    have a3 := (g.ps y hy).l0
    exact Int.lt_of_le_of_lt (show y.b - y.l ≤ 9999 by (first | lia | omega)) (by decide)
  have B1 := tb.at s1
  rw [← min_if] at hg
  refine ⟨_, rfl, _, rfl, _, al, _, rfl, .inl upd_same, B1.ne upd_same, hg, B1, fun sl H2 m2 f2 e2 => ⟨small (by simp), fun l hl => ?_⟩⟩
  rw [min_if] at e2
  have m02 : Sm A.cT lpos lqual H H2 := s1.sm.trans m2
  have nl : l ≠ sl := fun z => by rw [z, e2] at hl; cases hl
  refine q l [(SM.dueL (min much (FM.above pa.ps).sum) (FM.above pa.ps), sl)] _ (m02.trans (same_upd hl _).sm) (by rw [if_neg c']; rfl) ⟨upd_same, fun x hx => ?_⟩ ⟨m02.free tb hl, fun x hx => ?_, by simp, by simp; exact nl⟩
  · rw [List.mem_singleton.mp hx]; exact same_upd hl _ _ _ e2
  · rw [List.mem_singleton.mp hx]; exact s1.free f2
noncomputable def spRounds (cT : Addr) : Sp := fun vs H Q _ => ∃ (t : Int) (p : Addr) (pa : PA), vs = [.int t, .ref p] ∧ PartsAt H p pa ∧ GoodPa pa ∧ 0 ≤ t ∧ t < 2 ^ 140 ∧ Tb cT lpos lqual H ∧
  ∀ (l : Addr) (ra : RA) (sz : List Int) (H' : Hp), Sm cT lpos lqual H H' → FM.Fill t pa.ps ra.rows sz → RowsAt H' l ra → Fresh H l ra → Q (.ref l) H'
theorem bsum {pa : PA} (g : GoodPa pa) : 0 ≤ (pa.ps.map fun x => x.b).sum ∧ (pa.ps.map fun x => x.b).sum ≤ 600000 := by
  have h1 := SM.sum_nonneg (pa.ps.map fun x => x.b) fun x hx => by
    obtain ⟨y, hy, rfl⟩ := List.mem_map.mp hx
    have a2 := (g.ps y hy).lb
    have a3 := (g.ps y hy).l0
    (first | lia | omega)
  have h2 := SM.sum_le 9999 (pa.ps.map fun x => x.b) fun x hx => by
    obtain ⟨y, hy, rfl⟩ := List.mem_map.mp hx
    have a1 := (g.ps y hy).bm
    have a2 := (g.ps y hy).m9
    (first | lia | omega)
  have hn := g.n
  have hl : ((pa.ps.map fun x => x.b).length : Int) ≤ 60 := by simp; (first | lia | omega)
  exact ⟨h1, by (first | lia | omega)⟩
theorem Fresh.back {cT : Addr} {lp : Pos} {lq : Str} {H H1 : Hp} {l : Addr} {ra : RA} (f : Fresh H1 l ra) (t : Tb cT lp lq H) (m : Sm cT lp lq H H1) : Fresh H l ra := ⟨m.free t f.l0, fun x hx => m.free t (f.it x hx), f.nd, f.nl⟩
theorem ok_rounds_till (T : Txt K mg A) (hC : PySem.W.CodeHd base A.cC A.cT) (hbm : base.BuiltinsAt mg A.cT) : FnOk P w K mg base CX0 7 A.f_rounds_till A.d_rounds_till P_rounds_till (spRounds A.cT) := by
  have G_begins_of : FnOk P w K mg base CX0 6 A.f_begins_of A.d_begins_of P_begins_of spBegins := (ok_begins_of T).mono (by decide)
  have G_taken_rounds : FnOk P w K mg base CX0 6 A.f_taken_rounds A.d_taken_rounds P_taken_rounds (spTakenR A.cT) := ok_taken_rounds T hC hbm
  have G_given_rounds : FnOk P w K mg base CX0 6 A.f_given_rounds A.d_given_rounds P_given_rounds (spGivenR A.cT) := ok_given_rounds T hC hbm
  refine T.F_rounds_till.ok sc_rounds_till (fun vs H Q E h => ?_) (fun cdv B outer s H vs Q E hr h => ?_)
  · obtain ⟨t, p, pa, rfl, _⟩ := h; rfl
  obtain ⟨t, p, pa, rfl, hp, g, h0, h1, tb, q⟩ := h
  have hb := bsum g
  refine ⟨_, @pss_cons _ _ _ _ _ (ps_set (i := 2) sc_rounds_till.nd rfl (Or.inl rfl) (pe_callB (call_sum rfl) rfl T.n_sum b_sum (pa_cons (pe_call G_begins_of hr rfl T.m_begins_of T.F_begins_of.kp T.b_begins_of .nil pass0 (pa_cons (pv 1) pa_nil)) pa_nil)))
    (@pss_cons _ _ _ _ _ (ps_if (pt_cmpR op_gt (pv 2) (pv 0) (nomark _)) (pss_one (ps_ret (pe_call G_taken_rounds hr rfl T.m_taken_rounds T.F_taken_rounds.kp T.b_taken_rounds .nil pass0 (pa_cons (pe_op op_sub (pv 2) (pv 0)) (pa_cons (pv 1) pa_nil))))) pss_nil)
    (pss_one (ps_ret (pe_call G_given_rounds hr rfl T.m_given_rounds T.F_given_rounds.kp T.b_given_rounds .nil pass0 (pa_cons (pe_op op_sub (pv 0) (pv 2)) (pa_cons (pv 1) pa_nil)))))), ?_⟩
  refine ⟨_, rfl, p, pa, rfl, hp, g, fun bl H2 s2 f2 e2 => ?_⟩
  have B2 := tb.at s2
  have hp2 := hp.same s2
  refine ⟨bl, _, rfl, .inl (.of e2), ?_⟩
  have e140 : (2 ^ 140 : Int) + 600000 < 2 ^ 150 := by decide
  refine ⟨_, rfl, _, rfl, _, _, rfl, rfl, _, rfl, ite2 (fun c => ?_) (fun c => ?_)⟩
  · have c' : (pa.ps.map fun x => x.b).sum > t := of_decide_eq_true c
    refine ⟨_, rfl, _, rfl, _, _, rfl, rfl, _, rfl, _, p, pa, rfl, hp2, g, by (first | lia | omega), by (first | lia | omega), B2, fun l ra H3 m3 er hra fr => ?_⟩
    by_cases z : FM.taken t pa.ps = 0
    · have F := FM.Fill.none c' z
      have er' : ra.rows = [] := by rw [er]; exact if_pos z
      rw [← er'] at F
      exact q l ra _ H3 (s2.sm.trans m3) F hra (fr.back tb s2.sm)
    · have F := FM.Fill.less c' z
      have er' : ra.rows = [SM.dueL (FM.taken t pa.ps) (FM.above pa.ps)] := by rw [er]; exact if_neg z
      rw [← er'] at F
      exact q l ra _ H3 (s2.sm.trans m3) F hra (fr.back tb s2.sm)
  · have c' : ¬ (pa.ps.map fun x => x.b).sum > t := fun z => c (decide_eq_true z)
    refine ⟨_, rfl, _, rfl, _, _, rfl, rfl, _, rfl, _, p, pa, rfl, hp2, g, by (first | lia | omega), by (first | lia | omega), B2, fun i l ra H3 m3 en er hra fr => ?_⟩
    have F := FM.Fill.more i c' en
    rw [← er] at F
    exact q l ra _ H3 (s2.sm.trans m3) F hra (fr.back tb s2.sm)
theorem ok_fill_rounds (T : Txt K mg A) (hC : PySem.W.CodeHd base A.cC A.cT) (hbm : base.BuiltinsAt mg A.cT) : FnOk P w K mg base CX0 8 A.f_fill_rounds A.d_fill_rounds P_fill_rounds (spRounds A.cT) := by
  have G_need_total : FnOk P w K mg base CX0 7 A.f_need_total A.d_need_total P_need_total spNeedT := (ok_need_total T).mono (by decide)
  have G_need_parts : FnOk P w K mg base CX0 7 A.f_need_parts A.d_need_parts P_need_parts spNeedP := (ok_need_parts T).mono (by decide)
  have G_rounds_till : FnOk P w K mg base CX0 7 A.f_rounds_till A.d_rounds_till P_rounds_till (spRounds A.cT) := ok_rounds_till T hC hbm
  refine T.F_fill_rounds.ok sc_fill_rounds (fun vs H Q E h => ?_) (fun cdv B outer s H vs Q E hr h => ?_)
  · obtain ⟨t, p, pa, rfl, _⟩ := h; rfl
  obtain ⟨t, p, pa, rfl, hp, g, h0, h1, tb, q⟩ := h
  refine ⟨_, @pss_cons _ _ _ _ _ (ps_expr (pe_call G_need_total hr rfl T.m_need_total T.F_need_total.kp T.b_need_total .nil pass0 (pa_cons (pv 0) pa_nil)))
    (@pss_cons _ _ _ _ _ (ps_expr (pe_call G_need_parts hr rfl T.m_need_parts T.F_need_parts.kp T.b_need_parts .nil pass0 (pa_cons (pv 1) pa_nil)))
    (pss_one (ps_ret (pe_call G_rounds_till hr rfl T.m_rounds_till T.F_rounds_till.kp T.b_rounds_till .nil pass0 (pa_cons (pv 0) (pa_cons (pv 1) pa_nil)))))), ?_⟩
  refine ⟨_, rfl, t, rfl, h0, _, rfl, p, pa, rfl, hp, g, fun H1 s1 => ?_⟩
  exact ⟨_, rfl, _, rfl, t, p, pa, rfl, hp.same s1, g, h0, h1, tb.at s1, fun l ra sz H2 m2 F hra fr => q l ra sz H2 (s1.sm.trans m2) F hra (fr.back tb s1.sm)⟩
noncomputable abbrev sc_sizes_behind_0 : Scope := (match defBody s_sizes_behind with | _ :: _ :: (.For _ _ ((.Assign _ (.ListComp _ _ sc _) _) :: _) _ _) :: _ => sc | _ => defScope s_sizes_behind)
theorem blk_sizes_behind_0 : Blk (defScope s_sizes_behind) N_sizes_behind sc_sizes_behind_0 ["size", "n"] [4] := ⟨rfl, by decide +kernel, by decide +kernel, by decide +kernel, by decide +kernel⟩
theorem nd_sizes_behind_0 : (capN N_sizes_behind ["size", "n"] [4]).Nodup := by decide +kernel
noncomputable def signOf (t : Int) (ps : List Pt) : Int := if (ps.map fun x => x.b).sum > t then -1 else 1
noncomputable def spBehind : Sp := fun vs H Q _ => ∃ (t : Int) (p rl : Addr) (pa : PA) (ra : RA), vs = [.int t, .ref p, .ref rl] ∧ PartsAt H p pa ∧ GoodPa pa ∧ RowsAt H rl ra ∧ (∀ row ∈ ra.rows, row.length = pa.length) ∧
  ∀ (l : Addr) (H' : Hp), Same H H' → H l = none → H' l = some (.lst ((FM.behind (signOf t pa.ps) ra.rows (pa.ps.map fun x => x.b)).map V.int)) → Q (.ref l) H'
theorem ok_sizes_behind (T : Txt K mg A) : FnOk P w K mg base CX0 2 A.f_sizes_behind A.d_sizes_behind P_sizes_behind spBehind := by
  have G_begins_of : FnOk P w K mg base CX0 1 A.f_begins_of A.d_begins_of P_begins_of spBegins := ok_begins_of T
  refine T.F_sizes_behind.ok sc_sizes_behind (fun vs H Q E h => ?_) (fun cdv B outer s H vs Q E hr h => ?_)
  · obtain ⟨t, p, rl, pa, ra, rfl, _⟩ := h; rfl
  obtain ⟨t, p, rl, pa, ra, rfl, hp, g, hra, hrow, q⟩ := h
  have hn := g.n
  refine ⟨_, @pss_cons _ _ _ _ _ (ps_set (i := 3) sc_sizes_behind.nd rfl (Or.inl rfl) (pe_call G_begins_of hr rfl T.m_begins_of T.F_begins_of.kp T.b_begins_of .nil pass0 (pa_cons (pv 1) pa_nil)))
    (@pss_cons _ _ _ _ _ (ps_set (i := 4) sc_sizes_behind.nd rfl (Or.inr rfl) (pe_ifExp (pt_cmpR op_gt (pe_callB (call_sum rfl) rfl T.n_sum b_sum (pa_cons (pv 3) pa_nil)) (pv 0) (nomark _)) (pe_un un_neg pe_int) pe_int))
    (@pss_cons _ _ _ _ _ (ps_for PassesOwn.never rfl (pi_list (pv 2)) (pg_name (i := 5) sc_sizes_behind.nd rfl (Or.inl rfl)) (pss_one (ps_setComp (i := 3) blk_sizes_behind_0 rfl (pi_zip rfl T.n_zip (pa_cons (pv 3) (pa_cons (pv 5) pa_nil))) (fun _ _ _ _ _ => pg_tupK (K := K) (n := 2) rfl rfl (pgs_cons (pg_name (i := 0) nd_sizes_behind_0 rfl (.inl rfl)) (pgs_cons (pg_name (i := 1) nd_sizes_behind_0 rfl (.inl rfl)) pgs_nil)) rfl rfl) (fun _ _ _ _ _ => pif_nil) (fun _ _ _ _ _ => pe_op op_add (pv 0) (pe_op op_mul (pv 2) (pv 1))) sc_sizes_behind.nd rfl rfl)))
    (pss_one (ps_ret (pv 3))))), ?_⟩
  refine ⟨_, rfl, p, pa, rfl, hp, g, fun bl H1 s1 f1 e1 => ?_⟩
  have sgn : ∀ (D : V → Hp → Prop), D (.int (signOf t pa.ps)) H1 → (tIf (tTest (tOp (rI0 fun i j => .bl (decide (j < i))) (tCB (fun xs H Q => ∃ (p : Addr) (ns : List Int), xs = [.ref p] ∧ (SqL K H p (ns.map V.int) ∨ SqT K H p (ns.map V.int)) ∧ Q (.int ns.sum) H) (tCons (tVar 3) tNil)) (tVar 0))) (tUn (rU fun i => .int (-i)) (tC (.int 1))) (tC (.int 1)))
      [some (.int t), some (.ref p), some (.ref rl), some (.ref bl), none, none] H1 D := fun D d => by
    refine ⟨_, rfl, bl, _, rfl, .inl (.of e1), _, rfl, _, _, rfl, rfl, _, rfl, ite2 (fun c => ?_) (fun c => ?_)⟩
    · have c' : (pa.ps.map fun x => x.b).sum > t := of_decide_eq_true c
      unfold signOf at d
      rw [if_pos c'] at d
      exact ⟨_, rfl, d⟩
    · have c' : ¬ (pa.ps.map fun x => x.b).sum > t := fun z => c (decide_eq_true z)
      unfold signOf at d
      rw [if_neg c'] at d
      exact d
  refine sgn _ ?_
  have hsg : CMul (signOf t pa.ps) 0 := by unfold signOf; split <;> exact .inl ⟨by decide, by decide⟩
  have hsg1 : -(2 ^ 64) < signOf t pa.ps ∧ signOf t pa.ps < 2 ^ 64 := by unfold signOf; split <;> exact ⟨by decide, by decide⟩
  have hra1 := hra.same s1
  refine ⟨_, rfl, rl, rfl, ⟨_, .of hra1.lst⟩, for_list (K := K) (a := rl) (xs := ra.map fun x => V.ref x.2)
    (fun i σ H' => ∃ (v : Option V) (zl : Addr), σ = [some (.int t), some (.ref p), some (.ref rl), some (.ref zl), some (.int (signOf t pa.ps)), v] ∧ Same H1 H' ∧ H zl = none ∧ H' zl = some (.lst ((FM.behind (signOf t pa.ps) (ra.rows.take i) (pa.ps.map fun x => x.b)).map V.int)))
    ⟨none, bl, rfl, .refl _, f1, by simpa [FM.behind] using e1⟩ (fun i σ H' _ ⟨_, _, _, s', _⟩ => .of (s' _ _ hra1.lst)) ?_ ?_⟩
  · rintro i x σ H' hx ⟨v, zl, rfl, s', fz, ez⟩
    rw [List.getElem?_map] at hx
    cases ei : ra[i]? with
    | none => rw [ei] at hx; cases hx
    | some y =>
      rw [ei] at hx
      cases hx
      have hy := List.mem_of_getElem? ei
      have ey := s' _ _ (hra1.it y hy)
      have hyr : y.1 ∈ ra.rows := List.mem_map.mpr ⟨y, hy, rfl⟩
      have lb : (FM.behind (signOf t pa.ps) (ra.rows.take i) (pa.ps.map fun x => x.b)).length = pa.length := by
        rw [FM.behind_len _ _ _ fun row hr => by rw [hrow row (List.mem_of_mem_take hr)]; simp]; simp
      have ly := hrow _ hyr
      refine ⟨_, rfl, _, rfl, zl, y.2, _, _, true, rfl, .inl ⟨rfl, .of ez⟩, .of ey, blk_zip V.int V.int (fun a b : Int => V.int (a + signOf t pa.ps * b)) (fun H' s' => .inl ⟨rfl, .of (s' _ _ ez)⟩) (fun H' s' => .of (s' _ _ ey)) (by rw [lb, ly]) (small1000 (by (first | lia | omega))) (fun x y H5 Q5 hm s5 k => ⟨_, rfl, _, rfl, _, rfl, _, _, rfl, rfl, .inl hsg1, _, _, rfl, rfl, k _ (.refl _)⟩) (fun H5 s5 => ?_)⟩
      intro l2 hl2
      refine ⟨_, l2, rfl, s'.trans (s5.trans (same_upd hl2 _)), s1.free (s'.free (s5.free hl2)), ?_⟩
      have et : ra.rows.take (i + 1) = ra.rows.take i ++ [y.1] := by
        rw [List.take_add_one]
        have : ra.rows[i]? = some y.1 := by unfold RA.rows; rw [List.getElem?_map, ei]; rfl
        rw [this]; rfl
      rw [upd_same, et, FM.behind_snoc, List.map_zipWith]
  · rintro σ H' ⟨v, zl, rfl, s', fz, ez⟩
    refine ⟨_, rfl, q zl H' (s1.trans s') fz ?_⟩
    rw [ez]
    have : ra.rows.take ((ra.map fun x => V.ref x.2).length) = ra.rows := by
      rw [List.length_map]
      have : ra.length = ra.rows.length := by unfold RA.rows; simp
      rw [this, List.take_length]
    rw [this]
noncomputable def spSizes (cT : Addr) : Sp := fun vs H Q _ => ∃ (t : Int) (p : Addr) (pa : PA), vs = [.int t, .ref p] ∧ PartsAt H p pa ∧ GoodPa pa ∧ 0 ≤ t ∧ t < 2 ^ 140 ∧ Tb cT lpos lqual H ∧
  ∀ (l : Addr) (rows : List (List Int)) (sz : List Int) (H' : Hp), Sm cT lpos lqual H H' → FM.Fill t pa.ps rows sz → H l = none → H' l = some (.lst (sz.map V.int)) → Q (.ref l) H'
theorem ok_fill_sizes (T : Txt K mg A) (hC : PySem.W.CodeHd base A.cC A.cT) (hbm : base.BuiltinsAt mg A.cT) : FnOk P w K mg base CX0 9 A.f_fill_sizes A.d_fill_sizes P_fill_sizes (spSizes A.cT) := by
  have G_fill_rounds : FnOk P w K mg base CX0 8 A.f_fill_rounds A.d_fill_rounds P_fill_rounds (spRounds A.cT) := ok_fill_rounds T hC hbm
  have G_sizes_behind : FnOk P w K mg base CX0 8 A.f_sizes_behind A.d_sizes_behind P_sizes_behind spBehind := (ok_sizes_behind T).mono (by decide)
  refine T.F_fill_sizes.ok sc_fill_sizes (fun vs H Q E h => ?_) (fun cdv B outer s H vs Q E hr h => ?_)
  · obtain ⟨t, p, pa, rfl, _⟩ := h; rfl
  obtain ⟨t, p, pa, rfl, hp, g, h0, h1, tb, q⟩ := h
  refine ⟨_, pss_one (ps_ret (pe_call G_sizes_behind hr rfl T.m_sizes_behind T.F_sizes_behind.kp T.b_sizes_behind .nil pass0 (pa_cons (pv 0) (pa_cons (pv 1) (pa_cons (pe_call G_fill_rounds hr rfl T.m_fill_rounds T.F_fill_rounds.kp T.b_fill_rounds .nil pass0 (pa_cons (pv 0) (pa_cons (pv 1) pa_nil))) pa_nil))))), ?_⟩
  refine ⟨_, rfl, _, rfl, _, rfl, _, rfl, t, p, pa, rfl, hp, g, h0, h1, tb, fun l ra sz H1 m1 F hra fr => ?_⟩
  have hl := F.len
  refine ⟨t, p, l, pa, ra, rfl, hp.sm tb m1, g, hra, fun row hr => by rw [hl.1 row hr]; simp, fun zl H2 s2 f2 e2 => ?_⟩
  refine q zl ra.rows sz H2 (m1.trans s2.sm) F (m1.free tb f2) ?_
  rw [e2]
  unfold signOf
  rw [F.behind]
end
end KP

set_option linter.all false
set_option maxHeartbeats 4000000
set_option maxRecDepth 100000
namespace KP
open PySem L2 PyProof.Rows
section
variable {P : Program} {w : World} {K : PySem.W.Frag} {mg : Str → Option Value} {base : Heap} {A : Adr}
theorem St.ne {st : Addr} {H : Hp} (h : St st H) {l : Addr} (e : H l = none) : l ≠ st := fun z => by obtain ⟨s, a, _⟩ := h; rw [z, a] at e; cases e
theorem Ms.new {st : Addr} {H H' : Hp} (m : Ms st H H') {l : Addr} (o : HO) (e : H' l = none) : Ms st H (upd H' l o) := m.grow (same_upd e o)
theorem St.mk' {H : Hp} {st : Addr} (c : Int) : St st (upd H st (.lst [.int (1 + c % 2147483646)])) :=
  ⟨1 + c % 2147483646, upd_same, by have := Int.emod_nonneg c (show (2147483646 : Int) ≠ 0 by decide); (first | lia | omega), by have := Int.emod_lt_of_pos c (show (0 : Int) < 2147483646 by decide); (first | lia | omega)⟩
theorem ix_any {H : Hp} {p : Addr} {xs : List V} {i : Int} {Q : VK} (hS : SqL K H p xs) (h0 : 0 ≤ i) (h1 : i < xs.length) (hq : ∀ v ∈ xs, Q v H) : rIxL K (.ref p) (.int i) H Q := by
  obtain ⟨v, hv, hm⟩ := atI_mem h0 h1
  exact ⟨p, xs, i, v, rfl, rfl, hS, hv, hq v hm⟩
theorem atI_intE {xs : List Int} {i : Int} {j : Nat} (e : i = (j : Int)) (h : j < xs.length) : atI (xs.map V.int) i = some (.int (xs.getD j 0)) := by subst e; exact atI_int h
end
end KP

set_option linter.all false
set_option maxHeartbeats 4000000
set_option maxRecDepth 100000
namespace KP
open PySem L2 PyProof.Rows
section
variable {P : Program} {w : World} {K : PySem.W.Frag} {mg : Str → Option Value} {base : Heap} {A : Adr}
noncomputable abbrev scE : Scope := scOf (nth s_l_due 1)
noncomputable abbrev scF : Scope := scOf (nth s_l_due 2)
noncomputable abbrev scG : Scope := scOf (nth s_l_due 3)
theorem blkE : Blk (defScope s_l_due) N_l_due scE ["_law_one"] [] := ⟨rfl, by decide +kernel, by decide +kernel, by decide +kernel, by decide +kernel⟩
theorem blkF : Blk (defScope s_l_due) N_l_due scF ["_law_one"] [0, 2] := ⟨rfl, by decide +kernel, by decide +kernel, by decide +kernel, by decide +kernel⟩
theorem blkG : Blk (defScope s_l_due) N_l_due scG ["_law_one"] [0, 2] := ⟨rfl, by decide +kernel, by decide +kernel, by decide +kernel, by decide +kernel⟩
theorem ndE : (capN N_l_due ["_law_one"] []).Nodup := by decide +kernel
theorem ndF : (capN N_l_due ["_law_one"] [0, 2]).Nodup := by decide +kernel
theorem ixMax_lt {l : List Int} {M : Int} (hm : M ∈ l) (hM : ∀ a ∈ l, a ≤ M) : SM.idxMax l < l.length := by rw [← SM.idx_of_max hm hM]; exact List.idxOf_lt_length_iff.mpr hm

noncomputable def spDue : Sp := fun vs H Q _ => ∃ (t : Int) (p : Addr) (ws : List Int), vs = [.int t, .ref p] ∧ H p = some (.lst (ws.map V.int)) ∧ Good t ws ∧
  ∀ (l : Addr) (H' : Hp), Same H H' → H l = none → H' l = some (.lst ((SM.dueL t ws).map V.int)) → Q (.ref l) H'
theorem ok_due (T : Txt K mg A) : FnOk P w K mg base CX0 1 A.f_l_due A.d_l_due P_l_due spDue := by
  refine T.F_l_due.ok sc_l_due (fun vs H Q E h => ?_) (fun cdv B outer s H vs Q E hr h => ?_)
  · obtain ⟨t, p, ws, rfl, _⟩ := h; rfl
  obtain ⟨t, p, ws, rfl, hp, g, q⟩ := h
  refine ⟨_, @pss_cons _ _ _ _ _ (ps_set (i := 2) sc_l_due.nd rfl (Or.inr rfl) (pe_callB (call_sum rfl) rfl T.n_sum b_sum (pa_cons (pv 1) pa_nil)))
    (@pss_cons _ _ _ _ _ (ps_if (pt_cmpR op_eq (pv 2) pe_int (nomark _)) (pss_one (ps_ret (pe_comp blkE rfl (pi_seq (pv 1)) (fun _ _ _ _ _ => pg_name (i := 0) ndE rfl (.inl rfl)) (fun _ _ _ _ _ => pif_nil) (fun _ _ _ _ _ => pe_int)))) pss_nil)
    (@pss_cons _ _ _ _ _ (ps_setComp (i := 3) blkF rfl (pi_seq (pv 1)) (fun _ _ _ _ _ => pg_name (i := 0) ndF rfl (.inl rfl)) (fun _ _ _ _ _ => pif_nil) (fun _ _ _ _ _ => pe_op op_fdivB (pe_op op_mulB (pv 1) (pv 0)) (pv 2)) sc_l_due.nd rfl rfl)
    (@pss_cons _ _ _ _ _ (ps_setComp (i := 4) blkG rfl (pi_seq (pv 1)) (fun _ _ _ _ _ => pg_name (i := 0) ndF rfl (.inl rfl)) (fun _ _ _ _ _ => pif_nil) (fun _ _ _ _ _ => pe_op op_mod (pe_op op_mulB (pv 1) (pv 0)) (pv 2)) sc_l_due.nd rfl rfl)
    (@pss_cons _ _ _ _ _ (ps_for PassesOwn.never rfl (pi_range1 rfl T.n_range (pa_cons (pe_op op_sub (pv 0) (pe_callB (call_sum rfl) rfl T.n_sum b_sum (pa_cons (pv 3) pa_nil))) pa_nil)) (pg_name (i := 5) sc_l_due.nd rfl (Or.inl rfl))
      (@pss_cons _ _ _ _ _ (ps_set (i := 6) sc_l_due.nd rfl (Or.inl rfl) (pe_bm PySem.F.plainAttrs_list PySem.F.slot_list_index PySem.F.type_list_index mt_index (pv 4) (pa_cons (pe_callB (call_maxL rfl) rfl T.n_max b_max (pa_cons (pv 4) pa_nil)) pa_nil)))
      (@pss_cons _ _ _ _ _ (ps_asg (pe_op op_add (pe_ix ix_list (pv 3) (pv 6) (fun _ _ => rfl)) pe_int) (pg_sub (pv 3) (pv 6) set_list))
      (pss_one (ps_asg (pe_un un_neg pe_int) (pg_sub (pv 4) (pv 6) set_list))))))
    (pss_one (ps_ret (pv 3))))))), ?_⟩
  have hz : ws.length < sizeLine := small1000 (by have := g.n; (first | lia | omega))
  have hsq : SqL K H p (ws.map V.int) ∨ SqT K H p (ws.map V.int) := .inl (.of hp)
  refine ⟨_, rfl, p, ws, rfl, hsq, ?_⟩
  refine ⟨_, rfl, rfl, _, rfl, ite2 (fun c => ?_) (fun c => ?_)⟩
  · have hS : ws.sum = 0 := by
      have e : V.int ws.sum = V.int 0 := of_decide_eq_true c
      injection e
    refine ⟨_, rfl, p, rfl, blk_map (fun _ : Int => V.int 0) V.int hsq hz (fun w _ Q hQ => hQ) fun l hl => ?_⟩
    refine q l _ (same_upd hl _) hl ?_
    rw [upd_same]
    unfold SM.dueL
    rw [if_pos hS, List.map_map]; rfl
  · have hS0 : ws.sum ≠ 0 := fun e => c (decide_eq_true (by rw [e]))
    have hS : 0 < ws.sum := by have := g.sum0; (first | lia | omega)
    have hSb := g.sumb
    refine ⟨_, rfl, p, rfl, blk_map (fun w : Int => V.int (t * w / ws.sum)) V.int hsq hz (fun w hw Q hQ => ⟨_, rfl, _, rfl, _, _, rfl, rfl, g.big hw, _, rfl, _, _, rfl, rfl, ⟨hS, hSb⟩, hQ⟩) fun l1 hl1 => ?_⟩
    have s2 : Same H (upd H l1 (.lst (ws.map fun w : Int => V.int (t * w / ws.sum)))) := same_upd hl1 _
    have hp2 := s2 _ _ hp
    refine ⟨_, rfl, p, rfl, blk_map (fun w : Int => V.int (t * w % ws.sum)) V.int (.inl (.of hp2)) hz (fun w hw Q hQ => ⟨_, rfl, _, rfl, _, _, rfl, rfl, g.big hw, _, rfl, _, _, rfl, rfl, hS, hQ⟩) fun l2 hl2 => ?_⟩
    have s3 : Same (upd H l1 (.lst (ws.map fun w : Int => V.int (t * w / ws.sum)))) (upd (upd H l1 (.lst (ws.map fun w : Int => V.int (t * w / ws.sum)))) l2 (.lst (ws.map fun w : Int => V.int (t * w % ws.sum)))) := same_upd hl2 _
    have s13 : Same H _ := s2.trans s3
    have hf2 : H l2 = none := s2.free hl2
    have eb : (ws.map fun w : Int => V.int (t * w / ws.sum)) = (SM.baseL t ws).map V.int := by unfold SM.baseL; rw [List.map_map]; rfl
    have er : (ws.map fun w : Int => V.int (t * w % ws.sum)) = (SM.restL t ws).map V.int := by unfold SM.restL; rw [List.map_map]; rfl
    have hrl : (SM.restL t ws).length = ws.length := by unfold SM.restL; simp
    have hbl : (SM.baseL t ws).length = ws.length := by unfold SM.baseL; simp
    have hlr := SM.left_range (t := t) hS
    generalize hH3 : upd (upd H l1 (.lst (ws.map fun w : Int => V.int (t * w / ws.sum)))) l2 (.lst (ws.map fun w : Int => V.int (t * w % ws.sum))) = H3 at s3 s13 ⊢
    have e2 : H3 l2 = some (.lst ((SM.restL t ws).map V.int)) := by rw [← hH3, upd_same, er]
    have e1 : H3 l1 = some (.lst ((SM.baseL t ws).map V.int)) := by rw [← eb]; exact s3 _ _ upd_same
    have n12 : l1 ≠ l2 := ne_of_none upd_same hl2
    refine ⟨_, rfl, _, rfl, l1, SM.baseL t ws, rfl, .inl (.of e1), _, _, rfl, rfl, _, rfl, ?_, ?_, ?_⟩
    · show -(2 ^ 62) ≤ SM.leftN t ws; (first | lia | omega)
    · show SM.leftN t ws < 2 ^ 62; have := g.n; (first | lia | omega)
    refine for_range (n := (SM.leftN t ws).toNat) (fun i σ H' => ∃ v v', σ = [some (.int t), some (.ref p), some (.int ws.sum), some (.ref l1), some (.ref l2), v, v'] ∧
        (∀ b o, b ≠ l1 → b ≠ l2 → H3 b = some o → H' b = some o) ∧ H' l1 = some (.lst ((SM.turns i (SM.baseL t ws) (SM.restL t ws)).1.map V.int)) ∧ H' l2 = some (.lst ((SM.turns i (SM.baseL t ws) (SM.restL t ws)).2.map V.int)))
      ⟨none, none, rfl, fun b o _ _ e => e, e1, e2⟩ ?_ ?_
    · rintro i σ H' hi ⟨v, v', rfl, kp, h1, h2⟩
      obtain ⟨n1, n2⟩ := SM.turns_len i (SM.baseL t ws) (SM.restL t ws)
      have ts := SM.turns_succ i (SM.baseL t ws) (SM.restL t ws)
      generalize SM.turns i (SM.baseL t ws) (SM.restL t ws) = fl at h1 h2 n1 n2 ts
      obtain ⟨f, l⟩ := fl
      dsimp only at h1 h2 n1 n2 ts
      have hn := g.n
      refine ⟨_, rfl, .inl ⟨rfl, _, .of h2⟩, _, rfl, l2, l, rfl, .of h2, by (first | lia | omega), fun M hM hmax => ?_⟩
      refine ⟨l2, l, M, rfl, rfl, h2, hM, by (first | lia | omega), ?_⟩
      rw [SM.idx_of_max hM hmax]
      have hlt := ixMax_lt hM hmax
      refine ⟨_, rfl, _, rfl, l1, _, _, _, rfl, rfl, .of h1, atI_int (by (first | lia | omega)), _, _, rfl, rfl, ?_⟩
      refine ⟨_, rfl, _, rfl, l1, _, _, SM.idxMax l, rfl, rfl, h1, ixN_nat (by rw [List.length_map]; (first | lia | omega)), ?_⟩
      refine ⟨_, rfl, _, rfl, _, rfl, l2, _, _, SM.idxMax l, rfl, rfl, by rw [upd_ne n12.symm]; exact h2, ixN_nat (by rw [List.length_map]; (first | lia | omega)), ?_⟩
      refine ⟨_, _, rfl, fun b o b1 b2 e => by rw [upd_ne b2, upd_ne b1]; exact kp b o b1 b2 e, ?_, ?_⟩
      · rw [upd_ne n12, upd_same, set_int, ts]
      · rw [upd_same, set_int, ts]
    · rintro σ H' ⟨v, v', rfl, kp, h1, h2⟩
      refine ⟨_, rfl, q l1 H' (fun b o e => kp b o (ne_of_none e hl1) (ne_of_none e hf2) (s13 _ _ e)) hl1 ?_⟩
      rw [h1]
      unfold SM.dueL
      rw [if_neg hS0]
end
end KP

set_option linter.all false
set_option maxHeartbeats 4000000
set_option maxRecDepth 100000
namespace KP
open PySem L2 PyProof.Rows
open FM (Pt GoodPt)
section
variable {P : Program} {w : World} {K : PySem.W.Frag} {mg : Str → Option Value} {base : Heap} {A : Adr}
theorem mem_ints {v : V} {ns : List Int} {lo hi : Int} (h : v ∈ ns.map V.int) (hb : ∀ n ∈ ns, lo ≤ n ∧ n ≤ hi) : ∃ n, v = .int n ∧ lo ≤ n ∧ n ≤ hi := by
  obtain ⟨n, hn, rfl⟩ := List.mem_map.mp h
  exact ⟨n, rfl, (hb n hn).1, (hb n hn).2⟩
theorem bit01 (b : Bool) : 0 ≤ (if b = true then (1 : Int) else 0) ∧ (if b = true then (1 : Int) else 0) ≤ 1 := by cases b <;> decide
noncomputable def spPartL : Sp := fun vs H Q _ => ∃ (st : Addr) (c k : Int), vs = [.ref st, .int c, .int k] ∧ St st H ∧ 0 ≤ k ∧ k < 3 ∧
  ∀ (a : Addr) (p : Pt) (H' : Hp), Ms st H H' → H a = none → H' a = some (.tup (ptV p)) → GoodPt p → Q (.ref a) H'
theorem ok_part (T : Txt K mg A) : FnOk P w K mg base CX0 2 A.f_l_part A.d_l_part P_l_part spPartL := by
  have G_l_mix : FnOk P w K mg base CX0 1 A.f_l_mix A.d_l_mix P_l_mix spMix := ok_mix T
  refine T.F_l_part.ok sc_l_part (fun vs H Q E h => ?_) (fun cdv B outer s H vs Q E hr h => ?_)
  · obtain ⟨st, c, k, rfl, _⟩ := h; rfl
  obtain ⟨st, c, k, rfl, hst, k0, k1, q⟩ := h
  refine ⟨_, @pss_cons _ _ _ _ _ (ps_set (i := 3) sc_l_part.nd rfl (Or.inl rfl) (pe_op op_mod (pe_call G_l_mix hr rfl T.m_l_mix T.F_l_mix.kp T.b_l_mix .nil pass0 (pa_cons (pv 0) (pa_cons (pv 1) pa_nil))) (pe_ix ix_list (pe_lst (pa_cons pe_int (pa_cons pe_int (pa_cons pe_int pa_nil)))) (pv 2) (fun _ _ => rfl))))
    (@pss_cons _ _ _ _ _ (ps_set (i := 4) sc_l_part.nd rfl (Or.inl rfl) (pe_ix ix_list (pe_lst (pa_cons pe_int (pa_cons pe_int (pa_cons pe_int pa_nil)))) (pv 2) (fun _ _ => rfl)))
    (@pss_cons _ _ _ _ _ (ps_set (i := 5) sc_l_part.nd rfl (Or.inl rfl) (pe_op op_add (pv 3) (pe_op op_mul (pe_op op_mod (pe_call G_l_mix hr rfl T.m_l_mix T.F_l_mix.kp T.b_l_mix .nil pass0 (pa_cons (pv 0) (pa_cons pe_int pa_nil))) (pv 4)) (pe_callTy call_int1 rfl T.n_int b_int (pa_cons (pe_cmpR op_eq (pe_op op_mod (pe_call G_l_mix hr rfl T.m_l_mix T.F_l_mix.kp T.b_l_mix .nil pass0 (pa_cons (pv 0) (pa_cons pe_int pa_nil))) pe_int) pe_int (nomark _)) pa_nil)))))
    (@pss_cons _ _ _ _ _ (ps_set (i := 6) sc_l_part.nd rfl (Or.inl rfl) (pe_op op_add (pv 5) (pe_ix ix_list (pe_lst (pa_cons pe_int (pa_cons (pe_op op_mod (pe_call G_l_mix hr rfl T.m_l_mix T.F_l_mix.kp T.b_l_mix .nil pass0 (pa_cons (pv 0) (pa_cons pe_int pa_nil))) (pv 4)) (pa_cons (pe_op op_mod (pe_call G_l_mix hr rfl T.m_l_mix T.F_l_mix.kp T.b_l_mix .nil pass0 (pa_cons (pv 0) (pa_cons pe_int pa_nil))) pe_int) pa_nil)))) (pe_op op_mod (pe_call G_l_mix hr rfl T.m_l_mix T.F_l_mix.kp T.b_l_mix .nil pass0 (pa_cons (pv 0) (pa_cons pe_int pa_nil))) pe_int) (fun _ _ => rfl))))
    (@pss_cons _ _ _ _ _ (ps_set (i := 7) sc_l_part.nd rfl (Or.inl rfl) (pe_ix ix_list (pe_lst (pa_cons pe_int (pa_cons pe_int (pa_cons (pe_op op_mod (pe_call G_l_mix hr rfl T.m_l_mix T.F_l_mix.kp T.b_l_mix .nil pass0 (pa_cons (pv 0) (pa_cons pe_int pa_nil))) pe_int) (pa_cons (pe_op op_mod (pe_call G_l_mix hr rfl T.m_l_mix T.F_l_mix.kp T.b_l_mix .nil pass0 (pa_cons (pv 0) (pa_cons pe_int pa_nil))) pe_int) pa_nil))))) (pe_op op_mod (pe_call G_l_mix hr rfl T.m_l_mix T.F_l_mix.kp T.b_l_mix .nil pass0 (pa_cons (pv 0) (pa_cons pe_int pa_nil))) pe_int) (fun _ _ => rfl)))
    (pss_one (ps_ret (pe_tup (pa_cons (pv 5) (pa_cons (pv 3) (pa_cons (pv 6) (pa_cons (pv 7) pa_nil))))))))))), ?_⟩
  refine ⟨_, rfl, _, rfl, st, c, rfl, hst, fun r1 H1 b1 b1' m1 f1 => ⟨small (by simp), fun l1 hl1 => ⟨_, rfl, ix_any (.of upd_same) k0 k1 (fun v hv => ?_)⟩⟩⟩
  obtain ⟨M, rfl, hM0, hM1⟩ := mem_ints (ns := [4, 30, 4000]) (lo := 1) (hi := 4000) hv (by decide)
  refine ⟨_, _, rfl, rfl, hM0, ?_⟩
  have X1 := m1.new (.lst [.int 4, .int 30, .int 4000]) hl1
  refine ⟨small (by simp), fun l2 hl2 => ⟨_, rfl, ix_any (.of upd_same) k0 k1 (fun v hv => ?_)⟩⟩
  obtain ⟨W, rfl, hW0, hW1⟩ := mem_ints (ns := [5, 40, 3000]) (lo := 1) (hi := 3000) hv (by decide)
  have X2 := X1.new (.lst [.int 5, .int 40, .int 3000]) hl2
  -- begin
  refine ⟨_, rfl, _, rfl, st, 0, rfl, X2.st, fun r2 H2 b2 b2' m2 f2 => ⟨_, rfl, _, _, rfl, rfl, hW0, _, rfl, st, 0, rfl, m2.st, fun r3 H3 b3 b3' m3 f3 => ⟨_, _, rfl, rfl, (by show (0:Int) < 3; decide), rfl, .inr ⟨_, rfl, _, _, rfl, rfl, ?_, _, _, rfl, rfl, ?_⟩⟩⟩⟩
  · have := bit01 (decide (V.int (r3 % 3) = V.int 1))
    refine .inr ⟨?_, ?_⟩
    · show -(2 ^ 64) < (if decide (V.int (r3 % 3) = V.int 1) = true then (1 : Int) else 0); (first | lia | omega)
    · show (if decide (V.int (r3 % 3) = V.int 1) = true then (1 : Int) else 0) < 2 ^ 64; (first | lia | omega)
  have X3 := (X2.trans m2).trans m3
  generalize hx : (r2 % W * if decide (V.int (r3 % 3) = V.int 1) = true then (1 : Int) else 0) = x
  have hxb : 0 ≤ x ∧ x ≤ 2999 := by
    have h1 := Int.emod_nonneg r2 (show W ≠ 0 by (first | lia | omega))
    have h2 := Int.emod_lt_of_pos r2 (show 0 < W by (first | lia | omega))
    rw [← hx]
    split <;> (first | lia | omega)
  -- most
  refine ⟨_, rfl, _, rfl, st, 0, rfl, X3.st, fun r4 H4 b4 b4' m4 f4 => ⟨_, rfl, _, _, rfl, rfl, hW0, _, rfl, st, 0, rfl, m4.st, fun r5 H5 b5 b5' m5 f5 => ⟨_, _, rfl, rfl, (by show (0:Int) < 4; decide), small (by simp), fun l3 hl3 => ?_⟩⟩⟩
  have X5 := (X3.trans m4).trans m5
  have X5n := X5.new (.lst [.int 0, .int (r4 % W), .int (r5 % 4)]) hl3
  refine ⟨_, rfl, st, 0, rfl, X5n.st, fun r6 H6 b6 b6' m6 f6 => ⟨_, _, rfl, rfl, (by show (0:Int) < 3; decide), ?_⟩⟩
  have hk6 := m6.keep l3 _ (X5.st.ne hl3) upd_same
  refine ix_any (.of hk6) (Int.emod_nonneg _ (by decide)) (by show r6 % 3 < 3; exact Int.emod_lt_of_pos _ (by decide)) (fun v hv => ?_)
  obtain ⟨y, rfl, hy0, hy1⟩ := mem_ints (ns := [0, r4 % W, r5 % 4]) (lo := 0) (hi := 2999) hv (by
    have h1 := Int.emod_nonneg r4 (show W ≠ 0 by (first | lia | omega))
    have h2 := Int.emod_lt_of_pos r4 (show 0 < W by (first | lia | omega))
    intro n hn
    simp only [List.mem_cons, List.not_mem_nil, or_false] at hn
    rcases hn with rfl | rfl | rfl <;> (first | lia | omega))
  refine ⟨_, _, rfl, rfl, ?_⟩
  have X6 := X5n.trans m6
  -- weight
  refine ⟨_, rfl, st, 0, rfl, X6.st, fun r7 H7 b7 b7' m7 f7 => ⟨_, _, rfl, rfl, (by show (0:Int) < 5; decide), _, rfl, st, 0, rfl, m7.st, fun r8 H8 b8 b8' m8 f8 => ⟨_, _, rfl, rfl, (by show (0:Int) < 10000; decide), small (by simp), fun l4 hl4 => ?_⟩⟩⟩
  have X8 := (X6.trans m7).trans m8
  have X8n := X8.new (.lst [.int 0, .int 1, .int (r7 % 5), .int (r8 % 10000)]) hl4
  refine ⟨_, rfl, st, 0, rfl, X8n.st, fun r9 H9 b9 b9' m9 f9 => ⟨_, _, rfl, rfl, (by show (0:Int) < 4; decide), ?_⟩⟩
  have hk9 := m9.keep l4 _ (X8.st.ne hl4) upd_same
  refine ix_any (.of hk9) (Int.emod_nonneg _ (by decide)) (by show r9 % 4 < 4; exact Int.emod_lt_of_pos _ (by decide)) (fun v hv => ?_)
  obtain ⟨u, rfl, hu0, hu1⟩ := mem_ints (ns := [0, 1, r7 % 5, r8 % 10000]) (lo := 0) (hi := 9999) hv (by
    intro n hn
    simp only [List.mem_cons, List.not_mem_nil, or_false] at hn
    rcases hn with rfl | rfl | rfl | rfl <;> (first | lia | omega))
  have X9 := X8n.trans m9
  refine ⟨_, rfl, _, rfl, _, rfl, _, rfl, small (by simp), fun a ha => ?_⟩
  have h1 := Int.emod_nonneg r1 (show M ≠ 0 by (first | lia | omega))
  have h2 := Int.emod_lt_of_pos r1 (show 0 < M by (first | lia | omega))
  refine q a ⟨r1 % M + x, r1 % M, r1 % M + x + y, u⟩ _ (X9.new _ ha) (X9.free hst ha) upd_same ?_
  constructor <;> dsimp only <;> (first | lia | omega)

theorem mapint (f : Pt → Int) (ps : List Pt) : (ps.map fun p => V.int (f p)) = (ps.map f).map V.int := by rw [List.map_map]; rfl
end
end KP

set_option linter.all false
set_option maxHeartbeats 4000000
set_option maxRecDepth 100000
namespace L2
open PySem
section
variable {y : Str} {cap : List Nat} {te : TE} {σ : St} {Z : List V → Hp → Prop} {H1 : Hp}
/-- over a range, each by a function; nothing changed -/
theorem blk_rngmap {n : Nat} (f : Nat → V) (hz : n < sizeLine) (he : ∀ k, k < n → ∀ Q : VK, Q (f k) H1 → te ((capS [y] cap σ).set 0 (some (.int (0 + (k : Int))))) H1 Q) (hd : Z ((List.range n).map f) H1) : tBlk [y] cap (gName 0) tYes te σ Z (Itr 0 n) H1 := by
  refine blk_rng (n := n) (fun i acc H => i ≤ n ∧ acc = (List.range i).map f ∧ H = H1) ⟨Nat.zero_le _, rfl, rfl⟩ (fun i acc H h => ?_) ?_ ?_
  · rw [h.2.1, List.length_map, List.length_range]; (first | lia | omega)
  · rintro i acc H R k hi ⟨_, rfl, rfl⟩
    unfold tYes
    dsimp only
    rw [if_pos rfl]
    refine he i hi _ (k _ _ ⟨hi, ?_, rfl⟩)
    rw [List.range_succ, List.map_append]; rfl
  · rintro acc H ⟨_, rfl, rfl⟩
    exact hd
end
end L2
namespace KP
open PySem L2 PyProof.Rows
open FM (Pt GoodPt)
theorem zipW_ix {f : Pt → Int → Int} : ∀ (ps : List Pt) (rs : List Int) (d : Pt), ps.length = rs.length → List.zipWith f ps rs = (List.range ps.length).map fun k => f (ps.getD k d) (rs.getD k 0)
  | [], [], d, _ => rfl
  | p :: ps, r :: rs, d, h => by
    rw [List.zipWith_cons_cons, zipW_ix ps rs d (by simpa using h), List.length_cons, List.range_succ_eq_map, List.map_cons, List.map_map]
    rfl
  | [], _ :: _, d, h => by simp at h
  | _ :: _, [], d, h => by simp at h
theorem zipI_ix {f : Int → Int → Int} : ∀ (xs ys : List Int), xs.length = ys.length → List.zipWith f xs ys = (List.range xs.length).map fun k => f (xs.getD k 0) (ys.getD k 0)
  | [], [], _ => rfl
  | p :: ps, r :: rs, h => by
    rw [List.zipWith_cons_cons, zipI_ix ps rs (by simpa using h), List.length_cons, List.range_succ_eq_map, List.map_cons, List.map_map]
    rfl
  | [], _ :: _, h => by simp at h
  | _ :: _, [], h => by simp at h
section
variable {P : Program} {w : World} {K : PySem.W.Frag} {mg : Str → Option Value} {base : Heap} {A : Adr}
noncomputable abbrev p0 : Pt := ⟨0, 0, 0, 0⟩
/-- the k-th part -/
theorem atPart {pa : PA} {k : Nat} (h : k < pa.length) : ∃ x ∈ pa, atI (pa.map fun x => V.ref x.2) (0 + (k : Int)) = some (.ref x.2) ∧ x.1 = pa.ps.getD k p0 := by
  refine ⟨pa[k], List.getElem_mem h, ?_, ?_⟩
  · have e : (0 + (k : Int)) = ((k : Nat) : Int) := by (first | lia | omega)
    rw [e]
    exact atI_nat (by rw [List.getElem?_map, List.getElem?_eq_getElem h]; rfl)
  · unfold PA.ps
    rw [List.getD_eq_getElem?_getD, List.getElem?_map, List.getElem?_eq_getElem h]; rfl
theorem szs_getD {ps : List Pt} {rooms : List Int} (h : ps.length = rooms.length) {k : Nat} (hk : k < ps.length) : (FM.szs ps rooms).getD k 0 = (ps.getD k p0).m - rooms.getD k 0 := by
  unfold FM.szs
  rw [zipW_ix ps rooms p0 h, List.getD_eq_getElem?_getD, List.getElem?_map, List.getElem?_eq_getElem (by simpa using hk)]
  simp
noncomputable abbrev sc_l_step_0 : Scope := (match defBody s_l_step with | (.Assign _ (.ListComp _ _ sc _) _) :: _ => sc | _ => defScope s_l_step)
theorem blk_l_step_0 : Blk (defScope s_l_step) N_l_step sc_l_step_0 ["_law_k"] [1, 2] := ⟨rfl, by decide +kernel, by decide +kernel, by decide +kernel, by decide +kernel⟩
theorem nd_l_step_0 : (capN N_l_step ["_law_k"] [1, 2]).Nodup := by decide +kernel
noncomputable abbrev sc_l_step_1 : Scope := (match defBody s_l_step with | _ :: _ :: (.Return (some (.ListComp _ _ sc _)) _) :: _ => sc | _ => defScope s_l_step)
theorem blk_l_step_1 : Blk (defScope s_l_step) N_l_step sc_l_step_1 ["_law_k"] [1, 2, 4] := ⟨rfl, by decide +kernel, by decide +kernel, by decide +kernel, by decide +kernel⟩
theorem nd_l_step_1 : (capN N_l_step ["_law_k"] [1, 2, 4]).Nodup := by decide +kernel
noncomputable def spStep : Sp := fun vs H Q _ => ∃ (lack : Int) (p zl : Addr) (pa : PA) (rooms : List Int), vs = [.int lack, .ref p, .ref zl] ∧ PartsAt H p pa ∧ H p = some (.lst (pa.map fun x => V.ref x.2)) ∧ GoodPa pa ∧ H zl = some (.lst ((FM.szs pa.ps rooms).map V.int)) ∧ rooms.length = pa.length ∧ 0 ≤ lack ∧ lack < 2 ^ 150 ∧
  ∀ l H', Same H H' → H l = none → H' l = some (.lst ((FM.given lack pa.ps rooms).map V.int)) → Q (.ref l) H'
theorem ok_step (T : Txt K mg A) : FnOk P w K mg base CX0 2 A.f_l_step A.d_l_step P_l_step spStep := by
  have G_l_due : FnOk P w K mg base CX0 1 A.f_l_due A.d_l_due P_l_due spDue := ok_due T
  refine T.F_l_step.ok sc_l_step (fun vs H Q E h => ?_) (fun cdv B outer s H vs Q E hr h => ?_)
  · obtain ⟨lack, p, zl, pa, rooms, rfl, _⟩ := h; rfl
  obtain ⟨lack, p, zl, pa, rooms, rfl, hp, hpl, g, hz, hlen, h0, h1, q⟩ := h
  have hn := g.n
  have hps : pa.ps.length = pa.length := by simp
  have hsl : (FM.szs pa.ps rooms).length = pa.length := by unfold FM.szs; rw [List.length_zipWith]; (first | lia | omega)
  refine ⟨_, @pss_cons _ _ _ _ _ (ps_setComp (i := 3) blk_l_step_0 rfl (pi_range1 rfl T.n_range (pa_cons (pe_callB call_len_seq rfl T.n_len b_len (pa_cons (pv 1) pa_nil)) pa_nil)) (fun _ _ _ _ _ => pg_name (i := 0) nd_l_step_0 rfl (.inl rfl)) (fun _ _ _ _ _ => pif_nil) (fun _ _ _ _ _ => pe_op op_mul (pe_ix (ix_tupK (K := K) rfl) (pe_ix (ix_listK (K := K) rfl) (pv 1) (pv 0) (fun _ _ => rfl)) pe_int (fun _ _ => rfl)) (pe_callTy call_int1 rfl T.n_int b_int (pa_cons (pe_cmpR op_lt (pe_ix (ix_listK (K := K) rfl) (pv 2) (pv 0) (fun _ _ => rfl)) (pe_ix (ix_tupK (K := K) rfl) (pe_ix (ix_listK (K := K) rfl) (pv 1) (pv 0) (fun _ _ => rfl)) pe_int (fun _ _ => rfl)) (nomark _)) pa_nil))) sc_l_step.nd rfl rfl)
    (@pss_cons _ _ _ _ _ (ps_set (i := 4) sc_l_step.nd rfl (Or.inr rfl) (pe_call G_l_due hr rfl T.m_l_due T.F_l_due.kp T.b_l_due .nil pass0 (pa_cons (pv 0) (pa_cons (pv 3) pa_nil))))
    (pss_one (ps_ret (pe_comp blk_l_step_1 rfl (pi_range1 rfl T.n_range (pa_cons (pe_callB call_len_seq rfl T.n_len b_len (pa_cons (pv 1) pa_nil)) pa_nil)) (fun _ _ _ _ _ => pg_name (i := 0) nd_l_step_1 rfl (.inl rfl)) (fun _ _ _ _ _ => pif_nil) (fun _ _ _ _ _ => pe_callB (call_min2 rfl) rfl T.n_min b_min (pa_cons (pe_ix (ix_listK (K := K) rfl) (pv 3) (pv 0) (fun _ _ => rfl)) (pa_cons (pe_op op_sub (pe_ix (ix_tupK (K := K) rfl) (pe_ix (ix_listK (K := K) rfl) (pv 1) (pv 0) (fun _ _ => rfl)) pe_int (fun _ _ => rfl)) (pe_ix (ix_listK (K := K) rfl) (pv 2) (pv 0) (fun _ _ => rfl))) pa_nil))))))), ?_⟩
  refine ⟨_, rfl, p, _, rfl, .inl (.of hpl), _, rfl, by (first | lia | omega), by rw [List.length_map]; (first | lia | omega), ?_⟩
  rw [List.length_map, Int.toNat_natCast]
  refine blk_rngmap (fun k => V.int (if 0 < rooms.getD k 0 then (pa.ps.getD k p0).w else 0)) (small1000 (by (first | lia | omega))) (fun k hk Q hQ => ?_) fun wl hwl => ?_
  · obtain ⟨x, hx, ex, e1⟩ := atPart hk
    have hxt := hp.it x hx
    have hgx := g.good x hx
    have hsz := szs_getD (rooms := rooms) (by (first | lia | omega)) (show k < pa.ps.length by (first | lia | omega))
    have e0 : (0 + (k : Int)) = ((k : Nat) : Int) := by (first | lia | omega)
    refine ⟨_, rfl, _, rfl, p, _, _, _, rfl, rfl, .of hpl, ex, x.2, _, 3, _, rfl, rfl, .of hxt, rfl, _, rfl, _, rfl, zl, _, _, _, rfl, rfl, .of hz, atI_intE e0 (by (first | lia | omega)), _, rfl, _, rfl, p, _, _, _, rfl, rfl, .of hpl, ex, x.2, _, 2, _, rfl, rfl, .of hxt, rfl, _, _, rfl, rfl, .inr ⟨_, rfl, _, _, rfl, rfl, .inl ⟨by have := hgx.w0; (first | lia | omega), by have := hgx.w9; (first | lia | omega)⟩, ?_⟩⟩
    rw [hsz, ← e1]
    rw [← e1] at hQ
    by_cases c : 0 < rooms.getD k 0
    · rw [decide_eq_true (show x.1.m - rooms.getD k 0 < x.1.m by (first | lia | omega))]
      rw [if_pos c] at hQ
      simpa using hQ
    · rw [decide_eq_false (show ¬ x.1.m - rooms.getD k 0 < x.1.m by (first | lia | omega))]
      rw [if_neg c] at hQ
      simpa using hQ
  have ew : ((List.range pa.length).map fun k => V.int (if 0 < rooms.getD k 0 then (pa.ps.getD k p0).w else 0)) = (FM.wts pa.ps rooms).map V.int := by
    unfold FM.wts
    rw [zipW_ix pa.ps rooms p0 (by (first | lia | omega)), List.map_map, hps]; rfl
  rw [ew]
  have s1 := same_upd hwl (.lst ((FM.wts pa.ps rooms).map V.int))
  refine ⟨_, rfl, _, rfl, lack, wl, _, rfl, upd_same, goodW g h0 h1 hlen, fun sl H2 s2 f2 e2 => ?_⟩
  have s12 := s1.trans s2
  have hpl2 := s12 _ _ hpl
  have hp2 := hp.same s12
  have hz2 := s12 _ _ hz
  have hdl : (SM.dueL lack (FM.wts pa.ps rooms)).length = pa.length := by rw [SM.dueL_len, FM.wts_len (by (first | lia | omega))]; exact hps
  refine ⟨_, rfl, p, _, rfl, .inl (.of hpl2), _, rfl, by (first | lia | omega), by rw [List.length_map]; (first | lia | omega), ?_⟩
  rw [List.length_map, Int.toNat_natCast]
  refine blk_rngmap (fun k => V.int (min ((SM.dueL lack (FM.wts pa.ps rooms)).getD k 0) (rooms.getD k 0))) (small1000 (by (first | lia | omega))) (fun k hk Q hQ => ?_) fun l hl => ?_
  · obtain ⟨x, hx, ex, e1⟩ := atPart hk
    have hxt := hp2.it x hx
    have hsz := szs_getD (rooms := rooms) (by (first | lia | omega)) (show k < pa.ps.length by (first | lia | omega))
    have e0 : (0 + (k : Int)) = ((k : Nat) : Int) := by (first | lia | omega)
    refine ⟨_, rfl, _, rfl, sl, _, _, _, rfl, rfl, .of e2, atI_intE e0 (by (first | lia | omega)), _, rfl, _, rfl, p, _, _, _, rfl, rfl, .of hpl2, ex, x.2, _, 2, _, rfl, rfl, .of hxt, rfl, _, rfl, _, rfl, zl, _, _, _, rfl, rfl, .of hz2, atI_intE e0 (by (first | lia | omega)), _, _, rfl, rfl, _, _, rfl, ?_⟩
    rw [min_if, hsz, ← e1]
    have : x.1.m - (x.1.m - rooms.getD k 0) = rooms.getD k 0 := by (first | lia | omega)
    rw [this]
    exact hQ
  have eg : ((List.range pa.length).map fun k => V.int (min ((SM.dueL lack (FM.wts pa.ps rooms)).getD k 0) (rooms.getD k 0))) = (FM.given lack pa.ps rooms).map V.int := by
    unfold FM.given
    rw [zipI_ix _ _ (by (first | lia | omega)), List.map_map, hdl]; rfl
  rw [eg]
  exact q l _ (s12.trans (same_upd hl _)) (s12.free hl) upd_same
end
end KP

set_option linter.all false
set_option maxHeartbeats 4000000
set_option maxRecDepth 100000
namespace FM
open SM
theorem taken_sum {total : Int} {ps : List Pt} (hp : ∀ p ∈ ps, GoodPt p) (h : (ps.map fun p => p.b).sum > total) : (dueL (taken total ps) (above ps)).sum = taken total ps ∧ 0 ≤ taken total ps := by
  have h0 := SM.sum_nonneg _ (above_sum0 hp)
  have hn : 0 ≤ taken total ps := min_nonneg (by (first | lia | omega)) h0
  refine ⟨?_, hn⟩
  by_cases z : (above ps).sum = 0
  · have e : taken total ps = 0 := by
      have : taken total ps ≤ (above ps).sum := Int.min_le_right _ _
      (first | lia | omega)
    have e2 : dueL (taken total ps) (above ps) = (above ps).map fun _ => 0 := by unfold dueL; rw [if_pos z]
    rw [e2, zeros_sum, e]
  · obtain ⟨U, D⟩ := due_of (t := taken total ps) (ws := above ps) (by (first | lia | omega))
    exact D.sum
end FM
namespace KP
open PySem L2 PyProof.Rows
open FM (Pt GoodPt)
section
variable {P : Program} {w : World} {K : PySem.W.Frag} {mg : Str → Option Value} {base : Heap} {A : Adr}
theorem Same.app {H H2 : Hp} {l : Addr} (e : Same H H2) (f : H l = none) (o : HO) : Same H (upd H2 l o) := fun b u q => by rw [upd_ne (ne_of_none q f)]; exact e b u q
noncomputable abbrev sc_l_walked_0 : Scope := (match defBody s_l_walked with | (.Assign _ (.ListComp _ _ sc _) _) :: _ => sc | _ => defScope s_l_walked)
theorem blk_l_walked_0 : Blk (defScope s_l_walked) N_l_walked sc_l_walked_0 ["_law_one"] [] := ⟨rfl, by decide +kernel, by decide +kernel, by decide +kernel, by decide +kernel⟩
theorem nd_l_walked_0 : (capN N_l_walked ["_law_one"] []).Nodup := by decide +kernel
noncomputable abbrev sc_l_walked_1 : Scope := (match defBody s_l_walked with | _ :: _ :: (.If _ ((.Assign _ (.ListComp _ _ sc _) _) :: _) _ _) :: _ => sc | _ => defScope s_l_walked)
theorem blk_l_walked_1 : Blk (defScope s_l_walked) N_l_walked sc_l_walked_1 ["_law_one"] [] := ⟨rfl, by decide +kernel, by decide +kernel, by decide +kernel, by decide +kernel⟩
theorem nd_l_walked_1 : (capN N_l_walked ["_law_one"] []).Nodup := by decide +kernel
noncomputable abbrev sc_l_walked_2 : Scope := (match defBody s_l_walked with | _ :: _ :: (.If _ (_ :: _ :: (.If _ (_ :: (.Assign _ (.ListComp _ _ sc _) _) :: _) _ _) :: _) _ _) :: _ => sc | _ => defScope s_l_walked)
theorem blk_l_walked_2 : Blk (defScope s_l_walked) N_l_walked sc_l_walked_2 ["_law_k"] [2, 5] := ⟨rfl, by decide +kernel, by decide +kernel, by decide +kernel, by decide +kernel⟩
theorem nd_l_walked_2 : (capN N_l_walked ["_law_k"] [2, 5]).Nodup := by decide +kernel
noncomputable abbrev sc_l_walked_3 : Scope := (match defBody s_l_walked with | _ :: _ :: _ :: (.While _ (_ :: _ :: _ :: (.Assign _ (.ListComp _ _ sc _) _) :: _) _ _) :: _ => sc | _ => defScope s_l_walked)
theorem blk_l_walked_3 : Blk (defScope s_l_walked) N_l_walked sc_l_walked_3 ["_law_k"] [2, 5] := ⟨rfl, by decide +kernel, by decide +kernel, by decide +kernel, by decide +kernel⟩
theorem nd_l_walked_3 : (capN N_l_walked ["_law_k"] [2, 5]).Nodup := by decide +kernel
noncomputable def spWalked : Sp := fun vs H Q _ => ∃ (t : Int) (p : Addr) (pa : PA), vs = [.int t, .ref p] ∧ PartsAt H p pa ∧ H p = some (.lst (pa.map fun x => V.ref x.2)) ∧ GoodPa pa ∧ 0 ≤ t ∧ t < 2 ^ 140 ∧
  ∀ (tl l zl : Addr) (ra : RA) (sz : List Int) (H' : Hp), Same H H' → H' tl = some (.tup [.ref l, .ref zl]) → FM.Fill t pa.ps ra.rows sz → RowsAt H' l ra → Fresh H l ra → H' zl = some (.lst (sz.map V.int)) → H zl = none → zl ≠ l → zl ∉ ra.adr → Q (.ref tl) H'
theorem ok_walked (T : Txt K mg A) : FnOk P w K mg base CX0 3 A.f_l_walked A.d_l_walked P_l_walked spWalked := by
  have G_l_due : FnOk P w K mg base CX0 2 A.f_l_due A.d_l_due P_l_due spDue := (ok_due T).mono (by decide)
  have G_l_step : FnOk P w K mg base CX0 2 A.f_l_step A.d_l_step P_l_step spStep := ok_step T
  refine T.F_l_walked.ok sc_l_walked (fun vs H Q E h => ?_) (fun cdv B outer s H vs Q E hr h => ?_)
  · obtain ⟨t, p, pa, rfl, _⟩ := h; rfl
  obtain ⟨t, p, pa, rfl, hp, hpl, g, h0, h1, q⟩ := h
  have hn := g.n
  have hps : pa.ps.length = pa.length := by simp
  have hb := bsum g
  have e140 : (2 ^ 140 : Int) + 600000 < 2 ^ 150 := by decide
  refine ⟨_, @pss_cons _ _ _ _ _ (ps_set (i := 2) sc_l_walked.nd rfl (Or.inr rfl) (pe_comp blk_l_walked_0 rfl (pi_seq (pv 1)) (fun _ _ _ _ _ => pg_name (i := 0) nd_l_walked_0 rfl (.inl rfl)) (fun _ _ _ _ _ => pif_nil) (fun _ _ _ _ _ => pe_ix (ix_tupK (K := K) rfl) (pv 0) pe_int (fun _ _ => rfl))))
    (@pss_cons _ _ _ _ _ (ps_set (i := 3) sc_l_walked.nd rfl (Or.inl rfl) (pe_lst pa_nil))
    (@pss_cons _ _ _ _ _ (ps_if (pt_cmpR op_gt (pe_callB (call_sum rfl) rfl T.n_sum b_sum (pa_cons (pv 2) pa_nil)) (pv 0) (nomark _)) (@pss_cons _ _ _ _ _ (ps_setComp (i := 4) blk_l_walked_1 rfl (pi_seq (pv 1)) (fun _ _ _ _ _ => pg_name (i := 0) nd_l_walked_1 rfl (.inl rfl)) (fun _ _ _ _ _ => pif_nil) (fun _ _ _ _ _ => pe_op op_sub (pe_ix (ix_tupK (K := K) rfl) (pv 0) pe_int (fun _ _ => rfl)) (pe_ix (ix_tupK (K := K) rfl) (pv 0) pe_int (fun _ _ => rfl))) sc_l_walked.nd rfl rfl)
    (@pss_cons _ _ _ _ _ (ps_set (i := 5) sc_l_walked.nd rfl (Or.inr rfl) (pe_call G_l_due hr rfl T.m_l_due T.F_l_due.kp T.b_l_due .nil pass0 (pa_cons (pe_callB (call_min2 rfl) rfl T.n_min b_min (pa_cons (pe_op op_sub (pe_callB (call_sum rfl) rfl T.n_sum b_sum (pa_cons (pv 2) pa_nil)) (pv 0)) (pa_cons (pe_callB (call_sum rfl) rfl T.n_sum b_sum (pa_cons (pv 4) pa_nil)) pa_nil))) (pa_cons (pv 4) pa_nil))))
    (@pss_cons _ _ _ _ _ (ps_if (pt_cmpR op_gt (pe_callB (call_sum rfl) rfl T.n_sum b_sum (pa_cons (pv 5) pa_nil)) pe_int (nomark _)) (@pss_cons _ _ _ _ _ (ps_expr (pe_bm PySem.F.plainAttrs_list PySem.F.slot_list_append PySem.F.type_list_append mt_append (pv 3) (pa_cons (pv 5) pa_nil)))
    (pss_one (ps_set (i := 2) sc_l_walked.nd rfl (Or.inr rfl) (pe_comp blk_l_walked_2 rfl (pi_range1 rfl T.n_range (pa_cons (pe_callB call_len_seq rfl T.n_len b_len (pa_cons (pv 1) pa_nil)) pa_nil)) (fun _ _ _ _ _ => pg_name (i := 0) nd_l_walked_2 rfl (.inl rfl)) (fun _ _ _ _ _ => pif_nil) (fun _ _ _ _ _ => pe_op op_sub (pe_ix (ix_listK (K := K) rfl) (pv 1) (pv 0) (fun _ _ => rfl)) (pe_ix (ix_listK (K := K) rfl) (pv 2) (pv 0) (fun _ _ => rfl))))))) pss_nil)
    (pss_one (ps_ret (pe_tup (pa_cons (pv 3) (pa_cons (pv 2) pa_nil)))))))) pss_nil)
    (@pss_cons _ _ _ _ _ (ps_while PassesOwn.never (pt_cmpR op_lt (pe_callB (call_sum rfl) rfl T.n_sum b_sum (pa_cons (pv 2) pa_nil)) (pv 0) (nomark _)) (@pss_cons _ _ _ _ _ (ps_set (i := 5) sc_l_walked.nd rfl (Or.inr rfl) (pe_call G_l_step hr rfl T.m_l_step T.F_l_step.kp T.b_l_step .nil pass0 (pa_cons (pe_op op_sub (pv 0) (pe_callB (call_sum rfl) rfl T.n_sum b_sum (pa_cons (pv 2) pa_nil))) (pa_cons (pv 1) (pa_cons (pv 2) pa_nil)))))
    (@pss_cons _ _ _ _ _ (ps_if (pt_cmpR op_eq (pe_callB (call_sum rfl) rfl T.n_sum b_sum (pa_cons (pv 5) pa_nil)) pe_int (nomark _)) (pss_one ps_break) pss_nil)
    (@pss_cons _ _ _ _ _ (ps_expr (pe_bm PySem.F.plainAttrs_list PySem.F.slot_list_append PySem.F.type_list_append mt_append (pv 3) (pa_cons (pv 5) pa_nil)))
    (pss_one (ps_set (i := 2) sc_l_walked.nd rfl (Or.inr rfl) (pe_comp blk_l_walked_3 rfl (pi_range1 rfl T.n_range (pa_cons (pe_callB call_len_seq rfl T.n_len b_len (pa_cons (pv 1) pa_nil)) pa_nil)) (fun _ _ _ _ _ => pg_name (i := 0) nd_l_walked_3 rfl (.inl rfl)) (fun _ _ _ _ _ => pif_nil) (fun _ _ _ _ _ => pe_op op_add (pe_ix (ix_listK (K := K) rfl) (pv 1) (pv 0) (fun _ _ => rfl)) (pe_ix (ix_listK (K := K) rfl) (pv 2) (pv 0) (fun _ _ => rfl))))))))))
    (pss_one (ps_ret (pe_tup (pa_cons (pv 3) (pa_cons (pv 2) pa_nil)))))))), ?_⟩
  refine ⟨_, rfl, p, rfl, blk_map (fun x : Pt × Addr => V.int x.1.b) (fun x => V.ref x.2) hp.sq (small1000 (by (first | lia | omega))) (fun x hx Q hQ => ⟨_, rfl, x.2, _, 0, _, rfl, rfl, .of (hp.it x hx), rfl, hQ⟩) fun zl hzl => ?_⟩
  rw [psmap pa fun p => V.int p.b, mapint]
  have s1 := same_upd hzl (.lst ((pa.ps.map (·.b)).map V.int))
  have ez1 : upd H zl (.lst ((pa.ps.map (·.b)).map V.int)) zl = some (.lst ((pa.ps.map (·.b)).map V.int)) := upd_same
  generalize upd H zl (.lst ((pa.ps.map (·.b)).map V.int)) = H1 at s1 ez1 ⊢
  refine ⟨small (by simp), fun rl hrl => ?_⟩
  have s2 := s1.trans (same_upd hrl (.lst []))
  have ez2 := same_upd hrl (.lst []) _ _ ez1
  have er2 : upd H1 rl (.lst []) rl = some (.lst []) := upd_same
  have nzr : zl ≠ rl := ne_of_none ez1 hrl
  have frl : H rl = none := s1.free hrl
  generalize upd H1 rl (.lst []) = H2 at s2 ez2 er2 ⊢
  have hp2 := hp.same s2
  have hpl2 := s2 _ _ hpl
  refine ⟨_, rfl, zl, pa.ps.map (·.b), rfl, .inl (.of ez2), _, rfl, _, _, rfl, rfl, _, rfl, ite2 (fun c => ?_) (fun c => ?_)⟩
  · -- something is taken
    have c' : (pa.ps.map fun p => p.b).sum > t := of_decide_eq_true c
    have hab := FM.above_sum0 g.ps
    have hts := FM.taken_sum g.ps c'
    refine ⟨_, rfl, p, rfl, blk_map (fun x : Pt × Addr => V.int (x.1.b - x.1.l)) (fun x => V.ref x.2) hp2.sq (small1000 (by (first | lia | omega))) (fun x hx Q hQ => ⟨_, rfl, x.2, _, 0, _, rfl, rfl, .of (hp2.it x hx), rfl, _, rfl, x.2, _, 1, _, rfl, rfl, .of (hp2.it x hx), rfl, _, _, rfl, rfl, hQ⟩) fun al hal => ?_⟩
    rw [psmap pa fun p => V.int (p.b - p.l), mapint]
    have s3 := same_upd hal (.lst ((pa.ps.map fun p => p.b - p.l).map V.int))
    have ea3 : upd H2 al (.lst ((pa.ps.map fun p => p.b - p.l).map V.int)) al = some (.lst ((FM.above pa.ps).map V.int)) := upd_same
    generalize upd H2 al (.lst ((pa.ps.map fun p => p.b - p.l).map V.int)) = H3 at s3 ea3 ⊢
    have ez3 := s3 _ _ ez2
    refine ⟨_, rfl, zl, pa.ps.map (·.b), rfl, .inl (.of ez3), _, rfl, _, _, rfl, rfl, _, rfl, al, FM.above pa.ps, rfl, .inl (.of ea3), _, _, rfl, _, rfl, ?_⟩
    have hg : Good (FM.taken t pa.ps) (FM.above pa.ps) := by
      refine ⟨hts.2, Int.lt_of_le_of_lt (Int.min_le_left _ _) (Int.lt_of_le_of_lt (show (pa.ps.map fun p => p.b).sum - t ≤ 600000 by (first | lia | omega)) (by decide)), by unfold FM.above; simp; exact hn, hab, fun x hx => ?_⟩
      obtain ⟨y, hy, rfl⟩ := List.mem_map.mp hx
      have a1 := (g.ps y hy).bm
      have a2 := (g.ps y hy).m9
      have a3 := (g.ps y hy).l0
      exact Int.lt_of_le_of_lt (show y.b - y.l ≤ 9999 by (first | lia | omega)) (by decide)
    have em : (if (FM.above pa.ps).sum < (pa.ps.map (·.b)).sum - t then (FM.above pa.ps).sum else (pa.ps.map (·.b)).sum - t) = FM.taken t pa.ps := by rw [min_if]; rfl
    refine ⟨FM.taken t pa.ps, al, FM.above pa.ps, by rw [em]; rfl, ea3, hg, fun wl H4 s4 f4 e4 => ?_⟩
    have s34 := s3.trans s4
    have s24 := s2.trans s34
    refine ⟨_, rfl, wl, _, rfl, .inl (.of e4), _, _, rfl, rfl, _, rfl, ite2 (fun z => ?_) (fun z => ?_)⟩
    · have z' : 0 < FM.taken t pa.ps := by rw [← hts.1]; exact of_decide_eq_true z
      have er4 := s34 _ _ er2
      refine ⟨_, rfl, .inl ⟨rfl, _, .of er4⟩, _, rfl, rl, _, _, rfl, rfl, er4, by decide, ?_⟩
      have nwr : wl ≠ rl := fun z => by rw [z, s3 _ _ er2] at f4; cases f4
      have fwl : H wl = none := (s2.trans s3).free f4
      have ez5 := (upd_ne (o := .lst ([] ++ [V.ref wl])) nzr).trans (s34 _ _ ez2)
      have ew5 := (upd_ne (o := .lst ([] ++ [V.ref wl])) nwr).trans e4
      have er5 : upd H4 rl (.lst ([] ++ [V.ref wl])) rl = some (.lst [.ref wl]) := upd_same
      have s5 := Same.app s24 frl (.lst ([] ++ [V.ref wl]))
      have hpl5 := s5 _ _ hpl
      generalize upd H4 rl (.lst ([] ++ [V.ref wl])) = H5 at ez5 ew5 er5 s5 hpl5 ⊢
      have hdl : (SM.dueL (FM.taken t pa.ps) (FM.above pa.ps)).length = pa.length := by rw [SM.dueL_len]; unfold FM.above; simp
      refine ⟨_, rfl, p, _, rfl, .inl (.of hpl5), _, rfl, by (first | lia | omega), by rw [List.length_map]; (first | lia | omega), ?_⟩
      rw [List.length_map, Int.toNat_natCast]
      refine blk_rngmap (fun k => V.int ((pa.ps.map (·.b)).getD k 0 - (SM.dueL (FM.taken t pa.ps) (FM.above pa.ps)).getD k 0)) (small1000 (by (first | lia | omega))) (fun k hk Q hQ => ?_) fun z2 hz2 => ?_
      · have e0 : (0 + (k : Int)) = ((k : Nat) : Int) := by (first | lia | omega)
        exact ⟨_, rfl, _, rfl, zl, _, _, _, rfl, rfl, .of ez5, atI_intE e0 (by simp; exact hk), _, rfl, _, rfl, wl, _, _, _, rfl, rfl, .of ew5, atI_intE e0 (by (first | lia | omega)), _, _, rfl, rfl, hQ⟩
      have eS : ((List.range pa.length).map fun k => V.int ((pa.ps.map (·.b)).getD k 0 - (SM.dueL (FM.taken t pa.ps) (FM.above pa.ps)).getD k 0)) = (List.zipWith (· - ·) (pa.ps.map fun p => p.b) (SM.dueL (FM.taken t pa.ps) (FM.above pa.ps))).map V.int := by
        rw [zipI_ix _ _ (by simp; (first | lia | omega)), List.map_map]
        simp
      rw [eS]
      have s6 := same_upd hz2 (.lst ((List.zipWith (· - ·) (pa.ps.map fun p => p.b) (SM.dueL (FM.taken t pa.ps) (FM.above pa.ps))).map V.int))
      refine ⟨_, rfl, _, rfl, small (by simp), fun tl htl => ?_⟩
      have s7 := same_upd htl (.tup [.ref rl, .ref z2])
      have s67 := s6.trans s7
      refine q tl rl z2 [(SM.dueL (FM.taken t pa.ps) (FM.above pa.ps), wl)] _ _ (s5.trans s67) upd_same (.less c' (by (first | lia | omega))) ⟨s67 _ _ er5, fun x hx => ?_⟩ ⟨frl, fun x hx => ?_, by simp, by simp; exact nwr.symm⟩ (s7 _ _ upd_same) (s5.free hz2) (fun z => by rw [z, er5] at hz2; cases hz2) (by simp; exact fun z => by rw [z, ew5] at hz2; cases hz2)
      · rw [List.mem_singleton.mp hx]; exact s67 _ _ ew5
      · rw [List.mem_singleton.mp hx]; exact fwl
    · have z' : FM.taken t pa.ps = 0 := by
        have : ¬ 0 < FM.taken t pa.ps := fun y => z (decide_eq_true (by rw [hts.1]; exact y))
        have := hts.2
        (first | lia | omega)
      refine ⟨_, rfl, _, rfl, small (by simp), fun tl htl => ?_⟩
      have s7 := same_upd htl (.tup [.ref rl, .ref zl])
      exact q tl rl zl [] _ _ (s24.trans s7) upd_same (.none c' z') ⟨s7 _ _ (s34 _ _ er2), fun x hx => (nomatch hx)⟩ ⟨frl, fun x hx => (nomatch hx), List.nodup_nil, fun z => (nomatch z)⟩ (s7 _ _ (s34 _ _ ez2)) hzl nzr (fun z => (nomatch z))
  -- something is given
  have c' : ¬ (pa.ps.map fun p => p.b).sum > t := fun z => c (decide_eq_true z)
  generalize hlk : t - (pa.ps.map fun p => p.b).sum = lack at *
  have hl0 : 0 ≤ lack := by (first | lia | omega)
  have leq : ∀ k, (FM.st pa.ps lack k).2 = t - (FM.szs pa.ps (FM.st pa.ps lack k).1).sum := fun k => by rw [← hlk]; exact FM.lack_eq pa.ps t k
  refine ⟨fun m σ H' => ∃ (i : Nat) (v5 : Option V) (ra : RA) (zl : Addr), m = (FM.st pa.ps lack i).2.toNat ∧ σ = [some (.int t), some (.ref p), some (.ref zl), some (.ref rl), none, v5] ∧ Same H H' ∧ H' zl = some (.lst ((FM.szs pa.ps (FM.st pa.ps lack i).1).map V.int)) ∧ H zl = none ∧ zl ≠ rl ∧ zl ∉ ra.adr ∧
      RowsAt H' rl ra ∧ Fresh H rl ra ∧ ra.rows = (List.range i).map (FM.gv pa.ps lack) ∧ (∀ k, k < i → 0 < (FM.st pa.ps lack k).2 ∧ (FM.gv pa.ps lack k).sum ≠ 0) ∧ (FM.st pa.ps lack i).2 ≤ lack,
    ⟨_, 0, none, [], zl, rfl, rfl, s2, ?_, hzl, nzr, fun z => (nomatch z), ⟨er2, fun x hx => (nomatch hx)⟩, ⟨frl, fun x hx => (nomatch hx), List.nodup_nil, fun z => (nomatch z)⟩, rfl, fun k hk => absurd hk (Nat.not_lt_zero k), Int.le_refl _⟩, ?_⟩
  · rw [ez2, show (FM.st pa.ps lack 0).1 = pa.ps.map fun p => p.m - p.b from rfl, FM.szs_0]
  rintro m σ H' ⟨i, v5, ra, zl, rfl, rfl, sm, ez, fz, nzr, nza, hra, fr, erow, hon, hle⟩
  have hsl : (FM.szs pa.ps (FM.st pa.ps lack i).1).length = pa.length := by unfold FM.szs; rw [List.length_zipWith, FM.st_len]; (first | lia | omega)
  have fin : ∀ {D : Ends} (H'' : Hp) (v4 v5 : Option V), D.rt = Q → Same H H'' → H'' zl = some (.lst ((FM.szs pa.ps (FM.st pa.ps lack i).1).map V.int)) → RowsAt H'' rl ra → FM.Ends pa.ps lack i →
      tRet (tTup (tCons (tVar 3) (tCons (tVar 2) tNil))) D [some (.int t), some (.ref p), some (.ref zl), some (.ref rl), v4, v5] H'' := fun {D} H'' v4 v5 hD s' e' r' en => by
    refine ⟨_, rfl, _, rfl, small (by simp), fun tl htl => ?_⟩
    rw [hD]
    have s7 := same_upd htl (.tup [.ref rl, .ref zl])
    have F : FM.Fill t pa.ps ra.rows (FM.szs pa.ps (FM.st pa.ps lack i).1) := by
      have F0 := FM.Fill.more (total := t) (ps := pa.ps) i c' (by rw [hlk]; exact en)
      rw [hlk, ← erow] at F0; exact F0
    exact q tl rl zl ra _ _ (s'.trans s7) upd_same F (r'.same s7) fr (s7 _ _ e') fz nzr nza
  refine ⟨_, rfl, zl, _, rfl, .inl (.of ez), _, rfl, _, _, rfl, rfl, _, rfl, ?_⟩
  by_cases c : 0 < (FM.st pa.ps lack i).2
  · rw [decide_eq_true (show (FM.szs pa.ps (FM.st pa.ps lack i).1).sum < t by have := leq i; (first | lia | omega))]
    refine iteT ⟨fun σ' H'' => ∃ m', m' < (FM.st pa.ps lack i).2.toNat ∧ ∃ (i : Nat) (v5 : Option V) (ra : RA) (zl : Addr), m' = (FM.st pa.ps lack i).2.toNat ∧ σ' = [some (.int t), some (.ref p), some (.ref zl), some (.ref rl), none, v5] ∧ Same H H'' ∧ H'' zl = some (.lst ((FM.szs pa.ps (FM.st pa.ps lack i).1).map V.int)) ∧ H zl = none ∧ zl ≠ rl ∧ zl ∉ ra.adr ∧
      RowsAt H'' rl ra ∧ Fresh H rl ra ∧ ra.rows = (List.range i).map (FM.gv pa.ps lack) ∧ (∀ k, k < i → 0 < (FM.st pa.ps lack k).2 ∧ (FM.gv pa.ps lack k).sum ≠ 0) ∧ (FM.st pa.ps lack i).2 ≤ lack, fun σ' H'' z => z, ?_⟩
    refine ⟨_, rfl, _, rfl, zl, _, rfl, .inl (.of ez), _, _, rfl, rfl, _, rfl, _, rfl, _, p, zl, pa, (FM.st pa.ps lack i).1, rfl, hp.same sm, sm _ _ hpl, g, ez, by rw [FM.st_len]; exact hps, by have := leq i; (first | lia | omega), by have := leq i; (first | lia | omega), fun gl H2 s2' f2 e2 => ?_⟩
    have eg : FM.given (t - (FM.szs pa.ps (FM.st pa.ps lack i).1).sum) pa.ps (FM.st pa.ps lack i).1 = FM.gv pa.ps lack i := by rw [← leq i]; rfl
    rw [eg] at e2
    have s02 := sm.trans s2'
    refine ⟨_, rfl, gl, FM.gv pa.ps lack i, rfl, .inl (.of e2), rfl, _, rfl, ite2 (fun z => ?_) (fun z => ?_)⟩
    · have z' : (FM.gv pa.ps lack i).sum = 0 := eqV' z
      exact fin H2 none (some (.ref gl)) rfl s02 (s2' _ _ ez) (hra.same s2') ⟨hon, .inr z'⟩
    have z' := neV z
    have hfg : H gl = none := sm.free f2
    have n1 : gl ∉ ra.adr := fun z => by
      obtain ⟨x, hx, rfl⟩ := List.mem_map.mp z
      have := hra.it x hx; rw [f2] at this; cases this
    have n2 : gl ≠ rl := fun z => by have := hra.lst; rw [← z, f2] at this; cases this
    have hral : ra.length = i := by have := congrArg List.length erow; simpa using this
    have hgl : (FM.gv pa.ps lack i).length = pa.length := by rw [FM.gv_len]; exact hps
    have hbound : ra.length < sizeLine := by
      have := FM.rounds_few g.ps hl0 (by (first | lia | omega)) hon
      rw [hral]
      exact Nat.lt_of_le_of_lt this (by decide)
    have hra2 := hra.same s2'
    refine ⟨_, rfl, .inl ⟨rfl, _, .of hra2.lst⟩, _, rfl, rl, _, _, rfl, rfl, hra2.lst, by rw [List.length_map]; exact hbound, ?_⟩
    have hra3 := hra2.add e2 fr.nl n2
    have fr3 := fr.add (row := FM.gv pa.ps lack i) hfg n1 n2
    have ez3 : upd H2 rl (.lst ((ra.map fun x => V.ref x.2) ++ [.ref gl])) zl = _ := (upd_ne nzr).trans (s2' _ _ ez)
    have eg3 : upd H2 rl (.lst ((ra.map fun x => V.ref x.2) ++ [.ref gl])) gl = _ := (upd_ne n2).trans e2
    have s03 := Same.app s02 fr.l0 (.lst ((ra.map fun x => V.ref x.2) ++ [.ref gl]))
    have hpl3 := s03 _ _ hpl
    generalize upd H2 rl (.lst ((ra.map fun x => V.ref x.2) ++ [.ref gl])) = H3 at hra3 ez3 eg3 s03 hpl3 ⊢
    refine ⟨_, rfl, p, _, rfl, .inl (.of hpl3), _, rfl, by (first | lia | omega), by rw [List.length_map]; (first | lia | omega), ?_⟩
    rw [List.length_map, Int.toNat_natCast]
    refine blk_rngmap (fun k => V.int ((FM.szs pa.ps (FM.st pa.ps lack i).1).getD k 0 + (FM.gv pa.ps lack i).getD k 0)) (small1000 (by (first | lia | omega))) (fun k hk Q hQ => ?_) fun z2 hz2 => ?_
    · have e0 : (0 + (k : Int)) = ((k : Nat) : Int) := by (first | lia | omega)
      exact ⟨_, rfl, _, rfl, zl, _, _, _, rfl, rfl, .of ez3, atI_intE e0 (by (first | lia | omega)), _, rfl, _, rfl, gl, _, _, _, rfl, rfl, .of eg3, atI_intE e0 (by (first | lia | omega)), _, _, rfl, rfl, hQ⟩
    have eS : ((List.range pa.length).map fun k => V.int ((FM.szs pa.ps (FM.st pa.ps lack i).1).getD k 0 + (FM.gv pa.ps lack i).getD k 0)) = (FM.szs pa.ps (FM.st pa.ps lack (i + 1)).1).map V.int := by
      rw [show (FM.st pa.ps lack (i + 1)).1 = List.zipWith (· - ·) (FM.st pa.ps lack i).1 (FM.gv pa.ps lack i) from rfl, FM.szs_step _ _ _ (by rw [FM.st_len]) (by (first | lia | omega)), zipI_ix _ _ (by (first | lia | omega)), List.map_map, hsl]
      rfl
    rw [eS]
    have s6 := same_upd hz2 (.lst ((FM.szs pa.ps (FM.st pa.ps lack (i + 1)).1).map V.int))
    have hpos : ∀ j, j < i → 0 ≤ (FM.st pa.ps lack j).2 := fun j hj => Int.le_of_lt (hon j hj).1
    have hgn := FM.given_nonneg (Int.le_of_lt c) g.ps (FM.st_range pa.ps lack g.ps hl0 i hpos)
    have hgs : 0 ≤ (FM.gv pa.ps lack i).sum := SM.sum_nonneg _ hgn
    have e6 : (FM.st pa.ps lack (i + 1)).2 = (FM.st pa.ps lack i).2 - (FM.gv pa.ps lack i).sum := rfl
    refine ⟨(FM.st pa.ps lack (i + 1)).2.toNat, by rw [e6]; (first | lia | omega), i + 1, some (.ref gl), ra ++ [(FM.gv pa.ps lack i, gl)], z2, rfl, rfl, s03.trans s6, upd_same, s03.free hz2, ?_, ?_, hra3.same s6, fr3, ?_, fun k hk => ?_, by rw [e6]; (first | lia | omega)⟩
    · exact fun z => by have := hra3.lst; rw [← z, hz2] at this; cases this
    · intro z
      obtain ⟨x, hx, rfl⟩ := List.mem_map.mp z
      have := hra3.it x hx; rw [hz2] at this; cases this
    · show (ra ++ [(FM.gv pa.ps lack i, gl)]).map (fun x : List Int × Addr => x.1) = _
      rw [List.map_append, List.range_succ, List.map_append]
      exact congrArg (· ++ _) erow
    · rcases Nat.lt_or_ge k i with h | h
      · exact hon k h
      · have : k = i := by (first | lia | omega)
        subst this; exact ⟨c, z'⟩
  · rw [decide_eq_false (show ¬ (FM.szs pa.ps (FM.st pa.ps lack i).1).sum < t by have := leq i; (first | lia | omega))]
    exact iteF (fin H' none v5 rfl sm ez hra ⟨hon, .inl c⟩)

theorem allT (n : Nat) : (List.range n).all (fun _ => true) = true := List.all_eq_true.mpr fun _ _ => rfl
/-- two lists of rows, alike -/
theorem rows_deq {H : Hp} {l dl : Addr} {ra da : RA} (h1 : RowsAt H l ra) (h2 : RowsAt H dl da) (e : ra.rows = da.rows) : ∀ i, i < (ra.map fun x => V.ref x.2).length → DEq K H 1 ((ra.map fun x => V.ref x.2).getD i .non) ((da.map fun x => V.ref x.2).getD i .non) true := by
  intro i hi
  rw [List.length_map] at hi
  have hl : ra.length = da.length := by have := congrArg List.length e; simpa using this
  have hi2 : i < da.length := by (first | lia | omega)
  have e1 : (ra.map fun x => V.ref x.2).getD i .non = V.ref ra[i].2 := by rw [List.getD_eq_getElem?_getD, List.getElem?_map, List.getElem?_eq_getElem hi]; rfl
  have e2 : (da.map fun x => V.ref x.2).getD i .non = V.ref da[i].2 := by rw [List.getD_eq_getElem?_getD, List.getElem?_map, List.getElem?_eq_getElem hi2]; rfl
  have e3 : ra[i].1 = da[i].1 := by
    have q : ra.rows[i]? = da.rows[i]? := by rw [e]
    unfold RA.rows at q
    rw [List.getElem?_map, List.getElem?_map, List.getElem?_eq_getElem hi, List.getElem?_eq_getElem hi2] at q
    exact Option.some.inj q
  rw [e1, e2]
  have a1 := h1.it ra[i] (List.getElem_mem hi)
  have a2 := h2.it da[i] (List.getElem_mem hi2)
  by_cases z : ra[i].2 = da[i].2
  · rw [z]; exact .same _
  · rw [e3] at a1
    have d := DEq.lst (K := K) (n := 0) (fun _ => true) z (.of a1) (.of a2) rfl (fun j hj => by
      have hf : flatV (((da[i].1).map V.int).getD j .non) = true := flat_at (flat_ints _) hj
      have := DEq.flat (K := K) (H := H) (n := 0) hf hf
      rw [eqV_refl hf] at this; exact this)
    rw [allT] at d; exact d
theorem iteEqD {n : Nat} {A B : Prop} (h : A) : if (if false = true then !(List.range n).all (fun _ => true) else (List.range n).all (fun _ => true)) = true then A else B := by
  rw [if_neg (show ¬ (false = true) by decide), allT]; exact iteT h
end
end KP

set_option linter.all false
set_option maxHeartbeats 4000000
set_option maxRecDepth 100000
namespace KP
open PySem L2 PyProof.Rows
section
variable {P : Program} {w : World} {K : PySem.W.Frag} {mg : Str → Option Value} {base : Heap} {A : Adr}
theorem Txt.ns (T : Txt K mg A) : ClsAt K A.c_PaneError [A.c_NoShare, A.c_NoBox, A.c_NoText, A.c_NoRule, A.c_NoName, A.c_NoPlace, A.c_NoPage, A.c_NoChange, A.c_NoUndo, A.c_NoRow] A.c_NoShare := (cls_at T.cls).2 _ (.head _)
/-- raise NoShare("..") -/
theorem ps_ns (T : Txt K mg A) {N : List Str} {qual : Str} {scope : Scope} {f : Addr} {cd : Value} {B : Around} {outer : List Env} {s : Shared} {H : Hp} {E : XK} {x : Str} {j np cp pp pos : _} (hg : Gl (cxOf (CXW P w) P w K mg base N qual scope f cd B outer s H E) "NoShare") :
    PS (cxOf (CXW P w) P w K mg base N qual scope f cd B outer s H E) (.Raise (some (.Call (.Name "NoShare" np) [.Constant (.str x) j cp] [] pp)) none pos) (tRaise E A.c_NoShare (tCons (tC (.str x)) tNil)) :=
  ps_raise raisesW rfl hg T.m_NoShare T.ns.exc PySem.F.excBase_ValueError PySem.F.excBase_ValueError (by decide) (by show 1 ≤ 1000; (first | lia | omega)) (pa_cons pe_str pa_nil) (fun σ H Q h => ⟨by show 1 ≤ sizeLine; decide, h⟩)
noncomputable def spNTB (K : PySem.W.Frag) (c : Addr) : Sp := fun vs H Q E => ∃ (v : V) (S : String), vs = [v] ∧ Is K H v S ∧ numV v = false ∧ E (.ref c) none H
theorem ok_need_total_bad (T : Txt K mg A) : FnOk P w K mg base (CXW P w) 2 A.f_need_total A.d_need_total P_need_total (spNTB K A.c_NoShare) := by
  have G1 : FnOk P w K mg base CX0 1 A.f_is_number A.d_is_number P_is_number (spNum K) := ok_is_number T
  refine T.F_need_total.okW sc_need_total (fun vs H Q E h => ?_) (fun cdv B outer s H vs Q E hr h => ?_)
  · obtain ⟨i, S, rfl, _⟩ := h; rfl
  obtain ⟨v, S, rfl, ty, hn, q⟩ := h
  refine ⟨_, pss_one (ps_if (pt_not (pt_val (pe_call G1 hr rfl T.m_is_number T.F_is_number.kp T.b_is_number .nil pass0 (pa_cons (pv 0) pa_nil)))) (pss_one (ps_ns T rfl)) pss_nil), ?_⟩
  refine ⟨_, rfl, v, S, rfl, ty, _, rfl, ?_⟩
  rw [hn]
  exact iteT q
/-- neither a list nor a tuple; or too many -/
noncomputable def spFewB (K : PySem.W.Frag) (c : Addr) : Sp := fun vs H Q E => ∃ (v : V), vs = [v] ∧ ((∃ S, Is K H v S ∧ subTy S "list" = false ∧ subTy S "tuple" = false) ∨ ∃ p xs, v = .ref p ∧ (H p = some (.lst xs) ∨ H p = some (.tup xs)) ∧ 60 < xs.length) ∧ ∀ H', Same H H' → E (.ref c) none H'
theorem kit2_true (T : Txt K mg A) {H : Hp} {p : Addr} {xs : List V} (hp : H p = some (.lst xs) ∨ H p = some (.tup xs)) : ∃ t, TyOf K H (.ref p) t ∧ PySem.W.kitAny K t [.type "list", .type "tuple"] = some true := by
  rcases hp with e | e
  · exact ⟨_, .lst e, by unfold PySem.W.kitAny PySem.W.kitOne; rfl⟩
  · refine ⟨_, .tup e, ?_⟩
    unfold PySem.W.kitAny
    rw [kit_of T.kit (S := "tuple") (T := "list") rfl rfl]
    show PySem.W.kitAny K (.type "tuple") [.type "tuple"] = some true
    unfold PySem.W.kitAny PySem.W.kitOne; rfl
theorem Is.same {H H' : Hp} {v : V} {S : String} (e : Same H H') (x : Is K H v S) : Is K H' v S := by
  obtain ⟨ty, m⟩ := x
  refine ⟨?_, m⟩
  cases ty with
  | non => exact .non
  | bl b => exact .bl b
  | int i => exact .int i
  | str y => exact .str y
  | flt y => exact .flt y
  | lst h => exact .lst (e _ _ h)
  | frz h => exact .frz (e _ _ h)
  | tup h => exact .tup (e _ _ h)
  | dK h => exact .dK (e _ _ h)
  | dT h => exact .dT (e _ _ h)
theorem ok_need_few_bad (T : Txt K mg A) : FnOk P w K mg base (CXW P w) 1 A.f_need_few A.d_need_few P_need_few (spFewB K A.c_NoShare) := by
  refine T.F_need_few.okW sc_need_few (fun vs H Q E h => ?_) (fun cdv B outer s H vs Q E hr h => ?_)
  · obtain ⟨v, rfl, _⟩ := h; rfl
  obtain ⟨v, rfl, alt, q⟩ := h
  obtain ⟨t60, hm⟩ := T.g_MOST_THINGS
  refine ⟨_, pss_cons (ps_if (pt_not (pt_val (pe_callB call_isi2 rfl T.n_isinstance b_isinstance (pa_cons (pv 0) (pa_cons (pe_tup (pa_cons (pe_bltn rfl T.n_list b_list (v := .ty "list") rfl) (pa_cons (pe_bltn rfl T.n_tuple b_tuple (v := .ty "tuple") rfl) pa_nil))) pa_nil))))) (pss_one (ps_ns T rfl)) pss_nil)
    (pss_one (ps_if (pt_cmpR op_gt (pe_callB call_len_seq rfl T.n_len b_len (pa_cons (pv 0) pa_nil)) (pe_glob rfl hm (v := .int 60) ⟨t60, rfl⟩) (nomark _)) (pss_one (ps_ns T rfl)) pss_nil)), ?_⟩
  refine ⟨_, rfl, (by show 2 ≤ sizeLine; decide), fun r hr0 => ?_⟩
  have s1 : Same H (upd H r (.tup [.ty "list", .ty "tuple"])) := same_upd hr0 _
  rcases alt with ⟨S, ty, n1, n2⟩ | ⟨p, xs, rfl, hp, hn⟩
  · have ty' := Is.same s1 ty
    have k : PySem.W.kitAny K (.type S) [.type "list", .type "tuple"] = some false := kit_none fun c hc => by
      simp only [List.mem_cons, List.not_mem_nil, or_false] at hc
      rcases hc with rfl | rfl
      · rw [ty.kit T.kit "list", n1]
      · rw [ty.kit T.kit "tuple", n2]
    exact ⟨_, r, "list", "tuple", _, false, rfl, upd_same, ty'.ty, k, _, rfl, iteT (q _ s1)⟩
  · have hp' : upd H r (.tup [.ty "list", .ty "tuple"]) p = some (.lst xs) ∨ upd H r (.tup [.ty "list", .ty "tuple"]) p = some (.tup xs) := hp.imp (s1 _ _) (s1 _ _)
    obtain ⟨t, ty, kt⟩ := kit2_true T hp'
    refine ⟨_, r, "list", "tuple", t, true, rfl, upd_same, ty, kt, _, rfl, iteF ?_⟩
    refine ⟨_, rfl, p, xs, rfl, hp'.elim (fun e => .inl (.of e)) fun e => .inr (.of e), _, _, rfl, rfl, _, rfl, ?_⟩
    rw [decide_eq_true (show (60 : Int) < (xs.length : Int) by (first | lia | omega))]
    exact iteT (q _ s1)
end
end KP

set_option linter.all false
set_option maxHeartbeats 4000000
set_option maxRecDepth 100000
namespace KP
open PySem L2 PyProof.Rows
section
variable {P : Program} {w : World} {K : PySem.W.Frag} {mg : Str → Option Value} {base : Heap} {A : Adr}
theorem b_ValueError : bootBuiltins "ValueError" = some (.type "ValueError") := by decide +kernel
noncomputable def spAlone (c : Addr) : Sp := fun vs H Q _ => ∃ a, vs = [.ref a] ∧ H a = some (excO a c) ∧ ∀ H', Same H H' → Q (.bl true) H'
theorem ok_alone (T : Txt K mg A) : FnOkU P w K mg base 1 A.f_l_alone A.d_l_alone P_l_alone (spAlone A.c_NoShare) := by
  refine T.F_l_alone.okU sc_l_alone (fun vs H Q E h => ?_) (fun cdv B outer s H vs Q E hr h => ?_)
  · obtain ⟨a, rfl, _⟩ := h; rfl
  obtain ⟨a, rfl, ha, q⟩ := h
  have pn : ∀ {X : Cx} {x : Str} {pos : Pos} {c : Addr}, Gl X x → X.mg x = some (.ref c) → (x == ("__debug__" : Str)) = false → PE X (.Name x pos) (tC (.ref c)) := fun g m d => pe_glob g m rfl d
  refine ⟨_, pss_cons (ps_if (PW.pt (pw_or (pt_val (pe_callB call_isiEs rfl T.n_isinstance b_isinstance (pa_cons (pv 0) (pa_cons (pe_tup (pa_cons (pn rfl T.m_NoBox (by decide)) (pa_cons (pn rfl T.m_NoText (by decide)) (pa_cons (pn rfl T.m_NoRule (by decide)) (pa_cons (pn rfl T.m_NoName (by decide)) pa_nil))))) pa_nil))))
      (pw_or1 (pt_val (pe_callB call_isiEs rfl T.n_isinstance b_isinstance (pa_cons (pv 0) (pa_cons (pe_tup (pa_cons (pn rfl T.m_NoPlace (by decide)) (pa_cons (pn rfl T.m_NoPage (by decide)) (pa_cons (pn rfl T.m_NoChange (by decide)) (pa_cons (pn rfl T.m_NoUndo (by decide)) (pa_cons (pn rfl T.m_NoRow (by decide)) pa_nil)))))) pa_nil))))))) pss_never pss_nil)
    (pss_one (ps_ret (pe_and (pe_callB call_isiE rfl T.n_isinstance b_isinstance (pa_cons (pv 0) (pa_cons (pn rfl T.m_NoShare (by decide)) pa_nil)))
      (pe_one (pe_callB call_isiE rfl T.n_isinstance b_isinstance (pa_cons (pv 0) (pa_cons (pe_bltn rfl T.n_ValueError b_ValueError (v := .ty "ValueError") rfl) pa_nil))))))), ?_⟩
  have F1 := T.ns
  have nd := cls_nd T.cls
  have no : ∀ c ∈ [A.c_NoBox, A.c_NoText, A.c_NoRule, A.c_NoName, A.c_NoPlace, A.c_NoPage, A.c_NoChange, A.c_NoUndo, A.c_NoRow], PySem.W.kitOne K (.ref A.c_NoShare) (.ref c) = some false := fun c hc => by
    rw [F1.each c (.tail _ hc)]
    have : A.c_NoShare ≠ c := fun e => (List.nodup_cons.mp nd).1 (e ▸ hc)
    rw [beq_eq_false_iff_ne.mpr this]
  refine ⟨_, rfl, (by show 4 ≤ sizeLine; decide), fun p1 hp1 => ?_⟩
  have s1 := same_upd hp1 (.tup [.ref A.c_NoBox, .ref A.c_NoText, .ref A.c_NoRule, .ref A.c_NoName])
  refine ⟨a, _, p1, [A.c_NoBox, A.c_NoText, A.c_NoRule, A.c_NoName], false, rfl, s1 _ _ ha, upd_same, F1.isi, kit_none fun c hc => ?_, _, rfl, iteF ?_⟩
  · obtain ⟨x, hx, rfl⟩ := List.mem_map.mp hc
    exact no x (List.mem_append_left [A.c_NoPlace, A.c_NoPage, A.c_NoChange, A.c_NoUndo, A.c_NoRow] hx)
  refine ⟨_, rfl, (by show 5 ≤ sizeLine; decide), fun p2 hp2 => ?_⟩
  have s2 := s1.trans (same_upd hp2 (.tup [.ref A.c_NoPlace, .ref A.c_NoPage, .ref A.c_NoChange, .ref A.c_NoUndo, .ref A.c_NoRow]))
  refine ⟨a, _, p2, [A.c_NoPlace, A.c_NoPage, A.c_NoChange, A.c_NoUndo, A.c_NoRow], false, rfl, s2 _ _ ha, upd_same, F1.isi, kit_none fun c hc => ?_, _, rfl, iteF ?_⟩
  · obtain ⟨x, hx, rfl⟩ := List.mem_map.mp hc
    exact no x (List.mem_append_right [A.c_NoBox, A.c_NoText, A.c_NoRule, A.c_NoName] hx)
  refine ⟨_, rfl, a, _, A.c_NoShare, _, true, rfl, s2 _ _ ha, F1.isi, .inl ⟨rfl, ?_⟩, _, rfl, iteT ?_⟩
  · exact (F1.each _ (.head _)).trans (by rw [beq_self_eq_true])
  · exact ⟨_, rfl, a, _, A.c_NoShare, _, true, rfl, s2 _ _ ha, F1.isi, .inr ⟨_, rfl, F1.ve⟩, q _ s2⟩
end
end KP

set_option linter.all false
set_option maxHeartbeats 4000000
set_option maxRecDepth 100000
namespace L2
open PySem
theorem FnOk.or {P : Program} {w : World} {K : PySem.W.Frag} {mg : Str → Option Value} {base : Heap} {CX : CXT} {k : Nat} {f : Addr} {fd : FuncData} {ps : List Str} {sp sp' : Sp} (F : FnOk P w K mg base CX k f fd ps sp) (G : FnOk P w K mg base CX k f fd ps sp') :
    FnOk P w K mg base CX k f fd ps (fun vs H Q E => sp vs H Q E ∨ sp' vs H Q E) :=
  ⟨fun vs H Q E q => q.elim (F.len vs H Q E) (G.len vs H Q E), fun A outer s H args us vs Q E hr he hb hv hs => hs.elim (F.run A outer s H args us vs Q E hr he hb hv) (G.run A outer s H args us vs Q E hr he hb hv)⟩
end L2
namespace KP
open PySem L2 PyProof.Rows
open FM (Pt GoodPt)
section
variable {P : Program} {w : World} {K : PySem.W.Frag} {mg : Str → Option Value} {base : Heap} {A : Adr}
theorem is_flat {H : Hp} {v : V} (h : flatV v = true) : ∃ S, Is K H v S := by
  cases v with
  | non => exact ⟨_, .non, rfl⟩
  | bl b => exact ⟨_, .bl b, rfl⟩
  | int i => exact ⟨_, .int i, rfl⟩
  | str x => exact ⟨_, .str x, rfl⟩
  | _ => cases h
/-- things that are no part -/
inductive BadPt (K : PySem.W.Frag) (H : Hp) : V → Prop where
  | form {v : V} {S : String} (t : Is K H v S) (n : subTy S "tuple" = false) : BadPt K H v
  | len {p : Addr} {xs : List V} (h : H p = some (.tup xs)) (n : xs.length ≠ 4) : BadPt K H (.ref p)
  | num {p : Addr} {xs : List V} (h : H p = some (.tup xs)) (n : xs.length = 4) (f : ∀ x ∈ xs, flatV x = true) (b : xs.all numV = false) : BadPt K H (.ref p)
  | ord {p : Addr} {b l m w : Int} (h : H p = some (.tup [.int b, .int l, .int m, .int w])) (g : 0 ≤ b ∧ 0 ≤ l ∧ 0 ≤ m ∧ 0 ≤ w) (n : 9999 < m ∨ ¬ (l ≤ b ∧ b ≤ m)) : BadPt K H (.ref p)
theorem BadPt.same {H H' : Hp} {v : V} (e : Same H H') (x : BadPt K H v) : BadPt K H' v := by
  cases x with
  | form t n => exact .form (Is.same e t) n
  | len h n => exact .len (e _ _ h) n
  | num h n f b => exact .num (e _ _ h) n f b
  | ord h g n => exact .ord (e _ _ h) g n
noncomputable def spPartB (K : PySem.W.Frag) : Sp := fun vs H Q _ => ∃ v, vs = [v] ∧ BadPt K H v ∧ ∀ H', Same H H' → Q (.bl false) H'
theorem ok_is_part_bad (T : Txt K mg A) : FnOk P w K mg base CX0 3 A.f_is_part A.d_is_part P_is_part (spPartB K) := by
  have G_is_number_list : FnOk P w K mg base CX0 2 A.f_is_number_list A.d_is_number_list P_is_number_list (spNumL K) := ok_is_number_list T
  refine T.F_is_part.ok sc_is_part (fun vs H Q E h => ?_) (fun cdv B outer s H vs Q E hr h => ?_)
  · obtain ⟨v, rfl, _⟩ := h; rfl
  obtain ⟨v, rfl, bad, q⟩ := h
  obtain ⟨tM, hg_MOST_PART⟩ := T.g_MOST_PART
  refine ⟨_, @pss_cons _ _ _ _ _ (ps_if (PW.pt (pw_or (pt_not (pt_val (pe_callB call_isi rfl T.n_isinstance b_isinstance (pa_cons (pv 0) (pa_cons (pe_bltn rfl T.n_tuple b_tuple (v := .ty "tuple") rfl) pa_nil))))) (pw_or1 (pt_cmpR op_ne (pe_callB call_len_seq rfl T.n_len b_len (pa_cons (pv 0) pa_nil)) pe_int (nomark _))))) (pss_one (ps_ret pe_bl)) pss_nil)
    (@pss_cons _ _ _ _ _ (ps_if (PW.pt (pw_or (pt_not (pt_val (pe_call G_is_number_list hr rfl T.m_is_number_list T.F_is_number_list.kp T.b_is_number_list .nil pass0 (pa_cons (pe_callTy call_list_of rfl T.n_list b_list (pa_cons (pv 0) pa_nil)) pa_nil)))) (pw_or1 (pt_cmpR op_gt (pe_callB (call_maxTup rfl) rfl T.n_max b_max (pa_cons (pv 0) pa_nil)) (pe_glob rfl hg_MOST_PART (v := .int 9999) ⟨_, rfl⟩) (nomark _))))) (pss_one (ps_ret pe_bl)) pss_nil)
    (pss_one (ps_ret (pe_chain op_le op_le (pe_ix ix_tup (pv 0) pe_int (fun _ _ => rfl)) (pe_ix ix_tup (pv 0) pe_int (fun _ _ => rfl)) (pe_ix ix_tup (pv 0) pe_int (fun _ _ => rfl)))))), ?_⟩
  cases bad with
  | @form v S t n =>
    have k := t.kit T.kit "tuple"
    rw [n] at k
    exact ⟨_, rfl, _, "tuple", _, _, rfl, t.ty, k, _, rfl, iteT (iteT (q _ (.refl _)))⟩
  | @len p xs h n =>
    refine ⟨_, rfl, _, "tuple", _, _, rfl, .tup h, (Is.tup h).kit T.kit "tuple", _, rfl, iteF ⟨_, rfl, p, _, rfl, .inr (.of h), rfl, _, rfl, ?_⟩⟩
    rw [decide_eq_false (fun e => n (by injection e with e; (first | lia | omega)))]
    exact iteT (q _ (.refl _))
  | @num p xs h n f b =>
    refine ⟨_, rfl, _, "tuple", _, _, rfl, .tup h, (Is.tup h).kit T.kit "tuple", _, rfl, iteF ⟨_, rfl, p, _, rfl, .inr (.of h), rfl, _, rfl, ?_⟩⟩
    rw [decide_eq_true (show V.int (xs.length : Int) = V.int 4 by rw [n]; rfl)]
    refine iteF ⟨_, rfl, p, _, rfl, .inr (.of h), fun l hl => ?_⟩
    have s1 := same_upd hl (.lst xs)
    refine ⟨.ref l, _, rfl, .lst upd_same (by (first | lia | omega)) (fun x hx => is_flat (f x hx)), fun H2 s2 => ⟨_, rfl, ?_⟩⟩
    rw [b]
    exact iteT (iteT (q _ (s1.trans s2)))
  | @ord p b l m w h g n =>
    refine ⟨_, rfl, _, "tuple", _, _, rfl, .tup h, (Is.tup h).kit T.kit "tuple", _, rfl, iteF ⟨_, rfl, p, _, rfl, .inr (.of h), rfl, _, rfl, iteF ?_⟩⟩
    refine ⟨_, rfl, p, _, rfl, .inr (.of h), fun l1 hl => ?_⟩
    have s1 := same_upd hl (.lst [.int b, .int l, .int m, .int w])
    refine ⟨.ref l1, _, rfl, .ints (ns := [b, l, m, w]) upd_same (by simp), fun H2 s2 => ⟨_, rfl, ?_⟩⟩
    have e : ([b, l, m, w].all fun i => decide (0 ≤ i)) = true := by
      simp only [List.all_cons, List.all_nil, Bool.and_true, Bool.and_eq_true, decide_eq_true_eq]
      exact g
    rw [e]
    have h2 := s2 _ _ (s1 _ _ h)
    refine iteF ⟨_, rfl, p, [b, l, m, w], rfl, .of h2, by simp, fun M hM hmax => ⟨_, _, rfl, rfl, _, rfl, ?_⟩⟩
    by_cases c : (9999 : Int) < M
    · rw [decide_eq_true c]
      exact iteT (q _ (s1.trans s2))
    · rw [decide_eq_false c]
      have hm : m ≤ M := hmax m (by simp)
      refine iteF ⟨_, rfl, p, _, 1, _, rfl, rfl, .of h2, rfl, _, rfl, p, _, 0, _, rfl, rfl, .of h2, rfl, _, _, rfl, rfl, _, rfl, ite2 (fun z => ?_) (fun z => ?_)⟩
      · have z' : l ≤ b := of_decide_eq_true z
        refine ⟨_, rfl, p, _, 2, _, rfl, rfl, .of h2, rfl, _, _, rfl, rfl, ?_⟩
        show Q (.bl (decide (b ≤ m))) H2
        rw [decide_eq_false (by (first | lia | omega))]
        exact q _ (s1.trans s2)
      · exact q _ (s1.trans s2)
/-- parts that are none -/
inductive BadP (K : PySem.W.Frag) (H : Hp) : V → Prop where
  | form {v : V} {S : String} (t : Is K H v S) (n1 : subTy S "list" = false) (n2 : subTy S "tuple" = false) : BadP K H v
  | many {p : Addr} {xs : List V} (h : H p = some (.lst xs) ∨ H p = some (.tup xs)) (n : 60 < xs.length) : BadP K H (.ref p)
  | one {p : Addr} {its : List (V × Bool)} (h : H p = some (.lst (its.map (·.1))) ∨ H p = some (.tup (its.map (·.1)))) (n : its.length ≤ 60)
      (t : ∀ x ∈ its, (x.2 = true ∧ ∃ (a : Addr) (p : Pt), x.1 = .ref a ∧ H a = some (.tup (ptV p)) ∧ GoodPt p) ∨ (x.2 = false ∧ BadPt K H x.1)) (b : (its.map (·.2)).all id = false) : BadP K H (.ref p)
noncomputable def spNPB (K : PySem.W.Frag) (c : Addr) : Sp := fun vs H Q E => ∃ v, vs = [v] ∧ BadP K H v ∧ ∀ H', Same H H' → E (.ref c) none H'
theorem ok_need_parts_bad (T : Txt K mg A) : FnOk P w K mg base (CXW P w) 4 A.f_need_parts A.d_need_parts P_need_parts (spNPB K A.c_NoShare) := by
  have G0 : FnOk P w K mg base (CXW P w) 3 A.f_need_few A.d_need_few P_need_few (spFewB K A.c_NoShare) := (ok_need_few_bad T).mono (by decide)
  have G1 : FnOk P w K mg base CX0 3 A.f_need_few A.d_need_few P_need_few spFew := (ok_need_few T).mono (by decide)
  have G2 : FnOk P w K mg base CX0 3 A.f_is_part A.d_is_part P_is_part (fun vs H Q E => spPart vs H Q E ∨ spPartB K vs H Q E) := (ok_is_part T).or (ok_is_part_bad T)
  refine T.F_need_parts.okW sc_need_parts (fun vs H Q E h => ?_) (fun cdv B outer s H vs Q E hr h => ?_)
  · obtain ⟨v, rfl, _⟩ := h; rfl
  obtain ⟨v, rfl, bad, q⟩ := h
  have early : ((∃ S, Is K H v S ∧ subTy S "list" = false ∧ subTy S "tuple" = false) ∨ ∃ p xs, v = .ref p ∧ (H p = some (.lst xs) ∨ H p = some (.tup xs)) ∧ 60 < xs.length) →
      ∃ t, PSs (cxOf (CXW P w) P w K mg base N_need_parts "need_parts" (defScope s_need_parts) A.f_need_parts cdv B outer s H E) (defBody s_need_parts) t ∧ t { nx := fun _ H' => Q .non H', rt := Q } (start N_need_parts [v]) H := fun alt =>
    ⟨_, pss_cons (ps_expr (pe_call G0 hr rfl T.m_need_few T.F_need_few.kp T.b_need_few .nil (passW fun _ _ _ z => z) (pa_cons (pv 0) pa_nil))) pss_never, ⟨_, rfl, v, rfl, alt, q⟩⟩
  cases bad with
  | form t n1 n2 => exact early (.inl ⟨_, t, n1, n2⟩)
  | @many p xs h n => exact early (.inr ⟨p, xs, rfl, h, n⟩)
  | @one p its hp n t b =>
    refine ⟨_, pss_cons (ps_expr (pe_call G1 hr rfl T.m_need_few T.F_need_few.kp T.b_need_few .nil pass0 (pa_cons (pv 0) pa_nil)))
      (pss_one (ps_if (pt_not (pt_val (pe_callB (call_all rfl) rfl T.n_all b_all (pa_cons (pe_comp blk_need_parts_0 rfl (pi_seq (pv 0)) (fun _ _ _ _ _ => pg_name (i := 0) nd_need_parts_0 rfl (.inl rfl)) (fun _ _ _ _ _ => pif_nil) (fun _ _ _ _ _ => pe_call G2 hr rfl T.m_is_part T.F_is_part.kp T.b_is_part .nil pass0 (pa_cons (pv 0) pa_nil))) pa_nil)))) (pss_one (ps_ns T rfl)) pss_nil)), ?_⟩
    refine ⟨_, rfl, p, _, rfl, hp, by rw [List.length_map]; exact n, fun H1 s1 => ?_⟩
    have hp1 : H1 p = some (.lst (its.map (·.1))) ∨ H1 p = some (.tup (its.map (·.1))) := hp.imp (s1 _ _) (s1 _ _)
    refine ⟨_, rfl, p, rfl, blk_mapS (fun x : V × Bool => V.bl x.2) (fun x => x.1) (hp1.imp (fun e => .of e) fun e => .of e) (small1000 (by (first | lia | omega))) (fun x hx H2 Q2 s2 k => ?_) (fun H2 s2 => ?_)⟩
    · rcases t x hx with ⟨e, a, pt, ex, ha, g⟩ | ⟨e, bp⟩
      · rw [e] at k
        exact ⟨_, rfl, .inl ⟨a, pt, by rw [ex]; rfl, s2 _ _ (s1 _ _ ha), g, k⟩⟩
      · rw [e] at k
        exact ⟨_, rfl, .inr ⟨x.1, rfl, bp.same (s1.trans s2), k⟩⟩
    · intro l hl
      refine ⟨l, its.map (·.2), rfl, .of (by rw [upd_same, List.map_map]; rfl), _, rfl, ?_⟩
      rw [b]
      exact iteT (q _ (s1.trans (s2.trans (same_upd hl _))))
/-- a total and parts of which one is none -/
noncomputable def BadF (K : PySem.W.Frag) (H : Hp) (v u : V) : Prop := (∃ S, Is K H v S ∧ numV v = false) ∨ ((∃ t : Int, v = .int t ∧ 0 ≤ t) ∧ BadP K H u)
noncomputable def spFB (K : PySem.W.Frag) (c : Addr) : Sp := fun vs H Q E => ∃ v u, vs = [v, u] ∧ BadF K H v u ∧ ∀ H', Same H H' → E (.ref c) none H'
theorem ok_fill_rounds_bad (T : Txt K mg A) : FnOk P w K mg base (CXW P w) 5 A.f_fill_rounds A.d_fill_rounds P_fill_rounds (spFB K A.c_NoShare) := by
  have G0 : FnOk P w K mg base (CXW P w) 4 A.f_need_total A.d_need_total P_need_total (spNTB K A.c_NoShare) := (ok_need_total_bad T).mono (by decide)
  have G1 : FnOk P w K mg base CX0 4 A.f_need_total A.d_need_total P_need_total spNeedT := (ok_need_total T).mono (by decide)
  have G2 : FnOk P w K mg base (CXW P w) 4 A.f_need_parts A.d_need_parts P_need_parts (spNPB K A.c_NoShare) := ok_need_parts_bad T
  refine T.F_fill_rounds.okW sc_fill_rounds (fun vs H Q E h => ?_) (fun cdv B outer s H vs Q E hr h => ?_)
  · obtain ⟨v, u, rfl, _⟩ := h; rfl
  obtain ⟨v, u, rfl, bad, q⟩ := h
  rcases bad with ⟨S, ty, hn⟩ | ⟨⟨t, rfl, t0⟩, bw⟩
  · exact ⟨_, pss_cons (ps_expr (pe_call G0 hr rfl T.m_need_total T.F_need_total.kp T.b_need_total .nil (passW fun _ _ _ z => z) (pa_cons (pv 0) pa_nil))) pss_never, ⟨_, rfl, v, S, rfl, ty, hn, q _ (.refl _)⟩⟩
  · exact ⟨_, pss_cons (ps_expr (pe_call G1 hr rfl T.m_need_total T.F_need_total.kp T.b_need_total .nil pass0 (pa_cons (pv 0) pa_nil)))
      (pss_cons (ps_expr (pe_call G2 hr rfl T.m_need_parts T.F_need_parts.kp T.b_need_parts .nil (passW fun _ _ _ z => z) (pa_cons (pv 1) pa_nil))) pss_never), ⟨_, rfl, t, rfl, t0, _, rfl, u, rfl, bw, q⟩⟩
theorem ok_fill_sizes_bad (T : Txt K mg A) : FnOk P w K mg base (CXW P w) 6 A.f_fill_sizes A.d_fill_sizes P_fill_sizes (spFB K A.c_NoShare) := by
  have G0 : FnOk P w K mg base (CXW P w) 5 A.f_fill_rounds A.d_fill_rounds P_fill_rounds (spFB K A.c_NoShare) := ok_fill_rounds_bad T
  have G1 : FnOk P w K mg base CX0 5 A.f_sizes_behind A.d_sizes_behind P_sizes_behind spBehind := (ok_sizes_behind T).mono (by decide)
  refine T.F_fill_sizes.okW sc_fill_sizes (fun vs H Q E h => ?_) (fun cdv B outer s H vs Q E hr h => ?_)
  · obtain ⟨v, u, rfl, _⟩ := h; rfl
  obtain ⟨v, u, rfl, bad, q⟩ := h
  exact ⟨_, pss_one (ps_ret (pe_call G1 hr rfl T.m_sizes_behind T.F_sizes_behind.kp T.b_sizes_behind .nil pass0 (pa_cons (pv 0) (pa_cons (pv 1) (pa_cons (pe_call G0 hr rfl T.m_fill_rounds T.F_fill_rounds.kp T.b_fill_rounds .nil (passW fun _ _ _ z => z) (pa_cons (pv 0) (pa_cons (pv 1) pa_nil))) pa_nil))))), ⟨_, rfl, _, rfl, _, rfl, _, rfl, v, u, rfl, bad, q⟩⟩
noncomputable def spIFB (K : PySem.W.Frag) (c : Addr) : Sp := fun vs H Q E => ∃ v u y z, vs = [v, u, y, z] ∧ BadF K H v u ∧ ∀ H', Same H H' → E (.ref c) none H'
theorem ok_is_fill_bad (T : Txt K mg A) : FnOk P w K mg base (CXW P w) 6 A.f_is_fill A.d_is_fill P_is_fill (spIFB K A.c_NoShare) := by
  have G0 : FnOk P w K mg base (CXW P w) 5 A.f_fill_rounds A.d_fill_rounds P_fill_rounds (spFB K A.c_NoShare) := ok_fill_rounds_bad T
  refine T.F_is_fill.okW sc_is_fill (fun vs H Q E h => ?_) (fun cdv B outer s H vs Q E hr h => ?_)
  · obtain ⟨v, u, y, z, rfl, _⟩ := h; rfl
  obtain ⟨v, u, y, z, rfl, bad, q⟩ := h
  exact ⟨_, @pss_cons _ _ _ _ _ (ps_set (i := 4) sc_is_fill.nd rfl (Or.inl rfl) (pe_call G0 hr rfl T.m_fill_rounds T.F_fill_rounds.kp T.b_fill_rounds .nil (passW fun _ _ _ z => z) (pa_cons (pv 0) (pa_cons (pv 1) pa_nil)))) pss_never, ⟨_, rfl, _, rfl, v, u, rfl, bad, q⟩⟩
noncomputable def spAsk (K : PySem.W.Frag) (c : Addr) : Sp := fun vs H Q E => ∃ (i : Int) (v u : V), vs = [.int i, v, u] ∧ (∀ H', Same H H' → BadF K H' v u) ∧ ∀ H', Same H H' → E (.ref c) none H'
theorem ok_asked (T : Txt K mg A) : FnOk P w K mg base (CXW P w) 7 A.f_l_asked A.d_l_asked P_l_asked (spAsk K A.c_NoShare) := by
  have G0 : FnOk P w K mg base (CXW P w) 6 A.f_fill_rounds A.d_fill_rounds P_fill_rounds (spFB K A.c_NoShare) := (ok_fill_rounds_bad T).mono (by decide)
  have G1 : FnOk P w K mg base (CXW P w) 6 A.f_fill_sizes A.d_fill_sizes P_fill_sizes (spFB K A.c_NoShare) := ok_fill_sizes_bad T
  have G2 : FnOk P w K mg base (CXW P w) 6 A.f_is_fill A.d_is_fill P_is_fill (spIFB K A.c_NoShare) := ok_is_fill_bad T
  refine T.F_l_asked.okW sc_l_asked (fun vs H Q E h => ?_) (fun cdv B outer s H vs Q E hr h => ?_)
  · obtain ⟨i, v, u, rfl, _⟩ := h; rfl
  obtain ⟨i, v, u, rfl, bad, q⟩ := h
  refine ⟨_, @pss_cons _ _ _ _ _ (ps_if (pt_cmpR op_eq (pv 0) pe_int (nomark _)) (pss_one (ps_ret (pe_call G0 hr rfl T.m_fill_rounds T.F_fill_rounds.kp T.b_fill_rounds .nil (passW fun _ _ _ z => z) (pa_cons (pv 1) (pa_cons (pv 2) pa_nil))))) pss_nil)
    (@pss_cons _ _ _ _ _ (ps_if (pt_cmpR op_eq (pv 0) pe_int (nomark _)) (pss_one (ps_ret (pe_call G1 hr rfl T.m_fill_sizes T.F_fill_sizes.kp T.b_fill_sizes .nil (passW fun _ _ _ z => z) (pa_cons (pv 1) (pa_cons (pv 2) pa_nil))))) pss_nil)
    (pss_one (ps_ret (pe_call G2 hr rfl T.m_is_fill T.F_is_fill.kp T.b_is_fill .nil (passW fun _ _ _ z => z) (pa_cons (pv 1) (pa_cons (pv 2) (pa_cons (pe_lst pa_nil) (pa_cons pe_non pa_nil)))))))), ?_⟩
  refine ⟨_, rfl, rfl, _, rfl, ite2 (fun c => ?_) (fun c => ?_)⟩
  · exact ⟨_, rfl, _, rfl, v, u, rfl, bad _ (.refl _), q⟩
  refine ⟨_, rfl, rfl, _, rfl, ite2 (fun c => ?_) (fun c => ?_)⟩
  · exact ⟨_, rfl, _, rfl, v, u, rfl, bad _ (.refl _), q⟩
  · exact ⟨_, rfl, _, rfl, (by show 0 ≤ sizeLine; decide), fun l hl => ⟨v, u, _, _, rfl, bad _ (same_upd hl _), fun H' s' => q _ ((same_upd hl _).trans s')⟩⟩
noncomputable def spRef (K : PySem.W.Frag) : Sp := fun vs H Q _ => ∃ (i : Int) (v u : V), vs = [.int i, v, u] ∧ (∀ H', Same H H' → BadF K H' v u) ∧ ∀ H', Same H H' → Q (.bl true) H'
theorem ok_refused (T : Txt K mg A) : FnOk P w K mg base CX0 8 A.f_l_refused A.d_l_refused P_l_refused (spRef K) := by
  have G0 : FnOk P w K mg base (CXW P w) 7 A.f_l_asked A.d_l_asked P_l_asked (spAsk K A.c_NoShare) := ok_asked T
  have G2 : FnOkU P w K mg base 1 A.f_l_alone A.d_l_alone P_l_alone (spAlone A.c_NoShare) := ok_alone T
  refine T.F_l_refused.ok sc_l_refused (fun vs H Q E h => ?_) (fun cdv B outer s H vs Q E hr h => ?_)
  · obtain ⟨i, v, u, rfl, _⟩ := h; rfl
  obtain ⟨i, v, u, rfl, bad, q⟩ := h
  have hp := cls_at T.cls
  have suite : ∀ a, PSs ((cxOf CX0 P w K mg base N_l_refused "_law_refused" (defScope s_l_refused) A.f_l_refused cdv B outer s H E).nox.held a) (match nth s_l_refused 0 with | .Try _ (.ExceptHandler _ _ b _ :: _) _ _ _ => b | _ => []) (tRet (tCall (spAlone A.c_NoShare) [] E0 (tCons (tVar 3) tNil))) := fun a =>
    @pss_one _ _ _ (ps_ret (pe_callU G2 ((hr.mono (by decide)).u _) rfl T.m_l_alone T.F_l_alone.kp T.b_l_alone (pa_cons (pv 3) pa_nil)))
  refine ⟨_, @pss_cons _ _ _ _ _ (ps_try (C0 := A.c_PaneError) (i := 3) G0 hr rfl T.m_l_asked T.F_l_asked.kp T.b_l_asked (pa_cons (pv 0) (pa_cons (pv 1) (pa_cons (pv 2) pa_nil))) rfl rfl rfl rfl T.m_PaneError hp.1 (by decide) sc_l_refused.nd rfl rfl rfl suite)
      (pss_one (ps_ret pe_bl)), ?_⟩
  refine ⟨_, rfl, _, rfl, _, rfl, i, v, u, rfl, bad, fun H1 s1 => ⟨A.c_NoShare, _, _, rfl, T.ns.exc, T.ns.below, fun a na => ?_⟩⟩
  exact ⟨_, rfl, a, rfl, upd_same, fun H2 s2 => q _ (s1.trans ((same_upd na (excO a A.c_NoShare)).trans s2))⟩
end
end KP

set_option linter.all false
set_option maxHeartbeats 4000000
set_option maxRecDepth 100000
namespace L2
open PySem PySem.W PySem.Spec PySem.Calls PyProof.Rows
/-- {} -/
noncomputable def tD0 : TE := fun _ H Q => ∀ a, H a = none → Q (.ref a) (upd H a (.dK []))
theorem pe_dict0 {X : Cx} {pos : Pos} : PE X (.Dict [] [] pos) tD0 := by
  intro pins s σ H Q I h
  refine wpAny_Dict_empty ?_
  refine ⟨.ref s.heap.objs.size, upd H s.heap.objs.size (.dK []), I.laid (t' := s.toks) (fun b u e => Heap.get?_push_of_some _ e) (Nat.le_refl _) ?_, rfl, h _ (I.hok.fresh (Nat.le_refl _))⟩
  refine ⟨by show 0 ≤ sizeLine; decide, beq_eq_false_iff_ne.mpr (Ne.symm (Nat.ne_of_lt (Nat.lt_trans (show sysModules < mainGlobals by decide) (let ⟨_, _, _, e, _⟩ := I.mod.glob.keeps I.bk; Heap.lt_size e)))), [], .nil, Heap.DictOf.new s.heap⟩
/-- an empty dict with itself -/
noncomputable def rNeK0 : R2 := fun x y H Q => ∃ (p : Addr), x = .ref p ∧ y = .ref p ∧ H p = some (.dK []) ∧ Q (.bl false) H
theorem op_neK0 {X : Cx} (hu : X.A.units + 64 < cLine) : OpR X (compareOp .NotEq) rNeK0 := by
  intro pins s σ H x y v u Q I rx ry h
  obtain ⟨p, rfl, rfl, hp, q⟩ := h
  cases rx
  cases ry
  obtain ⟨_, hs, vs, kv, dd⟩ := (show ObjOk X.prog X.w H s.heap p (.dK []) from I.hok p _ hp)
  cases kv
  refine keq_ne (r := true) hs hs dd dd (by (first | lia | omega)) (fun _ => .nil) ?_
  exact ⟨.bl false, H, I, rfl, q⟩
end L2

set_option linter.all false
set_option maxHeartbeats 8000000
set_option maxRecDepth 100000
namespace KP
open PySem L2 PyProof.Rows
open FM (Pt GoodPt)
section
variable {P : Program} {w : World} {K : PySem.W.Frag} {mg : Str → Option Value} {base : Heap} {A : Adr}
/-- a thing that is no part, whatever else becomes of the heap -/
noncomputable def BP (K : PySem.W.Frag) (st : Addr) (H : Hp) (v : V) : Prop := v = .non ∨ ∃ (a : Addr) (o : HO), v = .ref a ∧ a ≠ st ∧ H a = some o ∧ ∀ H' : Hp, H' a = some o → BadPt K H' v
noncomputable def spBadPart (K : PySem.W.Frag) : Sp := fun vs H Q _ => ∃ (st : Addr) (k : Int), vs = [.ref st, .int k] ∧ St st H ∧ 0 ≤ k ∧ k < 10 ∧ ∀ (v : V) (H' : Hp), Ms st H H' → BP K st H' v → Q v H'
theorem ok_bad_part (T : Txt K mg A) : FnOk P w K mg base CX0 2 A.f_l_bad_part A.d_l_bad_part P_l_bad_part (spBadPart K) := by
  have G_l_mix : FnOk P w K mg base CX0 1 A.f_l_mix A.d_l_mix P_l_mix spMix := ok_mix T
  refine T.F_l_bad_part.ok sc_l_bad_part (fun vs H Q E h => ?_) (fun cdv B outer s H vs Q E hr h => ?_)
  · obtain ⟨st, k, rfl, _⟩ := h; rfl
  obtain ⟨st, k, rfl, hst, k0, k1, q⟩ := h
  refine ⟨_, @pss_cons _ _ _ _ _ (ps_set (i := 2) sc_l_bad_part.nd rfl (Or.inl rfl) (pe_op op_mod (pe_call G_l_mix hr rfl T.m_l_mix T.F_l_mix.kp T.b_l_mix .nil pass0 (pa_cons (pv 0) (pa_cons pe_int pa_nil))) pe_int))
    (@pss_cons _ _ _ _ _ (ps_set (i := 3) sc_l_bad_part.nd rfl (Or.inl rfl) (pe_op op_add (pv 2) (pe_op op_mod (pe_call G_l_mix hr rfl T.m_l_mix T.F_l_mix.kp T.b_l_mix .nil pass0 (pa_cons (pv 0) (pa_cons pe_int pa_nil))) pe_int)))
    (@pss_cons _ _ _ _ _ (ps_set (i := 4) sc_l_bad_part.nd rfl (Or.inl rfl) (pe_op op_add (pv 3) (pe_op op_mod (pe_call G_l_mix hr rfl T.m_l_mix T.F_l_mix.kp T.b_l_mix .nil pass0 (pa_cons (pv 0) (pa_cons pe_int pa_nil))) pe_int)))
    (@pss_cons _ _ _ _ _ (ps_set (i := 5) sc_l_bad_part.nd rfl (Or.inl rfl) (pe_op op_mod (pe_call G_l_mix hr rfl T.m_l_mix T.F_l_mix.kp T.b_l_mix .nil pass0 (pa_cons (pv 0) (pa_cons pe_int pa_nil))) pe_int))
    (@pss_cons _ _ _ _ _ (ps_set (i := 6) sc_l_bad_part.nd rfl (Or.inl rfl) (pe_lst (pa_cons (pe_lst (pa_cons (pv 3) (pa_cons (pv 2) (pa_cons (pv 4) (pa_cons (pv 5) pa_nil))))) (pa_cons (pe_tup (pa_cons (pv 3) (pa_cons (pv 2) (pa_cons (pv 4) pa_nil)))) (pa_cons (pe_tup (pa_cons (pv 3) (pa_cons (pv 2) (pa_cons (pv 4) (pa_cons (pv 5) (pa_cons pe_int pa_nil)))))) (pa_cons pe_non pa_nil))))))
    (@pss_cons _ _ _ _ _ (ps_set (i := 6) sc_l_bad_part.nd rfl (Or.inl rfl) (pe_op op_cat (pv 6) (pe_lst (pa_cons (pe_tup (pa_cons (pv 2) (pa_cons (pe_op op_add (pv 2) pe_int) (pa_cons (pe_op op_add (pv 4) pe_int) (pa_cons (pv 5) pa_nil))))) (pa_cons (pe_tup (pa_cons (pe_op op_add (pv 4) pe_int) (pa_cons (pv 2) (pa_cons (pv 4) (pa_cons (pv 5) pa_nil))))) (pa_cons (pe_tup (pa_cons (pv 3) (pa_cons (pv 2) (pa_cons pe_int (pa_cons (pv 5) pa_nil))))) pa_nil))))))
    (@pss_cons _ _ _ _ _ (ps_set (i := 6) sc_l_bad_part.nd rfl (Or.inl rfl) (pe_op op_cat (pv 6) (pe_lst (pa_cons (pe_tup (pa_cons (pv 3) (pa_cons (pe_un un_neg pe_int) (pa_cons (pv 4) (pa_cons (pv 5) pa_nil))))) (pa_cons (pe_tup (pa_cons pe_bl (pa_cons pe_int (pa_cons (pe_op op_add pe_int (pv 4)) (pa_cons (pv 5) pa_nil))))) (pa_cons (pe_tup (pa_cons (pv 3) (pa_cons (pv 2) (pa_cons pe_str (pa_cons (pv 5) pa_nil))))) pa_nil))))))
    (pss_one (ps_ret (pe_ix ix_list (pv 6) (pv 1) (fun _ _ => rfl)))))))))), ?_⟩
  refine ⟨_, rfl, st, 0, rfl, hst, fun r1 H1 b1 b1' m1 f1 => ⟨_, _, rfl, rfl, (by show (0:Int) < 5; decide), ?_⟩⟩
  refine ⟨_, rfl, _, rfl, st, 0, rfl, m1.st, fun r2 H2 b2 b2' m2 f2 => ⟨_, _, rfl, rfl, (by show (0:Int) < 5; decide), _, _, rfl, rfl, ?_⟩⟩
  refine ⟨_, rfl, _, rfl, st, 0, rfl, m2.st, fun r3 H3 b3 b3' m3 f3 => ⟨_, _, rfl, rfl, (by show (0:Int) < 5; decide), _, _, rfl, rfl, ?_⟩⟩
  refine ⟨_, rfl, st, 0, rfl, m3.st, fun r4 H4 b4 b4' m4 f4 => ⟨_, _, rfl, rfl, (by show (0:Int) < 5; decide), ?_⟩⟩
  have M4 := ((m1.trans m2).trans m3).trans m4
  have l0 : 0 ≤ (r1 % 5) ∧ (r1 % 5) < 5 := by (first | lia | omega)
  have b0 : (r1 % 5) ≤ (r1 % 5 + r2 % 5) ∧ (r1 % 5 + r2 % 5) < 10 := by (first | lia | omega)
  have m0 : (r1 % 5 + r2 % 5) ≤ (r1 % 5 + r2 % 5 + r3 % 5) ∧ (r1 % 5 + r2 % 5 + r3 % 5) < 15 := by (first | lia | omega)
  have w0 : 0 ≤ (r4 % 5) ∧ (r4 % 5) < 5 := by (first | lia | omega)
  refine ⟨_, rfl, _, rfl, _, rfl, _, rfl, (by show 4 ≤ sizeLine; decide), fun a1 h1 => ⟨_, rfl, _, rfl, _, rfl, (by show 3 ≤ sizeLine; decide), fun a2 h2 => ⟨_, rfl, _, rfl, _, rfl, _, rfl, (by show 5 ≤ sizeLine; decide), fun a3 h3 => ⟨(by show 4 ≤ sizeLine; decide), fun l1 hl1 => ?_⟩⟩⟩⟩
  have s1 := same_upd h1 (.lst [.int (r1 % 5 + r2 % 5), .int (r1 % 5), .int (r1 % 5 + r2 % 5 + r3 % 5), .int (r4 % 5)])
  have s2 := same_upd h2 (.tup [.int (r1 % 5 + r2 % 5), .int (r1 % 5), .int (r1 % 5 + r2 % 5 + r3 % 5)])
  have s3 := same_upd h3 (.tup [.int (r1 % 5 + r2 % 5), .int (r1 % 5), .int (r1 % 5 + r2 % 5 + r3 % 5), .int (r4 % 5), .int 0])
  have s4 := same_upd hl1 (.lst [.ref a1, .ref a2, .ref a3, .non])
  have M5 := M4.grow (s1.trans (s2.trans (s3.trans s4)))
  have n1 := M4.st.ne h1
  have n2 := (M4.grow s1).st.ne h2
  have n3 := (M4.grow (s1.trans s2)).st.ne h3
  have nl1 := (M4.grow (s1.trans (s2.trans s3))).st.ne hl1
  have e1 := (s2.trans (s3.trans s4)) _ _ upd_same
  have e2 := (s3.trans s4) _ _ upd_same
  have e3 := s4 _ _ upd_same
  -- some more
  refine ⟨_, rfl, _, rfl, _, rfl, _, _, rfl, rfl, _, rfl, _, _, rfl, rfl, _, rfl, (by show 4 ≤ sizeLine; decide), fun a4 h4 => ⟨_, rfl, _, _, rfl, rfl, _, rfl, _, rfl, _, rfl, (by show 4 ≤ sizeLine; decide), fun a5 h5 => ⟨_, rfl, _, rfl, _, rfl, (by show 4 ≤ sizeLine; decide), fun a6 h6 => ⟨(by show 3 ≤ sizeLine; decide), fun l2 hl2 => ?_⟩⟩⟩⟩
  have s5 := same_upd h4 (.tup [.int (r1 % 5), .int ((r1 % 5) + 1), .int ((r1 % 5 + r2 % 5 + r3 % 5) + 1), .int (r4 % 5)])
  have s6 := same_upd h5 (.tup [.int ((r1 % 5 + r2 % 5 + r3 % 5) + 1), .int (r1 % 5), .int (r1 % 5 + r2 % 5 + r3 % 5), .int (r4 % 5)])
  have s7 := same_upd h6 (.tup [.int (r1 % 5 + r2 % 5), .int (r1 % 5), .int 10000, .int (r4 % 5)])
  have s8 := same_upd hl2 (.lst [.ref a4, .ref a5, .ref a6])
  refine ⟨l1, l2, _, _, rfl, rfl, (s5.trans (s6.trans (s7.trans s8))) _ _ upd_same, upd_same, Nat.le_of_lt (small1000 (by show 4 + 3 ≤ 1000; decide)), fun l3 hl3 => ?_⟩
  have s9 := same_upd hl3 (.lst ([.ref a1, .ref a2, .ref a3, .non] ++ [.ref a4, .ref a5, .ref a6]))
  have n4 := M5.st.ne h4
  have n5 := (M5.grow s5).st.ne h5
  have n6 := (M5.grow (s5.trans s6)).st.ne h6
  have t59 := s5.trans (s6.trans (s7.trans (s8.trans s9)))
  have M6 := M5.grow t59
  have e4 := (s6.trans (s7.trans (s8.trans s9))) _ _ upd_same
  have e5 := (s7.trans (s8.trans s9)) _ _ upd_same
  have e6 := (s8.trans s9) _ _ upd_same
  -- and more
  refine ⟨_, rfl, _, rfl, _, rfl, _, rfl, _, rfl, (by show 4 ≤ sizeLine; decide), fun a7 h7 => ⟨_, rfl, _, _, rfl, rfl, _, rfl, (by show 4 ≤ sizeLine; decide), fun a8 h8 => ⟨_, rfl, _, rfl, _, rfl, (by show 4 ≤ sizeLine; decide), fun a9 h9 => ⟨(by show 3 ≤ sizeLine; decide), fun l4 hl4 => ?_⟩⟩⟩⟩
  have u5 := same_upd h7 (.tup [.int (r1 % 5 + r2 % 5), .int (-1), .int (r1 % 5 + r2 % 5 + r3 % 5), .int (r4 % 5)])
  have u6 := same_upd h8 (.tup [.bl true, .int 0, .int (2 + (r1 % 5 + r2 % 5 + r3 % 5)), .int (r4 % 5)])
  have u7 := same_upd h9 (.tup [.int (r1 % 5 + r2 % 5), .int (r1 % 5), .str "9", .int (r4 % 5)])
  have u8 := same_upd hl4 (.lst [.ref a7, .ref a8, .ref a9])
  refine ⟨l3, l4, _, _, rfl, rfl, (u5.trans (u6.trans (u7.trans u8))) _ _ upd_same, upd_same, Nat.le_of_lt (small1000 (by show 7 + 3 ≤ 1000; decide)), fun l5 hl5 => ?_⟩
  have u9 := same_upd hl5 (.lst ([.ref a1, .ref a2, .ref a3, .non] ++ [.ref a4, .ref a5, .ref a6] ++ [.ref a7, .ref a8, .ref a9]))
  have n7 := M6.st.ne h7
  have n8 := (M6.grow u5).st.ne h8
  have n9 := (M6.grow (u5.trans u6)).st.ne h9
  have v59 := u5.trans (u6.trans (u7.trans (u8.trans u9)))
  have M7 := M6.grow v59
  have e7 := (u6.trans (u7.trans (u8.trans u9))) _ _ upd_same
  have e8 := (u7.trans (u8.trans u9)) _ _ upd_same
  have e9 := (u8.trans u9) _ _ upd_same
  refine ⟨_, rfl, _, rfl, ix_any (.of upd_same) k0 (by show k < 10; exact k1) (fun v hv => q v _ M7 ?_)⟩
  have hv' : v ∈ [V.ref a1, .ref a2, .ref a3, .non, .ref a4, .ref a5, .ref a6, .ref a7, .ref a8, .ref a9] := hv
  simp only [List.mem_cons, List.not_mem_nil, or_false] at hv'
  have fl : ∀ {xs : List V}, xs.all flatV = true → ∀ x ∈ xs, flatV x = true := fun h => List.all_eq_true.mp h
  rcases hv' with rfl | rfl | rfl | rfl | rfl | rfl | rfl | rfl | rfl | rfl
  · exact .inr ⟨a1, _, rfl, n1, v59 _ _ (t59 _ _ e1), fun H' e => .form (Is.lst e) rfl⟩
  · exact .inr ⟨a2, _, rfl, n2, v59 _ _ (t59 _ _ e2), fun H' e => .len e (by show (3 : Nat) ≠ 4; decide)⟩
  · exact .inr ⟨a3, _, rfl, n3, v59 _ _ (t59 _ _ e3), fun H' e => .len e (by show (5 : Nat) ≠ 4; decide)⟩
  · exact .inl rfl
  · exact .inr ⟨a4, _, rfl, n4, v59 _ _ e4, fun H' e => .ord e ⟨by (first | lia | omega), by (first | lia | omega), by (first | lia | omega), by (first | lia | omega)⟩ (.inr (by (first | lia | omega)))⟩
  · exact .inr ⟨a5, _, rfl, n5, v59 _ _ e5, fun H' e => .ord e ⟨by (first | lia | omega), by (first | lia | omega), by (first | lia | omega), by (first | lia | omega)⟩ (.inr (by (first | lia | omega)))⟩
  · exact .inr ⟨a6, _, rfl, n6, v59 _ _ e6, fun H' e => .ord e ⟨by (first | lia | omega), by (first | lia | omega), by (first | lia | omega), by (first | lia | omega)⟩ (.inl (by (first | lia | omega)))⟩
  · exact .inr ⟨a7, _, rfl, n7, e7, fun H' e => .num e rfl (fl rfl) (List.all_eq_false.mpr ⟨.int (-1), by simp, by decide⟩)⟩
  · exact .inr ⟨a8, _, rfl, n8, e8, fun H' e => .num e rfl (fl rfl) (List.all_eq_false.mpr ⟨.bl true, by simp, by decide⟩)⟩
  · exact .inr ⟨a9, _, rfl, n9, e9, fun H' e => .num e rfl (fl rfl) (List.all_eq_false.mpr ⟨.str "9", by simp, by decide⟩)⟩
end
end KP

set_option linter.all false
set_option maxHeartbeats 8000000
set_option maxRecDepth 100000
namespace KP
open PySem L2 PyProof.Rows
section
variable {P : Program} {w : World} {K : PySem.W.Frag} {mg : Str → Option Value} {base : Heap} {A : Adr}
end
end KP

set_option linter.all false
set_option maxHeartbeats 8000000
set_option maxRecDepth 100000
namespace KP
open PySem L2 PyProof.Rows
open FM (Pt GoodPt)
section
variable {P : Program} {w : World} {K : PySem.W.Frag} {mg : Str → Option Value} {base : Heap} {A : Adr}
theorem wpick3 {a b c : V} {i : Int} (h0 : 0 ≤ i) (h1 : i < 3) : ∃ v, atI [a, b, c] i = some v ∧ (v = a ∨ v = b ∨ v = c) := by
  have : i = 0 ∨ i = 1 ∨ i = 2 := by (first | lia | omega)
  rcases this with rfl | rfl | rfl
  · exact ⟨a, rfl, .inl rfl⟩
  · exact ⟨b, rfl, .inr (.inl rfl)⟩
  · exact ⟨c, rfl, .inr (.inr rfl)⟩
theorem wpick2 {a b : V} {i : Int} (h0 : 0 ≤ i) (h1 : i < 2) : ∃ v, atI [a, b] i = some v ∧ (v = a ∨ v = b) := by
  have : i = 0 ∨ i = 1 := by (first | lia | omega)
  rcases this with rfl | rfl
  · exact ⟨a, rfl, .inl rfl⟩
  · exact ⟨b, rfl, .inr rfl⟩
/-- an item of the parts: good, or none -/
noncomputable def IT (K : PySem.W.Frag) (st : Addr) (H : Hp) (x : V × Bool) : Prop := (x.2 = true ∧ ∃ (a : Addr) (p : Pt), x.1 = .ref a ∧ a ≠ st ∧ H a = some (.tup (ptV p)) ∧ GoodPt p) ∨ (x.2 = false ∧ BP K st H x.1)
theorem BP.ms {st : Addr} {H H' : Hp} {v : V} (m : Ms st H H') (x : BP K st H v) : BP K st H' v := by
  rcases x with x | ⟨a, o, e, n, h, b⟩
  · exact .inl x
  · exact .inr ⟨a, o, e, n, m.keep _ _ n h, b⟩
theorem BP.bad {st : Addr} {H : Hp} {v : V} (x : BP K st H v) : BadPt K H v := by
  rcases x with rfl | ⟨a, o, rfl, n, h, b⟩
  · exact .form (S := "NoneType") ⟨.non, rfl⟩ rfl
  · exact b _ h
theorem IT.ms {st : Addr} {H H' : Hp} {x : V × Bool} (m : Ms st H H') (h : IT K st H x) : IT K st H' x := by
  rcases h with ⟨e, a, p, ex, n, ha, g⟩ | ⟨e, b⟩
  · exact .inl ⟨e, a, p, ex, n, m.keep _ _ n ha, g⟩
  · exact .inr ⟨e, b.ms m⟩
theorem IT.val {st : Addr} {H : Hp} {x : V × Bool} (h : IT K st H x) : x.1 = .non ∨ ∃ a, x.1 = .ref a := by
  rcases h with ⟨e, a, p, ex, _⟩ | ⟨e, ex | ⟨a, o, ex, _⟩⟩
  · exact .inr ⟨a, ex⟩
  · exact .inl ex
  · exact .inr ⟨a, ex⟩
noncomputable def BadX (v : V) (its : List (V × Bool)) : Prop := numV v = false ∨ ((∃ t : Int, v = .int t ∧ 0 ≤ t) ∧ (60 < its.length ∨ (its.map (·.2)).all id = false))
/-- the wrong parts, in a list or a tuple -/
inductive SV (K : PySem.W.Frag) (st : Addr) (H : Hp) (v : V) : V → Prop where
  | lst {p : Addr} {its : List (V × Bool)} (hp : H p = some (.lst (its.map (·.1)))) (np : p ≠ st) (f : ∀ x ∈ its, IT K st H x) (b : BadX v its) : SV K st H v (.ref p)
  | tup {p : Addr} {its : List (V × Bool)} (hp : H p = some (.tup (its.map (·.1)))) (np : p ≠ st) (f : ∀ x ∈ its, IT K st H x) (b : BadX v its) : SV K st H v (.ref p)
  | non (t : ∃ t : Int, v = .int t ∧ 0 ≤ t) : SV K st H v .non
  | dic {p : Addr} (t : ∃ t : Int, v = .int t ∧ 0 ≤ t) (hp : H p = some (.dK [])) (np : p ≠ st) : SV K st H v (.ref p)
theorem SV.ms {st : Addr} {H H' : Hp} {v u : V} (m : Ms st H H') (x : SV K st H v u) : SV K st H' v u := by
  cases x with
  | lst hp np f b => exact .lst (m.keep _ _ np hp) np (fun x hx => (f x hx).ms m) b
  | tup hp np f b => exact .tup (m.keep _ _ np hp) np (fun x hx => (f x hx).ms m) b
  | non t => exact .non t
  | dic t hp np => exact .dic t (m.keep _ _ np hp) np
theorem SV.bad {st : Addr} {H : Hp} {v u : V} (fv : flatV v = true) (x : SV K st H v u) : BadF K H v u := by
  have go : ∀ {p : Addr} {its : List (V × Bool)}, (H p = some (.lst (its.map (·.1))) ∨ H p = some (.tup (its.map (·.1)))) → (∀ x ∈ its, IT K st H x) → BadX v its → BadF K H v (.ref p) := by
    intro p its hp f b
    rcases b with b | ⟨t, b⟩
    · obtain ⟨S, i⟩ := is_flat (K := K) (H := H) fv
      exact .inl ⟨S, i, b⟩
    · refine .inr ⟨t, ?_⟩
      by_cases n : 60 < its.length
      · exact .many hp (by rw [List.length_map]; exact n)
      · refine .one hp (by (first | lia | omega)) (fun x hx => ?_) (b.resolve_left n)
        rcases f x hx with ⟨e, a, p, ex, _, ha, g⟩ | ⟨e, bp⟩
        · exact .inl ⟨e, a, p, ex, ha, g⟩
        · exact .inr ⟨e, bp.bad⟩
  cases x with
  | lst hp np f b => exact go (.inl hp) f b
  | tup hp np f b => exact go (.inr hp) f b
  | non t => exact .inr ⟨t, .form (S := "NoneType") ⟨.non, rfl⟩ rfl rfl⟩
  | dic t hp np => exact .inr ⟨t, .form (S := "dict") (.dK hp) rfl rfl⟩
theorem cut_map (its : List (V × Bool)) (lo hi : Option Int) : ∃ js : List (V × Bool), cutV (its.map (·.1)) lo hi = js.map (·.1) ∧ (∀ x ∈ js, x ∈ its) ∧ js.length ≤ its.length := by
  refine ⟨(its.drop (HT.sIx (its.map (·.1)).length 0 lo)).take (HT.sIx (its.map (·.1)).length (its.map (·.1)).length hi - HT.sIx (its.map (·.1)).length 0 lo), ?_, fun x hx => List.mem_of_mem_drop (List.mem_of_mem_take hx), ?_⟩
  · unfold cutV
    rw [List.map_take, List.map_drop]
  · rw [List.length_take, List.length_drop]; (first | lia | omega)
noncomputable def spWrong (K : PySem.W.Frag) : Sp := fun vs H Q _ => ∃ (t : Int) (p st : Addr) (pa : PA), vs = [.int t, .ref p, .ref st] ∧ 0 ≤ t ∧ H p = some (.lst (pa.map fun x => V.ref x.2)) ∧ (∀ x ∈ pa, x.2 ≠ st ∧ H x.2 = some (.tup (ptV x.1)) ∧ GoodPt x.1) ∧ pa.length ≤ 5 ∧ p ≠ st ∧ St st H ∧
  ∀ (tp : Addr) (v u : V) (H' : Hp), Ms st H H' → tp ≠ st → H' tp = some (.tup [v, u]) → flatV v = true → SV K st H' v u → Q (.ref tp) H'
theorem ok_wrong (T : Txt K mg A) : FnOk P w K mg base CX0 3 A.f_l_wrong A.d_l_wrong P_l_wrong (spWrong K) := by
  have G_l_mix : FnOk P w K mg base CX0 2 A.f_l_mix A.d_l_mix P_l_mix spMix := (ok_mix T).mono (by decide)
  have G_l_bad_part : FnOk P w K mg base CX0 2 A.f_l_bad_part A.d_l_bad_part P_l_bad_part (spBadPart K) := ok_bad_part T
  refine T.F_l_wrong.ok sc_l_wrong (fun vs H Q E h => ?_) (fun cdv B outer s H vs Q E hr h => ?_)
  · obtain ⟨t, p, st, pa, rfl, _⟩ := h; rfl
  obtain ⟨t, p, st, pa, rfl, t0, hp, hpa, hn, hps, hst, q⟩ := h
  refine ⟨_, @pss_cons _ _ _ _ _ (ps_set (i := 3) sc_l_wrong.nd rfl (Or.inl rfl) (pe_op op_mod (pe_call G_l_mix hr rfl T.m_l_mix T.F_l_mix.kp T.b_l_mix .nil pass0 (pa_cons (pv 2) (pa_cons pe_int pa_nil))) pe_int))
    (@pss_cons _ _ _ _ _ (ps_if (pt_cmpR op_lt (pv 3) pe_int (nomark _)) (pss_one (ps_ret (pe_tup (pa_cons (pe_ix ix_list (pe_lst (pa_cons (pe_op op_sub (pe_un un_neg pe_int) (pe_op op_mod (pe_call G_l_mix hr rfl T.m_l_mix T.F_l_mix.kp T.b_l_mix .nil pass0 (pa_cons (pv 2) (pa_cons pe_int pa_nil))) pe_int)) (pa_cons pe_bl (pa_cons pe_non pa_nil)))) (pv 3) (fun _ _ => rfl)) (pa_cons (pv 1) pa_nil))))) pss_nil)
    (@pss_cons _ _ _ _ _ (ps_if (pt_cmpR op_lt (pv 3) pe_int (nomark _)) (pss_one (ps_ret (pe_tup (pa_cons (pv 0) (pa_cons (pe_ix ix_list (pe_lst (pa_cons pe_non (pa_cons pe_dict0 pa_nil))) (pe_op op_sub (pv 3) pe_int) (fun _ _ => rfl)) pa_nil))))) pss_nil)
    (@pss_cons _ _ _ _ _ (ps_if (pt_cmpR op_eq (pv 3) pe_int (nomark _)) (pss_one (ps_ret (pe_tup (pa_cons (pv 0) (pa_cons (pe_op op_rep (pe_lst (pa_cons (pe_tup (pa_cons pe_int (pa_cons pe_int (pa_cons pe_int (pa_cons pe_int pa_nil))))) pa_nil)) (pe_op op_add pe_int (pe_op op_mod (pe_call G_l_mix hr rfl T.m_l_mix T.F_l_mix.kp T.b_l_mix .nil pass0 (pa_cons (pv 2) (pa_cons pe_int pa_nil))) pe_int))) pa_nil))))) pss_nil)
    (@pss_cons _ _ _ _ _ (ps_set (i := 4) sc_l_wrong.nd rfl (Or.inl rfl) (pe_op op_mod (pe_call G_l_mix hr rfl T.m_l_mix T.F_l_mix.kp T.b_l_mix .nil pass0 (pa_cons (pv 2) (pa_cons pe_int pa_nil))) (pe_op op_add (pe_callB call_len_seq rfl T.n_len b_len (pa_cons (pv 1) pa_nil)) pe_int)))
    (pss_one (ps_ret (pe_tup (pa_cons (pv 0) (pa_cons (pe_op op_cat (pe_op op_cat (pe_slice sl_list (pv 1) po_none (po_some (pv 4))) (pe_lst (pa_cons (pe_call G_l_bad_part hr rfl T.m_l_bad_part T.F_l_bad_part.kp T.b_l_bad_part .nil pass0 (pa_cons (pv 2) (pa_cons (pe_op op_sub (pv 3) pe_int) pa_nil))) pa_nil))) (pe_slice sl_list (pv 1) (po_some (pv 4)) po_none)) pa_nil))))))))), ?_⟩
  have ei : (pa.map fun x => V.ref x.2) = (pa.map fun x => (V.ref x.2, true)).map (·.1) := by rw [List.map_map]; rfl
  have fl : ∀ {H' : Hp}, Ms st H H' → ∀ x ∈ pa.map (fun x => (V.ref x.2, true)), IT K st H' x := fun m x hx => by
    obtain ⟨y, hy, rfl⟩ := List.mem_map.mp hx
    obtain ⟨n, e, g⟩ := hpa y hy
    exact .inl ⟨rfl, y.2, y.1, rfl, n, m.keep _ _ n e, g⟩
  have sw : ∀ {H' : Hp}, Ms st H H' → H' p = some (.lst (pa.map fun x => V.ref x.2)) := fun m => m.keep _ _ hps hp
  refine ⟨_, rfl, st, 0, rfl, hst, fun r1 H1 r10 r1b m1 f1 => ⟨_, _, rfl, rfl, (show (0 : Int) < 16 by decide), ?_⟩⟩
  have w0 : 0 ≤ r1 % 16 := Int.emod_nonneg _ (by decide)
  have w1 : r1 % 16 < 16 := Int.emod_lt_of_pos _ (by decide)
  refine ⟨_, rfl, _, _, rfl, rfl, _, rfl, ite2 (fun c => ?_) (fun c => ?_)⟩
  · have c3 : r1 % 16 < 3 := of_decide_eq_true c
    refine ⟨_, rfl, _, rfl, st, 0, rfl, m1.st, fun r2 H2 r20 r2b m2 f2 => ⟨_, _, rfl, rfl, (show (0 : Int) < 5 by decide), _, _, rfl, rfl, (by show 3 ≤ sizeLine; decide), fun l hl => ?_⟩⟩
    have a0 : 0 ≤ r2 % 5 := Int.emod_nonneg _ (by decide)
    obtain ⟨v, ev, alt⟩ := wpick3 (a := .int (-1 - r2 % 5)) (b := .bl true) (c := .non) w0 c3
    refine ⟨_, rfl, l, _, r1 % 16, v, rfl, rfl, .of upd_same, ev, _, rfl, (by show 2 ≤ sizeLine; decide), fun tp htp => ?_⟩
    have m3 := ((m1.trans m2).grow (same_upd hl (.lst [.int (-1 - r2 % 5), .bl true, .non])))
    have m4 := m3.grow (same_upd htp (.tup [v, .ref p]))
    have e4 := sw m4
    rw [ei] at e4
    refine q tp v (.ref p) _ m4 (m3.st.ne htp) upd_same ?_ (.lst e4 hps (fl m4) (.inl ?_))
    · rcases alt with rfl | rfl | rfl <;> rfl
    · rcases alt with rfl | rfl | rfl
      · exact decide_eq_false (by (first | lia | omega))
      · rfl
      · rfl
  have c3 : ¬ r1 % 16 < 3 := fun z => c (decide_eq_true z)
  refine ⟨_, rfl, _, _, rfl, rfl, _, rfl, ite2 (fun c => ?_) (fun c => ?_)⟩
  · have c5 : r1 % 16 < 5 := of_decide_eq_true c
    refine ⟨_, rfl, fun d hd => ⟨(by show 2 ≤ sizeLine; decide), fun l hl => ?_⟩⟩
    have s1 := same_upd hd (.dK [])
    have s2 := s1.trans (same_upd hl (.lst [.non, .ref d]))
    obtain ⟨v, ev, alt⟩ := wpick2 (a := .non) (b := .ref d) (i := r1 % 16 - 3) (by (first | lia | omega)) (by (first | lia | omega))
    refine ⟨_, rfl, _, _, rfl, rfl, l, _, _, v, rfl, rfl, .of upd_same, ev, (by show 2 ≤ sizeLine; decide), fun tp htp => ?_⟩
    have m3 := m1.grow s2
    have s4 := s2.trans (same_upd htp (.tup [.int t, v]))
    have m4 := m1.grow s4
    refine q tp (.int t) v _ m4 (m3.st.ne htp) upd_same rfl ?_
    rcases alt with rfl | rfl
    · exact .non ⟨t, rfl, t0⟩
    · exact .dic ⟨t, rfl, t0⟩ (((same_upd hl _).trans (same_upd htp _)) _ _ upd_same) (m1.st.ne hd)
  have c5 : ¬ r1 % 16 < 5 := fun z => c (decide_eq_true z)
  refine ⟨_, rfl, rfl, _, rfl, ite2 (fun c => ?_) (fun c => ?_)⟩
  · refine ⟨_, rfl, (by show 4 ≤ sizeLine; decide), fun a ha => ⟨(by show 1 ≤ sizeLine; decide), fun l1 hl1 => ?_⟩⟩
    have s1 := same_upd ha (.tup [.int 0, .int 0, .int 1, .int 1])
    have m2 := m1.grow s1
    have m3 := m2.grow (same_upd hl1 (.lst [.ref a]))
    have na := m1.st.ne ha
    have nl := m2.st.ne hl1
    refine ⟨_, rfl, st, 0, rfl, m3.st, fun r2 H2 r20 r2b m4 f2 => ⟨_, _, rfl, rfl, (show (0 : Int) < 30 by decide), _, _, rfl, rfl, ?_⟩⟩
    have b0 : 0 ≤ r2 % 30 := Int.emod_nonneg _ (by decide)
    have b1 : r2 % 30 < 30 := Int.emod_lt_of_pos _ (by decide)
    refine ⟨l1, _, _, rfl, rfl, m4.keep _ _ nl upd_same, by (first | lia | omega), by (first | lia | omega), ?_, fun l3 hl3 => ⟨(by show 2 ≤ sizeLine; decide), fun tp htp => ?_⟩⟩
    · exact Nat.le_of_lt (small1000 (by show 1 * (61 + r2 % 30).toNat ≤ 1000; (first | lia | omega)))
    have er : (List.replicate (61 + r2 % 30).toNat [V.ref a]).flatten = (List.replicate (61 + r2 % 30).toNat (V.ref a, true)).map (·.1) := by
      rw [List.flatten_replicate_singleton, List.map_replicate]
    have m5 := (m3.trans m4).grow (same_upd hl3 (.lst (List.replicate (61 + r2 % 30).toNat [V.ref a]).flatten))
    have m6 := m5.grow (same_upd htp (.tup [.int t, .ref l3]))
    have e3 := (same_upd htp (.tup [.int t, .ref l3])) _ _ (upd_same (H := H2) (a := l3) (o := .lst (List.replicate (61 + r2 % 30).toNat [V.ref a]).flatten))
    have ea := ((same_upd hl3 (.lst (List.replicate (61 + r2 % 30).toNat [V.ref a]).flatten)).trans (same_upd htp (.tup [.int t, .ref l3]))) _ _ (m4.keep _ _ na (same_upd hl1 (.lst [.ref a]) _ _ (upd_same (a := a) (o := .tup [.int 0, .int 0, .int 1, .int 1]))))
    replace e3 := e3.trans (congrArg (fun z => some (HO.lst z)) er)
    refine q tp (.int t) (.ref l3) _ m6 (m5.st.ne htp) upd_same rfl (.lst (its := List.replicate (61 + r2 % 30).toNat (V.ref a, true)) e3 ((m3.trans m4).st.ne hl3) (fun x hx => ?_) (.inr ⟨⟨t, rfl, t0⟩, .inl (by rw [List.length_replicate]; (first | lia | omega))⟩))
    rw [List.eq_of_mem_replicate hx]
    exact .inl ⟨rfl, a, ⟨0, 0, 1, 1⟩, rfl, na, ea, by constructor <;> decide⟩
  have c6 : r1 % 16 ≠ 5 := neV c
  refine ⟨_, rfl, st, 0, rfl, m1.st, fun r2 H2 r20 r2b m2 f2 => ⟨_, rfl, p, _, rfl, .inl (.of (sw (m1.trans m2))), _, _, rfl, rfl, _, _, rfl, rfl, (by (first | lia | omega)), ?_⟩⟩
  have mm := m1.trans m2
  refine ⟨_, rfl, _, rfl, _, rfl, _, rfl, p, _, rfl, .of (sw mm), fun l1 hl1 => ?_⟩
  obtain ⟨j1, ej1, hj1, nj1⟩ := cut_map (pa.map fun x => (V.ref x.2, true)) none (some (r2 % (((pa.map fun x => V.ref x.2).length : Int) + 1)))
  obtain ⟨j5, ej5, hj5, nj5⟩ := cut_map (pa.map fun x => (V.ref x.2, true)) (some (r2 % (((pa.map fun x => V.ref x.2).length : Int) + 1))) none
  rw [← ei] at ej1 ej5
  rw [List.length_map] at nj1 nj5
  have s1 := same_upd hl1 (.lst (cutV (pa.map fun x => V.ref x.2) none (some (r2 % (((pa.map fun x => V.ref x.2).length : Int) + 1)))))
  have M1 := mm.grow s1
  have n1 := mm.st.ne hl1
  refine ⟨_, rfl, _, rfl, _, _, rfl, rfl, st, r1 % 16 - 6, rfl, M1.st, by (first | lia | omega), by (first | lia | omega), fun v H3 m3 bp => ⟨(by show 1 ≤ sizeLine; decide), fun l3 hl3 => ?_⟩⟩
  have s3 := same_upd hl3 (.lst [v])
  have M3 := (M1.trans m3).grow s3
  have e1 := s3 _ _ (m3.keep _ _ n1 (upd_same (H := H2) (a := l1) (o := .lst (cutV (pa.map fun x => V.ref x.2) none (some (r2 % (((pa.map fun x => V.ref x.2).length : Int) + 1)))))))
  refine ⟨l1, l3, _, _, rfl, rfl, e1, upd_same, Nat.le_of_lt (small1000 (by rw [ej1, List.length_map]; show j1.length + 1 ≤ 1000; (first | lia | omega))), fun l4 hl4 => ?_⟩
  have s4 := same_upd hl4 (.lst (cutV (pa.map fun x => V.ref x.2) none (some (r2 % (((pa.map fun x => V.ref x.2).length : Int) + 1))) ++ [v]))
  have M4 := M3.grow s4
  refine ⟨_, rfl, _, rfl, _, rfl, p, _, rfl, .of (sw M4), fun l5 hl5 => ?_⟩
  have s5 := same_upd hl5 (.lst (cutV (pa.map fun x => V.ref x.2) (some (r2 % (((pa.map fun x => V.ref x.2).length : Int) + 1))) none))
  have M5 := M4.grow s5
  refine ⟨l4, l5, _, _, rfl, rfl, s5 _ _ upd_same, upd_same, Nat.le_of_lt (small1000 (by rw [ej1, ej5, List.length_append, List.length_map, List.length_map]; show j1.length + 1 + j5.length ≤ 1000; (first | lia | omega))), fun l6 hl6 => ⟨(by show 2 ≤ sizeLine; decide), fun tp htp => ?_⟩⟩
  have s6 := same_upd hl6 (.lst (cutV (pa.map fun x => V.ref x.2) none (some (r2 % (((pa.map fun x => V.ref x.2).length : Int) + 1))) ++ [v] ++ cutV (pa.map fun x => V.ref x.2) (some (r2 % (((pa.map fun x => V.ref x.2).length : Int) + 1))) none))
  have M6 := M5.grow s6
  have s7 := same_upd htp (.tup [.int t, .ref l6])
  have M7 := M6.grow s7
  have e6 := s7 _ _ (upd_same (a := l6) (o := .lst (cutV (pa.map fun x => V.ref x.2) none (some (r2 % (((pa.map fun x => V.ref x.2).length : Int) + 1))) ++ [v] ++ cutV (pa.map fun x => V.ref x.2) (some (r2 % (((pa.map fun x => V.ref x.2).length : Int) + 1))) none)))
  have eq6 : cutV (pa.map fun x => V.ref x.2) none (some (r2 % (((pa.map fun x => V.ref x.2).length : Int) + 1))) ++ [v] ++ cutV (pa.map fun x => V.ref x.2) (some (r2 % (((pa.map fun x => V.ref x.2).length : Int) + 1))) none = (j1 ++ [(v, false)] ++ j5).map (·.1) := by
    rw [ej1, ej5, List.map_append, List.map_append]; rfl
  replace e6 := e6.trans (congrArg (fun z => some (HO.lst z)) eq6)
  have bp7 : BP K st _ v := bp.ms ((Ms.of (M1.trans m3).st s3).grow (s4.trans (s5.trans (s6.trans s7))))
  refine q tp (.int t) (.ref l6) _ M7 (M6.st.ne htp) upd_same rfl (.lst (its := j1 ++ [(v, false)] ++ j5) e6 (M5.st.ne hl6) (fun x hx => ?_) (.inr ⟨⟨t, rfl, t0⟩, .inr ?_⟩))
  · rcases List.mem_append.mp hx with hx | hx
    · rcases List.mem_append.mp hx with hx | hx
      · exact fl M7 x (hj1 x hx)
      · rw [List.mem_singleton.mp hx]; exact .inr ⟨rfl, bp7⟩
    · exact fl M7 x (hj5 x hx)
  · rw [List.all_eq_false]
    exact ⟨false, List.mem_map.mpr ⟨(v, false), List.mem_append_left _ (List.mem_append_right _ (.head _)), rfl⟩, by decide⟩
end
end KP

set_option linter.all false
set_option maxHeartbeats 8000000
set_option maxRecDepth 100000
namespace L2
open PySem
theorem seq_join {t u : TS} {D : Ends} {σ : St} {H : Hp} (R : St → Hp → Prop) (h1 : ∀ N : St → Hp → Prop, (∀ σ' H', R σ' H' → N σ' H') → t { D with nx := N } σ H) (h2 : ∀ σ' H', R σ' H' → u D σ' H') : tSeq t u D σ H := h1 (u D) h2
end L2
namespace KP
open PySem L2 PyProof.Rows
open FM (Pt GoodPt)
section
variable {P : Program} {w : World} {K : PySem.W.Frag} {mg : Str → Option Value} {base : Heap} {A : Adr}
theorem gp2 : GoodPt ⟨0, 0, 2, 1⟩ := by constructor <;> decide
/-- what is copied of the wrong parts -/
inductive SC (H : Hp) : V → V → Prop where
  | lst {p m : Addr} {xs : List V} (hp : H p = some (.lst xs)) (hm : H m = some (.lst xs)) (f : ∀ x ∈ xs, x = .non ∨ ∃ a, x = .ref a) : SC H (.ref p) (.ref m)
  | tup {p : Addr} {xs : List V} (hp : H p = some (.tup xs)) (f : ∀ x ∈ xs, x = .non ∨ ∃ a, x = .ref a) : SC H (.ref p) (.ref p)
  | non : SC H .non .non
  | dic {p : Addr} (hp : H p = some (.dK [])) : SC H (.ref p) (.ref p)
theorem SC.same {H H' : Hp} {u c : V} (m : Same H H') (x : SC H u c) : SC H' u c := by
  cases x with
  | lst hp hm f => exact .lst (m _ _ hp) (m _ _ hm) f
  | tup hp f => exact .tup (m _ _ hp) f
  | non => exact .non
  | dic hp => exact .dic (m _ _ hp)
theorem deq_any {H : Hp} {xs : List V} (f : ∀ x ∈ xs, x = .non ∨ ∃ a, x = .ref a) (i : Nat) : DEq K H 1 (xs.getD i .non) (xs.getD i .non) true := by
  have : xs.getD i .non = .non ∨ ∃ a, xs.getD i .non = .ref a := by
    rw [List.getD_eq_getElem?_getD]
    cases e : xs[i]? with
    | none => exact .inl rfl
    | some x => exact f x (List.mem_of_getElem? e)
  rcases this with e | ⟨a, e⟩
  · rw [e]; exact .flat rfl rfl
  · rw [e]; exact .same a
theorem its_val {st : Addr} {H : Hp} {its : List (V × Bool)} (f : ∀ x ∈ its, IT K st H x) : ∀ x ∈ its.map (·.1), x = .non ∨ ∃ a, x = .ref a := fun x hx => by
  obtain ⟨y, hy, rfl⟩ := List.mem_map.mp hx
  exact (f y hy).val
noncomputable def spLaw (K : PySem.W.Frag) (cT : Addr) : Sp := fun vs H Q _ => ∃ (a : Addr) (ns : List Int), vs = [.ref a] ∧ SqL K H a (ns.map V.int) ∧ ns.length ≤ 63 ∧ a ≠ cT ∧ H cT = some (.tbl #[]) ∧ ∀ H', Q (.bl true) H'
noncomputable abbrev sc_law_0 : Scope := (match defBody s_law with | _ :: (.Assign _ (.ListComp _ _ sc _) _) :: _ => sc | _ => defScope s_law)
theorem blk_law_0 : Blk (defScope s_law) N_law sc_law_0 ["_law_k"] [0, 1] := ⟨rfl, by decide +kernel, by decide +kernel, by decide +kernel, by decide +kernel⟩
theorem nd_law_0 : (capN N_law ["_law_k"] [0, 1]).Nodup := by decide +kernel
noncomputable abbrev sc_law_1 : Scope := (match defBody s_law with | _ :: _ :: _ :: _ :: _ :: _ :: _ :: (.If (.BoolOp _ ((.Compare (.ListComp _ _ sc _) _ _ _) :: _) _) _ _ _) :: _ => sc | _ => defScope s_law)
theorem blk_law_1 : Blk (defScope s_law) N_law sc_law_1 ["_law_way"] [4, 5] := ⟨rfl, by decide +kernel, by decide +kernel, by decide +kernel, by decide +kernel⟩
theorem nd_law_1 : (capN N_law ["_law_way"] [4, 5]).Nodup := by decide +kernel
theorem ok_law (T : Txt K mg A) (hC : PySem.W.CodeHd base A.cC A.cT) (hbm : base.BuiltinsAt mg A.cT) : FnOk P w K mg base CX0 10 A.f_law A.d_law P_law (spLaw K A.cT) := by
  have G_l_cell_at : FnOk P w K mg base CX0 9 A.f_l_cell_at A.d_l_cell_at P_l_cell_at (spCell K) := (ok_cell T).mono (by decide)
  have G_l_mix : FnOk P w K mg base CX0 9 A.f_l_mix A.d_l_mix P_l_mix spMix := (ok_mix T).mono (by decide)
  have G_l_part : FnOk P w K mg base CX0 9 A.f_l_part A.d_l_part P_l_part spPartL := (ok_part T).mono (by decide)
  have G_l_wrong : FnOk P w K mg base CX0 9 A.f_l_wrong A.d_l_wrong P_l_wrong (spWrong K) := (ok_wrong T).mono (by decide)
  have G_l_refused : FnOk P w K mg base CX0 9 A.f_l_refused A.d_l_refused P_l_refused (spRef K) := (ok_refused T).mono (by decide)
  have G_l_walked : FnOk P w K mg base CX0 9 A.f_l_walked A.d_l_walked P_l_walked spWalked := (ok_walked T).mono (by decide)
  have G_fill_rounds : FnOk P w K mg base CX0 9 A.f_fill_rounds A.d_fill_rounds P_fill_rounds (spRounds A.cT) := (ok_fill_rounds T hC hbm).mono (by decide)
  have G_fill_sizes : FnOk P w K mg base CX0 9 A.f_fill_sizes A.d_fill_sizes P_fill_sizes (spSizes A.cT) := (ok_fill_sizes T hC hbm).mono (by decide)
  refine T.F_law.ok sc_law (fun vs H Q E h => ?_) (fun cdv B outer s H vs Q E hr h => ?_)
  · obtain ⟨a, ns, rfl, _⟩ := h; rfl
  obtain ⟨a, ns, rfl, hS, hn, haT, hT, q⟩ := h
  refine ⟨_, @pss_cons _ _ _ _ _ (ps_set (i := 1) sc_law.nd rfl (Or.inr rfl) (pe_lst (pa_cons (pe_op op_add pe_int (pe_op op_mod (pe_call G_l_cell_at hr rfl T.m_l_cell_at T.F_l_cell_at.kp T.b_l_cell_at .nil pass0 (pa_cons (pv 0) (pa_cons pe_int pa_nil))) pe_int)) pa_nil)))
    (@pss_cons _ _ _ _ _ (ps_setComp (i := 2) blk_law_0 rfl (pi_range1 rfl T.n_range (pa_cons (pe_op op_mod (pe_call G_l_mix hr rfl T.m_l_mix T.F_l_mix.kp T.b_l_mix .nil pass0 (pa_cons (pv 1) (pa_cons pe_int pa_nil))) pe_int) pa_nil)) (fun _ _ _ _ _ => pg_name (i := 0) nd_law_0 rfl (.inl rfl)) (fun _ _ _ _ _ => pif_nil) (fun _ _ _ _ _ => pe_call G_l_part hr rfl T.m_l_part T.F_l_part.kp T.b_l_part .nil pass0 (pa_cons (pv 2) (pa_cons (pe_call G_l_cell_at hr rfl T.m_l_cell_at T.F_l_cell_at.kp T.b_l_cell_at .nil pass0 (pa_cons (pv 1) (pa_cons (pe_op op_add pe_int (pv 0)) pa_nil))) (pa_cons pe_int pa_nil)))) sc_law.nd rfl rfl)
    (@pss_cons _ _ _ _ _ (ps_set (i := 3) sc_law.nd rfl (Or.inl rfl) (pe_op op_mod (pe_call G_l_mix hr rfl T.m_l_mix T.F_l_mix.kp T.b_l_mix .nil pass0 (pa_cons (pv 1) (pa_cons (pe_call G_l_cell_at hr rfl T.m_l_cell_at T.F_l_cell_at.kp T.b_l_cell_at .nil pass0 (pa_cons (pv 0) (pa_cons pe_int pa_nil))) pa_nil))) pe_int))
    (@pss_cons _ _ _ _ _ (ps_set (i := 4) sc_law.nd rfl (Or.inr rfl) (pe_call G_l_wrong hr rfl T.m_l_wrong T.F_l_wrong.kp T.b_l_wrong .nil pass0 (pa_cons (pv 3) (pa_cons (pv 2) (pa_cons (pv 1) pa_nil)))))
    (@pss_cons _ _ _ _ _ (ps_set (i := 5) sc_law.nd rfl (Or.inr rfl) (pe_ix ix_tup (pv 4) pe_int (fun _ _ => rfl)))
    (@pss_cons _ _ _ _ _ (ps_if (PW.pt (pw_and (pt_val (pe_callB call_isi rfl T.n_isinstance b_isinstance (pa_cons (pv 5) (pa_cons (pe_bltn rfl T.n_list b_list (v := .ty "list") rfl) pa_nil)))) (pw_and1 (pt_cmpR op_eq (pe_op op_mod (pe_call G_l_mix hr rfl T.m_l_mix T.F_l_mix.kp T.b_l_mix .nil pass0 (pa_cons (pv 1) (pa_cons pe_int pa_nil))) pe_int) pe_int (nomark _))))) (pss_one (ps_set (i := 5) sc_law.nd rfl (Or.inr rfl) (pe_callTy call_tuple_of rfl T.n_tuple b_tuple (pa_cons (pv 5) pa_nil)))) pss_nil)
    (@pss_cons _ _ _ _ _ (ps_set (i := 6) sc_law.nd rfl (Or.inl rfl) (pe_ifExp (pt_val (pe_callB call_isi rfl T.n_isinstance b_isinstance (pa_cons (pv 5) (pa_cons (pe_bltn rfl T.n_list b_list (v := .ty "list") rfl) pa_nil)))) (pe_callTy call_list_of rfl T.n_list b_list (pa_cons (pv 5) pa_nil)) (pv 5)))
    (@pss_cons _ _ _ _ _ (ps_if (PW.pt (pw_or (pt_cmpR (op_neL hr.units0) (pe_comp blk_law_1 rfl (pi_range1 rfl T.n_range (pa_cons pe_int pa_nil)) (fun _ _ _ _ _ => pg_name (i := 0) nd_law_1 rfl (.inl rfl)) (fun _ _ _ _ _ => pif_one (pt_not (pt_val (pe_call G_l_refused hr rfl T.m_l_refused T.F_l_refused.kp T.b_l_refused .nil pass0 (pa_cons (pv 0) (pa_cons (pe_ix (ix_tupK (K := K) rfl) (pv 1) pe_int (fun _ _ => rfl)) (pa_cons (pv 2) pa_nil))))))) (fun _ _ _ _ _ => pv 0)) (pe_lst pa_nil) (nomark _)) (pw_or1 (pt_cmpR (op_ne.or ((op_neD hr.units).or ((op_neT hr.units).or (op_neK0 hr.units)))) (pv 5) (pv 6) (nomark _))))) (pss_one (ps_ret pe_bl)) pss_nil)
    (@pss_cons _ _ _ _ _ (ps_set (i := 7) sc_law.nd rfl (Or.inl rfl) (pe_call G_l_walked hr rfl T.m_l_walked T.F_l_walked.kp T.b_l_walked .nil pass0 (pa_cons (pv 3) (pa_cons (pv 2) pa_nil))))
    (@pss_cons _ _ _ _ _ (ps_set (i := 8) sc_law.nd rfl (Or.inl rfl) (pe_op op_rep (pe_lst (pa_cons (pe_tup (pa_cons pe_int (pa_cons pe_int (pa_cons pe_int (pa_cons pe_int pa_nil))))) pa_nil)) pe_int))
    (@pss_cons _ _ _ _ _ (ps_if (pt_cmpR (op_neL hr.units0) (pe_call G_fill_sizes hr rfl T.m_fill_sizes T.F_fill_sizes.kp T.b_fill_sizes .nil pass0 (pa_cons (pv 3) (pa_cons (pv 8) pa_nil))) (pe_ix ix_tup (pe_call G_l_walked hr rfl T.m_l_walked T.F_l_walked.kp T.b_l_walked .nil pass0 (pa_cons (pv 3) (pa_cons (pv 8) pa_nil))) pe_int (fun _ _ => rfl)) (nomark _)) (pss_one (ps_ret pe_bl)) pss_nil)
    (pss_one (ps_ret (pe_and (pe_cmpR (op_eqD hr.units) (pe_call G_fill_rounds hr rfl T.m_fill_rounds T.F_fill_rounds.kp T.b_fill_rounds .nil pass0 (pa_cons (pv 3) (pa_cons (pv 2) pa_nil))) (pe_ix ix_tup (pv 7) pe_int (fun _ _ => rfl)) (nomark _)) (pe_one (pe_cmpR (op_eqL hr.units0) (pe_call G_fill_sizes hr rfl T.m_fill_sizes T.F_fill_sizes.kp T.b_fill_sizes .nil pass0 (pa_cons (pv 3) (pa_cons (pv 2) pa_nil))) (pe_ix ix_tup (pv 7) pe_int (fun _ _ => rfl)) (nomark _)))))))))))))))), ?_⟩
  refine ⟨_, rfl, a, ns, 0, rfl, hS, hn, by decide, fun c0 => ⟨_, _, rfl, rfl, (by show (0:Int) < 2147483646; decide), _, _, rfl, rfl, small (by simp), fun st hst => ?_⟩⟩
  have hSt := St.mk' (H := H) (st := st) c0
  have s1 : Same H (upd H st (.lst [.int (1 + c0 % 2147483646)])) := same_upd hst _
  have hast : Off K a st (ns.map V.int) := .of hS hst
  have nT : A.cT ≠ st := fun z => by rw [z, hst] at hT; cases hT
  generalize upd H st (.lst [.int (1 + c0 % 2147483646)]) = H1 at hSt s1 ⊢
  have hS1 := s1.seq hS
  have hT1 := s1 _ _ hT
  -- the parts
  refine ⟨_, rfl, st, 0, rfl, hSt, fun r2 H2 b2 b2' m2 f2 => ⟨_, _, rfl, rfl, (by show (0:Int) < 6; decide), r2 % 6, rfl, by (first | lia | omega), by (first | lia | omega), blk_rng (n := (r2 % 6).toNat) (fun i acc H' => ∃ pa : PA, acc = (pa.map fun x => V.ref x.2) ∧ Ms st H1 H' ∧ pa.length = i ∧ i ≤ 5 ∧ ∀ x ∈ pa, x.2 ≠ st ∧ H' x.2 = some (.tup (ptV x.1)) ∧ GoodPt x.1) ⟨[], rfl, m2, rfl, by (first | lia | omega), fun x hx => (nomatch hx)⟩ (fun i acc H' h => ?_) ?_ ?_⟩⟩
  · obtain ⟨pa, rfl, _, hl, hi, _⟩ := h
    rw [List.length_map]; exact small1000 (by (first | lia | omega))
  · rintro i acc H' R k hi ⟨pa, rfl, M, hl, _, hpa⟩
    unfold tYes
    dsimp only
    rw [if_pos rfl]
    refine ⟨_, rfl, _, rfl, _, rfl, _, _, rfl, rfl, a, ns, _, rfl, M.seq hast hS1, hn, by (first | lia | omega), fun c => ⟨st, c, 0, rfl, M.st, by decide, by decide, fun t p H5 m5 f5 e5 g5 => ?_⟩⟩
    have np : t ≠ st := fun z => by obtain ⟨y, e', _⟩ := M.st; rw [z, e'] at f5; cases f5
    refine k _ _ ⟨pa ++ [(p, t)], by rw [List.map_append]; rfl, M.trans m5, by rw [List.length_append, hl]; rfl, by (first | lia | omega), fun x hx => ?_⟩
    rcases List.mem_append.mp hx with h | h
    · obtain ⟨n, e, g⟩ := hpa x h
      exact ⟨n, m5.keep _ _ n e, g⟩
    · rw [List.mem_singleton.mp h]; exact ⟨np, e5, g5⟩
  · rintro acc H3 ⟨pa, rfl, M3, hl3, hl5, hpa⟩
    intro p hpn
    have M4 := M3.new (.lst (pa.map fun x => V.ref x.2)) hpn
    have nps : p ≠ st := M3.st.ne hpn
    have hp4 : upd H3 p (.lst (pa.map fun x => V.ref x.2)) p = some (.lst (pa.map fun x => V.ref x.2)) := upd_same
    have hpa4 : ∀ x ∈ pa, x.2 ≠ st ∧ upd H3 p (.lst (pa.map fun x => V.ref x.2)) x.2 = some (.tup (ptV x.1)) ∧ GoodPt x.1 := fun x hx => let ⟨n, e, g⟩ := hpa x hx; ⟨n, same_upd hpn _ _ _ e, g⟩
    generalize upd H3 p (.lst (pa.map fun x => V.ref x.2)) = H4 at M4 hp4 hpa4 ⊢
    refine ⟨_, rfl, _, rfl, a, ns, 1, rfl, M4.seq hast hS1, hn, by decide, fun c1 => ⟨st, c1, rfl, M4.st, fun r5 H5 b5 b5' m5 f5 => ⟨_, _, rfl, rfl, (by show (0:Int) < 60; decide), ?_⟩⟩⟩
    have t0 : 0 ≤ r5 % 60 := by (first | lia | omega)
    have t1 : r5 % 60 < 60 := by (first | lia | omega)
    have t140 : r5 % 60 < 2 ^ 140 := Int.lt_trans t1 (by decide)
    have hp5 := m5.keep _ _ nps hp4
    have hpa5 : ∀ x ∈ pa, x.2 ≠ st ∧ H5 x.2 = some (.tup (ptV x.1)) ∧ GoodPt x.1 := fun x hx => let ⟨n, e, g⟩ := hpa4 x hx; ⟨n, m5.keep _ _ n e, g⟩
    have g : GoodPa pa := ⟨by (first | lia | omega), fun x hx => (hpa x hx).2.2⟩
    refine ⟨_, rfl, _, rfl, _, rfl, r5 % 60, p, st, pa, rfl, t0, hp5, hpa5, by (first | lia | omega), nps, m5.st, fun tp v u H6 m6 ntp etp fv sv => ?_⟩
    have M6 : Ms st H1 H6 := (M4.trans m5).trans m6
    have hp6 := m6.keep _ _ nps hp5
    have hpa6 : ∀ x ∈ pa, x.2 ≠ st ∧ H6 x.2 = some (.tup (ptV x.1)) := fun x hx => let ⟨n, e, g⟩ := hpa5 x hx; ⟨n, m6.keep _ _ n e⟩
    have hT6 : H6 A.cT = some (.tbl #[]) := M6.keep _ _ nT hT1
    refine ⟨_, rfl, tp, _, 1, u, rfl, rfl, .of etp, rfl, ?_⟩
    dsimp only [gName]
    show tSeq _ _ _ _ _
    refine seq_join (fun σ H' => ∃ u', σ = [some (.ref a), some (.ref st), some (.ref p), some (.int (r5 % 60)), some (.ref tp), some u', none, none, none] ∧ Ms st H6 H' ∧ SV K st H' v u') (fun N hN => ?_) ?_
    · cases sv with
      | @lst p' its hp np f b =>
        refine ⟨_, rfl, _, "list", _, _, rfl, .lst hp, (Is.lst hp).kit T.kit "list", _, rfl, iteT ⟨_, rfl, st, 0, rfl, m6.st, fun r7 H7 b7 b7' m7 f7 => ⟨_, _, rfl, rfl, (by show (0:Int) < 2; decide), rfl, _, rfl, ite2 (fun c => ?_) (fun c => ?_)⟩⟩⟩
        · refine ⟨_, rfl, p', _, rfl, .inl ⟨.of (m7.keep _ _ np hp), fun l hl => hN _ _ ⟨_, rfl, m7.new _ hl, ?_⟩⟩⟩
          exact .tup upd_same (m7.st.ne hl) (fun x hx => (f x hx).ms (m7.new _ hl)) b
        · exact hN _ _ ⟨_, rfl, m7, (SV.lst hp np f b).ms m7⟩
      | @tup p' its hp np f b => exact ⟨_, rfl, _, "list", _, _, rfl, .tup hp, (Is.tup hp).kit T.kit "list", _, rfl, iteF (iteF (hN _ _ ⟨_, rfl, .of m6.st (.refl _), .tup hp np f b⟩))⟩
      | non t => exact ⟨_, rfl, _, "list", _, _, rfl, .non, kit_of T.kit (S := "NoneType") (T := "list") rfl rfl, _, rfl, iteF (iteF (hN _ _ ⟨_, rfl, .of m6.st (.refl _), .non t⟩))⟩
      | @dic p' t hp np => exact ⟨_, rfl, _, "list", _, _, rfl, .dK hp, (Is.dK hp).kit T.kit "list", _, rfl, iteF (iteF (hN _ _ ⟨_, rfl, .of m6.st (.refl _), .dic t hp np⟩))⟩
    · rintro σ H7 ⟨u', rfl, M7, sv7⟩
      have hp7 := M7.keep _ _ nps hp6
      have hpa7 : ∀ x ∈ pa, H7 x.2 = some (.tup (ptV x.1)) := fun x hx => let ⟨n, e⟩ := hpa6 x hx; M7.keep _ _ n e
      have hT7 := M7.keep _ _ nT hT6
      have etp7 := M7.keep _ _ ntp etp
      have st7 := M7.st
      have step : ∀ (D : V → Hp → Prop), (∀ c H8, Same H7 H8 → SC H8 u' c → D c H8) →
          (tIf (tB (tCB (fun xs H Q => ∃ x T t b, xs = [x, .ty T] ∧ TyOf K H x t ∧ PySem.W.kitOne K t (.type T) = some b ∧ Q (.bl b) H) (tCons (tVar 5) (tCons (tC (.ty "list")) tNil))))
            (tCB (fun xs H Q => ∃ p ys, xs = [.ref p] ∧ (SqL K H p ys ∨ SqT K H p ys) ∧ ∀ l, H l = none → Q (.ref l) (upd H l (.lst ys))) (tCons (tVar 5) tNil)) (tVar 5))
            [some (.ref a), some (.ref st), some (.ref p), some (.int (r5 % 60)), some (.ref tp), some u', none, none, none] H7 D := by
        intro D k
        cases sv7 with
        | @lst p' its hp np f b =>
          refine ⟨_, rfl, _, "list", _, _, rfl, .lst hp, (Is.lst hp).kit T.kit "list", _, rfl, iteT ⟨_, rfl, p', _, rfl, .inl (.of hp), fun m hm => ?_⟩⟩
          exact k _ _ (same_upd hm _) (.lst (same_upd hm _ _ _ hp) upd_same (its_val f))
        | @tup p' its hp np f b => exact ⟨_, rfl, _, "list", _, _, rfl, .tup hp, (Is.tup hp).kit T.kit "list", _, rfl, iteF ⟨_, rfl, k _ _ (.refl _) (.tup hp (its_val f))⟩⟩
        | non t => exact ⟨_, rfl, _, "list", _, _, rfl, .non, kit_of T.kit (S := "NoneType") (T := "list") rfl rfl, _, rfl, iteF ⟨_, rfl, k _ _ (.refl _) .non⟩⟩
        | @dic p' t hp np => exact ⟨_, rfl, _, "list", _, _, rfl, .dK hp, (Is.dK hp).kit T.kit "list", _, rfl, iteF ⟨_, rfl, k _ _ (.refl _) (.dic hp)⟩⟩
      refine step _ fun c H8 s8 sc8 => ?_
      -- refused
      refine ⟨3, rfl, by (first | lia | omega), by (first | lia | omega), blk_rng (n := 3) (fun i acc H' => acc = [] ∧ Same H8 H') ⟨rfl, .refl _⟩ (fun i acc H' h => by rw [h.1]; decide) ?_ ?_⟩
      · rintro i acc H' R k hi ⟨rfl, s'⟩
        refine ⟨_, rfl, _, rfl, tp, _, 0, v, rfl, rfl, .of (s' _ _ (s8 _ _ etp7)), rfl, _, rfl, 0 + (i : Int), v, u', rfl, fun H9 s9 => (sv7.ms (.of st7 (s8.trans (s'.trans s9)))).bad fv, fun H9 s9 => ⟨_, rfl, iteF (k _ _ ⟨rfl, s'.trans s9⟩)⟩⟩
      · rintro acc H9 ⟨rfl, s9⟩
        intro l1 hl1
        refine ⟨(by show 0 ≤ sizeLine; decide), fun l2 hl2 => ⟨l1, l2, [], [], rfl, rfl, .of (same_upd hl2 _ _ _ upd_same), .of upd_same, flat_ints [], flat_ints [], _, rfl, iteF ?_⟩⟩
        have s89 := s9.trans ((same_upd hl1 (.lst [])).trans (same_upd hl2 (.lst [])))
        generalize upd (upd H9 l1 (.lst [])) l2 (.lst []) = H10 at s89 ⊢
        have sc10 := sc8.same s89
        have cmp : ∀ Q : VK, Q (.bl false) H10 → (rNe u' c H10 Q ∨ rEqD K true u' c H10 Q ∨ rNeT K u' c H10 Q ∨ rNeK0 u' c H10 Q) := by
          intro Q k
          cases sc10 with
          | @lst p m xs hp hm f =>
            refine .inr (.inl ⟨p, m, xs, xs, 1, fun _ => true, rfl, rfl, .of hp, .of hm, by (first | lia | omega), .inl ⟨rfl, fun i hi => deq_any f i, ?_⟩⟩)
            rw [if_pos rfl, allT]; exact k
          | @tup p xs hp f =>
            refine .inr (.inr (.inl ⟨p, p, xs, xs, 1, fun _ => true, rfl, rfl, .of hp, .of hp, by (first | lia | omega), rfl, fun i hi => deq_any f i, ?_⟩))
            rw [allT]; exact k
          | non => exact .inl ⟨rfl, k⟩
          | @dic p hp => exact .inr (.inr (.inr ⟨p, rfl, rfl, hp, k⟩))
        refine ⟨_, rfl, _, rfl, cmp _ ⟨_, rfl, iteF ?_⟩⟩
        have s710 := s8.trans s89
        have hp10 := s710 _ _ hp7
        have hT10 := s710 _ _ hT7
        have hP10 : PartsAt H10 p pa := ⟨.inl hp10, fun x hx => s710 _ _ (hpa7 x hx)⟩
        -- walked
        refine ⟨_, rfl, _, rfl, r5 % 60, p, pa, rfl, hP10, hp10, g, t0, t140, fun tl dl zl da sz H11 s11 et Fd hda frd ez fz nzd nza => ?_⟩
        have hP11 := hP10.same s11
        have hp11 := s11 _ _ hp10
        have hT11 := s11 _ _ hT10
        -- sixty
        refine ⟨(by show 4 ≤ sizeLine; decide), fun a6 ha6 => ⟨(by show 1 ≤ sizeLine; decide), fun l4 hl4 => ⟨l4, 60, _, rfl, rfl, upd_same, by decide, by decide, Nat.le_of_lt (small1000 (by show 1 * 60 ≤ 1000; decide)), fun l5 hl5 => ?_⟩⟩⟩
        have e60 : (List.replicate (60 : Int).toNat [V.ref a6]).flatten = (List.replicate 60 ((⟨0, 0, 2, 1⟩, a6) : Pt × Addr)).map fun x => V.ref x.2 := by
          rw [List.flatten_replicate_singleton, List.map_replicate]; rfl
        rw [e60]
        have u1 := same_upd ha6 (.tup [.int 0, .int 0, .int 2, .int 1])
        have u2 := same_upd hl4 (.lst [.ref a6])
        have u3 := same_upd hl5 (.lst ((List.replicate 60 ((⟨0, 0, 2, 1⟩, a6) : Pt × Addr)).map fun x => V.ref x.2))
        have s12 := u1.trans (u2.trans u3)
        have ea := (u2.trans u3) _ _ (upd_same (H := H11) (a := a6) (o := .tup [.int 0, .int 0, .int 2, .int 1]))
        have e5 : upd (upd (upd H11 a6 (.tup [.int 0, .int 0, .int 2, .int 1])) l4 (.lst [.ref a6])) l5 (.lst ((List.replicate 60 ((⟨0, 0, 2, 1⟩, a6) : Pt × Addr)).map fun x => V.ref x.2)) l5 = some (.lst ((List.replicate 60 ((⟨0, 0, 2, 1⟩, a6) : Pt × Addr)).map fun x => V.ref x.2)) := upd_same
        generalize upd (upd (upd H11 a6 (.tup [.int 0, .int 0, .int 2, .int 1])) l4 (.lst [.ref a6])) l5 (.lst ((List.replicate 60 ((⟨0, 0, 2, 1⟩, a6) : Pt × Addr)).map fun x => V.ref x.2)) = H12 at s12 ea e5 ⊢
        have B12 : Tb A.cT lpos lqual H12 := ⟨_, s12 _ _ hT11, .inl rfl⟩
        have hP60 : PartsAt H12 l5 (List.replicate 60 (⟨0, 0, 2, 1⟩, a6)) := ⟨.inl e5, fun x hx => by rw [List.eq_of_mem_replicate hx]; exact ea⟩
        have g60 : GoodPa (List.replicate 60 (⟨0, 0, 2, 1⟩, a6)) := ⟨by rw [List.length_replicate]; (first | lia | omega), fun x hx => by rw [List.eq_of_mem_replicate hx]; exact gp2⟩
        refine ⟨_, rfl, _, rfl, r5 % 60, l5, _, rfl, hP60, g60, t0, t140, B12, fun gl rows8 sz8 H13 m13 F8 fg8 eg8 => ?_⟩
        have B13 := m13.tb B12
        have e513 := m13.all _ _ (B12.ne e5) e5
        refine ⟨_, rfl, _, rfl, r5 % 60, l5, _, rfl, hP60.sm B12 m13, e513, g60, t0, t140, fun tl2 dl2 zl2 da2 sz2 H14 s14 et2 F2 hda2 frd2 ez2 fz2 nzd2 nza2 => ?_⟩
        obtain ⟨_, es8⟩ := F8.uniq F2
        subst es8
        refine ⟨tl2, _, 1, _, rfl, rfl, .of et2, rfl, gl, zl2, _, _, rfl, rfl, .of (s14 _ _ eg8), .of ez2, flat_ints _, flat_ints _, _, rfl, ?_⟩
        rw [eqVs_self]
        refine iteF ?_
        have m1114 : Sm A.cT lpos lqual H11 H14 := s12.sm.trans (m13.trans s14.sm)
        have B11 : Tb A.cT lpos lqual H11 := ⟨_, hT11, .inl rfl⟩
        have B14 := m1114.tb B11
        have hP14 := hP11.sm B11 m1114
        have et14 := m1114.all _ _ (B11.neT et) et
        have hda14 := hda.sm B11 m1114
        have ez14 := m1114.all _ _ (B11.ne ez) ez
        -- the good ones
        refine ⟨_, rfl, _, rfl, r5 % 60, p, pa, rfl, hP14, g, t0, t140, B14, fun fl ra sz' H15 m15 F7 hra15 fr7 => ?_⟩
        obtain ⟨er7, es7⟩ := F7.uniq Fd
        have B15 := m15.tb B14
        have hda15 := hda14.sm B14 m15
        have et15 := m15.all _ _ (B14.neT et14) et14
        have ez15 := m15.all _ _ (B14.ne ez14) ez14
        have hral : ra.length = da.length := by have := congrArg List.length er7; simpa using this
        refine ⟨_, rfl, tl, _, 0, _, rfl, rfl, .of et15, rfl, fl, dl, _, _, 1, fun _ => true, rfl, rfl, .of hra15.lst, .of hda15.lst, by decide, .inl ⟨by rw [List.length_map, List.length_map]; exact hral, rows_deq hra15 hda15 er7, _, rfl, iteEqD ?_⟩⟩
        refine ⟨_, rfl, _, rfl, r5 % 60, p, pa, rfl, hP14.sm B14 m15, g, t0, t140, B15, fun gl3 rows3 sz3 H16 m16 F3 fg3 eg3 => ?_⟩
        obtain ⟨_, es3⟩ := F3.uniq Fd
        subst es3
        refine ⟨_, rfl, tl, _, 1, _, rfl, rfl, .of (m16.all _ _ (B15.neT et15) et15), rfl, gl3, zl, _, _, rfl, rfl, .of eg3, .of (m16.all _ _ (B15.ne ez15) ez15), flat_ints _, flat_ints _, ?_⟩
        rw [eqVs_self]
        exact q _
end
end KP

set_option linter.all false
set_option maxHeartbeats 4000000
set_option maxRecDepth 100000
namespace L2
open PySem PySem.Spec PyProof.Rows
/-- walk_of, for a text one of whose defs makes a lambda -/
theorem walkT {l : PySem.W.OpenLaw} {n k : Nat} {q : Program} {loose : List Str} {XP : (Str → Option Value) → Heap → Prop} {YP : World → Heap → Prop} {d : DefRec} {K : Params → PySem.W.Frag} {CX : CXT} {sp : PySem.W.Frag → Addr → Sp} {x : Str} {cT : Addr}
    (hn : l.most = some n) (hn2 : n ≤ sizeLine) (hdf : d.params.defaults = []) (hr : Room k callerA)
    (hY : ∀ (w : World) (h : Heap), YP w h → (K w.params).In h ∧ h.get? cT = some (PySem.W.tabObj #[]))
    (hKT : ∀ P : Params, (K P).lookup cT = none) 
    (F : ∀ (w : World) (mg : Str → Option Value) (fa : Addr) (h : Heap), (K w.params).In h → h.Ns mainGlobals mg → mg d.name = some (.ref fa) →
      ∃ cC, PySem.W.codeHdIn (K w.params) cC cT = true ∧ ∃ fd : FuncData, (∀ (s : Shared) (u : Value), BindsTo s fd ⟨[u], []⟩ [(x, u)]) ∧
        ∀ base : Heap, (K w.params).In base → base.Ns mainGlobals mg → PySem.W.CodeHd base cC cT → base.BuiltinsAt mg cT → FnOk l.prog w (K w.params) mg base CX k fa fd [x] (sp (K w.params) cT))
    (hsp : ∀ (K : PySem.W.Frag) (H : Hp) (a : Addr) (ns : List Int), ns.length ≤ n → a ≠ cT → H cT = some (.tbl #[]) → SqL K H a (ns.map V.int) → sp K cT [.ref a] H (fun v _ => v = .bl true) fun _ _ _ => False)
    (hCX : ∀ (H : Hp) (s : Shared) (e : Value) (s' : Shared), CX [] H s (fun _ _ _ => False) e s' → False) :
    PySem.W.WalkO q loose XP YP l.row.toRowW d [] (fun f vs => PySem.call f vs) := by
  refine Att.attach_call hn hdf fun w s₀ s₁ mg mb fa o pm cd doc a vs ns G Y ho hd hcd hmg hobj hints hlen hg => ?_
  obtain ⟨KX, hT⟩ := hY w _ Y
  obtain ⟨cC, hCd, fd, hb, hF⟩ := F w mg fa _ KX G.T.g hmg
  have hC := PySem.W.codeHd_of_K KX hCd
  have hB : s₁.heap.BuiltinsAt mg cT := by
    obtain ⟨bm, ob, b1, b2, b3, b4, b5, b6⟩ := G.T.bmain
    have hbP : bm ≠ cT := fun q => by rw [q, hT] at b3; cases b3; cases b4
    have hbG : bm ≠ mainGlobals := fun q => by
      obtain ⟨o, es, ep, e, hd, _⟩ := G.T.g
      rw [q, e] at b3; cases b3; rw [hd] at b6; cases b6
    exact ⟨bm, ob, b1, b2, hbG, hbP, b3, b4, b5, b6⟩
  exact law_callT KX G.T.g G.T.b G.T.builtins G.T.nolimit hg hC hT (hKT _) hB hobj hints (Nat.le_trans hlen hn2) hr hF hb (fun H n1 n2 n3 => hsp _ H a ns hlen n1 n2 n3) fun H e s' => hCX H s₁ e s'
end L2

set_option Elab.async false
set_option linter.all false
set_option maxHeartbeats 4000000
set_option maxRecDepth 100000
namespace KP
open PySem L2 PyProof.Rows
theorem len1 {α : Type} {p : List α → Prop} (h : ∀ a, p [a]) (us : List α) (e : us.length = 1) : p us := match us, e with | [_], _ => h _
theorem len2 {α : Type} {p : List α → Prop} (h : ∀ a b, p [a, b]) (us : List α) (e : us.length = 2) : p us := match us, e with | [_, _], _ => h _ _
theorem len3 {α : Type} {p : List α → Prop} (h : ∀ a b c, p [a, b, c]) (us : List α) (e : us.length = 3) : p us := match us, e with | [_, _, _], _ => h _ _ _
theorem len4 {α : Type} {p : List α → Prop} (h : ∀ a b c d, p [a, b, c, d]) (us : List α) (e : us.length = 4) : p us := match us, e with | [_, _, _, _], _ => h _ _ _ _
theorem txt_mk {K : PySem.W.Frag} {h : Heap} {mg : Str → Option Value} (X : K.In h) (G : h.Ns mainGlobals mg) (cT : Addr) {cC : Addr}
    {f1 : Addr} {od1 an1 : Option Addr} {sl1 : Array (Option Value)} {oc1 kV1 dc1 pm1 cd1 ct1 : Value}
    {f2 : Addr} {od2 an2 : Option Addr} {sl2 : Array (Option Value)} {oc2 kV2 dc2 pm2 cd2 ct2 : Value}
    {f3 : Addr} {od3 an3 : Option Addr} {sl3 : Array (Option Value)} {oc3 kV3 dc3 pm3 cd3 ct3 : Value}
    {f4 : Addr} {od4 an4 : Option Addr} {sl4 : Array (Option Value)} {oc4 kV4 dc4 pm4 cd4 ct4 : Value}
    {f5 : Addr} {od5 an5 : Option Addr} {sl5 : Array (Option Value)} {oc5 kV5 dc5 pm5 cd5 ct5 : Value}
    {f6 : Addr} {od6 an6 : Option Addr} {sl6 : Array (Option Value)} {oc6 kV6 dc6 pm6 cd6 ct6 : Value}
    {f7 : Addr} {od7 an7 : Option Addr} {sl7 : Array (Option Value)} {oc7 kV7 dc7 pm7 cd7 ct7 : Value}
    {f8 : Addr} {od8 an8 : Option Addr} {sl8 : Array (Option Value)} {oc8 kV8 dc8 pm8 cd8 ct8 : Value}
    {f9 : Addr} {od9 an9 : Option Addr} {sl9 : Array (Option Value)} {oc9 kV9 dc9 pm9 cd9 ct9 : Value}
    {f10 : Addr} {od10 an10 : Option Addr} {sl10 : Array (Option Value)} {oc10 kV10 dc10 pm10 cd10 ct10 : Value}
    {f11 : Addr} {od11 an11 : Option Addr} {sl11 : Array (Option Value)} {oc11 kV11 dc11 pm11 cd11 ct11 : Value}
    {f12 : Addr} {od12 an12 : Option Addr} {sl12 : Array (Option Value)} {oc12 kV12 dc12 pm12 cd12 ct12 : Value}
    {f13 : Addr} {od13 an13 : Option Addr} {sl13 : Array (Option Value)} {oc13 kV13 dc13 pm13 cd13 ct13 : Value}
    {f14 : Addr} {od14 an14 : Option Addr} {sl14 : Array (Option Value)} {oc14 kV14 dc14 pm14 cd14 ct14 : Value}
    {f15 : Addr} {od15 an15 : Option Addr} {sl15 : Array (Option Value)} {oc15 kV15 dc15 pm15 cd15 ct15 : Value}
    {f16 : Addr} {od16 an16 : Option Addr} {sl16 : Array (Option Value)} {oc16 kV16 dc16 pm16 cd16 ct16 : Value}
    {f17 : Addr} {od17 an17 : Option Addr} {sl17 : Array (Option Value)} {oc17 kV17 dc17 pm17 cd17 ct17 : Value}
    {f18 : Addr} {od18 an18 : Option Addr} {sl18 : Array (Option Value)} {oc18 kV18 dc18 pm18 cd18 ct18 : Value}
    {f19 : Addr} {od19 an19 : Option Addr} {sl19 : Array (Option Value)} {oc19 kV19 dc19 pm19 cd19 ct19 : Value}
    {f20 : Addr} {od20 an20 : Option Addr} {sl20 : Array (Option Value)} {oc20 kV20 dc20 pm20 cd20 ct20 : Value}
    {f21 : Addr} {od21 an21 : Option Addr} {sl21 : Array (Option Value)} {oc21 kV21 dc21 pm21 cd21 ct21 : Value}
    {f22 : Addr} {od22 an22 : Option Addr} {sl22 : Array (Option Value)} {oc22 kV22 dc22 pm22 cd22 ct22 : Value}
    {f23 : Addr} {od23 an23 : Option Addr} {sl23 : Array (Option Value)} {oc23 kV23 dc23 pm23 cd23 ct23 : Value}
    {f24 : Addr} {od24 an24 : Option Addr} {sl24 : Array (Option Value)} {oc24 kV24 dc24 pm24 cd24 ct24 : Value}
    {f25 : Addr} {od25 an25 : Option Addr} {sl25 : Array (Option Value)} {oc25 kV25 dc25 pm25 cd25 ct25 : Value}
    {f26 : Addr} {od26 an26 : Option Addr} {sl26 : Array (Option Value)} {oc26 kV26 dc26 pm26 cd26 ct26 : Value}
    {f27 : Addr} {od27 an27 : Option Addr} {sl27 : Array (Option Value)} {oc27 kV27 dc27 pm27 cd27 ct27 : Value}
    {f28 : Addr} {od28 an28 : Option Addr} {sl28 : Array (Option Value)} {oc28 kV28 dc28 pm28 cd28 ct28 : Value}
    {f29 : Addr} {od29 an29 : Option Addr} {sl29 : Array (Option Value)} {oc29 kV29 dc29 pm29 cd29 ct29 : Value}
    {f30 : Addr} {od30 an30 : Option Addr} {sl30 : Array (Option Value)} {oc30 kV30 dc30 pm30 cd30 ct30 : Value}
    {t_MOST_THINGS : Tok}
    {t_MOST_PART : Tok}
    {x_PaneError x_NoShare x_NoBox x_NoText x_NoRule x_NoName x_NoPlace x_NoPage x_NoChange x_NoUndo x_NoRow : Addr}
    (a1 : PySem.W.nsIn K mainGlobals "is_number" = some (some (.ref f1))) (l1 : K.lookup f1 = some ⟨oc1, od1, .func (PySem.W.fnOf "is_number" "is_number" (defArgs s_is_number) (defBody s_is_number) (defScope s_is_number) .none kV1 dc1 pm1 an1 cd1 ct1), sl1⟩) (c1 : PySem.W.codeIn K cd1 "is_number" = true) (k1 : PySem.W.keepIn K (.ref f1) = true)
    (a2 : PySem.W.nsIn K mainGlobals "is_number_list" = some (some (.ref f2))) (l2 : K.lookup f2 = some ⟨oc2, od2, .func (PySem.W.fnOf "is_number_list" "is_number_list" (defArgs s_is_number_list) (defBody s_is_number_list) (defScope s_is_number_list) .none kV2 dc2 pm2 an2 cd2 ct2), sl2⟩) (c2 : PySem.W.codeIn K cd2 "is_number_list" = true) (k2 : PySem.W.keepIn K (.ref f2) = true)
    (a3 : PySem.W.nsIn K mainGlobals "need_total" = some (some (.ref f3))) (l3 : K.lookup f3 = some ⟨oc3, od3, .func (PySem.W.fnOf "need_total" "need_total" (defArgs s_need_total) (defBody s_need_total) (defScope s_need_total) .none kV3 dc3 pm3 an3 cd3 ct3), sl3⟩) (c3 : PySem.W.codeIn K cd3 "need_total" = true) (k3 : PySem.W.keepIn K (.ref f3) = true)
    (a4 : PySem.W.nsIn K mainGlobals "need_few" = some (some (.ref f4))) (l4 : K.lookup f4 = some ⟨oc4, od4, .func (PySem.W.fnOf "need_few" "need_few" (defArgs s_need_few) (defBody s_need_few) (defScope s_need_few) .none kV4 dc4 pm4 an4 cd4 ct4), sl4⟩) (c4 : PySem.W.codeIn K cd4 "need_few" = true) (k4 : PySem.W.keepIn K (.ref f4) = true)
    (a5 : PySem.W.nsIn K mainGlobals "need_weights" = some (some (.ref f5))) (l5 : K.lookup f5 = some ⟨oc5, od5, .func (PySem.W.fnOf "need_weights" "need_weights" (defArgs s_need_weights) (defBody s_need_weights) (defScope s_need_weights) .none kV5 dc5 pm5 an5 cd5 ct5), sl5⟩) (c5 : PySem.W.codeIn K cd5 "need_weights" = true) (k5 : PySem.W.keepIn K (.ref f5) = true)
    (a6 : PySem.W.nsIn K mainGlobals "share_out" = some (some (.ref f6))) (l6 : K.lookup f6 = some ⟨oc6, od6, .func (PySem.W.fnOf "share_out" "share_out" (defArgs s_share_out) (defBody s_share_out) (defScope s_share_out) .none kV6 dc6 pm6 an6 cd6 ct6), sl6⟩) (c6 : PySem.W.codeIn K cd6 "share_out" = true) (k6 : PySem.W.keepIn K (.ref f6) = true)
    (a7 : PySem.W.nsIn K mainGlobals "is_part" = some (some (.ref f7))) (l7 : K.lookup f7 = some ⟨oc7, od7, .func (PySem.W.fnOf "is_part" "is_part" (defArgs s_is_part) (defBody s_is_part) (defScope s_is_part) .none kV7 dc7 pm7 an7 cd7 ct7), sl7⟩) (c7 : PySem.W.codeIn K cd7 "is_part" = true) (k7 : PySem.W.keepIn K (.ref f7) = true)
    (a8 : PySem.W.nsIn K mainGlobals "need_parts" = some (some (.ref f8))) (l8 : K.lookup f8 = some ⟨oc8, od8, .func (PySem.W.fnOf "need_parts" "need_parts" (defArgs s_need_parts) (defBody s_need_parts) (defScope s_need_parts) .none kV8 dc8 pm8 an8 cd8 ct8), sl8⟩) (c8 : PySem.W.codeIn K cd8 "need_parts" = true) (k8 : PySem.W.keepIn K (.ref f8) = true)
    (a9 : PySem.W.nsIn K mainGlobals "begins_of" = some (some (.ref f9))) (l9 : K.lookup f9 = some ⟨oc9, od9, .func (PySem.W.fnOf "begins_of" "begins_of" (defArgs s_begins_of) (defBody s_begins_of) (defScope s_begins_of) .none kV9 dc9 pm9 an9 cd9 ct9), sl9⟩) (c9 : PySem.W.codeIn K cd9 "begins_of" = true) (k9 : PySem.W.keepIn K (.ref f9) = true)
    (a10 : PySem.W.nsIn K mainGlobals "given_once" = some (some (.ref f10))) (l10 : K.lookup f10 = some ⟨oc10, od10, .func (PySem.W.fnOf "given_once" "given_once" (defArgs s_given_once) (defBody s_given_once) (defScope s_given_once) .none kV10 dc10 pm10 an10 cd10 ct10), sl10⟩) (c10 : PySem.W.codeIn K cd10 "given_once" = true) (k10 : PySem.W.keepIn K (.ref f10) = true)
    (a11 : PySem.W.nsIn K mainGlobals "given_rounds" = some (some (.ref f11))) (l11 : K.lookup f11 = some ⟨oc11, od11, .func (PySem.W.fnOf "given_rounds" "given_rounds" (defArgs s_given_rounds) (defBody s_given_rounds) (defScope s_given_rounds) .none kV11 dc11 pm11 an11 cd11 ct11), sl11⟩) (c11 : PySem.W.codeIn K cd11 "given_rounds" = true) (k11 : PySem.W.keepIn K (.ref f11) = true)
    (a12 : PySem.W.nsIn K mainGlobals "taken_rounds" = some (some (.ref f12))) (l12 : K.lookup f12 = some ⟨oc12, od12, .func (PySem.W.fnOf "taken_rounds" "taken_rounds" (defArgs s_taken_rounds) (defBody s_taken_rounds) (defScope s_taken_rounds) .none kV12 dc12 pm12 an12 cd12 ct12), sl12⟩) (c12 : PySem.W.codeIn K cd12 "taken_rounds" = true) (k12 : PySem.W.keepIn K (.ref f12) = true)
    (a13 : PySem.W.nsIn K mainGlobals "rounds_till" = some (some (.ref f13))) (l13 : K.lookup f13 = some ⟨oc13, od13, .func (PySem.W.fnOf "rounds_till" "rounds_till" (defArgs s_rounds_till) (defBody s_rounds_till) (defScope s_rounds_till) .none kV13 dc13 pm13 an13 cd13 ct13), sl13⟩) (c13 : PySem.W.codeIn K cd13 "rounds_till" = true) (k13 : PySem.W.keepIn K (.ref f13) = true)
    (a14 : PySem.W.nsIn K mainGlobals "fill_rounds" = some (some (.ref f14))) (l14 : K.lookup f14 = some ⟨oc14, od14, .func (PySem.W.fnOf "fill_rounds" "fill_rounds" (defArgs s_fill_rounds) (defBody s_fill_rounds) (defScope s_fill_rounds) .none kV14 dc14 pm14 an14 cd14 ct14), sl14⟩) (c14 : PySem.W.codeIn K cd14 "fill_rounds" = true) (k14 : PySem.W.keepIn K (.ref f14) = true)
    (a15 : PySem.W.nsIn K mainGlobals "sizes_behind" = some (some (.ref f15))) (l15 : K.lookup f15 = some ⟨oc15, od15, .func (PySem.W.fnOf "sizes_behind" "sizes_behind" (defArgs s_sizes_behind) (defBody s_sizes_behind) (defScope s_sizes_behind) .none kV15 dc15 pm15 an15 cd15 ct15), sl15⟩) (c15 : PySem.W.codeIn K cd15 "sizes_behind" = true) (k15 : PySem.W.keepIn K (.ref f15) = true)
    (a16 : PySem.W.nsIn K mainGlobals "fill_sizes" = some (some (.ref f16))) (l16 : K.lookup f16 = some ⟨oc16, od16, .func (PySem.W.fnOf "fill_sizes" "fill_sizes" (defArgs s_fill_sizes) (defBody s_fill_sizes) (defScope s_fill_sizes) .none kV16 dc16 pm16 an16 cd16 ct16), sl16⟩) (c16 : PySem.W.codeIn K cd16 "fill_sizes" = true) (k16 : PySem.W.keepIn K (.ref f16) = true)
    (a17 : PySem.W.nsIn K mainGlobals "is_row_list" = some (some (.ref f17))) (l17 : K.lookup f17 = some ⟨oc17, od17, .func (PySem.W.fnOf "is_row_list" "is_row_list" (defArgs s_is_row_list) (defBody s_is_row_list) (defScope s_is_row_list) .none kV17 dc17 pm17 an17 cd17 ct17), sl17⟩) (c17 : PySem.W.codeIn K cd17 "is_row_list" = true) (k17 : PySem.W.keepIn K (.ref f17) = true)
    (a18 : PySem.W.nsIn K mainGlobals "is_fill" = some (some (.ref f18))) (l18 : K.lookup f18 = some ⟨oc18, od18, .func (PySem.W.fnOf "is_fill" "is_fill" (defArgs s_is_fill) (defBody s_is_fill) (defScope s_is_fill) .none kV18 dc18 pm18 an18 cd18 ct18), sl18⟩) (c18 : PySem.W.codeIn K cd18 "is_fill" = true) (k18 : PySem.W.keepIn K (.ref f18) = true)
    (a19 : PySem.W.nsIn K mainGlobals "_law_cell_at" = some (some (.ref f19))) (l19 : K.lookup f19 = some ⟨oc19, od19, .func (PySem.W.fnOf "_law_cell_at" "_law_cell_at" (defArgs s_l_cell_at) (defBody s_l_cell_at) (defScope s_l_cell_at) .none kV19 dc19 pm19 an19 cd19 ct19), sl19⟩) (c19 : PySem.W.codeIn K cd19 "_law_cell_at" = true) (k19 : PySem.W.keepIn K (.ref f19) = true)
    (a20 : PySem.W.nsIn K mainGlobals "_law_mix" = some (some (.ref f20))) (l20 : K.lookup f20 = some ⟨oc20, od20, .func (PySem.W.fnOf "_law_mix" "_law_mix" (defArgs s_l_mix) (defBody s_l_mix) (defScope s_l_mix) .none kV20 dc20 pm20 an20 cd20 ct20), sl20⟩) (c20 : PySem.W.codeIn K cd20 "_law_mix" = true) (k20 : PySem.W.keepIn K (.ref f20) = true)
    (a21 : PySem.W.nsIn K mainGlobals "_law_part" = some (some (.ref f21))) (l21 : K.lookup f21 = some ⟨oc21, od21, .func (PySem.W.fnOf "_law_part" "_law_part" (defArgs s_l_part) (defBody s_l_part) (defScope s_l_part) .none kV21 dc21 pm21 an21 cd21 ct21), sl21⟩) (c21 : PySem.W.codeIn K cd21 "_law_part" = true) (k21 : PySem.W.keepIn K (.ref f21) = true)
    (a22 : PySem.W.nsIn K mainGlobals "_law_due" = some (some (.ref f22))) (l22 : K.lookup f22 = some ⟨oc22, od22, .func (PySem.W.fnOf "_law_due" "_law_due" (defArgs s_l_due) (defBody s_l_due) (defScope s_l_due) .none kV22 dc22 pm22 an22 cd22 ct22), sl22⟩) (c22 : PySem.W.codeIn K cd22 "_law_due" = true) (k22 : PySem.W.keepIn K (.ref f22) = true)
    (a23 : PySem.W.nsIn K mainGlobals "_law_step" = some (some (.ref f23))) (l23 : K.lookup f23 = some ⟨oc23, od23, .func (PySem.W.fnOf "_law_step" "_law_step" (defArgs s_l_step) (defBody s_l_step) (defScope s_l_step) .none kV23 dc23 pm23 an23 cd23 ct23), sl23⟩) (c23 : PySem.W.codeIn K cd23 "_law_step" = true) (k23 : PySem.W.keepIn K (.ref f23) = true)
    (a24 : PySem.W.nsIn K mainGlobals "_law_walked" = some (some (.ref f24))) (l24 : K.lookup f24 = some ⟨oc24, od24, .func (PySem.W.fnOf "_law_walked" "_law_walked" (defArgs s_l_walked) (defBody s_l_walked) (defScope s_l_walked) .none kV24 dc24 pm24 an24 cd24 ct24), sl24⟩) (c24 : PySem.W.codeIn K cd24 "_law_walked" = true) (k24 : PySem.W.keepIn K (.ref f24) = true)
    (a25 : PySem.W.nsIn K mainGlobals "_law_alone" = some (some (.ref f25))) (l25 : K.lookup f25 = some ⟨oc25, od25, .func (PySem.W.fnOf "_law_alone" "_law_alone" (defArgs s_l_alone) (defBody s_l_alone) (defScope s_l_alone) .none kV25 dc25 pm25 an25 cd25 ct25), sl25⟩) (c25 : PySem.W.codeIn K cd25 "_law_alone" = true) (k25 : PySem.W.keepIn K (.ref f25) = true)
    (a26 : PySem.W.nsIn K mainGlobals "_law_bad_part" = some (some (.ref f26))) (l26 : K.lookup f26 = some ⟨oc26, od26, .func (PySem.W.fnOf "_law_bad_part" "_law_bad_part" (defArgs s_l_bad_part) (defBody s_l_bad_part) (defScope s_l_bad_part) .none kV26 dc26 pm26 an26 cd26 ct26), sl26⟩) (c26 : PySem.W.codeIn K cd26 "_law_bad_part" = true) (k26 : PySem.W.keepIn K (.ref f26) = true)
    (a27 : PySem.W.nsIn K mainGlobals "_law_wrong" = some (some (.ref f27))) (l27 : K.lookup f27 = some ⟨oc27, od27, .func (PySem.W.fnOf "_law_wrong" "_law_wrong" (defArgs s_l_wrong) (defBody s_l_wrong) (defScope s_l_wrong) .none kV27 dc27 pm27 an27 cd27 ct27), sl27⟩) (c27 : PySem.W.codeIn K cd27 "_law_wrong" = true) (k27 : PySem.W.keepIn K (.ref f27) = true)
    (a28 : PySem.W.nsIn K mainGlobals "_law_asked" = some (some (.ref f28))) (l28 : K.lookup f28 = some ⟨oc28, od28, .func (PySem.W.fnOf "_law_asked" "_law_asked" (defArgs s_l_asked) (defBody s_l_asked) (defScope s_l_asked) .none kV28 dc28 pm28 an28 cd28 ct28), sl28⟩) (c28 : PySem.W.codeIn K cd28 "_law_asked" = true) (k28 : PySem.W.keepIn K (.ref f28) = true)
    (a29 : PySem.W.nsIn K mainGlobals "_law_refused" = some (some (.ref f29))) (l29 : K.lookup f29 = some ⟨oc29, od29, .func (PySem.W.fnOf "_law_refused" "_law_refused" (defArgs s_l_refused) (defBody s_l_refused) (defScope s_l_refused) .none kV29 dc29 pm29 an29 cd29 ct29), sl29⟩) (c29 : PySem.W.codeIn K cd29 "_law_refused" = true) (k29 : PySem.W.keepIn K (.ref f29) = true)
    (a30 : PySem.W.nsIn K mainGlobals "law" = some (some (.ref f30))) (l30 : K.lookup f30 = some ⟨oc30, od30, .func (PySem.W.fnOf "law" "law" (defArgs s_law) (defBody s_law) (defScope s_law) .none kV30 dc30 pm30 an30 cd30 ct30), sl30⟩) (c30 : PySem.W.codeIn K cd30 "law" = true) (k30 : PySem.W.keepIn K (.ref f30) = true)
    (g_MOST_THINGS : PySem.W.nsIn K mainGlobals "MOST_THINGS" = some (some (.int 60 t_MOST_THINGS)))
    (g_MOST_PART : PySem.W.nsIn K mainGlobals "MOST_PART" = some (some (.int 9999 t_MOST_PART)))
    (n_ValueError : PySem.W.nsIn K mainGlobals "ValueError" = some none)
    (n_all : PySem.W.nsIn K mainGlobals "all" = some none)
    (n_bool : PySem.W.nsIn K mainGlobals "bool" = some none)
    (n_int : PySem.W.nsIn K mainGlobals "int" = some none)
    (n_isinstance : PySem.W.nsIn K mainGlobals "isinstance" = some none)
    (n_len : PySem.W.nsIn K mainGlobals "len" = some none)
    (n_list : PySem.W.nsIn K mainGlobals "list" = some none)
    (n_max : PySem.W.nsIn K mainGlobals "max" = some none)
    (n_min : PySem.W.nsIn K mainGlobals "min" = some none)
    (n_range : PySem.W.nsIn K mainGlobals "range" = some none)
    (n_sorted : PySem.W.nsIn K mainGlobals "sorted" = some none)
    (n_sum : PySem.W.nsIn K mainGlobals "sum" = some none)
    (n_tuple : PySem.W.nsIn K mainGlobals "tuple" = some none)
    (n_zip : PySem.W.nsIn K mainGlobals "zip" = some none)
    (y_PaneError : PySem.W.nsIn K mainGlobals "PaneError" = some (some (.ref x_PaneError)))
    (y_NoShare : PySem.W.nsIn K mainGlobals "NoShare" = some (some (.ref x_NoShare)))
    (y_NoBox : PySem.W.nsIn K mainGlobals "NoBox" = some (some (.ref x_NoBox)))
    (y_NoText : PySem.W.nsIn K mainGlobals "NoText" = some (some (.ref x_NoText)))
    (y_NoRule : PySem.W.nsIn K mainGlobals "NoRule" = some (some (.ref x_NoRule)))
    (y_NoName : PySem.W.nsIn K mainGlobals "NoName" = some (some (.ref x_NoName)))
    (y_NoPlace : PySem.W.nsIn K mainGlobals "NoPlace" = some (some (.ref x_NoPlace)))
    (y_NoPage : PySem.W.nsIn K mainGlobals "NoPage" = some (some (.ref x_NoPage)))
    (y_NoChange : PySem.W.nsIn K mainGlobals "NoChange" = some (some (.ref x_NoChange)))
    (y_NoUndo : PySem.W.nsIn K mainGlobals "NoUndo" = some (some (.ref x_NoUndo)))
    (y_NoRow : PySem.W.nsIn K mainGlobals "NoRow" = some (some (.ref x_NoRow)))
    (cls : clsAll K x_PaneError [x_NoShare, x_NoBox, x_NoText, x_NoRule, x_NoName, x_NoPlace, x_NoPage, x_NoChange, x_NoUndo, x_NoRow] = true)
    (hcd : cd6 = .ref cC) (hdi : PySem.W.codeHdIn K cC cT = true)
    (kit : kitAll K = true) :
    ∃ A : Adr, A.cT = cT ∧ PySem.W.codeHdIn K A.cC A.cT = true ∧ (∀ (s : Shared) (u : Value), BindsTo s A.d_law ⟨[u], []⟩ [("_law_script", u)]) ∧ Txt K mg A := by
  have F1 := fun_mk (st := s_is_number) l1 c1 k1
  have b1 := F1.binds (ps := P_is_number) fun _ _ _ _ _ _ => len1 fun _ => rfl
  have F2 := fun_mk (st := s_is_number_list) l2 c2 k2
  have b2 := F2.binds (ps := P_is_number_list) fun _ _ _ _ _ _ => len1 fun _ => rfl
  have F3 := fun_mk (st := s_need_total) l3 c3 k3
  have b3 := F3.binds (ps := P_need_total) fun _ _ _ _ _ _ => len1 fun _ => rfl
  have F4 := fun_mk (st := s_need_few) l4 c4 k4
  have b4 := F4.binds (ps := P_need_few) fun _ _ _ _ _ _ => len1 fun _ => rfl
  have F5 := fun_mk (st := s_need_weights) l5 c5 k5
  have b5 := F5.binds (ps := P_need_weights) fun _ _ _ _ _ _ => len1 fun _ => rfl
  have F6 := fun_mk (st := s_share_out) l6 c6 k6
  have b6 := F6.binds (ps := P_share_out) fun _ _ _ _ _ _ => len2 fun _ _ => rfl
  have F7 := fun_mk (st := s_is_part) l7 c7 k7
  have b7 := F7.binds (ps := P_is_part) fun _ _ _ _ _ _ => len1 fun _ => rfl
  have F8 := fun_mk (st := s_need_parts) l8 c8 k8
  have b8 := F8.binds (ps := P_need_parts) fun _ _ _ _ _ _ => len1 fun _ => rfl
  have F9 := fun_mk (st := s_begins_of) l9 c9 k9
  have b9 := F9.binds (ps := P_begins_of) fun _ _ _ _ _ _ => len1 fun _ => rfl
  have F10 := fun_mk (st := s_given_once) l10 c10 k10
  have b10 := F10.binds (ps := P_given_once) fun _ _ _ _ _ _ => len3 fun _ _ _ => rfl
  have F11 := fun_mk (st := s_given_rounds) l11 c11 k11
  have b11 := F11.binds (ps := P_given_rounds) fun _ _ _ _ _ _ => len2 fun _ _ => rfl
  have F12 := fun_mk (st := s_taken_rounds) l12 c12 k12
  have b12 := F12.binds (ps := P_taken_rounds) fun _ _ _ _ _ _ => len2 fun _ _ => rfl
  have F13 := fun_mk (st := s_rounds_till) l13 c13 k13
  have b13 := F13.binds (ps := P_rounds_till) fun _ _ _ _ _ _ => len2 fun _ _ => rfl
  have F14 := fun_mk (st := s_fill_rounds) l14 c14 k14
  have b14 := F14.binds (ps := P_fill_rounds) fun _ _ _ _ _ _ => len2 fun _ _ => rfl
  have F15 := fun_mk (st := s_sizes_behind) l15 c15 k15
  have b15 := F15.binds (ps := P_sizes_behind) fun _ _ _ _ _ _ => len3 fun _ _ _ => rfl
  have F16 := fun_mk (st := s_fill_sizes) l16 c16 k16
  have b16 := F16.binds (ps := P_fill_sizes) fun _ _ _ _ _ _ => len2 fun _ _ => rfl
  have F17 := fun_mk (st := s_is_row_list) l17 c17 k17
  have b17 := F17.binds (ps := P_is_row_list) fun _ _ _ _ _ _ => len1 fun _ => rfl
  have F18 := fun_mk (st := s_is_fill) l18 c18 k18
  have b18 := F18.binds (ps := P_is_fill) fun _ _ _ _ _ _ => len4 fun _ _ _ _ => rfl
  have F19 := fun_mk (st := s_l_cell_at) l19 c19 k19
  have b19 := F19.binds (ps := P_l_cell_at) fun _ _ _ _ _ _ => len2 fun _ _ => rfl
  have F20 := fun_mk (st := s_l_mix) l20 c20 k20
  have b20 := F20.binds (ps := P_l_mix) fun _ _ _ _ _ _ => len2 fun _ _ => rfl
  have F21 := fun_mk (st := s_l_part) l21 c21 k21
  have b21 := F21.binds (ps := P_l_part) fun _ _ _ _ _ _ => len3 fun _ _ _ => rfl
  have F22 := fun_mk (st := s_l_due) l22 c22 k22
  have b22 := F22.binds (ps := P_l_due) fun _ _ _ _ _ _ => len2 fun _ _ => rfl
  have F23 := fun_mk (st := s_l_step) l23 c23 k23
  have b23 := F23.binds (ps := P_l_step) fun _ _ _ _ _ _ => len3 fun _ _ _ => rfl
  have F24 := fun_mk (st := s_l_walked) l24 c24 k24
  have b24 := F24.binds (ps := P_l_walked) fun _ _ _ _ _ _ => len2 fun _ _ => rfl
  have F25 := fun_mk (st := s_l_alone) l25 c25 k25
  have b25 := F25.binds (ps := P_l_alone) fun _ _ _ _ _ _ => len1 fun _ => rfl
  have F26 := fun_mk (st := s_l_bad_part) l26 c26 k26
  have b26 := F26.binds (ps := P_l_bad_part) fun _ _ _ _ _ _ => len2 fun _ _ => rfl
  have F27 := fun_mk (st := s_l_wrong) l27 c27 k27
  have b27 := F27.binds (ps := P_l_wrong) fun _ _ _ _ _ _ => len3 fun _ _ _ => rfl
  have F28 := fun_mk (st := s_l_asked) l28 c28 k28
  have b28 := F28.binds (ps := P_l_asked) fun _ _ _ _ _ _ => len3 fun _ _ _ => rfl
  have F29 := fun_mk (st := s_l_refused) l29 c29 k29
  have b29 := F29.binds (ps := P_l_refused) fun _ _ _ _ _ _ => len3 fun _ _ _ => rfl
  have F30 := fun_mk (st := s_law) l30 c30 k30
  have b30 := F30.binds (ps := P_law) fun _ _ _ _ _ _ => len1 fun _ => rfl
  refine ⟨⟨f1, PySem.W.fnOf "is_number" "is_number" (defArgs s_is_number) (defBody s_is_number) (defScope s_is_number) .none kV1 dc1 pm1 an1 cd1 ct1, f2, PySem.W.fnOf "is_number_list" "is_number_list" (defArgs s_is_number_list) (defBody s_is_number_list) (defScope s_is_number_list) .none kV2 dc2 pm2 an2 cd2 ct2, f3, PySem.W.fnOf "need_total" "need_total" (defArgs s_need_total) (defBody s_need_total) (defScope s_need_total) .none kV3 dc3 pm3 an3 cd3 ct3, f4, PySem.W.fnOf "need_few" "need_few" (defArgs s_need_few) (defBody s_need_few) (defScope s_need_few) .none kV4 dc4 pm4 an4 cd4 ct4, f5, PySem.W.fnOf "need_weights" "need_weights" (defArgs s_need_weights) (defBody s_need_weights) (defScope s_need_weights) .none kV5 dc5 pm5 an5 cd5 ct5, f6, PySem.W.fnOf "share_out" "share_out" (defArgs s_share_out) (defBody s_share_out) (defScope s_share_out) .none kV6 dc6 pm6 an6 cd6 ct6, f7, PySem.W.fnOf "is_part" "is_part" (defArgs s_is_part) (defBody s_is_part) (defScope s_is_part) .none kV7 dc7 pm7 an7 cd7 ct7, f8, PySem.W.fnOf "need_parts" "need_parts" (defArgs s_need_parts) (defBody s_need_parts) (defScope s_need_parts) .none kV8 dc8 pm8 an8 cd8 ct8, f9, PySem.W.fnOf "begins_of" "begins_of" (defArgs s_begins_of) (defBody s_begins_of) (defScope s_begins_of) .none kV9 dc9 pm9 an9 cd9 ct9, f10, PySem.W.fnOf "given_once" "given_once" (defArgs s_given_once) (defBody s_given_once) (defScope s_given_once) .none kV10 dc10 pm10 an10 cd10 ct10, f11, PySem.W.fnOf "given_rounds" "given_rounds" (defArgs s_given_rounds) (defBody s_given_rounds) (defScope s_given_rounds) .none kV11 dc11 pm11 an11 cd11 ct11, f12, PySem.W.fnOf "taken_rounds" "taken_rounds" (defArgs s_taken_rounds) (defBody s_taken_rounds) (defScope s_taken_rounds) .none kV12 dc12 pm12 an12 cd12 ct12, f13, PySem.W.fnOf "rounds_till" "rounds_till" (defArgs s_rounds_till) (defBody s_rounds_till) (defScope s_rounds_till) .none kV13 dc13 pm13 an13 cd13 ct13, f14, PySem.W.fnOf "fill_rounds" "fill_rounds" (defArgs s_fill_rounds) (defBody s_fill_rounds) (defScope s_fill_rounds) .none kV14 dc14 pm14 an14 cd14 ct14, f15, PySem.W.fnOf "sizes_behind" "sizes_behind" (defArgs s_sizes_behind) (defBody s_sizes_behind) (defScope s_sizes_behind) .none kV15 dc15 pm15 an15 cd15 ct15, f16, PySem.W.fnOf "fill_sizes" "fill_sizes" (defArgs s_fill_sizes) (defBody s_fill_sizes) (defScope s_fill_sizes) .none kV16 dc16 pm16 an16 cd16 ct16, f17, PySem.W.fnOf "is_row_list" "is_row_list" (defArgs s_is_row_list) (defBody s_is_row_list) (defScope s_is_row_list) .none kV17 dc17 pm17 an17 cd17 ct17, f18, PySem.W.fnOf "is_fill" "is_fill" (defArgs s_is_fill) (defBody s_is_fill) (defScope s_is_fill) .none kV18 dc18 pm18 an18 cd18 ct18, f19, PySem.W.fnOf "_law_cell_at" "_law_cell_at" (defArgs s_l_cell_at) (defBody s_l_cell_at) (defScope s_l_cell_at) .none kV19 dc19 pm19 an19 cd19 ct19, f20, PySem.W.fnOf "_law_mix" "_law_mix" (defArgs s_l_mix) (defBody s_l_mix) (defScope s_l_mix) .none kV20 dc20 pm20 an20 cd20 ct20, f21, PySem.W.fnOf "_law_part" "_law_part" (defArgs s_l_part) (defBody s_l_part) (defScope s_l_part) .none kV21 dc21 pm21 an21 cd21 ct21, f22, PySem.W.fnOf "_law_due" "_law_due" (defArgs s_l_due) (defBody s_l_due) (defScope s_l_due) .none kV22 dc22 pm22 an22 cd22 ct22, f23, PySem.W.fnOf "_law_step" "_law_step" (defArgs s_l_step) (defBody s_l_step) (defScope s_l_step) .none kV23 dc23 pm23 an23 cd23 ct23, f24, PySem.W.fnOf "_law_walked" "_law_walked" (defArgs s_l_walked) (defBody s_l_walked) (defScope s_l_walked) .none kV24 dc24 pm24 an24 cd24 ct24, f25, PySem.W.fnOf "_law_alone" "_law_alone" (defArgs s_l_alone) (defBody s_l_alone) (defScope s_l_alone) .none kV25 dc25 pm25 an25 cd25 ct25, f26, PySem.W.fnOf "_law_bad_part" "_law_bad_part" (defArgs s_l_bad_part) (defBody s_l_bad_part) (defScope s_l_bad_part) .none kV26 dc26 pm26 an26 cd26 ct26, f27, PySem.W.fnOf "_law_wrong" "_law_wrong" (defArgs s_l_wrong) (defBody s_l_wrong) (defScope s_l_wrong) .none kV27 dc27 pm27 an27 cd27 ct27, f28, PySem.W.fnOf "_law_asked" "_law_asked" (defArgs s_l_asked) (defBody s_l_asked) (defScope s_l_asked) .none kV28 dc28 pm28 an28 cd28 ct28, f29, PySem.W.fnOf "_law_refused" "_law_refused" (defArgs s_l_refused) (defBody s_l_refused) (defScope s_l_refused) .none kV29 dc29 pm29 an29 cd29 ct29, f30, PySem.W.fnOf "law" "law" (defArgs s_law) (defBody s_law) (defScope s_law) .none kV30 dc30 pm30 an30 cd30 ct30, cC, cT, x_PaneError, x_NoShare, x_NoBox, x_NoText, x_NoRule, x_NoName, x_NoPlace, x_NoPage, x_NoChange, x_NoUndo, x_NoRow⟩, rfl, hdi, fun s u => .of_eq rfl, ?_⟩
  exact ⟨F1, b1, PySem.W.mg_of X G a1, F2, b2, PySem.W.mg_of X G a2, F3, b3, PySem.W.mg_of X G a3, F4, b4, PySem.W.mg_of X G a4, F5, b5, PySem.W.mg_of X G a5, F6, b6, PySem.W.mg_of X G a6, F7, b7, PySem.W.mg_of X G a7, F8, b8, PySem.W.mg_of X G a8, F9, b9, PySem.W.mg_of X G a9, F10, b10, PySem.W.mg_of X G a10, F11, b11, PySem.W.mg_of X G a11, F12, b12, PySem.W.mg_of X G a12, F13, b13, PySem.W.mg_of X G a13, F14, b14, PySem.W.mg_of X G a14, F15, b15, PySem.W.mg_of X G a15, F16, b16, PySem.W.mg_of X G a16, F17, b17, PySem.W.mg_of X G a17, F18, b18, PySem.W.mg_of X G a18, F19, b19, PySem.W.mg_of X G a19, F20, b20, PySem.W.mg_of X G a20, F21, b21, PySem.W.mg_of X G a21, F22, b22, PySem.W.mg_of X G a22, F23, b23, PySem.W.mg_of X G a23, F24, b24, PySem.W.mg_of X G a24, F25, b25, PySem.W.mg_of X G a25, F26, b26, PySem.W.mg_of X G a26, F27, b27, PySem.W.mg_of X G a27, F28, b28, PySem.W.mg_of X G a28, F29, b29, PySem.W.mg_of X G a29, F30, b30, PySem.W.mg_of X G a30, ⟨_, PySem.W.mg_of X G g_MOST_THINGS⟩, ⟨_, PySem.W.mg_of X G g_MOST_PART⟩, PySem.W.mg_none_of X G n_ValueError, PySem.W.mg_none_of X G n_all, PySem.W.mg_none_of X G n_bool, PySem.W.mg_none_of X G n_int, PySem.W.mg_none_of X G n_isinstance, PySem.W.mg_none_of X G n_len, PySem.W.mg_none_of X G n_list, PySem.W.mg_none_of X G n_max, PySem.W.mg_none_of X G n_min, PySem.W.mg_none_of X G n_range, PySem.W.mg_none_of X G n_sorted, PySem.W.mg_none_of X G n_sum, PySem.W.mg_none_of X G n_tuple, PySem.W.mg_none_of X G n_zip, PySem.W.mg_of X G y_PaneError, PySem.W.mg_of X G y_NoShare, PySem.W.mg_of X G y_NoBox, PySem.W.mg_of X G y_NoText, PySem.W.mg_of X G y_NoRule, PySem.W.mg_of X G y_NoName, PySem.W.mg_of X G y_NoPlace, PySem.W.mg_of X G y_NoPage, PySem.W.mg_of X G y_NoChange, PySem.W.mg_of X G y_NoUndo, PySem.W.mg_of X G y_NoRow, cls, hcd, kit⟩
end KP
def PySem.W.Fast.tw13126847892700773229 : Unit := ()
open PySem PySem.W PyProof.Rows
set_option maxRecDepth 100000 in
set_option maxHeartbeats 0 in
theorem PySem.Challenge.cw_panehouse_k06_fills_refused_holds : PySem.Challenge.rw_panehouse_k06_fills_refused.Holds := by
  w_on; o_law; k_head; (case hw => w_witness2)
  k_fill
  refine' L2.walkT (l := PySem.Challenge.rw_panehouse_k06_fills_refused) (n := 63) (k := 10) (x := "_law_script") (CX := L2.CX0) (sp := KP.spLaw) rfl (by decide) rfl ⟨rfl, by decide, by decide⟩ (fun w h Y => ⟨PySem.W.km_in_of Y, PySem.W.km_tabs_of Y _ (.head _)⟩) ?KT ?F ?S ?C
  case F =>
    intro w mg fa h KX G hmg
    have T : ∃ A : KP.Adr, A.cT = 182 ∧ PySem.W.codeHdIn (L2.KOf KX) A.cC A.cT = true ∧ (∀ (s : Shared) (u : Value), BindsTo s A.d_law ⟨[u], []⟩ [("_law_script", u)]) ∧ KP.Txt (L2.KOf KX) mg A := by
      dsimp only [L2.KOf]
      refine' KP.txt_mk KX G 182 ?a1 ?l1 ?c1 ?k1 ?a2 ?l2 ?c2 ?k2 ?a3 ?l3 ?c3 ?k3 ?a4 ?l4 ?c4 ?k4 ?a5 ?l5 ?c5 ?k5 ?a6 ?l6 ?c6 ?k6 ?a7 ?l7 ?c7 ?k7 ?a8 ?l8 ?c8 ?k8 ?a9 ?l9 ?c9 ?k9 ?a10 ?l10 ?c10 ?k10 ?a11 ?l11 ?c11 ?k11 ?a12 ?l12 ?c12 ?k12 ?a13 ?l13 ?c13 ?k13 ?a14 ?l14 ?c14 ?k14 ?a15 ?l15 ?c15 ?k15 ?a16 ?l16 ?c16 ?k16 ?a17 ?l17 ?c17 ?k17 ?a18 ?l18 ?c18 ?k18 ?a19 ?l19 ?c19 ?k19 ?a20 ?l20 ?c20 ?k20 ?a21 ?l21 ?c21 ?k21 ?a22 ?l22 ?c22 ?k22 ?a23 ?l23 ?c23 ?k23 ?a24 ?l24 ?c24 ?k24 ?a25 ?l25 ?c25 ?k25 ?a26 ?l26 ?c26 ?k26 ?a27 ?l27 ?c27 ?k27 ?a28 ?l28 ?c28 ?k28 ?a29 ?l29 ?c29 ?k29 ?a30 ?l30 ?c30 ?k30 ?g_MOST_THINGS ?g_MOST_PART ?n_ValueError ?n_all ?n_bool ?n_int ?n_isinstance ?n_len ?n_list ?n_max ?n_min ?n_range ?n_sorted ?n_sum ?n_tuple ?n_zip ?y_PaneError ?y_NoShare ?y_NoBox ?y_NoText ?y_NoRule ?y_NoName ?y_NoPlace ?y_NoPage ?y_NoChange ?y_NoUndo ?y_NoRow ?cls ?hcd ?hdi ?kit
      (case a1 => k_is)
      (case l1 => k_is)
      (case c1 => k_is)
      (case k1 => k_is)
      (case a2 => k_is)
      (case l2 => k_is)
      (case c2 => k_is)
      (case k2 => k_is)
      (case a3 => k_is)
      (case l3 => k_is)
      (case c3 => k_is)
      (case k3 => k_is)
      (case a4 => k_is)
      (case l4 => k_is)
      (case c4 => k_is)
      (case k4 => k_is)
      (case a5 => k_is)
      (case l5 => k_is)
      (case c5 => k_is)
      (case k5 => k_is)
      (case a6 => k_is)
      (case l6 => k_is)
      (case c6 => k_is)
      (case k6 => k_is)
      (case a7 => k_is)
      (case l7 => k_is)
      (case c7 => k_is)
      (case k7 => k_is)
      (case a8 => k_is)
      (case l8 => k_is)
      (case c8 => k_is)
      (case k8 => k_is)
      (case a9 => k_is)
      (case l9 => k_is)
      (case c9 => k_is)
      (case k9 => k_is)
      (case a10 => k_is)
      (case l10 => k_is)
      (case c10 => k_is)
      (case k10 => k_is)
      (case a11 => k_is)
      (case l11 => k_is)
      (case c11 => k_is)
      (case k11 => k_is)
      (case a12 => k_is)
      (case l12 => k_is)
      (case c12 => k_is)
      (case k12 => k_is)
      (case a13 => k_is)
      (case l13 => k_is)
      (case c13 => k_is)
      (case k13 => k_is)
      (case a14 => k_is)
      (case l14 => k_is)
      (case c14 => k_is)
      (case k14 => k_is)
      (case a15 => k_is)
      (case l15 => k_is)
      (case c15 => k_is)
      (case k15 => k_is)
      (case a16 => k_is)
      (case l16 => k_is)
      (case c16 => k_is)
      (case k16 => k_is)
      (case a17 => k_is)
      (case l17 => k_is)
      (case c17 => k_is)
      (case k17 => k_is)
      (case a18 => k_is)
      (case l18 => k_is)
      (case c18 => k_is)
      (case k18 => k_is)
      (case a19 => k_is)
      (case l19 => k_is)
      (case c19 => k_is)
      (case k19 => k_is)
      (case a20 => k_is)
      (case l20 => k_is)
      (case c20 => k_is)
      (case k20 => k_is)
      (case a21 => k_is)
      (case l21 => k_is)
      (case c21 => k_is)
      (case k21 => k_is)
      (case a22 => k_is)
      (case l22 => k_is)
      (case c22 => k_is)
      (case k22 => k_is)
      (case a23 => k_is)
      (case l23 => k_is)
      (case c23 => k_is)
      (case k23 => k_is)
      (case a24 => k_is)
      (case l24 => k_is)
      (case c24 => k_is)
      (case k24 => k_is)
      (case a25 => k_is)
      (case l25 => k_is)
      (case c25 => k_is)
      (case k25 => k_is)
      (case a26 => k_is)
      (case l26 => k_is)
      (case c26 => k_is)
      (case k26 => k_is)
      (case a27 => k_is)
      (case l27 => k_is)
      (case c27 => k_is)
      (case k27 => k_is)
      (case a28 => k_is)
      (case l28 => k_is)
      (case c28 => k_is)
      (case k28 => k_is)
      (case a29 => k_is)
      (case l29 => k_is)
      (case c29 => k_is)
      (case k29 => k_is)
      (case a30 => k_is)
      (case l30 => k_is)
      (case c30 => k_is)
      (case k30 => k_is)
      (case g_MOST_THINGS => k_is)
      (case g_MOST_PART => k_is)
      (case n_ValueError => k_is)
      (case n_all => k_is)
      (case n_bool => k_is)
      (case n_int => k_is)
      (case n_isinstance => k_is)
      (case n_len => k_is)
      (case n_list => k_is)
      (case n_max => k_is)
      (case n_min => k_is)
      (case n_range => k_is)
      (case n_sorted => k_is)
      (case n_sum => k_is)
      (case n_tuple => k_is)
      (case n_zip => k_is)
      (case y_PaneError => k_is)
      (case y_NoShare => k_is)
      (case y_NoBox => k_is)
      (case y_NoText => k_is)
      (case y_NoRule => k_is)
      (case y_NoName => k_is)
      (case y_NoPlace => k_is)
      (case y_NoPage => k_is)
      (case y_NoChange => k_is)
      (case y_NoUndo => k_is)
      (case y_NoRow => k_is)
      (case cls => kernel_rfl)
      (case hcd => rfl)
      (case hdi => kernel_rfl)
      (case kit => kernel_rfl)
    obtain ⟨A, e2, e3, hb, T⟩ := T
    have e0 := hmg.symm.trans T.m_law
    cases e0
    refine ⟨A.cC, e2 ▸ e3, A.d_law, hb, fun base kb nb hC hB => ?_⟩
    rw [← e2] at hC hB ⊢
    exact KP.ok_law T hC hB
  case KT => intro P; kernel_rfl
  case S => exact fun K H a ns hl n1 n2 hS => ⟨a, ns, rfl, hS, hl, n1, n2, fun _ => rfl⟩
  case C => exact fun _ _ _ _ z => z

