import PyProof.Rows.All
import Wide.All
import OpenK.AllK
import Wide.FinOn
import Lean
import PyProof.EqAt
import PyProof.EqKinds
import PyProof.TupleCall
import PyProof.CompFree
import PyProof.NeKinds
import KE.IntBitsLaws
import PyProof.Rows.SortRuns
import PyProof.RangeFor
import KE.KSortKey
import PyProof.ListRange
import KE.KListMore
import PyProof.ZipIter
import PyProof.Rows.ZipGen
import PyProof.WalksMore
import PyProof.EnumFor
import PyProof.EnumMake
import PyProof.Rows.TopTwo
import PyProof.Rows.CatchOwn
import PyProof.NsDelKeeps
import PyProof.ExcAttrAll.ValueError
import PyProof.DictDisplay
import KE.KEqDict
import PyProof.Draws
import PyProof.ListStr
import PyProof.StrCalls2
import PyProof.StrOps2
import PyProof.Rows.StrSplitCount
import PyProof.ListNew
import PyProof.Rows.Tup
import PyProof.CollectWalk
import PyProof.WalksS
import PyProof.Rows.SetFrom
import PyProof.Rows.StrInSeq
import PyProof.SetRoads
import PyProof.Rows.TupAdd
import KE.KIntText
import KE.KRevIter
import PyProof.MeetsStr
import PyProof.StrCalls
import PyProof.ListMulRoad
import PySem.Challenge.RW_panehouse_k14_whole_texts
set_option Elab.async false
set_option linter.all false
-- CHANGE: your row's module here, as the last of these rows
set_option Elab.async false
set_option linter.all false
set_option maxRecDepth 100000
/-! THE HAND LAYER, for ints, bools, texts, own classes, LISTS and tuples (index, slices, in, append, pop ..), calls, loops. Paste it whole ahead of your own text; what your proof does not reach may be deleted. -/
namespace L2
open PySem PySem.Spec PyProof.Rows

/-- a key: an int or a str -/
abbrev Key := Sum Int Str
def keyIs : Key → Value → Bool
  | .inl k, v => Value.isInt k v
  | .inr x, v => Value.isStrOf x v
def keyH (w : World) : Key → Int
  | .inl k => hashInt k
  | .inr x => hashStr w x
theorem keyIs_shape : ∀ {k : Key} {v : Value}, keyIs k v = true → (∃ i t, k = Sum.inl i ∧ v = Value.int i t) ∨ (∃ x t, k = Sum.inr x ∧ v = Value.str x t)
  | .inl i, v, h => by
    obtain ⟨t, e⟩ := Value.isInt_shape (k := i) (v := v) h
    exact .inl ⟨i, t, rfl, e⟩
  | .inr x, v, h => by
    obtain ⟨t, e⟩ := Value.isStrOf_shape (x := x) (v := v) h
    exact .inr ⟨x, t, rfl, e⟩
theorem keyIs_int (i : Int) (t : Tok) : keyIs (.inl i) (.int i t) = true := by simp [keyIs, Value.isInt]
theorem keyIs_str (x : Str) (t : Tok) : keyIs (.inr x) (.str x t) = true := by simp [keyIs, Value.isStrOf]
theorem key_ll (a b : Int) : decide ((Sum.inl a : Key) = Sum.inl b) = (a == b) := by
  by_cases e : a = b
  · subst e; simp
  · have h : ¬ (Sum.inl a : Key) = Sum.inl b := fun q => e (Sum.inl.inj q)
    rw [decide_eq_false h]
    exact (beq_eq_false_iff_ne.mpr e).symm
theorem key_rr (a b : Str) : decide ((Sum.inr a : Key) = Sum.inr b) = decide (a = b) := by
  by_cases e : a = b
  · subst e; simp
  · have h : ¬ (Sum.inr a : Key) = Sum.inr b := fun q => e (Sum.inr.inj q)
    rw [decide_eq_false h, decide_eq_false e]
theorem key_lr (a : Int) (b : Str) : decide ((Sum.inl a : Key) = Sum.inr b) = false := decide_eq_false (fun q => nomatch q)
theorem key_rl (a : Str) (b : Int) : decide ((Sum.inr a : Key) = Sum.inl b) = false := decide_eq_false (fun q => nomatch q)

def mixKind (prog : Program) (w : World) : PySem.KeyKind prog w Key where
  is := keyIs
  hash := keyH w
  inj := fun v a b ha hb => by
    rcases keyIs_shape ha with ⟨i, t, rfl, rfl⟩ | ⟨x, t, rfl, rfl⟩
    · rcases keyIs_shape hb with ⟨j, u, rfl, e⟩ | ⟨y, u, rfl, e⟩
      · injection e with e1 _; rw [e1]
      · exact nomatch e
    · rcases keyIs_shape hb with ⟨j, u, rfl, e⟩ | ⟨y, u, rfl, e⟩
      · exact nomatch e
      · injection e with e1 _; rw [e1]
  byValue := fun k v h => by
    rcases keyIs_shape h with ⟨i, t, rfl, rfl⟩ | ⟨x, t, rfl, rfl⟩ <;> rfl
  pyHash := fun hv h => by
    rcases keyIs_shape hv with ⟨i, t, rfl, rfl⟩ | ⟨x, t, rfl, rfl⟩
    · exact wpAny_pyHash_int h
    · exact wpAny_pyHash_str h
  eqBool := fun hu hv h => by
    rcases keyIs_shape hu with ⟨i, t, rfl, rfl⟩ | ⟨x, t, rfl, rfl⟩
    · rcases keyIs_shape hv with ⟨j, u, rfl, rfl⟩ | ⟨y, u, rfl, rfl⟩
      · rw [key_ll] at h; exact wpAny_eqBool_int h
      · rw [key_lr] at h; exact SeqAt.EqAt.int_str i t y u _ _ _ _ h
    · rcases keyIs_shape hv with ⟨j, u, rfl, rfl⟩ | ⟨y, u, rfl, rfl⟩
      · rw [key_rl] at h; exact SeqAt.EqAt.str_int x t j u _ _ _ _ h
      · rw [key_rr] at h; exact wpAny_eqBool_str h
  «strs» := fun k x t v h => by
    rcases keyIs_shape h with ⟨i, u, rfl, e⟩ | ⟨y, u, rfl, e⟩
    · exact nomatch e
    · injection e with e1 _
      subst e1
      cases v <;> rfl

theorem mixKind_int (prog : Program) (w : World) (i : Int) (t : Tok) : (mixKind prog w).is (.inl i) (.int i t) = true := keyIs_int i t
theorem mixKind_str (prog : Program) (w : World) (x : Str) (t : Tok) : (mixKind prog w).is (.inr x) (.str x t) = true := keyIs_str x t
end L2

namespace L2
open PySem PySem.Spec PyProof.Rows

/-- a value, without the heap -/
inductive V where
  | non | bl (b : Bool) | int (i : Int) | str (x : Str) | byt (b : Array UInt8) | flt (b : UInt64) | ref (a : Addr) | ty (n : String)
  deriving DecidableEq

def RelV : V → Value → Prop
  | .non, u => u = Value.none
  | .bl b, u => u = Value.bool b
  | .int i, u => ∃ t, u = Value.int i t
  | .str x, u => ∃ t, u = Value.str x t
  | .byt b, u => ∃ t, u = Value.bytes b t
  | .flt b, u => ∃ t, u = Value.float b t
  | .ref a, u => u = Value.ref a
  | .ty n, u => u = Value.type n

abbrev Vals : List V → List Value → Prop := Paired RelV
theorem Vals.length {xs : List V} {us : List Value} (r : Vals xs us) : xs.length = us.length := Paired.length r
theorem Vals.get : ∀ {xs : List V} {us : List Value} {i : Nat} {x : V}, Vals xs us → xs[i]? = some x → ∃ u, us[i]? = some u ∧ RelV x u
  | _, _, _, _, .nil, e => by simp at e
  | _, _, 0, _, .cons r _, e => by simp at e; subst e; exact ⟨_, rfl, r⟩
  | _, _, i + 1, x, .cons _ t, e => by
    obtain ⟨u, h1, h2⟩ := Vals.get (i := i) (x := x) t (by simpa using e)
    exact ⟨u, by simpa using h1, h2⟩
theorem Vals.set {x : V} {u : Value} (r : RelV x u) : ∀ {xs : List V} {us : List Value} (i : Nat), Vals xs us → Vals (xs.set i x) (us.set i u)
  | _, _, _, .nil => .nil
  | _, _, 0, .cons _ t => .cons r t
  | _, _, i + 1, .cons q t => .cons q (Vals.set r i t)
theorem Vals.append : ∀ {xs ys : List V} {us ws : List Value}, Vals xs us → Vals ys ws → Vals (xs ++ ys) (us ++ ws)
  | _, _, _, _, .nil, s => s
  | _, _, _, _, .cons r t, s => .cons r (Vals.append t s)
theorem Vals.take : ∀ {xs : List V} {us : List Value} (n : Nat), Vals xs us → Vals (xs.take n) (us.take n)
  | _, _, 0, _ => .nil
  | _, _, _ + 1, .nil => .nil
  | _, _, n + 1, .cons r t => .cons r (Vals.take n t)
theorem Vals.drop : ∀ {xs : List V} {us : List Value} (n : Nat), Vals xs us → Vals (xs.drop n) (us.drop n)
  | _, _, 0, r => r
  | _, _, _ + 1, .nil => .nil
  | _, _, n + 1, .cons _ t => Vals.drop n t
def RelO : Option V → Option Value → Prop
  | some v, some u => RelV v u
  | none, none => True
  | _, _ => False
def KV {κ : Type} : List (κ × V) → List (κ × Value) → Prop := Paired fun (p : κ × V) (q : κ × Value) => p.1 = q.1 ∧ RelV p.2 q.2

/-- a key of a dict (00_mix): an int or a text -/
def kV : Key → V
  | .inl i => .int i
  | .inr x => .str x

/-- what stands at a tracked address -/
inductive HO where
  /-- a list -/
  | lst (xs : List V)
  /-- a tuple (never changes) -/
  | tup (xs : List V)
  /-- a dict whose keys are ints and texts; one whose keys are tuples of ints and texts (the empty one is both) -/
  | dK (kvs : List (Key × V)) | dT (kvs : List (List Key × V))
  /-- a set of ints: its members, its size -/
  | set (S : Int → Bool) (n : Nat)
  /-- an instance of the class at C, its dict at dx, its attributes -/
  | ins (C dx : Addr) (fs : List (Str × V))
  /-- the dict of the instance at x -/
  | own (x : Addr)
  /-- the dict of an exception -/
  | xd (fs : List (Str × V))
  /-- a bound method, f of x -/
  | met (f x : Addr)
  /-- a range object lo, lo + 1, .. below hi -/
  | rng (lo hi : Int)
  /-- a thing that is known to the object (the script; a dict while a loop walks it): read, never written while it is so -/
  | frz (o : Obj) (u : HO)
  /-- a code object's table -/
  | tbl (ps : Array Value)
  /-- any other thing, by what is true of its one object (a def of one's own: SetO a S n := HO.ext fun h => ..) -/
  | ext (φ : Heap → Prop)

abbrev Hp := Addr → Option HO
def upd (H : Hp) (a : Addr) (o : HO) : Hp := fun b => if b = a then some o else H b
theorem upd_same {H : Hp} {a : Addr} {o : HO} : upd H a o a = some o := by unfold upd; rw [if_pos rfl]
theorem upd_ne {H : Hp} {a b : Addr} {o : HO} (h : b ≠ a) : upd H a o b = H b := by unfold upd; rw [if_neg h]
/-- two objects of different content stand apart -/
theorem ne_of {H : Hp} {a b : Addr} {o u : HO} (h : H a = some o) (h' : H b = some u) (d : o ≠ u) : a ≠ b := by
  intro e; subst e; rw [h] at h'; exact d (Option.some.inj h')
theorem ne_of_none {H : Hp} {a b : Addr} {o : HO} (h : H a = some o) (h' : H b = none) : a ≠ b := by
  intro e; subst e; rw [h] at h'; cases h'

section
variable (P : Program) (w : World)
def ObjOk (H : Hp) (h : Heap) (a : Addr) : HO → Prop
  | .lst xs => xs.length ≤ sizeLine ∧ ∃ (its : List Value) (n : Nat), Vals xs its ∧ h.get? a = some { cls := .type "list", data := .seq its.toArray n }
  | .tup xs => xs.length ≤ sizeLine ∧ ∃ its : List Value, Vals xs its ∧ IsTup h a its.toArray
  | .dK kvs => kvs.length ≤ sizeLine ∧ (a == sysModules) = false ∧ ∃ vs, KV kvs vs ∧ h.DictOf (mixKind P w) a vs
  | .dT kvs => kvs.length ≤ sizeLine ∧ (a == sysModules) = false ∧ ∃ xs : List (List Key × Addr × Value),
      Paired (fun (p : List Key × V) (q : List Key × Addr × Value) => p.1 = q.1 ∧ H q.2.1 = some (.tup (p.1.map kV)) ∧ RelV p.2 q.2.2) kvs xs ∧
      ∃ o es ep, h.get? a = some o ∧ o.ExactDict ∧ o.data = .dict es ep ∧ es.toList = xs.map (entryOfKey (tupleKind (mixKind P w))) ∧ (xs.map (·.1)).Nodup
  | .set S n => h.SetOf (intKind P w) a S n
  | .ins C dx fs => H dx = some (.own a) ∧ fs.length ≤ 1000 ∧ dx ≠ a ∧ h.get? a = some (PySem.W.instObj C dx) ∧
      ∃ mA, h.Ns1 dx mA ∧ (∀ f, RelO (fs.lookup f) (mA f)) ∧ PySem.Within mA (fs.map (·.1))
  | .own _ => ∃ o, h.get? a = some o
  | .xd fs => ∃ mA, h.Ns1 a mA ∧ ∀ f, RelO (fs.lookup f) (mA f)
  | .rng lo hi => ∃ t u v, h.get? a = some { cls := .type "range", data := .fields #[.int lo t, .int hi u, .int 1 v] }
  | .frz o u => h.get? a = some o ∧ ObjOk H h a u
  | .tbl ps => h.get? a = some { cls := .none, data := .fields ps }
  | .met f x => h.get? a = some (PySem.W.methodObj (.ref f) (.ref x))
  | .ext φ => φ h ∧ (∃ o, h.get? a = some o) ∧ ∀ h1 h2 : Heap, φ h1 → (∀ o, h1.get? a = some o → h2.get? a = some o) → φ h2
/-- the abstract heap is held -/
def HOk (H : Hp) (h : Heap) : Prop := ∀ a o, H a = some o → ObjOk P w H h a o
end

section
variable {P : Program} {w : World} {H H' : Hp} {h h' : Heap} {a : Addr} {o : HO}
theorem ObjOk.lt (x : ObjOk P w H h a o) : a < h.objs.size := by
  cases o with
  | lst xs => obtain ⟨_, _, _, _, e⟩ := x; exact Heap.lt_size e
  | tup xs => obtain ⟨_, _, _, p⟩ := x; exact p.lt
  | dK kvs => obtain ⟨_, _, _, _, o, _, _, e, _⟩ := x; exact Heap.lt_size e
  | dT kvs => obtain ⟨_, _, _, _, o, _, _, e, _⟩ := x; exact Heap.lt_size e
  | set S n => obtain ⟨o, _, _, _, e, _⟩ := x; exact Heap.lt_size e
  | ins C dx fs => obtain ⟨_, _, _, e, _⟩ := x; exact Heap.lt_size e
  | own y => obtain ⟨_, e⟩ := x; exact Heap.lt_size e
  | xd fs => obtain ⟨_, ⟨_, _, _, e, _⟩, _⟩ := x; exact Heap.lt_size e
  | rng lo hi => obtain ⟨_, _, _, e⟩ := x; exact Heap.lt_size e
  | frz ob u => obtain ⟨e, _⟩ := x; exact Heap.lt_size e
  | tbl ps => exact Heap.lt_size (show h.get? a = some _ from x)
  | met f y => exact Heap.lt_size (show h.get? a = some _ from x)
  | ext φ => obtain ⟨_, ⟨_, e⟩, _⟩ := x; exact Heap.lt_size e
theorem Paired.mapP {α β : Type} {F G : α → β → Prop} : ∀ {l₁ : List α} {l₂ : List β}, Paired F l₁ l₂ → (∀ a b, F a b → G a b) → Paired G l₁ l₂
  | _, _, .nil, _ => .nil
  | _, _, .cons r t, f => .cons (f _ _ r) (Paired.mapP t f)
/-- what an object's description leans on: its own object, its own dict, the tuples -/
theorem ObjOk.stay (x : ObjOk P w H h a o) (k : ∀ b u, (b = a ∨ H b = some (.own a)) → h.get? b = some u → h'.get? b = some u)
    (ho : ∀ b, H b = some (.own a) → H' b = some (.own a)) (ht : ∀ b xs, H b = some (.tup xs) → H' b = some (.tup xs)) : ObjOk P w H' h' a o := by
  induction o with
  | lst xs => obtain ⟨z, its, n, r, e⟩ := x; exact ⟨z, its, n, r, k _ _ (.inl rfl) e⟩
  | tup xs => obtain ⟨z, its, r, ob, e, c⟩ := x; exact ⟨z, its, r, ob, k _ _ (.inl rfl) e, c⟩
  | dK kvs => obtain ⟨z, y, vs, r, ob, es, ep, e, c⟩ := x; exact ⟨z, y, vs, r, ob, es, ep, k _ _ (.inl rfl) e, c⟩
  | dT kvs =>
    obtain ⟨z, y, xs, r, ob, es, ep, e, c⟩ := x
    exact ⟨z, y, xs, Paired.mapP r fun p q z => ⟨z.1, ht _ _ z.2.1, z.2.2⟩, ob, es, ep, k _ _ (.inl rfl) e, c⟩
  | set S n => obtain ⟨ob, es, ep, t, e, c⟩ := x; exact ⟨ob, es, ep, t, k _ _ (.inl rfl) e, c⟩
  | ins C dx fs =>
    obtain ⟨d, z, ne, e, mA, ⟨od, es, ep, e2, c⟩, r⟩ := x
    exact ⟨ho _ d, z, ne, k _ _ (.inl rfl) e, mA, ⟨od, es, ep, k _ _ (.inr d) e2, c⟩, r⟩
  | own y => obtain ⟨ob, e⟩ := x; exact ⟨ob, k _ _ (.inl rfl) e⟩
  | xd fs => obtain ⟨mA, ⟨od, es, ep, e, c⟩, r⟩ := x; exact ⟨mA, ⟨od, es, ep, k _ _ (.inl rfl) e, c⟩, r⟩
  | rng lo hi => obtain ⟨t, u, v, e⟩ := x; exact ⟨t, u, v, k _ _ (.inl rfl) e⟩
  | frz ob u ih => obtain ⟨e, q⟩ := x; exact ⟨k _ _ (.inl rfl) e, ih q⟩
  | tbl ps =>
    have e : h.get? a = some { cls := .none, data := .fields ps } := x
    show h'.get? a = some { cls := .none, data := .fields ps }
    exact k a _ (.inl rfl) e
  | met f y =>
    have e : h.get? a = some (PySem.W.methodObj (.ref f) (.ref y)) := x
    show h'.get? a = some (PySem.W.methodObj (.ref f) (.ref y))
    exact k a _ (.inl rfl) e
  | ext φ => obtain ⟨p, ⟨o, e⟩, st⟩ := x; exact ⟨st _ _ p fun o q => k _ _ (.inl rfl) q, ⟨o, k _ _ (.inl rfl) e⟩, st⟩
theorem HOk.lt (x : HOk P w H h) (e : H a = some o) : a < h.objs.size := (x a o e).lt
theorem HOk.fresh (x : HOk P w H h) (e : h.objs.size ≤ a) : H a = none := by
  cases q : H a with
  | none => rfl
  | some u => exact absurd (Nat.lt_of_lt_of_le (x.lt q) e) (Nat.lt_irrefl _)
/-- every object of the heap is kept -/
theorem HOk.kept (x : HOk P w H h) (k : ∀ b u, h.get? b = some u → h'.get? b = some u) : HOk P w H h' := fun a o e =>
  (x a o e).stay (fun b u _ q => k b u q) (fun _ q => q) fun _ _ q => q
/-- a new object is laid and tracked -/
theorem HOk.laid (x : HOk P w H h) (k : ∀ b u, h.get? b = some u → h'.get? b = some u) (hp : h.objs.size ≤ a) (new : ObjOk P w (upd H a o) h' a o) : HOk P w (upd H a o) h' := fun b u e => by
  have hn := x.fresh hp
  by_cases hb : b = a
  · subst hb; rw [upd_same] at e; cases e; exact new
  · rw [upd_ne hb] at e
    exact (x b u e).stay (fun c v _ q => k c v q) (fun c q => by rw [upd_ne (ne_of_none q hn)]; exact q) fun c xs q => by rw [upd_ne (ne_of_none q hn)]; exact q
end

/-- what may be read as u: it is u, or a known u -/
def Rd (H : Hp) (a : Addr) (u : HO) : Prop := H a = some u ∨ ∃ o, H a = some (.frz o u)
theorem Rd.ok {P : Program} {w : World} {H : Hp} {h : Heap} {a : Addr} {u : HO} (r : Rd H a u) (x : HOk P w H h) : ObjOk P w H h a u := by
  rcases r with r | ⟨o, r⟩
  · exact x a u r
  · obtain ⟨_, q⟩ := x a _ r
    exact q
/-- what may be written -/
def Mut : Option HO → Prop
  | some (.lst _) => True
  | some (.dK _) => True
  | some (.dT _) => True
  | some (.set _ _) => True
  | some (.ins _ _ _) => True
  | some (.ext _) => True
  | _ => False
section
variable {P : Program} {w : World} {H : Hp} {h h' : Heap} {x e : Addr} {o' : HO}
/-- the object at e is changed: x itself, or the dict of the instance x -/
theorem HOk.write (ok : HOk P w H h) (mu : Mut (H x)) (he : e = x ∨ H e = some (.own x)) (k : ∀ b u, b ≠ e → h.get? b = some u → h'.get? b = some u) (heo : ∃ u, h'.get? e = some u)
    (new : ObjOk P w (upd H x o') h' x o') : HOk P w (upd H x o') h' := fun b u q => by
  have nown : ∀ c y, H c = some (.own y) → c ≠ x := fun c y r z => by subst z; rw [r] at mu; exact mu
  have ntup : ∀ c xs, H c = some (.tup xs) → c ≠ x := fun c xs r z => by subst z; rw [r] at mu; exact mu
  by_cases hb : b = x
  · subst hb; rw [upd_same] at q; cases q; exact new
  · rw [upd_ne hb] at q
    by_cases hbe : b = e
    · have q' : H b = some (.own x) := by
        rcases he with z | z
        · exact absurd (hbe.trans z) hb
        · rw [hbe]; exact z
      rw [q] at q'; cases q'
      obtain ⟨v, hv⟩ := heo
      exact ⟨v, by rw [hbe]; exact hv⟩
    · refine (ok b u q).stay (fun c v hc r => k c v ?_ r) (fun c r => by rw [upd_ne (nown c b r)]; exact r) fun c xs r => by rw [upd_ne (ntup c xs r)]; exact r
      rcases hc with rfl | hc
      · exact hbe
      · rintro rfl
        rcases he with z | z
        · exact nown c b hc z
        · rw [hc] at z; cases z; exact hb rfl
end

/-! ### kept unless tracked; of the frames at fs (the callers') the slots may change (an exception that passes writes there); of the records at ex (iterators) nothing is said -/
structure Un (fs ex : List Addr) (H H' : Hp) (h h' : Heap) : Prop where
  keep : ∀ b o, h.get? b = some o → H b = none → b ∉ fs → b ∉ ex → h'.get? b = some o
  slot : ∀ b o, h.get? b = some o → H b = none → b ∈ fs → b ∉ ex → ∃ sl, h'.get? b = some { o with slots := sl }
  free : ∀ b o, h.get? b = some o → H b = none → b ∉ ex → H' b = none
  there : ∀ b o, h.get? b = some o → b ∉ ex → ∃ o', h'.get? b = some o'
  tups : ∀ b xs, H b = some (.tup xs) → H' b = some (.tup xs)
  frzs : ∀ b o u, H b = some (.frz o u) → H' b = some (.frz o u)
  tbls : ∀ b ps, H b = some (.tbl ps) → ∃ more, H' b = some (.tbl (ps ++ more))
section
variable {fs fs' ex ex' : List Addr} {H H1 H2 : Hp} {h h1 h2 h' : Heap} {a x e : Addr} {o : HO}
theorem Un.any (u : Un fs ex H H1 h h1) {b : Addr} {ob : Obj} (q : h.get? b = some ob) (n : H b = none) (hx : b ∉ ex) : ∃ sl, h1.get? b = some { ob with slots := sl } := by
  by_cases hb : b ∈ fs
  · exact u.slot b ob q n hb hx
  · exact ⟨ob.slots, u.keep b ob q n hb hx⟩
theorem Un.kept (k : ∀ b u, h.get? b = some u → h'.get? b = some u) : Un fs ex H H h h' :=
  ⟨fun b ob q _ _ _ => k b ob q, fun b ob q _ _ _ => ⟨ob.slots, k b ob q⟩, fun _ _ _ n _ => n, fun b ob q _ => ⟨ob, k b ob q⟩, fun _ _ q => q, fun _ _ _ q => q, fun _ ps q => ⟨#[], by rw [q]; simp⟩⟩
theorem Un.refl : Un fs ex H H h h := Un.kept fun _ _ q => q
theorem Un.laid (k : ∀ b u, h.get? b = some u → h'.get? b = some u) (hp : h.objs.size ≤ a) (hn : H a = none) : Un fs ex H (upd H a o) h h' where
  keep := fun b u q _ _ _ => k b u q
  slot := fun b u q _ _ _ => ⟨u.slots, k b u q⟩
  free := fun b u q n _ => by rw [upd_ne (Nat.ne_of_lt (Nat.lt_of_lt_of_le (Heap.lt_size q) hp))]; exact n
  there := fun b u q _ => ⟨u, k b u q⟩
  tups := fun b xs q => by rw [upd_ne (ne_of_none q hn)]; exact q
  frzs := fun b u xs q => by rw [upd_ne (ne_of_none q hn)]; exact q
  tbls := fun b ps q => ⟨#[], by rw [upd_ne (ne_of_none q hn), q]; simp⟩
theorem Un.write (mu : Mut (H x)) (he : e = x ∨ H e = some (.own x)) (k : ∀ b u, b ≠ e → h.get? b = some u → h'.get? b = some u) (heo : ∃ u, h'.get? e = some u) : Un fs ex H (upd H x o) h h' := by
  have hx : ∀ b, H b = none → b ≠ x := fun b n z => by subst z; rw [n] at mu; exact mu
  have hb : ∀ b, H b = none → b ≠ e := fun b n z => by
    subst z
    rcases he with r | r
    · exact hx b n r
    · rw [n] at r; cases r
  have hm : ∀ b u, H b = some u → ¬ Mut (some u) → b ≠ x := fun b u q nm z => by subst z; rw [q] at mu; exact nm mu
  refine ⟨fun b u q n _ _ => k b u (hb b n) q, fun b u q n _ _ => ⟨u.slots, k b u (hb b n) q⟩, fun b u q n _ => by rw [upd_ne (hx b n)]; exact n, fun b u q _ => ?_,
    fun b xs q => by rw [upd_ne (hm b _ q fun z => z)]; exact q, fun b u xs q => by rw [upd_ne (hm b _ q fun z => z)]; exact q, fun b ps q => ⟨#[], by rw [upd_ne (hm b _ q fun z => z), q]; simp⟩⟩
  by_cases hbe : b = e
  · subst hbe; exact heo
  · exact ⟨u, k b u hbe q⟩
end

/-! ### the heap without what is tracked -/
def trk (h : Heap) (H : Hp) : List Addr := (List.range h.objs.size).filter fun a => (H a).isSome
def hidT (h : Heap) (H : Hp) : Heap := PySem.W.hideAll h (trk h H)
theorem hidT_size (h : Heap) (H : Hp) : (hidT h H).objs.size = h.objs.size := PySem.W.hideAll_size _ _
theorem hidT_get {h : Heap} {H : Hp} {b : Addr} {o : Obj} (e : h.get? b = some o) (n : H b = none) : (hidT h H).get? b = some o :=
  PySem.W.hideAll_get _ e fun hm => by
    have q : (H b).isSome = true := (List.mem_filter.mp hm).2
    rw [n] at q; simp at q
theorem of_hidT {h : Heap} {H : Hp} {b : Addr} {o : Obj} (e : (hidT h H).get? b = some o) : h.get? b = some o ∧ H b = none := by
  have e' : h.get? b = some o := PySem.W.of_hideAll (trk h H) e
  refine ⟨e', ?_⟩
  cases q : H b with
  | none => rfl
  | some x =>
    have hm : b ∈ trk h H := List.mem_filter.mpr ⟨List.mem_range.mpr (Heap.lt_size e'), by simp [q]⟩
    have z : (hidT h H).get? b = none := PySem.W.hideAll_none (trk h H) hm
    rw [z] at e; cases e

/-! ### OpenK's ledger, filled with every new object but one -/
def allNews (g h : Heap) (L : Addr) : List (Addr × Obj) := (List.range h.objs.size).filterMap fun a => if a = L ∨ (g.get? a).isSome = true then none else (h.get? a).map fun o => (a, o)
def rest (g h : Heap) (L d : Addr) : List (Addr × Obj) := (allNews g h L).filter fun p => decide (p.1 ≠ d)
end L2

namespace L2
open PySem PySem.Spec PyProof.Rows

/-- the module's facts, over the base: the heap at the law's entry without what is tracked there -/
structure Mod (K : PySem.W.Frag) (mg : Str → Option Value) (base : Heap) : Prop where
  kin : K.In base
  glob : base.Ns mainGlobals mg
  blt : ∃ mb, base.Ns builtinsNs mb ∧ ∀ x : Str, x ≠ "__name__" → mb x = bootBuiltins x
  nolimit : base.NoLimit

/-- the context: a def's body (or a comprehension's block) running. base: fixed through the whole law; s₀, H₀: the entry; outer: the frames whose slots others may change (a def's callers); stack: all frames that run;
   ex: iterators that were made ahead of the entry and are walked here (a comprehension's); fn: the names whose cells were made at the entry (a def: all; a comprehension's block: its own); calm: not within an except suite; pn: pins that every state bears; xe: what is wanted of an exception that leaves the code -/
structure Cx where
  prog : Program
  w : World
  K : PySem.W.Frag
  mg : Str → Option Value
  base : Heap
  A : Around
  N : List Str
  s₀ : Shared
  H₀ : Hp
  env : Env
  outer : List Env
  stack : List Env
  ex : List Addr
  fn : Str → Bool
  calm : Bool
  pn : List (Addr × Obj)
  xe : Value → Shared → Prop
/-- the callers' frames -/
def frs (l : List Env) : List Addr := l.filterMap (·.frame)
abbrev Cx.fs (X : Cx) : List Addr := frs X.outer

def Vis (sc : Scope) (x : Str) : Prop := sc.names.lookup x = some .local ∨ sc.names.lookup x = some .cell ∨ sc.names.lookup x = some .free
def Loc (sc : Scope) (x : Str) : Prop := sc.names.lookup x = some .local ∨ sc.names.lookup x = some .cell
def Look (env : Env) (h : Heap) (m : Str → Option Value) (x : Str) (u : Value) : Prop :=
  (env.kindOf x = some .local ∧ m x = some u) ∨ ((env.kindOf x = some .cell ∨ env.kindOf x = some .free) ∧ ∃ c, env.cells.lookup x = some c ∧ h.IsCell c (some u))

structure Cx.Ok (X : Cx) : Prop where
  mod : Mod X.K X.mg X.base
  kind : X.env.scope.kind = .function
  glob : X.env.globals = mainGlobals
  blt : X.env.builtins = builtinsNs
  above : X.s₀.heap.objs.size ≤ X.env.locals
  inj : ∀ x y c, X.env.cells.lookup x = some c → X.env.cells.lookup y = some c → x = y
  has : ∀ x, (X.env.kindOf x = some .cell ∨ X.env.kindOf x = some .free) → ∃ c, X.env.cells.lookup x = some c
  cab : ∀ x c, X.fn x = true → X.env.cells.lookup x = some c → X.s₀.heap.objs.size ≤ c
  hd : X.calm = true → X.A.handled = none
  frames : X.A.frames = some X.stack
  stk : X.stack = X.outer ∨ (X.stack = X.env :: X.outer ∧ X.env.frame = some X.env.locals)
  exf : ∀ b ∈ X.ex, b ≠ X.env.locals ∧ ∀ x c, X.env.cells.lookup x = some c → c ≠ b
  bs : ∀ b o, X.base.get? b = some o → X.s₀.heap.get? b = some o ∧ X.H₀ b = none
  bsz : X.base.objs.size ≤ X.s₀.heap.objs.size
  noex : ∀ b o, X.base.get? b = some o → b ∉ X.ex
  exfs : ∀ b ∈ X.ex, b ∉ X.fs
  funs : X.s₀.heap.FunFrames X.base X.outer
  frf : ∀ b ∈ X.fs, X.H₀ b = none

structure Inv (X : Cx) (pins : List (Addr × Obj)) (σ : List (Option V)) (H : Hp) (s : Shared) : Prop where
  ok : X.Ok
  os : s.os = X.s₀.os
  bare : AllBare s.gens
  base : Un X.fs X.ex X.H₀ H X.s₀.heap s.heap
  loc : ∃ m, s.heap.Ns X.env.locals m ∧ ∀ (i : Nat) (x : Str) (v : V), X.N[i]? = some x → σ[i]? = some (some v) → Vis X.env.scope x → ∃ u, RelV v u ∧ Look X.env s.heap m x u
  cell : ∀ x c, X.env.cells.lookup x = some c → ∃ v, s.heap.IsCell c v
  free : H X.env.locals = none
  freeC : ∀ x c, X.env.cells.lookup x = some c → H c = none
  pin : ∀ p ∈ X.pn ++ pins, s.heap.get? p.1 = some p.2 ∧ H p.1 = none ∧ p.1 ≠ X.env.locals ∧ p.1 ∉ X.fs ∧ ∀ v, p.2.data ≠ .cell v
  hok : HOk X.prog X.w H s.heap
  len : σ.length = X.N.length

section
variable {X : Cx} {pins : List (Addr × Obj)} {σ : List (Option V)} {H H' : Hp} {s : Shared} {h' : Heap}

theorem Cx.Ok.nofr (ok : X.Ok) {b : Addr} {o : Obj} (e : X.base.get? b = some o) : b ∉ X.fs := fun hb => by
  have := (ok.funs.mem hb).1
  rw [e] at this; cases this
theorem Inv.bs (I : Inv X pins σ H s) : ∀ b o, X.base.get? b = some o → s.heap.get? b = some o ∧ H b = none := fun b o e =>
  ⟨I.base.keep b o (I.ok.bs b o e).1 (I.ok.bs b o e).2 (I.ok.nofr e) (I.ok.noex b o e), I.base.free b o (I.ok.bs b o e).1 (I.ok.bs b o e).2 (I.ok.noex b o e)⟩
theorem Inv.bk (I : Inv X pins σ H s) : ∀ b o, X.base.get? b = some o → s.heap.get? b = some o := fun b o e => (I.bs b o e).1
theorem Inv.mod (I : Inv X pins σ H s) : Mod X.K X.mg X.base := I.ok.mod
theorem Inv.kIn (I : Inv X pins σ H s) : X.K.In s.heap := I.ok.mod.kin.keeps I.bk
/-- the frame over the base: for OpenK's rules (K.In X.base is I.mod.kin) -/
theorem Inv.fr (I : Inv X pins σ H s) : ∃ m, Fr X.base X.env.locals s.heap m :=
  let ⟨m, hn, _⟩ := I.loc
  ⟨m, hn, I.bk, Nat.le_trans I.ok.bsz I.ok.above⟩
theorem Inv.lt (I : Inv X pins σ H s) : X.env.locals < s.heap.objs.size := let ⟨_, hn, _⟩ := I.loc; hn.lt
theorem Inv.sz (I : Inv X pins σ H s) : X.s₀.heap.objs.size ≤ s.heap.objs.size := Nat.le_trans I.ok.above (Nat.le_of_lt I.lt)
theorem Inv.nofs (I : Inv X pins σ H s) {a : Addr} (h : s.heap.objs.size ≤ a) : a ∉ X.fs := fun hb => by
  obtain ⟨_, o, ho, _⟩ := I.ok.funs.mem hb
  exact absurd (Nat.lt_of_lt_of_le (Heap.lt_size ho) (Nat.le_trans I.sz h)) (Nat.lt_irrefl _)
theorem Inv.cne (I : Inv X pins σ H s) : ∀ x c, X.env.cells.lookup x = some c → c ≠ X.env.locals := fun x c e z => by
  obtain ⟨v, o, ho, hd⟩ := I.cell x c e
  obtain ⟨m, ⟨o', es, ep, ho', hd', _⟩, _⟩ := I.loc
  rw [z, ho'] at ho; cases ho; rw [hd'] at hd; cases hd
theorem Inv.funs (I : Inv X pins σ H s) : s.heap.FunFrames X.base X.outer := by
  have all : ∀ (l : List Env), (∀ b ∈ frs l, b ∈ X.fs) → X.s₀.heap.FunFrames X.base l → s.heap.FunFrames X.base l := by
    intro l
    induction l with
    | nil => intro _ _; trivial
    | cons env r ih =>
      intro hs hl
      obtain ⟨hk, ⟨L, o, hf, hn, ho, hd⟩, hr⟩ := hl
      have hL : L ∈ X.fs := hs L (by unfold frs; rw [List.filterMap_cons, hf]; exact List.mem_cons_self)
      obtain ⟨sl, e⟩ := I.base.slot L o ho (I.ok.frf L hL) hL fun z => I.ok.exfs L z hL
      exact ⟨hk, ⟨L, _, hf, hn, e, hd⟩, ih (fun b hb => hs b (by unfold frs; rw [List.filterMap_cons, hf]; exact List.mem_cons_of_mem _ hb)) hr⟩
  exact all X.outer (fun _ hb => hb) I.ok.funs

/-- the frames that run, for a call -/
theorem Inv.stack (I : Inv X pins σ H s) : s.heap.FunFrames X.base X.stack := by
  rcases I.ok.stk with e | ⟨e, hf⟩
  · rw [e]; exact I.funs
  · rw [e]
    obtain ⟨m, hn, _⟩ := I.loc
    refine .cons (by rw [I.ok.kind]; decide) hf hn ?_ I.funs
    exact Heap.get?_none_of_le (Nat.le_trans I.ok.bsz I.ok.above)
theorem Inv.stkSub (I : Inv X pins σ H s) : ∀ b ∈ frs X.stack, b ∈ X.env.locals :: X.fs := fun b hb => by
  rcases I.ok.stk with e | ⟨e, hf⟩
  · rw [e] at hb; exact List.mem_cons_of_mem _ hb
  · rw [e] at hb
    unfold frs at hb
    rw [List.filterMap_cons, hf] at hb
    exact hb
theorem Inv.stkFree (I : Inv X pins σ H s) : ∀ b ∈ frs X.stack, H b = none := fun b hb => by
  rcases List.mem_cons.mp (I.stkSub b hb) with e | hb
  · rw [e]; exact I.free
  · obtain ⟨_, o, ho, _⟩ := I.ok.funs.mem hb
    exact I.base.free b o ho (I.ok.frf b hb) fun z => I.ok.exfs b z hb

/-- THE STEP: the untracked objects but the frame and the records at ch are kept (the callers' frames up to slots), the frame's map is kept, the new abstract heap is held -/
theorem Inv.step {g' : Array GenState} {t' : Nat} {d' : Drawn} {ch : List Addr} (I : Inv X pins σ H s)
    (hch : ∀ b ∈ ch, (b ∈ X.ex ∨ X.s₀.heap.objs.size ≤ b) ∧ b ≠ X.env.locals ∧ (∀ x c, X.env.cells.lookup x = some c → c ≠ b) ∧ ∀ p ∈ X.pn ++ pins, p.1 ≠ b)
    (keep : ∀ b o, b ≠ X.env.locals → b ∉ X.fs → b ∉ ch → s.heap.get? b = some o → H b = none → h'.get? b = some o)
    (slot : ∀ b o, b ≠ X.env.locals → b ∈ X.fs → b ∉ ch → s.heap.get? b = some o → H b = none → ∃ sl, h'.get? b = some { o with slots := sl }) (free : ∀ b o, b ∉ ch → s.heap.get? b = some o → H b = none → H' b = none)
    (there : ∀ b o, b ∉ ch → s.heap.get? b = some o → ∃ o', h'.get? b = some o')
    (tups : ∀ b xs, H b = some (.tup xs) → H' b = some (.tup xs)) (frzs : ∀ b o u, H b = some (.frz o u) → H' b = some (.frz o u)) (tbls : ∀ b ps, H b = some (.tbl ps) → ∃ more, H' b = some (.tbl (ps ++ more)))
    (ns : ∀ m, s.heap.Ns X.env.locals m → h'.Ns X.env.locals m) (hok : HOk X.prog X.w H' h') (hg : AllBare g') :
    Inv X pins σ H' { s with heap := h', gens := g', drawn := d', toks := t' } := by
  have neL : ∀ b o, X.s₀.heap.get? b = some o → b ≠ X.env.locals := fun b o e => Nat.ne_of_lt (Nat.lt_of_lt_of_le (Heap.lt_size e) I.ok.above)
  have neC : ∀ b o, X.s₀.heap.get? b = some o → b ∉ X.ex → b ∉ ch := fun b o e hx hb => by
    rcases (hch b hb).1 with z | z
    · exact hx z
    · exact absurd (Nat.lt_of_lt_of_le (Heap.lt_size e) z) (Nat.lt_irrefl _)
  have cellK : ∀ x c, X.env.cells.lookup x = some c → ∀ v, s.heap.IsCell c v → h'.IsCell c v := fun x c e v ⟨o, ho, hd⟩ => by
    have nch : c ∉ ch := fun z => (hch c z).2.2.1 x c e rfl
    by_cases hc : c ∈ X.fs
    · obtain ⟨sl, q⟩ := slot c o (I.cne x c e) hc nch ho (I.freeC x c e)
      exact ⟨_, q, hd⟩
    · exact ⟨o, keep c o (I.cne x c e) hc nch ho (I.freeC x c e), hd⟩
  refine ⟨I.ok, I.os, hg, ⟨fun b o e n hb hx => ?_, fun b o e n hb hx => ?_, fun b o e n hx => ?_, fun b o e hx => ?_, fun b xs e => tups b xs (I.base.tups b xs e), fun b o xs e => frzs b o xs (I.base.frzs b o xs e), fun b ps e => ?_⟩, ?_, fun x c e => ?_, ?_, fun x c e => ?_, fun p hp => ?_, hok, I.len⟩
  · exact keep b o (neL b o e) hb (neC b o e hx) (I.base.keep b o e n hb hx) (I.base.free b o e n hx)
  · obtain ⟨sl, e1⟩ := I.base.slot b o e n hb hx
    obtain ⟨sl', e2⟩ := slot b _ (neL b o e) hb (neC b o e hx) e1 (I.base.free b o e n hx)
    exact ⟨sl', e2⟩
  · obtain ⟨o', e1⟩ := I.base.there b o e hx
    exact free b o' (neC b o e hx) e1 (I.base.free b o e n hx)
  · obtain ⟨o', e1⟩ := I.base.there b o e hx
    exact there b o' (neC b o e hx) e1
  · obtain ⟨m1, e1⟩ := I.base.tbls b ps e
    obtain ⟨m2, e2⟩ := tbls b _ e1
    exact ⟨m1 ++ m2, by rw [e2, Array.append_assoc]⟩
  · obtain ⟨m, hn, hl⟩ := I.loc
    refine ⟨m, ns m hn, fun i x v e1 e2 e3 => ?_⟩
    obtain ⟨u, r, l⟩ := hl i x v e1 e2 e3
    refine ⟨u, r, ?_⟩
    rcases l with l | ⟨k, c, e, z⟩
    · exact .inl l
    · exact .inr ⟨k, c, e, cellK x c e _ z⟩
  · obtain ⟨v, z⟩ := I.cell x c e
    exact ⟨v, cellK x c e v z⟩
  · obtain ⟨m, ⟨o, _, _, ho, _⟩, _⟩ := I.loc
    exact free _ o (fun z => (hch _ z).2.1 rfl) ho I.free
  · obtain ⟨v, o, ho, hd⟩ := I.cell x c e
    exact free c o (fun z => (hch c z).2.2.1 x c e rfl) ho (I.freeC x c e)
  · obtain ⟨e, n, ne, nf, d⟩ := I.pin p hp
    have nch : p.1 ∉ ch := fun z => (hch p.1 z).2.2.2 p hp rfl
    exact ⟨keep p.1 p.2 ne nf nch e n, free p.1 p.2 nch e n, ne, nf, d⟩
/-- .. where the frame's own object is kept too -/
theorem Inv.un {t' : Nat} (I : Inv X pins σ H s) (u : Un X.fs [] H H' s.heap h') (hok : HOk X.prog X.w H' h') : Inv X pins σ H' { s with heap := h', toks := t' } := by
  obtain ⟨m, ⟨o, es, ep, ho, r⟩, _⟩ := id I.loc
  obtain ⟨sl, hL⟩ := u.any ho I.free (by simp)
  exact I.step (g' := s.gens) (d' := s.drawn) (ch := []) (fun _ z => nomatch z) (fun b o _ hb _ e n => u.keep b o e n hb (by simp)) (fun b o _ hb _ e n => u.slot b o e n hb (by simp)) (fun b o _ e n => u.free b o e n (by simp)) (fun b o _ e => u.there b o e (by simp)) u.tups u.frzs u.tbls (fun m' hm => by
    obtain ⟨o', es', ep', ho', r'⟩ := hm
    rw [ho] at ho'; cases ho'
    exact ⟨_, es', ep', hL, r'⟩) hok I.bare
/-- behind a call (or a comprehension's block): the slots of this frame may have changed too, the records at ch may have turned -/
theorem Inv.call {g' : Array GenState} {t' : Nat} {d' : Drawn} {ch : List Addr} (I : Inv X pins σ H s) (u : Un (frs X.stack) ch H H' s.heap h') (hok : HOk X.prog X.w H' h') (hg : AllBare g')
    (hch : ∀ b ∈ ch, (b ∈ X.ex ∨ X.s₀.heap.objs.size ≤ b) ∧ b ≠ X.env.locals ∧ (∀ x c, X.env.cells.lookup x = some c → c ≠ b) ∧ ∀ p ∈ X.pn ++ pins, p.1 ≠ b) :
    Inv X pins σ H' { s with heap := h', gens := g', drawn := d', toks := t' } := by
  obtain ⟨m, ⟨o, es, ep, ho, r⟩, _⟩ := id I.loc
  obtain ⟨sl, hL⟩ := u.any ho I.free fun z => (hch _ z).2.1 rfl
  exact I.step (ch := ch) hch (fun b o hL hb hc e n => u.keep b o e n (fun z => (List.mem_cons.mp (I.stkSub b z)).elim hL hb) hc) (fun b o _ _ hc e n => u.any e n hc) (fun b o hc e n => u.free b o e n hc) (fun b o hc e => u.there b o e hc) u.tups u.frzs u.tbls (fun m' hm => by
    obtain ⟨o', es', ep', ho', r'⟩ := hm
    rw [ho] at ho'; cases ho'
    exact ⟨_, es', ep', hL, r'⟩) hok hg
/-- an untracked record of ours (an iterator) has turned -/
theorem Inv.turned {t' : Nat} {it : Addr} (I : Inv X pins σ H s) (k : ∀ b o, b ≠ it → s.heap.get? b = some o → h'.get? b = some o) (hn : H it = none) (hL : it ≠ X.env.locals)
    (h1 : it ∈ X.ex ∨ X.s₀.heap.objs.size ≤ it) (h2 : ∀ x c, X.env.cells.lookup x = some c → c ≠ it) (h3 : ∀ p ∈ X.pn ++ pins, p.1 ≠ it) : Inv X pins σ H { s with heap := h', toks := t' } := by
  have nit : ∀ b u, H b = some u → b ≠ it := fun b u e z => by rw [z, hn] at e; cases e
  refine I.step (g' := s.gens) (d' := s.drawn) (ch := [it]) (fun b hb => ?_) (fun b o _ _ hc e _ => k b o (fun z => hc (by simp [z])) e) (fun b o _ _ hc e _ => ⟨o.slots, k b o (fun z => hc (by simp [z])) e⟩) (fun _ _ _ _ n => n)
    (fun b o hc e => ⟨o, k b o (fun z => hc (by simp [z])) e⟩) (fun _ _ e => e) (fun _ _ _ e => e) (fun b ps e => ⟨#[], by rw [e]; simp⟩) (fun m hm => ?_) (fun b u e => ?_) I.bare
  · have e : b = it := by simpa using hb
    subst e
    exact ⟨h1, hL, h2, h3⟩
  · obtain ⟨o, es, ep, ho, r⟩ := hm
    exact ⟨o, es, ep, k _ o (Ne.symm hL) ho, r⟩
  · refine (I.hok b u e).stay (fun c v hc q => k c v ?_ q) (fun _ q => q) fun _ _ q => q
    rcases hc with z | z
    · rw [z]; exact nit b u e
    · exact nit c _ z
theorem Inv.tok (I : Inv X pins σ H s) (t : Nat) : Inv X pins σ H { s with toks := t } := I.un (h' := s.heap) (t' := t) Un.refl I.hok
/-- all objects kept -/
theorem Inv.kept {t' : Nat} (I : Inv X pins σ H s) (k : ∀ b u, s.heap.get? b = some u → h'.get? b = some u) : Inv X pins σ H { s with heap := h', toks := t' } := I.un (Un.kept k) (I.hok.kept k)
/-- a new object laid and tracked -/
theorem Inv.laid {a : Addr} {o : HO} {t' : Nat} (I : Inv X pins σ H s) (k : ∀ b u, s.heap.get? b = some u → h'.get? b = some u) (hp : s.heap.objs.size ≤ a) (new : ObjOk X.prog X.w (upd H a o) h' a o) :
    Inv X pins σ (upd H a o) { s with heap := h', toks := t' } := I.un (Un.laid k hp (I.hok.fresh hp)) (I.hok.laid k hp new)
/-- an object written -/
theorem Inv.write {x e : Addr} {o : HO} {t' : Nat} (I : Inv X pins σ H s) (mu : Mut (H x)) (he : e = x ∨ H e = some (.own x)) (k : ∀ b u, b ≠ e → s.heap.get? b = some u → h'.get? b = some u) (heo : ∃ u, h'.get? e = some u)
    (new : ObjOk X.prog X.w (upd H x o) h' x o) : Inv X pins σ (upd H x o) { s with heap := h', toks := t' } := I.un (Un.write mu he k heo) (I.hok.write mu he k heo new)
/-- forgetting slots, pins -/
theorem Inv.weak {σ' : List (Option V)} (I : Inv X pins σ H s) (hl : σ'.length = σ.length) (w : ∀ (i : Nat) v, σ'[i]? = some (some v) → σ[i]? = some (some v)) : Inv X pins σ' H s :=
  ⟨I.ok, I.os, I.bare, I.base, let ⟨m, hn, hl'⟩ := I.loc; ⟨m, hn, fun i x v e1 e2 e3 => hl' i x v e1 (w i v e2) e3⟩, I.cell, I.free, I.freeC, I.pin, I.hok, hl.trans I.len⟩
theorem Inv.pins_of {pins' : List (Addr × Obj)} (I : Inv X pins σ H s) (h : ∀ p ∈ pins', s.heap.get? p.1 = some p.2 ∧ H p.1 = none ∧ p.1 ≠ X.env.locals ∧ p.1 ∉ X.fs ∧ ∀ v, p.2.data ≠ .cell v) : Inv X pins' σ H s :=
  ⟨I.ok, I.os, I.bare, I.base, I.loc, I.cell, I.free, I.freeC, fun p hp => (List.mem_append.mp hp).elim (fun z => I.pin p (List.mem_append_left _ z)) (h p), I.hok, I.len⟩

theorem nodup_ix {N : List Str} (hN : N.Nodup) {i j : Nat} {x : Str} (a : N[i]? = some x) (b : N[j]? = some x) : i = j := by
  obtain ⟨h1, e1⟩ := List.getElem?_eq_some_iff.mp a
  obtain ⟨h2, e2⟩ := List.getElem?_eq_some_iff.mp b
  exact (List.getElem_inj hN).mp (e1.trans e2.symm)

/-- a name is stored; what changed -/
theorem store_ok2 {M : Model} {A : Around} {E : Value → Shared → Prop} {i : Nat} {x : Str} {v : V} {u : Value} {Q : Unit → Shared → Prop} (I : Inv X pins σ H s) (hN : X.N.Nodup) (hi : X.N[i]? = some x) (hx : Loc X.env.scope x) (r : RelV v u)
    (h : ∀ s', Inv X pins (σ.set i (some v)) H s' → (∃ a, Heap.SameBut a s.heap s'.heap ∧ (a = X.env.locals ∨ X.env.cells.lookup x = some a)) → Q () s') (hf : X.fn x = true ∨ X.env.scope.names.lookup x = some .local := by first | exact .inl rfl | exact .inr rfl | assumption) : wpAny M A (storeName X.env x u) Q E s := by
  obtain ⟨m, hn, hl⟩ := id I.loc
  have hcls : (X.env.scope.kind == .class || (X.env.scope.kind == .module && X.env.locals != X.env.globals)) = false := by rw [I.ok.kind]; rfl
  have hiσ : i < σ.length := by rw [I.len]; exact (List.getElem?_eq_some_iff.mp hi).1
  have cne := I.cne
  have tracked : ∀ {a : Addr} {h' : Heap}, (∃ o, s.heap.get? a = some o ∧ H a = none) → Heap.SameBut a s.heap h' → HOk X.prog X.w H h' := fun {a h'} ha hs b ob e => by
    obtain ⟨_, _, hfree⟩ := ha
    refine (I.hok b ob e).stay (fun c w' hc q => (hs.2 c ?_).trans q) (fun _ q => q) fun _ _ q => q
    rintro rfl
    rcases hc with rfl | hc
    · rw [hfree] at e; cases e
    · rw [hfree] at hc; cases hc
  rcases hx with hk | hk
  · refine wpAny_storeName_local hk hn (fun h' hn' hs => ?_) hcls
    obtain ⟨oL, _, _, hoL, _⟩ := id hn
    refine h _ ⟨I.ok, I.os, I.bare, ⟨fun b o e n hb hx => ?_, fun b o e n hb hx => ?_, I.base.free, fun b o e hx => ?_, I.base.tups, I.base.frzs, I.base.tbls⟩, ⟨_, hn', fun j y v' e1 e2 e3 => ?_⟩, fun y c e => ?_, I.free, I.freeC, fun p hp => ?_, tracked ⟨oL, hoL, I.free⟩ hs, by simpa using I.len⟩ ⟨_, hs, .inl rfl⟩
    · exact (hs.2 b (Nat.ne_of_lt (Nat.lt_of_lt_of_le (Heap.lt_size e) I.ok.above))).trans (I.base.keep b o e n hb hx)
    · obtain ⟨sl, e1⟩ := I.base.slot b o e n hb hx
      exact ⟨sl, (hs.2 b (Nat.ne_of_lt (Nat.lt_of_lt_of_le (Heap.lt_size e) I.ok.above))).trans e1⟩
    · obtain ⟨o', e1⟩ := I.base.there b o e hx
      exact ⟨o', (hs.2 b (Nat.ne_of_lt (Nat.lt_of_lt_of_le (Heap.lt_size e) I.ok.above))).trans e1⟩
    · by_cases hj : j = i
      · subst hj
        rw [hi] at e1; cases e1
        rw [List.getElem?_set_self hiσ] at e2
        cases e2
        exact ⟨u, r, .inl ⟨hk, by simp⟩⟩
      · rw [List.getElem?_set_ne (Ne.symm hj)] at e2
        obtain ⟨u', r', q⟩ := hl j y v' e1 e2 e3
        refine ⟨u', r', ?_⟩
        rcases q with ⟨k, e⟩ | ⟨k, c, e, z⟩
        · refine .inl ⟨k, ?_⟩
          have : y ≠ x := fun e => hj (nodup_ix hN e1 (e ▸ hi))
          simp [this, e]
        · exact .inr ⟨k, c, e, z.sameBut hs (cne y c e)⟩
    · obtain ⟨w', z⟩ := I.cell y c e
      exact ⟨w', z.sameBut hs (cne y c e)⟩
    · obtain ⟨e, n, ne, nf, d⟩ := I.pin p hp
      exact ⟨(hs.2 p.1 ne).trans e, n, ne, nf, d⟩
  · have hfn : X.fn x = true := by
      rcases hf with z | z
      · exact z
      · rw [z] at hk; cases hk
    obtain ⟨c, hc⟩ := I.ok.has x (.inl hk)
    obtain ⟨w', z⟩ := I.cell x c hc
    refine wpAny_storeName_cell I.ok.kind hk hc z (fun h' hc' hs => ?_)
    obtain ⟨oc, hoc, hocd⟩ := id z
    refine h { s with heap := h' } ⟨I.ok, I.os, I.bare, ⟨fun b o e n hb hx => ?_, fun b o e n hb hx => ?_, I.base.free, fun b o e hx => ?_, I.base.tups, I.base.frzs, I.base.tbls⟩, ⟨m, hn.sameBut hs (Ne.symm (cne x c hc)), fun j y v' e1 e2 e3 => ?_⟩, fun y c' e => ?_, I.free, I.freeC, fun p hp => ?_, tracked ⟨oc, hoc, I.freeC x c hc⟩ hs, by simpa using I.len⟩ ⟨c, hs, .inr hc⟩
    · exact (hs.2 b (Nat.ne_of_lt (Nat.lt_of_lt_of_le (Heap.lt_size e) (I.ok.cab x c hfn hc)))).trans (I.base.keep b o e n hb hx)
    · obtain ⟨sl, e1⟩ := I.base.slot b o e n hb hx
      exact ⟨sl, (hs.2 b (Nat.ne_of_lt (Nat.lt_of_lt_of_le (Heap.lt_size e) (I.ok.cab x c hfn hc)))).trans e1⟩
    · obtain ⟨o', e1⟩ := I.base.there b o e hx
      exact ⟨o', (hs.2 b (Nat.ne_of_lt (Nat.lt_of_lt_of_le (Heap.lt_size e) (I.ok.cab x c hfn hc)))).trans e1⟩
    · by_cases hj : j = i
      · subst hj
        rw [hi] at e1; cases e1
        rw [List.getElem?_set_self hiσ] at e2
        cases e2
        exact ⟨u, r, .inr ⟨.inl hk, c, hc, hc'⟩⟩
      · rw [List.getElem?_set_ne (Ne.symm hj)] at e2
        obtain ⟨u', r', q⟩ := hl j y v' e1 e2 e3
        refine ⟨u', r', ?_⟩
        rcases q with q | ⟨k, c', e, z'⟩
        · exact .inl q
        · refine .inr ⟨k, c', e, z'.sameBut hs ?_⟩
          rintro rfl
          exact hj (nodup_ix hN e1 (I.ok.inj _ _ _ e hc ▸ hi))
    · by_cases hcc : c' = c
      · subst hcc; exact ⟨_, hc'⟩
      · obtain ⟨w2, z2⟩ := I.cell y c' e
        exact ⟨w2, z2.sameBut hs hcc⟩
    · obtain ⟨e, n, ne, nf, d⟩ := I.pin p hp
      refine ⟨(hs.2 p.1 ?_).trans e, n, ne, nf, d⟩
      intro q
      rw [q, hoc] at e
      have q' : oc = p.2 := Option.some.inj e
      exact d w' (by rw [← q']; exact hocd)
theorem store_ok {M : Model} {A : Around} {E : Value → Shared → Prop} {i : Nat} {x : Str} {v : V} {u : Value} {Q : Unit → Shared → Prop} (I : Inv X pins σ H s) (hN : X.N.Nodup) (hi : X.N[i]? = some x) (hx : Loc X.env.scope x) (r : RelV v u)
    (h : ∀ s', Inv X pins (σ.set i (some v)) H s' → Q () s') (hf : X.fn x = true ∨ X.env.scope.names.lookup x = some .local := by first | exact .inl rfl | exact .inr rfl | assumption) : wpAny M A (storeName X.env x u) Q E s :=
  store_ok2 I hN hi hx r (fun s' I' _ => h s' I') hf
/-- behind a call or a block, the state as it is -/
theorem Inv.call' {s' : Shared} {ch : List Addr} (I : Inv X pins σ H s) (ho : s'.os = s.os) (u : Un (frs X.stack) ch H H' s.heap s'.heap) (hok : HOk X.prog X.w H' s'.heap) (hg : AllBare s'.gens)
    (hch : ∀ b ∈ ch, (b ∈ X.ex ∨ X.s₀.heap.objs.size ≤ b) ∧ b ≠ X.env.locals ∧ (∀ x c, X.env.cells.lookup x = some c → c ≠ b) ∧ ∀ p ∈ X.pn ++ pins, p.1 ≠ b) : Inv X pins σ H' s' := by
  obtain ⟨h', g', d', t', o'⟩ := s'
  have e : o' = s.os := ho
  subst e
  exact I.call (g' := g') (t' := t') (d' := d') u hok hg hch
end

/-! ### the judgements -/
/-- an exception: its class, its own dict's address (where it has one), the abstract heap behind it -/
abbrev XK := Value → Option Addr → Hp → Prop
abbrev St := List (Option V)
abbrev VK := V → Hp → Prop
/-- an expression's reading; a test's; an argument list's -/
abbrev TE := St → Hp → VK → Prop
abbrev TT := St → Hp → (Bool → Hp → Prop) → Prop
abbrev TA := St → Hp → (List V → Hp → Prop) → Prop
/-- what is wanted behind a statement -/
structure Ends where
  nx : St → Hp → Prop
  rt : VK
  bk : St → Hp → Prop := fun _ _ => False
  ct : St → Hp → Prop := fun _ _ => False
abbrev TS := Ends → St → Hp → Prop

def EP (X : Cx) (pins : List (Addr × Obj)) (σ : St) (Q : VK) (u : Value) (s' : Shared) : Prop := ∃ v H', Inv X pins σ H' s' ∧ RelV v u ∧ Q v H'
def TP (X : Cx) (pins : List (Addr × Obj)) (σ : St) (Q : Bool → Hp → Prop) (b : Bool) (s' : Shared) : Prop := ∃ H', Inv X pins σ H' s' ∧ Q b H'
def AP (X : Cx) (pins : List (Addr × Obj)) (σ : St) (Q : List V → Hp → Prop) (us : List Value) (s' : Shared) : Prop := ∃ vs H', Inv X pins σ H' s' ∧ Vals vs us ∧ Q vs H'
def SP (X : Cx) (pins : List (Addr × Obj)) (D : Ends) (f : Flow) (s' : Shared) : Prop :=
  match f with
  | .next => ∃ σ' H', Inv X pins σ' H' s' ∧ D.nx σ' H'
  | .brk => ∃ σ' H', Inv X pins σ' H' s' ∧ D.bk σ' H'
  | .cont => ∃ σ' H', Inv X pins σ' H' s' ∧ D.ct σ' H'
  | .ret u => ∃ v σ' H', Inv X pins σ' H' s' ∧ RelV v u ∧ D.rt v H'

def PE (X : Cx) (e : Expr) (t : TE) : Prop :=
  ∀ (pins : List (Addr × Obj)) (s : Shared) (σ : St) (H : Hp) (Q : VK), Inv X pins σ H s → t σ H Q → wpAny (model X.prog X.w) X.A (eval e X.env) (EP X pins σ Q) X.xe s
def PT (X : Cx) (e : Expr) (t : TT) : Prop :=
  ∀ (pins : List (Addr × Obj)) (s : Shared) (σ : St) (H : Hp) (Q : Bool → Hp → Prop), Inv X pins σ H s → t σ H Q → wpAny (model X.prog X.w) X.A (isTrue e X.env (eval e X.env)) (TP X pins σ Q) X.xe s
/-- a test whatever its 'whole' is (and, or) -/
def PW (X : Cx) (e : Expr) (t : TT) : Prop :=
  ∀ (whole : Sem Value) (pins : List (Addr × Obj)) (s : Shared) (σ : St) (H : Hp) (Q : Bool → Hp → Prop), Inv X pins σ H s → t σ H Q → wpAny (model X.prog X.w) X.A (isTrue e X.env whole) (TP X pins σ Q) X.xe s
theorem PW.pt {X : Cx} {e : Expr} {t : TT} (h : PW X e t) : PT X e t := h _
/-- an argument list (no star), from the left -/
def PA (X : Cx) (es : List Expr) (t : TA) : Prop :=
  ∀ (pos : Pos) (pins : List (Addr × Obj)) (s : Shared) (σ : St) (H : Hp) (Q : List V → Hp → Prop), Inv X pins σ H s → t σ H Q → wpAny (model X.prog X.w) X.A (spliced (backTo pos (starEach es X.env))) (AP X pins σ Q) X.xe s
def PS (X : Cx) (st : Stmt) (t : TS) : Prop :=
  ∀ (pins : List (Addr × Obj)) (s : Shared) (σ : St) (H : Hp) (D : Ends), Inv X pins σ H s → t D σ H → wpAny (model X.prog X.w) X.A (exec st X.env) (SP X pins D) X.xe s
def PSs (X : Cx) (st : List Stmt) (t : TS) : Prop :=
  ∀ (pins : List (Addr × Obj)) (s : Shared) (σ : St) (H : Hp) (D : Ends), Inv X pins σ H s → t D σ H → wpAny (model X.prog X.w) X.A (execs st X.env) (SP X pins D) X.xe s
/-- weaken the end -/
theorem thn {α : Type} {t : Sem α} {Q Q' : α → Shared → Prop} {M : Model} {A : Around} {E : Value → Shared → Prop} {s : Shared} (h : wpAny M A t Q E s) (hQ : ∀ a s, Q a s → Q' a s) : wpAny M A t Q' E s := wpAny_mono h hQ fun _ _ x => x
end L2

namespace L2
open PySem PySem.Spec PyProof.Rows
section
variable {X : Cx}

/-- two expressions in a row -/
theorem bin {a b : Expr} {ta tb : TE} (ha : PE X a ta) (hb : PE X b tb) {pins : List (Addr × Obj)} {s : Shared} {σ : St} {H : Hp} {R : V → V → Hp → Prop} (I : Inv X pins σ H s) (h : ta σ H fun x H1 => tb σ H1 fun y H2 => R x y H2)
    {α : Type} {Q : α → Shared → Prop} {f : Value → Value → Sem α}
    (hf : ∀ v u s2 x y H2, Inv X pins σ H2 s2 → RelV x v → RelV y u → R x y H2 → wpAny (model X.prog X.w) X.A (f v u) Q X.xe s2) :
    wpAny (model X.prog X.w) X.A (eval a X.env) (fun v s₁ => wpAny (model X.prog X.w) X.A (eval b X.env) (fun u s₂ => wpAny (model X.prog X.w) X.A (f v u) Q X.xe s₂) X.xe s₁) X.xe s := by
  refine thn (ha pins s σ H _ I h) fun v s1 ⟨x, H1, I1, r1, q1⟩ => ?_
  refine thn (hb pins s1 σ H1 _ I1 q1) fun u s2 ⟨y, H2, I2, r2, q2⟩ => ?_
  exact hf v u s2 x y H2 I2 r1 r2 q2

/-! ### names and constants -/
def tVar (i : Nat) : TE := fun σ H Q => ∃ v, σ[i]? = some (some v) ∧ Q v H
def tC (v : V) : TE := fun _ H Q => Q v H
theorem pe_var {i : Nat} {x : Str} {pos : Pos} (hN : X.N[i]? = some x) (hv : Vis X.env.scope x) (hd : (x == ("__debug__" : Str)) = false := by decide) (hcd : (x == ("__classdict__" : Str)) = false := by decide) : PE X (.Name x pos) (tVar i) := by
  intro pins s σ H Q I h
  obtain ⟨v, e, h⟩ := h
  obtain ⟨m, hn, hl⟩ := I.loc
  obtain ⟨u, r, l⟩ := hl i x v hN e hv
  have fin : EP X pins σ Q u s := ⟨v, H, I, r, h⟩
  rcases l with ⟨hk, hm⟩ | ⟨hk, c, hc, hcell⟩
  · exact wpAny_Name (wpAny_loadName_local I.ok.kind hk hn hm fin) hd
  · rcases hk with hk | hk
    · exact wpAny_Name (wpAny_loadName_cell I.ok.kind hk hc hcell fin) hd
    · exact wpAny_Name (wpAny_loadName_free I.ok.kind hk hc hcell fin hcd) hd
theorem pe_int {i j pos} : PE X (.Constant (.int i) j pos) (tC (.int i)) := fun _ _ _ H _ I h => wpAny_Constant_int ⟨.int i, H, I.tok _, ⟨_, rfl⟩, h⟩
theorem pe_bl {b j pos} : PE X (.Constant (.bool b) j pos) (tC (.bl b)) := fun _ _ _ H _ I h => Constant_bool ⟨.bl b, H, I, rfl, h⟩
theorem pe_non {j pos} : PE X (.Constant .none j pos) (tC .non) := fun _ _ _ H _ I h => Constant_none ⟨.non, H, I, rfl, h⟩
theorem pe_str {x j pos} : PE X (.Constant (.str x) j pos) (tC (.str x)) := fun _ _ _ H _ I h => Calls.Constant_str ⟨.str x, H, I.tok _, ⟨_, rfl⟩, h⟩

/-- a global name of the def -/
def Gl (X : Cx) (x : Str) : Prop := X.env.kindOf x = some .globalImplicit
theorem ld_glob {E : Value → Shared → Prop} {pins : List (Addr × Obj)} {s : Shared} {σ : St} {H : Hp} {x : Str} {u : Value} {pos : Pos} {Q : Value → Shared → Prop} (I : Inv X pins σ H s) (hg : Gl X x) (hm : X.mg x = some u) (h : Q u s)
    (hd : (x == ("__debug__" : Str)) = false := by decide) : wpAny (model X.prog X.w) X.A (eval (.Name x pos) X.env) Q E s :=
  Calls.Name_function_global I.ok.kind hg (Calls.loadGlobal_global (by rw [I.ok.glob]; exact I.mod.glob.keeps I.bk) hm h) hd
theorem ld_blt {E : Value → Shared → Prop} {pins : List (Addr × Obj)} {s : Shared} {σ : St} {H : Hp} {x : Str} {u : Value} {pos : Pos} {Q : Value → Shared → Prop} (I : Inv X pins σ H s) (hg : Gl X x) (hm : X.mg x = none) (hv : bootBuiltins x = some u) (h : Q u s)
    (hn : x ≠ "__name__" := by decide) (hd : (x == ("__debug__" : Str)) = false := by decide) : wpAny (model X.prog X.w) X.A (eval (.Name x pos) X.env) Q E s := by
  obtain ⟨mb, h1, h2⟩ := I.mod.blt
  exact Calls.Name_function_global I.ok.kind hg (Calls.loadGlobal_builtin (by rw [I.ok.glob]; exact I.mod.glob.keeps I.bk) hm (by rw [I.ok.blt]; exact h1.keeps I.bk) ((h2 x hn).trans hv) h) hd
/-- a module's constant, a class, a function, as a value -/
theorem pe_glob {x : Str} {v : V} {u : Value} {pos : Pos} (hg : Gl X x) (hm : X.mg x = some u) (r : RelV v u) (hd : (x == ("__debug__" : Str)) = false := by decide) : PE X (.Name x pos) (tC v) :=
  fun _ _ _ H _ I h => ld_glob I hg hm ⟨v, H, I, r, h⟩ hd
theorem pe_bltn {x : Str} {v : V} {u : Value} {pos : Pos} (hg : Gl X x) (hm : X.mg x = none) (hv : bootBuiltins x = some u) (r : RelV v u) (hn : x ≠ "__name__" := by decide) (hd : (x == ("__debug__" : Str)) = false := by decide) : PE X (.Name x pos) (tC v) :=
  fun _ _ _ H _ I h => ld_blt I hg hm hv ⟨v, H, I, r, h⟩ hn hd

/-! ### arithmetic -/
/-- two ints -/
def t2I (ta tb : TE) (k : Int → Int → Hp → Prop) : St → Hp → Prop := fun σ H => ta σ H fun x H1 => tb σ H1 fun y H2 => ∃ i j, x = .int i ∧ y = .int j ∧ k i j H2
def tAdd (ta tb : TE) : TE := fun σ H Q => t2I ta tb (fun i j H2 => Q (.int (i + j)) H2) σ H
def tSub (ta tb : TE) : TE := fun σ H Q => t2I ta tb (fun i j H2 => Q (.int (i - j)) H2) σ H
/-- the left factor below 2^64 -/
def tMul (ta tb : TE) : TE := fun σ H Q => t2I ta tb (fun i j H2 => (-(2 ^ 64) < i ∧ i < 2 ^ 64) ∧ Q (.int (i * j)) H2) σ H
variable {a b : Expr} {ta tb : TE} {pos : Pos}
/-! ### comparisons -/
def PC (X : Cx) (op : CmpOp) (a b : Expr) (t : TE) : Prop :=
  ∀ (pins : List (Addr × Obj)) (s : Shared) (σ : St) (H : Hp) (Q : VK), Inv X pins σ H s → t σ H Q →
    wpAny (model X.prog X.w) X.A (eval a X.env) (fun v s₁ => wpAny (model X.prog X.w) X.A (eval b X.env) (fun u s₂ => wpAny (model X.prog X.w) X.A (compareOp op v u) (EP X pins σ Q) X.xe s₂) X.xe s₁) X.xe s
def tCmp (p : Int → Int → Bool) (ta tb : TE) : TE := fun σ H Q => t2I ta tb (fun i j H2 => Q (.bl (p i j)) H2) σ H
abbrev tLt : TE → TE → TE := tCmp fun i j => decide (i < j)
abbrev tLe : TE → TE → TE := tCmp fun i j => decide (i ≤ j)
abbrev tGt : TE → TE → TE := tCmp fun i j => decide (j < i)
abbrev tGe : TE → TE → TE := tCmp fun i j => decide (j ≤ i)
abbrev tEqI : TE → TE → TE := tCmp fun i j => decide (i = j)
abbrev tNeI : TE → TE → TE := tCmp fun i j => !decide (i = j)
/-- is None -/
def tIsN (ta : TE) : TE := fun σ H Q => ta σ H fun x H1 => Q (.bl (decide (x = .non))) H1
def tNotN (ta : TE) : TE := fun σ H Q => ta σ H fun x H1 => Q (.bl (!decide (x = .non))) H1
/-- a comparison as a value, as a test -/
def tB (t : TE) : TT := fun σ H Q => t σ H fun x H1 => ∃ c, x = .bl c ∧ Q c H1
theorem pt_cmp {op : CmpOp} {t : TE} (h : PC X op a b t) (h1 : behindInMarks op b = false := by first | exact nobehind _ (by decide) (by decide) | rfl) : PT X (.Compare a [op] [b] pos) (tB t) := by
  intro pins s σ H Q I hw
  refine wpAny_isTrue_Compare1 (thn (h pins s σ H _ I hw) fun v s1 h1 => thn h1 fun u s2 h2 => thn h2 fun c s3 ⟨x, H1, I1, r1, q1⟩ => ?_) h1
  obtain ⟨d, rfl, q⟩ := q1
  cases r1
  exact wpAny_truthy_bool ⟨H1, I1, q⟩
/-- an expression whose value is a bool, as a test -/
theorem pt_val {e : Expr} {t : TE} (h : PE X e t) (he : ∀ whole, isTrue e X.env whole = (do let v ← whole; standAt e.pos; holding [v] (truthy v)) := by intro _; rfl) : PT X e (tB t) := by
  intro pins s σ H Q I hw
  refine isTrue_plain (thn (h pins s σ H _ I hw) fun v s1 ⟨x, H1, I1, r1, q1⟩ => ?_) (he _)
  obtain ⟨d, rfl, q⟩ := q1
  cases r1
  exact wpAny_truthy_bool ⟨H1, I1, q⟩

/-! ### and, or, not -/
variable {tA tB' : TT} {rest : List Expr}
def tAnd (t u : TT) : TT := fun σ H Q => t σ H fun c H1 => if c = true then u σ H1 Q else Q false H1
def tOr (t u : TT) : TT := fun σ H Q => t σ H fun c H1 => if c = true then Q true H1 else u σ H1 Q
def tNot (t : TT) : TT := fun σ H Q => t σ H fun c H1 => Q (!c) H1
theorem pw_and1 (ha : PT X a tA) : PW X (.BoolOp .And [a] pos) tA := by
  intro wh pins s σ H Q I h
  refine isTrue_and (thn (ha pins s σ H Q I h) fun c s1 e => ?_)
  cases c with
  | true => exact isTrue_and_nil e
  | false => exact e
theorem pw_or1 (ha : PT X a tA) : PW X (.BoolOp .Or [a] pos) tA := by
  intro wh pins s σ H Q I h
  refine isTrue_or (thn (ha pins s σ H Q I h) fun c s1 e => ?_)
  cases c with
  | false => exact isTrue_or_nil e
  | true => exact e
theorem pw_and (ha : PT X a tA) (hb : PW X (.BoolOp .And (b :: rest) pos) tB') : PW X (.BoolOp .And (a :: b :: rest) pos) (tAnd tA tB') := by
  intro wh pins s σ H Q I h
  refine isTrue_and (thn (ha pins s σ H _ I h) fun c s1 ⟨H1, I1, q1⟩ => ?_)
  cases c with
  | true => exact hb wh pins s1 σ H1 Q I1 q1
  | false => exact ⟨H1, I1, q1⟩
theorem pw_or (ha : PT X a tA) (hb : PW X (.BoolOp .Or (b :: rest) pos) tB') : PW X (.BoolOp .Or (a :: b :: rest) pos) (tOr tA tB') := by
  intro wh pins s σ H Q I h
  refine isTrue_or (thn (ha pins s σ H _ I h) fun c s1 ⟨H1, I1, q1⟩ => ?_)
  cases c with
  | true => exact ⟨H1, I1, q1⟩
  | false => exact hb wh pins s1 σ H1 Q I1 q1
theorem pt_not (ha : PT X a tA) : PT X (.UnaryOp .Not a pos) (tNot tA) := by
  intro pins s σ H Q I h
  exact isTrue_not (ha pins s σ H (fun c H1 => Q (!c) H1) I h)
/-- .. as values (bools) -/
def tAndV (ta tb : TE) : TE := fun σ H Q => ta σ H fun x H1 => ∃ c, x = .bl c ∧ if c = true then tb σ H1 Q else Q (.bl false) H1
def tOrV (ta tb : TE) : TE := fun σ H Q => ta σ H fun x H1 => ∃ c, x = .bl c ∧ if c = true then Q (.bl true) H1 else tb σ H1 Q
def tNotV (ta : TE) : TE := fun σ H Q => ta σ H fun x H1 => ∃ c, x = .bl c ∧ Q (.bl (!c)) H1
theorem pe_one {op} {t : TE} (h : PE X a t) : PE X (.BoolOp op [a] pos) t := fun pins s σ H Q I hw => BoolOp_one (h pins s σ H Q I hw)
theorem pe_and (ha : PE X a ta) (hb : PE X (.BoolOp .And (b :: rest) pos) tb) : PE X (.BoolOp .And (a :: b :: rest) pos) (tAndV ta tb) := by
  intro pins s σ H Q I h
  refine BoolOp_and (thn (ha pins s σ H _ I h) fun v s1 ⟨x, H1, I1, r1, q1⟩ => ?_)
  obtain ⟨c, rfl, q1⟩ := q1
  cases r1
  refine wpAny_truthy_bool ?_
  cases c with
  | true => exact hb pins s1 σ H1 Q I1 q1
  | false => exact ⟨.bl false, H1, I1, rfl, q1⟩
theorem pe_or (ha : PE X a ta) (hb : PE X (.BoolOp .Or (b :: rest) pos) tb) : PE X (.BoolOp .Or (a :: b :: rest) pos) (tOrV ta tb) := by
  intro pins s σ H Q I h
  refine BoolOp_or (thn (ha pins s σ H _ I h) fun v s1 ⟨x, H1, I1, r1, q1⟩ => ?_)
  obtain ⟨c, rfl, q1⟩ := q1
  cases r1
  refine wpAny_truthy_bool ?_
  cases c with
  | false => exact hb pins s1 σ H1 Q I1 q1
  | true => exact ⟨.bl true, H1, I1, rfl, q1⟩
theorem pe_not (ha : PE X a ta) : PE X (.UnaryOp .Not a pos) (tNotV ta) := by
  intro pins s σ H Q I h
  refine UnaryOp_ (thn (ha pins s σ H _ I h) fun v s1 ⟨x, H1, I1, r1, q1⟩ => ?_)
  obtain ⟨c, rfl, q1⟩ := q1
  cases r1
  exact not_of (wpAny_truthy_bool ⟨.bl (!c), H1, I1, rfl, q1⟩)
/-- a if t else b -/
def tIf (t : TT) (ta tb : TE) : TE := fun σ H Q => t σ H fun c H1 => if c = true then ta σ H1 Q else tb σ H1 Q
theorem pe_ifExp {c : Expr} (hc : PT X c tA) (ha : PE X a ta) (hb : PE X b tb) : PE X (.IfExp c a b pos) (tIf tA ta tb) := by
  intro pins s σ H Q I h
  refine wpAny_IfExp (thn (hc pins s σ H _ I h) fun d s1 ⟨H1, I1, q1⟩ => ?_)
  cases d with
  | true => exact ha pins s1 σ H1 Q I1 q1
  | false => exact hb pins s1 σ H1 Q I1 q1
end
end L2

namespace L2
open PySem PySem.Spec PyProof.Rows

/-! ### a list, a tuple that is read: tracked, frozen, or an object of the module -/
def SqL (K : PySem.W.Frag) (H : Hp) (a : Addr) (xs : List V) : Prop :=
  Rd H a (.lst xs) ∨
    ∃ (o : Obj) (its : Array Value) (n : Nat), K.lookup a = some o ∧ o.cls = .type "list" ∧ o.dict = none ∧ o.data = .seq its n ∧ its.size ≤ sizeLine ∧ Vals xs its.toList
def SqT (K : PySem.W.Frag) (H : Hp) (a : Addr) (xs : List V) : Prop :=
  Rd H a (.tup xs) ∨
    ∃ (o : Obj) (its : Array Value) (n : Nat), K.lookup a = some o ∧ o.cls = .type "tuple" ∧ o.data = .seq its n ∧ its.size ≤ sizeLine ∧ Vals xs its.toList
def absV : Value → Option V
  | .none => some .non
  | .bool b => some (.bl b)
  | .int i _ => some (.int i)
  | .str x _ => some (.str x)
  | .bytes b _ => some (.byt b)
  | .float b _ => some (.flt b)
  | .ref a => some (.ref a)
  | .type n => some (.ty n)
  | _ => none
theorem RelV.abs {x : V} {u : Value} (r : RelV x u) : absV u = some x := by
  cases x with
  | non => cases r; rfl
  | bl _ => cases r; rfl
  | int _ => obtain ⟨t, rfl⟩ := r; rfl
  | str _ => obtain ⟨t, rfl⟩ := r; rfl
  | byt _ => obtain ⟨t, rfl⟩ := r; rfl
  | flt _ => obtain ⟨t, rfl⟩ := r; rfl
  | ref _ => cases r; rfl
  | ty _ => cases r; rfl
theorem RelV.inj {x y : V} {u : Value} (r : RelV x u) (q : RelV y u) : x = y := Option.some.inj (r.abs.symm.trans q.abs)
theorem Vals.inj : ∀ {xs ys : List V} {us : List Value}, Vals xs us → Vals ys us → xs = ys
  | _, _, _, .nil, .nil => rfl
  | _, _, _, .cons r t, .cons r' t' => by rw [r.inj r', Vals.inj t t']
section
variable {X : Cx} {pins : List (Addr × Obj)} {σ : St} {H : Hp} {s : Shared} {a : Addr} {xs ys : List V}
theorem SqL.of {K : PySem.W.Frag} (h : H a = some (.lst xs)) : SqL K H a xs := .inl (.inl h)
theorem SqT.of {K : PySem.W.Frag} (h : H a = some (.tup xs)) : SqT K H a xs := .inl (.inl h)
theorem Inv.list (I : Inv X pins σ H s) (h : SqL X.K H a xs) : ∃ its : List Value, Vals xs its ∧ PlainL s.heap a its.toArray ∧ xs.length ≤ sizeLine := by
  rcases h with h | ⟨o, its, n, hk, hc, hd, hs, hz, r⟩
  · obtain ⟨z, its, n, r, e⟩ := h.ok I.hok
    exact ⟨its, r, ⟨_, n, e, rfl, rfl, rfl⟩, z⟩
  · refine ⟨its.toList, r, ⟨o, n, I.kIn a o hk, hc, hd, by simpa using hs⟩, ?_⟩
    have e := r.length
    simp only [Array.length_toList] at e
    omega
theorem Inv.tuple (I : Inv X pins σ H s) (h : SqT X.K H a xs) : ∃ its : List Value, Vals xs its ∧ IsTup s.heap a its.toArray ∧ xs.length ≤ sizeLine := by
  rcases h with h | ⟨o, its, n, hk, hc, hs, hz, r⟩
  · obtain ⟨z, its, r, p⟩ := h.ok I.hok
    exact ⟨its, r, p, z⟩
  · refine ⟨its.toList, r, ⟨o, I.kIn a o hk, hc, n, by simpa using hs⟩, ?_⟩
    have e := r.length
    simp only [Array.length_toList] at e
    omega
theorem Inv.list_inj (I : Inv X pins σ H s) (h : SqL X.K H a xs) (h' : SqL X.K H a ys) : xs = ys := by
  obtain ⟨its, r, ⟨o, n, e, _, _, d⟩, _⟩ := I.list h
  obtain ⟨its', r', ⟨o', n', e', _, _, d'⟩, _⟩ := I.list h'
  rw [e] at e'; cases e'
  rw [d] at d'
  injection d' with d1 _
  have : its = its' := by simpa using congrArg Array.toList d1
  subst this
  exact r.inj r'
theorem Inv.tuple_inj (I : Inv X pins σ H s) (h : SqT X.K H a xs) (h' : SqT X.K H a ys) : xs = ys := by
  obtain ⟨its, r, ⟨o, e, _, n, d⟩, _⟩ := I.tuple h
  obtain ⟨its', r', ⟨o', e', _, n', d'⟩, _⟩ := I.tuple h'
  rw [e] at e'; cases e'
  rw [d] at d'
  injection d' with d1 _
  have : its = its' := by simpa using congrArg Array.toList d1
  subst this
  exact r.inj r'
end

/-! ### another wish about exceptions -/
abbrev Cx.wish (X : Cx) (E : Value → Shared → Prop) : Cx := { X with xe := E }
/-- no exception leaves -/
abbrev Cx.nox (X : Cx) : Cx := X.wish fun _ _ => False
theorem Cx.Ok.wish {X : Cx} (ok : X.Ok) (E : Value → Shared → Prop) : (X.wish E).Ok :=
  ⟨ok.mod, ok.kind, ok.glob, ok.blt, ok.above, ok.inj, ok.has, ok.cab, ok.hd, ok.frames, ok.stk, ok.exf, ok.bs, ok.bsz, ok.noex, ok.exfs, ok.funs, ok.frf⟩
theorem Cx.Ok.unwish {X : Cx} {E : Value → Shared → Prop} (ok : (X.wish E).Ok) : X.Ok :=
  ⟨ok.mod, ok.kind, ok.glob, ok.blt, ok.above, ok.inj, ok.has, ok.cab, ok.hd, ok.frames, ok.stk, ok.exf, ok.bs, ok.bsz, ok.noex, ok.exfs, ok.funs, ok.frf⟩
section
variable {X : Cx} {pins : List (Addr × Obj)} {σ : St} {H : Hp} {s : Shared} {E : Value → Shared → Prop}
theorem Inv.wish (I : Inv X pins σ H s) (E : Value → Shared → Prop) : Inv (X.wish E) pins σ H s := ⟨I.ok.wish E, I.os, I.bare, I.base, I.loc, I.cell, I.free, I.freeC, I.pin, I.hok, I.len⟩
theorem Inv.unwish (I : Inv (X.wish E) pins σ H s) : Inv X pins σ H s := ⟨I.ok.unwish, I.os, I.bare, I.base, I.loc, I.cell, I.free, I.freeC, I.pin, I.hok, I.len⟩
theorem SP.unwish {D : Ends} {f : Flow} {s' : Shared} (h : SP (X.wish E) pins D f s') : SP X pins D f s' := by
  cases f with
  | next => obtain ⟨σ', H', I, q⟩ := h; exact ⟨σ', H', I.unwish, q⟩
  | brk => obtain ⟨σ', H', I, q⟩ := h; exact ⟨σ', H', I.unwish, q⟩
  | cont => obtain ⟨σ', H', I, q⟩ := h; exact ⟨σ', H', I.unwish, q⟩
  | ret u => obtain ⟨v, σ', H', I, r, q⟩ := h; exact ⟨v, σ', H', I.unwish, r, q⟩
theorem PSs.nox {st : List Stmt} {t : TS} (h : PSs X.nox st t) : PSs X st t := fun pins s σ H D I hw =>
  wpAny_mono (h pins s σ H D (I.wish _) hw) (fun _ _ q => q.unwish) fun _ _ z => False.elim z
end

/-! ### blocks and small statements -/
section
variable {X : Cx} {st : Stmt} {rest : List Stmt} {t u : TS} {e : Expr} {te : TE} {pos : Pos}
def tNext : TS := fun D σ H => D.nx σ H
def tSeq (t u : TS) : TS := fun D σ H => t { D with nx := u D } σ H
theorem pss_nil : PSs X [] tNext := fun _ _ σ H _ I h => wpAny_execs_nil ⟨σ, H, I, h⟩
theorem pss_cons (h1 : PS X st t) (h2 : PSs X rest u) : PSs X (st :: rest) (tSeq t u) := by
  intro pins s σ H D I h
  refine wpAny_execs_cons (thn (h1 pins s σ H { D with nx := u D } I h) fun f s1 q => ?_)
  cases f with
  | next =>
    obtain ⟨σ', H', I', q⟩ := q
    exact h2 pins s1 σ' H' D I' q
  | ret v => exact q
  | brk => exact q
  | cont => exact q
theorem pss_one (h1 : PS X st t) : PSs X [st] t := by
  intro pins s σ H D I h
  refine wpAny_execs_cons (thn (h1 pins s σ H D I h) fun f s1 q => ?_)
  cases f with
  | next => exact wpAny_execs_nil q
  | ret v => exact q
  | brk => exact q
  | cont => exact q
def tBreak : TS := fun D σ H => D.bk σ H
def tCont : TS := fun D σ H => D.ct σ H
theorem ps_break : PS X (.Break pos) tBreak := fun _ _ σ H _ I h => wpAny_Break ⟨σ, H, I, h⟩
/-- in a def's body nothing is shown -/
theorem Inv.quiet {pins : List (Addr × Obj)} {σ : St} {H : Hp} {s : Shared} (I : Inv X pins σ H s) : interactive X.env = false := by simp [interactive, I.ok.kind]
/-- an expression whose value is dropped -/
def tDrop (te : TE) : TS := fun D σ H => te σ H fun _ H1 => D.nx σ H1
theorem ps_expr (he : PE X e te) (hs : swapsWith e none pos.line X.env = pure false := by rfl) : PS X (.Expr e pos) (tDrop te) := by
  intro pins s σ H D I h
  exact wpAny_Expr_any (thn (he pins s σ H _ I h) fun v s1 ⟨x, H1, I1, r1, q1⟩ => ⟨σ, H1, I1, q1⟩) I.quiet hs
def tRet (te : TE) : TS := fun D σ H => te σ H D.rt
theorem ps_ret (he : PE X e te) : PS X (.Return (some e) pos) (tRet te) := by
  intro pins s σ H D I h
  exact wpAny_Return_some (thn (he pins s σ H _ I h) fun v s1 ⟨x, H1, I1, r1, q1⟩ => ⟨x, σ, H1, I1, r1, q1⟩)
def tRetN : TS := fun D _ H => D.rt .non H
def tIfS (c : TT) (t u : TS) : TS := fun D σ H => c σ H fun b H1 => if b = true then t D σ H1 else u D σ H1
theorem ps_if {c : Expr} {a b : List Stmt} {tc : TT} (hc : PT X c tc) (ha : PSs X a t) (hb : PSs X b u) : PS X (.If c a b pos) (tIfS tc t u) := by
  intro pins s σ H D I h
  refine wpAny_If (thn (hc pins s σ H _ I h) fun d s1 ⟨H1, I1, q1⟩ => ?_)
  cases d with
  | true => exact ha pins s1 σ H1 D I1 q1
  | false => exact hb pins s1 σ H1 D I1 q1
/-- code that the proof never comes to -/
def tNever : TS := fun _ _ _ => False
theorem pss_never {sts : List Stmt} : PSs X sts tNever := fun _ _ _ _ _ _ h => h.elim
end

/-! ### targets -/
abbrev TG := V → St → Hp → (St → Hp → Prop) → Prop
abbrev TGs := List V → St → Hp → (St → Hp → Prop) → Prop
def PG (X : Cx) (target : Expr) (t : TG) : Prop :=
  ∀ (pins : List (Addr × Obj)) (s : Shared) (σ : St) (H : Hp) (v : V) (u : Value) (Q : St → Hp → Prop), Inv X pins σ H s → RelV v u → t v σ H Q →
    wpAny (model X.prog X.w) X.A (assign target X.env u) (fun _ s' => ∃ σ' H', Inv X pins σ' H' s' ∧ Q σ' H') X.xe s
/-- several targets, one after another -/
def PGs (X : Cx) (ts : List Expr) (t : TGs) : Prop :=
  ∀ (pins : List (Addr × Obj)) (s : Shared) (σ : St) (H : Hp) (vs : List V) (us : List Value) (Q : St → Hp → Prop), Inv X pins σ H s → Vals vs us → t vs σ H Q →
    wpAny (model X.prog X.w) X.A (assignInOrder ((assignEach ts X.env).map (·.2)) us) (fun _ s' => ∃ σ' H', Inv X pins σ' H' s' ∧ Q σ' H') X.xe s
/-- o[i] = v, by values -/
abbrev TSet := V → V → V → Hp → (Hp → Prop) → Prop
def PSet (X : Cx) (t : TSet) : Prop :=
  ∀ (pins : List (Addr × Obj)) (s : Shared) (σ : St) (H : Hp) (o i v : V) (ov iv u : Value) (Q : Hp → Prop), Inv X pins σ H s → RelV o ov → RelV i iv → RelV v u → t o i v H Q →
    wpAny (model X.prog X.w) X.A (setItem ov iv u) (fun _ s' => ∃ H', Inv X pins σ H' s' ∧ Q H') X.xe s
/-- a op= b, by values -/
abbrev TIp := V → V → Hp → VK → Prop
def PIp (X : Cx) (op : Operator) (t : TIp) : Prop :=
  ∀ (pins : List (Addr × Obj)) (s : Shared) (σ : St) (H : Hp) (x y : V) (v u : Value) (Q : VK), Inv X pins σ H s → RelV x v → RelV y u → t x y H Q →
    wpAny (model X.prog X.w) X.A (inplaceOp op v u) (EP X pins σ Q) X.xe s
section
variable {X : Cx} {pos : Pos}
def gName (i : Nat) : TG := fun v σ H Q => Q (σ.set i (some v)) H
theorem pg_name {i : Nat} {x : Str} (hN : X.N.Nodup) (hi : X.N[i]? = some x) (hx : Loc X.env.scope x) (hf : X.fn x = true ∨ X.env.scope.names.lookup x = some .local := by first | exact .inl rfl | exact .inr rfl | assumption) : PG X (.Name x pos) (gName i) := by
  intro pins s σ H v u Q I r h
  exact wpAny_assign_Name (store_ok I hN hi hx r (fun s' I' => ⟨_, H, I', h⟩) hf)
def gNil : TGs := fun vs σ H Q => vs = [] ∧ Q σ H
def gCons (t : TG) (u : TGs) : TGs := fun vs σ H Q => ∃ v r, vs = v :: r ∧ t v σ H fun σ' H' => u r σ' H' Q
/-- (a, b, ..) = a tuple of that length -/
def gTup (K : PySem.W.Frag) (n : Nat) (t : TGs) : TG := fun v σ H Q => ∃ a xs, v = .ref a ∧ SqT K H a xs ∧ xs.length = n ∧ t xs σ H Q
/-- o[i] = .. -/
def gSub (to ti : TE) (t : TSet) : TG := fun v σ H Q => to σ H fun o H1 => ti σ H1 fun i H2 => t o i v H2 fun H3 => Q σ H3
theorem pg_sub {o i : Expr} {to ti : TE} {t : TSet} (ho : PE X o to) (hi : PE X i ti) (hs : PSet X t)
    (ha : ∀ v, assign (.Subscript o i pos) X.env v = (do
      let ov ← holding [v] (eval o X.env)
      let iv ← holding [v, ov] (eval i X.env)
      standAt pos
      holding [v, ov, iv] (setItem ov iv v)
      release [v, ov, iv] []) := by intro _; rfl) : PG X (.Subscript o i pos) (gSub to ti t) := by
  intro pins s σ H v u Q I r h
  rw [ha]
  refine wpAny_bind (wpAny_holding (thn (ho pins s σ H _ I h) fun ov s1 ⟨x, H1, I1, r1, q1⟩ => ?_))
  refine wpAny_bind (wpAny_holding (thn (hi pins s1 σ H1 _ I1 q1) fun iv s2 ⟨y, H2, I2, r2, q2⟩ => ?_))
  refine wpAny_bind (wpAny_standAt (wpAny_bind (wpAny_holding (thn (hs pins s2 σ H2 x y v ov iv u _ I2 r1 r2 r q2) fun _ s3 ⟨H3, I3, q3⟩ => ?_))))
  exact wpAny_release ⟨σ, H3, I3, q3⟩
/-- target = value -/
def tAsg (te : TE) (g : TG) : TS := fun D σ H => te σ H fun x H1 => g x σ H1 D.nx
theorem ps_asg {tg e : Expr} {te : TE} {g : TG} (he : PE X e te) (hg : PG X tg g) (hs : swapsWithSole [tg] e pos.line X.env = pure false := by rfl) (hw : swappedStores [tg] e X.env = pure none := by rfl)
    (h1 : (assignEach [tg] X.env).map (·.2) = [assign tg X.env] := by rfl) : PS X (.Assign [tg] e pos) (tAsg te g) := by
  intro pins s σ H D I h
  refine wpAny_Assign_stores (thn (he pins s σ H _ I h) fun v s1 ⟨x, H1, I1, r1, q1⟩ => ?_) hs hw
  rw [h1]
  exact thn (hg pins s1 σ H1 x v _ I1 r1 q1) fun _ s2 q => q
/-- name = value -/
theorem ps_set {i : Nat} {x : Str} {e : Expr} {te : TE} {pos' : Pos} (hN : X.N.Nodup) (hi : X.N[i]? = some x) (hx : Loc X.env.scope x) (he : PE X e te) (hs : swapsWith e (some (.Name x pos')) pos.line X.env = pure false := by rfl) (hf : X.fn x = true ∨ X.env.scope.names.lookup x = some .local := by first | exact .inl rfl | exact .inr rfl | assumption) :
    PS X (.Assign [.Name x pos'] e pos) (tAsg te (gName i)) := by
  intro pins s σ H D I h
  refine wpAny_Assign_Name (thn (he pins s σ H _ I h) fun v s1 ⟨y, H1, I1, r1, q1⟩ => ?_) hs
  exact store_ok I1 hN hi hx r1 (fun s2 I2 => ⟨_, H1, I2, q1⟩) hf
/-- a, b = x, y with plain local names: stored from the right; the pair itself is not tracked (the opening rows as in PyProof/Rows/TupAssign.lean:23) -/
def tPar (i j : Nat) (ta : TA) : TS := fun D σ H => ta σ H fun vs H1 => ∃ v w, vs = [v, w] ∧ D.nx ((σ.set i (some v)).set j (some w)) H1
/-- name op= e -/
def tAug (i : Nat) (te : TE) (ti : TIp) : TS := fun D σ H => ∃ x, σ[i]? = some (some x) ∧ te σ H fun y H1 => ti x y H1 fun z H2 => D.nx (σ.set i (some z)) H2
/-- o[i] op= e -/
def tAugS (to ti te : TE) (tget : V → V → Hp → VK → Prop) (tip : TIp) (tset : TSet) : TS := fun D σ H => to σ H fun o H1 => ti σ H1 fun i H2 => tget o i H2 fun x H3 => te σ H3 fun y H4 => tip x y H4 fun z H5 => tset o i z H5 fun H6 => D.nx σ H6
/-- o[i], by values -/
def PGet (X : Cx) (t : V → V → Hp → VK → Prop) : Prop :=
  ∀ (pins : List (Addr × Obj)) (s : Shared) (σ : St) (H : Hp) (o i : V) (ov iv : Value) (Q : VK), Inv X pins σ H s → RelV o ov → RelV i iv → t o i H Q →
    wpAny (model X.prog X.w) X.A (getItem ov iv) (EP X pins σ Q) X.xe s
/-- ints -/
def ipI (f : Int → Int → Int) : TIp := fun x y H Q => ∃ i j, x = .int i ∧ y = .int j ∧ Q (.int (f i j)) H
end

/-! ### while -/
section
variable {X : Cx} {pos : Pos}
/-- the invariant W with its measure -/
def tWhile (c : TT) (tb : TS) : TS := fun D σ H => ∃ W : Nat → St → Hp → Prop, (∃ m, W m σ H) ∧ ∀ m σ H, W m σ H →
  c σ H fun b H1 => if b = true then ∃ N : St → Hp → Prop, (∀ σ' H', N σ' H' → ∃ m', m' < m ∧ W m' σ' H') ∧ tb { D with nx := N, ct := N, bk := D.nx } σ H1 else D.nx σ H1
theorem ps_while {c : Expr} {body : List Stmt} {tc : TT} {tb : TS} (hp : PassesOwn (model X.prog X.w) X.A X.env X.xe) (hc : PT X c tc) (hb : PSs X body tb) : PS X (.While c body [] pos) (tWhile tc tb) := by
  intro pins s σ H D I h
  obtain ⟨W, ⟨m0, w0⟩, turn⟩ := h
  refine wpAny_While (codeAny_whileLoop (fun n s' => ∃ σ' H', Inv X pins σ' H' s' ∧ W n σ' H') ?_ m0 ⟨σ, H, I, w0⟩)
  rintro n s1 ⟨σ1, H1, I1, w1⟩
  refine wpAny_passesOwn hp (thn (hc pins s1 σ1 H1 _ I1 (turn n σ1 H1 w1)) fun b s2 ⟨H2, I2, q2⟩ => ?_)
  cases b with
  | true =>
    obtain ⟨N, hN, q2⟩ := q2
    rw [if_pos rfl]
    refine wpAny_passesOwn hp (thn (hb pins s2 σ1 H2 _ I2 q2) fun f s3 q3 => ?_)
    cases f with
    | next =>
      obtain ⟨σ3, H3, I3, n3⟩ := q3
      obtain ⟨m', hm, w3⟩ := hN σ3 H3 n3
      exact ⟨m', hm, σ3, H3, I3, w3⟩
    | cont =>
      obtain ⟨σ3, H3, I3, n3⟩ := q3
      obtain ⟨m', hm, w3⟩ := hN σ3 H3 n3
      exact ⟨m', hm, σ3, H3, I3, w3⟩
    | brk => exact q3
    | ret v => exact q3
  | false =>
    rw [if_neg Bool.false_ne_true]
    exact wpAny_execs_nil ⟨σ1, H2, I2, q2⟩
end

/-! ### what a loop or a comprehension walks -/
/-- at turn i: it yields x (the heap may grow), or it stops -/
structure It where
  go : Nat → Hp → Prop
  yld : Nat → Hp → V → Hp → Prop
  stop : Nat → Hp → Prop
/-- the iterator's own objects may turn: they are not the frame's, not pinned, younger than the entry (or a comprehension's own) -/
def FpOk (X : Cx) (pins : List (Addr × Obj)) (H : Hp) (b : Addr) : Prop :=
  H b = none ∧ b ≠ X.env.locals ∧ b ∉ X.fs ∧ (b ∈ X.ex ∨ X.s₀.heap.objs.size ≤ b) ∧ (∀ x c, X.env.cells.lookup x = some c → c ≠ b) ∧ ∀ p ∈ X.pn ++ pins, p.1 ≠ b
theorem Inv.fpOk {X : Cx} {pins : List (Addr × Obj)} {σ : St} {H H' : Hp} {s : Shared} {b : Addr} (I : Inv X pins σ H s) (hb : s.heap.objs.size ≤ b) (hn : H' b = none) : FpOk X pins H' b := by
  refine ⟨hn, Nat.ne_of_gt (Nat.lt_of_lt_of_le I.lt hb), I.nofs hb, .inr (Nat.le_trans I.sz hb), fun x c e z => ?_, fun p hp z => ?_⟩
  · obtain ⟨v, q⟩ := I.cell x c e
    exact absurd (Nat.lt_of_lt_of_le q.lt (by rw [z]; exact hb)) (Nat.lt_irrefl _)
  · exact absurd (Nat.lt_of_lt_of_le (Heap.lt_size (I.pin p hp).1) (by rw [z]; exact hb)) (Nat.lt_irrefl _)
structure Turn (P : Program) (w : World) (K : PySem.W.Frag) (tg : Expr) (J : It) (fp : List Addr) (it : Addr) (tn : Nat → Heap → Prop) : Prop where
  mem : it ∈ fp
  obj : ∀ i h, tn i h → ∀ b ∈ fp, ∃ o, h.get? b = some o ∧ ∀ v, o.data ≠ .cell v
  keep : ∀ i h h', tn i h → (∀ b ∈ fp, ∀ o, h.get? b = some o → h'.get? b = some o) → tn i h'
  item : ∀ (X : Cx), X.prog = P → X.w = w → X.K = K → X.calm = true → ∀ (i : Nat) (pins : List (Addr × Obj)) (s : Shared) (σ : St) (H : Hp) (E : Value → Shared → Prop), Inv X pins σ H s → (∀ b ∈ fp, FpOk X pins H b) → tn i s.heap → J.go i H →
    wpAny (model P w) X.A (pyNext (.ref it)) (fun r s1 => ∃ u, r = some u ∧
      wpAny (model P w) X.A (letOwnedTupleGo tg (.ref it) u) (fun _ s2 => ∃ x H', Inv X pins σ H' s2 ∧ RelV x u ∧ J.yld i H x H' ∧ tn (i + 1) s2.heap ∧ ∀ b ∈ fp, H' b = none) E s1) E s
  done : ∀ (X : Cx), X.prog = P → X.w = w → X.K = K → X.calm = true → ∀ (i : Nat) (pins : List (Addr × Obj)) (s : Shared) (σ : St) (H : Hp) (E : Value → Shared → Prop), Inv X pins σ H s → (∀ b ∈ fp, FpOk X pins H b) → tn i s.heap → J.stop i H →
    wpAny (model P w) X.A (pyNext (.ref it)) (fun r s1 => r = none ∧ Inv X pins σ H s1) E s
  self : ∀ (A : Around) (i : Nat) (s : Shared) (Q : Value → Shared → Prop) (E : Value → Shared → Prop), tn i s.heap → Q (.ref it) s → wpAny (model P w) A (pyIter (.ref it)) Q E s
abbrev TI := St → Hp → (It → Hp → Prop) → Prop
/-- an iterator has come -/
def PIE (X : Cx) (pins : List (Addr × Obj)) (σ : St) (tg : Expr) (R : It → Hp → Prop) (itv : Value) (s2 : Shared) : Prop :=
  ∃ (it : Addr) (fp : List Addr) (tn : Nat → Heap → Prop) (J : It) (H' : Hp), itv = .ref it ∧ Inv X pins σ H' s2 ∧ Turn X.prog X.w X.K tg J fp it tn ∧ tn 0 s2.heap ∧ (∀ b ∈ fp, FpOk X pins H' b) ∧ R J H'
def PI (X : Cx) (tg iter : Expr) (wi : TI) : Prop :=
  ∀ (pins : List (Addr × Obj)) (s : Shared) (σ : St) (H : Hp) (R : It → Hp → Prop), Inv X pins σ H s → wi σ H R →
    wpAny (model X.prog X.w) X.A (eval iter X.env) (fun v s1 => wpAny (model X.prog X.w) X.A (pyIter v) (PIE X pins σ tg R) X.xe s1) X.xe s

/-- the step ahead of the store is nothing for an iterator that keeps no tuple -/
theorem go_of {M : Model} {A : Around} {E : Value → Shared → Prop} {s : Shared} {tg : Expr} {it : Addr} {u : Value} {o : Obj} {n : String} {vs : Array Value} {Q : Unit → Shared → Prop} (ho : s.heap.get? it = some o) (hc : o.cls = .type n) (hd : o.data = .fields vs)
    (hn : ["enumerate", "zip", "dict_itemiterator", "dict_reverseitemiterator", "odict_iterator", "itertools.zip_longest", "itertools.pairwise"].contains n = false) (hQ : Q () s) : wpAny M A (letOwnedTupleGo tg (.ref it) u) Q E s := by
  unfold letOwnedTupleGo
  cases tg <;> first
    | exact wpAny_pure hQ
    | (cases u <;> first
        | exact wpAny_pure hQ
        | (refine wpAny_bind (wpAny_load ho ?_)
           rw [hc, hd]
           show wpAny M A (if (["enumerate", "zip", "dict_itemiterator", "dict_reverseitemiterator", "odict_iterator", "itertools.zip_longest", "itertools.pairwise"].contains n && vs[0]? == some (rawInt _)) = true then _ else _) Q E s
           rw [if_neg (by intro h; rw [hn, Bool.false_and] at h; cases h)]
           exact wpAny_pure hQ))

/-- the list at a, as it stands at each turn (a loop may append to it) -/
def Itl (K : PySem.W.Frag) (a : Addr) : It :=
  ⟨fun i H => ∃ xs x, SqL K H a xs ∧ xs[i]? = some x, fun i H x H' => H' = H ∧ ∀ xs, SqL K H a xs → xs[i]? = some x, fun i H => ∃ xs, SqL K H a xs ∧ xs.length ≤ i⟩
def Itt (K : PySem.W.Frag) (a : Addr) : It :=
  ⟨fun i H => ∃ xs x, SqT K H a xs ∧ xs[i]? = some x, fun i H x H' => H' = H ∧ ∀ xs, SqT K H a xs → xs[i]? = some x, fun i H => ∃ xs, SqT K H a xs ∧ xs.length ≤ i⟩
/-- lo, lo + 1, .. (n of them) -/
def Itr (lo : Int) (n : Nat) : It := ⟨fun i _ => i < n, fun i H x H' => H' = H ∧ x = .int (lo + i), fun i _ => n ≤ i⟩
theorem turn_list {P : Program} {w : World} {K : PySem.W.Frag} {tg : Expr} (a it : Addr) : Turn P w K tg (Itl K a) [it] it (fun i h => h.IsListIter it a i) where
  mem := by simp
  obj := fun i h st b hb => by
    have e : b = it := by simpa using hb
    subst e
    obtain ⟨o, e, c, d⟩ := st
    exact ⟨o, e, fun v z => by rw [d] at z; cases z⟩
  keep := fun i h h' st k => st.at fun o e => k it (by simp) o e
  item := by
    intro X hP hw hK hc i pins s σ H E I hf st hg
    subst hP hw hK
    obtain ⟨xs, x, hq, hx⟩ := hg
    obtain ⟨its, rv, p, hz⟩ := I.list hq
    obtain ⟨u, hu, ru⟩ := rv.get hx
    obtain ⟨f0, f1, f2, f3, f4, f5⟩ := hf it (by simp)
    refine wpAny_pyNext_list_item st p.isList (x := u) (by simpa using hu) fun h' st' sb => ?_
    have I1 : Inv X pins σ H { s with heap := h' } := I.turned (t' := s.toks) (fun b o hb e => (sb.2 b hb).trans e) f0 f1 f3 f4 f5
    obtain ⟨o, e, c, d⟩ := id st'
    exact ⟨u, rfl, go_of (s := { s with heap := h' }) e c d (by decide) ⟨x, H, I1, ru, ⟨rfl, fun ys hy => by rw [I.list_inj hy hq]; exact hx⟩, st', fun b hb => (hf b hb).1⟩⟩
  done := by
    intro X hP hw hK hc i pins s σ H E I hf st hg
    subst hP hw hK
    obtain ⟨xs, hq, hx⟩ := hg
    obtain ⟨its, rv, p, hz⟩ := I.list hq
    obtain ⟨f0, f1, f2, f3, f4, f5⟩ := hf it (by simp)
    have hl := rv.length
    exact wpAny_pyNext_list_end (I.ok.hd hc) st p.isList (by simp; omega) fun h' eb => ⟨rfl, I.turned (t' := s.toks) (fun b o hb e => eb b o hb e) f0 f1 f3 f4 f5⟩
  self := fun _ _ _ _ _ st h => wpAny_pyIter_listiter st h
theorem turn_tuple {P : Program} {w : World} {K : PySem.W.Frag} {tg : Expr} (a it : Addr) : Turn P w K tg (Itt K a) [it] it (fun i h => h.IsTupleIter it a i) where
  mem := by simp
  obj := fun i h st b hb => by
    have e : b = it := by simpa using hb
    subst e
    obtain ⟨o, e, c, d⟩ := st
    exact ⟨o, e, fun v z => by rw [d] at z; cases z⟩
  keep := fun i h h' st k => st.at fun o e => k it (by simp) o e
  item := by
    intro X hP hw hK hc i pins s σ H E I hf st hg
    subst hP hw hK
    obtain ⟨xs, x, hq, hx⟩ := hg
    obtain ⟨its, rv, p, hz⟩ := I.tuple hq
    obtain ⟨u, hu, ru⟩ := rv.get hx
    obtain ⟨f0, f1, f2, f3, f4, f5⟩ := hf it (by simp)
    refine wpAny_pyNext_tuple_item st (show s.heap.IsTuple a its.toArray from p) (x := u) (by simpa using hu) fun h' st' sb => ?_
    have I1 : Inv X pins σ H { s with heap := h' } := I.turned (t' := s.toks) (fun b o hb e => (sb.2 b hb).trans e) f0 f1 f3 f4 f5
    obtain ⟨o, e, c, d⟩ := id st'
    exact ⟨u, rfl, go_of (s := { s with heap := h' }) e c d (by decide) ⟨x, H, I1, ru, ⟨rfl, fun ys hy => by rw [I.tuple_inj hy hq]; exact hx⟩, st', fun b hb => (hf b hb).1⟩⟩
  done := by
    intro X hP hw hK hc i pins s σ H E I hf st hg
    subst hP hw hK
    obtain ⟨xs, hq, hx⟩ := hg
    obtain ⟨its, rv, p, hz⟩ := I.tuple hq
    obtain ⟨f0, f1, f2, f3, f4, f5⟩ := hf it (by simp)
    have hl := rv.length
    exact wpAny_pyNext_tuple_end (I.ok.hd hc) st (show s.heap.IsTuple a its.toArray from p) (by simp; omega) fun h' eb => ⟨rfl, I.turned (t' := s.toks) (fun b o hb e => eb b o hb e) f0 f1 f3 f4 f5⟩
  self := fun _ _ _ _ _ st h => wpAny_pyIter_tupleiter st h
theorem turn_range {P : Program} {w : World} {K : PySem.W.Frag} {tg : Expr} (it : Addr) (lo : Int) (n : Nat) : Turn P w K tg (Itr lo n) [it] it (fun i h => IsRangeIter h it (lo + (i : Nat) * 1) ((n : Int) - (i : Nat)) 1) where
  mem := by simp
  obj := fun i h st b hb => by
    have e : b = it := by simpa using hb
    subst e
    exact ⟨_, st, fun v z => by
      have z' : Data.fields _ = Data.cell v := z
      cases z'⟩
  keep := fun i h h' st k => k it (by simp) _ st
  item := by
    intro X hP hw hK hc i pins s σ H E I hf st hg
    subst hP hw hK
    obtain ⟨f0, f1, f2, f3, f4, f5⟩ := hf it (by simp)
    have W := Walks.range (prog := X.prog) (w := X.w) (I.ok.hd hc) it lo 1 n
    refine W.item i s _ _ hg st fun v h' tk hv st' kk => ?_
    obtain ⟨t, rfl⟩ := hv
    have I1 : Inv X pins σ H { s with heap := h', toks := tk } := I.turned (fun b o hb e => kk b o (by simpa using hb) e) f0 f1 f3 f4 f5
    refine ⟨_, rfl, go_of (s := { s with heap := h', toks := tk }) (n := "range_iterator") st' rfl rfl (by decide) ⟨.int (lo + i), H, I1, ⟨t, ?_⟩, ⟨rfl, rfl⟩, st', fun b hb => (hf b hb).1⟩⟩
    rw [Int.mul_one]
  done := by
    intro X hP hw hK hc i pins s σ H E I hf st hg
    subst hP hw hK
    obtain ⟨f0, f1, f2, f3, f4, f5⟩ := hf it (by simp)
    exact wpAny_pyNext_range_end (I.ok.hd hc) st (by have : n ≤ i := hg; omega) fun h' eb => ⟨rfl, I.turned (t' := s.toks) (fun b o hb e => eb b o hb e) f0 f1 f3 f4 f5⟩
  self := fun _ _ _ _ _ st h => wpAny_pyIter_rangeiter st h
end L2

namespace L2
open PySem PySem.Spec PyProof.Rows
section
variable {X : Cx} {tg : Expr}
def iList (K : PySem.W.Frag) (tl : TE) : TI := fun σ H R => tl σ H fun x H1 => ∃ a, x = .ref a ∧ (∃ xs, SqL K H1 a xs) ∧ R (Itl K a) H1
def iTup (K : PySem.W.Frag) (tl : TE) : TI := fun σ H R => tl σ H fun x H1 => ∃ a, x = .ref a ∧ (∃ xs, SqT K H1 a xs) ∧ R (Itt K a) H1
theorem pi_tup {l : Expr} {tl : TE} (hl : PE X l tl) : PI X tg l (iTup X.K tl) := by
  intro pins s σ H R I h
  refine thn (hl pins s σ H _ I h) fun v s1 ⟨x, H1, I1, r1, q1⟩ => ?_
  obtain ⟨a, e, ⟨xs, hq⟩, q⟩ := q1
  subst e
  cases r1
  obtain ⟨its, rv, p, hz⟩ := I1.tuple hq
  refine wpAny_pyIter_tuple (show s1.heap.IsTuple a its.toArray from p) ?_
  refine ⟨s1.heap.objs.size, [s1.heap.objs.size], _, _, H1, rfl, I1.kept (t' := s1.toks) fun b o e => Heap.get?_push_of_some _ e, turn_tuple a _, ⟨_, Heap.get?_push_size _ rfl, rfl, rfl⟩, fun b hb => ?_, q⟩
  have e : b = s1.heap.objs.size := by simpa using hb
  subst e
  exact I1.fpOk (Nat.le_refl _) (I1.hok.fresh (Nat.le_refl _))
/-- a range object just made, walked -/
theorem range_it {pins : List (Addr × Obj)} {σ : St} {H : Hp} {s : Shared} {R : It → Hp → Prop} {E : Value → Shared → Prop} {lo hi : Int} {t u v : Tok} {tk : Nat} (I : Inv X pins σ H s) (h1 : -(2 ^ 62) ≤ lo) (h2 : lo < 2 ^ 62) (h3 : -(2 ^ 62) ≤ hi) (h4 : hi < 2 ^ 62)
    (q : R (Itr lo (hi - lo).toNat) H) : wpAny (model X.prog X.w) X.A (pyIter (.ref s.heap.objs.size)) (PIE X pins σ tg R) E { s with heap := s.heap.push { cls := .type "range", data := .fields #[.int lo t, .int hi u, .int 1 v] }, toks := tk } := by
  refine wpAny_pyIter_range (IsRange.new ..) (small_one h1 h2 h3 h4) ?_
  have I1 : Inv X pins σ H { s with heap := s.heap.push { cls := .type "range", data := .fields #[.int lo t, .int hi u, .int 1 v] }, toks := tk } := I.kept fun b o e => Heap.get?_push_of_some _ e
  refine ⟨(s.heap.push { cls := .type "range", data := .fields #[.int lo t, .int hi u, .int 1 v] }).objs.size, [(s.heap.push { cls := .type "range", data := .fields #[.int lo t, .int hi u, .int 1 v] }).objs.size], _, _, H, rfl,
    I1.kept (t' := tk) fun b o e => Heap.get?_push_of_some _ e, turn_range _ lo (hi - lo).toNat, ?_, fun b hb => ?_, q⟩
  · have e1 : lo + ((0 : Nat) : Int) * 1 = lo := by simp
    have e2 : (((hi - lo).toNat : Nat) : Int) - ((0 : Nat) : Int) = Builtin.Range.rangeSize lo hi 1 := by rw [rangeSize_one]; split <;> omega
    show IsRangeIter _ _ (lo + ((0 : Nat) : Int) * 1) ((((hi - lo).toNat : Nat) : Int) - ((0 : Nat) : Int)) 1
    rw [e1, e2]
    exact Heap.get?_push_size _ rfl
  · have e : b = (s.heap.push { cls := .type "range", data := .fields #[.int lo t, .int hi u, .int 1 v] }).objs.size := by simpa using hb
    subst e
    exact I1.fpOk (Nat.le_refl _) (I1.hok.fresh (Nat.le_refl _))
def iRng1 (ta : TA) : TI := fun σ H R => ta σ H fun vs H1 => ∃ j : Int, vs = [.int j] ∧ -(2 ^ 62) ≤ j ∧ j < 2 ^ 62 ∧ R (Itr 0 j.toNat) H1
def iRng2 (ta : TA) : TI := fun σ H R => ta σ H fun vs H1 => ∃ i j : Int, vs = [.int i, .int j] ∧ (-(2 ^ 62) ≤ i ∧ i < 2 ^ 62 ∧ -(2 ^ 62) ≤ j ∧ j < 2 ^ 62) ∧ R (Itr i (j - i).toNat) H1
theorem pi_range1 {a : Expr} {ta : TA} {p pos : Pos} (hg : Gl X "range") (hm : X.mg "range" = none) (ha : PA X [a] ta) (hs : starEach [a] X.env = [(false, eval a X.env)] := by rfl) : PI X tg (.Call (.Name "range" p) [a] [] pos) (iRng1 ta) := by
  intro pins s σ H R I h
  refine Call_ (ld_blt I hg hm boot_range (PyProof.Rows.callWith_type1 (thn (ha pos pins s σ H _ I h) fun us s1 ⟨vs, H1, I1, r1, q1⟩ => ?_) hs rfl))
  obtain ⟨j, e, q1, q2, q⟩ := q1
  subst e
  cases r1 with
  | cons r rr =>
    cases rr
    obtain ⟨t, rfl⟩ := r
    exact call_range_1 (range_it I1 (by omega) (by omega) q1 q2 (by simpa using q))
theorem pi_range2 {a b : Expr} {ta : TA} {p pos : Pos} (hg : Gl X "range") (hm : X.mg "range" = none) (ha : PA X [a, b] ta) (hs : starEach [a, b] X.env = [(false, eval a X.env), (false, eval b X.env)] := by rfl) (hs2 : starEach [b] X.env = [(false, eval b X.env)] := by rfl) :
    PI X tg (.Call (.Name "range" p) [a, b] [] pos) (iRng2 ta) := by
  intro pins s σ H R I h
  refine Call_ (ld_blt I hg hm boot_range (PyProof.Rows.callWith_type1 (thn (ha pos pins s σ H _ I h) fun us s1 ⟨vs, H1, I1, r1, q1⟩ => ?_) (by rw [hs, hs2]) (by rw [hs2]; rfl)))
  obtain ⟨i, j, e, ⟨q1, q2, q3, q4⟩, q⟩ := q1
  subst e
  cases r1 with
  | cons r rr =>
    cases rr with
    | cons r' rr =>
      cases rr
      obtain ⟨t, rfl⟩ := r
      obtain ⟨t', rfl⟩ := r'
      exact call_range_2 (range_it I1 q1 q2 q3 q4 q)

/-! ### for -/
/-- W: the invariant by the turn and a measure; N: what the body is to reach -/
def tFor (wi : TI) (g : TG) (tb : TS) : TS := fun D σ H => wi σ H fun J H1 => ∃ W : Nat → Nat → St → Hp → Prop, (∃ m, W 0 m σ H1) ∧ ∀ i m σ H, W i m σ H →
  (J.stop i H ∧ D.nx σ H) ∨ (J.go i H ∧ ∃ N : St → Hp → Prop, (∀ σ' H', N σ' H' → ∃ m', m' < m ∧ W (i + 1) m' σ' H') ∧ ∀ x H', J.yld i H x H' → g x σ H' fun σ2 H2 => tb { D with nx := N, ct := N, bk := D.nx } σ2 H2)
/-- the records at fp as they stand -/
def pinsAt (fp : List Addr) (h : Heap) : List (Addr × Obj) := fp.filterMap fun b => (h.get? b).map fun o => (b, o)
theorem mem_pinsAt {fp : List Addr} {h : Heap} {b : Addr} {o : Obj} (hb : b ∈ fp) (e : h.get? b = some o) : (b, o) ∈ pinsAt fp h := List.mem_filterMap.mpr ⟨b, hb, by rw [e]; rfl⟩
theorem of_pinsAt {fp : List Addr} {h : Heap} {p : Addr × Obj} (hp : p ∈ pinsAt fp h) : p.1 ∈ fp ∧ h.get? p.1 = some p.2 := by
  obtain ⟨b, hb, e⟩ := List.mem_filterMap.mp hp
  cases q : h.get? b with
  | none => rw [q] at e; cases e
  | some o =>
    rw [q] at e
    have e' : (b, o) = p := Option.some.inj e
    subst e'
    exact ⟨hb, q⟩
theorem Inv.pinned {pins : List (Addr × Obj)} {σ : St} {H : Hp} {s : Shared} {fp : List Addr} (I : Inv X pins σ H s) (hf : ∀ b ∈ fp, FpOk X pins H b) (ho : ∀ b ∈ fp, ∃ o, s.heap.get? b = some o ∧ ∀ v, o.data ≠ .cell v) : Inv X (pins ++ pinsAt fp s.heap) σ H s :=
  I.pins_of fun p hp => (List.mem_append.mp hp).elim (fun z => I.pin p (List.mem_append_right _ z)) fun z => by
    obtain ⟨hb, e⟩ := of_pinsAt z
    obtain ⟨f0, f1, f2, _⟩ := hf p.1 hb
    obtain ⟨o, e', d⟩ := ho p.1 hb
    rw [e] at e'; cases e'
    exact ⟨e, f0, f1, f2, d⟩
theorem Inv.unpinned {pins pl : List (Addr × Obj)} {σ : St} {H : Hp} {s : Shared} (I : Inv X (pins ++ pl) σ H s) : Inv X pins σ H s := I.pins_of fun p hp => I.pin p (List.mem_append_right _ (List.mem_append_left _ hp))
theorem ps_for {iter : Expr} {body : List Stmt} {wi : TI} {g : TG} {tb : TS} {pos : Pos} (hp : PassesOwn (model X.prog X.w) X.A X.env X.xe) (hc : X.calm = true) (hi : PI X tg iter wi) (hg : PG X tg g) (hb : PSs X body tb)
    (hs : ∀ x, foldedSetIterable iter X.env x = pure x := by intro _; rfl) : PS X (.For tg iter body [] pos) (tFor wi g tb) := by
  intro pins s σ H D I h
  refine wpAny_For (thn (hi pins s σ H _ I h) fun v s1 h1 => thn h1 fun itv s2 h2 => ?_) hs
  obtain ⟨it, fp, tn, J, H2, e, I2, T, st2, f2, W, ⟨m0, w0⟩, turn⟩ := h2
  subst e
  -- what stays true of the iterator's objects through the loop
  have stat : ∀ {H' : Hp}, (∀ b ∈ fp, H' b = none) → ∀ b ∈ fp, FpOk X pins H' b := fun hn b hb => ⟨hn b hb, (f2 b hb).2⟩
  refine codeAny_forLoop_any (fun n s' => ∃ i σ' H', Inv X pins σ' H' s' ∧ tn i s'.heap ∧ (∀ b ∈ fp, H' b = none) ∧ W i n σ' H') ?_ m0 ⟨0, σ, H2, I2, st2, fun b hb => (f2 b hb).1, w0⟩
  rintro n s3 ⟨i, σ3, H3, I3, st3, fr3, w3⟩
  rcases turn i n σ3 H3 w3 with ⟨stop, qn⟩ | ⟨go, N, hN, step⟩
  · refine wpAny_passesOwn hp (thn (T.done X rfl rfl rfl hc i pins s3 σ3 H3 X.xe I3 (stat fr3) st3 stop) fun r s4 ⟨hr, I4⟩ => ?_)
    subst hr
    exact wpAny_execs_nil ⟨σ3, H3, I4, qn⟩
  · refine wpAny_passesOwn hp (thn (T.item X rfl rfl rfl hc i pins s3 σ3 H3 X.xe I3 (stat fr3) st3 go) fun r s4 ⟨u, hr, h4⟩ => ?_)
    subst hr
    refine wpAny_passesOwn hp (thn h4 fun _ s5 ⟨x, H5, I5, r5, y5, st5, fr5⟩ => ?_)
    have I5' := I5.pinned (stat fr5) (T.obj _ _ st5)
    refine wpAny_passesOwn hp (thn (hg _ s5 σ3 H5 x u _ I5' r5 (step x H5 y5)) fun _ s6 ⟨σ6, H6, I6, q6⟩ => ?_)
    refine wpAny_passesOwn hp (thn (hb _ s6 σ6 H6 _ I6 q6) fun f s7 q7 => ?_)
    have again : ∀ {σ7 : St} {H7 : Hp}, Inv X (pins ++ pinsAt fp s5.heap) σ7 H7 s7 → N σ7 H7 → ∃ m, m < n ∧ ∃ i σ' H', Inv X pins σ' H' s7 ∧ tn i s7.heap ∧ (∀ b ∈ fp, H' b = none) ∧ W i m σ' H' := fun {σ7 H7} I7 n7 => by
      obtain ⟨m', hm, w7⟩ := hN σ7 H7 n7
      refine ⟨m', hm, i + 1, σ7, H7, I7.unpinned, T.keep _ _ _ st5 fun b hb o e => (I7.pin (b, o) (List.mem_append_right _ (List.mem_append_right _ (mem_pinsAt hb e)))).1, fun b hb => ?_, w7⟩
      obtain ⟨o, e, d⟩ := T.obj _ _ st5 b hb
      exact (I7.pin (b, o) (List.mem_append_right _ (List.mem_append_right _ (mem_pinsAt hb e)))).2.1
    cases f with
    | next => obtain ⟨σ7, H7, I7, n7⟩ := q7; exact again I7 n7
    | cont => obtain ⟨σ7, H7, I7, n7⟩ := q7; exact again I7 n7
    | brk => obtain ⟨σ7, H7, I7, q7⟩ := q7; exact ⟨σ7, H7, I7.unpinned, q7⟩
    | ret v => obtain ⟨x7, σ7, H7, I7, r7, q7⟩ := q7; exact ⟨x7, σ7, H7, I7.unpinned, r7, q7⟩
end

/-! ### the forms one uses -/
/-- over a list that the body leaves as it is -/
theorem for_list {K : PySem.W.Frag} {a : Addr} {xs : List V} {g : TG} {tb : TS} {D : Ends} {σ : St} {H : Hp} (Pv : Nat → St → Hp → Prop) (h0 : Pv 0 σ H) (hl : ∀ i σ H, i ≤ xs.length → Pv i σ H → SqL K H a xs)
    (hs : ∀ i x σ H, xs[i]? = some x → Pv i σ H → g x σ H fun σ2 H2 => tb { D with nx := Pv (i + 1), ct := Pv (i + 1), bk := D.nx } σ2 H2) (hd : ∀ σ H, Pv xs.length σ H → D.nx σ H) :
    ∃ W : Nat → Nat → St → Hp → Prop, (∃ m, W 0 m σ H) ∧ ∀ i m σ H, W i m σ H →
      ((Itl K a).stop i H ∧ D.nx σ H) ∨ ((Itl K a).go i H ∧ ∃ N : St → Hp → Prop, (∀ σ' H', N σ' H' → ∃ m', m' < m ∧ W (i + 1) m' σ' H') ∧ ∀ x H', (Itl K a).yld i H x H' → g x σ H' fun σ2 H2 => tb { D with nx := N, ct := N, bk := D.nx } σ2 H2) := by
  refine ⟨fun i m σ H => m = xs.length - i ∧ i ≤ xs.length ∧ Pv i σ H, ⟨xs.length, by simp, Nat.zero_le _, h0⟩, ?_⟩
  rintro i m σ H ⟨rfl, hi, p⟩
  have q := hl i σ H hi p
  by_cases hlt : i < xs.length
  · refine .inr ⟨⟨xs, xs[i], q, by simp [hlt]⟩, Pv (i + 1), fun σ' H' p' => ⟨xs.length - (i + 1), by omega, rfl, hlt, p'⟩, fun x H' y => ?_⟩
    obtain ⟨e, y⟩ := y
    subst e
    exact hs i x σ _ (y xs q) p
  · have e : i = xs.length := by omega
    subst e
    exact .inl ⟨⟨xs, q, Nat.le_refl _⟩, hd σ H p⟩
theorem for_tup {K : PySem.W.Frag} {a : Addr} {xs : List V} {g : TG} {tb : TS} {D : Ends} {σ : St} {H : Hp} (Pv : Nat → St → Hp → Prop) (h0 : Pv 0 σ H) (hl : ∀ i σ H, i ≤ xs.length → Pv i σ H → SqT K H a xs)
    (hs : ∀ i x σ H, xs[i]? = some x → Pv i σ H → g x σ H fun σ2 H2 => tb { D with nx := Pv (i + 1), ct := Pv (i + 1), bk := D.nx } σ2 H2) (hd : ∀ σ H, Pv xs.length σ H → D.nx σ H) :
    ∃ W : Nat → Nat → St → Hp → Prop, (∃ m, W 0 m σ H) ∧ ∀ i m σ H, W i m σ H →
      ((Itt K a).stop i H ∧ D.nx σ H) ∨ ((Itt K a).go i H ∧ ∃ N : St → Hp → Prop, (∀ σ' H', N σ' H' → ∃ m', m' < m ∧ W (i + 1) m' σ' H') ∧ ∀ x H', (Itt K a).yld i H x H' → g x σ H' fun σ2 H2 => tb { D with nx := N, ct := N, bk := D.nx } σ2 H2) := by
  refine ⟨fun i m σ H => m = xs.length - i ∧ i ≤ xs.length ∧ Pv i σ H, ⟨xs.length, by simp, Nat.zero_le _, h0⟩, ?_⟩
  rintro i m σ H ⟨rfl, hi, p⟩
  have q := hl i σ H hi p
  by_cases hlt : i < xs.length
  · refine .inr ⟨⟨xs, xs[i], q, by simp [hlt]⟩, Pv (i + 1), fun σ' H' p' => ⟨xs.length - (i + 1), by omega, rfl, hlt, p'⟩, fun x H' y => ?_⟩
    obtain ⟨e, y⟩ := y
    subst e
    exact hs i x σ _ (y xs q) p
  · have e : i = xs.length := by omega
    subst e
    exact .inl ⟨⟨xs, q, Nat.le_refl _⟩, hd σ H p⟩
theorem for_range {lo : Int} {n : Nat} {g : TG} {tb : TS} {D : Ends} {σ : St} {H : Hp} (Pv : Nat → St → Hp → Prop) (h0 : Pv 0 σ H)
    (hs : ∀ i σ H, i < n → Pv i σ H → g (.int (lo + i)) σ H fun σ2 H2 => tb { D with nx := Pv (i + 1), ct := Pv (i + 1), bk := D.nx } σ2 H2) (hd : ∀ σ H, Pv n σ H → D.nx σ H) :
    ∃ W : Nat → Nat → St → Hp → Prop, (∃ m, W 0 m σ H) ∧ ∀ i m σ H, W i m σ H →
      ((Itr lo n).stop i H ∧ D.nx σ H) ∨ ((Itr lo n).go i H ∧ ∃ N : St → Hp → Prop, (∀ σ' H', N σ' H' → ∃ m', m' < m ∧ W (i + 1) m' σ' H') ∧ ∀ x H', (Itr lo n).yld i H x H' → g x σ H' fun σ2 H2 => tb { D with nx := N, ct := N, bk := D.nx } σ2 H2) := by
  refine ⟨fun i m σ H => m = n - i ∧ i ≤ n ∧ Pv i σ H, ⟨n, by simp, Nat.zero_le _, h0⟩, ?_⟩
  rintro i m σ H ⟨rfl, hi, p⟩
  by_cases hlt : i < n
  · refine .inr ⟨hlt, Pv (i + 1), fun σ' H' p' => ⟨n - (i + 1), by omega, rfl, hlt, p'⟩, fun x H' y => ?_⟩
    obtain ⟨e, y⟩ := y
    subst e y
    exact hs i σ _ hlt p
  · have e : i = n := by omega
    subst e
    exact .inl ⟨Nat.le_refl _, hd σ H p⟩
end L2

namespace L2
open PySem PySem.Spec PyProof.Rows

abbrev R2 := V → V → Hp → VK → Prop
/-- a two-place operation on values: f is binaryOp op, inplaceOp op or compareOp op -/
def OpR (X : Cx) (f : Value → Value → Sem Value) (r : R2) : Prop :=
  ∀ (pins : List (Addr × Obj)) (s : Shared) (σ : St) (H : Hp) (x y : V) (v u : Value) (Q : VK), Inv X pins σ H s → RelV x v → RelV y u → r x y H Q →
    wpAny (model X.prog X.w) X.A (f v u) (EP X pins σ Q) X.xe s
/-- a one-place operation -/
def UnR (X : Cx) (f : Value → Sem Value) (r : V → Hp → VK → Prop) : Prop :=
  ∀ (pins : List (Addr × Obj)) (s : Shared) (σ : St) (H : Hp) (x : V) (v : Value) (Q : VK), Inv X pins σ H s → RelV x v → r x H Q →
    wpAny (model X.prog X.w) X.A (f v) (EP X pins σ Q) X.xe s
/-- a call of a value that is known (a builtin, a type) with values -/
def CallR (X : Cx) (f : Value) (r : List V → Hp → VK → Prop) : Prop :=
  ∀ (pins : List (Addr × Obj)) (s : Shared) (σ : St) (H : Hp) (xs : List V) (us : List Value) (Q : VK), Inv X pins σ H s → Vals xs us → r xs H Q →
    wpAny (model X.prog X.w) X.A (call f us) (EP X pins σ Q) X.xe s
/-- a value's truth -/
def TruR (X : Cx) (r : V → Hp → (Bool → Hp → Prop) → Prop) : Prop :=
  ∀ (pins : List (Addr × Obj)) (s : Shared) (σ : St) (H : Hp) (x : V) (v : Value) (Q : Bool → Hp → Prop), Inv X pins σ H s → RelV x v → r x H Q →
    wpAny (model X.prog X.w) X.A (truthy v) (TP X pins σ Q) X.xe s

def tOp (r : R2) (ta tb : TE) : TE := fun σ H Q => ta σ H fun x H1 => tb σ H1 fun y H2 => r x y H2 Q
def tUn (r : V → Hp → VK → Prop) (ta : TE) : TE := fun σ H Q => ta σ H fun x H1 => r x H1 Q
/-- ints in, under C, and a value out -/
def rI (C : Int → Int → Prop) (g : Int → Int → V) : R2 := fun x y H Q => ∃ i j, x = .int i ∧ y = .int j ∧ C i j ∧ Q (g i j) H
def rI0 (g : Int → Int → V) : R2 := fun x y H Q => ∃ i j, x = .int i ∧ y = .int j ∧ Q (g i j) H
def rU (g : Int → V) : V → Hp → VK → Prop := fun x H Q => ∃ i, x = .int i ∧ Q (g i) H

section
variable {X : Cx} {a b c : Expr} {ta tb tc : TE} {pos : Pos}

theorem binT (ha : PE X a ta) (hb : PE X b tb) {pins : List (Addr × Obj)} {s : Shared} {σ : St} {H : Hp} {R : V → V → Hp → Prop} (I : Inv X pins σ H s)
    (h : ta σ H fun x H1 => tb σ H1 fun y H2 => R x y H2) {Q : Value → Shared → Prop} {f : Value → Value → Sem Value}
    (hf : ∀ v u s2 x y H2, Inv X pins σ H2 s2 → RelV x v → RelV y u → R x y H2 → wpAny (model X.prog X.w) X.A (f v u) Q X.xe s2) :
    wpAny (model X.prog X.w) X.A (eval a X.env) (fun v s₁ => wpAny (model X.prog X.w) X.A (eval b X.env) (fun u s₂ => wpAny (model X.prog X.w) X.A (f v u) Q X.xe s₂) X.xe s₁) X.xe s := by
  refine thn (ha pins s σ H _ I h) fun v s1 ⟨x, H1, I1, r1, q1⟩ => ?_
  refine thn (hb pins s1 σ H1 _ I1 q1) fun u s2 ⟨y, H2, I2, r2, q2⟩ => ?_
  exact hf v u s2 x y H2 I2 r1 r2 q2

theorem pe_op {op : Operator} {r : R2} (ho : OpR X (binaryOp op) r) (ha : PE X a ta) (hb : PE X b tb) : PE X (.BinOp a op b pos) (tOp r ta tb) := by
  intro pins s σ H Q I h
  exact wpAny_BinOp (binT ha hb I h fun v u s2 x y H2 I2 rx ry q => ho pins s2 σ H2 x y v u Q I2 rx ry q)
theorem pe_un {op : UnaryOp} {r : V → Hp → VK → Prop} (ho : UnR X (unaryOp op) r) (ha : PE X a ta) : PE X (.UnaryOp op a pos) (tUn r ta) := by
  intro pins s σ H Q I h
  exact UnaryOp_ (thn (ha pins s σ H _ I h) fun v s1 ⟨x, H1, I1, r1, q1⟩ => ho pins s1 σ H1 x v Q I1 r1 q1)
/-! ### ints -/
theorem opI {f : Value → Value → Sem Value} {C : Int → Int → Prop} {g : Int → Int → Int}
    (rule : ∀ (i j : Int) (t u : Tok) (s : Shared) (Q : Value → Shared → Prop) (E : Value → Shared → Prop), C i j → Q (.int (g i j) s.toks) { s with toks := s.toks + 1 } → wpAny (model X.prog X.w) X.A (f (.int i t) (.int j u)) Q E s) :
    OpR X f (rI C fun i j => .int (g i j)) := by
  intro pins s σ H x y v u Q I rx ry h
  obtain ⟨i, j, rfl, rfl, hc, q⟩ := h
  obtain ⟨t, rfl⟩ := rx
  obtain ⟨t', rfl⟩ := ry
  exact rule i j t t' s _ _ hc ⟨.int (g i j), H, I.tok _, ⟨_, rfl⟩, q⟩
theorem opI0 {f : Value → Value → Sem Value} {g : Int → Int → Int}
    (rule : ∀ (i j : Int) (t u : Tok) (s : Shared) (Q : Value → Shared → Prop) (E : Value → Shared → Prop), Q (.int (g i j) s.toks) { s with toks := s.toks + 1 } → wpAny (model X.prog X.w) X.A (f (.int i t) (.int j u)) Q E s) :
    OpR X f (rI0 fun i j => .int (g i j)) := by
  intro pins s σ H x y v u Q I rx ry h
  obtain ⟨i, j, rfl, rfl, q⟩ := h
  obtain ⟨t, rfl⟩ := rx
  obtain ⟨t', rfl⟩ := ry
  exact rule i j t t' s _ _ ⟨.int (g i j), H, I.tok _, ⟨_, rfl⟩, q⟩
theorem opB0 {f : Value → Value → Sem Value} {g : Int → Int → Bool}
    (rule : ∀ (i j : Int) (t u : Tok) (s : Shared) (Q : Value → Shared → Prop) (E : Value → Shared → Prop), Q (.bool (g i j)) s → wpAny (model X.prog X.w) X.A (f (.int i t) (.int j u)) Q E s) :
    OpR X f (rI0 fun i j => .bl (g i j)) := by
  intro pins s σ H x y v u Q I rx ry h
  obtain ⟨i, j, rfl, rfl, q⟩ := h
  obtain ⟨t, rfl⟩ := rx
  obtain ⟨t', rfl⟩ := ry
  exact rule i j t t' s _ _ ⟨.bl (g i j), H, I, rfl, q⟩

def CDiv (i j : Int) : Prop := 0 < j ∧ j < 1073741824
def CDivN (i j : Int) : Prop := j ≠ 0 ∧ j.natAbs < 1073741824
def CPow (i j : Int) : Prop := 0 ≤ j ∧ j ≤ 1000000 ∧ i.natAbs < 2 ^ 64
def CMul (i j : Int) : Prop := (-(2 ^ 64) < i ∧ i < 2 ^ 64) ∨ (-(2 ^ 64) < j ∧ j < 2 ^ 64)
theorem CMul.ok {i j : Int} (h : CMul i j) : IntMulOk i j := by
  rcases h with ⟨h1, h2⟩ | ⟨h1, h2⟩
  · exact .of_left (intBits_le_64 h1 h2)
  · exact .of_right (intBits_le_64 h1 h2)
theorem op_add : OpR X (binaryOp .Add) (rI0 fun i j => .int (i + j)) := opI0 fun _ _ _ _ _ _ _ q => add_int q
theorem op_sub : OpR X (binaryOp .Sub) (rI0 fun i j => .int (i - j)) := opI0 fun _ _ _ _ _ _ _ q => sub_int q
theorem op_mul : OpR X (binaryOp .Mult) (rI CMul fun i j => .int (i * j)) := opI fun _ _ _ _ _ _ _ hc q => mul_int q hc.ok
/-- // by a positive divisor -/
theorem op_fdiv : OpR X (binaryOp .FloorDiv) (rI CDiv fun i j => .int (i / j)) := opI fun i j _ _ _ _ _ hc q => by
  have h1 : (0 : Int) < j := hc.1
  have h2 : j < 1073741824 := hc.2
  exact floordiv_int (by omega) (by rw [Int.fdiv_eq_ediv_of_nonneg i (by omega)]; exact q) (.inl (PyProof.noPylong_small (by omega)))
/-- % by a positive divisor of any size -/
theorem op_mod : OpR X (binaryOp .Mod) (rI (fun _ j => 0 < j) fun i j => .int (i % j)) := opI fun i j _ _ _ _ _ hc q => by
  have h1 : (0 : Int) < j := hc
  exact mod_int' (by omega) (by rw [Int.fmod_eq_emod_of_nonneg i (by omega)]; exact q)
theorem unI {f : Value → Sem Value} {g : Int → Int}
    (rule : ∀ (i : Int) (t : Tok) (s : Shared) (Q : Value → Shared → Prop) (E : Value → Shared → Prop), Q (.int (g i) s.toks) { s with toks := s.toks + 1 } → wpAny (model X.prog X.w) X.A (f (.int i t)) Q E s) :
    UnR X f (rU fun i => .int (g i)) := by
  intro pins s σ H x v Q I rx h
  obtain ⟨i, rfl, q⟩ := h
  obtain ⟨t, rfl⟩ := rx
  exact rule i t s _ _ ⟨.int (g i), H, I.tok _, ⟨_, rfl⟩, q⟩
theorem un_neg : UnR X (unaryOp .USub) (rU fun i => .int (-i)) := unI fun _ _ _ _ _ q => neg_int q
/-! ### bools among ints: n += (a < b) -/
end

/-! ### comparisons -/
/-- the scalars that == tells apart as data does -/
def scal : V → V → Bool
  | .non, .non => true | .non, .int _ => true | .int _, .non => true | .non, .bl _ => true | .bl _, .non => true | .non, .str _ => true | .str _, .non => true
  | .int _, .int _ => true | .bl _, .bl _ => true | .str _, .str _ => true | .byt _, .byt _ => true
  | .int _, .str _ => true | .str _, .int _ => true | .bl _, .str _ => true | .str _, .bl _ => true
  | _, _ => false
def rEq : R2 := fun x y H Q => scal x y = true ∧ Q (.bl (decide (x = y))) H
def rNe : R2 := fun x y H Q => scal x y = true ∧ Q (.bl (!decide (x = y))) H

theorem dec_int {i j : Int} : decide (V.int i = V.int j) = (i == j) := by
  rw [Bool.eq_iff_iff]
  simp
theorem dec_bl {i j : Bool} : decide (V.bl i = V.bl j) = (i == j) := by
  rw [Bool.eq_iff_iff]
  simp
theorem dec_str {i j : Str} : decide (V.str i = V.str j) = (i == j) := by
  rw [Bool.eq_iff_iff]
  simp
theorem dec_byt {i j : Array UInt8} : decide (V.byt i = V.byt j) = (i.toList == j.toList) := by
  rw [Bool.eq_iff_iff]
  cases i
  cases j
  simp

section
variable {X : Cx} {a b c : Expr} {ta tb tc : TE} {pos : Pos}
theorem fin_bl {pins : List (Addr × Obj)} {σ : St} {H : Hp} {s : Shared} {Q : VK} {k k' : Bool} (I : Inv X pins σ H s) (q : Q (.bl k) H) (e : k = k') : EP X pins σ Q (.bool k') s := by
  subst e
  exact ⟨.bl k, H, I, rfl, q⟩
theorem op_eq : OpR X (compareOp .Eq) rEq := by
  intro pins s σ H x y v u Q I rx ry h
  obtain ⟨hs, q⟩ := h
  cases x with
  | non =>
    cases rx
    cases y with
    | non => cases ry; exact PySem.EqNone.eq_none_none (fin_bl I q (by simp))
    | bl j => cases ry; exact PySem.EqNone.eq_none_bool (fin_bl I q (by simp))
    | int j => obtain ⟨t', rfl⟩ := ry; exact PySem.EqNone.eq_none_int (fin_bl I q (by simp))
    | str j => obtain ⟨t', rfl⟩ := ry; exact PySem.EqNone.eq_none_str (fin_bl I q (by simp))
    | _ => exact absurd (show false = true from hs) Bool.false_ne_true
  | bl i =>
    cases rx
    cases y with
    | non => cases ry; exact PySem.EqNone.eq_bool_none (fin_bl I q (by simp))
    | bl j => cases ry; exact eq_bool (fin_bl I q dec_bl)
    | str j => obtain ⟨t', rfl⟩ := ry; exact PySem.EqMixed.eq_bool_str (fin_bl I q (by simp))
    | _ => exact absurd (show false = true from hs) Bool.false_ne_true
  | int i =>
    obtain ⟨t, rfl⟩ := rx
    cases y with
    | non => cases ry; exact PySem.EqNone.eq_int_none (fin_bl I q (by simp))
    | int j => obtain ⟨t', rfl⟩ := ry; exact eq_int (fin_bl I q dec_int)
    | str j => obtain ⟨t', rfl⟩ := ry; exact PySem.EqMixed.eq_int_str (fin_bl I q (by simp))
    | _ => exact absurd (show false = true from hs) Bool.false_ne_true
  | str i =>
    obtain ⟨t, rfl⟩ := rx
    cases y with
    | non => cases ry; exact PySem.EqNone.eq_str_none (fin_bl I q (by simp))
    | bl j => cases ry; exact PySem.EqMixed.eq_str_bool (fin_bl I q (by simp))
    | int j => obtain ⟨t', rfl⟩ := ry; exact PySem.EqMixed.eq_str_int (fin_bl I q (by simp))
    | str j => obtain ⟨t', rfl⟩ := ry; exact eq_str (fin_bl I q dec_str)
    | _ => exact absurd (show false = true from hs) Bool.false_ne_true
  | byt i =>
    obtain ⟨t, rfl⟩ := rx
    cases y with
    | byt j => obtain ⟨t', rfl⟩ := ry; exact PySem.W.eq_bytes (fin_bl I q dec_byt)
    | _ => exact absurd (show false = true from hs) Bool.false_ne_true
  | _ => cases y <;> exact absurd (show false = true from hs) Bool.false_ne_true
theorem op_ne : OpR X (compareOp .NotEq) rNe := by
  intro pins s σ H x y v u Q I rx ry h
  obtain ⟨hs, q⟩ := h
  cases x with
  | non =>
    cases rx
    cases y with
    | non => cases ry; exact PySem.EqNone.ne_none_none (fin_bl I q (by simp))
    | bl j => cases ry; exact PySem.EqNone.ne_none_bool (fin_bl I q (by simp))
    | int j => obtain ⟨t', rfl⟩ := ry; exact PySem.EqNone.ne_none_int (fin_bl I q (by simp))
    | str j => obtain ⟨t', rfl⟩ := ry; exact PySem.EqNone.ne_none_str (fin_bl I q (by simp))
    | _ => exact absurd (show false = true from hs) Bool.false_ne_true
  | bl i =>
    cases rx
    cases y with
    | non => cases ry; exact PySem.EqNone.ne_bool_none (fin_bl I q (by simp))
    | bl j => cases ry; exact ne_bool (fin_bl I q (congrArg not dec_bl))
    | str j => obtain ⟨t', rfl⟩ := ry; exact PySem.EqMixed.ne_bool_str (fin_bl I q (by simp))
    | _ => exact absurd (show false = true from hs) Bool.false_ne_true
  | int i =>
    obtain ⟨t, rfl⟩ := rx
    cases y with
    | non => cases ry; exact PySem.EqNone.ne_int_none (fin_bl I q (by simp))
    | int j => obtain ⟨t', rfl⟩ := ry; exact ne_int (fin_bl I q (congrArg not dec_int))
    | str j => obtain ⟨t', rfl⟩ := ry; exact PySem.EqMixed.ne_int_str (fin_bl I q (by simp))
    | _ => exact absurd (show false = true from hs) Bool.false_ne_true
  | str i =>
    obtain ⟨t, rfl⟩ := rx
    cases y with
    | non => cases ry; exact PySem.EqNone.ne_str_none (fin_bl I q (by simp))
    | bl j => cases ry; exact PySem.EqMixed.ne_str_bool (fin_bl I q (by simp))
    | int j => obtain ⟨t', rfl⟩ := ry; exact PySem.EqMixed.ne_str_int (fin_bl I q (by simp))
    | str j => obtain ⟨t', rfl⟩ := ry; exact ne_str (fin_bl I q (congrArg not dec_str))
    | _ => exact absurd (show false = true from hs) Bool.false_ne_true
  | byt i =>
    obtain ⟨t, rfl⟩ := rx
    cases y with
    | byt j => obtain ⟨t', rfl⟩ := ry; exact PySem.W.ne_bytes (fin_bl I q (congrArg not dec_byt))
    | _ => exact absurd (show false = true from hs) Bool.false_ne_true
  | _ => cases y <;> exact absurd (show false = true from hs) Bool.false_ne_true

theorem op_lt : OpR X (compareOp .Lt) (rI0 fun i j => .bl (decide (i < j))) := opB0 fun _ _ _ _ _ _ _ q => lt_int q
theorem op_le : OpR X (compareOp .LtE) (rI0 fun i j => .bl (decide (i ≤ j))) := opB0 fun _ _ _ _ _ _ _ q => le_int q
theorem op_gt : OpR X (compareOp .Gt) (rI0 fun i j => .bl (decide (j < i))) := opB0 fun _ _ _ _ _ _ _ q => gt_int q
theorem op_ge : OpR X (compareOp .GtE) (rI0 fun i j => .bl (decide (j ≤ i))) := opB0 fun _ _ _ _ _ _ _ q => ge_int q
/-- the one string within the other -/
theorem op_in_str : OpR X (compareOp .In) (fun x y H Q => ∃ i j, x = .str i ∧ y = .str j ∧ Q (.bl (!(Builtin.Str.occurrences j i 0 j.length 1).isEmpty)) H) := by
  intro pins s σ H x y v u Q I rx ry h
  obtain ⟨i, j, rfl, rfl, q⟩ := h
  obtain ⟨t, rfl⟩ := rx
  obtain ⟨t', rfl⟩ := ry
  exact in_str (fin_bl I q rfl)

/-- is None, is not None: the right side a value none -/
theorem op_isN : OpR X (compareOp .Is) (fun x y H Q => y = .non ∧ Q (.bl (decide (x = .non))) H) := by
  intro pins s σ H x y v u Q I rx ry h
  obtain ⟨rfl, q⟩ := h
  cases ry
  refine is_none_gen (fin_bl I q ?_)
  cases x <;> first
    | (cases rx; rfl)
    | (obtain ⟨t, rfl⟩ := rx; rfl)
/-- is, is not of two objects that are tracked lists or instances -/
def isObj : HO → Bool
  | .lst _ => true
  | .ins _ _ _ => true
  | _ => false
theorem nomark (b : Expr) {op : CmpOp} (h : op ≠ .In := by decide) (h2 : op ≠ .NotIn := by decide) : behindInMarks op b = false := by
  have e1 : (op == CmpOp.In) = false := by cases op <;> first | rfl | exact absurd rfl h
  have e2 : (op == CmpOp.NotIn) = false := by cases op <;> first | rfl | exact absurd rfl h2
  cases b <;> simp [behindInMarks, e1, e2]
/-- a comparison as a value; hm: nomark b, or (for in, not in) by with_unfolding_all rfl -/
theorem pe_cmpR {op : CmpOp} {r : R2} (ho : OpR X (compareOp op) r) (ha : PE X a ta) (hb : PE X b tb) (hm : behindInMarks op b = false) : PE X (.Compare a [op] [b] pos) (tOp r ta tb) := by
  intro pins s σ H Q I h
  exact wpAny_Compare1 (binT ha hb I h fun v u s2 x y H2 I2 rx ry q => ho pins s2 σ H2 x y v u Q I2 rx ry q) hm
/-- a reading of a value as a test -/
def tTest (t : TE) : TT := fun σ H Q => t σ H fun x H' => ∃ k, x = .bl k ∧ Q k H'
theorem pt_cmpR {op : CmpOp} {r : R2} (ho : OpR X (compareOp op) r) (ha : PE X a ta) (hb : PE X b tb) (hm : behindInMarks op b = false) : PT X (.Compare a [op] [b] pos) (tTest (tOp r ta tb)) := by
  intro pins s σ H Q I h
  refine wpAny_isTrue_Compare1 (thn (ha pins s σ H _ I h) fun v s1 ⟨x, H1, I1, r1, q1⟩ => thn (hb pins s1 σ H1 _ I1 q1) fun u s2 ⟨y, H2, I2, r2, q2⟩ =>
    thn (ho pins s2 σ H2 x y v u _ I2 r1 r2 q2) fun c s3 ⟨z, H3, I3, r3, k, e, q3⟩ => ?_) hm
  subst e
  cases r3
  exact wpAny_truthy_bool ⟨H3, I3, q3⟩
/-- a op1 b op2 c -/
def tChain (r r' : R2) (ta tb tc : TE) : TE := fun σ H Q => ta σ H fun x H1 => tb σ H1 fun y H2 => r x y H2 fun z H3 => ∃ k, z = .bl k ∧
  (if k = true then tc σ H3 fun w' H4 => r' y w' H4 Q else Q (.bl false) H3)
theorem pe_chain {op op' : CmpOp} {r r' : R2} (ho : OpR X (compareOp op) r) (ho' : OpR X (compareOp op') r') (ha : PE X a ta) (hb : PE X b tb) (hc : PE X c tc)
    (hm : lastMarks [op, op'] [b, c] = false := by with_unfolding_all rfl) : PE X (.Compare a [op, op'] [b, c] pos) (tChain r r' ta tb tc) := by
  intro pins s σ H Q I h
  refine Compare_chain (thn (ha pins s σ H _ I h) fun v s1 ⟨x, H1, I1, r1, q1⟩ => chain_link (thn (hb pins s1 σ H1 _ I1 q1) fun u s2 ⟨y, H2, I2, r2, q2⟩ =>
    thn (ho pins s2 σ H2 x y v u _ I2 r1 r2 q2) fun d s3 ⟨z, H3, I3, r3, k, e, q3⟩ => ?_)) hm
  subst e
  cases r3
  refine wpAny_truthy_bool ?_
  cases k with
  | false => exact ite_ff ⟨.bl false, H3, I3, rfl, q3⟩
  | true => exact ite_tt (chain_last (thn (hc pins s3 σ H3 _ I3 q3) fun w' s4 ⟨z', H4, I4, r4, q4⟩ => ho' pins s4 σ H4 y z' u w' Q I4 r2 r4 q4))
theorem pt_chain {op op' : CmpOp} {r r' : R2} (ho : OpR X (compareOp op) r) (ho' : OpR X (compareOp op') r') (ha : PE X a ta) (hb : PE X b tb) (hc : PE X c tc)
    (hm : lastMarks [op, op'] [b, c] = false := by with_unfolding_all rfl) : PT X (.Compare a [op, op'] [b, c] pos) (tTest (tChain r r' ta tb tc)) := by
  intro pins s σ H Q I h
  refine isTrue_chain (thn (ha pins s σ H _ I h) fun v s1 ⟨x, H1, I1, r1, q1⟩ => test_link (thn (hb pins s1 σ H1 _ I1 q1) fun u s2 ⟨y, H2, I2, r2, q2⟩ =>
    thn (ho pins s2 σ H2 x y v u _ I2 r1 r2 q2) fun d s3 ⟨z, H3, I3, r3, k, e, q3⟩ => ?_)) hm
  subst e
  cases r3
  refine wpAny_truthy_bool ?_
  cases k with
  | false =>
    obtain ⟨k', e', q'⟩ := q3
    cases e'
    exact ite_ff ⟨H3, I3, q'⟩
  | true =>
    refine ite_tt (test_last (thn (hc pins s3 σ H3 _ I3 q3) fun w' s4 ⟨z', H4, I4, r4, q4⟩ => thn (ho' pins s4 σ H4 y z' u w' _ I4 r2 r4 q4) fun d' s5 ⟨z2, H5, I5, r5, k2, e2, q5⟩ => ?_))
    subst e2
    cases r5
    exact wpAny_truthy_bool ⟨H5, I5, q5⟩

/-! ### truth -/
/-- a value's truth by the abstract heap -/
def TruV (K : PySem.W.Frag) (x : V) (H : Hp) (k : Bool) : Prop :=
  match x with
  | .non => k = false
  | .bl b => k = b
  | .int i => k = (i != 0)
  | .str y => y.length ≤ sizeLine ∧ k = ((y.length : Int) != 0)
  | .byt y => y.size ≤ sizeLine ∧ k = ((y.size : Int) != 0)
  | .ref p => (∃ xs, SqL K H p xs ∧ k = !xs.isEmpty) ∨ (∃ xs, SqT K H p xs ∧ k = !xs.isEmpty) ∨ ∃ kvs, H p = some (.dK kvs) ∧ k = !kvs.isEmpty
  | _ => False
theorem isEmpty_kv {κ : Type} {kvs : List (κ × V)} {vs : List (κ × Value)} (r : KV kvs vs) : (!vs.isEmpty) = !kvs.isEmpty := by
  cases r <;> rfl
theorem isEmpty_of {xs : List V} {its : List Value} (r : Vals xs its) : (!its.toArray.isEmpty) = !xs.isEmpty := by
  cases r <;> simp
theorem line63 : (sizeLine : Nat) < 2 ^ 63 := by rw [sizeLine_eq]; decide
theorem tru_ok : TruR X (fun x H Q => ∃ k, TruV X.K x H k ∧ Q k H) := by
  intro pins s σ H x v Q I rx h
  obtain ⟨k, e, q⟩ := h
  have hl := line63
  have hs : sizeLine = 16777216 := sizeLine_eq
  cases x with
  | non =>
    cases rx
    have e' : k = false := e
    subst e'
    exact truthy_none ⟨H, I, q⟩
  | bl b =>
    cases rx
    have e' : k = b := e
    subst e'
    exact wpAny_truthy_bool ⟨H, I, q⟩
  | int i =>
    obtain ⟨t, rfl⟩ := rx
    have e' : k = (i != 0) := e
    subst e'
    exact PySem.P.truthy_int ⟨H, I, q⟩
  | str y =>
    obtain ⟨t, rfl⟩ := rx
    obtain ⟨hy, e'⟩ : y.length ≤ sizeLine ∧ k = ((y.length : Int) != 0) := e
    subst e'
    exact PySem.P.truthy_str (by omega) ⟨H, I.tok _, q⟩
  | byt y =>
    obtain ⟨t, rfl⟩ := rx
    obtain ⟨hy, e'⟩ : y.size ≤ sizeLine ∧ k = ((y.size : Int) != 0) := e
    subst e'
    exact PySem.W.truthy_bytes (by omega) ⟨H, I.tok _, q⟩
  | ref p =>
    cases rx
    have e' : (∃ xs, SqL X.K H p xs ∧ k = !xs.isEmpty) ∨ (∃ xs, SqT X.K H p xs ∧ k = !xs.isEmpty) ∨ ∃ kvs, H p = some (.dK kvs) ∧ k = !kvs.isEmpty := e
    rcases e' with ⟨xs, hx, e'⟩ | ⟨xs, hx, e'⟩ | ⟨kvs, hx, e'⟩
    · subst e'
      obtain ⟨its, r, pl, hz⟩ := I.list hx
      have hlen := r.length
      exact wpAny_truthy_list pl.isList (by simp only [List.size_toArray]; omega) ⟨H, I.tok _, by rw [isEmpty_of r]; exact q⟩
    · subst e'
      obtain ⟨its, r, pl, hz⟩ := I.tuple hx
      have hlen := r.length
      exact truthy_tuple pl (by simp only [List.size_toArray]; omega) ⟨H, I.tok _, by rw [isEmpty_of r]; exact q⟩
    · subst e'
      obtain ⟨hz, hS, vs, r, m⟩ : kvs.length ≤ sizeLine ∧ (p == sysModules) = false ∧ ∃ vs, KV kvs vs ∧ s.heap.DictOf (mixKind X.prog X.w) p vs := I.hok p _ hx
      have hlen : kvs.length = vs.length := Paired.length r
      exact wpAny_truthy_dict hS m (by omega) ⟨H, I.tok _, by rw [isEmpty_kv r]; exact q⟩
  | _ => exact (show False from e).elim
/-- any expression whose test is its value's truth (a name, a call, a subscript, a field ..: he by fun _ => rfl) -/
theorem pt_truth (ha : PE X a ta) (he : ∀ whole, isTrue a X.env whole = (do let v ← whole; standAt a.pos; holding [v] (truthy v))) :
    PT X a (fun σ H Q => ta σ H fun x H' => ∃ k, TruV X.K x H' k ∧ Q k H') := by
  intro pins s σ H Q I h
  exact isTrue_plain (thn (ha pins s σ H _ I h) fun v s1 ⟨x, H1, I1, r1, q1⟩ => tru_ok pins s1 σ H1 x v Q I1 r1 q1) (he _)

/-! ### strs and bytes -/
theorem op_add_str : OpR X (binaryOp .Add) (fun x y H Q => ∃ i j, x = .str i ∧ y = .str j ∧ i.length + j.length ≤ sizeLine ∧ Q (.str (i ++ j)) H) := by
  intro pins s σ H x y v u Q I rx ry h
  obtain ⟨i, j, rfl, rfl, hz, q⟩ := h
  obtain ⟨t, rfl⟩ := rx
  obtain ⟨t', rfl⟩ := ry
  exact add_str (fun t' tk => ⟨.str (i ++ j), H, I.tok _, ⟨_, rfl⟩, q⟩) hz
def PlainIxT (b : Expr) : Prop := ∀ o i, subscripted b false o i = operate [o, i] (getItem o i)
/-! ### scalar builtins, by CallR -/
theorem vals1 {x : V} {us : List Value} (r : Vals [x] us) : ∃ u, us = [u] ∧ RelV x u := by
  cases r with
  | cons r1 r2 => cases r2; exact ⟨_, rfl, r1⟩
theorem vals2 {x y : V} {us : List Value} (r : Vals [x, y] us) : ∃ u w', us = [u, w'] ∧ RelV x u ∧ RelV y w' := by
  cases r with
  | cons r1 r2 =>
    cases r2 with
    | cons r3 r4 => cases r4; exact ⟨_, _, rfl, r1, r3⟩
theorem call_int1 : CallR X (.type "int") (fun xs H Q => (∃ i, xs = [.int i] ∧ Q (.int i) H) ∨ ∃ k, xs = [.bl k] ∧ Q (.int (if k then 1 else 0)) H) := by
  intro pins s σ H xs us Q I r h
  rcases h with ⟨i, rfl, q⟩ | ⟨k, rfl, q⟩
  · obtain ⟨u, rfl, t, rfl⟩ := vals1 r
    exact call_int_int ⟨.int i, H, I, ⟨_, rfl⟩, q⟩
  · obtain ⟨u, rfl, r1⟩ := vals1 r
    cases r1
    exact call_int_bool ⟨.int (if k then 1 else 0), H, I.tok _, ⟨_, rfl⟩, q⟩
theorem call_str_int : CallR X (.type "str") (fun xs H Q => ∃ i, xs = [.int i] ∧ i.natAbs.log2 < 1920 ∧ Q (.str (toString i)) H) := by
  intro pins s σ H xs us Q I r h
  obtain ⟨i, rfl, hz, q⟩ := h
  obtain ⟨u, rfl, t, rfl⟩ := vals1 r
  exact PySem.P.str_of_int hz ⟨.str _, H, I.tok _, ⟨_, rfl⟩, q⟩
/-- len of a str, a bytes, a list, a tuple -/
def LenV (K : PySem.W.Frag) (x : V) (H : Hp) (n : Nat) : Prop :=
  match x with
  | .str y => y.length ≤ sizeLine ∧ n = y.length
  | .byt y => y.size ≤ sizeLine ∧ n = y.size
  | .ref p => (∃ xs, SqL K H p xs ∧ n = xs.length) ∨ ∃ xs, SqT K H p xs ∧ n = xs.length
  | _ => False
end
end L2

namespace L2
open PySem PySem.Spec PyProof.Rows

/-! ### an instance, its attributes a map -/
structure ObjM (h : Heap) (x dx C : Addr) (mA : Str → Option Value) : Prop where
  obj : h.get? x = some (PySem.W.instObj C dx)
  ns : h.Ns1 dx mA
  ne : dx ≠ x

theorem lookIn_ns {h : Heap} {dx : Addr} {mA : Str → Option Value} (n : h.Ns1 dx mA) : ∃ od, h.get? dx = some od ∧ ∀ name, PySem.W.lookIn name od = some (mA name) := by
  obtain ⟨o, es, ep, ho, hd, hk, _, hm⟩ := n
  refine ⟨o, ho, fun name => ?_⟩
  have e := hm name
  unfold nsFind findBy at e
  rw [← Array.find?_toList] at e
  unfold PySem.W.lookIn
  rw [hd]
  dsimp only
  split
  · rename_i y q
    rw [q] at e
    exact congrArg some e
  · rename_i q
    rw [q] at e
    have a : es.toList.any (·.refKey) = false := by
      rw [List.any_eq_false]
      intro y hy
      obtain ⟨z, t, hkey⟩ := hk y (Array.mem_toList_iff.mp hy)
      simp [DictEntry.refKey, hkey]
    have a' : ¬ es.toList.any (·.refKey) = true := by rw [a]; exact Bool.false_ne_true
    rw [if_neg a']
    exact congrArg some e

theorem ObjM.look {h : Heap} {x dx C : Addr} {mA : Str → Option Value} (I : ObjM h x dx C mA) : ∃ od, PySem.W.InstAt h x (PySem.W.instObj C dx) C (some od) ∧ ∀ name, PySem.W.lookIn name od = some (mA name) :=
  let ⟨od, ho, hl⟩ := lookIn_ns I.ns
  ⟨od, ⟨I.obj, rfl, rfl, ho⟩, hl⟩

section
variable {prog : Program} {w : World} {A : Around} {E : Value → Shared → Prop} {s : Shared} {K : PySem.W.Frag} {x dx C f : Addr} {mA : Str → Option Value} {name : Str} {v : Value}

end

/-! ### the attributes as a list of pairs -/
def putF (f : Str) (v : V) : List (Str × V) → List (Str × V)
  | [] => [(f, v)]
  | (g, x) :: r => if g = f then (g, v) :: r else (g, x) :: putF f v r
section
variable {P : Program} {w : World} {H H' : Hp} {h h' : Heap} {a C dx : Addr} {fs fs' : List (Str × V)}
theorem ins_get (hok : HOk P w H h) (e : H a = some (.ins C dx fs)) : ∃ mA, ObjM h a dx C mA ∧ (∀ f, RelO (fs.lookup f) (mA f)) ∧ PySem.Within mA (fs.map (·.1)) ∧ fs.length ≤ 1000 ∧ H dx = some (.own a) := by
  obtain ⟨d, z, ne, ob, mA, n, r, q⟩ := (show ObjOk P w H h a (.ins C dx fs) from hok a _ e)
  exact ⟨mA, ⟨ob, n, ne⟩, r, q, z, d⟩
end

/-! ### what of the text a class must have -/
structure Cls (K : PySem.W.Frag) (C : Addr) : Prop where
  pg : PySem.W.plainGet K C Str.empty = true
  hd : PySem.W.hasDictIn K C = true
  po : PySem.W.plainOver K C = true
  sa : PySem.W.findIn K (.ref C) "__setattr__" = some (some (.builtin "object.__setattr__"))
theorem Cls.get {K : PySem.W.Frag} {C : Addr} (c : Cls K C) (f : Str) : PySem.W.plainGet K C f = true := c.pg
/-- no class of it has the name -/
def NoAttr (K : PySem.W.Frag) (C : Addr) (f : Str) : Prop := PySem.W.findIn K (.ref C) f = some none
/-- a constant of the class -/
structure Con (K : PySem.W.Frag) (C : Addr) (f : Str) (v : V) (u : Value) : Prop where
  at_ : PySem.W.findIn K (.ref C) f = some (some u)
  rel : RelV v u
  get : PySem.W.specialIn K u "__get__" = some none
  cp : PySem.W.copiedNames.contains f = false
/-- a method: a plain def of the class or of one above it -/
structure Meth (K : PySem.W.Frag) (C : Addr) (m : Str) (f : Addr) : Prop where
  at_ : PySem.W.findIn K (.ref C) m = some (some (.ref f))
  fn : PySem.W.isFn K (.ref f) = true
  kp : PySem.W.keepIn K (.ref f) = true

section
variable {X : Cx} {pins : List (Addr × Obj)} {σ : St} {H : Hp} {s : Shared} {a C dx : Addr} {fs : List (Str × V)} {f : Str} {v : V} {A : Around} {E : Value → Shared → Prop}

end

/-! ### readings and rules -/
/-- e.f, an attribute of the instance -/
def tFld (K : PySem.W.Frag) (ta : TE) (f : Str) : TE := fun σ H Q => ta σ H fun x H1 => ∃ a C dx fs v, x = .ref a ∧ H1 a = some (.ins C dx fs) ∧ Cls K C ∧ NoAttr K C f ∧ fs.lookup f = some v ∧ Q v H1
/-- e.f, a constant of the class -/
def tCon (K : PySem.W.Frag) (ta : TE) (f : Str) : TE := fun σ H Q => ta σ H fun x H1 => ∃ a C dx fs v u, x = .ref a ∧ H1 a = some (.ins C dx fs) ∧ Cls K C ∧ Con K C f v u ∧ fs.lookup f = none ∧ Q v H1
/-- e.f = value -/
def sFld (K : PySem.W.Frag) (ta tv : TE) (f : Str) : TS := fun D σ H => tv σ H fun y H1 => ta σ H1 fun x H2 => ∃ a C dx fs, x = .ref a ∧ H2 a = some (.ins C dx fs) ∧ Cls K C ∧ NoAttr K C f ∧ fs.length < 1000 ∧
  D.nx σ (upd H2 a (.ins C dx (putF f y fs)))
/-- an augmented operator on two values -/
def InOp (X : Cx) (op : Operator) (rd : V → V → Hp → VK → Prop) : Prop :=
  ∀ (pins : List (Addr × Obj)) (s : Shared) (σ : St) (H : Hp) (x y : V) (u v : Value) (Q : VK), Inv X pins σ H s → RelV x u → RelV y v → rd x y H Q → wpAny (model X.prog X.w) X.A (inplaceOp op u v) (EP X pins σ Q) X.xe s
/-- e.f op= value -/
def sFldAug (K : PySem.W.Frag) (ta tv : TE) (rd : V → V → Hp → VK → Prop) (f : Str) : TS := fun D σ H => ta σ H fun x H1 => ∃ a C dx fs v, x = .ref a ∧ H1 a = some (.ins C dx fs) ∧ Cls K C ∧ NoAttr K C f ∧ fs.lookup f = some v ∧
  tv σ H1 fun y H2 => rd v y H2 fun z H3 => ∃ dx' fs', H3 a = some (.ins C dx' fs') ∧ fs'.length < 1000 ∧ D.nx σ (upd H3 a (.ins C dx' (putF f z fs')))

section
variable {X : Cx} {o e value : Expr} {f : Str} {pos pos' tpos : Pos} {ta tv : TE}
def rAdd : V → V → Hp → VK → Prop := fun x y H Q => ∃ i j, x = .int i ∧ y = .int j ∧ Q (.int (i + j)) H
def rSub : V → V → Hp → VK → Prop := fun x y H Q => ∃ i j, x = .int i ∧ y = .int j ∧ Q (.int (i - j)) H
end

/-! ### isinstance -/
section
variable {X : Cx} {pins : List (Addr × Obj)} {σ : St} {H : Hp} {s : Shared} {A : Around} {E : Value → Shared → Prop} {Q : Value → Shared → Prop} {c : Value} {b : Bool}
/-- the type of a value, as the fragment's deciders take it; for an instance its class -/
inductive TyOf (K : PySem.W.Frag) (H : Hp) : V → Value → Prop where
  | non : TyOf K H .non (.type "NoneType")
  | bl (x : Bool) : TyOf K H (.bl x) (.type "bool")
  | int (i : Int) : TyOf K H (.int i) (.type "int")
  | str (x : Str) : TyOf K H (.str x) (.type "str")
  | flt (x : UInt64) : TyOf K H (.flt x) (.type "float")
  | lst {a : Addr} {xs : List V} (e : H a = some (.lst xs)) : TyOf K H (.ref a) (.type "list")
  | frz {a : Addr} {o : Obj} {xs : List V} (e : H a = some (.frz o (.lst xs))) : TyOf K H (.ref a) (.type "list")
  | tup {a : Addr} {xs : List V} (e : H a = some (.tup xs)) : TyOf K H (.ref a) (.type "tuple")
  | dK {a : Addr} {kvs : List (Key × V)} (e : H a = some (.dK kvs)) : TyOf K H (.ref a) (.type "dict")
  | dT {a : Addr} {kvs : List (List Key × V)} (e : H a = some (.dT kvs)) : TyOf K H (.ref a) (.type "dict")
  | ins {a C dx : Addr} {fs : List (Str × V)} (e : H a = some (.ins C dx fs)) (cl : Cls K C) (ha : PySem.W.findIn K (.ref C) "__class__" = some (some (.builtin "object.__class__")))
      (hn : PySem.W.specialIn K (.builtin "object.__class__") "__get__" = some (some (.builtin "getset_descriptor.__get__"))) (htk : PySem.W.takesIn K (.builtin "object.__class__") = some true)
      (hm : PySem.W.mroIn K C (.type "object") = some true) : TyOf K H (.ref a) (.ref C)
/-- isinstance(x, c) for one class c, a built-in or an own one: kitOne's answer -/
theorem isinst_ok {x : V} {u t : Value} (I : Inv X pins σ H s) (rx : RelV x u) (ty : TyOf X.K H x t) (e : PySem.W.kitOne X.K t c = some b) (h : ∀ tk, Q (.bool b) { s with toks := tk }) :
    wpAny (model X.prog X.w) A (call (.builtin "isinstance") [u, c]) Q E s := by
  cases ty with
  | non => cases (show u = Value.none from rx); exact PySem.W.kia_one PySem.W.kitx_none I.kIn True.intro e (fun z => nomatch z) h
  | bl y => cases (show u = Value.bool y from rx); exact PySem.W.kia_one PySem.W.kitx_bool I.kIn True.intro e (fun z => nomatch z) h
  | int i => obtain ⟨t, q⟩ := (show ∃ t, u = Value.int i t from rx); cases q; exact PySem.W.kia_one PySem.W.kitx_int I.kIn True.intro e (fun z => nomatch z) h
  | str y => obtain ⟨t, q⟩ := (show ∃ t, u = Value.str y t from rx); cases q; exact PySem.W.kia_one PySem.W.kitx_str I.kIn True.intro e (fun z => nomatch z) h
  | flt y => obtain ⟨t, q⟩ := (show ∃ t, u = Value.float y t from rx); cases q; exact PySem.W.kia_one PySem.W.kitx_float I.kIn True.intro e (fun z => nomatch z) h
  | @lst a xs ea =>
    cases (show u = Value.ref a from rx)
    obtain ⟨_, _, n, _, h1⟩ := (show ObjOk X.prog X.w H s.heap a (.lst xs) from I.hok a _ ea)
    exact PySem.W.kia_one PySem.W.kitx_list I.kIn ⟨_, h1, rfl⟩ e (fun z => nomatch z) h
  | @frz a ob xs ea =>
    cases (show u = Value.ref a from rx)
    obtain ⟨_, _, _, n, _, h1⟩ := (show ObjOk X.prog X.w H s.heap a (.frz ob (.lst xs)) from I.hok a _ ea)
    exact PySem.W.kia_one PySem.W.kitx_list I.kIn ⟨_, h1, rfl⟩ e (fun z => nomatch z) h
  | @tup a xs ea =>
    cases (show u = Value.ref a from rx)
    obtain ⟨_, _, _, p⟩ := (show ObjOk X.prog X.w H s.heap a (.tup xs) from I.hok a _ ea)
    obtain ⟨o, h1, h2, _⟩ := p
    exact PySem.W.kia_one PySem.W.kitx_tuple I.kIn ⟨o, h1, h2⟩ e (fun z => nomatch z) h
  | @dK a kvs ea =>
    cases (show u = Value.ref a from rx)
    obtain ⟨_, _, vs, _, p⟩ := (show ObjOk X.prog X.w H s.heap a (.dK kvs) from I.hok a _ ea)
    obtain ⟨o, es, ep, h1, h2, _⟩ := p
    exact PySem.W.kia_one PySem.W.kitx_dict I.kIn ⟨o, h1, h2.1⟩ e (fun z => nomatch z) h
  | @dT a kvs ea =>
    cases (show u = Value.ref a from rx)
    obtain ⟨_, _, xs, _, o, es, ep, h1, h2, _⟩ := (show ObjOk X.prog X.w H s.heap a (.dT kvs) from I.hok a _ ea)
    exact PySem.W.kia_one PySem.W.kitx_dict I.kIn ⟨o, h1, h2.1⟩ e (fun z => nomatch z) h
  | @ins a C dx fs ea cl ha hn htk hm =>
    cases (show u = Value.ref a from rx)
    obtain ⟨mA, O, _⟩ := ins_get I.hok ea
    obtain ⟨od, J, _⟩ := O.look
    exact PySem.W.kia_one (PySem.W.kitx_own (cl.get _) cl.hd ha hn htk hm) I.kIn J e (fun z => nomatch z) h
end
end L2

namespace L2
open PySem PySem.Spec PyProof.Rows

/-! ### room -/
structure Room (k : Nat) (A : Around) : Prop where
  hd : A.handled = none
  dp : A.depth + 3 * k + 5 < recursionLimit
  un : A.units + 16 * k + 200 < cLine
theorem Room.mono {j k : Nat} {A : Around} (r : Room k A) (h : j ≤ k) : Room j A := ⟨r.hd, by have := r.dp; omega, by have := r.un; omega⟩
theorem Room.deeper {k : Nat} {A : Around} (r : Room (k + 1) A) (env : Env) : Room k (A.deeper env) :=
  ⟨r.hd, by have := r.dp; show A.depth + 1 + 3 * k + 5 < _; omega, by have := r.un; show A.units + 3 + 16 * k + 200 < _; omega⟩
theorem Room.depth {k : Nat} {A : Around} (r : Room k A) : A.depth < recursionLimit := by have := r.dp; omega
theorem Room.units {k : Nat} {A : Around} (r : Room k A) : A.units + 64 < cLine := by have := r.un; omega
theorem Room.units0 {k : Nat} {A : Around} (r : Room k A) : A.units < cLine := by have := r.un; omega

/-! ### argument lists and displays -/
def tNil : TA := fun _ H Q => Q [] H
def tCons (ta : TE) (tr : TA) : TA := fun σ H Q => ta σ H fun x H1 => tr σ H1 fun xs H2 => Q (x :: xs) H2
section
variable {X : Cx} {e : Expr} {es : List Expr} {te : TE} {t : TA} {pos : Pos}
theorem pa_nil : PA X [] tNil := fun _ _ _ _ H Q I h => Calls.spliced_nil ⟨[], H, I, .nil, h⟩
theorem pa_cons (ha : PE X e te) (hr : PA X es t) (hs : starEach (e :: es) X.env = (false, eval e X.env) :: starEach es X.env := by rfl) : PA X (e :: es) (tCons te t) := by
  intro pos pins s σ H Q I h
  rw [hs]
  show wpAny _ _ (spliced ((false, eval e X.env) :: backTo pos (starEach es X.env))) _ _ s
  refine Calls.spliced_cons (thn (ha pins s σ H _ I h) fun u s1 ⟨x, H1, I1, r1, q1⟩ => ?_)
  exact thn (hr pos pins s1 σ H1 _ I1 q1) fun us s2 ⟨xs, H2, I2, r2, q2⟩ => ⟨x :: xs, H2, I2, .cons r1 r2, q2⟩

/-- a tuple, a list of written items -/
def tTup (t : TA) : TE := fun σ H Q => t σ H fun xs H1 => xs.length ≤ sizeLine ∧ ∀ p, H1 p = none → Q (.ref p) (upd H1 p (.tup xs))
def tLst (t : TA) : TE := fun σ H Q => t σ H fun xs H1 => xs.length ≤ sizeLine ∧ ∀ p, H1 p = none → Q (.ref p) (upd H1 p (.lst xs))
theorem pe_tup {x1} (h : PA X es t) : PE X (.Tuple es x1 pos) (tTup t) := by
  intro pins s σ H Q I hq
  refine wpAny_Tuple_spliced (thn (h pos pins s σ H _ I hq) fun us s1 ⟨xs, H1, I1, r, z, q⟩ => ⟨by rw [← r.length]; exact z, ?_⟩)
  have hf : H1 s1.heap.objs.size = none := I1.hok.fresh (Nat.le_refl _)
  refine ⟨.ref s1.heap.objs.size, upd H1 s1.heap.objs.size (.tup xs), I1.laid (t' := s1.toks) (fun b u e => Heap.get?_push_of_some _ e) (Nat.le_refl _) ?_, rfl, q _ hf⟩
  exact ⟨z, us, r, ⟨_, Heap.get?_push_size _ rfl, rfl, _, rfl⟩⟩
theorem pe_lst (h : PA X es t) : PE X (.List es pos) (tLst t) := by
  intro pins s σ H Q I hq
  refine wpAny_List_spliced (thn (h pos pins s σ H _ I hq) fun us s1 ⟨xs, H1, I1, r, z, q⟩ => ⟨by rw [← r.length]; exact z, ?_⟩)
  have hf : H1 s1.heap.objs.size = none := I1.hok.fresh (Nat.le_refl _)
  refine ⟨.ref s1.heap.objs.size, upd H1 s1.heap.objs.size (.lst xs), I1.laid (t' := s1.toks) (fun b u e => Heap.get?_push_of_some _ e) (Nat.le_refl _) ?_, rfl, q _ hf⟩
  exact ⟨z, us, 0, r, Heap.get?_push_size _ rfl⟩
end

/-! ### what a def promises -/
/-- a def's promise: the bound arguments in the parameters' order, the heap, the wanted end, the wanted exception -/
abbrev Sp := List V → Hp → VK → XK → Prop
/-- how an exception lies behind a call (file 08 gives it): the callers' frames, abstract heap and state ahead of the call, the wish, the exception, the state -/
abbrev CXT := List Env → Hp → Shared → XK → Value → Shared → Prop

/-- the state at a call -/
structure Env0 (P : Program) (w : World) (K : PySem.W.Frag) (mg : Str → Option Value) (base : Heap) (A : Around) (outer : List Env) (s : Shared) (H : Hp) : Prop where
  frames : A.frames = some outer
  mod : Mod K mg base
  bs : ∀ b o, base.get? b = some o → s.heap.get? b = some o ∧ H b = none
  bsz : base.objs.size ≤ s.heap.objs.size
  funs : s.heap.FunFrames base outer
  frf : ∀ b ∈ frs outer, H b = none
  hok : HOk P w H s.heap
  bare : AllBare s.gens
/-- a call's end -/
def CE (outer : List Env) (P : Program) (w : World) (H : Hp) (s : Shared) (Q : VK) (u : Value) (s' : Shared) : Prop :=
  ∃ v H', s'.os = s.os ∧ AllBare s'.gens ∧ Un (frs outer) [] H H' s.heap s'.heap ∧ HOk P w H' s'.heap ∧ RelV v u ∧ Q v H'
def CR (CX : CXT) (outer : List Env) (P : Program) (w : World) (H : Hp) (s : Shared) (Q : VK) (E : XK) (r : Result) (s' : Shared) : Prop :=
  match r with
  | .ok (.ret u) => CE outer P w H s Q u s'
  | .ok _ => False
  | .error e => CX outer H s E e s'
structure FnOk (P : Program) (w : World) (K : PySem.W.Frag) (mg : Str → Option Value) (base : Heap) (CX : CXT) (k : Nat) (f : Addr) (fd : FuncData) (ps : List Str) (sp : Sp) : Prop where
  len : ∀ vs H Q E, sp vs H Q E → vs.length = ps.length
  run : ∀ (A : Around) (outer : List Env) (s : Shared) (H : Hp) (args : Args) (us : List Value) (vs : List V) (Q : VK) (E : XK), Room k A → Env0 P w K mg base A outer s H → BindsTo s fd args (ps.zip us) → Vals vs us → sp vs H Q E →
    codeAny (model P w) A (.call (.ref f) args) (CR CX outer P w H s Q E) s
theorem FnOk.mono {P : Program} {w : World} {K : PySem.W.Frag} {mg : Str → Option Value} {base : Heap} {CX : CXT} {j k : Nat} {f : Addr} {fd : FuncData} {ps : List Str} {sp : Sp} (F : FnOk P w K mg base CX j f fd ps sp) (h : j ≤ k) :
    FnOk P w K mg base CX k f fd ps sp := ⟨F.len, fun A outer s H args us vs Q E hr => F.run A outer s H args us vs Q E (hr.mono h)⟩
section
variable {X : Cx} {pins : List (Addr × Obj)} {σ : St} {H : Hp} {s s' : Shared}
/-- from a body: what a callee wants -/
theorem Inv.env0 (I : Inv X pins σ H s) : Env0 X.prog X.w X.K X.mg X.base X.A X.stack s H :=
  ⟨I.ok.frames, I.ok.mod, I.bs, Nat.le_trans I.ok.bsz I.sz, I.stack, I.stkFree, I.hok, I.bare⟩
/-- behind a call -/
theorem Inv.after {Q : VK} {u : Value} (I : Inv X pins σ H s) (h : CE X.stack X.prog X.w H s Q u s') : EP X pins σ Q u s' := by
  obtain ⟨v, H', os, bare, un, hok, r, q⟩ := h
  obtain ⟨hh, g, d, t, os'⟩ := s'
  obtain rfl : os' = s.os := os
  exact ⟨v, H', I.call (h' := hh) (g' := g) (d' := d) (t' := t) (ch := []) un hok bare (fun b z => absurd z (by simp)), r, q⟩
end

/-! ### calls -/
/-- f(..): the written arguments, then the defaults dvs; E: what is wanted of an exception -/
def tCall (sp : Sp) (dvs : List V) (E : XK) (t : TA) : TE := fun σ H Q => t σ H fun vs H1 => sp (vs ++ dvs) H1 Q E
/-- o.m(..) of an instance of the class at C -/
def tMeth (C : Addr) (m : Str) (sp : Sp) (dvs : List V) (E : XK) (ta : TE) (t : TA) : TE := fun σ H Q => ta σ H fun x H1 => ∃ a dx fs, x = .ref a ∧ H1 a = some (.ins C dx fs) ∧ fs.lookup m = none ∧
  t σ H1 fun vs H2 => sp (x :: (vs ++ dvs)) H2 Q E
/-- C(..): a new instance and its dict, then __init__ -/
def tMake (C : Addr) (sp : Sp) (dvs : List V) (E : XK) (t : TA) : TE := fun σ H Q => t σ H fun vs H1 => ∀ x dx, H1 x = none → H1 dx = none → dx ≠ x →
  sp (.ref x :: (vs ++ dvs)) (upd (upd H1 dx (.own x)) x (.ins C dx [])) (fun v H2 => v = .non ∧ Q (.ref x) H2) E

/-- how the parameters are bound: us the positional arguments, kw the keywords' values by name, ds the defaults that fill up -/
def Binds (K : PySem.W.Frag) (fd : FuncData) (ps : List Str) (ds : List Value) : Prop :=
  ∀ (s : Shared) (us : List Value), K.In s.heap → (us ++ ds).length = ps.length → BindsTo s fd ⟨us, []⟩ (ps.zip (us ++ ds))
/-- every parameter is given -/
theorem Binds.all {K : PySem.W.Frag} {fd : FuncData} {ps : List Str} (h : ∀ us : List Value, us.length = ps.length → bindArgs fd ⟨us, []⟩ = pure (ps.zip us)) : Binds K fd ps [] := fun s us _ hl => by
  rw [List.append_nil] at hl ⊢
  exact .of_eq (h us hl)

/-- an exception of a callee reaches what this body wants of exceptions -/
def Passes (CX : CXT) (X : Cx) (E : XK) : Prop := ∀ (pins : List (Addr × Obj)) (σ : St) (H : Hp) (s : Shared) (e : Value) (s' : Shared), Inv X pins σ H s → CX X.stack H s E e s' → X.xe e s'

section
variable {X : Cx} {CX : CXT} {k : Nat} {f C : Addr} {fd : FuncData} {ps : List Str} {sp : Sp} {dvs : List V} {ds : List Value} {E : XK} {x m : Str} {p pos apos : Pos} {e o : Expr} {es : List Expr} {ta : TE} {t : TA}

/-- the callee runs -/
theorem run_fn {pins : List (Addr × Obj)} {σ : St} {H : Hp} {s : Shared} {Q : VK} {us : List Value} {vs : List V} (F : FnOk X.prog X.w X.K X.mg X.base CX k f fd ps sp) (hr : Room k X.A) (hb : Binds X.K fd ps ds) (hd : Vals dvs ds) (hx : Passes CX X E)
    (I : Inv X pins σ H s) (r : Vals vs us) (h : sp (vs ++ dvs) H Q E) : wpAny (model X.prog X.w) X.A (call (.ref f) us) (EP X pins σ Q) X.xe s := by
  have r2 : Vals (vs ++ dvs) (us ++ ds) := r.append hd
  have hl : (us ++ ds).length = ps.length := by rw [← r2.length]; exact F.len _ _ _ _ h
  refine wpAny_call (codeAny_mono (F.run X.A X.stack s H ⟨us, []⟩ (us ++ ds) (vs ++ dvs) Q E hr I.env0 (hb s us I.kIn hl) r2 h) fun r s' hq => ?_)
  cases r with
  | error e => exact hx pins σ H s e s' I hq
  | ok fl =>
    cases fl with
    | ret u => exact I.after hq
    | next => exact False.elim hq
    | brk => exact False.elim hq
    | cont => exact False.elim hq

theorem pe_call (F : FnOk X.prog X.w X.K X.mg X.base CX k f fd ps sp) (hr : Room k X.A) (hg : Gl X x) (hm : X.mg x = some (.ref f)) (hk : PySem.W.keepIn X.K (.ref f) = true) (hb : Binds X.K fd ps ds) (hd : Vals dvs ds) (hx : Passes CX X E)
    (ha : PA X (e :: es) t) (hdb : (x == ("__debug__" : Str)) = false := by decide) (he : starEach (e :: es) X.env = (false, eval e X.env) :: starEach es X.env := by rfl) (hpl : (backTo pos (starEach es X.env)).any (·.1) = false := by rfl) :
    PE X (.Call (.Name x p) (e :: es) [] pos) (tCall sp dvs E t) := by
  intro pins s σ H Q I h
  refine wpAny_Call_Name_kw (ld_glob I hg hm ?_ hdb)
  refine PySem.W.callWith_K (h₀ := X.base) I.ok.mod.kin hk (thn (ha pos pins s σ H _ I h) fun us s1 ⟨vs, H1, I1, r, q⟩ => ⟨I1.kIn, ?_⟩) he hpl
  exact run_fn F hr hb hd hx I1 r q
/-- what a class must have to be made -/
structure Mk (K : PySem.W.Frag) (C f : Addr) : Prop where
  makes : PySem.W.makesIn K C = true
  init : PySem.W.findIn K (.ref C) "__init__" = some (some (.ref f))
  fn : PySem.W.isFn K (.ref f) = true
  kp : PySem.W.keepIn K (.ref C) = true

end

/-! ### keywords -/
/-- the values of the keywords, from the left -/
def PK (X : Cx) (kws : List Keyword) (t : TA) : Prop :=
  ∀ (pos : Pos) (pins : List (Addr × Obj)) (s : Shared) (σ : St) (H : Hp) (Q : List V → Hp → Prop), Inv X pins σ H s → t σ H Q → wpAny (model X.prog X.w) X.A (evalAll ((backToKw pos (keywordEach kws X.env)).map (·.2))) (AP X pins σ Q) X.xe s
section
variable {X : Cx} {CX : CXT} {k : Nat} {f C : Addr} {fd : FuncData} {ps ks : List Str} {sp : Sp} {E : XK} {x m : Str} {p pos apos kpos : Pos} {e o : Expr} {es : List Expr} {kws : List Keyword} {te ta : TE} {t tk : TA} {nm : Option Str}
/-- how a call with keywords binds: g puts the positional values us and the keywords' values ws (names ks) in the parameters' order, defaults among them -/
structure KBinds (K : PySem.W.Frag) (fd : FuncData) (ps ks : List Str) (g : List Value → List Value → List Value) (gV : List V → List V → List V) : Prop where
  to : ∀ (s : Shared) (us ws : List Value), K.In s.heap → (g us ws).length = ps.length → BindsTo s fd ⟨us, ks.zip ws⟩ (ps.zip (g us ws))
  rel : ∀ {vs : List V} {us : List Value} {zs : List V} {ws : List Value}, Vals vs us → Vals zs ws → Vals (gV vs zs) (g us ws)
def tCallK (sp : Sp) (gV : List V → List V → List V) (E : XK) (t tk : TA) : TE := fun σ H Q => t σ H fun vs H1 => tk σ H1 fun zs H2 => sp (gV vs zs) H2 Q E
variable {g : List Value → List Value → List Value} {gV : List V → List V → List V}
end

/-! ### a def's body keeps its promise -/
/-- names: the parameters first -/
structure FnScope (N P : List Str) (sc : Scope) : Prop where
  kind : sc.kind = .function
  co : sc.isCoroutine = false
  gen : sc.isGenerator = false
  nd : N.Nodup
  pre : N.take P.length = P
  par : ∀ x ∈ P, sc.names.lookup x = some .local ∨ sc.names.lookup x = some .cell
  nofree : ∀ y ∈ sc.names, y.2 ≠ .free

theorem bindL_out {kindOf : Str → Option NameKind} {x : Str} : ∀ {binds : List (Str × Value)} {m : Str → Option Value}, (∀ v, (x, v) ∉ binds) → bindL kindOf binds m x = m x
  | [], _, _ => rfl
  | (n, v) :: r, m, h => by
    unfold bindL
    rw [bindL_out fun w hw => h w (List.mem_cons_of_mem _ hw)]
    split
    · have : x ≠ n := by rintro rfl; exact h v List.mem_cons_self
      simp [this]
    · rfl
theorem bindC_out {kindOf : Str → Option NameKind} {x : Str} : ∀ {binds : List (Str × Value)} {m : Str → Option Value}, (∀ v, (x, v) ∉ binds) → bindC kindOf binds m x = m x
  | [], _, _ => rfl
  | (n, v) :: r, m, h => by
    unfold bindC
    rw [bindC_out fun w hw => h w (List.mem_cons_of_mem _ hw)]
    split
    · rfl
    · have : x ≠ n := by rintro rfl; exact h v List.mem_cons_self
      simp [this]
theorem bindL_get {kindOf : Str → Option NameKind} {x : Str} {v : Value} : ∀ {P : List Str} {vs : List Value} {i : Nat} {m : Str → Option Value}, P.Nodup → P[i]? = some x → vs[i]? = some v → kindOf x = some .local →
    bindL kindOf (P.zip vs) m x = some v
  | [], _, _, _, _, h, _, _ => by simp at h
  | _ :: _, [], _, _, _, _, h, _ => by simp at h
  | p :: P, w :: vs, 0, m, nd, h1, h2, hk => by
    simp at h1 h2; subst h1; subst h2
    show bindL kindOf ((p, w) :: P.zip vs) m p = _
    unfold bindL
    rw [bindL_out fun v hv => (List.nodup_cons.mp nd).1 (List.of_mem_zip hv).1, if_pos hk]
    simp
  | p :: P, w :: vs, i + 1, m, nd, h1, h2, hk => by
    show bindL kindOf ((p, w) :: P.zip vs) m x = _
    unfold bindL
    exact bindL_get (i := i) (List.nodup_cons.mp nd).2 (by simpa using h1) (by simpa using h2) hk
theorem bindC_get {kindOf : Str → Option NameKind} {x : Str} {v : Value} : ∀ {P : List Str} {vs : List Value} {i : Nat} {m : Str → Option Value}, P.Nodup → P[i]? = some x → vs[i]? = some v → kindOf x ≠ some .local →
    bindC kindOf (P.zip vs) m x = some v
  | [], _, _, _, _, h, _, _ => by simp at h
  | _ :: _, [], _, _, _, _, h, _ => by simp at h
  | p :: P, w :: vs, 0, m, nd, h1, h2, hk => by
    simp at h1 h2; subst h1; subst h2
    show bindC kindOf ((p, w) :: P.zip vs) m p = _
    unfold bindC
    rw [bindC_out fun v hv => (List.nodup_cons.mp nd).1 (List.of_mem_zip hv).1, if_neg hk]
    simp
  | p :: P, w :: vs, i + 1, m, nd, h1, h2, hk => by
    show bindC kindOf ((p, w) :: P.zip vs) m x = _
    unfold bindC
    exact bindC_get (i := i) (List.nodup_cons.mp nd).2 (by simpa using h1) (by simpa using h2) hk

/-- the names' values at the entry -/
def start (N : List Str) (vs : List V) : St := vs.map some ++ List.replicate (N.length - vs.length) none

/-- the context of a def's body, at its entry; an exception leaves the frame, then lies as CX says -/
def cxOf (CX : CXT) (P : Program) (w : World) (K : PySem.W.Frag) (mg : Str → Option Value) (base : Heap) (N : List Str) (qual : Str) (scope : Scope) (f : Addr) (cd : Value) (A : Around) (outer : List Env) (s : Shared) (H : Hp) (E : XK) : Cx where
  prog := P
  w := w
  K := K
  mg := mg
  base := base
  A := A.deeper (envOfC qual scope s.heap.objs.size f cd)
  N := N
  s₀ := s
  H₀ := H
  env := envOfC qual scope s.heap.objs.size f cd
  outer := outer
  stack := envOfC qual scope s.heap.objs.size f cd :: outer
  ex := []
  calm := true
  fn := fun _ => true
  pn := []
  xe := fun e s' => wpAny (model P w) (A.deeper (envOfC qual scope s.heap.objs.size f cd)) (leaving (envOfC qual scope s.heap.objs.size f cd) e) (fun _ s'' => CX outer H s E e s'') (fun e' s'' => CX outer H s E e' s'') s'

theorem cell_has {sc : Scope} {n : Nat} {x : Str} (h : sc.names.lookup x = some .cell) : ∃ c, (cellsFrom n sc.names []).lookup x = some c := by
  have q := PySem.W.cellsFrom_some sc.names n [] (.inl h)
  exact Option.isSome_iff_exists.mp q

theorem inv_start {CX : CXT} {P : Program} {w : World} {K : PySem.W.Frag} {mg : Str → Option Value} {base : Heap} {N ps : List Str} {qual : Str} {scope : Scope} {f : Addr} {cd : Value} {A : Around} {outer : List Env} {s s1 : Shared} {H : Hp} {E : XK} {us : List Value} {vs : List V}
    (S : FnScope N ps scope) (hd : A.handled = none) (e0 : Env0 P w K mg base A outer s H) (hl : vs.length = ps.length) (r : Vals vs us)
    (x : InCallC s s.heap.objs.size (bindL (envOfC qual scope s.heap.objs.size f cd).kindOf (ps.zip us) fun _ => none) (cellsFrom (s.heap.objs.size + 1) scope.names []) (bindC (envOfC qual scope s.heap.objs.size f cd).kindOf (ps.zip us) fun _ => none) s1) :
    Inv (cxOf CX P w K mg base N qual scope f cd A outer s H E) [] (start N vs) H s1 := by
  have hpl : ps.length ≤ N.length := by have := congrArg List.length S.pre; rw [List.length_take] at this; omega
  obtain ⟨h1, tk, rfl, hk⟩ := x.done
  have noA : ∀ b : Addr, b ∉ (cxOf CX P w K mg base N qual scope f cd A outer s H E).ex := fun b z => absurd (show b ∈ ([] : List Addr) from z) (by simp)
  refine ⟨⟨e0.mod, S.kind, rfl, rfl, Nat.le_refl _, fun y z c h1 h2 => ?_, fun y hy => ?_, fun y c _ h => ?_, fun _ => hd, Around.frames_deeper e0.frames, .inr ⟨rfl, rfl⟩, fun b z => absurd z (noA b), e0.bs, e0.bsz, fun b _ _ => noA b, fun b z => absurd z (noA b), e0.funs, e0.frf⟩,
    rfl, e0.bare, Un.kept hk, ⟨_, x.toInCall.ns, fun i y v h1 h2 h3 => ?_⟩, fun y c h => ⟨_, x.cell y c h⟩, e0.hok.fresh (Nat.le_refl _), fun y c h => ?_, fun p hp => absurd (show p ∈ ([] : List (Addr × Obj)) from hp) (by simp), e0.hok.kept hk, ?_⟩
  · exact name_of_addr x.apart (PySem.mem_of_lookup h1) (PySem.mem_of_lookup h2)
  · have hy : scope.names.lookup y = some .cell ∨ scope.names.lookup y = some .free := hy
    rcases hy with hy | hy
    · exact cell_has hy
    · exact absurd rfl (S.nofree _ (PySem.mem_of_lookup hy))
  · exact Nat.le_of_lt (x.above y c (PySem.mem_of_lookup h))
  · have hi : i < vs.length := by
      unfold start at h2
      by_cases hi : i < vs.length
      · exact hi
      · rw [List.getElem?_append_right (by simpa using hi)] at h2
        rw [List.getElem?_replicate] at h2
        split at h2 <;> cases h2
    have ha : vs[i]? = some v := by
      unfold start at h2
      rw [List.getElem?_append_left (by simpa using hi), List.getElem?_map] at h2
      cases e : vs[i]? with
      | none => rw [e] at h2; cases h2
      | some a => rw [e] at h2; cases h2; rfl
    obtain ⟨u, hu, rv⟩ := r.get ha
    have hp : ps[i]? = some y := by
      rw [← S.pre, List.getElem?_take_of_lt (by omega)]; exact h1
    have ndP : ps.Nodup := by rw [← S.pre]; exact S.nd.sublist (List.take_sublist _ _)
    refine ⟨u, rv, ?_⟩
    rcases S.par y (List.mem_of_getElem? hp) with k | k
    · exact .inl ⟨k, bindL_get ndP hp hu k⟩
    · obtain ⟨c, e⟩ := cell_has (n := s.heap.objs.size + 1) k
      refine .inr ⟨.inl k, c, e, ?_⟩
      have q := x.cell y c e
      rw [bindC_get ndP hp hu (by show scope.names.lookup y ≠ _; rw [k]; decide)] at q
      exact q
  · exact e0.hok.fresh (Nat.le_of_lt (x.above y c (PySem.mem_of_lookup h)))
  · unfold start
    show _ = N.length
    rw [List.length_append, List.length_map, List.length_replicate]
    omega

/-- THE RULE: a def (or a method) of the text, by its body. The body's reading t is chosen for each entry; it is run at the parameters' values -/
theorem fn_of {CX : CXT} {P : Program} {w : World} {K : PySem.W.Frag} {mg : Str → Option Value} {base : Heap} {k : Nat} {f : Addr} {name qual : Str} {params : Arguments} {body : List Stmt} {scope : Scope} {dV kV doc pm cdv ct oc : Value} {an od : Option Addr}
    {osl : Array (Option Value)} {N ps : List Str} {sp : Sp} (lk : K.lookup f = some ⟨oc, od, .func (PySem.W.fnOf name qual params body scope dV kV doc pm an cdv ct), osl⟩) (hcd : PySem.W.codeIn K cdv qual = true) (S : FnScope N ps scope)
    (len : ∀ vs H Q E, sp vs H Q E → vs.length = ps.length)
    (hbody : ∀ (A : Around) (outer : List Env) (s : Shared) (H : Hp) (vs : List V) (Q : VK) (E : XK), Room k (A.deeper (envOfC qual scope s.heap.objs.size f cdv)) → sp vs H Q E →
      ∃ t, PSs (cxOf CX P w K mg base N qual scope f cdv A outer s H E) body t ∧ t { nx := fun _ H' => Q .non H', rt := Q } (start N vs) H) :
    FnOk P w K mg base CX (k + 1) f (PySem.W.fnOf name qual params body scope dV kV doc pm an cdv ct) ps sp := by
  refine ⟨len, fun A outer s H args us vs Q E hr e0 hb r hsp => ?_⟩
  have hl := len _ _ _ _ hsp
  have KX : K.In s.heap := e0.mod.kin.keeps fun b o e => (e0.bs b o e).1
  have lim : s.heap.NoLimit := e0.mod.nolimit.keeps fun b o e => (e0.bs b o e).1
  have hkind : ∀ y ∈ ps.zip us, scope.names.lookup y.1 = some .local ∨ (scope.names.lookup y.1 = some .cell ∧ ((cellsFrom (s.heap.objs.size + 1) scope.names []).lookup y.1).isSome = true) := fun ⟨n, v⟩ hy => by
    rcases S.par n (List.of_mem_zip hy).1 with q | q
    · exact .inl q
    · exact .inr ⟨q, PySem.W.cellsFrom_some _ _ _ (.inl q)⟩
  refine codeAny_call_function hr.depth (KX _ _ lk) rfl S.co S.gen rfl (PySem.W.codeRec_of KX hcd) (hb _ _ _ _ ?_)
  refine wpAny_newFunctionEnv_cells S.kind hkind fun env he s1 x => ?_
  subst he
  refine ⟨lim.keeps x.toInCall.keep, codeAny_func ?_⟩
  obtain ⟨t, ht, hq⟩ := hbody A outer s H vs Q E (hr.deeper _) hsp
  have I : Inv (cxOf CX P w K mg base N qual scope f cdv A outer s H E) [] (start N vs) H s1 := inv_start S hr.hd e0 hl r x
  refine wpAny_mono (ht [] s1 (start N vs) H _ I hq) (fun fl s' hs => ?_) fun e s' hs => hs
  have fin : ∀ {σ' : St} {H' : Hp} {v : V} {u : Value}, Inv (cxOf CX P w K mg base N qual scope f cdv A outer s H E) [] σ' H' s' → RelV v u → Q v H' → CE outer P w H s Q u s' :=
    fun {σ' H' v u} J rv q => ⟨v, H', J.os, J.bare, J.base, J.hok, rv, q⟩
  cases fl with
  | ret u =>
    obtain ⟨v, σ', H', J, rv, q⟩ := hs
    exact fin J rv q
  | next =>
    obtain ⟨σ', H', J, q⟩ := hs
    exact fin (v := V.non) (u := Value.none) J rfl q
  | brk =>
    obtain ⟨_, _, _, q⟩ := hs
    exact False.elim q
  | cont =>
    obtain ⟨_, _, _, q⟩ := hs
    exact False.elim q
end L2

namespace L2
open PySem PySem.Spec PyProof.Rows
section
variable {X : Cx} {x : Str} {p pos : Pos} {e : Expr} {es : List Expr} {t : TA} {id T : String} {r : List V → Hp → VK → Prop}

def tCB (r : List V → Hp → VK → Prop) (t : TA) : TE := fun σ H Q => t σ H fun vs H1 => r vs H1 Q
/-- f(e, ..), f a built-in function -/
theorem pe_callB (hc : CallR X (.builtin id) r) (hg : Gl X x) (hm : X.mg x = none) (hv : bootBuiltins x = some (.builtin id)) (ha : PA X (e :: es) t) (hn : x ≠ "__name__" := by decide) (hdb : (x == ("__debug__" : Str)) = false := by decide)
    (he : starEach (e :: es) X.env = (false, eval e X.env) :: starEach es X.env := by rfl) (hpl : (backTo pos (starEach es X.env)).any (·.1) = false := by rfl) : PE X (.Call (.Name x p) (e :: es) [] pos) (tCB r t) := by
  intro pins s σ H Q I h
  refine wpAny_Call_Name_kw (ld_blt I hg hm hv ?_ hn hdb)
  exact PyProof.Rows.callWith_builtin1 (thn (ha pos pins s σ H _ I h) fun us s1 ⟨vs, H1, I1, r1, q1⟩ => hc pins s1 σ H1 vs us Q I1 r1 q1) he hpl
/-- T(e, ..), T a built-in type -/
theorem pe_callTy (hc : CallR X (.type T) r) (hg : Gl X x) (hm : X.mg x = none) (hv : bootBuiltins x = some (.type T)) (ha : PA X (e :: es) t) (hn : x ≠ "__name__" := by decide) (hdb : (x == ("__debug__" : Str)) = false := by decide)
    (he : starEach (e :: es) X.env = (false, eval e X.env) :: starEach es X.env := by rfl) (hpl : (backTo pos (starEach es X.env)).any (·.1) = false := by rfl) : PE X (.Call (.Name x p) (e :: es) [] pos) (tCB r t) := by
  intro pins s σ H Q I h
  refine wpAny_Call_Name_kw (ld_blt I hg hm hv ?_ hn hdb)
  exact PyProof.Rows.callWith_type1 (thn (ha pos pins s σ H _ I h) fun us s1 ⟨vs, H1, I1, r1, q1⟩ => hc pins s1 σ H1 vs us Q I1 r1 q1) he hpl
end
end L2

namespace HT
open PySem PyProof.Rows

/-- t < u of tuples of ints -/
def lexLt : List Int → List Int → Bool
  | [], [] => false
  | [], _ :: _ => true
  | _ :: _, [] => false
  | x :: xs, y :: ys => if x = y then lexLt xs ys else decide (x < y)
section
open PySem.SeqAt
open PySem.AutoSeq1 (wpAny_loadPart')
open PySem.MeetsSeq PySem.MeetsSeq2 PySem.MeetsSeq3

end

section
variable {prog : Program} {w : World} {A : Around} {E : Value → Shared → Prop} {s : Shared}

/-- t + u, t not empty -/
theorem cat_tup {t b : Addr} {vs ws : List Value} {Q : Value → Shared → Prop} (ht : IsTup s.heap t vs.toArray) (hb : IsTup s.heap b ws.toArray) (hv : vs ≠ [])
    (h1 : ws = [] → Q (.ref t) s) (h2 : ws ≠ [] → Q (.ref s.heap.objs.size) { s with heap := s.heap.push { cls := .type "tuple", data := .seq (vs ++ ws).toArray } })
    (hsz : vs.length + ws.length ≤ sizeLine) : wpAny (model prog w) A (binaryOp .Add (.ref t) (.ref b)) Q E s := by
  obtain ⟨⟨cls, dd, data, sl⟩, ho, hc, n, hd⟩ := id ht
  obtain ⟨⟨cls2, dd2, data2, sl2⟩, ho2, hc2, n2, hd2⟩ := id hb
  simp only at hc hd hc2 hd2
  subst hc hd hc2 hd2
  have e : vs.toArray ++ ws.toArray = (vs ++ ws).toArray := by simp
  by_cases hw : ws = []
  · exact concat_meets ⟨_, ho, rfl⟩ ⟨_, ho2, rfl⟩ noFill_tuple_add seq_tuple_add PySem.F.slot_tuple_add PySem.F.entry_tuple_add (PySem.F.args_tuple_add_2 _ _)
      (tuple_addW1 t b vs.toArray ws.toArray n n2 dd dd2 sl sl2 (by simpa using hv) (by simp [hw])) ⟨ho, ho2, h1 hw⟩
  · refine concat_meets ⟨_, ho, rfl⟩ ⟨_, ho2, rfl⟩ noFill_tuple_add seq_tuple_add PySem.F.slot_tuple_add PySem.F.entry_tuple_add (PySem.F.args_tuple_add_2 _ _)
      (tuple_addW2 t b vs.toArray ws.toArray n n2 dd dd2 sl sl2 (by simpa using hv) (by simpa using hw) (by rw [List.size_toArray, List.size_toArray]; exact hsz)) ⟨ho, ho2, ?_⟩
    rw [e]
    exact h2 hw

/-! ### t[a:b], not the whole -/
/-- a slice's bound as a place among n (d where it is left out) -/
def sIx (n d : Nat) : Option Int → Nat
  | none => d
  | some v => if v < 0 then (v + (n : Int)).toNat else min v.toNat n
theorem sIx_none (n d : Nat) : sIx n d none = d := rfl
theorem sIx_nat (n d k : Nat) : sIx n d (some (k : Int)) = min k n := by
  show (if (k : Int) < 0 then ((k : Int) + (n : Int)).toNat else min (k : Int).toNat n) = min k n
  rw [if_neg (by omega), Int.toNat_natCast]
end
end HT

namespace L2
open PySem PySem.Spec PyProof.Rows

/-! ### the parts of a slice -/
abbrev TO := St → Hp → (Option Int → Hp → Prop) → Prop
/-- a slice's part (left out, or an int) -/
def PO (X : Cx) (e : Option Expr) (t : TO) : Prop :=
  ∀ (pins : List (Addr × Obj)) (s : Shared) (σ : St) (H : Hp) (Q : Option Int → Hp → Prop), Inv X pins σ H s → t σ H Q →
    wpAny (model X.prog X.w) X.A (evalPart e X.env) (fun u s' => ∃ o H', Inv X pins σ H' s' ∧ IsPart u o ∧ Q o H') X.xe s
def tNoPart : TO := fun _ H Q => Q none H
def tPart (t : TE) : TO := fun σ H Q => t σ H fun x H1 => ∃ i, x = .int i ∧ Q (some i) H1

section
variable {X : Cx} {e : Expr} {te : TE} {lo hi : Option Expr} {tl th : TO} {pos p2 : Pos}

theorem po_none : PO X none tNoPart := by
  intro pins s σ H Q I h
  rw [evalPart_none]
  exact wpAny_pure ⟨none, H, I, .none, h⟩
theorem po_some (h : PE X e te) : PO X (some e) (tPart te) := by
  intro pins s σ H Q I hw
  rw [evalPart_some]
  refine thn (h pins s σ H _ I hw) fun u s1 ⟨x, H1, I1, r1, q1⟩ => ?_
  obtain ⟨i, rfl, q⟩ := q1
  obtain ⟨t, rfl⟩ := r1
  exact ⟨some i, H1, I1, .int i t, q⟩

/-- what a slice of a value is, by values: the slice object stands at sl -/
def SlR (X : Cx) (r : V → Option Int → Option Int → Hp → VK → Prop) : Prop :=
  ∀ (pins : List (Addr × Obj)) (s : Shared) (σ : St) (H : Hp) (x : V) (v vl vu : Value) (lo hi : Option Int) (sl : Addr) (Q : VK), Inv X pins σ H s → RelV x v → s.heap.IsSliceOf sl vl vu .none → IsPart vl lo → IsPart vu hi → r x lo hi H Q →
    ∃ T id, typeLookup (.type T) "__getitem__" = pure (some (.builtin id)) ∧ s.TypeIs v T ∧ wpAny (model X.prog X.w) X.A (getItem v (.ref sl)) (EP X pins σ Q) X.xe s
def tSl (r : V → Option Int → Option Int → Hp → VK → Prop) (te : TE) (tl th : TO) : TE := fun σ H Q => te σ H fun x H1 => tl σ H1 fun l H2 => th σ H2 fun u H3 => r x l u H3 Q
/-- a[lo:hi], any a -/
theorem pe_slice {r : V → Option Int → Option Int → Hp → VK → Prop} (hr : SlR X r) (he : PE X e te) (hl : PO X lo tl) (hu : PO X hi th) : PE X (.Subscript e (.Slice lo hi none p2) pos) (tSl r te tl th) := by
  intro pins s σ H Q I h
  refine Subscript_ (thn (he pins s σ H _ I h) fun v s1 ⟨x, H1, I1, r1, q1⟩ => ?_)
  refine wpAny_Slice (thn (hl pins s1 σ H1 _ I1 q1) fun vl s2 ⟨l, H2, I2, pl, q2⟩ => thn (hu pins s2 σ H2 _ I2 q2) fun vu s3 ⟨u, H3, I3, pu, q3⟩ => ?_)
  rw [evalPart_none]
  refine wpAny_pure ?_
  have I4 : Inv X pins σ H3 { s3 with heap := s3.heap.push { cls := .type "slice", data := .fields #[vl, vu, .none] } } := I3.kept (t' := s3.toks) fun b ob q => Heap.get?_push_of_some _ q
  obtain ⟨T, id, hT, ht, hg⟩ := hr pins { s3 with heap := s3.heap.push { cls := .type "slice", data := .fields #[vl, vu, .none] } } σ H3 x v vl vu l u s3.heap.objs.size Q I4 r1 (Heap.IsSliceOf.new ..) pl pu q3
  show wpAny (model X.prog X.w) X.A (subscriptTail e (.Slice lo hi none p2) v (.ref s3.heap.objs.size)) (EP X pins σ Q) X.xe { s3 with heap := s3.heap.push { cls := .type "slice", data := .fields #[vl, vu, .none] } }
  exact tail_any (ops := [.ref s3.heap.objs.size, v]) ht hT hg (by with_unfolding_all rfl)

/-- the items of xs[lo:hi] -/
def cutV (xs : List V) (lo hi : Option Int) : List V := (xs.drop (HT.sIx xs.length 0 lo)).take (HT.sIx xs.length xs.length hi - HT.sIx xs.length 0 lo)
theorem cutV_length (xs : List V) (lo hi : Option Int) : (cutV xs lo hi).length ≤ xs.length := by
  unfold cutV
  rw [List.length_take, List.length_drop]
  omega
/-- t[lo:hi], not the whole of it (the whole would be t itself) -/
def rSlT (K : PySem.W.Frag) : V → Option Int → Option Int → Hp → VK → Prop := fun x lo hi H Q => ∃ a xs, x = .ref a ∧ SqT K H a xs ∧
  ¬ (HT.sIx xs.length 0 lo = 0 ∧ HT.sIx xs.length xs.length hi = xs.length) ∧ ∀ p, H p = none → Q (.ref p) (upd H p (.tup (cutV xs lo hi)))
/-! ### t < u, t + u -/
def rLtT (K : PySem.W.Frag) : R2 := fun x y H Q => ∃ a b ns ms, x = .ref a ∧ y = .ref b ∧ SqT K H a (ns.map V.int) ∧ SqT K H b (ms.map V.int) ∧ Q (.bl (HT.lexLt ns ms)) H
/-- t + u, t not empty: u empty gives t itself -/
def rCatT (K : PySem.W.Frag) : R2 := fun x y H Q => ∃ a b xs ys, x = .ref a ∧ y = .ref b ∧ SqT K H a xs ∧ SqT K H b ys ∧ xs ≠ [] ∧ xs.length + ys.length ≤ sizeLine ∧
  (ys = [] → Q (.ref a) H) ∧ (ys ≠ [] → ∀ p, H p = none → Q (.ref p) (upd H p (.tup (xs ++ ys))))
theorem Vals.nil_iff {xs : List V} {us : List Value} (r : Vals xs us) : us = [] ↔ xs = [] := by
  cases r with
  | nil => simp
  | cons _ _ => simp
theorem op_catT : OpR X (binaryOp .Add) (rCatT X.K) := by
  intro pins s σ H x y v u Q I rx ry h
  obtain ⟨a, b, xs, ys, rfl, rfl, ha, hb, hx, hz, q1, q2⟩ := h
  cases rx
  cases ry
  obtain ⟨its, r1, p1, _⟩ := I.tuple ha
  obtain ⟨its2, r2, p2, _⟩ := I.tuple hb
  refine HT.cat_tup p1 p2 (fun z => hx (r1.nil_iff.mp z)) (fun z => ⟨.ref a, H, I, rfl, q1 (r2.nil_iff.mp z)⟩) (fun z => ?_) (by rw [← r1.length, ← r2.length]; exact hz)
  refine ⟨.ref s.heap.objs.size, _, I.laid (t' := s.toks) (o := .tup (xs ++ ys)) (fun b ob q => Heap.get?_push_of_some _ q) (Nat.le_refl _) ?_, rfl, q2 (fun w => z (r2.nil_iff.mpr w)) _ (I.hok.fresh (Nat.le_refl _))⟩
  exact ⟨by rw [List.length_append]; exact hz, _, r1.append r2, IsTup.new _ _⟩
end
end L2

namespace L2
open PySem PySem.Spec PyProof.Rows

/-! ### places -/
/-- the place that an index of any sign means -/
def ixN (n : Nat) (i : Int) : Option Nat := if 0 ≤ i then (if i < n then some i.toNat else none) else if -(n : Int) ≤ i then some (i + n).toNat else none
def atI {α : Type} (xs : List α) (i : Int) : Option α := (ixN xs.length i).bind fun j => xs[j]?
theorem ixN_seq {n : Nat} {i : Int} {j : Nat} (h : ixN n i = some j) : seqIndex? i n = some j ∧ j < n ∧ -(n : Int) ≤ i ∧ i < n := by
  unfold ixN at h
  by_cases h0 : 0 ≤ i
  · rw [if_pos h0] at h
    by_cases h1 : i < n
    · rw [if_pos h1] at h
      have e : i.toNat = j := Option.some.inj h
      exact ⟨by rw [seqIndex_of h0 h1, e], by omega, by omega, h1⟩
    · rw [if_neg h1] at h; cases h
  · rw [if_neg h0] at h
    by_cases h1 : -(n : Int) ≤ i
    · rw [if_pos h1] at h
      have e : (i + n).toNat = j := Option.some.inj h
      exact ⟨by rw [seqIndex_neg (by omega) h1, e], by omega, h1, by omega⟩
    · rw [if_neg h1] at h; cases h
theorem atI_get {α : Type} {xs : List α} {i : Int} {v : α} (h : atI xs i = some v) : ∃ j, seqIndex? i xs.length = some j ∧ xs[j]? = some v ∧ j < xs.length ∧ -(xs.length : Int) ≤ i ∧ i < xs.length := by
  unfold atI at h
  cases e : ixN xs.length i with
  | none => rw [e] at h; cases h
  | some j =>
    rw [e] at h
    obtain ⟨h1, h2, h3, h4⟩ := ixN_seq e
    exact ⟨j, h1, h, h2, h3, h4⟩
theorem atI_nat {α : Type} {xs : List α} {j : Nat} {v : α} (h : xs[j]? = some v) : atI xs (j : Int) = some v := by
  have hj : j < xs.length := (List.getElem?_eq_some_iff.mp h).1
  have e : ixN xs.length (j : Int) = some j := by
    unfold ixN
    rw [if_pos (by omega), if_pos (by omega)]; simp
  unfold atI; rw [e]; exact h
/-! ### what may be subscripted -/
/-- what stands as an index of a plain subscript -/
def PlainIx (b : Expr) : Prop := ∀ o i, subscripted b false o i = operate [o, i] (getItem o i)
/-- a subscript by values -/
def IxR (X : Cx) (r : R2) : Prop :=
  ∀ (value slice : Expr) (pins : List (Addr × Obj)) (s : Shared) (σ : St) (H : Hp) (x y : V) (v u : Value) (Q : VK), Inv X pins σ H s → RelV x v → RelV y u → r x y H Q →
    subscripted slice false v u = operate [v, u] (getItem v u) → wpAny (model X.prog X.w) X.A (subscriptTail value slice v u) (EP X pins σ Q) X.xe s
/-- a call of a builtin's method by values: the receiver, the arguments -/
def MtR (X : Cx) (id : String) (r : V → List V → Hp → VK → Prop) : Prop :=
  ∀ (pins : List (Addr × Obj)) (s : Shared) (σ : St) (H : Hp) (x : V) (xs : List V) (v : Value) (us : List Value) (Q : VK), Inv X pins σ H s → RelV x v → Vals xs us → r x xs H Q →
    wpAny (model X.prog X.w) X.A (call (.builtin id) (v :: us)) (EP X pins σ Q) X.xe s
section
variable {X : Cx} {a b : Expr} {ta tb : TE} {pos : Pos}
theorem IxR.or {r r' : R2} (h : IxR X r) (h' : IxR X r') : IxR X (fun x y H Q => r x y H Q ∨ r' x y H Q) := by
  intro value slice pins s σ H x y v u Q I rx ry q hs
  rcases q with q | q
  · exact h value slice pins s σ H x y v u Q I rx ry q hs
  · exact h' value slice pins s σ H x y v u Q I rx ry q hs
/-- a[b] -/
theorem pe_ix {r : R2} (hr : IxR X r) (ha : PE X a ta) (hb : PE X b tb) (hs : PlainIx b) : PE X (.Subscript a b pos) (tOp r ta tb) := by
  intro pins s σ H Q I h
  exact Subscript_ (binT ha hb I h fun v u s2 x y H2 I2 rx ry q => hr a b pins s2 σ H2 x y v u Q I2 rx ry q (hs _ _))

def rIxL (K : PySem.W.Frag) : R2 := fun x y H Q => ∃ p xs i v, x = .ref p ∧ y = .int i ∧ SqL K H p xs ∧ atI xs i = some v ∧ Q v H
def rIxT (K : PySem.W.Frag) : R2 := fun x y H Q => ∃ p xs i v, x = .ref p ∧ y = .int i ∧ SqT K H p xs ∧ atI xs i = some v ∧ Q v H
def rIxS : R2 := fun x y H Q => ∃ z i c, x = .str z ∧ y = .int i ∧ z.length ≤ sizeLine ∧ atI z.cps.toList i = some c ∧ Q (.str ⟨#[c]⟩) H
theorem ix_list : IxR X (rIxL X.K) := by
  intro value slice pins s σ H x y v u Q I rx ry h hs
  obtain ⟨p, xs, i, z, rfl, rfl, hq, he, q⟩ := h
  cases rx
  obtain ⟨t, rfl⟩ := ry
  obtain ⟨its, r, pl, hz⟩ := I.list hq
  obtain ⟨j, h1, h2, h3, h4, h5⟩ := atI_get he
  obtain ⟨w, ew, rw'⟩ := r.get h2
  have hl := r.length
  have hn := line63
  have fin : EP X pins σ Q w s := ⟨z, H, I, rw', q⟩
  by_cases h0 : 0 ≤ i
  · have hj : i.toNat = j := by
      rw [seqIndex_of h0 h5] at h1
      exact Option.some.inj h1
    exact item_listR pl.isList h0 (by omega) (by rw [hj]; simpa using ew) fin hs
  · have hj : (i + (its.toArray.size : Int)).toNat = j := by
      rw [seqIndex_neg (by omega) h4] at h1
      rw [List.size_toArray, ← hl]
      exact Option.some.inj h1
    exact subscriptTail_builtinR (x := w) pl.isList.typeIs slot_list_getitem.lookup
      (wpAny_getItem_list_neg (Q := fun r s' => r = w ∧ EP X pins σ Q r s') pl.isList (by omega) (by rw [List.size_toArray] <;> omega) (by omega) (by rw [hj]; simpa using ew) ⟨rfl, fin⟩) hs
theorem ix_tup : IxR X (rIxT X.K) := by
  intro value slice pins s σ H x y v u Q I rx ry h hs
  obtain ⟨p, xs, i, z, rfl, rfl, hq, he, q⟩ := h
  cases rx
  obtain ⟨t, rfl⟩ := ry
  obtain ⟨its, r, pl, hz⟩ := I.tuple hq
  obtain ⟨j, h1, h2, h3, h4, h5⟩ := atI_get he
  obtain ⟨w, ew, rw'⟩ := r.get h2
  have hl := r.length
  have hn := line63
  have fin : EP X pins σ Q w s := ⟨z, H, I, rw', q⟩
  exact subscriptTail_builtinR (x := w) pl.typeIs slot_tuple_getitem.lookup
    (getItem_tuple (j := j) (Q := fun r s' => r = w ∧ EP X pins σ Q r s') pl (by omega) (by omega) (by rw [List.size_toArray, ← hl]; exact h1) (by simpa using ew) ⟨rfl, fin⟩) hs
theorem ix_str : IxR X rIxS := by
  intro value slice pins s σ H x y v u Q I rx ry h hs
  obtain ⟨z, i, c, rfl, rfl, hz, he, q⟩ := h
  obtain ⟨t, rfl⟩ := rx
  obtain ⟨t', rfl⟩ := ry
  obtain ⟨j, h1, h2, h3, h4, h5⟩ := atI_get he
  have hl : z.cps.toList.length = z.length := by simp [Str.length]
  rw [hl] at h1 h4 h5
  have hn := line63
  exact tail_any (typeIs_str s z t) slot_str_getitem.lookup (getItem_str (c := c) (by
    have e1 : decide (i < -(2 ^ 63 : Int)) = false := decide_eq_false (by omega)
    have e2 : decide (i ≥ 2 ^ 63) = false := decide_eq_false (by omega)
    rw [e1, e2, Bool.or_false]) (by rw [h1]; simpa using h2) ⟨.str ⟨#[c]⟩, H, I.tok _, ⟨_, rfl⟩, q⟩) hs
/-- list, tuple or str -/
def rIx (K : PySem.W.Frag) : R2 := fun x y H Q => rIxL K x y H Q ∨ rIxT K x y H Q ∨ rIxS x y H Q
theorem ix_seq : IxR X (rIx X.K) := ix_list.or (ix_tup.or ix_str)

/-! ### xs[i] = v, any sign -/
/-- the list's object behind a store -/
theorem mapSeq_set (its : List Value) (n j : Nat) (u : Value) : Obj.mapSeq (·.setIfInBounds j u) { cls := .type "list", data := .seq its.toArray n } = { cls := .type "list", data := .seq (its.set j u).toArray n } := by
  simp [Obj.mapSeq]
theorem Inv.lst {pins : List (Addr × Obj)} {σ : St} {H : Hp} {s : Shared} {p : Addr} {xs : List V} (I : Inv X pins σ H s) (h : H p = some (.lst xs)) :
    ∃ (its : List Value) (n : Nat), Vals xs its ∧ s.heap.get? p = some { cls := .type "list", data := .seq its.toArray n } ∧ xs.length ≤ sizeLine := by
  obtain ⟨z, its, n, r, e⟩ := I.hok p _ h
  exact ⟨its, n, r, e, z⟩
/-- the list at p is written by an update of its object -/
theorem Inv.lstUpd {pins : List (Addr × Obj)} {σ : St} {H : Hp} {s : Shared} {p : Addr} {xs ys : List V} {its its' : List Value} {n n' : Nat} {f : Obj → Obj} (I : Inv X pins σ H s) (h : H p = some (.lst xs))
    (ho : s.heap.get? p = some { cls := .type "list", data := .seq its.toArray n }) (hf : f { cls := .type "list", data := .seq its.toArray n } = { cls := .type "list", data := .seq its'.toArray n' }) (r : Vals ys its') (hz : ys.length ≤ sizeLine) (t : Nat) :
    Inv X pins σ (upd H p (.lst ys)) { s with heap := s.heap.update p f, toks := t } := by
  have e : (s.heap.update p f).get? p = some { cls := .type "list", data := .seq its'.toArray n' } := by
    rw [Heap.get?_update_self f ho (by rw [hf] <;> rfl), hf]
  refine I.write (x := p) (e := p) (by rw [h]; trivial) (.inl rfl) (fun b u hb q => (Heap.get?_update_other _ _ (Ne.symm hb)).trans q) ⟨_, e⟩ ?_
  exact ⟨hz, its', n', r, e⟩
def rSetL : V → V → V → Hp → (Hp → Prop) → Prop := fun o i v H Q => ∃ p xs k j, o = .ref p ∧ i = .int k ∧ H p = some (.lst xs) ∧ ixN xs.length k = some j ∧ Q (upd H p (.lst (xs.set j v)))
theorem set_list : PSet X rSetL := by
  intro pins s σ H o i v ov iv u Q I ro ri rv h
  obtain ⟨p, xs, k, j, rfl, rfl, hp, hj, q⟩ := h
  cases ro
  obtain ⟨t, rfl⟩ := ri
  obtain ⟨its, n, r, ho, hz⟩ := I.lst hp
  obtain ⟨h1, h2, h3, h4⟩ := ixN_seq hj
  have hl := r.length
  have hn := line63
  have I' : Inv X pins σ (upd H p (.lst (xs.set j v))) { s with heap := s.heap.update p (Obj.mapSeq (·.setIfInBounds j u)) } :=
    I.lstUpd hp ho (mapSeq_set its n j u) (r.set rv j) (by rw [List.length_set]; exact hz) s.toks
  by_cases h0 : 0 ≤ k
  · have hk : k.toNat = j := by
      rw [seqIndex_of h0 h4] at h1
      exact Option.some.inj h1
    exact PySem.W.ki_setAt ho h0 (by omega) (by rw [List.size_toArray, ← hl]; exact h4) (by rw [hk]; exact ⟨_, I', q⟩)
  · have hk : (k + (its.toArray.size : Int)).toNat = j := by
      rw [seqIndex_neg (by omega) h3] at h1
      rw [List.size_toArray, ← hl]
      exact Option.some.inj h1
    exact PySem.W.ki_setBack ho (by omega) (by rw [List.size_toArray, ← hl]; exact h3) (by omega) (by rw [hk]; exact ⟨_, I', q⟩)

/-! ### slices -/
theorem slice_bounds (lo hi : Option Int) (n : Nat) : (sliceBounds lo hi none n).1 = ((HT.sIx n 0 lo : Nat) : Int) ∧ (sliceBounds lo hi none n).2.1 = ((HT.sIx n n hi : Nat) : Int) ∧ (sliceBounds lo hi none n).2.2 = 1 := by
  refine ⟨?_, ?_, rfl⟩
  · cases lo with
    | none => simp [sliceBounds, HT.sIx]
    | some i =>
      simp only [sliceBounds, HT.sIx, Option.getD_none, show (1 : Int) > 0 by decide, if_true]
      by_cases h : i < 0
      · simp only [h, if_true] <;> omega
      · simp only [h, if_false] <;> omega
  · cases hi with
    | none => simp [sliceBounds, HT.sIx]
    | some i =>
      simp only [sliceBounds, HT.sIx, Option.getD_none, show (1 : Int) > 0 by decide, if_true]
      by_cases h : i < 0
      · simp only [h, if_true] <;> omega
      · simp only [h, if_false] <;> omega
theorem slicePick_cut (its : List Value) (lo hi : Option Int) : slicePick its.toArray lo hi none = ((its.drop (HT.sIx its.length 0 lo)).take (HT.sIx its.length its.length hi - HT.sIx its.length 0 lo)).toArray := by
  obtain ⟨h1, h2, h3⟩ := slice_bounds lo hi its.toArray.size
  unfold slicePick
  rw [h1, h2, h3]
  simp only [sliceRange_one, pick_run, List.size_toArray] <;> rfl
/-- xs[lo:hi] of a list: a new list -/
def rSlL (K : PySem.W.Frag) : V → Option Int → Option Int → Hp → VK → Prop := fun x lo hi H Q => ∃ a xs, x = .ref a ∧ SqL K H a xs ∧ ∀ p, H p = none → Q (.ref p) (upd H p (.lst (cutV xs lo hi)))
theorem sl_list : SlR X (rSlL X.K) := by
  intro pins s σ H x v vl vu lo hi sl Q I rx hs pl pu h
  obtain ⟨a, xs, rfl, hx, q⟩ := h
  cases rx
  obtain ⟨its, r, ht, hz⟩ := I.list hx
  have hlen := r.length
  refine ⟨"list", _, slot_list_getitem.lookup, ht.isList.typeIs, ?_⟩
  refine wpAny_getItem_list_slice ht.isList hs pl pu .none (by simp) ?_ (by rw [List.size_toArray] <;> omega)
  rw [slicePick_cut, ← hlen]
  refine ⟨.ref s.heap.objs.size, _, I.laid (t' := s.toks) (o := .lst (cutV xs lo hi)) (fun b ob q => Heap.get?_push_of_some _ q) (Nat.le_refl _) ?_, rfl, q _ (I.hok.fresh (Nat.le_refl _))⟩
  exact ⟨Nat.le_trans (cutV_length xs lo hi) hz, _, 0, (r.drop (HT.sIx xs.length 0 lo)).take (HT.sIx xs.length xs.length hi - HT.sIx xs.length 0 lo), Heap.get?_push_size _ rfl⟩

/-! ### in, not in: flat items -/
def flatV : V → Bool
  | .non => true
  | .bl _ => true
  | .int _ => true
  | .str _ => true
  | _ => false
/-- == of flat values -/
def eqV : V → V → Bool
  | .non, .non => true
  | .bl a, .bl b => a == b
  | .bl a, .int b => (if a then 1 else 0) == b
  | .int a, .bl b => a == (if b then 1 else 0)
  | .int a, .int b => a == b
  | .str a, .str b => a == b
  | _, _ => false
theorem eqAt_V {A : Around} {s : Shared} {y x : V} {u v : Value} (ry : RelV y u) (rx : RelV x v) (fy : flatV y = true) (fx : flatV x = true) : SeqAt.EqAt A s u v (eqV y x) := by
  cases y with
  | non =>
    cases ry
    cases x with
    | non => cases rx; exact SeqAt.EqAt.same _
    | bl b => cases rx; exact SeqAt.EqAt.none_bool b
    | int b => obtain ⟨t, rfl⟩ := rx; exact SeqAt.EqAt.none_int b t
    | str b => obtain ⟨t, rfl⟩ := rx; exact SeqAt.EqAt.none_str b t
    | _ => exact absurd (show false = true from fx) Bool.false_ne_true
  | bl a =>
    cases ry
    cases x with
    | non => cases rx; exact SeqAt.EqAt.bool_none a
    | bl b => cases rx; exact SeqAt.EqAt.bool_bool a b
    | int b => obtain ⟨t, rfl⟩ := rx; exact SeqAt.EqAt.bool_int a b t
    | str b => obtain ⟨t, rfl⟩ := rx; exact SeqAt.EqAt.bool_str a b t
    | _ => exact absurd (show false = true from fx) Bool.false_ne_true
  | int a =>
    obtain ⟨t', rfl⟩ := ry
    cases x with
    | non => cases rx; exact SeqAt.EqAt.int_none a t'
    | bl b => cases rx; exact SeqAt.EqAt.int_bool a t' b
    | int b => obtain ⟨t, rfl⟩ := rx; exact SeqAt.EqAt.int_int a t' b t
    | str b => obtain ⟨t, rfl⟩ := rx; exact SeqAt.EqAt.int_str a t' b t
    | _ => exact absurd (show false = true from fx) Bool.false_ne_true
  | str a =>
    obtain ⟨t', rfl⟩ := ry
    cases x with
    | non => cases rx; exact SeqAt.EqAt.str_none a t'
    | bl b => cases rx; exact SeqAt.EqAt.str_bool a t' b
    | int b => obtain ⟨t, rfl⟩ := rx; exact SeqAt.EqAt.str_int a t' b t
    | str b => obtain ⟨t, rfl⟩ := rx; exact SeqAt.EqAt.str_str a t' b t
    | _ => exact absurd (show false = true from fx) Bool.false_ne_true
  | _ => exact absurd (show false = true from fy) Bool.false_ne_true
/-- the items' answers, read off the values (a value's own answer does not lean on its token) -/
def eqU (x : V) (u : Value) : Bool := match u with
  | .none => eqV .non x
  | .bool b => eqV (.bl b) x
  | .int i _ => eqV (.int i) x
  | .str z _ => eqV (.str z) x
  | _ => false
theorem eqU_of {x y : V} {u : Value} (r : RelV y u) (f : flatV y = true) : eqU x u = eqV y x := by
  cases y with
  | non => cases r; rfl
  | bl b => cases r; rfl
  | int i => obtain ⟨t, rfl⟩ := r; rfl
  | str z => obtain ⟨t, rfl⟩ := r; rfl
  | _ => exact absurd (show false = true from f) Bool.false_ne_true
theorem any_eqU {x : V} : ∀ {xs : List V} {us : List Value}, Vals xs us → xs.all flatV = true → us.any (eqU x) = xs.any fun y => eqV y x
  | _, _, .nil, _ => rfl
  | y :: xs, u :: us, .cons r t, f => by
    rw [List.all_cons, Bool.and_eq_true] at f
    rw [List.any_cons, List.any_cons, eqU_of r f.1, any_eqU t f.2]
theorem mem_eqAt {A : Around} {s : Shared} {x : V} {v : Value} (rx : RelV x v) (fx : flatV x = true) : ∀ {xs : List V} {us : List Value}, Vals xs us → xs.all flatV = true → ∀ u ∈ us, SeqAt.EqAt A s u v (eqU x u)
  | _, _, .nil, _ => fun u hu => by cases hu
  | y :: xs, u :: us, .cons r t, f => fun u' hu => by
    rw [List.all_cons, Bool.and_eq_true] at f
    rcases List.mem_cons.mp hu with rfl | hu
    · rw [eqU_of r f.1]; exact eqAt_V r rx f.1 fx
    · exact mem_eqAt rx fx t f.2 u' hu
def inV (x : V) (xs : List V) : Bool := xs.any fun y => eqV y x
/-- x in a list or tuple of flat items -/
def rIn (K : PySem.W.Frag) (neg : Bool) : R2 := fun x y H Q => ∃ p xs, y = .ref p ∧ (SqL K H p xs ∨ SqT K H p xs) ∧ flatV x = true ∧ xs.all flatV = true ∧ Q (.bl (if neg then !inV x xs else inV x xs)) H
theorem op_in_seq : OpR X (compareOp .In) (rIn X.K false) := by
  intro pins s σ H x y v u Q I rx ry h
  obtain ⟨p, xs, rfl, hq, fx, fs, q⟩ := h
  cases ry
  rcases hq with hq | hq
  · obtain ⟨its, r, pl, hz⟩ := I.list hq
    refine SeqAt.in_listAt (eqU x) pl.isList (fun w hw => mem_eqAt rx fx r fs w (by simpa using hw)) ⟨.bl _, H, I, rfl, ?_⟩
    rw [show its.toArray.any (eqU x) = its.any (eqU x) by simp, any_eqU r fs]
    exact q
  · obtain ⟨its, r, pl, hz⟩ := I.tuple hq
    refine SeqAt.in_tupleAt (eqU x) pl (fun w hw => mem_eqAt rx fx r fs w (by simpa using hw)) ⟨.bl _, H, I, rfl, ?_⟩
    rw [show its.toArray.any (eqU x) = its.any (eqU x) by simp, any_eqU r fs]
    exact q
theorem op_notIn_seq : OpR X (compareOp .NotIn) (rIn X.K true) := by
  intro pins s σ H x y v u Q I rx ry h
  obtain ⟨p, xs, rfl, hq, fx, fs, q⟩ := h
  cases ry
  rcases hq with hq | hq
  · obtain ⟨its, r, pl, hz⟩ := I.list hq
    refine SeqAt.notIn_listAt (eqU x) pl.isList (fun w hw => mem_eqAt rx fx r fs w (by simpa using hw)) ⟨.bl _, H, I, rfl, ?_⟩
    rw [show its.toArray.any (eqU x) = its.any (eqU x) by simp, any_eqU r fs]
    exact q
  · obtain ⟨its, r, pl, hz⟩ := I.tuple hq
    refine SeqAt.notIn_tupleAt (eqU x) pl (fun w hw => mem_eqAt rx fx r fs w (by simpa using hw)) ⟨.bl _, H, I, rfl, ?_⟩
    rw [show its.toArray.any (eqU x) = its.any (eqU x) by simp, any_eqU r fs]
    exact q
/-! ### len, list(x), tuple(x) of any list or tuple that is read -/
theorem call_len_seq : CallR X (.builtin "len") (fun xs H Q => ∃ p ys, xs = [.ref p] ∧ (SqL X.K H p ys ∨ SqT X.K H p ys) ∧ Q (.int ys.length) H) := by
  intro pins s σ H xs us Q I r h
  obtain ⟨p, ys, rfl, hq, q⟩ := h
  obtain ⟨u, rfl, rx⟩ := vals1 r
  cases rx
  have hn := line63
  rcases hq with hq | hq
  · obtain ⟨its, r', pl, hz⟩ := I.list hq
    have hlen := r'.length
    exact Calls.call_len_list pl.isList (by simp only [List.size_toArray] <;> omega) ⟨.int ys.length, H, I.tok _, ⟨s.toks + 1, by rw [List.size_toArray, hlen]⟩, q⟩
  · obtain ⟨its, r', pl, hz⟩ := I.tuple hq
    have hlen := r'.length
    exact len_tuple pl (by simp only [List.size_toArray] <;> omega) ⟨.int ys.length, H, I.tok _, ⟨s.toks + 1, by rw [List.size_toArray, hlen]⟩, q⟩
theorem call_len_str : CallR X (.builtin "len") (fun xs H Q => ∃ z, xs = [.str z] ∧ z.length ≤ sizeLine ∧ Q (.int z.length) H) := by
  intro pins s σ H xs us Q I r h
  obtain ⟨z, rfl, hz, q⟩ := h
  obtain ⟨u, rfl, t, rfl⟩ := vals1 r
  have hn := line63
  exact len_str (by omega) ⟨.int z.length, H, I.tok _, ⟨_, rfl⟩, q⟩
theorem call_tuple_of : CallR X (.type "tuple") (fun xs H Q => ∃ p ys, xs = [.ref p] ∧ ((SqL X.K H p ys ∧ ∀ l, H l = none → Q (.ref l) (upd H l (.tup ys))) ∨ (SqT X.K H p ys ∧ Q (.ref p) H))) := by
  intro pins s σ H xs us Q I r h
  obtain ⟨p, ys, rfl, h⟩ := h
  obtain ⟨u, rfl, rx⟩ := vals1 r
  cases rx
  rcases h with ⟨hq, q⟩ | ⟨hq, q⟩
  · obtain ⟨its, r', pl, hz⟩ := I.list hq
    have hlen := r'.length
    refine call_tuple_list pl.isList (fun h' kp => ?_) (by simp only [List.size_toArray] <;> omega)
    have I1 : Inv X pins σ H { s with heap := h' } := I.kept (t' := s.toks) kp
    have I2 : Inv X pins σ (upd H h'.objs.size (.tup ys)) { s with heap := h'.push { cls := .type "tuple", data := .seq its.toArray } } :=
      I1.laid (t' := s.toks) (fun b o e => Heap.get?_push_of_some _ e) (Nat.le_refl _) (show ObjOk X.prog X.w _ _ _ (.tup ys) from ⟨hz, its, r', IsTup.new _ _⟩)
    exact ⟨.ref h'.objs.size, _, I2, rfl, q _ (I1.hok.fresh (Nat.le_refl _))⟩
  · obtain ⟨its, r', pl, hz⟩ := I.tuple hq
    exact call_tuple_same pl ⟨.ref p, H, I, rfl, q⟩

/-! ### the call of a builtin's method: o.m(..) -/
/-- the value is of that builtin type -/
def tyV (K : PySem.W.Frag) (T : String) (x : V) (H : Hp) : Prop := match x with
  | .str _ => T = "str"
  | .int _ => T = "int"
  | .ref p => (T = "list" ∧ ∃ xs, SqL K H p xs) ∨ (T = "tuple" ∧ ∃ o, K.lookup p = some o ∧ o.cls = .type "tuple" ∧ o.dict = none) ∨
      (T = "dict" ∧ ((∃ kvs, H p = some (.dK kvs)) ∨ ∃ kvs, H p = some (.dT kvs))) ∨ (T = "set" ∧ ∃ S n, H p = some (.set S n))
  | _ => False
theorem tyV_is {pins : List (Addr × Obj)} {σ : St} {H : Hp} {s : Shared} {T : String} {x : V} {v : Value} (I : Inv X pins σ H s) (r : RelV x v) (ty : tyV X.K T x H) :
    s.TypeIs v T ∧ ∀ a, v = .ref a → ∃ ob, s.heap.get? a = some ob ∧ ob.dict = none := by
  cases x with
  | str z =>
    obtain ⟨t, rfl⟩ := r
    cases (show T = "str" from ty)
    exact ⟨typeIs_str s z t, fun _ e => nomatch e⟩
  | int i =>
    obtain ⟨t, rfl⟩ := r
    cases (show T = "int" from ty)
    exact ⟨typeIs_int s i t, fun _ e => nomatch e⟩
  | ref p =>
    cases r
    rcases ty with ⟨rfl, xs, hq⟩ | ⟨rfl, o, hk, hc, hd⟩ | ⟨rfl, hk⟩ | ⟨rfl, S, n, hk⟩
    · obtain ⟨its, _, pl, _⟩ := I.list hq
      refine ⟨pl.isList.typeIs, fun a e => ?_⟩
      cases e
      obtain ⟨o, n, e, c, hd, _⟩ := pl
      exact ⟨o, e, hd⟩
    · refine ⟨⟨o, I.kIn p o hk, hc⟩, fun a e => ?_⟩
      cases e
      exact ⟨o, I.kIn _ o hk, hd⟩
    · have z : ∃ o, s.heap.get? p = some o ∧ o.ExactDict := by
        rcases hk with ⟨kvs, hk⟩ | ⟨kvs, hk⟩
        · obtain ⟨_, _, _, _, o, _, _, e, ex, _⟩ := I.hok p _ hk
          exact ⟨o, e, ex⟩
        · obtain ⟨_, _, _, _, o, _, _, e, ex, _⟩ := I.hok p _ hk
          exact ⟨o, e, ex⟩
      obtain ⟨o, e, ex⟩ := z
      refine ⟨⟨o, e, ex.1⟩, fun a e2 => ?_⟩
      cases e2
      exact ⟨o, e, ex.2.1⟩
    · obtain ⟨o, _, _, _, e, ex, _⟩ := I.hok p _ hk
      refine ⟨⟨o, e, ex.1⟩, fun a e2 => ?_⟩
      cases e2
      exact ⟨o, e, ex.2.1⟩
  | _ => exact False.elim ty
def tBM0 (K : PySem.W.Frag) (T : String) (r : V → List V → Hp → VK → Prop) (to : TE) : TE := fun σ H Q => to σ H fun x H1 => tyV K T x H1 ∧ r x [] H1 Q
def tBM (K : PySem.W.Frag) (T : String) (r : V → List V → Hp → VK → Prop) (to : TE) (t : TA) : TE := fun σ H Q => to σ H fun x H1 => tyV K T x H1 ∧ t σ H1 fun xs H2 => r x xs H2 Q
variable {o e : Expr} {es : List Expr} {to : TE} {t : TA} {name : Str} {apos cpos : Pos} {T id : String} {r : V → List V → Hp → VK → Prop}
theorem pe_bm0 (pa : PlainAttrs T) (slot : Slot T name id) (hty : typeOf (.builtin id) = pure (.type "method_descriptor")) (hm : MtR X id r) (ho : PE X o to)
    (hbase : attributeBase o name X.env (eval o X.env) = eval o X.env := by rfl) (hline : (apos.endLine == cpos.line) = true := by rfl) : PE X (.Call (.Attribute o name apos) [] [] cpos) (tBM0 X.K T r to) := by
  intro pins s σ H Q I h
  refine wpAny_Call_method0_late hbase hline (thn (ho pins s σ H _ I h) fun v s1 ⟨x, H1, I1, r1, ty, q1⟩ => ?_)
  obtain ⟨h1, h2⟩ := tyV_is I1 r1 ty
  exact ⟨T, id, pa, slot, hty, h1, h2, Calls.callWith_builtin rfl (PySem.evalArgs_none (hm pins s1 σ H1 x [] v [] Q I1 r1 .nil q1))⟩
theorem pe_bm (pa : PlainAttrs T) (slot : Slot T name id) (hty : typeOf (.builtin id) = pure (.type "method_descriptor")) (hm : MtR X id r) (ho : PE X o to) (ha : PA X (e :: es) t)
    (hbase : attributeBase o name X.env (eval o X.env) = eval o X.env := by rfl)
    (hfew : ((backTo cpos (starEach (e :: es) X.env)).all (fun x => !x.1) && (backToKw cpos (keywordEach [] X.env)).all (fun x => x.1.isSome)
      && decide ((e :: es).length + ([] : List Keyword).length + (if ([] : List Keyword).isEmpty then 0 else 1) < 30)) = true := by rfl)
    (hline : (apos.endLine == cpos.line) = true := by rfl) (hs : starEach (e :: es) X.env = (false, eval e X.env) :: starEach es X.env := by rfl) (hplain : (backTo cpos (starEach es X.env)).any (·.1) = false := by rfl) :
    PE X (.Call (.Attribute o name apos) (e :: es) [] cpos) (tBM X.K T r to t) := by
  intro pins s σ H Q I h
  refine wpAny_Call_method_late hbase hfew hline rfl (thn (ho pins s σ H _ I h) fun v s1 ⟨x, H1, I1, r1, ty, q1⟩ => ?_)
  obtain ⟨h1, h2⟩ := tyV_is I1 r1 ty
  refine ⟨T, id, pa, slot, hty, h1, h2, ?_⟩
  have hA := ha cpos pins s1 σ H1 _ I1 q1
  rw [hs] at hA ⊢
  refine Calls.callWith_builtin (by show (false || (backTo cpos (starEach es X.env)).any (·.1)) = false; rw [hplain] <;> rfl) (Calls.evalArgs_plain ?_)
  exact thn hA fun us s2 ⟨vs, H2, I2, r2, q2⟩ => hm pins s2 σ H2 x vs v us Q I2 r1 r2 q2
/- xs.append(e), list.index on a module's tuple .. are MtR facts of 06m -/
end
end L2

namespace L2
open PySem PySem.Spec PyProof.Rows

def MtM (X : Cx) (id : String) (r : V → List V → Hp → VK → Prop) : Prop :=
  ∀ (pins : List (Addr × Obj)) (s : Shared) (σ : St) (H : Hp) (x : V) (xs : List V) (v : Value) (us : List Value) (Q : VK), Inv X pins σ H s → RelV x v → Vals xs us → r x xs H Q →
    wpAny (model X.prog X.w) X.A (call (.builtin id) (v :: us)) (EP X pins σ Q) X.xe s

/-! ### lists of values -/
theorem Vals.one : ∀ {x : V} {us : List Value}, Vals [x] us → ∃ u, us = [u] ∧ RelV x u
  | _, _, .cons r .nil => ⟨_, rfl, r⟩
theorem Vals.zero : ∀ {us : List Value}, Vals [] us → us = []
  | _, .nil => rfl
theorem Vals.dropLast {xs : List V} {us : List Value} (h : Vals xs us) : Vals xs.dropLast us.dropLast := by
  induction h with
  | nil => exact .nil
  | cons r t ih =>
    cases t with
    | nil => exact .nil
    | cons q t' => exact .cons r ih
theorem Vals.rep {xs : List V} {us : List Value} (h : Vals xs us) : ∀ k : Nat, Vals (List.replicate k xs).flatten (List.replicate k us).flatten
  | 0 => .nil
  | k + 1 => by
    rw [List.replicate_succ, List.replicate_succ, List.flatten_cons, List.flatten_cons]
    exact Vals.append h (Vals.rep h k)
theorem erase_last {α : Type} (l : List α) : l.eraseIdx (l.length - 1) = l.dropLast := by
  induction l with
  | nil => rfl
  | cons a r ih =>
    cases r with
    | nil => rfl
    | cons b r =>
      have e : (a :: b :: r).length - 1 = ((b :: r).length - 1) + 1 := by
        have h1 : (a :: b :: r).length = r.length + 2 := rfl
        have h2 : (b :: r).length = r.length + 1 := rfl
        omega
      rw [e, List.eraseIdx_cons_succ, ih]
      all_goals rfl
theorem foldl_rep (its : List Value) : ∀ (k : Nat) (acc : List Value),
    List.foldl (fun x1 x2 => x1 ++ x2) acc.toArray (List.replicate k its.toArray) = (acc ++ (List.replicate k its).flatten).toArray
  | 0, acc => by simp
  | k + 1, acc => by
    have e : acc.toArray ++ its.toArray = (acc ++ its).toArray := by simp
    have e2 : (acc ++ its) ++ (List.replicate k its).flatten = acc ++ (List.replicate (k + 1) its).flatten := by
      rw [List.replicate_succ, List.flatten_cons, List.append_assoc]
    rw [← e2, ← foldl_rep its k (acc ++ its), ← e, List.replicate_succ, List.foldl_cons]

section
variable {X : Cx} {pins : List (Addr × Obj)} {σ : St} {H : Hp} {s : Shared} {l b : Addr} {xs ys zs : List V}

/-! ### the two steps: a tracked list is rewritten, a new list is laid -/
theorem Inv.lset {its its' : List Value} {n : Nat} {f : Array Value → Array Value} {t' : Nat} (I : Inv X pins σ H s) (hH : H l = some (.lst xs))
    (e : s.heap.get? l = some { cls := .type "list", data := .seq its.toArray n }) (hf : f its.toArray = its'.toArray) (hv : Vals ys its') (hz : ys.length ≤ sizeLine) :
    Inv X pins σ (upd H l (.lst ys)) { s with heap := s.heap.update l (Obj.mapSeq f), toks := t' } := by
  have q := PySem.IsL.update e f
  rw [hf] at q
  refine I.write (x := l) (e := l) (by rw [hH]; exact trivial) (.inl rfl) (fun b' u hb hu => (Heap.get?_update_other s.heap (Obj.mapSeq f) (Ne.symm hb)).trans hu) ⟨_, q⟩ ?_
  exact ⟨hz, its', _, hv, q⟩
theorem Inv.lnew {its : List Value} {t' : Nat} (I : Inv X pins σ H s) (hv : Vals ys its) (hz : ys.length ≤ sizeLine) :
    Inv X pins σ (upd H s.heap.objs.size (.lst ys)) { s with heap := s.heap.push { cls := .type "list", data := .seq its.toArray }, toks := t' } :=
  I.laid (fun _ _ q => Heap.get?_push_of_some _ q) (Nat.le_refl _) ⟨hz, its, 0, hv, Heap.get?_push_size _ rfl⟩
theorem Inv.fresh (I : Inv X pins σ H s) : H s.heap.objs.size = none := I.hok.fresh (Nat.le_refl _)
theorem Inv.lstM (I : Inv X pins σ H s) (hH : H l = some (.lst xs)) : xs.length ≤ sizeLine ∧ ∃ (its : List Value) (n : Nat), Vals xs its ∧ xs.length = its.length ∧ s.heap.get? l = some { cls := .type "list", data := .seq its.toArray n } := by
  obtain ⟨z, its, n, r, e⟩ := I.hok l _ hH
  exact ⟨z, its, n, r, r.length, e⟩

theorem notLongL {n : Nat} (h : n ≤ sizeLine) : Builtin.List.listTooLong n = false := by
  unfold Builtin.List.listTooLong
  exact decide_eq_false (by omega)
end

section
variable {X : Cx}

/-! ### methods -/
def rAppend : V → List V → Hp → VK → Prop := fun x vs H Q => ∃ l xs y, x = .ref l ∧ vs = [y] ∧ H l = some (.lst xs) ∧ xs.length < sizeLine ∧ Q .non (upd H l (.lst (xs ++ [y])))
theorem mt_append : MtM X "list.append" rAppend := by
  intro pins s σ H x vs v us Q I rx rv h
  obtain ⟨l, xs, y, rfl, rfl, hH, hz, q⟩ := h
  cases rx
  obtain ⟨u, rfl, ru⟩ := rv.one
  obtain ⟨z, its, n, r, hl, e⟩ := I.lstM hH
  refine call_meets F.slot_list_append ⟨_, e, rfl⟩ F.entry_list_append (F.args_list_append_2 _ _) (PySem.list_append l its.toArray n u (by rw [List.size_toArray]; omega)) ⟨e, ?_⟩
  refine ⟨.non, _, I.lset (its' := its ++ [u]) hH e (by simp) (r.append (.cons ru .nil)) ?_, rfl, q⟩
  rw [List.length_append, List.length_singleton]
  omega

def rExtend : V → List V → Hp → VK → Prop := fun x vs H Q => ∃ l b xs zs, x = .ref l ∧ vs = [.ref b] ∧ H l = some (.lst xs) ∧ H b = some (.lst zs) ∧ xs.length + zs.length ≤ sizeLine ∧ Q .non (upd H l (.lst (xs ++ zs)))
theorem mt_extend : MtM X "list.extend" rExtend := by
  intro pins s σ H x vs v us Q I rx rv h
  obtain ⟨l, b, xs, zs, rfl, rfl, hH, hB, hz, q⟩ := h
  cases rx
  obtain ⟨u, rfl, ru⟩ := rv.one
  cases ru
  obtain ⟨z, its, n, r, hl, e⟩ := I.lstM hH
  obtain ⟨z2, its2, n2, r2, hl2, e2⟩ := I.lstM hB
  have hsz : its.toArray.size + its2.toArray.size ≤ sizeLine := by rw [List.size_toArray, List.size_toArray]; omega
  have hlong : ¬ (!its.toArray.isEmpty && Builtin.List.listTooLong (its.toArray.size + its2.toArray.size)) = true := by
    rw [notLongL hsz, Bool.and_false]
    exact Bool.false_ne_true
  refine call_meets F.slot_list_extend ⟨_, e, rfl⟩ F.entry_list_extend (F.args_list_extend_2 _ _)
    (AutoSeq1.list_extend_list_list_0 l its.toArray n b its2.toArray n2 hlong (by rw [List.size_toArray]; omega) (by omega)) ⟨e, e2, ?_⟩
  refine ⟨.non, _, I.lset (its' := its ++ its2) hH e (by simp) (r.append r2) ?_, rfl, q⟩
  rw [List.length_append]
  omega

def rPop : V → List V → Hp → VK → Prop := fun x vs H Q => ∃ l xs y, x = .ref l ∧ vs = [] ∧ H l = some (.lst xs) ∧ xs[xs.length - 1]? = some y ∧ Q y (upd H l (.lst xs.dropLast))
theorem mt_pop : MtM X "list.pop" rPop := by
  intro pins s σ H x vs v us Q I rx rv h
  obtain ⟨l, xs, y, rfl, rfl, hH, hy, q⟩ := h
  cases rx
  have hus := rv.zero
  subst hus
  obtain ⟨z, its, n, r, hl, e⟩ := I.lstM hH
  obtain ⟨u, hu, ru⟩ := r.get hy
  have hy' : its.toArray[its.toArray.size - 1]? = some u := by
    show its.toArray[its.length - 1]? = some u
    rw [← Array.getElem?_toList, ← hl]
    exact hu
  refine call_meets F.slot_list_pop ⟨_, e, rfl⟩ F.entry_list_pop (F.args_list_pop_1 _) (MeetsSeq.list_pop_last l its.toArray n u hy' (by rw [List.size_toArray]; omega)) ⟨e, ?_⟩
  refine ⟨y, _, I.lset (its' := its.dropLast) hH e ?_ r.dropLast ?_, ru, q⟩
  · show its.toArray.eraseIdxIfInBounds (its.toArray.size - 1) = its.dropLast.toArray
    rw [List.size_toArray, List.eraseIdxIfInBounds_toArray, erase_last]
  · rw [List.length_dropLast]
    omega

def rPopAt : V → List V → Hp → VK → Prop := fun x vs H Q => ∃ l xs i k y, x = .ref l ∧ vs = [.int i] ∧ H l = some (.lst xs) ∧ -(2 ^ 63) ≤ i ∧ i < 2 ^ 63 ∧ seqIndex? i xs.length = some k ∧ xs[k]? = some y ∧ Q y (upd H l (.lst (xs.eraseIdx k)))
def rReverse : V → List V → Hp → VK → Prop := fun x vs H Q => ∃ l xs, x = .ref l ∧ vs = [] ∧ H l = some (.lst xs) ∧ Q .non (upd H l (.lst xs.reverse))
def rClear : V → List V → Hp → VK → Prop := fun x vs H Q => ∃ l xs, x = .ref l ∧ vs = [] ∧ H l = some (.lst xs) ∧ Q .non (upd H l (.lst []))
/-! ### list + list, list += list, list * int -/
def rCat : R2 := fun x y H Q => ∃ l b xs zs, x = .ref l ∧ y = .ref b ∧ H l = some (.lst xs) ∧ H b = some (.lst zs) ∧ xs.length + zs.length ≤ sizeLine ∧ ∀ p, H p = none → Q (.ref p) (upd H p (.lst (xs ++ zs)))
theorem op_cat : OpR X (binaryOp .Add) rCat := by
  intro pins s σ H x y v u Q I rx ry h
  obtain ⟨l, b, xs, zs, rfl, rfl, hH, hB, hz, q⟩ := h
  cases rx
  cases ry
  obtain ⟨z, its, n, r, hl, e⟩ := I.lstM hH
  obtain ⟨z2, its2, n2, r2, hl2, e2⟩ := I.lstM hB
  refine PySem.P.add_list e e2 ?_ (by rw [List.size_toArray, List.size_toArray]; omega)
  have ea : its.toArray ++ its2.toArray = (its ++ its2).toArray := by simp
  rw [ea]
  exact ⟨.ref _, _, I.lnew (t' := s.toks) (r.append r2) (by rw [List.length_append]; omega), rfl, q _ I.fresh⟩
/-- a list times an int (a negative one is nothing) -/
def rRep : R2 := fun x y H Q => ∃ l k xs, x = .ref l ∧ y = .int k ∧ H l = some (.lst xs) ∧ -(2 ^ 63) ≤ k ∧ k < 2 ^ 63 ∧ xs.length * k.toNat ≤ sizeLine ∧
  ∀ p, H p = none → Q (.ref p) (upd H p (.lst (List.replicate k.toNat xs).flatten))
theorem len_rep {α : Type} (xs : List α) (k : Nat) : (List.replicate k xs).flatten.length = k * xs.length := by
  induction k with
  | zero => simp
  | succ k ih => rw [List.replicate_succ, List.flatten_cons, List.length_append, ih, Nat.succ_mul, Nat.add_comm]
theorem op_rep : OpR X (binaryOp .Mult) rRep := by
  intro pins s σ H x y v u Q I rx ry h
  obtain ⟨l, k, xs, rfl, rfl, hH, h1, h2, hz, q⟩ := h
  cases rx
  obtain ⟨t, rfl⟩ := ry
  obtain ⟨z, its, n, r, hl, e⟩ := I.lstM hH
  have hlen : its.toArray.size * k.toNat ≤ sizeLine := by rw [List.size_toArray, ← hl]; exact hz
  have hcap : ¬ its.toArray.size * k.toNat > (2 ^ 63 - 1) / 8 := by
    have : (sizeLine : Nat) ≤ (2 ^ 63 - 1) / 8 := by decide
    omega
  have hfit : ¬ (!Builtin.List.listFitsIndex k) = true := by
    rw [fitsIndex_both h1 h2]
    exact Bool.false_ne_true
  have hlong : ¬ Builtin.List.listTooLong (its.toArray.size * k.toNat) = true := by
    rw [notLongL hlen]
    exact Bool.false_ne_true
  have hnew : List.foldl (fun x1 x2 => x1 ++ x2) #[] (List.replicate (if its.toArray.isEmpty = true then 0 else k.toNat) its.toArray) = (List.replicate k.toNat its).flatten.toArray := by
    have f0 : ∀ m : Nat, List.foldl (fun x1 x2 => x1 ++ x2) #[] (List.replicate m its.toArray) = (List.replicate m its).flatten.toArray := fun m => by
      have := foldl_rep its m []
      rw [List.nil_append] at this
      exact this
    rw [f0]
    cases its with
    | nil => simp
    | cons a r' => rw [if_neg (by simp)]
  refine wpAny_binaryOp_repeat_ref (T := "list") (U := "int") (by decide) ⟨_, e, rfl⟩ (fun s' => typeIs_int s' k t) noFill_list_mul F.fills_int_mul F.slot_int_rmul repeat_list F.slot_int_index.lookup
    (call_meets F.slot_int_rmul (typeIs_int s k t) F.entry_int_rmul (F.args_int_rmul_2 _ _) (int___rmul___int_list k t l its.toArray n)
      ⟨e, rfl, ⟨_, e, rfl⟩, call_meets F.slot_list_mul ⟨_, e, rfl⟩ F.entry_list_mul (F.args_list_mul_2 _ _) (AutoListH.list___mul___list_int_3 l its.toArray n k t hfit hcap hlong) ⟨e, ?_⟩⟩)
  rw [hnew]
  exact ⟨.ref _, _, I.lnew (t' := s.toks) (r.rep k.toNat) (by rw [len_rep, Nat.mul_comm]; exact hz), rfl, q _ I.fresh⟩

/-! ### del xs[i] -/
end

/-! ### xs[a:b] = ys -/
section
variable {prog : Program} {w : World} {A : Around} {E : Value → Shared → Prop} {s : Shared}
set_option maxRecDepth 100000 in
end

section
variable {X : Cx}
end
end L2

namespace Att
open PySem PySem.W PySem.Calls PyProof.Rows

/-! ### the script -/
theorem ints_of_wellAll {P : Params} {h : Heap} : ∀ (ns : List Int) (vs : List Value), WellAll P h vs (ns.map WData.int) → IntsAre vs ns := by
  intro ns
  induction ns with
  | nil =>
    intro vs w
    rw [List.map_nil] at w
    cases w
    exact .nil
  | cons n ns ih =>
    intro vs w
    rw [List.map_cons] at w
    cases w with
    | cons a b =>
      cases a
      exact .cons _ _ (ih _ b)

theorem script_of {l : OpenLaw} {n : Nat} (hn : l.most = some n) {P : Params} {h : Heap} {args : List WData} {vals : List Value}
    (hpre : l.row.toRowW.claim.pre args = true) (hwl : WellAll P h vals args) :
    ∃ a vs ns, vals = [Value.ref a] ∧ args = [WData.list (ns.map WData.int)] ∧ h.get? a = some { cls := .type "list", data := .seq vs.toArray } ∧ IntsAre vs ns ∧ ns.length ≤ n := by
  have hsh : WShape.hasAll [] args [.list .int] = true := (pre_splitW hpre).1
  have hc : l.pre.holds [] { args := args } = true := (pre_splitW hpre).2
  obtain ⟨d, r, rfl, h1, h2⟩ := hasAllW_cons hsh
  obtain rfl := hasAllW_nil h2
  obtain ⟨xs, rfl, h3⟩ := hasW_list h1
  obtain ⟨ns, rfl⟩ := items_int h3
  have hlen : ns.length ≤ n := by
    unfold OpenLaw.pre at hc
    have h4 : (WTm.not (.lt (.lit (.int (n : Int))) (.len (.arg 0)))).holds [] { args := [.list (ns.map .int)] } = true := by
      have h4 := (holds_andW hc).1
      rw [hn] at h4
      exact h4
    have h5 := condW_of h4 (w_not (w_lt w_lit (w_len_list (w_arg rfl))))
    rw [List.length_map] at h5
    refine Nat.le_of_not_lt fun q => ?_
    have q' : (n : Int) < ((ns.length : Nat) : Int) := by omega
    first
      | (rw [decide_eq_true q'] at h5; exact absurd h5 (by decide))
      | (simp at h5; omega)
  cases hwl with
  | cons w1 w2 =>
    cases w2
    cases w1 with
    | list ho hall => exact ⟨_, _, ns, rfl, rfl, ho, ints_of_wellAll ns _ hall, hlen⟩

theorem post_true (l : OpenLaw) (args : List WData) : l.row.toRowW.claim.post args (.bool true) args = true :=
  postW_of (r := l.row.toRowW) (X := (true == true))
    (show WShape.has [] (.bool true) .bool = true by first | rfl | decide | simp [WShape.has, WShape.arms, WShape.armsAll])
    (show (WTm.eq .res (.lit (.bool true))).value [] { args := args, res := some (.bool true), after := args } = some (.bool (true == true)) from w_eq_bool (w_res rfl) w_lit) rfl

/-! ### the attachment: holds_open's last premise (the goal 'hc' behind k_head) from a wpAny of the law's body -/
/-- the same from a codeAny of the CALL (for a layer whose function contracts speak of calls) -/
theorem attach_call {l : OpenLaw} {n : Nat} {q : Program} {loose : List Str} {XP : (Str → Option Value) → Heap → Prop} {YP : World → Heap → Prop} {d : DefRec}
    (hn : l.most = some n) (hdf : d.params.defaults = [])
    (call : ∀ (w : World) (s₀ s₁ : Shared) (mg mb : Str → Option Value) (fa : Addr) (o : Obj) (pm cd doc : Value) (a : Addr) (vs : List Value) (ns : List Int),
      Ground q loose [] XP w s₀ mg mb s₁.heap → YP w s₁.heap →
      s₁.heap.get? fa = some o → o.data = .func (docDef d.name d.params d.body d.scope pm cd doc) → s₁.heap.CodeRec cd d.name → mg d.name = some (.ref fa) →
      s₁.heap.get? a = some { cls := .type "list", data := .seq vs.toArray } → IntsAre vs ns → ns.length ≤ n → s₁.gens = #[] →
      codeAny (model l.prog w) callerA (.call (.ref fa) ⟨[.ref a], []⟩) (fun r s' => r = .ok (.ret (.bool true)) ∧ OldK s₁.heap s'.heap ∧ s'.os = s₁.os ∧ AllBare s'.gens) s₁) :
    WalkO q loose XP YP l.row.toRowW d [] (fun f vs => PySem.call f vs) := by
  intro w s₀ s₁ mg mb G Y fa o pm cd doc dV kV ho hd hcd hD hmg hg args vals as hpre hlay hrd hwl hlo
  obtain rfl : dV = .none := Dflts.none hD hdf
  obtain rfl : kV = .none := Dflts.noKw hD
  obtain ⟨a, vs, ns, rfl, rfl, hobj, hints, hlen⟩ := script_of hn hpre hwl
  refine enter_call (codeAny_mono (call w s₀ s₁ mg mb fa o pm cd doc a vs ns G Y ho (fd_plain hd) hcd hmg hobj hints hlen hg) fun r s' hq => ?_)
  obtain ⟨rfl, h2, h3, h4⟩ := hq
  exact ⟨.inl ⟨.bool true, .bool true, [], rfl, fun _ => rfl, .bool true, post_true l _, fun _ => ⟨List.Pairwise.nil, fun _ hm => (nomatch hm)⟩⟩, h2, h3, h4⟩

/-! ### rules over ANY heap (no ledger) from facts about the written part K: the library's own take a ledger (News) for what they write -/
section
variable {prog : Program} {w : World} {A : Around} {E : Value → Shared → Prop} {s : Shared} {K : Frag}

/-! the whole heap as the ledger: makes every rule that writes through a ledger a rule over any heap -/
def noObjs (h : Heap) : Heap := { h with objs := #[] }
def ledger (h : Heap) (L d : Addr) : List (Addr × Obj) := (List.range h.objs.size).filterMap fun a => if a = L ∨ a = d then none else (h.get? a).map fun o => (a, o)
end
end Att

namespace L2
open PySem PySem.Spec PyProof.Rows

theorem vals_ints : ∀ {vs : List Value} {ns : List Int}, IntsAre vs ns → Vals (ns.map V.int) vs
  | _, _, .nil => .nil
  | _, _, .cons n t h => .cons ⟨t, rfl⟩ (vals_ints h)

/-- nothing is tracked but the script, known to the object (or it is an object of the module) -/
def Only (H : Hp) : Prop := ∀ b, H b = none ∨ ∃ o xs, H b = some (.frz o (.lst xs))

/-- THE HEAD: the law's promise, at the heap behind the top. F, the promise of the law's def, may use that base is part of the heap (so K.In base, base.Ns mainGlobals mg stand in Mod) -/
theorem law_call {P : Program} {w : World} {K : PySem.W.Frag} {mg mb : Str → Option Value} {CX : CXT} {k : Nat} {fa a : Addr} {fd : FuncData} {x : Str} {sp : Sp} {s₁ : Shared} {vs : List Value} {ns : List Int}
    (KX : K.In s₁.heap) (hns : s₁.heap.Ns mainGlobals mg) (hb : s₁.heap.Ns builtinsNs mb) (hbb : ∀ x : Str, x ≠ "__name__" → mb x = bootBuiltins x) (hlim : s₁.heap.NoLimit) (hg : s₁.gens = #[])
    (ha : s₁.heap.get? a = some { cls := .type "list", data := .seq vs.toArray }) (hi : IntsAre vs ns) (hl : ns.length ≤ sizeLine) (hr : Room k callerA)
    (F : ∀ base : Heap, K.In base → base.Ns mainGlobals mg → FnOk P w K mg base CX k fa fd [x] sp) (hbind : ∀ (s : Shared) (u : Value), BindsTo s fd ⟨[u], []⟩ [(x, u)])
    (hsp : ∀ H : Hp, Only H → SqL K H a (ns.map V.int) → sp [.ref a] H (fun v _ => v = .bl true) fun _ _ _ => False)
    (hCX : ∀ H e s', CX [] H s₁ (fun _ _ _ => False) e s' → False) :
    codeAny (model P w) callerA (.call (.ref fa) ⟨[.ref a], []⟩) (fun r s' => r = .ok (.ret (.bool true)) ∧ OldK s₁.heap s'.heap ∧ s'.os = s₁.os ∧ AllBare s'.gens) s₁ := by
  have rv := vals_ints hi
  have lenV := hi.length
  -- from an abstract heap in which nothing but the script may be tracked
  have core : ∀ H : Hp, Only H → SqL K H a (ns.map V.int) → HOk P w H s₁.heap → (∀ b, H b ≠ none → b = a) → (H a ≠ none → K.lookup a = none) →
      codeAny (model P w) callerA (.call (.ref fa) ⟨[.ref a], []⟩) (fun r s' => r = .ok (.ret (.bool true)) ∧ OldK s₁.heap s'.heap ∧ s'.os = s₁.os ∧ AllBare s'.gens) s₁ := by
    intro H hO hS hok hA hK
    have base_of : ∀ {b : Addr} {o : Obj}, s₁.heap.get? b = some o → H b = none → (hidT s₁.heap H).get? b = some o := fun e n => hidT_get e n
    have noA : ∀ {b : Addr} {o : Obj} {es : Array DictEntry} {ep : Nat}, s₁.heap.get? b = some o → o.data = .dict es ep → H b = none := fun {b o es ep} e d => by
      cases q : H b with
      | none => rfl
      | some u =>
        have e' : b = a := hA b (by rw [q]; simp)
        subst e'
        rw [ha] at e; cases e
        have d' : Data.seq vs.toArray _ = Data.dict es ep := d
        cases d'
    have nsK : ∀ {b : Addr} {m : Str → Option Value}, s₁.heap.Ns b m → (hidT s₁.heap H).Ns b m := fun {b m} ⟨o, es, ep, e, d, r⟩ => ⟨o, es, ep, base_of e (noA e d), d, r⟩
    have hKb : K.In (hidT s₁.heap H) := fun b o e => base_of (KX b o e) (by
      cases q : H b with
      | none => rfl
      | some u =>
        have e' : b = a := hA b (by rw [q]; simp)
        subst e'
        rw [hK (by rw [q]; simp)] at e; cases e)
    have hM : Mod K mg (hidT s₁.heap H) := ⟨hKb, nsK hns, ⟨mb, nsK hb, hbb⟩, let ⟨mc, h1, h2⟩ := hlim; ⟨mc, nsK h1, h2⟩⟩
    have e0 : Env0 P w K mg (hidT s₁.heap H) callerA [] s₁ H := ⟨rfl, hM, fun b o e => of_hidT e, Nat.le_of_eq (hidT_size _ _), trivial, fun b hb => absurd (show b ∈ ([] : List Addr) from hb) (by simp), hok, .of_eq hg⟩
    refine codeAny_mono ((F _ hKb (nsK hns)).run callerA [] s₁ H ⟨[.ref a], []⟩ [.ref a] [.ref a] _ _ hr e0 (hbind s₁ (.ref a)) (.cons rfl .nil) (hsp H hO hS)) fun r s' h => ?_
    cases r with
    | error e => exact (hCX H e s' h).elim
    | ok fl =>
      cases fl with
      | next => exact False.elim h
      | brk => exact False.elim h
      | cont => exact False.elim h
      | ret u =>
        obtain ⟨v, H', os, bare, un, hok', r', q⟩ := h
        have q' : v = .bl true := q
        subst q'
        obtain rfl : u = Value.bool true := r'
        refine ⟨rfl, OldK.of_keep fun b o e => ?_, os, bare⟩
        cases q : H b with
        | none => exact un.keep b o e q (by intro z; exact absurd (show b ∈ ([] : List Addr) from z) (by simp)) (by simp)
        | some u =>
          rcases hO b with z | ⟨ob, xs, z⟩
          · rw [q] at z; cases z
          · have z2 := un.frzs b ob _ z
            obtain ⟨e1, _⟩ := hok b _ z
            obtain ⟨e2, _⟩ := hok' b _ z2
            rw [e] at e1; cases e1
            exact e2
  cases hk : K.lookup a with
  | some o =>
    -- the script is one of the module's own objects
    have e := KX a o hk
    rw [ha] at e
    cases e
    refine core (fun _ => none) (fun _ => .inl rfl) (.inr ⟨_, vs.toArray, _, hk, rfl, rfl, rfl, by rw [List.size_toArray, lenV]; exact hl, by simpa using rv⟩) (fun b u z => by have z' : (none : Option HO) = some u := z; cases z') (fun b z => absurd rfl z) fun z => absurd rfl z
  | none =>
    refine core (fun b => if b = a then some (.frz { cls := .type "list", data := .seq vs.toArray } (.lst (ns.map V.int))) else none) (fun b => ?_) (.inl (.inr ⟨{ cls := .type "list", data := .seq vs.toArray }, if_pos rfl⟩)) (fun b u z => ?_) (fun b z => ?_) fun _ => hk
    · by_cases hb : b = a
      · exact .inr ⟨_, _, if_pos hb⟩
      · exact .inl (if_neg hb)
    · by_cases hb : b = a
      · have z' := (if_pos hb).symm.trans z
        cases z'
        subst hb
        exact ⟨ha, by rw [List.length_map]; exact hl, vs, _, rv, ha⟩
      · have z' := (if_neg hb).symm.trans z
        cases z'
    · by_cases hb : b = a
      · exact hb
      · exact absurd (if_neg hb) z
end L2

namespace L2
open PySem PySem.Spec PyProof.Rows

abbrev KOf {K : PySem.W.Frag} {h : Heap} (_ : K.In h) : PySem.W.Frag := K

/-- the goal that k_head leaves (case hc), from the law's promise. F gives the function object fd (K's own) once, then the promise over every base -/
theorem walk_of {l : PySem.W.OpenLaw} {n k : Nat} {q : Program} {loose : List Str} {XP : (Str → Option Value) → Heap → Prop} {YP : World → Heap → Prop} {d : DefRec} {K : Params → PySem.W.Frag} {CX : World → CXT} {sp : World → Sp} {x : Str}
    (hn : l.most = some n) (hn2 : n ≤ sizeLine) (hdf : d.params.defaults = []) (hr : Room k callerA)
    (hY : ∀ (w : World) (h : Heap), YP w h → (K w.params).In h)
    (F : ∀ (w : World) (mg : Str → Option Value) (fa : Addr) (h : Heap), (K w.params).In h → h.Ns mainGlobals mg → mg d.name = some (.ref fa) →
      ∃ fd : FuncData, (∀ (s : Shared) (u : Value), BindsTo s fd ⟨[u], []⟩ [(x, u)]) ∧
        ∀ base : Heap, (K w.params).In base → base.Ns mainGlobals mg → FnOk l.prog w (K w.params) mg base (CX w) k fa fd [x] (sp w))
    (hsp : ∀ (w : World) (H : Hp) (a : Addr) (ns : List Int), ns.length ≤ n → Only H → SqL (K w.params) H a (ns.map V.int) → sp w [.ref a] H (fun v _ => v = .bl true) fun _ _ _ => False)
    (hCX : ∀ (w : World) (H : Hp) (s : Shared) (e : Value) (s' : Shared), CX w [] H s (fun _ _ _ => False) e s' → False) :
    PySem.W.WalkO q loose XP YP l.row.toRowW d [] (fun f vs => PySem.call f vs) := by
  refine Att.attach_call hn hdf fun w s₀ s₁ mg mb fa o pm cd doc a vs ns G Y ho hd hcd hmg hobj hints hlen hg => ?_
  have KX := hY w _ Y
  obtain ⟨fd, hb, hF⟩ := F w mg fa _ KX G.T.g hmg
  exact law_call KX G.T.g G.T.b G.T.builtins G.T.nolimit hg hobj hints (Nat.le_trans hlen hn2) hr hF hb (fun H hO hS => hsp w H a ns hlen hO hS) fun H e s' => hCX w H s₁ e s'
/-- the same where the promise hangs on the written part alone: (sp := My.sp_law), no hole under a binder -/
theorem walk_ofK {l : PySem.W.OpenLaw} {n k : Nat} {q : Program} {loose : List Str} {XP : (Str → Option Value) → Heap → Prop} {YP : World → Heap → Prop} {d : DefRec} {K : Params → PySem.W.Frag} {CX : CXT} {sp : PySem.W.Frag → Sp} {x : Str}
    (hn : l.most = some n) (hn2 : n ≤ sizeLine) (hdf : d.params.defaults = []) (hr : Room k callerA)
    (hY : ∀ (w : World) (h : Heap), YP w h → (K w.params).In h)
    (F : ∀ (w : World) (mg : Str → Option Value) (fa : Addr) (h : Heap), (K w.params).In h → h.Ns mainGlobals mg → mg d.name = some (.ref fa) →
      ∃ fd : FuncData, (∀ (s : Shared) (u : Value), BindsTo s fd ⟨[u], []⟩ [(x, u)]) ∧
        ∀ base : Heap, (K w.params).In base → base.Ns mainGlobals mg → FnOk l.prog w (K w.params) mg base CX k fa fd [x] (sp (K w.params)))
    (hsp : ∀ (K : PySem.W.Frag) (H : Hp) (a : Addr) (ns : List Int), ns.length ≤ n → Only H → SqL K H a (ns.map V.int) → sp K [.ref a] H (fun v _ => v = .bl true) fun _ _ _ => False)
    (hCX : ∀ (H : Hp) (s : Shared) (e : Value) (s' : Shared), CX [] H s (fun _ _ _ => False) e s' → False) :
    PySem.W.WalkO q loose XP YP l.row.toRowW d [] (fun f vs => PySem.call f vs) :=
  walk_of (K := K) (CX := fun _ => CX) (sp := fun w => sp (K w.params)) hn hn2 hdf hr hY F (fun w H a ns h1 h2 h3 => hsp (K w.params) H a ns h1 h2 h3) fun _ H s e s' => hCX H s e s'
end L2

/- THE LAST THEOREM (shape; LID, My.* are yours):
   My.Adr: a structure of the addresses that your layer names (classes, functions); My.Txt K t: a structure (Prop) of the equations over K;
   My.txt_mk : {K} {implicit addresses ..} (e1 : nsIn K mainGlobals "law" = some (some (.ref f))) (e2 : K.lookup f = some ⟨oc, od, .func (fnOf "law" "law" params body scope dV kV doc pm an cdv ct), sl⟩) (e3 : codeIn K cdv "law" = true) .. : ∃ t, My.Txt K t

set_option maxRecDepth 100000 in
set_option maxHeartbeats 0 in
theorem PySem.Challenge.cw_LID_holds : PySem.Challenge.rw_LID.Holds := by
  w_on; o_law; k_head; (case hw => w_witness2)
  k_fill
  refine L2.walk_of (l := PySem.Challenge.rw_LID) (n := 63) (k := 40) (x := "script") (CX := fun w => ..) (sp := fun _ => My.sp_law) rfl (by decide) rfl ⟨rfl, by decide, by decide⟩ (fun w h Y => PySem.W.kIn_of Y) ?F ?S ?C
  case F =>
    intro w mg fa h KX G hmg
    have T : ∃ t, My.Txt (L2.KOf KX) t := by
      dsimp only [L2.KOf]                          -- K must stand as «<heap const> w.params» for k_is
      refine' My.txt_mk ?e1 ?e2 ?e3 ..
      (case e1 => PySem.W.k_is)                    -- in the order: a name -> its address -> its object -> its parts
      (case e2 => PySem.W.k_is)
      ..
    obtain ⟨t, T⟩ := T
    have e0 := hmg.symm.trans (PySem.W.mg_of KX G T.law)
    cases e0                                       -- fa is the law's own address
    exact ⟨_, fun s u => .of_eq rfl, fun base kb nb => My.law_fn T kb nb⟩     -- if «.of_eq rfl» comes too early: refine' ⟨_, ?b, fun base kb nb => My.law_fn T kb nb⟩; exact fun s u => .of_eq rfl
  case S => exact fun w H a ns hl hO hS => ..
  case C => exact ..
(the tactic k_is has no namespace: write k_is) -/

/-! SHORT WORDS over the layer: a def of the text, its body, what a loop and a test want. -/
namespace L2
open PySem PySem.Spec PyProof.Rows

/-! ### the text by places -/
/-- the j-th statement of a class's body -/
def inClass (s : Stmt) (j : Nat) : Stmt := match s with
  | .ClassDef _ _ _ body _ _ _ _ _ _ _ => body.getD j (.Pass ⟨0, 0, 0, 0⟩)
  | _ => .Pass ⟨0, 0, 0, 0⟩
def defArgs (s : Stmt) : Arguments := match s with
  | .FunctionDef _ a _ _ _ _ _ _ _ _ => a
  | _ => { posonlyargs := [], args := [], vararg := none, kwonlyargs := [], kw_defaults := [], kwarg := none, defaults := [] }
def defBody (s : Stmt) : List Stmt := match s with
  | .FunctionDef _ _ b _ _ _ _ _ _ _ => b
  | _ => []
def defScope (s : Stmt) : Scope := match s with
  | .FunctionDef _ _ _ _ _ _ sc _ _ _ => sc
  | _ => { kind := .function, names := [], isGenerator := false, isCoroutine := false }

/-! ### no exception leaves a def -/
abbrev CX0 : CXT := fun _ _ _ _ _ _ => False
abbrev E0 : XK := fun _ _ _ => False
theorem pass0 {X : Cx} : Passes CX0 X E0 := fun _ _ _ _ _ _ _ h => h.elim

/-! ### a def (or method) of the text as it stands behind the top -/
structure Fun (K : PySem.W.Frag) (x qual : Str) (st : Stmt) (f : Addr) (fd : FuncData) : Prop where
  ex : ∃ (oc : Value) (od : Option Addr) (kV doc pm : Value) (an : Option Addr) (cdv ct : Value) (osl : Array (Option Value)),
    fd = PySem.W.fnOf x qual (defArgs st) (defBody st) (defScope st) .none kV doc pm an cdv ct ∧ K.lookup f = some ⟨oc, od, .func fd, osl⟩ ∧ PySem.W.codeIn K cdv qual = true
  kp : PySem.W.keepIn K (.ref f) = true
section
variable {P : Program} {w : World} {K : PySem.W.Frag} {mg : Str → Option Value} {base : Heap}
/-- THE RULE for a def: its body as a term of rules, and the reading of that term -/
theorem Fun.ok {x qual : Str} {st : Stmt} {f : Addr} {fd : FuncData} {N ps : List Str} {k : Nat} {sp : Sp} (F : Fun K x qual st f fd) (S : FnScope N ps (defScope st)) (len : ∀ vs H Q E, sp vs H Q E → vs.length = ps.length)
    (hbody : ∀ (cdv : Value) (A : Around) (outer : List Env) (s : Shared) (H : Hp) (vs : List V) (Q : VK) (E : XK), Room k (A.deeper (envOfC qual (defScope st) s.heap.objs.size f cdv)) → sp vs H Q E →
      ∃ t, PSs (cxOf CX0 P w K mg base N qual (defScope st) f cdv A outer s H E).nox (defBody st) t ∧ t { nx := fun _ H' => Q .non H', rt := Q } (start N vs) H) : FnOk P w K mg base CX0 (k + 1) f fd ps sp := by
  obtain ⟨oc, od, kV, doc, pm, an, cdv, ct, osl, rfl, lk, hcd⟩ := F.ex
  refine fn_of lk hcd S len fun A outer s H vs Q E hr hsp => ?_
  obtain ⟨t, h, q⟩ := hbody cdv A outer s H vs Q E hr hsp
  exact ⟨t, h.nox, q⟩
/-- how its arguments bind (no defaults): h is «fun _ _ _ _ _ _ us hl => match us, hl with | [_, _], _ => rfl», one _ a parameter -/
theorem Fun.binds {x qual : Str} {st : Stmt} {f : Addr} {fd : FuncData} {ps : List Str} (F : Fun K x qual st f fd)
    (h : ∀ (kV doc pm : Value) (an : Option Addr) (cdv ct : Value) (us : List Value), us.length = ps.length → bindArgs (PySem.W.fnOf x qual (defArgs st) (defBody st) (defScope st) .none kV doc pm an cdv ct) ⟨us, []⟩ = pure (ps.zip us)) : Binds K fd ps [] := by
  obtain ⟨oc, od, kV, doc, pm, an, cdv, ct, osl, rfl, lk, hcd⟩ := F.ex
  exact .all (h kV doc pm an cdv ct)
theorem fun_mk {x qual : Str} {st : Stmt} {f : Addr} {oc : Value} {od an : Option Addr} {osl : Array (Option Value)} {kV doc pm cdv ct : Value} (l : K.lookup f = some ⟨oc, od, .func (PySem.W.fnOf x qual (defArgs st) (defBody st) (defScope st) .none kV doc pm an cdv ct), osl⟩)
    (c : PySem.W.codeIn K cdv qual = true) (k : PySem.W.keepIn K (.ref f) = true) : Fun K x qual st f (PySem.W.fnOf x qual (defArgs st) (defBody st) (defScope st) .none kV doc pm an cdv ct) := ⟨⟨oc, od, kV, doc, pm, an, cdv, ct, osl, rfl, l, c⟩, k⟩
end
theorem hu_of {A : Around} {k : Nat} (hr : Room k A) : A.units + 1 < cLine := Nat.lt_of_le_of_lt (Nat.add_le_add_left (by decide : 1 ≤ 64) _) hr.units
theorem small1000 {n : Nat} (h : n ≤ 1000) : n < sizeLine := Nat.lt_of_le_of_lt h (by decide)

/-! ### expressions in short: the name that stands in the i-th slot -/
section
variable {X : Cx}
theorem pv (i : Nat) {x : Str} {pos : Pos} (hN : X.N[i]? = some x := by rfl) (hv : Vis X.env.scope x := by first | exact Or.inl rfl | exact Or.inr (Or.inl rfl) | exact Or.inr (Or.inr rfl)) (hd : (x == ("__debug__" : Str)) = false := by decide)
    (hcd : (x == ("__classdict__" : Str)) = false := by decide) : PE X (.Name x pos) (tVar i) := pe_var hN hv hd hcd
end

/-! ### tests -/
theorem iteF {A B : Prop} (h : B) : if false = true then A else B := by
  rw [if_neg Bool.false_ne_true]
  exact h
theorem iteT {A B : Prop} (h : A) : if true = true then A else B := by
  rw [if_pos rfl]
  exact h
theorem ite2 {c A B : Prop} [Decidable c] (h1 : c → A) (h2 : ¬ c → B) : if c then A else B := by
  by_cases h : c
  · rw [if_pos h]
    exact h1 h
  · rw [if_neg h]
    exact h2 h
/-! ### heaps -/
/-- all that was tracked is as it was -/
def Same (H H' : Hp) : Prop := ∀ b o, H b = some o → H' b = some o
theorem Same.refl (H : Hp) : Same H H := fun _ _ h => h
theorem Same.trans {H H1 H2 : Hp} (a : Same H H1) (b : Same H1 H2) : Same H H2 := fun c o h => b c o (a c o h)
end L2

set_option linter.all false
namespace L2
open PySem

/-- what a block closes over -/
theorem closure_of {scope : Scope} {env : Env} (h : ∀ x, (x, NameKind.free) ∈ scope.names → ∃ c, env.cells.lookup x = some c) :
    ∃ cl, closureFor scope env = pure cl ∧ (∀ x c, cl.lookup x = some c → env.cells.lookup x = some c) ∧ ∀ x, (x, NameKind.free) ∈ scope.names → ∃ c, cl.lookup x = some c := by
  have all : ∀ (ns : List (Str × NameKind)) (cs : List (Str × Addr)), (∀ x, (x, NameKind.free) ∈ ns → ∃ c, env.cells.lookup x = some c) → (∀ x c, cs.lookup x = some c → env.cells.lookup x = some c) →
      ∃ cl, (forIn ns cs (fun (q : Str × NameKind) r => if (q.2 == NameKind.free) = true then (cellOf env q.1 >>= fun a => pure (ForInStep.yield ((q.1, a) :: r))) else pure (ForInStep.yield r)) : Sem (List (Str × Addr))) = pure cl ∧
        (∀ x c, cl.lookup x = some c → env.cells.lookup x = some c) ∧ (∀ x, (x, NameKind.free) ∈ ns → ∃ c, cl.lookup x = some c) ∧ ∀ x, (∃ c, cs.lookup x = some c) → ∃ c, cl.lookup x = some c := by
    intro ns
    induction ns with
    | nil => intro cs _ hc; exact ⟨cs, rfl, hc, fun x z => absurd z (by simp), fun x z => z⟩
    | cons q r ih =>
      intro cs hn hc
      obtain ⟨x, k⟩ := q
      rw [List.forIn_cons]
      by_cases hk : k = NameKind.free
      · subst hk
        obtain ⟨c, hx⟩ := hn x List.mem_cons_self
        obtain ⟨cl, e, h1, h2, h3⟩ := ih ((x, c) :: cs) (fun y z => hn y (List.mem_cons_of_mem _ z)) (fun y d z => by
          rw [List.lookup_cons] at z
          cases q : y == x with
          | true => rw [q] at z; cases z; rw [eq_of_beq q]; exact hx
          | false => rw [q] at z; exact hc y d z)
        refine ⟨cl, ?_, h1, fun y z => ?_, fun y z => ?_⟩
        · simp only [cellOf, hx, beq_self_eq_true, if_true, pure_bind]
          exact e
        · rcases List.mem_cons.mp z with z | z
          · have : y = x := congrArg Prod.fst z
            subst this
            exact h3 y ⟨c, by simp [List.lookup_cons]⟩
          · exact h2 y z
        · obtain ⟨d, z⟩ := z
          refine h3 y ?_
          rw [List.lookup_cons]
          cases q : y == x with
          | true => exact ⟨c, rfl⟩
          | false => exact ⟨d, z⟩
      · have hb : (k == NameKind.free) = false := by simpa using hk
        obtain ⟨cl, e, h1, h2, h3⟩ := ih cs (fun y z => hn y (List.mem_cons_of_mem _ z)) hc
        refine ⟨cl, ?_, h1, fun y z => ?_, h3⟩
        · simp only [hb, Bool.false_eq_true, if_false, pure_bind]
          exact e
        · rcases List.mem_cons.mp z with z | z
          · exact absurd (congrArg Prod.snd z).symm hk
          · exact h2 y z
  obtain ⟨cl, e, h1, h2, _⟩ := all scope.names [] h (fun x c z => by simp at z)
  refine ⟨cl, ?_, h1, h2⟩
  show (forIn scope.names [] _ >>= fun cs => pure cs) = pure cl
  rw [bind_pure]
  exact e

/-- a name that is no local of the block is free in it -/
theorem relabel_free {scope : Scope} {env : Env} (hc : ∀ y ∈ scope.names, y.2 ≠ .cell) {x : Str} (h : (relabel scope env).names.lookup x = some .cell ∨ (relabel scope env).names.lookup x = some .free) : (x, NameKind.free) ∈ scope.names := by
  have all : ∀ (ns : List (Str × NameKind)), (∀ y ∈ ns, y.2 ≠ .cell) →
      ((ns.map fun (n, k) => if (k == NameKind.free && env.scope.kind == .function && env.kindOf n == some .cell) then (n, NameKind.cell) else (n, k)).lookup x = some .cell ∨
       (ns.map fun (n, k) => if (k == NameKind.free && env.scope.kind == .function && env.kindOf n == some .cell) then (n, NameKind.cell) else (n, k)).lookup x = some .free) → (x, NameKind.free) ∈ ns := by
    intro ns
    induction ns with
    | nil => intro _ z; simp at z
    | cons q r ih =>
      intro hn z
      obtain ⟨n, k⟩ := q
      have ih' := ih (fun y hy => hn y (List.mem_cons_of_mem _ hy))
      have hk := hn (n, k) List.mem_cons_self
      simp only [List.map_cons] at z
      by_cases hcd : (k == NameKind.free && env.scope.kind == .function && env.kindOf n == some .cell) = true
      · have kf : k = NameKind.free := by
          have := (Bool.and_eq_true _ _ ▸ hcd)
          simp only [Bool.and_eq_true] at hcd
          exact eq_of_beq hcd.1.1
        simp only [hcd, if_true, List.lookup_cons] at z
        cases e : x == n with
        | true => rw [eq_of_beq e, kf]; exact List.mem_cons_self
        | false => rw [e] at z; exact List.mem_cons_of_mem _ (ih' z)
      · simp only [hcd, Bool.false_eq_true, if_false, List.lookup_cons] at z
        cases e : x == n with
        | true =>
          rw [e] at z
          rcases z with z | z
          · exact absurd (Option.some.inj z) hk
          · rw [eq_of_beq e, Option.some.inj z]; exact List.mem_cons_self
        | false => rw [e] at z; exact List.mem_cons_of_mem _ (ih' z)
  exact all scope.names hc h

section
variable {prog : Program} {w : World} {A : Around} {R : Result → Shared → Prop} {s : Shared}
/-- the tests of a block -/
abbrev ifsOf (ifs : List Expr) (env : Env) : Sem Bool := forIn ifs true fun c r => if r = true then do let ok ← isTrue c env (eval c env); pure (ForInStep.yield ok) else pure (ForInStep.yield r)
/-- the block's loop, nothing raised in it -/
theorem blk_loop {elt target iter : Expr} {ifs : List Expr} {scope : Scope} {pos : Pos} {it acc : Value} {env : Env} (I : Nat → Shared → Prop)
    (turn : ∀ n s, I n s → wpAny (model prog w) A (pyNext it) (fun r s1 => match r with
      | none => R (.ok .next) s1
      | some v => wpAny (model prog w) A (letOwnedTupleGo target it v) (fun _ s2 => wpAny (model prog w) A (assign target env v) (fun _ s3 => wpAny (model prog w) A (ifsOf ifs env) (fun ok s4 =>
          if ok = true then wpAny (model prog w) A (eval elt env) (fun x s5 => wpAny (model prog w) A (call (.builtin "list.append") [acc, x]) (fun _ s6 => ∃ m, m < n ∧ I m s6) (fun _ _ => False) s5) (fun _ _ => False) s4
          else ∃ m, m < n ∧ I m s4) (fun _ _ => False) s3) (fun _ _ => False) s2) (fun _ _ => False) s1) (fun _ _ => False) s)
    (n : Nat) (h : I n s) : codeAny (model prog w) A (.compLoop (.ListComp elt [⟨target, iter, ifs, 0⟩] scope pos) 0 it acc env) R s := by
  refine codeAny_loop rfl I (fun n s hI => ?_) n h
  have core : wpAny (model prog w) A (compTurn (.ListComp elt [⟨target, iter, ifs, 0⟩] scope pos) 0 it acc env)
      (fun fin s' => match fin with | .done f => R (.ok f) s' | .again c' => c' = .compLoop (.ListComp elt [⟨target, iter, ifs, 0⟩] scope pos) 0 it acc env ∧ ∃ m, m < n ∧ I m s') (fun _ _ => False) s := by
    rw [compTurn_list]
    refine wpAny_bind (wpAny_standAt (wpAny_bind (wpAny_mono (turn n s hI) (fun r s1 h1 => ?_) fun _ _ e => e)))
    cases r with
    | none => exact wpAny_pure h1
    | some v =>
      refine wpAny_bind (wpAny_mono h1 (fun _ s2 h2 => ?_) fun _ _ e => e)
      refine wpAny_bind (wpAny_mono h2 (fun _ s3 h3 => wpAny_bind (wpAny_mono h3 (fun ok s4 h4 => ?_) fun _ _ e => e)) fun _ _ e => e)
      cases ok with
      | false => exact wpAny_pure ⟨rfl, h4⟩
      | true =>
        exact wpAny_bind (wpAny_bind (wpAny_mono h4 (fun x s5 h5 => wpAny_bind (wpAny_mono h5 (fun _ s6 h6 => wpAny_pure (wpAny_pure ⟨rfl, h6⟩)) fun _ _ e => e)) fun _ _ e => e))
  show wpAny _ A ((compTurn (.ListComp elt [⟨target, iter, ifs, 0⟩] scope pos) 0 it acc env).onRaise (fun x => do noteFrame x env; theTreesLotGoes x)) _ _ s
  exact wpAny_noted (wpAny_mono core (fun _ _ q => q) fun _ _ e => e.elim)
end
end L2

set_option linter.all false
set_option maxHeartbeats 4000000
set_option maxRecDepth 100000
namespace L2
open PySem PySem.Spec PyProof.Rows

/-! ### comprehensions -/
/-- the block's names: its own, then those that it closes over, by their places in the def -/
def capN (N : List Str) (own : List Str) (cap : List Nat) : List Str := own ++ cap.map fun j => N.getD j Str.empty
def capS (own : List Str) (cap : List Nat) (σ : St) : St := own.map (fun _ => (none : Option V)) ++ cap.map fun j => (σ[j]?).getD none
/-- σ' knows what σ knows -/
structure Wk (σ σ' : St) : Prop where
  len : σ'.length = σ.length
  val : ∀ (i : Nat) v, σ[i]? = some (some v) → σ'[i]? = some (some v)
theorem Wk.set {σ : St} {i : Nat} {x : V} (h : σ[i]? = some none) : Wk σ (σ.set i (some x)) := by
  refine ⟨by simp, fun j v e => ?_⟩
  by_cases ij : i = j
  · subst ij; rw [h] at e; cases e
  · rw [List.getElem?_set_ne ij]; exact e

structure Blk (esc : Scope) (N : List Str) (scope : Scope) (own : List Str) (cap : List Nat) : Prop where
  kind : scope.kind = .function
  nocell : ∀ y ∈ scope.names, y.2 ≠ .cell
  names : ∀ y ∈ scope.names, y.2 = .local → scope.names.lookup y.1 = some .local
  free : ∀ y ∈ scope.names, y.2 = .free → esc.names.lookup y.1 = some .cell ∨ esc.names.lookup y.1 = some .free
  capf : ∀ j ∈ cap, scope.names.lookup (N.getD j Str.empty) = some .free

abbrev Cx.blk (X : Cx) (scope : Scope) (cl : List (Str × Addr)) (C : Addr) (N' : List Str) (s2 : Shared) (H2 : Hp) (ex : List Addr) : Cx where
  prog := X.prog
  w := X.w
  K := X.K
  mg := X.mg
  base := X.base
  A := X.A
  N := N'
  s₀ := s2
  H₀ := H2
  env := compEnvC scope cl C X.env
  outer := X.stack
  stack := X.stack
  ex := ex
  fn := fun _ => false
  calm := X.calm
  pn := []
  xe := fun _ _ => False

theorem lookup_relabel_free {env : Env} : ∀ {names : List (Str × NameKind)} {x : Str}, names.lookup x = some .free →
    (names.map fun (n, k) => if (k == NameKind.free && env.scope.kind == .function && env.kindOf n == some .cell) then (n, NameKind.cell) else (n, k)).lookup x = some .cell ∨
    (names.map fun (n, k) => if (k == NameKind.free && env.scope.kind == .function && env.kindOf n == some .cell) then (n, NameKind.cell) else (n, k)).lookup x = some .free
  | [], _, h => by simp at h
  | (n, k) :: r, x, h => by
    have ih := @lookup_relabel_free env r x
    simp only [List.map_cons]
    rw [List.lookup_cons] at h
    by_cases hc : (k == NameKind.free && env.scope.kind == .function && env.kindOf n == some .cell) = true
    · simp only [hc, if_true, List.lookup_cons]
      cases e : x == n with
      | true => exact .inl rfl
      | false => rw [e] at h; exact ih h
    · simp only [hc, Bool.false_eq_true, if_false, List.lookup_cons]
      cases e : x == n with
      | true => rw [e] at h; exact .inr h
      | false => rw [e] at h; exact ih h

section
variable {X : Cx} {pins : List (Addr × Obj)} {σ : St} {H2 : Hp} {s2 : Shared} {scope : Scope} {own : List Str} {cap : List Nat} {cl : List (Str × Addr)} {fp : List Addr} {C : Addr}

theorem blk_ok (B : Blk X.env.scope X.N scope own cap) (I2 : Inv X pins σ H2 s2) (f2 : ∀ b ∈ fp, FpOk X pins H2 b) (fl : ∀ b ∈ fp, b < s2.heap.objs.size) (hC : s2.heap.objs.size ≤ C)
    (h1 : ∀ x c, cl.lookup x = some c → X.env.cells.lookup x = some c) (h2 : ∀ x, (x, NameKind.free) ∈ scope.names → ∃ c, cl.lookup x = some c) : (X.blk scope cl C (capN X.N own cap) s2 H2 fp).Ok where
  mod := I2.ok.mod
  kind := B.kind
  glob := I2.ok.glob
  blt := I2.ok.blt
  above := hC
  inj := fun x y c e1 e2 => I2.ok.inj x y c (h1 x c e1) (h1 y c e2)
  has := fun x hx => h2 x (relabel_free B.nocell hx)
  cab := fun x c hx => absurd hx Bool.false_ne_true
  hd := I2.ok.hd
  frames := I2.ok.frames
  stk := .inl rfl
  exf := fun b hb => ⟨Nat.ne_of_lt (Nat.lt_of_lt_of_le (fl b hb) hC), fun x c e => (f2 b hb).2.2.2.2.1 x c (h1 x c e)⟩
  bs := I2.bs
  bsz := Nat.le_trans I2.ok.bsz I2.sz
  noex := fun b o e hb => by
    rcases (f2 b hb).2.2.2.1 with z | z
    · exact I2.ok.noex b o e z
    · exact absurd (Nat.lt_of_lt_of_le (Heap.lt_size e) (Nat.le_trans I2.ok.bsz z)) (Nat.lt_irrefl _)
  exfs := fun b hb hz => by
    rcases List.mem_cons.mp (I2.stkSub b hz) with z | z
    · exact (f2 b hb).2.1 z
    · exact (f2 b hb).2.2.1 z
  funs := I2.stack
  frf := I2.stkFree

/-- the block begins -/
theorem blk_start {h4 : Heap} {tk : Nat} {m : Str → Option Value} {D : Addr} {o : Obj} (B : Blk X.env.scope X.N scope own cap) (I2 : Inv X pins σ H2 s2) (f2 : ∀ b ∈ fp, FpOk X pins H2 b) (fl : ∀ b ∈ fp, b < s2.heap.objs.size) (hC : s2.heap.objs.size ≤ C)
    (h1 : ∀ x c, cl.lookup x = some c → X.env.cells.lookup x = some c) (h2 : ∀ x, (x, NameKind.free) ∈ scope.names → ∃ c, cl.lookup x = some c)
    (kp : ∀ b o, s2.heap.get? b = some o → h4.get? b = some o) (hn : h4.Ns C m) (hD : h4.get? D = some o) (hDs : s2.heap.objs.size ≤ D) (hDC : D ≠ C) (hod : ∀ v, o.data ≠ .cell v) :
    Inv (X.blk scope cl C (capN X.N own cap) s2 H2 fp) [(D, o)] (capS own cap σ) H2 { s2 with heap := h4, toks := tk } where
  ok := blk_ok B I2 f2 fl hC h1 h2
  os := rfl
  bare := I2.bare
  base := Un.kept kp
  loc := by
    refine ⟨m, hn, fun i x v e1 e2 _ => ?_⟩
    have e1 : (capN X.N own cap)[i]? = some x := e1
    unfold capS at e2
    unfold capN at e1
    by_cases hi : i < own.length
    · rw [List.getElem?_append_left (by simpa using hi), List.getElem?_map] at e2
      cases q : own[i]? with
      | none => rw [q] at e2; cases e2
      | some y => rw [q] at e2; cases e2
    · rw [List.getElem?_append_right (by simpa using hi), List.getElem?_map, List.length_map] at e2
      rw [List.getElem?_append_right (by omega), List.getElem?_map] at e1
      cases q : cap[i - own.length]? with
      | none => rw [q] at e2; cases e2
      | some j =>
        rw [q] at e1 e2
        have hx : X.N.getD j Str.empty = x := Option.some.inj e1
        have hv : (σ[j]?).getD none = some v := Option.some.inj e2
        have hσ : σ[j]? = some (some v) := by
          cases z : σ[j]? with
          | none => rw [z] at hv; cases hv
          | some y => rw [z] at hv; exact congrArg some hv
        have hj : j < X.N.length := by rw [← I2.len]; exact (List.getElem?_eq_some_iff.mp hσ).1
        have hNj : X.N[j]? = some x := by
          rw [← hx, List.getD_eq_getElem?_getD, List.getElem?_eq_getElem hj]; rfl
        have hf := B.capf j (List.mem_of_getElem? q)
        rw [hx] at hf
        have hk := B.free (x, .free) (mem_of_lookup hf) rfl
        obtain ⟨m2, _, hl⟩ := I2.loc
        obtain ⟨u, r, lk⟩ := hl j x v hNj hσ (.inr hk)
        refine ⟨u, r, .inr ⟨lookup_relabel_free hf, ?_⟩⟩
        rcases lk with ⟨z, _⟩ | ⟨_, c, ec, ic⟩
        · have z' : X.env.scope.names.lookup x = some .local := z
          rcases hk with q | q <;> (rw [z'] at q; cases q)
        · obtain ⟨c', e'⟩ := h2 x (mem_of_lookup hf)
          have e'' := h1 x c' e'
          rw [ec] at e''
          cases e''
          obtain ⟨oc, hoc, hd⟩ := ic
          exact ⟨c, e', oc, kp _ _ hoc, hd⟩
  cell := fun x c e => by
    obtain ⟨v, oc, hoc, hd⟩ := I2.cell x c (h1 x c e)
    exact ⟨v, oc, kp _ _ hoc, hd⟩
  free := I2.hok.fresh hC
  freeC := fun x c e => I2.freeC x c (h1 x c e)
  pin := fun p hp => by
    have e : p = (D, o) := by simpa using hp
    subst e
    exact ⟨hD, I2.hok.fresh hDs, hDC, fun hz => by
      obtain ⟨_, q, hq, _⟩ := I2.stack.mem hz
      exact absurd (Nat.lt_of_lt_of_le (Heap.lt_size hq) hDs) (Nat.lt_irrefl _), hod⟩
  hok := I2.hok.kept kp
  len := by
    show (capS own cap σ).length = (capN X.N own cap).length
    unfold capS capN
    simp

/-- the tests of a block -/
def PIf (X : Cx) (ifs : List Expr) (t : TT) : Prop :=
  ∀ (pins : List (Addr × Obj)) (s : Shared) (σ : St) (H : Hp) (Q : Bool → Hp → Prop), Inv X pins σ H s → t σ H Q → wpAny (model X.prog X.w) X.A (ifsOf ifs X.env) (TP X pins σ Q) X.xe s
def tYes : TT := fun _ H Q => Q true H
theorem pif_nil : PIf X [] tYes := fun _ _ _ H _ I h => wpAny_tests_nil ⟨H, I, h⟩
theorem pif_one {c : Expr} {t : TT} (h : PT X c t) : PIf X [c] t := fun pins s σ H Q I q => wpAny_tests_one (h pins s σ H Q I q)

/-- what a block is to do: W: by the turn, a measure, what was gathered, the heap -/
def tBlk (own : List Str) (cap : List Nat) (g : TG) (tt : TT) (te : TE) (σ : St) (Z : List V → Hp → Prop) (J : It) (H1 : Hp) : Prop :=
  ∃ W : Nat → Nat → List V → Hp → Prop, (∃ m, W 0 m [] H1) ∧ ∀ i m acc H2, W i m acc H2 → acc.length < sizeLine ∧
    ((J.stop i H2 ∧ Z acc H2) ∨
     (J.go i H2 ∧ ∀ x H3, J.yld i H2 x H3 → g x (capS own cap σ) H3 fun σ4 H4 => Wk (capS own cap σ) σ4 ∧ tt σ4 H4 fun b H5 =>
        if b = true then te σ4 H5 fun v H6 => ∃ m', m' < m ∧ W (i + 1) m' (acc ++ [v]) H6 else ∃ m', m' < m ∧ W (i + 1) m' acc H5))

theorem blk_run {tg elt iter : Expr} {ifs : List Expr} {pos : Pos} {g : TG} {tt : TT} {te : TE} {J : It} {it : Addr} {tn : Nat → Heap → Prop} {Z : List V → Hp → Prop} {E : Value → Shared → Prop} {RR : Value → Addr → Result → Shared → Prop}
    (hc : X.calm = true) (B : Blk X.env.scope X.N scope own cap) (I2 : Inv X pins σ H2 s2) (T : Turn X.prog X.w X.K tg J fp it tn) (st2 : tn 0 s2.heap) (f2 : ∀ b ∈ fp, FpOk X pins H2 b)
    (h1 : ∀ x c, cl.lookup x = some c → X.env.cells.lookup x = some c) (h2 : ∀ x, (x, NameKind.free) ∈ scope.names → ∃ c, cl.lookup x = some c)
    (hg : ∀ cl C s2 H2 ex, PG (X.blk scope cl C (capN X.N own cap) s2 H2 ex) tg g) (ht : ∀ cl C s2 H2 ex, PIf (X.blk scope cl C (capN X.N own cap) s2 H2 ex) ifs tt) (he : ∀ cl C s2 H2 ex, PE (X.blk scope cl C (capN X.N own cap) s2 H2 ex) elt te)
    (w : tBlk own cap g tt te σ Z J H2)
    (hRR : ∀ (D C : Addr) (acc : List V) (H' : Hp) (s' : Shared), Inv X pins σ (upd H' D (.lst acc)) s' → D ≠ C → H' D = none → H' C = none → (∃ m, s'.heap.Ns C m) →
      (∀ σ'' H'' s'' h', Inv X pins σ'' H'' s'' → H'' C = none → Heap.SameBut C s''.heap h' → Inv X pins σ'' H'' { s'' with heap := h' }) → (∀ x c, X.env.cells.lookup x = some c → c ≠ C) → C ≠ X.env.locals → Z acc H' → RR (.ref D) C (.ok .next) s') :
    wpAny (model X.prog X.w) X.A (newList []) (fun acc s3 => wpAny (model X.prog X.w) X.A (newFunctionEnv scope X.env.globals cl [] X.env.qual none .none (some X.env)) (fun cenv s4 =>
      codeAny (model X.prog X.w) X.A (.compStart (.ListComp elt [⟨tg, iter, ifs, 0⟩] scope pos) 0 (.ref it) acc { cenv with scope := relabel scope X.env }) (RR acc cenv.locals) s4) E s3) E s2 := by
  obtain ⟨W, ⟨m0, w0⟩, turn⟩ := w
  have fl : ∀ b ∈ fp, b < s2.heap.objs.size := fun b hb => by obtain ⟨o, ho, _⟩ := T.obj 0 _ st2 b hb; exact Heap.lt_size ho
  refine wpAny_newObj_type (wpAny_newFunctionEnv B.nocell (by intro y hy; simp at hy) (fun h4 hns hsb => ?_) B.kind)
  dsimp only at hns hsb ⊢
  generalize hH3 : s2.heap.push { cls := .type "list", dict := none, data := .seq ([] : List Value).toArray } = H3 at hns hsb ⊢
  have hCs : H3.objs.size = s2.heap.objs.size + 1 := by rw [← hH3, Heap.size_push]
  have hDC : s2.heap.objs.size ≠ H3.objs.size := by rw [hCs]; exact Nat.ne_of_lt (Nat.lt_succ_self _)
  have hC : s2.heap.objs.size ≤ H3.objs.size := by rw [hCs]; exact Nat.le_succ _
  have kp : ∀ b o, s2.heap.get? b = some o → h4.get? b = some o := fun b o e => hsb.extBut b o (Nat.ne_of_lt (Nat.lt_of_lt_of_le (Heap.lt_size e) hC)) (Heap.get?_push_of_some _ (hH3 ▸ Heap.get?_push_of_some _ e))
  have hD4 : h4.get? s2.heap.objs.size = some { cls := .type "list", data := .seq ([] : List Value).toArray 0 } := hsb.extBut _ _ hDC (Heap.get?_push_of_some _ (hH3 ▸ Heap.get?_push_size _ rfl))
  generalize hCe : H3.objs.size = C at hns hsb hCs hDC hC ⊢
  generalize hDe : s2.heap.objs.size = D at hD4 hDC ⊢
  have hDs : s2.heap.objs.size ≤ D := Nat.le_of_eq hDe
  have flD : ∀ b ∈ fp, b ≠ D := fun b hb z => by have := fl b hb; rw [z, hDe] at this; exact Nat.lt_irrefl _ this
  have celD : ∀ x c, cl.lookup x = some c → c ≠ D := fun x c e z => by
    obtain ⟨v, q⟩ := I2.cell x c (h1 x c e)
    have := q.lt
    rw [z, hDe] at this
    exact Nat.lt_irrefl _ this
  let Y : Cx := X.blk scope cl C (capN X.N own cap) s2 H2 fp
  have lo : ∀ (its : List Value) (ep : Nat) (v : Option Value), ({ cls := .type "list", data := .seq its.toArray ep } : Obj).data ≠ .cell v := fun its ep v z => by
    have z' : Data.seq its.toArray ep = Data.cell v := z
    cases z'
  -- what stays true of the iterator's objects
  have fpY : ∀ {H' : Hp} {its : List Value} {ep : Nat}, (∀ b ∈ fp, H' b = none) → ∀ b ∈ fp, FpOk Y [(D, ({ cls := .type "list", data := .seq its.toArray ep } : Obj))] H' b := fun {H' its ep} hn b hb => by
    refine ⟨hn b hb, Nat.ne_of_lt (Nat.lt_of_lt_of_le (fl b hb) hC), fun hz => ?_, .inl hb, fun x c e => (f2 b hb).2.2.2.2.1 x c (h1 x c e), fun p hp => ?_⟩
    · rcases List.mem_cons.mp (I2.stkSub b hz) with z | z
      · exact (f2 b hb).2.1 z
      · exact (f2 b hb).2.2.1 z
    · rcases List.mem_append.mp hp with hp | hp
      · exact absurd (show p ∈ ([] : List (Addr × Obj)) from hp) (by simp)
      · have e : p = (D, ({ cls := .type "list", data := .seq its.toArray ep } : Obj)) := by simpa using hp
        subst e
        exact Ne.symm (flD b hb)
  have loop : ∀ s4 : Shared, s4 = { s2 with heap := h4, toks := s2.toks + ([] : List (Str × Value)).length } →
      codeAny (model X.prog X.w) X.A (.compLoop (.ListComp elt [⟨tg, iter, ifs, 0⟩] scope pos) 0 (.ref it) (.ref D) (compEnvC scope cl C X.env)) (RR (.ref D) C) s4 := by
    rintro s4 rfl
    refine blk_loop (fun n s' => ∃ i acc its ep H', Inv Y [(D, ({ cls := .type "list", data := .seq its.toArray ep } : Obj))] (capS own cap σ) H' s' ∧ tn i s'.heap ∧ (∀ b ∈ fp, H' b = none) ∧ Vals acc its ∧ W i n acc H') ?_ m0
      ⟨0, [], [], 0, H2, blk_start B I2 f2 fl hC h1 h2 kp hns hD4 hDs hDC (lo [] 0), T.keep 0 _ _ st2 fun b _ o e => kp b o e, fun b hb => (f2 b hb).1, .nil, w0⟩
    rintro n s5 ⟨i, acc, its, ep, H5, I5, st5, fr5, vl, w5⟩
    obtain ⟨room, alt⟩ := turn i n acc H5 w5
    have vlen := vl.length
    rcases alt with ⟨stop, zq⟩ | ⟨go, step⟩
    · refine thn (T.done Y rfl rfl rfl hc i _ s5 _ H5 (fun _ _ => False) I5 (fpY fr5) st5 stop) fun r s6 ⟨hr, I6⟩ => ?_
      subst hr
      show RR (.ref D) C (.ok .next) s6
      have pD := I6.pin (D, ({ cls := .type "list", data := .seq its.toArray ep } : Obj)) (List.mem_append_right _ (List.mem_singleton.mpr rfl))
      have fC : H5 C = none := I6.free
      have nD : ∀ b u, H5 b = some u → b ≠ D := fun b u e z => by rw [z, pD.2.1] at e; cases e
      have bD : ∀ b o, s2.heap.get? b = some o → b ≠ D := fun b o e z => by have := Heap.lt_size e; rw [z, hDe] at this; exact Nat.lt_irrefl _ this
      have un : Un (frs X.stack) fp H2 (upd H5 D (.lst acc)) s2.heap s6.heap :=
        ⟨I6.base.keep, I6.base.slot, fun b o e n x => by rw [upd_ne (bD b o e)]; exact I6.base.free b o e n x, I6.base.there,
          fun b xs e => by have q := I6.base.tups b xs e; rw [upd_ne (nD b _ q)]; exact q, fun b o u e => by have q := I6.base.frzs b o u e; rw [upd_ne (nD b _ q)]; exact q,
          fun b ps e => by obtain ⟨mo, q⟩ := I6.base.tbls b ps e; exact ⟨mo, by rw [upd_ne (nD b _ q)]; exact q⟩⟩
      have hok : HOk X.prog X.w (upd H5 D (.lst acc)) s6.heap := fun b u e => by
        by_cases hb : b = D
        · subst hb
          rw [upd_same] at e
          cases e
          exact ⟨Nat.le_of_lt room, its, ep, vl, pD.1⟩
        · rw [upd_ne hb] at e
          exact (I6.hok b u e).stay (fun c v _ q => q) (fun c q => by rw [upd_ne (nD c _ q)]; exact q) fun c xs q => by rw [upd_ne (nD c _ q)]; exact q
      have IX : Inv X pins σ (upd H5 D (.lst acc)) s6 := I2.call' I6.os un hok I6.bare fun b hb => ⟨(f2 b hb).2.2.2.1, (f2 b hb).2.1, (f2 b hb).2.2.2.2.1, (f2 b hb).2.2.2.2.2⟩
      obtain ⟨mm, hmm, _⟩ := I6.loc
      have cC : ∀ x c, X.env.cells.lookup x = some c → c ≠ C := fun x c e z => by
        obtain ⟨v, q⟩ := I2.cell x c e
        exact absurd (Nat.lt_of_lt_of_le q.lt (by rw [z]; exact hC)) (Nat.lt_irrefl _)
      have lC : C ≠ X.env.locals := Nat.ne_of_gt (Nat.lt_of_lt_of_le I2.lt hC)
      refine hRR D C acc H5 s6 IX hDC pD.2.1 fC ⟨mm, hmm⟩ (fun σ'' H'' s'' h' J'' hn hs => ?_) cC lC zq
      exact J''.turned (t' := s''.toks) (fun b o hb e => (hs.2 b hb).trans e) hn lC (.inr (Nat.le_trans I2.sz hC)) cC fun p hp z => by
        have := Heap.lt_size (I2.pin p hp).1
        exact absurd (Nat.lt_of_lt_of_le this (by rw [z]; exact hC)) (Nat.lt_irrefl _)
    · refine thn (T.item Y rfl rfl rfl hc i _ s5 _ H5 (fun _ _ => False) I5 (fpY fr5) st5 go) fun r s6 ⟨u, hr, h6⟩ => ?_
      subst hr
      refine thn h6 fun _ s7 ⟨x, H7, I7, r7, y7, st7, fr7⟩ => ?_
      have I7' := I7.pinned (fpY fr7) (T.obj _ _ st7)
      refine thn (hg cl C s2 H2 fp _ s7 _ H7 x u _ I7' r7 (step x H7 y7)) fun _ s8 ⟨σ8, H8, I8, wk8, q8⟩ => ?_
      refine thn (ht cl C s2 H2 fp _ s8 σ8 H8 _ I8 q8) fun ok s9 ⟨H9, I9, q9⟩ => ?_
      have unpin : ∀ {its' : List Value} {ep' : Nat} {H' : Hp} {s' : Shared} {acc' : List V} {m' : Nat}, Inv Y ([(D, ({ cls := .type "list", data := .seq its'.toArray ep' } : Obj))] ++ pinsAt fp s7.heap) σ8 H' s' → Vals acc' its' → W (i + 1) m' acc' H' → m' < n →
          ∃ m, m < n ∧ ∃ i acc its ep H'', Inv Y [(D, ({ cls := .type "list", data := .seq its.toArray ep } : Obj))] (capS own cap σ) H'' s' ∧ tn i s'.heap ∧ (∀ b ∈ fp, H'' b = none) ∧ Vals acc its ∧ W i m acc H'' := fun {its' ep' H' s' acc' m'} J v' w' hm => by
        refine ⟨m', hm, i + 1, acc', its', ep', H', (J.unpinned).weak wk8.len.symm wk8.val, T.keep _ _ _ st7 fun b hb o e => (J.pin (b, o) (List.mem_append_right _ (List.mem_append_right _ (mem_pinsAt hb e)))).1, fun b hb => ?_, v', w'⟩
        obtain ⟨o, e, d⟩ := T.obj _ _ st7 b hb
        exact (J.pin (b, o) (List.mem_append_right _ (List.mem_append_right _ (mem_pinsAt hb e)))).2.1
      cases ok with
      | false =>
        rw [if_neg Bool.false_ne_true] at q9 ⊢
        obtain ⟨m', hm, w'⟩ := q9
        exact unpin I9 vl w' hm
      | true =>
        rw [if_pos rfl] at q9 ⊢
        refine thn (he cl C s2 H2 fp _ s9 σ8 H9 _ I9 q9) fun v s10 ⟨y, H10, I10, r10, m', hm, w'⟩ => ?_
        have pD := I10.pin (D, ({ cls := .type "list", data := .seq its.toArray ep } : Obj)) (List.mem_append_right _ (List.mem_append_left _ (List.mem_singleton.mpr rfl)))
        refine call_meets F.slot_list_append ⟨_, pD.1, rfl⟩ F.entry_list_append (F.args_list_append_2 _ _) (PySem.list_append D its.toArray ep v (by rw [List.size_toArray]; omega)) ⟨pD.1, ?_⟩
        have eD := PySem.IsL.update pD.1 (·.push v)
        have ea : its.toArray.push v = (its ++ [v]).toArray := by simp
        rw [ea] at eD
        generalize (if (its ++ [v]).toArray.size == its.toArray.size then ep else ep + 1) = ep2 at eD
        have pl : ∀ p ∈ pinsAt fp s7.heap, p.1 ≠ D := fun p hp => flD p.1 (of_pinsAt hp).1
        have I11 : Inv Y (pinsAt fp s7.heap) σ8 H10 s10 := I10.pins_of fun p hp => I10.pin p (List.mem_append_right _ (List.mem_append_right _ hp))
        have I12 := I11.turned (it := D) (t' := s10.toks) (h' := s10.heap.update D (Obj.mapSeq (·.push v))) (fun b o hb e => (Heap.get?_update_other _ _ (Ne.symm hb)).trans e) pD.2.1 hDC (.inr hDs) celD (fun p hp => pl p ((List.mem_append.mp hp).elim (fun z => absurd (show p ∈ ([] : List (Addr × Obj)) from z) (by simp)) id))
        have I13 := I12.pins_of (pins' := [(D, ({ cls := .type "list", data := .seq (its ++ [v]).toArray ep2 } : Obj))] ++ pinsAt fp s7.heap) fun p hp => by
          rcases List.mem_append.mp hp with hp | hp
          · have e : p = (D, ({ cls := .type "list", data := .seq (its ++ [v]).toArray ep2 } : Obj)) := by simpa using hp
            subst e
            exact ⟨eD, pD.2.1, hDC, pD.2.2.2.1, lo _ _⟩
          · exact I12.pin p (List.mem_append_right _ hp)
        exact unpin I13 (vl.append (.cons r10 .nil)) w' hm
  exact codeAny_compStart_list (loop _ rfl) (T.self _ 0 _ _ _ (T.keep 0 _ _ st2 fun b _ o e => kp b o e) (loop _ rfl))
end

section
variable {X : Cx} {tg elt iter : Expr} {ifs : List Expr} {scope : Scope} {pos : Pos} {own : List Str} {cap : List Nat} {wi : TI} {g : TG} {tt : TT} {te : TE}
theorem blk_clos {pins : List (Addr × Obj)} {σ : St} {H : Hp} {s : Shared} (B : Blk X.env.scope X.N scope own cap) (I : Inv X pins σ H s) : ∃ cl, closureFor scope X.env = pure cl ∧ (∀ x c, cl.lookup x = some c → X.env.cells.lookup x = some c) ∧ ∀ x, (x, NameKind.free) ∈ scope.names → ∃ c, cl.lookup x = some c :=
  closure_of fun x hx => I.ok.has x (B.free (x, .free) hx rfl)

/-- [e for x in it if t] -/
def tComp (wi : TI) (own : List Str) (cap : List Nat) (g : TG) (tt : TT) (te : TE) : TE := fun σ H Q => wi σ H fun J H1 => tBlk own cap g tt te σ (fun acc H2 => ∀ p, H2 p = none → Q (.ref p) (upd H2 p (.lst acc))) J H1
theorem pe_comp (B : Blk X.env.scope X.N scope own cap) (hc : X.calm = true) (hi : PI X tg iter wi) (hg : ∀ cl C s2 H2 ex, PG (X.blk scope cl C (capN X.N own cap) s2 H2 ex) tg g) (ht : ∀ cl C s2 H2 ex, PIf (X.blk scope cl C (capN X.N own cap) s2 H2 ex) ifs tt)
    (he : ∀ cl C s2 H2 ex, PE (X.blk scope cl C (capN X.N own cap) s2 H2 ex) elt te) (hs : ∀ x, foldedSetIterable iter X.env x = pure x := by intro _; rfl) : PE X (.ListComp elt [⟨tg, iter, ifs, 0⟩] scope pos) (tComp wi own cap g tt te) := by
  intro pins s σ H Q I h
  obtain ⟨cl, hcl, h1, h2⟩ := blk_clos B I
  rw [eval_ListComp]
  refine wpAny_comprehension_free (use := none) rfl hs hcl B.kind B.names (thn (hi pins s σ H _ I h) fun v s1 q1 => thn q1 fun itv s2 q2 => ?_)
  obtain ⟨it, fp, tn, J, H2, e, I2, T, st2, f2, w⟩ := q2
  subst e
  refine blk_run (RR := fun acc C => compPost (model X.prog X.w) X.A X.xe none (EP X pins σ Q) acc C) hc B I2 T st2 f2 h1 h2 hg ht he w ?_
  intro D C acc H' s' IX hDC fD fC hn tu _ _ z
  obtain ⟨m, hn⟩ := hn
  exact ⟨m, hn, fun h' hs' => ⟨.ref D, _, tu σ _ s' h' IX (by rw [upd_ne (Ne.symm hDC)]; exact fC) hs', rfl, z D fD⟩⟩
/-- x = [e for ..], stored by an exchange -/
theorem ps_setComp {i : Nat} {y : Str} {py spos : Pos} (B : Blk X.env.scope X.N scope own cap) (hc : X.calm = true) (hi : PI X tg iter wi) (hg : ∀ cl C s2 H2 ex, PG (X.blk scope cl C (capN X.N own cap) s2 H2 ex) tg g) (ht : ∀ cl C s2 H2 ex, PIf (X.blk scope cl C (capN X.N own cap) s2 H2 ex) ifs tt)
    (he : ∀ cl C s2 H2 ex, PE (X.blk scope cl C (capN X.N own cap) s2 H2 ex) elt te) (hN : X.N.Nodup) (hy : X.N[i]? = some y) (hl : X.env.scope.names.lookup y = some .local)
    (hsw : swapsWith (.ListComp elt [⟨tg, iter, ifs, 0⟩] scope pos) (some (.Name y py)) spos.line X.env = pure true := by rfl)
    (hs : ∀ x, foldedSetIterable iter X.env x = pure x := by intro _; rfl) : PS X (.Assign [.Name y py] (.ListComp elt [⟨tg, iter, ifs, 0⟩] scope pos) spos) (tAsg (tComp wi own cap g tt te) (gName i)) := by
  intro pins s σ H D0 I h
  obtain ⟨cl, hcl, h1, h2⟩ := blk_clos B I
  rw [exec_Assign_Name_used _ _ _ _ hsw]
  refine wpAny_bind (wpAny_standAt (wpAny_bind ?_))
  show wpAny _ X.A (do let _ ← comprehension (.ListComp elt [⟨tg, iter, ifs, 0⟩] scope pos) scope X.env _ (newList []) false (eval iter X.env) (some (assign (.Name y py) X.env))) _ _ s
  refine wpAny_bind (thn (Q := fun _ s' => SP X pins D0 .next s') (wpAny_comprehension_free (use := some (assign (.Name y py) X.env)) rfl hs hcl B.kind B.names (thn (hi pins s σ H _ I h) fun v s1 q1 => thn q1 fun itv s2 q2 => ?_)) fun _ s' q => wpAny_pure (wpAny_pure q))
  obtain ⟨it, fp, tn, J, H2, e, I2, T, st2, f2, w⟩ := q2
  subst e
  refine blk_run (RR := fun acc C => compPost (model X.prog X.w) X.A X.xe (some (assign (.Name y py) X.env)) (fun _ s' => SP X pins D0 .next s') acc C) hc B I2 T st2 f2 h1 h2 hg ht he w ?_
  intro D C acc H' s' IX hDC fD fC hn tu cC lC z
  obtain ⟨m, hn⟩ := hn
  show wpAny _ X.A (assign (.Name y py) X.env (.ref D)) _ _ s'
  refine wpAny_assign_Name (store_ok2 IX hN hy (.inl hl) (v := .ref D) rfl (fun s'' I'' ⟨a, sb, ha⟩ => ?_) (.inr hl))
  have aC : C ≠ a := by
    rcases ha with e | e
    · rw [e]; exact lC
    · exact Ne.symm (cC _ _ e)
  exact ⟨m, hn.sameBut sb aC, fun h' hs' => ⟨_, _, tu _ _ s'' h' I'' (by rw [upd_ne (Ne.symm hDC)]; exact fC) hs', z D fD⟩⟩
end
end L2

set_option linter.all false
set_option maxHeartbeats 4000000
set_option maxRecDepth 100000
namespace L2
open PySem PySem.Spec PyProof.Rows

section
variable {P : Program} {w : World} {H : Hp} {h : Heap} {a : Addr} {o : HO}
end

section
variable {X : Cx} {pins : List (Addr × Obj)} {σ : St} {H : Hp} {s : Shared} {h' : Heap} {a : Addr} {o : HO} {t' : Nat}
/-! ### numbers of any size -/
def CBig (i j : Int) : Prop := (-(2 ^ 200) < i ∧ i < 2 ^ 200) ∧ (-(2 ^ 200) < j ∧ j < 2 ^ 200)
def CDivB (i j : Int) : Prop := 0 < j ∧ j < 2 ^ 200
/-! ### built-ins over lists -/
/-- all of a list of truths -/
theorem call_all (hc : X.calm = true) : CallR X (.builtin "all") (fun xs H Q => ∃ (p : Addr) (bs : List Bool), xs = [.ref p] ∧ SqL X.K H p (bs.map V.bl) ∧ Q (.bl (bs.all id)) H) := by
  intro pins s σ H xs us Q I r h
  obtain ⟨p, bs, rfl, hq, q⟩ := h
  obtain ⟨u, rfl, rx⟩ := vals1 r
  cases rx
  have hh := I.ok.hd hc
  obtain ⟨its, rv, pl, _⟩ := I.list hq
  have hl : s.heap.IsList p its.toArray := pl.isList
  obtain ⟨ol, hol, _⟩ := id hl
  have hlen := rv.length
  rw [List.length_map] at hlen
  refine call_all_walk (wpAny_pyIter_list hl ⟨s.heap.objs.size, _, _, _, _, _, fun i => bs.getD i false, rfl, Walks.list (A := X.A.in1) hh s.heap.objs.size p (Nat.ne_of_lt (Heap.lt_size hol)) its.toArray, ⟨⟨_, Heap.get?_push_size _ rfl, rfl, rfl⟩, hl.at fun o e => Heap.get?_push_of_some _ e⟩, ?_, fun h' tk hk => ?_⟩)
  · intro i v s1 Q1 E1 hv hq1
    have e' : its[i]? = some v := by simpa using hv
    have hil : i < bs.length := by have := (List.getElem?_eq_some_iff.mp e').1; omega
    obtain ⟨u, hu, ru⟩ := rv.get (i := i) (x := .bl bs[i]) (by rw [List.getElem?_map, List.getElem?_eq_getElem hil]; rfl)
    rw [e'] at hu
    cases hu
    obtain rfl : v = Value.bool bs[i] := ru
    have eg : bs.getD i false = bs[i] := by rw [List.getD_eq_getElem?_getD, List.getElem?_eq_getElem hil]; rfl
    exact wpAny_truthy_bool (eg ▸ hq1)
  · have e : (List.range its.toArray.size).all (fun i => bs.getD i false) = bs.all id := by
      rw [List.size_toArray, ← hlen]
      rw [Bool.eq_iff_iff, List.all_eq_true, List.all_eq_true]
      constructor
      · intro z x hx
        obtain ⟨i, hi, rfl⟩ := List.mem_iff_getElem.mp hx
        have := z i (List.mem_range.mpr hi)
        rw [List.getD_eq_getElem?_getD, List.getElem?_eq_getElem hi] at this
        exact this
      · intro z i hi
        have hi' := List.mem_range.mp hi
        rw [List.getD_eq_getElem?_getD, List.getElem?_eq_getElem hi']
        exact z _ (List.getElem_mem hi')
    rw [e]
    exact ⟨.bl (bs.all id), H, I.kept (t' := tk) fun b u e => hk b u (fun z => absurd (Heap.lt_size e) (by rw [List.mem_singleton.mp z]; exact Nat.lt_irrefl _)) (Heap.get?_push_of_some _ e), rfl, q⟩

/-- xs.index(k), k is there -/
def rIndex : V → List V → Hp → VK → Prop := fun x vs H Q => ∃ (l : Addr) (ns : List Int) (k : Int), x = .ref l ∧ vs = [.int k] ∧ H l = some (.lst (ns.map V.int)) ∧ k ∈ ns ∧ ns.length ≤ 1000 ∧ Q (.int (ns.idxOf k : Nat)) H
/-! ### lists compared -/
def eqVs : List V → List V → Bool
  | [], [] => true
  | x :: xs, y :: ys => eqV x y && eqVs xs ys
  | _, _ => false
def rEqL (K : PySem.W.Frag) (neg : Bool) : R2 := fun x y H Q => ∃ p b xs ys, x = .ref p ∧ y = .ref b ∧ SqL K H p xs ∧ SqL K H b ys ∧ xs.all flatV = true ∧ ys.all flatV = true ∧ Q (.bl (if neg then !eqVs xs ys else eqVs xs ys)) H
/-! ### isinstance -/
theorem ty_kit {x : V} {u t : Value} (I : Inv X pins σ H s) (rx : RelV x u) (ty : TyOf X.K H x t) {A : Around} {E : Value → Shared → Prop} {Q : Value → Shared → Prop} {tp : Addr} {dd : Option Addr} {its : List Value} {n : Nat} {sl : Array (Option Value)} {b : Bool}
    (htp : s.heap.get? tp = some ⟨.type "tuple", dd, .seq its.toArray n, sl⟩) (e : PySem.W.kitAny X.K t its = some b) (h : ∀ tk, Q (.bool b) { s with toks := tk }) :
    wpAny (model X.prog X.w) A (call (.builtin "isinstance") [u, .ref tp]) Q E s := by
  cases ty with
  | non => cases (show u = Value.none from rx); exact PySem.W.kia_tup PySem.W.kitx_none I.kIn True.intro htp e (fun z => nomatch z) h
  | bl y => cases (show u = Value.bool y from rx); exact PySem.W.kia_tup PySem.W.kitx_bool I.kIn True.intro htp e (fun z => nomatch z) h
  | int i => obtain ⟨t, q⟩ := (show ∃ t, u = Value.int i t from rx); cases q; exact PySem.W.kia_tup PySem.W.kitx_int I.kIn True.intro htp e (fun z => nomatch z) h
  | str y => obtain ⟨t, q⟩ := (show ∃ t, u = Value.str y t from rx); cases q; exact PySem.W.kia_tup PySem.W.kitx_str I.kIn True.intro htp e (fun z => nomatch z) h
  | flt y => obtain ⟨t, q⟩ := (show ∃ t, u = Value.float y t from rx); cases q; exact PySem.W.kia_tup PySem.W.kitx_float I.kIn True.intro htp e (fun z => nomatch z) h
  | @lst a xs ea =>
    cases (show u = Value.ref a from rx)
    obtain ⟨_, _, m, _, h1⟩ := (show ObjOk X.prog X.w H s.heap a (.lst xs) from I.hok a _ ea)
    exact PySem.W.kia_tup PySem.W.kitx_list I.kIn ⟨_, h1, rfl⟩ htp e (fun z => nomatch z) h
  | @frz a ob xs ea =>
    cases (show u = Value.ref a from rx)
    obtain ⟨_, _, _, m, _, h1⟩ := (show ObjOk X.prog X.w H s.heap a (.frz ob (.lst xs)) from I.hok a _ ea)
    exact PySem.W.kia_tup PySem.W.kitx_list I.kIn ⟨_, h1, rfl⟩ htp e (fun z => nomatch z) h
  | @tup a xs ea =>
    cases (show u = Value.ref a from rx)
    obtain ⟨_, _, _, p⟩ := (show ObjOk X.prog X.w H s.heap a (.tup xs) from I.hok a _ ea)
    obtain ⟨o, h1, h2, _⟩ := p
    exact PySem.W.kia_tup PySem.W.kitx_tuple I.kIn ⟨o, h1, h2⟩ htp e (fun z => nomatch z) h
  | @dK a kvs ea =>
    cases (show u = Value.ref a from rx)
    obtain ⟨_, _, vs, _, p⟩ := (show ObjOk X.prog X.w H s.heap a (.dK kvs) from I.hok a _ ea)
    obtain ⟨o, es, ep, h1, h2, _⟩ := p
    exact PySem.W.kia_tup PySem.W.kitx_dict I.kIn ⟨o, h1, h2.1⟩ htp e (fun z => nomatch z) h
  | @dT a kvs ea =>
    cases (show u = Value.ref a from rx)
    obtain ⟨_, _, xs, _, o, es, ep, h1, h2, _⟩ := (show ObjOk X.prog X.w H s.heap a (.dT kvs) from I.hok a _ ea)
    exact PySem.W.kia_tup PySem.W.kitx_dict I.kIn ⟨o, h1, h2.1⟩ htp e (fun z => nomatch z) h
  | @ins a C dx fs ea cl ha hn htk hm =>
    cases (show u = Value.ref a from rx)
    obtain ⟨mA, O, _⟩ := ins_get I.hok ea
    obtain ⟨od, J, _⟩ := O.look
    exact PySem.W.kia_tup (PySem.W.kitx_own (cl.get _) cl.hd ha hn htk hm) I.kIn J htp e (fun z => nomatch z) h
/-- isinstance(x, T) of a built-in type -/
theorem call_isi : CallR X (.builtin "isinstance") (fun xs H Q => ∃ x T t b, xs = [x, .ty T] ∧ TyOf X.K H x t ∧ PySem.W.kitOne X.K t (.type T) = some b ∧ Q (.bl b) H) := by
  intro pins s σ H xs us Q I r h
  obtain ⟨x, T, t, b, rfl, ty, e, q⟩ := h
  obtain ⟨u, w', rfl, rx, ry⟩ := vals2 r
  cases (show w' = Value.type T from ry)
  exact isinst_ok I rx ty e fun tk => ⟨.bl b, H, I.tok tk, rfl, q⟩
def tyVals : List String → List Value := fun l => l.map Value.type
/-- isinstance(x, (S, T)) of built-in types -/
theorem call_isi2 : CallR X (.builtin "isinstance") (fun xs H Q => ∃ x p S T t b, xs = [x, .ref p] ∧ H p = some (.tup [.ty S, .ty T]) ∧ TyOf X.K H x t ∧ PySem.W.kitAny X.K t [.type S, .type T] = some b ∧ Q (.bl b) H) := by
  intro pins s σ H xs us Q I r h
  obtain ⟨x, p, S, T, t, b, rfl, hp, ty, e, q⟩ := h
  obtain ⟨u, w', rfl, rx, ry⟩ := vals2 r
  cases (show w' = Value.ref p from ry)
  obtain ⟨_, its, rv, o, ho, hc, n, hd⟩ := I.hok p _ hp
  obtain ⟨v1, v2, rfl, a1, a2⟩ := vals2 rv
  cases (show v1 = Value.type S from a1)
  cases (show v2 = Value.type T from a2)
  obtain ⟨oc, od, odt, osl⟩ := o
  simp only at hc hd
  subst hc hd
  exact ty_kit (its := [.type S, .type T]) I rx ty ho e fun tk => ⟨.bl b, H, I.tok tk, rfl, q⟩

end
end L2

set_option linter.all false
set_option maxHeartbeats 4000000
namespace SS
open PySem PyProof.Rows

/-- the second number of a pair -/
def K2 (xs : Array Keyed) (i : Nat) : Int := match xs[i]? with
  | some p => numOf p.2
  | none => 0
/-- up to k in order, of like keys the lesser second number ahead -/
def Up (xs : Array Keyed) (k : Nat) : Prop := ∀ i j, i < j → j < k → K xs i < K xs j ∨ (K xs i = K xs j ∧ K2 xs i < K2 xs j)
/-- the other way about -/
def Dn (xs : Array Keyed) (k : Nat) : Prop := ∀ i j, i < j → j < k → K xs j < K xs i ∨ (K xs i = K xs j ∧ K2 xs j < K2 xs i)
/-- from k on nothing was moved, and what stands ahead came from ahead -/
structure Left (xs : Array Keyed) (k : Nat) : Prop where
  same : ∀ i, k ≤ i → i < xs.size → K2 xs i = i
  ahead : ∀ i, i < k → i < xs.size → K2 xs i < k

section
variable {prog : Program} {w : World} {A : Around} {E : Value → Shared → Prop} {s : Shared} {a₀ : Array Keyed}

/-- between two turns of the falling loop: g: where the group of like keys at the end begins -/
structure Fall (xs : Array Keyed) (x g : Nat) : Prop where
  lt : g < x
  d1 : Dn xs g
  d2 : ∀ i j, i < g → g ≤ j → j < x → K xs j < K xs i
  d3 : ∀ i, g ≤ i → i < x → K xs i = K xs (x - 1) ∧ K2 xs i = i
  same : ∀ i, x ≤ i → i < xs.size → K2 xs i = i
  ahead : ∀ i, i < g → i < xs.size → K2 xs i < g

end
end SS

set_option linter.all false
set_option maxHeartbeats 4000000
set_option maxRecDepth 100000
namespace SS
open PySem PyProof.Rows

/-- n places, as ints: their values bear the places themselves -/
def Places (vs : List Value) (n : Nat) : Prop := vs.length = n ∧ ∀ (i : Nat) v, vs[i]? = some v → ∃ t, v = .int (i : Int) t
/-- what the sort by key makes of n places -/
structure Sorted (key : Nat → Int) (n : Nat) (ps : List Nat) : Prop where
  perm : ps.Perm (List.range n)
  ord : ∀ (i j p q : Nat), i < j → ps[i]? = some p → ps[j]? = some q → key p < key q ∨ (key p = key q ∧ p < q)

section
variable {keys : Array Value} {vs : List Value} {n : Nat} {key : Nat → Int} {xs : Array Keyed}
def psOf (xs : Array Keyed) : List Nat := xs.toList.map fun q => (numOf q.2).toNat
end

section
variable {prog : Program} {w : World} {A : Around} {E : Value → Shared → Prop} {s : Shared} {a f : Addr} {vs : List Value} {n e0 : Nat} {key : Nat → Int} {P : PySem.Fin → Shared → Prop}

/-- kept but at a -/
def But (a : Addr) (h h' : Heap) : Prop := ∀ b o, b ≠ a → h.get? b = some o → h'.get? b = some o

end

section
variable {prog : Program} {w : World} {A : Around} {E : Value → Shared → Prop} {s : Shared}
end
end SS

set_option linter.all false
set_option maxHeartbeats 4000000
set_option maxRecDepth 100000
namespace L2
open PySem PySem.Spec PyProof.Rows

/-- the def's table of codes at P: empty, or with the lambda's one -/
def Tb (P : Addr) (lp : Pos) (lq : Str) (H : Hp) : Prop :=
  ∃ ps, H P = some (.tbl ps) ∧ (ps = #[] ∨ ∃ c', ps = #[rawInt lp.line, rawInt lp.col, .ref c'] ∧ H c' = some (.ext fun h => h.CodeRec (.ref c') lq))
/-- all but the table is as it was -/
structure Sm (P : Addr) (lp : Pos) (lq : Str) (H H' : Hp) : Prop where
  all : ∀ b o, b ≠ P → H b = some o → H' b = some o
  tb : Tb P lp lq H → Tb P lp lq H'
section
variable {X : Cx} {pins : List (Addr × Obj)} {σ : St} {H : Hp} {s : Shared} {P c : Addr} {lp : Pos} {la : Arguments} {lb : Expr} {lsc : Scope} {own : List Str} {cap : List Nat}

/-- what is wanted behind sorted(range(n), key=lambda place: -rests[place]) -/
def SortQ (K : PySem.W.Frag) (P : Addr) (lp : Pos) (lq : Str) (i : Nat) (σ : St) (Q : VK) (vs : List V) (H' : Hp) : Prop :=
  ∃ (r : Addr) (n : Nat) (H1 : Hp) (a : Addr) (rs : List Int), vs = [.ref r] ∧ H1 r = none ∧ H' = upd H1 r (.rng 0 (n : Int)) ∧ n < 64 ∧ Tb P lp lq H1 ∧ σ[i]? = some (some (.ref a)) ∧ SqL K H1 a (rs.map V.int) ∧ a ≠ P ∧ rs.length = n ∧
    ∀ (ps : List Nat) (H2 : Hp) (l : Addr), SS.Sorted (fun p => -(rs.getD p 0)) n ps → (∀ b o, b ≠ P → H1 b = some o → H2 b = some o) → Tb P lp lq H2 → H1 l = none → H2 l = some (.lst (ps.map fun p : Nat => V.int (p : Int))) → Q (.ref l) H2
abbrev rRng : List V → Hp → VK → Prop := fun xs H Q => ∃ j : Int, xs = [.int j] ∧ ∀ p, H p = none → Q (.ref p) (upd H p (.rng 0 j))
def tSort (K : PySem.W.Frag) (P : Addr) (lp : Pos) (lq : Str) (ta : TE) (i : Nat) : TE := fun σ H Q => tCons (tCB rRng (tCons ta tNil)) tNil σ H (SortQ K P lp lq i σ Q)
end
end L2

set_option linter.all false
set_option maxHeartbeats 4000000
set_option maxRecDepth 100000
namespace L2
open PySem PySem.Spec PyProof.Rows

end L2

set_option linter.all false
set_option maxHeartbeats 4000000
set_option maxRecDepth 100000
namespace L2
open PySem PySem.Spec PyProof.Rows

section
variable {X : Cx} {tg : Expr}
/-- a list or a tuple walked -/
def iSeq (K : PySem.W.Frag) (tl : TE) : TI := fun σ H R => tl σ H fun x H1 => ∃ a, x = .ref a ∧ (((∃ xs, SqL K H1 a xs) ∧ R (Itl K a) H1) ∨ ((∃ xs, SqT K H1 a xs) ∧ R (Itt K a) H1))
theorem pi_seq {l : Expr} {tl : TE} (hl : PE X l tl) : PI X tg l (iSeq X.K tl) := by
  intro pins s σ H R I h
  refine thn (hl pins s σ H _ I h) fun v s1 ⟨x, H1, I1, r1, q1⟩ => ?_
  obtain ⟨a, e, q⟩ := q1
  subst e
  cases r1
  rcases q with ⟨⟨xs, hq⟩, q⟩ | ⟨⟨xs, hq⟩, q⟩
  · obtain ⟨its, rv, p, hz⟩ := I1.list hq
    refine wpAny_pyIter_list p.isList ?_
    refine ⟨s1.heap.objs.size, [s1.heap.objs.size], _, _, H1, rfl, I1.kept (t' := s1.toks) fun b o e => Heap.get?_push_of_some _ e, turn_list a _, ⟨_, Heap.get?_push_size _ rfl, rfl, rfl⟩, fun b hb => ?_, q⟩
    have e : b = s1.heap.objs.size := by simpa using hb
    subst e
    exact I1.fpOk (Nat.le_refl _) (I1.hok.fresh (Nat.le_refl _))
  · obtain ⟨its, rv, p, hz⟩ := I1.tuple hq
    refine wpAny_pyIter_tuple (show s1.heap.IsTuple a its.toArray from p) ?_
    refine ⟨s1.heap.objs.size, [s1.heap.objs.size], _, _, H1, rfl, I1.kept (t' := s1.toks) fun b o e => Heap.get?_push_of_some _ e, turn_tuple a _, ⟨_, Heap.get?_push_size _ rfl, rfl, rfl⟩, fun b hb => ?_, q⟩
    have e : b = s1.heap.objs.size := by simpa using hb
    subst e
    exact I1.fpOk (Nat.le_refl _) (I1.hok.fresh (Nat.le_refl _))
end

/-! ### what a block over a list, a tuple, a range comes to; one name as its target -/
section
variable {K : PySem.W.Frag} {a : Addr} {xs : List V} {y : Str} {cap : List Nat} {tt : TT} {te : TE} {σ : St} {Z : List V → Hp → Prop} {H1 : Hp}
theorem wk_one (y : Str) (cap : List Nat) (σ : St) (x : V) : Wk (capS [y] cap σ) ((capS [y] cap σ).set 0 (some x)) := Wk.set (by show (none :: _ : St)[0]? = some none; rfl)
theorem blk_list (Pv : Nat → List V → Hp → Prop) (h0 : Pv 0 [] H1) (hS : ∀ i acc H, Pv i acc H → SqL K H a xs) (hz : ∀ i acc H, Pv i acc H → acc.length < sizeLine)
    (step : ∀ i x acc H (R : List V → Hp → Prop), (∀ acc' H', Pv (i + 1) acc' H' → R acc' H') → xs[i]? = some x → Pv i acc H → tt ((capS [y] cap σ).set 0 (some x)) H fun b H5 => if b = true then te ((capS [y] cap σ).set 0 (some x)) H5 fun v H6 => R (acc ++ [v]) H6 else R acc H5)
    (hd : ∀ acc H, Pv xs.length acc H → Z acc H) : tBlk [y] cap (gName 0) tt te σ Z (Itl K a) H1 := by
  refine ⟨fun i m acc H => m = xs.length - i ∧ i ≤ xs.length ∧ Pv i acc H, ⟨_, rfl, Nat.zero_le _, h0⟩, ?_⟩
  rintro i m acc H ⟨rfl, hi, p⟩
  refine ⟨hz i acc H p, ?_⟩
  have q := hS i acc H p
  by_cases hlt : i < xs.length
  · refine .inr ⟨⟨xs, xs[i], q, List.getElem?_eq_getElem hlt⟩, fun x H3 yl => ?_⟩
    obtain ⟨e, yx⟩ := yl
    subst e
    exact ⟨wk_one y cap σ x, step i x acc H3 (fun acc' H' => ∃ m', m' < xs.length - i ∧ m' = xs.length - (i + 1) ∧ i + 1 ≤ xs.length ∧ Pv (i + 1) acc' H') (fun acc' H' p' => ⟨_, by omega, rfl, hlt, p'⟩) (yx xs q) p⟩
  · have e : i = xs.length := by omega
    subst e
    exact .inl ⟨⟨xs, q, Nat.le_refl _⟩, hd acc H p⟩
theorem blk_tup (Pv : Nat → List V → Hp → Prop) (h0 : Pv 0 [] H1) (hS : ∀ i acc H, Pv i acc H → SqT K H a xs) (hz : ∀ i acc H, Pv i acc H → acc.length < sizeLine)
    (step : ∀ i x acc H (R : List V → Hp → Prop), (∀ acc' H', Pv (i + 1) acc' H' → R acc' H') → xs[i]? = some x → Pv i acc H → tt ((capS [y] cap σ).set 0 (some x)) H fun b H5 => if b = true then te ((capS [y] cap σ).set 0 (some x)) H5 fun v H6 => R (acc ++ [v]) H6 else R acc H5)
    (hd : ∀ acc H, Pv xs.length acc H → Z acc H) : tBlk [y] cap (gName 0) tt te σ Z (Itt K a) H1 := by
  refine ⟨fun i m acc H => m = xs.length - i ∧ i ≤ xs.length ∧ Pv i acc H, ⟨_, rfl, Nat.zero_le _, h0⟩, ?_⟩
  rintro i m acc H ⟨rfl, hi, p⟩
  refine ⟨hz i acc H p, ?_⟩
  have q := hS i acc H p
  by_cases hlt : i < xs.length
  · refine .inr ⟨⟨xs, xs[i], q, List.getElem?_eq_getElem hlt⟩, fun x H3 yl => ?_⟩
    obtain ⟨e, yx⟩ := yl
    subst e
    exact ⟨wk_one y cap σ x, step i x acc H3 (fun acc' H' => ∃ m', m' < xs.length - i ∧ m' = xs.length - (i + 1) ∧ i + 1 ≤ xs.length ∧ Pv (i + 1) acc' H') (fun acc' H' p' => ⟨_, by omega, rfl, hlt, p'⟩) (yx xs q) p⟩
  · have e : i = xs.length := by omega
    subst e
    exact .inl ⟨⟨xs, q, Nat.le_refl _⟩, hd acc H p⟩
theorem blk_rng {n : Nat} (Pv : Nat → List V → Hp → Prop) (h0 : Pv 0 [] H1) (hz : ∀ i acc H, Pv i acc H → acc.length < sizeLine)
    (step : ∀ i acc H (R : List V → Hp → Prop), (∀ acc' H', Pv (i + 1) acc' H' → R acc' H') → i < n → Pv i acc H → tt ((capS [y] cap σ).set 0 (some (.int (0 + (i : Int))))) H fun b H5 => if b = true then te ((capS [y] cap σ).set 0 (some (.int (0 + (i : Int))))) H5 fun v H6 => R (acc ++ [v]) H6 else R acc H5)
    (hd : ∀ acc H, Pv n acc H → Z acc H) : tBlk [y] cap (gName 0) tt te σ Z (Itr 0 n) H1 := by
  refine ⟨fun i m acc H => m = n - i ∧ i ≤ n ∧ Pv i acc H, ⟨_, rfl, Nat.zero_le _, h0⟩, ?_⟩
  rintro i m acc H ⟨rfl, hi, p⟩
  refine ⟨hz i acc H p, ?_⟩
  by_cases hlt : i < n
  · refine .inr ⟨hlt, fun x H3 yl => ?_⟩
    obtain ⟨e, yx⟩ := yl
    subst e
    subst yx
    exact ⟨wk_one y cap σ _, step i acc H3 (fun acc' H' => ∃ m', m' < n - i ∧ m' = n - (i + 1) ∧ i + 1 ≤ n ∧ Pv (i + 1) acc' H') (fun acc' H' p' => ⟨_, by omega, rfl, hlt, p'⟩) hlt p⟩
  · have e : i = n := by omega
    subst e
    exact .inl ⟨Nat.le_refl _, hd acc H p⟩
end
end L2

set_option linter.all false
set_option maxHeartbeats 4000000
set_option maxRecDepth 100000
namespace L2
open PySem PySem.Spec PyProof.Rows
section
variable {X : Cx}
/-- two tuples of flat values compared -/
def rEqT (K : PySem.W.Frag) : R2 := fun x y H Q => ∃ p b xs ys, x = .ref p ∧ y = .ref b ∧ SqT K H p xs ∧ SqT K H b ys ∧ xs.all flatV = true ∧ ys.all flatV = true ∧ Q (.bl (eqVs xs ys)) H
/-- xs.insert(i, y), i from 0 to the length -/
def rInsert : V → List V → Hp → VK → Prop := fun x vs H Q => ∃ l xs i y, x = .ref l ∧ vs = [.int i, y] ∧ H l = some (.lst xs) ∧ 0 ≤ i ∧ i ≤ xs.length ∧ xs.length ≤ 900 ∧ Q .non (upd H l (.lst (xs.take i.toNat ++ y :: xs.drop i.toNat)))
end

section
variable {X : Cx} {K : PySem.W.Frag}
/-! the rules that name the written part, for blocks -/
theorem ix_listK (e : X.K = K) : IxR X (rIxL K) := by subst e; exact ix_list
end

/-! ### isinstance by names of types -/
def tyNames : List String := ["NoneType", "bool", "int", "str", "list", "tuple", "dict"]
def subTy (S T : String) : Bool := S == T || (S == "bool" && T == "int")
def kitAll (K : PySem.W.Frag) : Bool := tyNames.all fun S => tyNames.all fun T => PySem.W.kitOne K (.type S) (.type T) == some (subTy S T)
theorem kit_of {K : PySem.W.Frag} (h : kitAll K = true) {S T : String} (hS : tyNames.contains S = true) (hT : tyNames.contains T = true) : PySem.W.kitOne K (.type S) (.type T) = some (subTy S T) := by
  have h1 := List.all_eq_true.mp h S (by simpa using hS)
  have h2 := List.all_eq_true.mp h1 T (by simpa using hT)
  exact beq_iff_eq.mp h2
/-- v is of a type of these, by its name -/
structure Is (K : PySem.W.Frag) (H : Hp) (v : V) (S : String) : Prop where
  ty : TyOf K H v (.type S)
  mem : tyNames.contains S = true
theorem Is.kit {K : PySem.W.Frag} {H : Hp} {v : V} {S : String} (x : Is K H v S) (h : kitAll K = true) (T : String) (hT : tyNames.contains T = true := by rfl) : PySem.W.kitOne K (.type S) (.type T) = some (subTy S T) := kit_of h x.mem hT
section
variable {K : PySem.W.Frag} {H : Hp}
theorem Is.int (i : Int) : Is K H (.int i) "int" := ⟨.int i, rfl⟩
theorem Is.bl (b : Bool) : Is K H (.bl b) "bool" := ⟨.bl b, rfl⟩
theorem Is.non : Is K H .non "NoneType" := ⟨.non, rfl⟩
theorem Is.str (x : Str) : Is K H (.str x) "str" := ⟨.str x, rfl⟩
theorem Is.lst {a : Addr} {xs : List V} (e : H a = some (.lst xs)) : Is K H (.ref a) "list" := ⟨.lst e, rfl⟩
theorem Is.tup {a : Addr} {xs : List V} (e : H a = some (.tup xs)) : Is K H (.ref a) "tuple" := ⟨.tup e, rfl⟩
theorem Is.dK {a : Addr} {xs : List (Key × V)} (e : H a = some (.dK xs)) : Is K H (.ref a) "dict" := ⟨.dK e, rfl⟩
end
/-- a number from 0 on -/
def numV : V → Bool
  | .int i => decide (0 ≤ i)
  | _ => false
def intV : V → Bool
  | .int _ => true
  | _ => false
def blV : V → Bool
  | .bl _ => true
  | _ => false
end L2

set_option linter.all false
set_option maxHeartbeats 4000000
set_option maxRecDepth 100000
namespace HT
open PySem PyProof.Rows
section
open PySem.SeqAt
open PySem.AutoSeq1 (wpAny_loadPart')
open PySem.MeetsSeq PySem.MeetsSeq2 PySem.MeetsSeq3
end
section
variable {prog : Program} {w : World} {A : Around} {E : Value → Shared → Prop} {s : Shared}
end
end HT
namespace PySem
open Sem (wp)

section
variable {prog : Program} {w : World} {A : Around} {R : Result → Shared → Prop} {I : Addr} {fp wr : List Addr} {n : Nat} {P : Nat → Value → Prop} {St : Nat → Heap → Prop}
/-- two items compared, where the heap is as it must be -/
def CmpH (prog : Program) (w : World) (A : Around) (op : CmpOp) (OK : Heap → Prop) (P : Nat → Value → Prop) (bt : Nat → Nat → Bool) : Prop :=
  ∀ i j vi vj (s : Shared) (Q : Value → Shared → Prop) (E : Value → Shared → Prop), OK s.heap → P i vi → P j vj → Q (.bool (bt i j)) s → wpAny (model prog w) A (richCompare op vi vj) Q E s
end
section
variable {prog : Program} {w : World} {A : Around} {E : Value → Shared → Prop} {s : Shared}
end

section
variable {prog : Program} {w : World} {A : Around} {R : Result → Shared → Prop} {I : Addr} {fp wr : List Addr} {n : Nat} {P : Nat → Value → Prop} {St : Nat → Heap → Prop}
end
section
variable {prog : Program} {w : World} {A : Around} {E : Value → Shared → Prop} {s : Shared}
end

end PySem

set_option linter.all false
set_option maxHeartbeats 4000000
set_option maxRecDepth 100000
namespace L2
open PySem PySem.Spec PyProof.Rows
/-- pairs of ints, by the first, then the second -/
def ltP (a b : Int × Int) : Prop := a.1 < b.1 ∨ (a.1 = b.1 ∧ a.2 < b.2)
instance (a b : Int × Int) : Decidable (ltP a b) := inferInstanceAs (Decidable (_ ∨ _))
/-- a list of pairs -/
def PairsAt (K : PySem.W.Frag) (H : Hp) (p : Addr) (ps : List (Int × Int)) : Prop :=
  ∃ as : List Addr, SqL K H p (as.map V.ref) ∧ as.length = ps.length ∧ ∀ (i : Nat) (a : Addr) (q : Int × Int), as[i]? = some a → ps[i]? = some q → SqT K H a [.int q.1, .int q.2]
section
variable {X : Cx}
def rGtT (K : PySem.W.Frag) : R2 := fun x y H Q => ∃ a b ns ms, x = .ref a ∧ y = .ref b ∧ SqT K H a (ns.map V.int) ∧ SqT K H b (ms.map V.int) ∧ Q (.bl (HT.lexLt ms ns)) H
end
end L2

set_option linter.all false
namespace SM
/-- one more at each of these places -/
def addAt (f : List Int) (ps : List Nat) : List Int := ps.foldl (fun f p => f.set p (f.getD p 0 + 1)) f
def markAt (l : List Int) (ps : List Nat) : List Int := ps.foldl (fun l p => l.set p (-1)) l
/-- first place of the greatest -/
def idxMax (l : List Int) : Nat := l.idxOf (l.foldl max (l.headD 0))
/-- the law's own turns -/
def turns : Nat → List Int → List Int → List Int × List Int
  | 0, f, l => (f, l)
  | n + 1, f, l => turns n (f.set (idxMax l) (f.getD (idxMax l) 0 + 1)) (l.set (idxMax l) (-1))

end SM

set_option linter.all false
namespace SM
/-- the law's own share -/
def baseL (t : Int) (ws : List Int) : List Int := ws.map fun w => t * w / ws.sum
def restL (t : Int) (ws : List Int) : List Int := ws.map fun w => t * w % ws.sum
def leftN (t : Int) (ws : List Int) : Int := t - (baseL t ws).sum
def dueL (t : Int) (ws : List Int) : List Int := if ws.sum = 0 then ws.map fun _ => 0 else (turns (leftN t ws).toNat (baseL t ws) (restL t ws)).1

end SM

set_option linter.all false
set_option maxHeartbeats 1000000
namespace SM
def posS : List Int → Int
  | [] => 0
  | x :: l => (if x < 0 then 0 else x) + posS l
/-- what k turns come to -/
structure Turned (S : Int) (n : Nat) (rs f0 : List Int) (k : Nat) (f l : List Int) (U : Nat → Bool) : Prop where
  fl : f.length = rs.length
  ll : l.length = rs.length
  fv : ∀ i, i < rs.length → f.getD i 0 = f0.getD i 0 + if U i = true then 1 else 0
  lv : ∀ i, i < rs.length → l.getD i 0 = if U i = true then -1 else rs.getD i 0
  ord : ∀ i j, i < rs.length → j < rs.length → U i = true → U j = false → rs.getD j 0 < rs.getD i 0 ∨ (rs.getD i 0 = rs.getD j 0 ∧ i < j)
  pos : ∀ i, i < rs.length → U i = true → 0 < rs.getD i 0
  big : ((n : Int) - k) * S ≤ posS l
  sum : f.sum = f0.sum + k
/-- the due row: rounded down or up -/
structure Due (t : Int) (ws row : List Int) (U : Nat → Bool) : Prop where
  len : row.length = ws.length
  val : ∀ i, i < ws.length → row.getD i 0 = t * ws.getD i 0 / ws.sum + if U i = true then 1 else 0
  ord : ∀ i j, i < ws.length → j < ws.length → U i = true → U j = false → t * ws.getD j 0 % ws.sum < t * ws.getD i 0 % ws.sum ∨ (t * ws.getD i 0 % ws.sum = t * ws.getD j 0 % ws.sum ∧ i < j)
  pos : ∀ i, i < ws.length → U i = true → 0 < t * ws.getD i 0 % ws.sum
  sum : row.sum = t
end SM

set_option linter.all false
set_option maxHeartbeats 1000000
namespace SM
end SM
namespace SM
end SM
namespace SM
end SM

set_option linter.all false
set_option maxHeartbeats 4000000
set_option maxRecDepth 100000
namespace L2
open PySem
end L2
namespace L2
open PySem
/-- ints and truths -/
def IB (x : V) : Prop := (∃ i, x = .int i) ∨ ∃ b, x = .bl b
structure IBL (xs : List V) : Prop where
  n : xs.length ≤ 70
  ib : ∀ x ∈ xs, IB x
/-- a row that may be the due one: what is_share is to say of it -/
inductive RowV (H : Hp) (ds : List Int) : V → Bool → Prop where
  | lst {l : Addr} {xs : List V} (e : H l = some (.lst xs)) (h : IBL xs) : RowV H ds (.ref l) (xs.all intV && eqVs xs (ds.map V.int))
  | tup {l : Addr} {xs : List V} (e : H l = some (.tup xs)) (h : IBL xs) : RowV H ds (.ref l) false
  | non : RowV H ds .non false
  | str (x : Str) : RowV H ds (.str x) false
end L2
namespace L2
open PySem
end L2
namespace L2
open PySem PySem.Spec PyProof.Rows
/-- a list compared with the empty one -/
theorem op_eqNil {X : Cx} (hu : X.A.units < cLine) : OpR X (compareOp .Eq) (fun x y H Q => ∃ p b xs, x = .ref p ∧ y = .ref b ∧ SqL X.K H p xs ∧ SqL X.K H b [] ∧ Q (.bl (decide (xs = []))) H) := by
  intro pins s σ H x y v u Q I rx ry h
  obtain ⟨p, b, xs, rfl, rfl, hp, hb, q⟩ := h
  cases rx
  cases ry
  obtain ⟨its, r1, p1, _⟩ := I.list hp
  obtain ⟨jts, r2, p2, _⟩ := I.list hb
  have l1 := r1.length
  have l2 := r2.length
  cases xs with
  | nil =>
    refine SeqAt.eq_listAt (e := fun _ => true) p1.isList p2.isList (by simp only [List.size_toArray]; omega) hu (fun j h1 h2 => absurd h1 (by simp only [List.size_toArray]; simp at l1; omega)) ?_
    rw [List.size_toArray]
    have e : its.length = 0 := by simpa using l1.symm
    rw [e]
    exact ⟨.bl true, H, I, rfl, q⟩
  | cons a r =>
    refine SeqAt.eq_list_lengthsAt p1.isList p2.isList ?_ hu ⟨.bl false, H, I, rfl, q⟩
    simp only [List.size_toArray, bne_iff_ne]
    simp at l1 l2
    omega
end L2

set_option linter.all false
set_option maxHeartbeats 4000000
set_option maxRecDepth 100000
namespace PySem
open Sem (wp)
/-- a list (b) or a tuple walked: its iterator at i stands at k -/
def SeqIt (h : Heap) (b : Bool) (i l : Addr) (k : Nat) (xs : Array Value) : Prop :=
  (b = true ∧ h.IsListIter i l k ∧ h.IsList l xs) ∨ (b = false ∧ h.IsTupleIter i l k ∧ h.IsTuple l xs)
section
variable {h h' : Heap} {b : Bool} {i l c : Addr} {k : Nat} {xs : Array Value}
end
section
variable {prog : Program} {w : World} {A : Around} {E : Value → Shared → Prop} {s : Shared}
/-- the zip at z, its two iterators at k -/
structure ZipSt (h : Heap) (b1 b2 : Bool) (z TI TO i1 i2 l1 l2 : Addr) (f0 : Value) (k : Nat) (xs ys : Array Value) : Prop where
  z : IsZip h z TI TO f0
  ti : IsPair h TI (.ref i1) (.ref i2)
  to : ∃ a b, IsPair h TO a b
  a : SeqIt h b1 i1 l1 k xs
  b : SeqIt h b2 i2 l2 k ys
/-- zip of a tuple and a list is made -/
abbrev zt1 (h : Heap) (l1 : Addr) : Heap := h.push { cls := .type "tuple_iterator", data := .fields #[.ref l1, .int 0 0] }
abbrev zt2 (h : Heap) (l1 l2 : Addr) : Heap := (zt1 h l1).push { cls := .type "list_iterator", data := .fields #[.ref l2, .int 0 0] }
abbrev zt3 (h : Heap) (l1 l2 : Addr) : Heap := (zt2 h l1 l2).push { cls := .type "tuple", data := .seq #[.ref h.objs.size, .ref (zt1 h l1).objs.size] }
abbrev zt4 (h : Heap) (l1 l2 : Addr) : Heap := (zt3 h l1 l2).push { cls := .type "tuple", data := .seq #[.none, .none] }
abbrev zt5 (h : Heap) (l1 l2 : Addr) : Heap := (zt4 h l1 l2).push { cls := .type "zip", data := .fields #[.none, .bool false, .bool false, .ref (zt2 h l1 l2).objs.size, .ref (zt3 h l1 l2).objs.size] }
end
end PySem

set_option linter.all false
set_option maxHeartbeats 4000000
set_option maxRecDepth 100000
namespace L2
open PySem PySem.Spec PyProof.Rows
section
variable {X : Cx} {pins : List (Addr × Obj)} {σ : St} {H : Hp} {s : Shared} {h' : Heap}
end
/-- a list (true) or a tuple -/
def SqX (K : PySem.W.Frag) (b : Bool) (H : Hp) (a : Addr) (xs : List V) : Prop := (b = true ∧ SqL K H a xs) ∨ (b = false ∧ SqT K H a xs)
def ItPos (h : Heap) (b : Bool) (i l : Addr) (k : Nat) : Prop := (b = true ∧ h.IsListIter i l k) ∨ (b = false ∧ h.IsTupleIter i l k)
/-- two walked at once: a new pair each turn -/
def Itz (K : PySem.W.Frag) (b1 b2 : Bool) (a b : Addr) : It :=
  ⟨fun i H => ∃ xs ys x y, SqX K b1 H a xs ∧ SqX K b2 H b ys ∧ xs[i]? = some x ∧ ys[i]? = some y,
   fun i H v H' => ∃ T x y, v = .ref T ∧ H T = none ∧ H' = upd H T (.tup [x, y]) ∧ (∀ xs, SqX K b1 H a xs → xs[i]? = some x) ∧ (∀ ys, SqX K b2 H b ys → ys[i]? = some y),
   fun i H => ∃ xs ys, SqX K b1 H a xs ∧ SqX K b2 H b ys ∧ (xs.length ≤ i ∨ ys.length ≤ i)⟩
section
variable {X : Cx} {pins : List (Addr × Obj)} {σ : St} {H : Hp} {s : Shared}
end
section
variable {X : Cx}
def iZip (K : PySem.W.Frag) (ta : TA) : TI := fun σ H R => ta σ H fun vs H1 => ∃ (a b : Addr) (xs ys : List V) (q : Bool), vs = [.ref a, .ref b] ∧ SqX K q H1 a xs ∧ SqL K H1 b ys ∧ R (Itz K q true a b) H1
end
/-! ### blocks over anything -/
section
variable {J : It} {own : List Str} {cap : List Nat} {g : TG} {tt : TT} {te : TE} {σ : St} {Z : List V → Hp → Prop} {H1 : Hp}
end
/-- two names as the target -/
def g2 (K : PySem.W.Frag) : TG := gTup K 2 (gCons (gName 0) (gCons (gName 1) gNil))
section
variable {K : PySem.W.Frag} {a b : Addr} {y1 y2 : Str} {cap : List Nat} {te : TE} {σ : St} {Z : List V → Hp → Prop} {H1 : Hp} {q : Bool}
end
end L2

set_option linter.all false
set_option maxHeartbeats 4000000
set_option maxRecDepth 100000
namespace L2
open PySem PySem.Spec PyProof.Rows
/-- == of things within things -/
inductive DEq (K : PySem.W.Frag) (H : Hp) : Nat → V → V → Bool → Prop where
  | flat {n : Nat} {x y : V} (fx : flatV x = true) (fy : flatV y = true) : DEq K H n x y (eqV x y)
  | same {n : Nat} (a : Addr) : DEq K H n (.ref a) (.ref a) true
  | lst {n : Nat} {a b : Addr} {xs ys : List V} (e : Nat → Bool) (ne : a ≠ b) (ha : SqL K H a xs) (hb : SqL K H b ys) (hl : xs.length = ys.length)
      (h : ∀ i, i < xs.length → DEq K H n (xs.getD i .non) (ys.getD i .non) (e i)) : DEq K H (n + 1) (.ref a) (.ref b) ((List.range xs.length).all e)
  | lstN {n : Nat} {a b : Addr} {xs ys : List V} (ha : SqL K H a xs) (hb : SqL K H b ys) (hl : xs.length ≠ ys.length) : DEq K H (n + 1) (.ref a) (.ref b) false
section
variable {X : Cx} {pins : List (Addr × Obj)} {σ : St} {H : Hp} {s : Shared}
def rEqD (K : PySem.W.Frag) (neg : Bool) : R2 := fun x y H Q => ∃ (p b : Addr) (xs ys : List V) (n : Nat) (e : Nat → Bool), x = .ref p ∧ y = .ref b ∧ SqL K H p xs ∧ SqL K H b ys ∧ n ≤ 60 ∧
  ((xs.length = ys.length ∧ (∀ i, i < xs.length → DEq K H n (xs.getD i .non) (ys.getD i .non) (e i)) ∧ Q (.bl (if neg then !(List.range xs.length).all e else (List.range xs.length).all e)) H) ∨ (xs.length ≠ ys.length ∧ Q (.bl neg) H))
end
/-- four names as the target -/
def g4 (K : PySem.W.Frag) : TG := gTup K 4 (gCons (gName 0) (gCons (gName 1) (gCons (gName 2) (gCons (gName 3) gNil))))
section
variable {K : PySem.W.Frag} {a : Addr} {y y1 y2 y3 y4 : Str} {cap : List Nat} {te : TE} {σ : St} {Z : List V → Hp → Prop} {H1 : Hp}
end
section
variable {X : Cx} {K : PySem.W.Frag} {pos : Pos}
end
end L2

set_option linter.all false
set_option maxHeartbeats 1000000
namespace FM
open SM
/-- a part: begin, least, most, weight -/
structure Pt where
  b : Int
  l : Int
  m : Int
  w : Int
  deriving DecidableEq
structure GoodPt (p : Pt) : Prop where
  l0 : 0 ≤ p.l
  lb : p.l ≤ p.b
  bm : p.b ≤ p.m
  m9 : p.m ≤ 9999
  w0 : 0 ≤ p.w
  w9 : p.w ≤ 9999
def wts (ps : List Pt) (rooms : List Int) : List Int := List.zipWith (fun p r => if 0 < r then p.w else 0) ps rooms
def given (lack : Int) (ps : List Pt) (rooms : List Int) : List Int := List.zipWith min (dueL lack (wts ps rooms)) rooms
/-- the rooms and what lacks behind k rounds -/
def st (ps : List Pt) (lack : Int) : Nat → List Int × Int
  | 0 => (ps.map fun p => p.m - p.b, lack)
  | k + 1 => (List.zipWith (· - ·) (st ps lack k).1 (given (st ps lack k).2 ps (st ps lack k).1), (st ps lack k).2 - (given (st ps lack k).2 ps (st ps lack k).1).sum)
def gv (ps : List Pt) (lack : Int) (k : Nat) : List Int := given (st ps lack k).2 ps (st ps lack k).1
structure Ends (ps : List Pt) (lack : Int) (i : Nat) : Prop where
  on : ∀ k, k < i → 0 < (st ps lack k).2 ∧ (gv ps lack k).sum ≠ 0
  off : ¬ 0 < (st ps lack i).2 ∨ (gv ps lack i).sum = 0
/-- the sizes behind k rounds -/
def szs (ps : List Pt) (rooms : List Int) : List Int := List.zipWith (fun p r => p.m - r) ps rooms
/-- what is taken -/
def above (ps : List Pt) : List Int := ps.map fun p => p.b - p.l
def taken (total : Int) (ps : List Pt) : Int := min ((ps.map fun p => p.b).sum - total) (above ps).sum
/-- the rounds and the sizes that are due -/
inductive Fill (total : Int) (ps : List Pt) : List (List Int) → List Int → Prop where
  | none (h : (ps.map fun p => p.b).sum > total) (h0 : taken total ps = 0) : Fill total ps [] (ps.map fun p => p.b)
  | less (h : (ps.map fun p => p.b).sum > total) (h0 : taken total ps ≠ 0) : Fill total ps [dueL (taken total ps) (above ps)] (List.zipWith (· - ·) (ps.map fun p => p.b) (dueL (taken total ps) (above ps)))
  | more (i : Nat) (h : ¬ (ps.map fun p => p.b).sum > total) (e : Ends ps (total - (ps.map fun p => p.b).sum) i) : Fill total ps ((List.range i).map (gv ps (total - (ps.map fun p => p.b).sum))) (szs ps (st ps (total - (ps.map fun p => p.b).sum) i).1)
/-- sizes by the rounds alone -/
def behind (sign : Int) (rows : List (List Int)) (sz : List Int) : List Int := rows.foldl (fun sz row => List.zipWith (fun s n => s + sign * n) sz row) sz
end FM


set_option linter.all false
set_option maxHeartbeats 1000000
namespace FM
open SM
section
variable {ps : List Pt} {lack : Int}
end
end FM

set_option linter.all false
set_option maxHeartbeats 4000000
set_option maxRecDepth 100000
namespace L2
open PySem PySem.Spec PyProof.Rows
/-- a list walked, with its places -/
def Ite (K : PySem.W.Frag) (a : Addr) : It :=
  ⟨fun i H => ∃ xs x, SqL K H a xs ∧ xs[i]? = some x,
   fun i H v H' => ∃ T x, v = .ref T ∧ H T = none ∧ H' = upd H T (.tup [.int i, x]) ∧ ∀ xs, SqL K H a xs → xs[i]? = some x,
   fun i H => ∃ xs, SqL K H a xs ∧ xs.length ≤ i⟩
section
variable {X : Cx}
def iEnum (K : PySem.W.Frag) (ta : TA) : TI := fun σ H R => ta σ H fun vs H1 => ∃ (a : Addr) (xs : List V), vs = [.ref a] ∧ SqL K H1 a xs ∧ R (Ite K a) H1
end
/-- a loop over anything -/
theorem for_any {J : It} {g : TG} {tb : TS} {D : Ends} {σ : St} {H : Hp} (n : Nat) (Pv : Nat → St → Hp → Prop) (h0 : Pv 0 σ H) (hgo : ∀ i σ H, i < n → Pv i σ H → J.go i H) (hst : ∀ σ H, Pv n σ H → J.stop n H)
    (hs : ∀ i x σ H H', i < n → Pv i σ H → J.yld i H x H' → g x σ H' fun σ2 H2 => tb { D with nx := Pv (i + 1), ct := Pv (i + 1), bk := D.nx } σ2 H2) (hd : ∀ σ H, Pv n σ H → D.nx σ H) :
    ∃ W : Nat → Nat → St → Hp → Prop, (∃ m, W 0 m σ H) ∧ ∀ i m σ H, W i m σ H →
      (J.stop i H ∧ D.nx σ H) ∨ (J.go i H ∧ ∃ N : St → Hp → Prop, (∀ σ' H', N σ' H' → ∃ m', m' < m ∧ W (i + 1) m' σ' H') ∧ ∀ x H', J.yld i H x H' → g x σ H' fun σ2 H2 => tb { D with nx := N, ct := N, bk := D.nx } σ2 H2) := by
  refine ⟨fun i m σ H => m = n - i ∧ i ≤ n ∧ Pv i σ H, ⟨n, by simp, Nat.zero_le _, h0⟩, ?_⟩
  rintro i m σ H ⟨rfl, hi, p⟩
  by_cases hlt : i < n
  · exact .inr ⟨hgo i σ H hlt p, Pv (i + 1), fun σ' H' p' => ⟨n - (i + 1), by omega, rfl, hlt, p'⟩, fun x H' y => hs i x σ H H' hlt p y⟩
  · have e : i = n := by omega
    subst e
    exact .inl ⟨hst σ H p, hd σ H p⟩
end L2

set_option linter.all false
namespace L2
open PySem PySem.W PyProof.Rows
/-- an exception that flies behind a call, up to the callers' frames: B holds all that was known, and all that is told -/
def CXW (P : Program) (w : World) : CXT := fun outer H s E e s' => ∃ (a C : Addr) (a0 : Value) (H' : Hp) (B : Heap), e = .ref a ∧ s'.os = s.os ∧ AllBare s'.gens ∧ Un (frs outer) [] H H' s.heap s'.heap ∧ HOk P w H' s'.heap ∧
  Heap.FlyingW B outer a (.ref C) a0 s'.heap ∧ (∀ b o, s.heap.get? b = some o → H b = none → b ∉ frs outer → B.get? b = some o) ∧ (∀ b u o, H' b = some u → s'.heap.get? b = some o → B.get? b = some o) ∧
  (∀ b o, s.heap.get? b = some o → b ∉ frs outer → ∃ o', B.get? b = some o') ∧ E (.ref C) none H'
theorem ObjOk.is {P : Program} {w : World} {H : Hp} {h : Heap} {a : Addr} {o : HO} (x : ObjOk P w H h a o) : ∃ u, h.get? a = some u := by
  cases o with
  | lst xs => obtain ⟨_, _, _, _, e⟩ := x; exact ⟨_, e⟩
  | tup xs => obtain ⟨_, _, _, _, e, _⟩ := x; exact ⟨_, e⟩
  | dK kvs => obtain ⟨_, _, _, _, o, _, _, e, _⟩ := x; exact ⟨_, e⟩
  | dT kvs => obtain ⟨_, _, _, _, o, _, _, e, _⟩ := x; exact ⟨_, e⟩
  | set S n => obtain ⟨o, _, _, _, e, _⟩ := x; exact ⟨_, e⟩
  | ins C dx fs => obtain ⟨_, _, _, e, _⟩ := x; exact ⟨_, e⟩
  | own y => obtain ⟨_, e⟩ := x; exact ⟨_, e⟩
  | xd fs => obtain ⟨_, ⟨_, _, _, e, _⟩, _⟩ := x; exact ⟨_, e⟩
  | rng lo hi => obtain ⟨_, _, _, e⟩ := x; exact ⟨_, e⟩
  | frz ob u => obtain ⟨e, _⟩ := x; exact ⟨_, e⟩
  | tbl ps => exact ⟨_, (show h.get? a = some _ from x)⟩
  | met f y => exact ⟨_, (show h.get? a = some _ from x)⟩
  | ext φ => obtain ⟨_, e, _⟩ := x; exact e
theorem cxw_of {P : Program} {w : World} {outer : List Env} {H H' : Hp} {s s' : Shared} {g B : Heap} {E : XK} {a C : Addr} {a0 : Value} (un : Un (frs outer) [] H H' s.heap g) (hok : HOk P w H' g) (up : g.UpToSlots s'.heap)
    (fl : Heap.FlyingW B outer a (.ref C) a0 s'.heap) (fr : ∀ b ∈ frs outer, ∃ o, g.get? b = some o ∧ ∀ vs, o.data ≠ .fields vs)
    (c1 : ∀ b o, s.heap.get? b = some o → H b = none → b ∉ frs outer → B.get? b = some o) (c2 : ∀ b u o, H' b = some u → g.get? b = some o → B.get? b = some o)
    (c3 : ∀ b o, s.heap.get? b = some o → b ∉ frs outer → ∃ o', B.get? b = some o') (os : s'.os = s.os) (bare : AllBare s'.gens) (e : E (.ref C) none H') : CXW P w outer H s E (.ref a) s' := by
  refine ⟨a, C, a0, H', B, rfl, os, bare, ⟨fun b o q n hb _ => fl.1 b o (c1 b o q n hb), fun b o q n hb hx => ?_, un.free, fun b o q hx => ?_, un.tups, un.frzs, un.tbls⟩,
    fun b u q => (hok b u q).stay (fun c v hc r => fl.1 c v ?_) (fun _ z => z) fun _ _ z => z, fl, c1, fun b u o q r => ?_, c3, e⟩
  · obtain ⟨sl, h1⟩ := un.slot b o q n hb hx
    obtain ⟨o1, h2, h3⟩ := fr b hb
    rw [h1] at h2
    cases h2
    obtain ⟨sl2, h4⟩ := up b _ h1 h3
    exact ⟨sl2, h4⟩
  · by_cases hb : b ∈ frs outer
    · obtain ⟨o1, h2, h3⟩ := fr b hb
      obtain ⟨sl2, h4⟩ := up b _ h2 h3
      exact ⟨_, h4⟩
    · obtain ⟨o', h1⟩ := c3 b o q hb
      exact ⟨o', fl.1 b o' h1⟩
  · rcases hc with rfl | hc
    · exact c2 _ _ _ q r
    · exact c2 _ _ _ hc r
  · obtain ⟨o1, h1⟩ := (hok b u q).is
    have h2 := c2 b u o1 q h1
    have h3 := fl.1 b o1 h2
    rw [r] at h3
    cases h3
    exact h2
section
variable {P : Program} {w : World} {K : PySem.W.Frag} {mg : Str → Option Value} {base : Heap} {N : List Str} {qual : Str} {scope : Scope} {f : Addr} {cd : Value} {A : Around} {outer : List Env} {s : Shared} {H : Hp} {E : XK}
theorem frs_cons {b : Addr} {n : Addr} : b ∈ frs (envOfC qual scope n f cd :: outer) ↔ b = n ∨ b ∈ frs outer := by
  unfold frs
  rw [List.filterMap_cons]
  show b ∈ n :: _ ↔ _
  exact List.mem_cons
/-- what a callee raises goes on -/
theorem passW {E' : XK} (hE : ∀ c x H', E' c x H' → E c x H') : Passes (CXW P w) (cxOf (CXW P w) P w K mg base N qual scope f cd A outer s H E) E' := by
  rintro pins σ H1 s1 e s' I ⟨a, C, a0, H', B, rfl, os, bare, un, hok, fl, c1, c2, c3, ee⟩
  have J : Inv (cxOf (CXW P w) P w K mg base N qual scope f cd A outer s H E) pins σ H' s' := I.call' os un hok bare fun b z => absurd z (by simp)
  have lt : ∀ b o, s.heap.get? b = some o → b ∉ frs outer → b ∉ frs (envOfC qual scope s.heap.objs.size f cd :: outer) := fun b o q hb z => by
    rcases frs_cons.mp z with z | z
    · rw [z] at q; exact absurd (Heap.lt_size q) (Nat.lt_irrefl _)
    · exact hb z
  show wpAny (model P w) (A.deeper (envOfC qual scope s.heap.objs.size f cd)) (leaving (envOfC qual scope s.heap.objs.size f cd) (.ref a)) _ _ s'
  refine wpAny_leaves_onW I.ok.frames rfl fl fun h' fl' up => ?_
  refine cxw_of (s' := { s' with heap := h' }) (g := s'.heap) J.base hok up fl' (fun b hb => (fl.2.2.1.mem (frs_cons.mpr (.inr hb))).2) (fun b o q n hb => ?_) c2 (fun b o q hb => ?_) J.os bare (hE _ _ _ ee)
  · exact c1 b o (I.base.keep b o q n hb (by simp [cxOf])) (I.base.free b o q n (by simp [cxOf])) (lt b o q hb)
  · obtain ⟨o1, h1⟩ := I.base.there b o q (by simp [cxOf])
    exact c3 b o1 h1 (lt b o q hb)
/-- an exception made here leaves -/
theorem raiseW {pins : List (Addr × Obj)} {σ : St} {H1 : Hp} {s1 : Shared} {a C : Addr} {args : List Value} {h1 : Heap} (I : Inv (cxOf (CXW P w) P w K mg base N qual scope f cd A outer s H E) pins σ H1 s1)
    (mk : Heap.MadeExcOf s1.heap h1 a (.ref C) args) (e : E (.ref C) none H1) : (cxOf (CXW P w) P w K mg base N qual scope f cd A outer s H E).xe (.ref a) { s1 with heap := h1 } := by
  have hin : ∀ env ∈ (envOfC qual scope s.heap.objs.size f cd :: outer), ∀ b, env.frame = some b → b ∈ frs (envOfC qual scope s.heap.objs.size f cd :: outer) := fun env he b hb => List.mem_filterMap.mpr ⟨env, he, hb⟩
  have lt : ∀ b o, s.heap.get? b = some o → b ∉ frs outer → b ∉ frs (envOfC qual scope s.heap.objs.size f cd :: outer) := fun b o q hb z => by
    rcases frs_cons.mp z with z | z
    · rw [z] at q; exact absurd (Heap.lt_size q) (Nat.lt_irrefl _)
    · exact hb z
  have hst : s1.heap.FunFrames base (envOfC qual scope s.heap.objs.size f cd :: outer) := I.stack
  show wpAny (model P w) (A.deeper (envOfC qual scope s.heap.objs.size f cd)) (leaving (envOfC qual scope s.heap.objs.size f cd) (.ref a)) _ _ { s1 with heap := h1 }
  refine wpAny_leaves_madeW (base := hideAll s1.heap (frs (envOfC qual scope s.heap.objs.size f cd :: outer))) I.ok.frames rfl (fun b o q => of_hideAll _ q) (funFrames_hide hst hin) mk fun h' t fl _ _ up => ?_
  refine cxw_of (s' := { s1 with heap := h' }) (g := s1.heap) I.base I.hok ((Heap.UpToSlots.of_keeps mk.keeps).trans up) fl (fun b hb => (hst.mem (frs_cons.mpr (.inr hb))).2) (fun b o q n hb => ?_) (fun b u o q r => ?_) (fun b o q hb => ?_) I.os I.bare e
  · exact hideAll_get _ (I.base.keep b o q n hb (by simp [cxOf])) (lt b o q hb)
  · refine hideAll_get _ r fun z => ?_
    have := I.stkFree b z
    rw [q] at this; cases this
  · obtain ⟨o1, h2⟩ := I.base.there b o q (by simp [cxOf])
    exact ⟨o1, hideAll_get _ h2 (lt b o q hb)⟩
end
end L2

set_option linter.all false
namespace L2
open PySem PySem.W PyProof.Rows
/-- an own exception's class, as the fragment shows it -/
theorem own_in {K : Frag} {h : Heap} {mg : Str → Option Value} {x : Str} {C : Addr} {bmB : List Value} {newId : String} (X : K.In h) (e : mg x = some (.ref C)) (q : excIn K C bmB newId = true) : OwnCls x C bmB newId mg h := by
  refine ⟨e, ?_⟩
  rw [excIn] at q
  cases hl : K.lookup C with
  | none => rw [hl] at q; cases q
  | some ob =>
    rw [hl] at q
    obtain ⟨oc, odd, odt, ⟨l⟩⟩ := ob
    split at q
    · rename_i eq0
      cases eq0
      rename_i cd
      split at q
      · rename_i z1 z2 z3 z4 z5 z6 z7 z8 hm hs
        simp only [Bool.and_eq_true, beq_iff_eq, Bool.not_eq_true'] at q
        have hs' : l = [z3, z4, z5, z6, some (.builtin z7), z8] := hs
        obtain ⟨⟨⟨⟨⟨rfl, rfl⟩, hdel⟩, ht⟩, hok⟩, hni⟩ := q
        cases cd
        dsimp only at hm hdel hok hni
        subst hm hdel hs'
        exact ⟨_, _, _, _, _, _, _, _, _, _, _, _, _, _, _, _, _, X _ _ hl, .of_isNs (isNs_of_in X hok), nsMap_none_of_in X hok hni, tail_of_in X ht⟩
      · cases q
    · cases q
/-- what this body wants of an exception that it makes -/
def RaisesTo (X : Cx) (E : XK) : Prop := ∀ (pins : List (Addr × Obj)) (σ : St) (H1 : Hp) (s1 : Shared) (a C : Addr) (args : List Value) (h1 : Heap), Inv X pins σ H1 s1 → Heap.MadeExcOf s1.heap h1 a (.ref C) args → E (.ref C) none H1 → X.xe (.ref a) { s1 with heap := h1 }
theorem raisesW {P : Program} {w : World} {K : PySem.W.Frag} {mg : Str → Option Value} {base : Heap} {N : List Str} {qual : Str} {scope : Scope} {f : Addr} {cd : Value} {A : Around} {outer : List Env} {s : Shared} {H : Hp} {E : XK} :
    RaisesTo (cxOf (CXW P w) P w K mg base N qual scope f cd A outer s H E) E := fun _ _ _ _ _ _ _ _ I mk e => raiseW I mk e
/-- raise C(..), C an own exception -/
def tRaise (E : XK) (C : Addr) (ta : TA) : TS := fun _ σ H => ta σ H fun _ H1 => E (.ref C) none H1
theorem ps_raise {X : Cx} {E : XK} {x : Str} {C : Addr} {bmB : List Value} {newId : String} {e : Expr} {es : List Expr} {ta : TA} {np cpos pos : Pos} {B Bn nid initId inN : String} {bmN : List Value}
    (hE : RaisesTo X E) (hc : X.calm = true) (hg : Gl X x) (hm : X.mg x = some (.ref C)) (hq : excIn X.K C bmB newId = true) (Fn : ExcBaseFacts Bn newId inN bmN) (FB : ExcBaseFacts B nid initId bmB) (hBn : bmB.contains (.type Bn) = true)
    (hn : (e :: es).length ≤ 1000) (ha : PA X (e :: es) ta) (hlen : ∀ σ H Q, ta σ H Q → ta σ H fun vs H1 => vs.length ≤ sizeLine ∧ Q vs H1) (hd : (x == ("__debug__" : Str)) = false := by decide)
    (he : starEach (e :: es) X.env = (false, eval e X.env) :: starEach es X.env := by rfl) (hplain : (backTo cpos (starEach es X.env)).any (·.1) = false := by rfl) :
    PS X (.Raise (some (.Call (.Name x np) (e :: es) [] cpos)) none pos) (tRaise E C ta) := by
  intro pins s σ H D I h
  have O : ∀ h, X.K.In h → OwnCls x C bmB newId X.mg h := fun h k => own_in k hm hq
  obtain ⟨tl, N, nm, q, bs, hdct, sn, sub, ab, col, dd, k0, k1, k2, k3, k5, mN, hC, hN, hni, T⟩ := (O _ I.ok.mod.kin).obj
  refine wpAny_Raise_call_subU (C := C) (nm := nm) (q := q) (N := N) (bs := bs) (bm := tl) (hdct := hdct) (sn := sn) (sub := sub) (ab := ab) (col := col) (dd := dd) (k0 := k0) (k1 := k1) (k2 := k2) (k3 := k3) (k5 := k5)
    Fn hBn FB (mN := mN) (T.hasType FB.hasBase) (I.ok.hd hc) (by rw [he]; show (false || (backTo cpos (starEach es X.env)).any (·.1)) = false; rw [hplain]; rfl) hni (ld_glob I hg hm ⟨rfl, ?_⟩ hd)
  have h2 := ha cpos pins s σ H _ I (hlen _ _ _ h)
  rw [he] at h2 ⊢
  refine Calls.evalArgs_plain (wpAny_mono h2 (fun vs s₂ h₃ => ?_) fun _ _ y => y)
  obtain ⟨zs, H1, I1, r, hl, ee⟩ := h₃
  exact ⟨rfl, by rw [← r.length]; exact hl, I1.bk _ _ hC, hN.keeps I1.bk, T.keeps I1.bk, fun h' a mk => hE pins σ H1 s₂ a C vs h' I1 mk ee⟩
end L2

set_option linter.all false
namespace L2
open PySem PySem.W PyProof.Rows
/-- a def whose exceptions are told -/
theorem Fun.okW {P : Program} {w : World} {K : PySem.W.Frag} {mg : Str → Option Value} {base : Heap} {x qual : Str} {st : Stmt} {f : Addr} {fd : FuncData} {N ps : List Str} {k : Nat} {sp : Sp} (F : Fun K x qual st f fd) (S : FnScope N ps (defScope st)) (len : ∀ vs H Q E, sp vs H Q E → vs.length = ps.length)
    (hbody : ∀ (cdv : Value) (A : Around) (outer : List Env) (s : Shared) (H : Hp) (vs : List V) (Q : VK) (E : XK), Room k (A.deeper (envOfC qual (defScope st) s.heap.objs.size f cdv)) → sp vs H Q E →
      ∃ t, PSs (cxOf (CXW P w) P w K mg base N qual (defScope st) f cdv A outer s H E) (defBody st) t ∧ t { nx := fun _ H' => Q .non H', rt := Q } (start N vs) H) : FnOk P w K mg base (CXW P w) (k + 1) f fd ps sp := by
  obtain ⟨oc, od, kV, doc, pm, an, cdv, ct, osl, rfl, lk, hcd⟩ := F.ex
  exact fn_of lk hcd S len fun A outer s H vs Q E hr hsp => hbody cdv A outer s H vs Q E hr hsp
section
variable {X : Cx} {pins : List (Addr × Obj)} {σ : St} {H H' H1 : Hp} {s s' s1 : Shared}
/-- the callee runs, whatever is wanted of its exceptions -/
theorem run_fnE {CX : CXT} {k : Nat} {f : Addr} {fd : FuncData} {ps : List Str} {sp : Sp} {dvs : List V} {ds : List Value} {E : XK} {Q : VK} {us : List Value} {vs : List V} {xe : Value → Shared → Prop} (F : FnOk X.prog X.w X.K X.mg X.base CX k f fd ps sp) (hr : Room k X.A) (hb : Binds X.K fd ps ds) (hd : Vals dvs ds)
    (I : Inv X pins σ H s) (r : Vals vs us) (h : sp (vs ++ dvs) H Q E) (hx : ∀ e s', CX X.stack H s E e s' → xe e s') : wpAny (model X.prog X.w) X.A (call (.ref f) us) (EP X pins σ Q) xe s := by
  have r2 := r.append hd
  refine wpAny_call (codeAny_mono (F.run X.A X.stack s H ⟨us, []⟩ _ _ Q E hr I.env0 (hb s us I.kIn (r2.length ▸ F.len _ _ _ _ h)) r2 h) fun res s' hq => ?_)
  match res, hq with
  | .error e, hq => exact hx e s' hq
  | .ok (.ret u), hq => exact I.after hq
  | .ok .next, hq => exact hq.elim
  | .ok .brk, hq => exact hq.elim
  | .ok .cont, hq => exact hq.elim
/-- an exception object -/
abbrev excO (a C : Addr) : HO := .ext fun h => ∃ oe ws, h.get? a = some oe ∧ oe.cls = .ref C ∧ oe.data = .fields ws
/-- a record that came with a call is told from here on -/
theorem Inv.adopt {a C : Addr} {oe : Obj} {ws : Array Value} (I1 : Inv X pins σ H1 s1) (n1 : s1.heap.get? a = none) (hex : a ∉ X.ex) (I : Inv X pins σ H s) (n : H a = none) (e : s.heap.get? a = some oe) (hc : oe.cls = .ref C) (hd : oe.data = .fields ws) :
    Inv X pins σ (upd H a (excO a C)) s := by
  have n0 : ∀ o, X.s₀.heap.get? a ≠ some o := fun o q => by
    obtain ⟨o', h⟩ := I1.base.there a o q hex
    rw [n1] at h; cases h
  have ne : ∀ {b : Addr} {u : HO}, H b = some u → b ≠ a := fun q z => by rw [z, n] at q; cases q
  refine ⟨I.ok, I.os, I.bare, ⟨I.base.keep, I.base.slot, fun b o q m hx => ?_, I.base.there, fun b xs q => ?_, fun b o u q => ?_, fun b ps q => ?_⟩, I.loc, I.cell, ?_, fun x c q => ?_, fun p hp => ?_, fun b u q => ?_, I.len⟩
  · have hba : b ≠ a := fun z => by subst z; exact n0 o q
    rw [upd_ne hba]; exact I.base.free b o q m hx
  · have h := I.base.tups b xs q; rw [upd_ne (ne h)]; exact h
  · have h := I.base.frzs b o u q; rw [upd_ne (ne h)]; exact h
  · obtain ⟨more, h⟩ := I.base.tbls b ps q; exact ⟨more, by rw [upd_ne (ne h)]; exact h⟩
  · rw [upd_ne (fun z => ?_)]
    · exact I.free
    · obtain ⟨m, ⟨o, es, ep, ho, hdd, _⟩, _⟩ := I.loc
      rw [z, e] at ho; cases ho; rw [hd] at hdd; cases hdd
  · rw [upd_ne (fun z => ?_)]
    · exact I.freeC x c q
    · obtain ⟨v, o, ho, hdd⟩ := I.cell x c q
      rw [z, e] at ho; cases ho; rw [hd] at hdd; cases hdd
  · obtain ⟨p1, p2, p3, p4, p5⟩ := I.pin p hp
    refine ⟨p1, ?_, p3, p4, p5⟩
    rw [upd_ne (fun z => ?_)]
    · exact p2
    · have := (I1.pin p hp).1; rw [z, n1] at this; cases this
  · by_cases hb : b = a
    · subst hb
      rw [upd_same] at q; cases q
      refine ⟨⟨oe, ws, e, hc, hd⟩, ⟨oe, e⟩, fun h1 h2 ⟨o1, w1, a1, a2, a3⟩ k => ⟨o1, w1, k _ a1, a2, a3⟩⟩
    · rw [upd_ne hb] at q
      exact (I.hok b u q).stay (fun c v _ r => r) (fun c r => by rw [upd_ne (ne r)]; exact r) fun c xs r => by rw [upd_ne (ne r)]; exact r
/-- what flies is none of what was there -/
theorem CXW.new {P : Program} {w : World} {outer : List Env} {E : XK} {a C : Addr} {a0 : Value} {B : Heap} (hok : HOk P w H' s'.heap) (fl : Heap.FlyingW B outer a (.ref C) a0 s'.heap)
    (c2 : ∀ b u o, H' b = some u → s'.heap.get? b = some o → B.get? b = some o) (c3 : ∀ b o, s.heap.get? b = some o → b ∉ frs outer → ∃ o', B.get? b = some o') : H' a = none ∧ s.heap.get? a = none ∧ ∃ oe ws, s'.heap.get? a = some oe ∧ oe.cls = .ref C ∧ oe.data = .fields ws := by
  obtain ⟨oe, ws, he, hc, hd, _⟩ := fl.first
  refine ⟨?_, ?_, oe, ws, he, hc, hd⟩
  · cases q : H' a with
    | none => rfl
    | some u =>
      have := c2 a u oe q he
      rw [fl.2.1] at this; cases this
  · cases q : s.heap.get? a with
    | none => rfl
    | some o =>
      have nf : a ∉ frs outer := fun z => by
        obtain ⟨_, o1, h1, h2⟩ := fl.2.2.1.mem z
        rw [he] at h1; cases h1; exact h2 _ hd
      obtain ⟨o', h⟩ := c3 a o q nf
      rw [fl.2.1] at h; cases h
end
end L2

set_option linter.all false
namespace L2
open PySem PySem.W PyProof.Rows
section
variable {M : Model} {A : Around} {E : Value → Shared → Prop}
variable {nm q : Str} {C N : Addr} {bs bm : List Value} {hdct : Bool} {sn : List Str} {sub : List Value} {ab : Bool} {col : Option Bool} {dd : Option Addr} {k0 k1 k2 k3 k5 : Option Value} {newId : String}
variable {nm' q' : Str} {C0 N' : Addr} {bs' bm0 : List Value} {hdct' : Bool} {sn' : List Str} {sub' : List Value} {ab' : Bool} {col' : Option Bool} {dd' : Option Addr} {j0 j1 j2 j3 j5 : Option Value} {newId' : String}
/-- an own class catches what is of a class below it -/
theorem excMatches_below {h : Heap} {g : Array GenState} {d : Drawn} {t : Nat} {os : OsState} {e : Addr} {oe : Obj} {Q : Bool → Shared → Prop}
    (hC : h.get? C = some (excClassObj nm q C N bs bm hdct sn sub ab col dd k0 k1 k2 k3 k5 newId)) (hC0 : h.get? C0 = some (excClassObj nm' q' C0 N' bs' bm0 hdct' sn' sub' ab' col' dd' j0 j1 j2 j3 j5 newId')) (he : h.get? e = some oe) (hcls : oe.cls = .ref C)
    (hbase : bm0.contains (.type "BaseException") = true) (hin : (Value.ref C :: bm).contains (.ref C0) = true) (hq : Q true ⟨h, g, d, t, os⟩) : wpAny M A (excMatches (.ref e) (.ref C0)) Q E ⟨h, g, d, t, os⟩ := by
  have hcB : (Value.ref C0 :: bm0).contains (.type "BaseException") = true := by rw [List.contains_cons, hbase, Bool.or_true]
  have f := tc_notTuple
  unfold excMatches
  repeat (first | (with_reducible refine wpAny_loadPart_at he ?_; rw [hcls]) | with_reducible refine wpAny_loadPart_at hC0 ?_ | (with_reducible refine wpAny_isSubtype_exc hC0 ?_; rw [hcB]) | (with_reducible refine wpAny_isSubtype_exc hC ?_; rw [hin]) | wp_step)
  exact hq
end
section
variable {X : Cx} {pins : List (Addr × Obj)} {σ : St} {H : Hp} {s : Shared}
/-- behind a suite with `as` its name is gone -/
theorem goes_ok {M : Model} {A : Around} {E : Value → Shared → Prop} {i : Nat} {n : Str} {pos : Pos} {Q : Unit → Shared → Prop} (I : Inv X pins σ H s) (hN : X.N.Nodup) (hi : X.N[i]? = some n) (hk : X.env.kindOf n = some .local)
    (h : ∀ s', Inv X pins (σ.set i none) H s' → Q () s') : wpAny M A (do bindName X.env n .none; unbindBehindTheSuite X.env n pos) Q E s := by
  obtain ⟨m, hn, hl⟩ := id I.loc
  have up : ∀ {b : Addr} {o : Obj}, X.s₀.heap.get? b = some o → b ≠ X.env.locals := fun e => Nat.ne_of_lt (Nat.lt_of_lt_of_le (Heap.lt_size e) I.ok.above)
  refine wpAny_nameGoes_keeps hk hn (by rw [I.ok.kind]; rfl) fun h' v hn' hs => h _ ?_
  have kp : ∀ {b : Addr} {o : Obj}, b ≠ X.env.locals → s.heap.get? b = some o → h'.get? b = some o := fun nb e => (hs.2 _ nb).trans e
  have nl : ∀ {b : Addr} {u : HO}, H b = some u → b ≠ X.env.locals := fun q z => by rw [z, I.free] at q; cases q
  refine ⟨I.ok, I.os, I.bare, ⟨fun b o e q hb hx => kp (up e) (I.base.keep b o e q hb hx), fun b o e q hb hx => ?_, I.base.free, fun b o e hx => ?_, I.base.tups, I.base.frzs, I.base.tbls⟩, ⟨_, hn', fun j y v' e1 e2 e3 => ?_⟩, fun y c e => ?_, I.free, I.freeC, fun p hp => ?_,
    fun b u q => (I.hok b u q).stay (fun c w' hc r => kp ?_ r) (fun _ z => z) fun _ _ z => z, by simpa using I.len⟩
  · obtain ⟨sl, e1⟩ := I.base.slot b o e q hb hx
    exact ⟨sl, kp (up e) e1⟩
  · obtain ⟨o', e1⟩ := I.base.there b o e hx
    exact ⟨o', kp (up e) e1⟩
  · have hj : j ≠ i := fun z => by
      subst z
      by_cases hlt : j < σ.length
      · rw [List.getElem?_set_self hlt] at e2; cases e2
      · rw [List.getElem?_eq_none (by rw [List.length_set]; omega)] at e2; cases e2
    rw [List.getElem?_set_ne (Ne.symm hj)] at e2
    obtain ⟨u', r', q⟩ := hl j y v' e1 e2 e3
    refine ⟨u', r', ?_⟩
    rcases q with ⟨k, e⟩ | ⟨k, c, e, z⟩
    · refine .inl ⟨k, ?_⟩
      have : y ≠ n := fun e => hj (nodup_ix hN e1 (e ▸ hi))
      simp [this, e]
    · exact .inr ⟨k, c, e, z.sameBut hs (I.cne y c e)⟩
  · obtain ⟨w', z⟩ := I.cell y c e
    exact ⟨w', z.sameBut hs (I.cne y c e)⟩
  · obtain ⟨p1, p2, p3, p4, p5⟩ := I.pin p hp
    exact ⟨kp p3 p1, p2, p3, p4, p5⟩
  · rcases hc with rfl | hc
    · exact nl q
    · exact nl hc
/-- the context of a suite that handles the exception at a -/
abbrev Cx.held (X : Cx) (a : Addr) : Cx := { X with A := X.A.mark (some (.ref a)), calm := false, xe := fun _ _ => False }
theorem Inv.hold (I : Inv X pins σ H s) (a : Addr) : Inv (X.held a) pins σ H s :=
  ⟨⟨I.ok.mod, I.ok.kind, I.ok.glob, I.ok.blt, I.ok.above, I.ok.inj, I.ok.has, I.ok.cab, (fun z => nomatch z), I.ok.frames, I.ok.stk, I.ok.exf, I.ok.bs, I.ok.bsz, I.ok.noex, I.ok.exfs, I.ok.funs, I.ok.frf⟩, I.os, I.bare, I.base, I.loc, I.cell, I.free, I.freeC, I.pin, I.hok, I.len⟩
theorem Inv.unhold {a : Addr} (ok : X.Ok) (I : Inv (X.held a) pins σ H s) : Inv X pins σ H s := ⟨ok, I.os, I.bare, I.base, I.loc, I.cell, I.free, I.freeC, I.pin, I.hok, I.len⟩
end
end L2

set_option linter.all false
set_option maxRecDepth 100000
namespace L2
open PySem PySem.W PyProof.Rows
theorem CXW.step {P : Program} {w : World} {outer : List Env} {H : Hp} {s s' : Shared} {E : XK} {a : Addr} (c : CXW P w outer H s E (.ref a) s') :
    ∃ B C a0, Heap.FlyingW B outer a (.ref C) a0 s'.heap ∧ ∀ h', Heap.FlyingW B outer a (.ref C) a0 h' → s'.heap.UpToSlots h' → CXW P w outer H s E (.ref a) { s' with heap := h' } := by
  obtain ⟨a1, C, a0, H', B, e1, os, bare, un, hok, fl, c1, c2, c3, ee⟩ := c
  cases e1
  exact ⟨B, C, a0, fl, fun h' fl' up => cxw_of (s' := { s' with heap := h' }) un hok up fl' (fun b hb => (fl.2.2.1.mem hb).2) c1 c2 c3 os bare ee⟩
/-- the class at C is the one at C0 or below it -/
def belowIn (K : Frag) (C C0 : Addr) : Bool := match K.lookup C with
  | some ⟨_, _, .cls cd, _⟩ => cd.mro.contains (.ref C0)
  | _ => false
/-- try: f(..) except C0 as the i-th name: .. -/
def tTry (sp : Sp) (K : Frag) (C0 : Addr) (i : Nat) (t : TA) (ts : TS) : TS := fun D σ H => t σ H fun vs H1 => sp vs H1 (fun _ H2 => D.nx σ H2) fun cls _ H2 => ∃ C bm nid, cls = .ref C ∧ excIn K C bm nid = true ∧ belowIn K C C0 = true ∧
  ∀ a, H2 a = none → ts { nx := fun σ' H' => D.nx (σ'.set i none) H', rt := D.rt, bk := fun σ' H' => D.bk (σ'.set i none) H', ct := fun σ' H' => D.ct (σ'.set i none) H' } (σ.set i (some (.ref a))) (upd H2 a (excO a C))
section
variable {X : Cx} {k : Nat} {f : Addr} {fd : FuncData} {ps : List Str} {sp : Sp} {x c n : Str} {p cpos epos np hpos pos : Pos} {e : Expr} {es : List Expr} {b₀ : Stmt} {suite : List Stmt} {t : TA} {ts : TS} {i : Nat} {C0 : Addr} {bmB : List Value} {newId : String}
theorem ps_try (F : FnOk X.prog X.w X.K X.mg X.base (CXW X.prog X.w) k f fd ps sp) (hr : Room k X.A) (hg : Gl X x) (hm : X.mg x = some (.ref f)) (hk : PySem.W.keepIn X.K (.ref f) = true) (hb : Binds X.K fd ps []) (ha : PA X.nox (e :: es) t)
    (hstk : X.stack = X.env :: X.outer) (hfr : X.env.frame = some X.env.locals) (hex : X.ex = [])
    (hgc : Gl X c) (hmc : X.mg c = some (.ref C0)) (hq0 : excIn X.K C0 bmB newId = true) (hbB : bmB.contains (.type "BaseException") = true) (hN : X.N.Nodup) (hi : X.N[i]? = some n) (hl : X.env.kindOf n = some .local) (hln : X.env.scope.names.lookup n = some .local)
    (hs : ∀ a, PSs (X.held a) (b₀ :: suite) ts) (hdb : (x == ("__debug__" : Str)) = false := by decide) (hdc : (c == ("__debug__" : Str)) = false := by decide)
    (he : starEach (e :: es) X.env = (false, eval e X.env) :: starEach es X.env := by rfl) (hpl : (backTo cpos (starEach es X.env)).any (·.1) = false := by rfl)
    (hsw : swapsWith (.Call (.Name x p) (e :: es) [] cpos) none epos.line X.env = pure false := by rfl) :
    PS X (.Try [.Expr (.Call (.Name x p) (e :: es) [] cpos) epos] [.ExceptHandler (some (.Name c np)) (some n) (b₀ :: suite) hpos] [] [] pos) (tTry sp X.K C0 i t ts) := by
  intro pins s σ H D I h
  refine wpAny_Try_except ?_
  refine wpAny_execs_cons (wpAny_Expr_any (wpAny_Call_Name_kw (ld_glob I hg hm ?_ hdb)) I.quiet hsw)
  refine PySem.W.callWith_K (h₀ := X.base) I.ok.mod.kin hk (wpAny_mono (ha cpos pins s σ H _ (I.wish _) h) (fun us s1 hq => ?_) fun _ _ z => z.elim) he hpl
  obtain ⟨vs, H1, I1, r, q⟩ := hq
  replace I1 : Inv X pins σ H1 s1 := I1.unwish
  refine ⟨I1.kIn, thn (run_fnE (dvs := []) (Q := fun _ H2 => D.nx σ H2) F hr hb .nil I1 r (by rw [List.append_nil]; exact q) ?_) ?_⟩
  · -- an exception
    intro ex s' cx
    obtain ⟨a, C, a0, H', B, rfl, os, bare, un, hok, fl, c1, c2, c3, C', bm, nid, eC, hexc, hbel, hgo⟩ := cx
    cases eC
    obtain ⟨na, n1, _⟩ := CXW.new (E := fun _ _ _ => True) (s := s1) hok fl c2 c3
    have cx : CXW X.prog X.w X.stack H1 s1 (fun cls _ H2 => cls = .ref C ∧ H2 = H') (.ref a) s' := ⟨a, C, a0, H', B, rfl, os, bare, un, hok, fl, c1, c2, c3, rfl, rfl⟩
    clear fl c1 c2 c3 un hok
    have inv : ∀ {s5 : Shared}, CXW X.prog X.w X.stack H1 s1 (fun cls _ H2 => cls = .ref C ∧ H2 = H') (.ref a) s5 → Inv X pins σ H' s5 ∧ ∃ oe ws, s5.heap.get? a = some oe ∧ oe.cls = .ref C ∧ oe.data = .fields ws := fun {s5} cx => by
      obtain ⟨a1, C1, _, H5, B5, e1, os, bare, un, hok, fl, c1, c2, c3, e2, e3⟩ := cx
      cases e1; cases e2; subst e3
      exact ⟨I1.call' os un hok bare fun b z => absurd z (by simp), (CXW.new (E := fun _ _ _ => True) (s := s1) hok fl c2 c3).2.2⟩
    obtain ⟨B4, C4, a4, fl4, st4⟩ := cx.step
    rw [hstk] at fl4 st4
    refine wpAny_looks_onW (by rw [I.ok.frames, hstk]) hfr fl4 fun h₄ held₄ up₄ => ?_
    refine wpAny_landsW held₄ fun h₅ fl₅ up₅ => ?_
    have cx5 := st4 h₅ fl₅ (up₄.trans up₅)
    rw [← hstk] at cx5
    obtain ⟨J5, oe, ws, he5, hc5, hd5⟩ := inv cx5
    refine wpAny_handleBy_cons (codeAny_handlers_test (ld_glob (X := X.held a) (J5.hold a) hgc hmc ?_ hdc)) (by intro q; cases q)
    obtain ⟨tl, N1, nm, q1, bs, hdct, sn, sub, ab, col, dd, k0, k1, k2, k3, k5, mN, hC, hN1, hni, T⟩ := (own_in (x := c) (mg := fun _ => some (.ref C)) J5.kIn rfl hexc).obj
    obtain ⟨tl', N1', nm', q1', bs', hdct', sn', sub', ab', col', dd', j0, j1, j2, j3, j5, mN', hC', hN1', hni', T'⟩ := (own_in J5.kIn hmc hq0).obj
    have hin : (Value.ref C :: tl).contains (.ref C0) = true := by
      unfold belowIn at hbel
      split at hbel
      · rename_i ho
        have := J5.kIn _ _ ho
        rw [hC] at this
        cases this
        exact hbel
      · cases hbel
    refine excMatches_below hC hC' he5 hc5 (T'.hasType hbB) hin (codeAny_handlers_suite_as ?_)
    obtain ⟨B6, C6, a6, fl6, st6⟩ := cx5.step
    refine lands_againW fl6 fun h₆ fl₆ up₆ => ?_
    obtain ⟨J6, oe6, ws6, he6, hc6, hd6⟩ := inv (st6 h₆ fl₆ up₆)
    have J7 := Inv.adopt (C := C) I1 n1 (by rw [hex]; simp) J6 na he6 hc6 hd6
    refine store_ok (X := X.held a) (v := .ref a) (J7.hold a) hN hi (.inl hln) rfl (fun s8 J8 => ?_) (.inr hln)
    refine wpAny_mono (hs a pins s8 _ _ _ J8 (hgo a na)) (fun fl9 s9 q9 => ?_) fun _ _ z => z.elim
    cases fl9 with
    | next => obtain ⟨σ', H9, J9, q9⟩ := q9; exact goes_ok (J9.unhold I.ok) hN hi hl fun s' K' => ⟨_, _, K', q9⟩
    | brk => obtain ⟨σ', H9, J9, q9⟩ := q9; exact goes_ok (J9.unhold I.ok) hN hi hl fun s' K' => ⟨_, _, K', q9⟩
    | cont => obtain ⟨σ', H9, J9, q9⟩ := q9; exact goes_ok (J9.unhold I.ok) hN hi hl fun s' K' => ⟨_, _, K', q9⟩
    | ret u => obtain ⟨v, σ', H9, J9, r9, q9⟩ := q9; exact goes_ok (J9.unhold I.ok) hN hi hl fun s' K' => ⟨v, _, _, K', r9, q9⟩
  · rintro v s2 ⟨v', H2, I2, r2, q2⟩
    exact wpAny_execs_nil (wpAny_execs_nil ⟨σ, H2, I2, q2⟩)
end
end L2

set_option linter.all false
set_option maxRecDepth 100000
namespace L2
open PySem PySem.W PySem.Spec PySem.Calls PyProof.Rows
section
variable {prog : Program} {w : World} {A : Around} {E : Value → Shared → Prop} {h : Heap} {g : Array GenState} {d : Drawn} {t : Nat} {os : OsState} {K : Frag} {a C : Addr} {o : Obj}
theorem exc_class_get {R : Result → Shared → Prop} (X : K.In h) (hx : h.get? a = some o) (hc : o.cls = .ref C) (hm : mroIn K C (.type "object") = some true) (hq : R (.ok (.ret (.ref C))) ⟨h, g, d, t, os⟩) :
    codeAny (model prog w) A (.call (.builtin "getset_descriptor.__get__") ⟨[.builtin "object.__class__", .ref a, .ref C], []⟩) R ⟨h, g, d, t, os⟩ := by
  have L1 : Looks (model prog w) h (isSubtype (.ref C) (.type (".".intercalate ("object.__class__".cutAt '.').dropLast))) true := by
    rw [show ".".intercalate ("object.__class__".cutAt '.').dropLast = "object" by decide +kernel]
    exact looks_mroIn (M := model prog w) X hm
  have hT5 : (⟨h, g, d, t, os⟩ : Shared).TypeIs (.builtin "object.__class__") "getset_descriptor" := F.typeOf_object_class
  refine codeAny_call_builtin F.slot_gs_get.plain F.entry_gs_get (F.slot_gs_get.check _ _ _ _ _ _ _ _ hT5 (F.args_gs_get _ _ _) ?_)
  repeat (any_goals (first | assumption | (with_reducible refine wpAny_loadPart_at hx ?_; rw [hc]) | with_reducible refine L1.at ?_ | wp_step))
  refine ⟨Code.quiet_builtin _ (by decide +kernel), codeAny_builtin F.entry_object_class ?_⟩
  repeat (any_goals (first | assumption | (with_reducible refine wpAny_loadPart_at hx ?_; rw [hc]) | wp_step))
theorem exc_class_entry {tk : Tok} {Q : Fin → Shared → Prop} (X : K.In h) (hx : h.get? a = some o) (hc : o.cls = .ref C) (hm : mroIn K C (.type "object") = some true) (hk : findIn K (.ref C) "__class__" = some (some (.builtin "object.__class__")))
    (hq : Q (.done (.ret (.ref C))) ⟨h, g, d, t, os⟩) : wpAny (model prog w) A (Builtin.«object.__getattribute__» ⟨[.ref a, .str "__class__" tk], []⟩) Q E ⟨h, g, d, t, os⟩ := by
  have L2 := looks_findIn (M := model prog w) X hk
  have hT5 : (⟨h, g, d, t, os⟩ : Shared).TypeIs (.builtin "object.__class__") "getset_descriptor" := F.typeOf_object_class
  have f5 := F.typeOf_object_class
  have f6 := F.slot_gs_get.lookup
  have f7 := F.slot_gs_set.lookup
  repeat (any_goals (first | assumption | (with_reducible refine wpAny_loadPart_at hx ?_; rw [hc]) | with_reducible refine L2.at ?_ | wp_step))
  refine exc_class_get X hx hc hm ?_
  repeat (any_goals (first | assumption | wp_step))
theorem exc_check_ga {M : Model} {nameV : Value} {Q : Unit → Shared → Prop} (X : K.In h) (hx : h.get? a = some o) (hc : o.cls = .ref C) (hB : mroIn K C (.type "BaseException") = some true) (hq : Q () ⟨h, g, d, t, os⟩) :
    wpAny M A (checkBuiltinCall "BaseException.__getattribute__" ⟨[.ref a, nameV], []⟩) Q E ⟨h, g, d, t, os⟩ := by
  have hk : builtinKind "BaseException.__getattribute__" = some .slot := by decide +kernel
  have hsplit : splitId "BaseException.__getattribute__" = some ("BaseException", "__getattribute__") := by decide +kernel
  have L1 := looks_mroIn (M := M) X hB
  have ha := F.args_bexc_ga (.ref a) nameV
  simp only [checkBuiltinCall, hk, hsplit]
  refine wpAny_bind ?_
  unfold isInstance
  repeat (first | (with_reducible refine wpAny_loadPart_at hx ?_; rw [hc]) | with_reducible refine L1.at ?_ | wp_step)
  exact hq
/-- what the fragment tells of an own exception class, for isinstance -/
structure ExcIsi (K : Frag) (C : Addr) : Prop where
  obj : mroIn K C (.type "object") = some true
  base : mroIn K C (.type "BaseException") = some true
  cls : findIn K (.ref C) "__class__" = some (some (.builtin "object.__class__"))
  ga : findIn K (.ref C) "__getattribute__" = some (some (.builtin "BaseException.__getattribute__"))
  no : findIn K (.ref C) "__getattr__" = some none
theorem exc_class_by {tk : Tok} {Q : Value → Shared → Prop} (X : K.In h) (hx : h.get? a = some o) (hc : o.cls = .ref C) (F1 : ExcIsi K C) (hq : Q (.ref C) ⟨h, g, d, t, os⟩) :
    wpAny (model prog w) A (getAttrBy (.ref a) (.str "__class__" tk) false) Q E ⟨h, g, d, t, os⟩ := by
  have L1 := looks_findIn (M := model prog w) X F1.ga
  have L2 := looks_findIn (M := model prog w) X F1.no
  have f3 := F.attr_ValueError.ga.bind (.ref a)
  have hx2 : (Value.builtin "BaseException.__getattribute__" == Value.builtin "object.__getattribute__") = false := by decide +kernel
  have hx1 : (onTheHeap (Value.ref C) && Value.builtin "BaseException.__getattribute__" == Value.builtin "object.__getattribute__") = false := by rw [hx2]; rfl
  repeat (any_goals (first | assumption | (with_reducible refine wpAny_loadPart_at hx ?_; rw [hc]) | with_reducible refine L1.at ?_ | with_reducible refine L2.at ?_ | wp_step))
  refine codeAny_call_builtin F.attr_ValueError.ga.plain F.entry_bexc_ga (exc_check_ga X hx hc F1.base (exc_class_entry X hx hc F1.obj F1.cls ?_))
  repeat (any_goals (first | assumption | wp_step))
theorem exc_class_attr {Q : Option Value → Shared → Prop} (X : K.In h) (hx : h.get? a = some o) (hc : o.cls = .ref C) (F1 : ExcIsi K C) (hq : Q (some (.ref C)) ⟨h, g, d, t + 1, os⟩) :
    wpAny (model prog w) A (getAttr? (.ref a) "__class__") Q E ⟨h, g, d, t, os⟩ := by
  unfold getAttr? getAttrBy?
  repeat (any_goals (first | assumption | with_reducible apply exc_class_by X hx hc F1 | wp_step))
end
end L2

set_option linter.all false
set_option maxRecDepth 100000
namespace L2
open PySem PySem.W PySem.Spec PySem.Calls PyProof.Rows
theorem kitx_exc {K : Frag} {a C : Addr} (F1 : ExcIsi K C) : KitX K (.ref a) (.ref C) (fun h => ∃ o, h.get? a = some o ∧ o.cls = .ref C) := by
  have hc : ∃ cd, clsIn K C = some cd := by
    obtain ⟨cd, h, _⟩ := Option.bind_eq_some_iff.mp F1.obj
    exact ⟨cd, h⟩
  have ho : ∃ c' d' cd' sl', K.lookup C = some ⟨c', d', .cls cd', sl'⟩ := by
    obtain ⟨cd, h⟩ := hc
    unfold clsIn at h
    split at h
    · rename_i ho; exact ⟨_, _, _, _, ho⟩
    · cases h
  obtain ⟨c', d', cd', sl', ho⟩ := ho
  refine ⟨fun _ _ _ ⟨o, hx, hc⟩ => hc ▸ (Looks.ld hx).andThen .now, fun _ _ X _ => ?_, fun h tp dd its n sl X htp => ?_, fun {prog w A E Q s} X p k => ?_⟩
  · intro A' Q' E' s' k q
    unfold isType loadHead
    exact wpAny_bind (wpAny_loadPart (k _ _ (X _ _ ho)) (wpAny_pure q))
  · refine Bool.eq_false_iff.mpr fun q => ?_
    have e : C = tp := Value.ref.inj (beq_iff_eq.mp q)
    subst e
    have z := (X _ _ ho).symm.trans htp
    cases z
  · obtain ⟨o, hx, hc⟩ := p
    obtain ⟨h, g, d, t, os⟩ := s
    exact exc_class_attr X hx hc F1 k
section
variable {X : Cx}
/-- isinstance(e, C0), e a caught exception, C0 an own class or a built-in one -/
theorem call_isiE : CallR X (.builtin "isinstance") (fun xs H Q => ∃ a C c v b, xs = [.ref a, v] ∧ H a = some (excO a C) ∧ ExcIsi X.K C ∧ ((v = .ref c ∧ PySem.W.kitOne X.K (.ref C) (.ref c) = some b) ∨ (∃ T, v = .ty T ∧ PySem.W.kitOne X.K (.ref C) (.type T) = some b)) ∧ Q (.bl b) H) := by
  intro pins s σ H xs us Q I r h
  obtain ⟨a, C, c, v, b, rfl, ha, F1, alt, q⟩ := h
  obtain ⟨u, w', rfl, rx, ry⟩ := vals2 r
  cases (show u = Value.ref a from rx)
  obtain ⟨⟨oe, ws, h1, h2, _⟩, _⟩ := I.hok a _ ha
  rcases alt with ⟨rfl, e⟩ | ⟨T, rfl, e⟩
  · cases (show w' = Value.ref c from ry)
    exact PySem.W.kia_one (kitx_exc F1) I.kIn ⟨oe, h1, h2⟩ e (fun z => nomatch z) fun tk => ⟨.bl b, H, I.tok tk, rfl, q⟩
  · cases (show w' = Value.type T from ry)
    exact PySem.W.kia_one (kitx_exc F1) I.kIn ⟨oe, h1, h2⟩ e (fun z => nomatch z) fun tk => ⟨.bl b, H, I.tok tk, rfl, q⟩
theorem vals_refs : ∀ {cs : List Addr} {us : List Value}, Vals (cs.map V.ref) us → us = cs.map Value.ref
  | [], _, .nil => rfl
  | c :: cs, u :: us, .cons r t => by
    cases (show u = Value.ref c from r)
    rw [List.map_cons, vals_refs t]
/-- isinstance(e, (C1, ..)), own classes -/
theorem call_isiEs : CallR X (.builtin "isinstance") (fun xs H Q => ∃ (a C p : Addr) (cs : List Addr) (b : Bool), xs = [.ref a, .ref p] ∧ H a = some (excO a C) ∧ H p = some (.tup (cs.map V.ref)) ∧ ExcIsi X.K C ∧ PySem.W.kitAny X.K (.ref C) (cs.map Value.ref) = some b ∧ Q (.bl b) H) := by
  intro pins s σ H xs us Q I r h
  obtain ⟨a, C, p, cs, b, rfl, ha, hp, F1, e, q⟩ := h
  obtain ⟨u, w', rfl, rx, ry⟩ := vals2 r
  cases (show u = Value.ref a from rx)
  cases (show w' = Value.ref p from ry)
  obtain ⟨⟨oe, ws, h1, h2, _⟩, _⟩ := I.hok a _ ha
  obtain ⟨_, its, rv, o, ho, hc, n, hd⟩ := I.hok p _ hp
  have := vals_refs rv
  subst this
  obtain ⟨oc, od, odt, osl⟩ := o
  simp only at hc hd
  subst hc hd
  exact PySem.W.kia_tup (kitx_exc F1) I.kIn ⟨oe, h1, h2⟩ ho e (fun z => nomatch z) fun tk => ⟨.bl b, H, I.tok tk, rfl, q⟩
end
end L2

set_option linter.all false
set_option maxRecDepth 100000
namespace L2
open PySem PySem.W PySem.Spec PySem.Calls PyProof.Rows
/-- room, though an exception is being handled -/
structure RoomU (k : Nat) (A : Around) : Prop where
  dp : A.depth + 3 * k + 5 < recursionLimit
  un : A.units + 16 * k + 200 < cLine
theorem Room.u {k : Nat} {A : Around} (r : Room k A) (h : Option Value) : RoomU k (A.mark h) := ⟨r.dp, r.un⟩
/-- a def that may be called from a suite that handles an exception -/
structure FnOkU (P : Program) (w : World) (K : PySem.W.Frag) (mg : Str → Option Value) (base : Heap) (k : Nat) (f : Addr) (fd : FuncData) (ps : List Str) (sp : Sp) : Prop where
  len : ∀ vs H Q E, sp vs H Q E → vs.length = ps.length
  run : ∀ (A : Around) (outer : List Env) (s : Shared) (H : Hp) (args : Args) (us : List Value) (vs : List V) (Q : VK) (E : XK), RoomU k A → Env0 P w K mg base A outer s H → BindsTo s fd args (ps.zip us) → Vals vs us → sp vs H Q E →
    codeAny (model P w) A (.call (.ref f) args) (CR CX0 outer P w H s Q E) s
/-- the body's context -/
abbrev cxU (P : Program) (w : World) (K : PySem.W.Frag) (mg : Str → Option Value) (base : Heap) (N : List Str) (qual : Str) (scope : Scope) (f : Addr) (cd : Value) (A : Around) (outer : List Env) (s : Shared) (H : Hp) : Cx :=
  { cxOf CX0 P w K mg base N qual scope f cd A outer s H E0 with calm := false, xe := fun _ _ => False }
theorem Fun.okU {P : Program} {w : World} {K : PySem.W.Frag} {mg : Str → Option Value} {base : Heap} {x qual : Str} {st : Stmt} {f : Addr} {fd : FuncData} {N ps : List Str} {k : Nat} {sp : Sp} (F : Fun K x qual st f fd) (S : FnScope N ps (defScope st)) (len : ∀ vs H Q E, sp vs H Q E → vs.length = ps.length)
    (hbody : ∀ (cdv : Value) (A : Around) (outer : List Env) (s : Shared) (H : Hp) (vs : List V) (Q : VK) (E : XK), RoomU k (A.deeper (envOfC qual (defScope st) s.heap.objs.size f cdv)) → sp vs H Q E →
      ∃ t, PSs (cxU P w K mg base N qual (defScope st) f cdv A outer s H) (defBody st) t ∧ t { nx := fun _ H' => Q .non H', rt := Q } (start N vs) H) : FnOkU P w K mg base (k + 1) f fd ps sp := by
  obtain ⟨oc, od, kV, doc, pm, an, cdv, ct, osl, rfl, lk, hcd⟩ := F.ex
  refine ⟨len, fun A outer s H args us vs Q E hr e0 hb r hsp => ?_⟩
  have KX : K.In s.heap := e0.mod.kin.keeps fun b o e => (e0.bs b o e).1
  refine codeAny_call_function (by have := hr.dp; omega) (KX _ _ lk) rfl S.co S.gen rfl (PySem.W.codeRec_of KX hcd) (hb _ _ _ _ ?_)
  refine wpAny_newFunctionEnv_cells S.kind (fun y hy => ?_) fun env he s1 x1 => ?_
  · rcases S.par y.1 (List.of_mem_zip (show (y.1, y.2) ∈ ps.zip us from hy)).1 with q | q
    · exact .inl q
    · exact .inr ⟨q, PySem.W.cellsFrom_some _ _ _ (.inl q)⟩
  subst he
  refine ⟨(e0.mod.nolimit.keeps fun b o e => (e0.bs b o e).1).keeps x1.toInCall.keep, codeAny_func ?_⟩
  have e0' : Env0 P w K mg base { A with handled := none } outer s H := ⟨e0.frames, e0.mod, e0.bs, e0.bsz, e0.funs, e0.frf, e0.hok, e0.bare⟩
  have I0 := inv_start (CX := CX0) (E := E0) (A := { A with handled := none }) (cd := cdv) (f := f) (qual := qual) S rfl e0' (len _ _ _ _ hsp) r x1
  have I : Inv (cxU P w K mg base N qual (defScope st) f cdv A outer s H) [] (start N vs) H s1 :=
    ⟨⟨I0.ok.mod, I0.ok.kind, I0.ok.glob, I0.ok.blt, I0.ok.above, I0.ok.inj, I0.ok.has, I0.ok.cab, (fun z => nomatch z), I0.ok.frames, I0.ok.stk, I0.ok.exf, I0.ok.bs, I0.ok.bsz, I0.ok.noex, I0.ok.exfs, I0.ok.funs, I0.ok.frf⟩, I0.os, I0.bare, I0.base, I0.loc, I0.cell, I0.free, I0.freeC, I0.pin, I0.hok, I0.len⟩
  obtain ⟨t, ht, hq⟩ := hbody cdv A outer s H vs Q E ⟨by have := hr.dp; show A.depth + 1 + 3 * k + 5 < _; omega, by have := hr.un; show A.units + 3 + 16 * k + 200 < _; omega⟩ hsp
  refine wpAny_mono (ht [] s1 (start N vs) H _ I hq) (fun fl s' hs => ?_) fun e s' hs => hs.elim
  match fl, hs with
  | .ret u, ⟨v, σ', H', J, rv, q⟩ => exact ⟨v, H', J.os, J.bare, J.base, J.hok, rv, q⟩
  | .next, ⟨σ', H', J, q⟩ => exact ⟨.non, H', J.os, J.bare, J.base, J.hok, rfl, q⟩
  | .brk, ⟨_, _, _, q⟩ => exact q.elim
  | .cont, ⟨_, _, _, q⟩ => exact q.elim
/-- a call of such a def from a suite -/
theorem pe_callU {X : Cx} {k : Nat} {f : Addr} {fd : FuncData} {ps : List Str} {sp : Sp} {x : Str} {p pos : Pos} {e : Expr} {es : List Expr} {t : TA} (F : FnOkU X.prog X.w X.K X.mg X.base k f fd ps sp) (hr : RoomU k X.A) (hg : Gl X x) (hm : X.mg x = some (.ref f)) (hk : PySem.W.keepIn X.K (.ref f) = true)
    (hb : Binds X.K fd ps []) (ha : PA X (e :: es) t) (hdb : (x == ("__debug__" : Str)) = false := by decide) (he : starEach (e :: es) X.env = (false, eval e X.env) :: starEach es X.env := by rfl) (hpl : (backTo pos (starEach es X.env)).any (·.1) = false := by rfl) :
    PE X (.Call (.Name x p) (e :: es) [] pos) (tCall sp [] E0 t) := by
  intro pins s σ H Q I h
  refine wpAny_Call_Name_kw (ld_glob I hg hm ?_ hdb)
  refine PySem.W.callWith_K (h₀ := X.base) I.ok.mod.kin hk (thn (ha pos pins s σ H _ I h) fun us s1 ⟨vs, H1, I1, r, q⟩ => ⟨I1.kIn, ?_⟩) he hpl
  replace q : sp (vs ++ []) H1 Q E0 := q
  rw [List.append_nil] at q
  have r2 : (us ++ ([] : List Value)).length = ps.length := by rw [List.append_nil, ← r.length]; exact F.len _ _ _ _ q
  have b := hb s1 us I1.kIn r2
  rw [List.append_nil] at b
  refine wpAny_call (codeAny_mono (F.run X.A X.stack s1 H1 ⟨us, []⟩ us vs Q E0 hr I1.env0 b r q) fun res s' hq => ?_)
  match res, hq with
  | .error e, hq => exact hq.elim
  | .ok (.ret u), hq => exact I1.after hq
  | .ok .next, hq => exact hq.elim
  | .ok .brk, hq => exact hq.elim
  | .ok .cont, hq => exact hq.elim
end L2

set_option linter.all false
set_option maxRecDepth 100000
namespace L2
open PySem PySem.W PySem.Spec PySem.Calls PyProof.Rows
abbrev bmVE : List Value := [.type "ValueError", .type "Exception", .type "BaseException", .type "object"]
/-- the classes at cs stand below the one at pe, each beside the others -/
def clsAll (K : Frag) (pe : Addr) (cs : List Addr) : Bool := decide cs.Nodup && excIn K pe bmVE "ValueError.__new__" && cs.all fun c => excIn K c bmVE "ValueError.__new__" && belowIn K c pe && (mroIn K c (.type "object") == some true) && (mroIn K c (.type "BaseException") == some true) &&
  (findIn K (.ref c) "__class__" == some (some (.builtin "object.__class__"))) && (findIn K (.ref c) "__getattribute__" == some (some (.builtin "BaseException.__getattribute__"))) && (findIn K (.ref c) "__getattr__" == some none) &&
  (kitOne K (.ref c) (.type "ValueError") == some true) && cs.all fun c' => kitOne K (.ref c) (.ref c') == some (c == c')
structure ClsAt (K : Frag) (pe : Addr) (cs : List Addr) (c : Addr) : Prop where
  exc : excIn K c bmVE "ValueError.__new__" = true
  below : belowIn K c pe = true
  isi : ExcIsi K c
  ve : kitOne K (.ref c) (.type "ValueError") = some true
  each : ∀ c' ∈ cs, kitOne K (.ref c) (.ref c') = some (c == c')
theorem cls_nd {K : Frag} {pe : Addr} {cs : List Addr} (h : clsAll K pe cs = true) : cs.Nodup := by
  unfold clsAll at h
  rw [Bool.and_assoc, Bool.and_eq_true] at h
  exact of_decide_eq_true h.1
theorem cls_at {K : Frag} {pe : Addr} {cs : List Addr} (h : clsAll K pe cs = true) : excIn K pe bmVE "ValueError.__new__" = true ∧ ∀ c ∈ cs, ClsAt K pe cs c := by
  unfold clsAll at h
  simp only [Bool.and_eq_true, List.all_eq_true, beq_iff_eq] at h
  refine ⟨h.1.2, fun c hc => ?_⟩
  obtain ⟨⟨⟨⟨⟨⟨⟨⟨h1, h2⟩, h3⟩, h4⟩, h5⟩, h6⟩, h7⟩, h8⟩, h9⟩ := h.2 c hc
  exact ⟨h1, h2, ⟨h3, h4, h5, h6, h7⟩, h8, h9⟩
theorem kit_none {K : Frag} {t : Value} : ∀ {cs : List Value}, (∀ c ∈ cs, kitOne K t c = some false) → kitAny K t cs = some false
  | [], _ => rfl
  | c :: cs, h => by
    unfold kitAny
    rw [h c (.head _)]
    exact kit_none fun x hx => h x (.tail _ hx)
end L2

set_option linter.all false
set_option maxRecDepth 100000
namespace L2
open PySem PySem.W PySem.Spec PySem.Calls PyProof.Rows
/-- {i: v}, two whole numbers -/
def tD1 (i v : Int) : TE := fun _ H Q => ∀ a, H a = none → Q (.ref a) (upd H a (.dK [(.inl i, .int v)]))
end L2

set_option linter.all false
set_option maxHeartbeats 4000000
set_option maxRecDepth 100000
namespace L2
open PySem PySem.W PySem.Spec PySem.Calls PyProof.Rows
section
variable {X : Cx}
/-- != of two tuples of like lengths -/
def rNeT (K : PySem.W.Frag) : R2 := fun x y H Q => ∃ (p b : Addr) (xs ys : List V) (n : Nat) (e : Nat → Bool), x = .ref p ∧ y = .ref b ∧ SqT K H p xs ∧ SqT K H b ys ∧ n ≤ 60 ∧
  xs.length = ys.length ∧ (∀ i, i < xs.length → DEq K H n (xs.getD i .non) (ys.getD i .non) (e i)) ∧ Q (.bl (!(List.range xs.length).all e)) H
/-- a dict of one pair with itself -/
def rNeK : R2 := fun x y H Q => ∃ (p : Addr) (k v : Int), x = .ref p ∧ y = .ref p ∧ H p = some (.dK [(.inl k, .int v)]) ∧ Q (.bl false) H
end
end L2

set_option linter.all false
set_option maxHeartbeats 4000000
set_option maxRecDepth 100000
namespace L2
open PySem PySem.W PySem.Spec PySem.Calls PyProof.Rows
/-- {} -/
def tD0 : TE := fun _ H Q => ∀ a, H a = none → Q (.ref a) (upd H a (.dK []))
theorem pe_dict0 {X : Cx} {pos : Pos} : PE X (.Dict [] [] pos) tD0 := by
  intro pins s σ H Q I h
  refine wpAny_Dict_empty ?_
  refine ⟨.ref s.heap.objs.size, upd H s.heap.objs.size (.dK []), I.laid (t' := s.toks) (fun b u e => Heap.get?_push_of_some _ e) (Nat.le_refl _) ?_, rfl, h _ (I.hok.fresh (Nat.le_refl _))⟩
  refine ⟨by show 0 ≤ sizeLine; decide, beq_eq_false_iff_ne.mpr (Ne.symm (Nat.ne_of_lt (Nat.lt_trans (show sysModules < mainGlobals by decide) (let ⟨_, _, _, e, _⟩ := I.mod.glob.keeps I.bk; Heap.lt_size e)))), [], .nil, Heap.DictOf.new s.heap⟩
/-- an empty dict with itself -/
def rNeK0 : R2 := fun x y H Q => ∃ (p : Addr), x = .ref p ∧ y = .ref p ∧ H p = some (.dK []) ∧ Q (.bl false) H
end L2

-- CHANGE: your row's module here, as the last of these rows
set_option Elab.async false
set_option linter.all false
set_option maxRecDepth 100000
/-! THE HAND LAYER, for ints, bools, texts, own classes, DICTS (int and text keys), calls, loops. Paste it whole ahead of your own text; what your proof does not reach may be deleted. -/
namespace L2
open PySem PySem.Spec PyProof.Rows

end L2

namespace L2
open PySem PySem.Spec PyProof.Rows

section
variable (P : Program) (w : World)
end

section
variable {P : Program} {w : World} {H H' : Hp} {h h' : Heap} {a : Addr} {o : HO}
end

section
variable {P : Program} {w : World} {H : Hp} {h h' : Heap} {x e : Addr} {o' : HO}
end

section
variable {fs fs' ex ex' : List Addr} {H H1 H2 : Hp} {h h1 h2 h' : Heap} {a x e : Addr} {o : HO}
end

end L2

namespace L2
open PySem PySem.Spec PyProof.Rows

section
variable {X : Cx} {pins : List (Addr × Obj)} {σ : List (Option V)} {H H' : Hp} {s : Shared} {h' : Heap}

end

end L2

namespace L2
open PySem PySem.Spec PyProof.Rows
section
variable {X : Cx}

variable {a b : Expr} {ta tb : TE} {pos : Pos}
/-! ### and, or, not -/
variable {tA tB' : TT} {rest : List Expr}
end
end L2

namespace L2
open PySem PySem.Spec PyProof.Rows

section
variable {X : Cx} {pins : List (Addr × Obj)} {σ : St} {H : Hp} {s : Shared} {a : Addr} {xs ys : List V}
end

section
variable {X : Cx} {pins : List (Addr × Obj)} {σ : St} {H : Hp} {s : Shared} {E : Value → Shared → Prop}
end

/-! ### blocks and small statements -/
section
variable {X : Cx} {st : Stmt} {rest : List Stmt} {t u : TS} {e : Expr} {te : TE} {pos : Pos}
end

section
variable {X : Cx} {pos : Pos}
end

/-! ### while -/
section
variable {X : Cx} {pos : Pos}
end

end L2

namespace L2
open PySem PySem.Spec PyProof.Rows
section
variable {X : Cx} {tg : Expr}
end

end L2

namespace L2
open PySem PySem.Spec PyProof.Rows

section
variable {X : Cx} {a b c : Expr} {ta tb tc : TE} {pos : Pos}

end

section
variable {X : Cx} {a b c : Expr} {ta tb tc : TE} {pos : Pos}
end
end L2

namespace L2
open PySem PySem.Spec PyProof.Rows

section
variable {prog : Program} {w : World} {A : Around} {E : Value → Shared → Prop} {s : Shared} {K : PySem.W.Frag} {x dx C f : Addr} {mA : Str → Option Value} {name : Str} {v : Value}

end

section
variable {P : Program} {w : World} {H H' : Hp} {h h' : Heap} {a C dx : Addr} {fs fs' : List (Str × V)}
end

section
variable {X : Cx} {pins : List (Addr × Obj)} {σ : St} {H : Hp} {s : Shared} {a C dx : Addr} {fs : List (Str × V)} {f : Str} {v : V} {A : Around} {E : Value → Shared → Prop}

end

section
variable {X : Cx} {o e value : Expr} {f : Str} {pos pos' tpos : Pos} {ta tv : TE}
end

/-! ### isinstance -/
section
variable {X : Cx} {pins : List (Addr × Obj)} {σ : St} {H : Hp} {s : Shared} {A : Around} {E : Value → Shared → Prop} {Q : Value → Shared → Prop} {c : Value} {b : Bool}
end
end L2

namespace L2
open PySem PySem.Spec PyProof.Rows

section
variable {X : Cx} {e : Expr} {es : List Expr} {te : TE} {t : TA} {pos : Pos}
end

section
variable {X : Cx} {pins : List (Addr × Obj)} {σ : St} {H : Hp} {s s' : Shared}
end

section
variable {X : Cx} {CX : CXT} {k : Nat} {f C : Addr} {fd : FuncData} {ps : List Str} {sp : Sp} {dvs : List V} {ds : List Value} {E : XK} {x m : Str} {p pos apos : Pos} {e o : Expr} {es : List Expr} {ta : TE} {t : TA}

end

section
variable {X : Cx} {CX : CXT} {k : Nat} {f C : Addr} {fd : FuncData} {ps ks : List Str} {sp : Sp} {E : XK} {x m : Str} {p pos apos kpos : Pos} {e o : Expr} {es : List Expr} {kws : List Keyword} {te ta : TE} {t tk : TA} {nm : Option Str}
variable {g : List Value → List Value → List Value} {gV : List V → List V → List V}
end

end L2

namespace L2
open PySem PySem.Spec PyProof.Rows
section
variable {X : Cx} {x : Str} {p pos : Pos} {e : Expr} {es : List Expr} {t : TA} {id T : String} {r : List V → Hp → VK → Prop}

end
end L2

namespace L2
open PySem PySem.Spec PyProof.Rows

/-! ### lists of pairs as tables -/
section
variable {κ : Type} [DecidableEq κ]
def valV (kvs : List (κ × V)) (k : κ) : Option V := (kvs.find? fun kv => decide (kv.1 = k)).map (·.2)
/-- in its place, or at the end -/
def putK (kvs : List (κ × V)) (k : κ) (v : V) : List (κ × V) :=
  if (kvs.any fun kv => decide (kv.1 = k)) = true then kvs.map (fun kv => if kv.1 = k then (kv.1, v) else kv) else kvs ++ [(k, v)]
def dropK (kvs : List (κ × V)) (k : κ) : List (κ × V) := kvs.filter fun kv => decide (kv.1 ≠ k)

theorem valV_pos {p : κ × V} {r : List (κ × V)} {k : κ} (e : p.1 = k) : valV (p :: r) k = some p.2 := by simp [valV, List.find?_cons, e]
theorem valV_neg {p : κ × V} {r : List (κ × V)} {k : κ} (e : ¬ p.1 = k) : valV (p :: r) k = valV r k := by simp [valV, List.find?_cons, e]
theorem valV_any (k : κ) : ∀ kvs : List (κ × V), (kvs.any fun kv => decide (kv.1 = k)) = (valV kvs k).isSome
  | [] => rfl
  | p :: r => by
    rw [List.any_cons]
    by_cases e : p.1 = k
    · simp only [valV_pos e, decide_eq_true e, Bool.true_or, Option.isSome_some]
    · rw [valV_neg e, decide_eq_false e, Bool.false_or]; exact valV_any k r
theorem valV_snoc (k j : κ) (y : V) : ∀ kvs : List (κ × V), valV kvs k = none → valV (kvs ++ [(k, y)]) j = if j = k then some y else valV kvs j
  | [], _ => by
    by_cases e : k = j
    · rw [if_pos e.symm]; exact valV_pos (p := (k, y)) e
    · rw [if_neg (fun z => e z.symm)]; exact valV_neg (p := (k, y)) e
  | p :: r, hn => by
    rw [List.cons_append]
    have hk : ¬ p.1 = k := fun z => by rw [valV_pos z] at hn; cases hn
    rw [valV_neg hk] at hn
    have ih := valV_snoc k j y r hn
    by_cases e : p.1 = j
    · rw [valV_pos e, valV_pos e, if_neg (fun z => hk (e.trans z))]
    · rw [valV_neg e, valV_neg e, ih]
theorem length_putK (kvs : List (κ × V)) (k : κ) (v : V) : (putK kvs k v).length ≤ kvs.length + 1 := by
  unfold putK
  split
  · rw [List.length_map]; omega
  · rw [List.length_append, List.length_cons, List.length_nil]; omega
theorem putK_new {kvs : List (κ × V)} {k : κ} (v : V) (h : valV kvs k = none) : putK kvs k v = kvs ++ [(k, v)] := by
  unfold putK
  rw [valV_any, h]
  exact if_neg (by decide)

theorem RelO.isSome_eq {o : Option V} {u : Option Value} (r : RelO o u) : o.isSome = u.isSome := by
  cases o with
  | none => cases u with
    | none => rfl
    | some _ => exact (show False from r).elim
  | some _ => cases u with
    | none => exact (show False from r).elim
    | some _ => rfl
/-- raw tables of the same keys -/
theorem KV.val {kvs : List (κ × V)} {vs : List (κ × Value)} (r : KV kvs vs) (k : κ) : RelO (valV kvs k) (valueAt vs k) := by
  unfold KV at r
  induction r with
  | nil => exact True.intro
  | @cons p q ps qs h t ih =>
    obtain ⟨h1, h2⟩ := h
    by_cases e : p.1 = k
    · have e' : q.1 = k := h1.symm.trans e
      have b : valueAt (q :: qs) k = some q.2 := by simp [valueAt, List.find?_cons, e']
      rw [valV_pos e, b]; exact h2
    · have e' : ¬ q.1 = k := fun z => e (h1.trans z)
      have b : valueAt (q :: qs) k = valueAt qs k := by simp [valueAt, List.find?_cons, e']
      rw [valV_neg e, b]; exact ih
theorem KV.any {kvs : List (κ × V)} {vs : List (κ × Value)} (r : KV kvs vs) (k : κ) : (kvs.any fun kv => decide (kv.1 = k)) = vs.any fun kv => decide (kv.1 = k) := by
  unfold KV at r
  induction r with
  | nil => rfl
  | cons h t ih => rw [List.any_cons, List.any_cons, ih, h.1]
theorem KV.repl {kvs : List (κ × V)} {vs : List (κ × Value)} (r : KV kvs vs) (k : κ) {y : V} {u : Value} (ry : RelV y u) :
    KV (kvs.map fun kv => if kv.1 = k then (kv.1, y) else kv) (vs.map fun kv => if kv.1 = k then (kv.1, u) else kv) := by
  unfold KV at r ⊢
  induction r with
  | nil => exact .nil
  | @cons p q ps qs h t ih =>
    rw [List.map_cons, List.map_cons]
    refine .cons ?_ ih
    obtain ⟨h1, h2⟩ := h
    by_cases e : p.1 = k
    · rw [if_pos e, if_pos (h1.symm.trans e)]; exact ⟨h1, ry⟩
    · rw [if_neg e, if_neg (fun z => e (h1.trans z))]; exact ⟨h1, h2⟩
theorem KV.put {kvs : List (κ × V)} {vs : List (κ × Value)} (r : KV kvs vs) (k : κ) {y : V} {u : Value} (ry : RelV y u) : KV (putK kvs k y) (stored vs k u) := by
  unfold putK stored
  rw [r.any k]
  by_cases e : (vs.any fun kv => decide (kv.1 = k)) = true
  · rw [if_pos e, if_pos e]; exact r.repl k ry
  · rw [if_neg e, if_neg e]; exact Paired.snoc r ⟨rfl, ry⟩
theorem KV.length {kvs : List (κ × V)} {vs : List (κ × Value)} (r : KV kvs vs) : kvs.length = vs.length := Paired.length r
end


/-! ### a tracked dict, its keys ints and texts or tuples of these -/
theorem kV_is {P : Program} {w : World} {k : Key} {u : Value} (r : RelV (kV k) u) : (mixKind P w).is k u = true := by
  cases k with
  | inl i => obtain ⟨t, e⟩ := (show ∃ t, u = Value.int i t from r); subst e; exact mixKind_int P w i t
  | inr x => obtain ⟨t, e⟩ := (show ∃ t, u = Value.str x t from r); subst e; exact mixKind_str P w x t
theorem items_are {P : Program} {w : World} : ∀ {ks : List Key} {us : List Value}, Vals (ks.map kV) us → ItemsAre (mixKind P w) ks us
  | [], _, r => by rw [List.map_nil] at r; cases r; exact .nil
  | k :: ks, _, r => by
    rw [List.map_cons] at r
    cases r with
    | cons h t => exact .cons (kV_is h) (items_are t)

/-- raw entries of a dict with tuple keys -/
abbrev KT (H : Hp) : List (List Key × V) → List (List Key × Addr × Value) → Prop := Paired fun p q => p.1 = q.1 ∧ H q.2.1 = some (.tup (p.1.map kV)) ∧ RelV p.2 q.2.2
theorem KT.val {H : Hp} {kvs : List (List Key × V)} {xs : List (List Key × Addr × Value)} (r : KT H kvs xs) (k : List Key) : RelO (valV kvs k) ((atKey xs k).map (·.2)) := by
  induction r with
  | nil => exact True.intro
  | @cons p q ps qs h t ih =>
    obtain ⟨h1, _, h2⟩ := h
    by_cases e : p.1 = k
    · have e' : q.1 = k := h1.symm.trans e
      have b : atKey (q :: qs) k = some q.2 := by simp [atKey, List.find?_cons, e']
      rw [valV_pos e, b]; exact h2
    · have e' : ¬ q.1 = k := fun z => e (h1.trans z)
      have b : atKey (q :: qs) k = atKey qs k := by simp [atKey, List.find?_cons, e']
      rw [valV_neg e, b]; exact ih
theorem KT.repl {H : Hp} {kvs : List (List Key × V)} {xs : List (List Key × Addr × Value)} (r : KT H kvs xs) (k : List Key) {y : V} {u : Value} (ry : RelV y u) :
    KT H (kvs.map fun kv => if kv.1 = k then (kv.1, y) else kv) (xs.map (putAt k u)) := by
  induction r with
  | nil => exact .nil
  | @cons p q ps qs h t ih =>
    rw [List.map_cons, List.map_cons]
    refine .cons ?_ ih
    obtain ⟨h1, h2, h3⟩ := h
    unfold putAt
    by_cases e : p.1 = k
    · rw [if_pos e, if_pos (h1.symm.trans e)]; exact ⟨h1, h2, ry⟩
    · rw [if_neg e, if_neg (fun z => e (h1.trans z))]; exact ⟨h1, h2, h3⟩
theorem KT.put {H : Hp} {kvs : List (List Key × V)} {xs : List (List Key × Addr × Value)} (r : KT H kvs xs) (k : List Key) {b : Addr} {y : V} {u : Value} (hb : H b = some (.tup (k.map kV))) (ry : RelV y u) :
    KT H (putK kvs k y) (storedH xs k b u) := by
  have e : (kvs.any fun kv => decide (kv.1 = k)) = (atKey xs k).isSome := by
    rw [valV_any, (r.val k).isSome_eq, Option.isSome_map]
  unfold putK storedH
  rw [e]
  by_cases q : (atKey xs k).isSome = true
  · rw [if_pos q, if_pos q]; exact r.repl k ry
  · rw [if_neg q, if_neg q]; exact Paired.snoc r ⟨rfl, hb, ry⟩
theorem KT.keeps {H H' : Hp} {kvs : List (List Key × V)} {xs : List (List Key × Addr × Value)} (r : KT H kvs xs) (ht : ∀ b ys, H b = some (.tup ys) → H' b = some (.tup ys)) : KT H' kvs xs :=
  Paired.mapP r fun _ _ z => ⟨z.1, ht _ _ z.2.1, z.2.2⟩

section
variable {P : Program} {w : World} {H : Hp} {h : Heap} {a : Addr}
theorem rd_of {u : HO} (ok : HOk P w H h) (e : Rd H a u) : ObjOk P w H h a u := e.ok ok
theorem dk_rd {kvs : List (Key × V)} (ok : HOk P w H h) (e : Rd H a (.dK kvs)) : kvs.length ≤ sizeLine ∧ (a == sysModules) = false ∧ ∃ vs, KV kvs vs ∧ h.DictOf (mixKind P w) a vs :=
  show ObjOk P w H h a (.dK kvs) from rd_of ok e
theorem dk_of {kvs : List (Key × V)} (ok : HOk P w H h) (e : H a = some (.dK kvs)) : kvs.length ≤ sizeLine ∧ (a == sysModules) = false ∧ ∃ vs, KV kvs vs ∧ h.DictOf (mixKind P w) a vs := dk_rd ok (.inl e)
/-- a tracked tuple of ints and texts is a key -/
theorem key_of {ks : List Key} (ok : HOk P w H h) (e : H a = some (.tup (ks.map kV))) : (tupleKind (mixKind P w)).is h ks a := by
  obtain ⟨_, its, r, o, h1, h2, n, h3⟩ := (show ObjOk P w H h a (.tup (ks.map kV)) from ok a _ e)
  exact ⟨o, its.toArray, n, h1, h2, h3, by simpa using items_are r⟩
theorem dt_rd {kvs : List (List Key × V)} (ok : HOk P w H h) (e : Rd H a (.dT kvs)) : kvs.length ≤ sizeLine ∧ (a == sysModules) = false ∧
    ∃ xs, KT H kvs xs ∧ h.DictOfH (tupleKind (mixKind P w)) a xs := by
  obtain ⟨z, y, xs, r, o, es, ep, h1, h2, h3, h4, h5⟩ := (show ObjOk P w H h a (.dT kvs) from rd_of ok e)
  refine ⟨z, y, xs, r, o, es, ep, h1, h2, h3, h4, fun x hx => ?_, h5⟩
  have all : ∀ {l : List (List Key × V)} {m : List (List Key × Addr × Value)}, KT H l m → ∀ x ∈ m, (tupleKind (mixKind P w)).is h x.1 x.2.1 := by
    intro l m q
    induction q with
    | nil => intro x hx; exact nomatch hx
    | @cons p q ps qs hq t ih =>
      intro x hx
      rcases List.mem_cons.mp hx with e | hx
      · subst e
        exact key_of ok (by rw [← hq.1]; exact hq.2.1)
      · exact ih x hx
  exact all r x hx
theorem dt_of {kvs : List (List Key × V)} (ok : HOk P w H h) (e : H a = some (.dT kvs)) : kvs.length ≤ sizeLine ∧ (a == sysModules) = false ∧
    ∃ xs, KT H kvs xs ∧ h.DictOfH (tupleKind (mixKind P w)) a xs := dt_rd ok (.inl e)
end

/-- what the dict at a holds at the key y -/
def DGet (H : Hp) (a : Addr) (y : V) (r : Option V) : Prop :=
  (∃ kvs k, Rd H a (.dK kvs) ∧ y = kV k ∧ r = valV kvs k) ∨ ∃ kvs k b, Rd H a (.dT kvs) ∧ y = .ref b ∧ H b = some (.tup (k.map kV)) ∧ r = valV kvs k
/-- the heap behind a[y] = v -/
def DPut (H : Hp) (a : Addr) (y v : V) (H' : Hp) : Prop :=
  (∃ kvs k, H a = some (.dK kvs) ∧ y = kV k ∧ kvs.length < sizeLine ∧ H' = upd H a (.dK (putK kvs k v))) ∨
  ∃ kvs k b, H a = some (.dT kvs) ∧ y = .ref b ∧ H b = some (.tup (k.map kV)) ∧ kvs.length < sizeLine ∧ H' = upd H a (.dT (putK kvs k v))
theorem DGet.k {H : Hp} {a : Addr} {kvs : List (Key × V)} {k : Key} (e : H a = some (.dK kvs)) : DGet H a (kV k) (valV kvs k) := .inl ⟨kvs, k, .inl e, rfl, rfl⟩
theorem DPut.k {H : Hp} {a : Addr} {kvs : List (Key × V)} {k : Key} {v : V} (e : H a = some (.dK kvs)) (hl : kvs.length < sizeLine) : DPut H a (kV k) v (upd H a (.dK (putK kvs k v))) := .inl ⟨kvs, k, e, rfl, hl, rfl⟩
section
variable {X : Cx} {pins : List (Addr × Obj)} {σ : St} {H : Hp} {s : Shared} {a : Addr} {y v : V} {u r : Value} {o : Option V} {A : Around} {E : Value → Shared → Prop}

/-- y in d -/
theorem d_in {Q : Value → Shared → Prop} (hu : A.units + 1 < cLine) (I : Inv X pins σ H s) (g : DGet H a y o) (ry : RelV y u) (h : ∀ s', Inv X pins σ H s' → Q (.bool o.isSome) s') :
    wpAny (model X.prog X.w) A (compareOp .In u (.ref a)) Q E s := by
  rcases g with ⟨kvs, k, e, ey, l⟩ | ⟨kvs, k, b, e, ey, eb, l⟩
  · subst ey
    obtain ⟨z, hd, vs, rel, dd⟩ := dk_rd I.hok e
    refine wpAny_in_of (kV_is ry) hd dd.mapOf ?_
    rw [← (rel.val k).isSome_eq, ← l]
    exact h _ (I.tok _)
  · subst ey
    cases (show u = Value.ref b from ry)
    obtain ⟨z, hd, xs, rel, dd⟩ := dt_rd I.hok e
    refine wpAny_in_heap (tupleKind_room_in1 hu) (key_of I.hok eb) hd dd ?_
    have q := (rel.val k).isSome_eq
    rw [Option.isSome_map] at q
    rw [← q, ← l]
    exact h _ (I.tok _)
/-- a dict's object is replaced -/
theorem d_write {h' : Heap} {t' : Nat} {ob : HO} (I : Inv X pins σ H s) (mu : Mut (H a)) (hs : Heap.SameBut a s.heap h') (he : ∃ q, h'.get? a = some q) (new : ObjOk X.prog X.w (upd H a ob) h' a ob) :
    Inv X pins σ (upd H a ob) { s with heap := h', toks := t' } :=
  I.write (x := a) (e := a) mu (.inl rfl) (fun b q hb z => (hs.2 b hb).trans z) he new
theorem dk_new {P : Program} {w : World} {H' : Hp} {h' : Heap} {kvs : List (Key × V)} {vs : List (Key × Value)} (z : kvs.length ≤ sizeLine) (hd : (a == sysModules) = false) (rel : KV kvs vs) (dd : h'.DictOf (mixKind P w) a vs) :
    ObjOk P w H' h' a (.dK kvs) := ⟨z, hd, vs, rel, dd⟩
/-- d[y] = v -/
theorem d_setItem {H' : Hp} {Q : Unit → Shared → Prop} (hu : A.units + 1 < cLine) (I : Inv X pins σ H s) (g : DPut H a y v H') (ry : RelV y u) (rv : RelV v r) (h : ∀ s', Inv X pins σ H' s' → Q () s') :
    wpAny (model X.prog X.w) A (setItem (.ref a) u r) Q E s := by
  rcases g with ⟨kvs, k, e, ey, l, eH⟩ | ⟨kvs, k, b, e, ey, eb, l, eH⟩
  · subst ey eH
    obtain ⟨z, hd, vs, rel, dd⟩ := dk_of I.hok e
    have hz : vs.length ≤ sizeLine := by rw [← rel.length]; exact z
    have hl : (putK kvs k v).length ≤ sizeLine := by have := length_putK kvs k v; omega
    refine wpAny_setItem_pairs (hsz := hz) (kV_is ry) dd fun h' dd' hs => h _ ?_
    have he : ∃ q, h'.get? a = some q := let ⟨q, _, _, hq, _⟩ := dd'; ⟨q, hq⟩
    exact d_write I (by rw [e]; exact True.intro) hs he (dk_new hl hd (rel.put k rv) dd')
  · subst ey eH
    cases (show u = Value.ref b from ry)
    obtain ⟨z, hd, xs, rel, dd⟩ := dt_of I.hok e
    have hz : xs.length ≤ sizeLine := by rw [← Paired.length rel]; exact z
    have hl : (putK kvs k v).length ≤ sizeLine := by have := length_putK kvs k v; omega
    refine wpAny_setItem_heap (hsz := hz) (tupleKind_room_in1 hu) (key_of I.hok eb) dd fun h' dd' hs => h _ ?_
    obtain ⟨q, es, ep, hq, h2, h3, h4, _, h5⟩ := dd'
    refine d_write I (by rw [e]; exact True.intro) hs ⟨q, hq⟩ ⟨hl, hd, _, (rel.put k eb rv).keeps fun c ys ec => ?_, q, es, ep, hq, h2, h3, h4, h5⟩
    rw [upd_ne (ne_of ec e (fun z => nomatch z))]
    exact ec
end

section
variable {X : Cx} {pins : List (Addr × Obj)} {σ : St} {H : Hp} {s : Shared} {a : Addr} {kvs : List (Key × V)} {k : Key} {u : Value} {A : Around} {E : Value → Shared → Prop}
/-- len(d) -/
theorem d_len {Q : Value → Shared → Prop} (I : Inv X pins σ H s) (e : Rd H a (.dK kvs)) (h : ∀ t s', Inv X pins σ H s' → Q (.int kvs.length t) s') : wpAny (model X.prog X.w) A (call (.builtin "len") [.ref a]) Q E s := by
  obtain ⟨z, hd, vs, rel, dd⟩ := dk_rd I.hok e
  refine call_len_dict hd dd (by rw [← rel.length]; rw [sizeLine_eq] at z; omega) ?_
  rw [← rel.length]
  exact h _ _ (I.tok _)
end


/-! ### readings and rules -/
/-- the element of a subscription, not a slice -/
def NoSl (i : Expr) : Prop := ∀ ov iv, subscripted i false ov iv = operate [ov, iv] (getItem ov iv)
/-- d[y] -/
def tDGet (td ty : TE) : TE := fun σ H Q => td σ H fun x H1 => ty σ H1 fun y H2 => ∃ a v, x = .ref a ∧ DGet H2 a y (some v) ∧ Q v H2
/-- y in d, y not in d -/
def tDIn (ty td : TE) : TE := fun σ H Q => ty σ H fun y H1 => td σ H1 fun x H2 => ∃ a o, x = .ref a ∧ DGet H2 a y o ∧ Q (.bl o.isSome) H2
def tDNotIn (ty td : TE) : TE := fun σ H Q => ty σ H fun y H1 => td σ H1 fun x H2 => ∃ a o, x = .ref a ∧ DGet H2 a y o ∧ Q (.bl (!o.isSome)) H2
/-- d[y] = v -/
def sDPut (td ty tv : TE) : TS := fun D σ H => tv σ H fun v H1 => td σ H1 fun x H2 => ty σ H2 fun y H3 => ∃ a H4, x = .ref a ∧ DPut H3 a y v H4 ∧ D.nx σ H4
/-- d[y] op= v -/
def sDAug (td ty tv : TE) (rd : V → V → Hp → VK → Prop) : TS := fun D σ H => td σ H fun x H1 => ty σ H1 fun y H2 => ∃ a v, x = .ref a ∧ DGet H2 a y (some v) ∧
  tv σ H2 fun y2 H3 => rd v y2 H3 fun z H4 => ∃ H5, DPut H4 a y z H5 ∧ D.nx σ H5
/-- del d[y] -/
def sDDel (td ty : TE) : TS := fun D σ H => td σ H fun x H1 => ty σ H1 fun y H2 => ∃ a kvs k, x = .ref a ∧ H2 a = some (.dK kvs) ∧ y = kV k ∧ (valV kvs k).isSome = true ∧ D.nx σ (upd H2 a (.dK (dropK kvs k)))

section
variable {X : Cx} {o i e value : Expr} {pos pos' tpos : Pos} {td ty tv : TE}
theorem pc_din (hu : X.A.units + 1 < cLine) (hi : PE X i ty) (ho : PE X o td) : PC X .In i o (tDIn ty td) := by
  intro pins s σ H Q I h
  refine thn (hi pins s σ H _ I h) fun iv s1 ⟨y, H1, I1, ry, q1⟩ => thn (ho pins s1 σ H1 _ I1 q1) fun u s2 ⟨x, H2, I2, rx, a, ov, ex, g, q2⟩ => ?_
  subst ex
  obtain rfl : u = Value.ref a := rx
  exact d_in hu I2 g ry fun s3 I3 => ⟨.bl ov.isSome, H2, I3, rfl, q2⟩
theorem ps_dput (hu : X.A.units + 1 < cLine) (ho : PE X o td) (hi : PE X i ty) (hv : PE X value tv) (hs : swapsWith value (some (.Subscript o i pos')) pos.line X.env = pure false) :
    PS X (.Assign [.Subscript o i pos'] value pos) (sDPut td ty tv) := by
  intro pins s σ H D I h
  refine wpAny_Assign_Subscript (thn (hv pins s σ H _ I h) fun r s1 ⟨v, H1, I1, rv, q1⟩ => thn (ho pins s1 σ H1 _ I1 q1) fun u s2 ⟨x, H2, I2, rx, q2⟩ => thn (hi pins s2 σ H2 _ I2 q2) fun iv s3 ⟨y, H3, I3, ry, a, H4, ex, g, q3⟩ => ?_) hs
  subst ex
  obtain rfl : u = Value.ref a := rx
  exact d_setItem hu I3 g ry rv fun s4 I4 => ⟨σ, H4, I4, q3⟩
end


/-! ### displays -/
/-- {}, to be a dict of the kind that is wanted -/
def tDNewK : TE := fun _ H Q => ∀ p, H p = none → Q (.ref p) (upd H p (.dK []))
def tDNewT : TE := fun _ H Q => ∀ p, H p = none → Q (.ref p) (upd H p (.dT []))
section
variable {X : Cx} {pos : Pos}
end

/-- the pairs of a display, from the left -/
def tPairs : List (TE × TE) → St → Hp → (List (V × V) → Hp → Prop) → Prop
  | [], _, H, Q => Q [] H
  | (tk, tv) :: r, σ, H, Q => tk σ H fun x H1 => tv σ H1 fun y H2 => tPairs r σ H2 fun ps H3 => Q ((x, y) :: ps) H3
abbrev VV : List (V × V) → List (Value × Value) → Prop := Paired fun p q => RelV p.1 q.1 ∧ RelV p.2 q.2
def PPs (X : Cx) (pos : Pos) (keys : List (Option Expr)) (values : List Expr) (trs : List (TE × TE)) : Prop :=
  ∀ (pins : List (Addr × Obj)) (s : Shared) (σ : St) (H : Hp) (Q : List (V × V) → Hp → Prop), Inv X pins σ H s → tPairs trs σ H Q →
    wpAny (model X.prog X.w) X.A (evalPairs (pairTrees keys values X.env pos)) (fun vs s' => ∃ ps H', Inv X pins σ H' s' ∧ VV ps vs ∧ Q ps H') X.xe s
def mergeK (kvs more : List (Key × V)) : List (Key × V) := more.foldl (fun acc kv => putK acc kv.1 kv.2) kvs
/-- {k: v, ..} with keys ints and texts; the new dict stands empty while the pairs are made -/
def tDisp (trs : List (TE × TE)) : TE := fun σ H Q => ∀ p, H p = none → tPairs trs σ (upd H p (.dK [])) fun ps H2 => H2 p = some (.dK []) ∧ ∃ kvs : List (Key × V), ps = kvs.map (fun kv => (kV kv.1, kv.2)) ∧ kvs.length ≤ 15 ∧ Q (.ref p) (upd H2 p (.dK (mergeK [] kvs)))
/-! ### methods -/
/-- a method call o.m(e) of a built-in, with one argument: what must be seen of the text -/
structure M1 (X : Cx) (o : Expr) (m : Str) (apos : Pos) (e : Expr) (cpos : Pos) : Prop where
  base : attributeBase o m X.env (eval o X.env) = eval o X.env
  few : ((backTo cpos (starEach [e] X.env)).all (fun x => !x.1) && (backToKw cpos (keywordEach [] X.env)).all (fun x => x.1.isSome)
    && decide (([e] : List Expr).length + ([] : List Keyword).length + (if ([] : List Keyword).isEmpty then 0 else 1) < 30)) = true
  line : (apos.endLine == cpos.line) = true
  trees : backTo cpos (starEach [e] X.env) = [(false, eval e X.env)]
structure M2 (X : Cx) (o : Expr) (m : Str) (apos : Pos) (e f : Expr) (cpos : Pos) : Prop where
  base : attributeBase o m X.env (eval o X.env) = eval o X.env
  few : ((backTo cpos (starEach [e, f] X.env)).all (fun x => !x.1) && (backToKw cpos (keywordEach [] X.env)).all (fun x => x.1.isSome)
    && decide (([e, f] : List Expr).length + ([] : List Keyword).length + (if ([] : List Keyword).isEmpty then 0 else 1) < 30)) = true
  line : (apos.endLine == cpos.line) = true
  trees : backTo cpos (starEach [e, f] X.env) = [(false, eval e X.env), (false, eval f X.env)]

/-- a is a dict, whatever its keys -/
def IsD (H : Hp) (a : Addr) : Prop := (∃ kvs, Rd H a (.dK kvs)) ∨ ∃ kvs, Rd H a (.dT kvs)
section
variable {X : Cx} {pins : List (Addr × Obj)} {σ : St} {H : Hp} {s : Shared} {a : Addr} {y d : V} {u r : Value} {o : Option V} {A : Around} {E : Value → Shared → Prop}
end

def tDGet1 (td ty : TE) : TE := fun σ H Q => td σ H fun x H1 => ∃ a, x = .ref a ∧ IsD H1 a ∧ ty σ H1 fun y H2 => ∃ o, DGet H2 a y o ∧ Q (o.getD .non) H2
def tDGet2 (td ty tx : TE) : TE := fun σ H Q => td σ H fun x H1 => ∃ a, x = .ref a ∧ IsD H1 a ∧ ty σ H1 fun y H2 => tx σ H2 fun z H3 => ∃ o, DGet H3 a y o ∧ Q (o.getD z) H3
/-- d.pop(k): there; d.pop(k, x): there or not -/
def tDPop1 (td ty : TE) : TE := fun σ H Q => td σ H fun x H1 => ∃ a, x = .ref a ∧ IsD H1 a ∧ ty σ H1 fun y H2 => ∃ kvs k v, H2 a = some (.dK kvs) ∧ y = kV k ∧ valV kvs k = some v ∧ Q v (upd H2 a (.dK (dropK kvs k)))
def tDPop2 (td ty tx : TE) : TE := fun σ H Q => td σ H fun x H1 => ∃ a, x = .ref a ∧ IsD H1 a ∧ ty σ H1 fun y H2 => tx σ H2 fun z H3 => ∃ kvs k, H3 a = some (.dK kvs) ∧ y = kV k ∧
  (∀ v, valV kvs k = some v → Q v (upd H3 a (.dK (dropK kvs k)))) ∧ (valV kvs k = none → Q z H3)
section
variable {X : Cx} {o e f : Expr} {apos cpos : Pos} {td ty tx : TE}
end

/-! ### dict(d): a copy -/
section
variable {X : Cx} {pins : List (Addr × Obj)} {σ : St} {H : Hp} {s : Shared} {a : Addr} {kvs : List (Key × V)} {A : Around} {E : Value → Shared → Prop}
end


section
variable {X : Cx} {pins : List (Addr × Obj)} {σ : St} {H : Hp} {s : Shared} {a : Addr} {y : V} {u : Value} {A : Around} {E : Value → Shared → Prop}
end
end L2

namespace Att
open PySem PySem.W PySem.Calls PyProof.Rows

/-! ### rules over ANY heap (no ledger) from facts about the written part K: the library's own take a ledger (News) for what they write -/
section
variable {prog : Program} {w : World} {A : Around} {E : Value → Shared → Prop} {s : Shared} {K : Frag}

end
end Att

namespace L2
open PySem PySem.Spec PyProof.Rows

end L2

namespace L2
open PySem PySem.Spec PyProof.Rows

end L2

/-! SHORT WORDS over the layer: a def of the text, its body, what a loop and a test want. -/
namespace L2
open PySem PySem.Spec PyProof.Rows

section
variable {P : Program} {w : World} {K : PySem.W.Frag} {mg : Str → Option Value} {base : Heap}
end
/-! ### expressions in short: the name that stands in the i-th slot -/
section
variable {X : Cx}
/-- len of a dict -/
theorem call_lenD : CallR X (.builtin "len") (fun xs H Q => ∃ a kvs, xs = [V.ref a] ∧ H a = some (.dK kvs) ∧ Q (.int kvs.length) H) := by
  intro pins s σ H xs us Q I r h
  obtain ⟨a, kvs, rfl, ha, q⟩ := h
  obtain ⟨u, rfl, ru⟩ := vals1 r
  cases ru
  exact d_len I (.inl ha) fun t s' I' => ⟨.int kvs.length, H, I', ⟨t, rfl⟩, q⟩
end

/-! ### a dict's pairs: keys that differ -/
section
variable {κ : Type} [DecidableEq κ]
end
end L2


set_option linter.all false
set_option maxHeartbeats 4000000
set_option maxRecDepth 100000
namespace L2
open PySem PySem.W PySem.Spec PySem.Calls PyProof.Rows
/-- a value that is alike to itself, wherever it lies -/
def plainV : V → Bool
  | .byt _ => false
  | .flt _ => false
  | _ => true
section
variable {X : Cx}
/-- two dicts of the same pairs -/
def rSame (neg : Bool) : R2 := fun x y H Q => ∃ (p b : Addr) (kvs : List (Key × V)), x = .ref p ∧ y = .ref b ∧ H p = some (.dK kvs) ∧ H b = some (.dK kvs) ∧ (kvs.map (·.1)).Nodup ∧
  (∀ kv ∈ kvs, plainV kv.2 = true) ∧ Q (.bl (!neg)) H
end
end L2

set_option linter.all false
set_option maxHeartbeats 4000000
set_option maxRecDepth 100000
namespace L2
open PySem PySem.Spec PyProof.Rows
/-- the signs of a text, each a text -/
def signs (z : Str) : List V := z.cps.toList.map fun c => V.str ⟨#[c]⟩
/-- a text walked, with its places -/
def Its (z : Str) : It :=
  ⟨fun i _ => i < z.cps.size,
   fun i H v H' => ∃ T c, v = .ref T ∧ H T = none ∧ H' = upd H T (.tup [.int i, .str ⟨#[c]⟩]) ∧ z.cps[i]? = some c,
   fun i _ => z.cps.size ≤ i⟩
section
variable {X : Cx}
def iEnumS (ta : TA) : TI := fun σ H R => ta σ H fun vs H1 => ∃ z : Str, vs = [.str z] ∧ R (Its z) H1
theorem strs_of : ∀ {ts : List Str} {its : List Value}, Vals (ts.map V.str) its → ∃ l : List (Str × Tok), strValues l = its ∧ l.map (·.1) = ts
  | [], _, .nil => ⟨[], rfl, rfl⟩
  | x :: ts, _, .cons ⟨t, e⟩ r => by
    obtain ⟨l, h1, h2⟩ := strs_of r
    exact ⟨(x, t) :: l, by rw [← h1, e]; rfl, by rw [← h2]; rfl⟩
theorem joinOk_of {sep : Str} {ts : List Str} (h : (ts.map (·.length)).sum + ts.length * sep.length ≤ 1000) : JoinOk sep ts = true := by
  unfold JoinOk Builtin.Str.tooLong
  rw [StrLaws.joinTotal]
  simp only [Bool.not_eq_true', decide_eq_false_iff_not, gt_iff_lt, Nat.not_lt]
  exact Nat.le_of_lt (small1000 h)
/-- sep.join(texts) -/
def rJoin (K : PySem.W.Frag) : V → List V → Hp → VK → Prop := fun x vs H Q => ∃ (sep : Str) (p : Addr) (ts : List Str), x = .str sep ∧ vs = [.ref p] ∧ SqL K H p (ts.map V.str) ∧ (ts.map (·.length)).sum + ts.length * sep.length ≤ 1000 ∧ Q (.str (Str.join sep ts)) H
theorem mt_join : MtM X "str.join" (rJoin X.K) := by
  intro pins s σ H x vs v us Q I rx rv h
  obtain ⟨sep, p, ts, rfl, rfl, hp, hz, q⟩ := h
  obtain ⟨t, rfl⟩ := rx
  obtain ⟨u, rfl, ru⟩ := rv.one
  cases ru
  obtain ⟨its, r, pl, _⟩ := I.list hp
  obtain ⟨l, e1, e2⟩ := strs_of r
  rw [← e1] at pl
  refine SC.join pl.isList e2 (joinOk_of hz) fun t' k => ⟨.str (Str.join sep ts), H, I.tok _, ⟨t', ?_⟩, q⟩
  show Value.str (Builtin.Str.glued sep ts) t' = _
  rw [StrLaws.glued_eq_join]
/-- a piece of a text -/
def rSlS : V → Option Int → Option Int → Hp → VK → Prop := fun x lo hi H Q => ∃ (z : Str) (a b : Nat), x = .str z ∧ ((lo = none ∧ a = 0) ∨ lo = some (a : Int)) ∧ ((hi = none ∧ b = z.length) ∨ hi = some (b : Int)) ∧ a ≤ b ∧ b ≤ z.length ∧ z.length ≤ 1000 ∧
  Q (.str ⟨((z.cps.toList.drop a).take (b - a)).toArray⟩) H
theorem slice_plain {z : Str} {lo hi : Option Int} {a b : Nat} (hlo : (lo = none ∧ a = 0) ∨ lo = some (a : Int)) (hhi : (hi = none ∧ b = z.length) ∨ hi = some (b : Int)) (hab : a ≤ b) (hb : b ≤ z.length) :
    Txt.slice z lo hi = ⟨((z.cps.toList.drop a).take (b - a)).toArray⟩ := by
  have e : Builtin.Str.strSliceIndices lo hi 1 z.length = Builtin.Str.strSliceIndices (some (a : Int)) (some (b : Int)) 1 z.length := by
    have e2 : Builtin.Str.strSliceIndices lo hi 1 z.length = Builtin.Str.strSliceIndices (some (a : Int)) hi 1 z.length := by
      rcases hlo with ⟨rfl, rfl⟩ | rfl
      · rw [StrLaws.sliceIdx_none_lo]; rfl
      · rfl
    rw [e2]
    rcases hhi with ⟨rfl, rfl⟩ | rfl
    · rw [StrLaws.sliceIdx_none_hi]
    · rfl
  unfold Txt.slice
  rw [e]
  split
  · rename_i h
    rw [StrLaws.strSliceIndices_plain hab hb] at h
    have hl : b - a = z.length := by simpa using h
    have ea : a = 0 := by omega
    have eb : b = z.cps.toList.length := by rw [Array.length_toList]; show b = z.length; omega
    subst ea
    rw [eb, List.drop_zero, Nat.sub_zero, List.take_length]
  · rw [StrLaws.sliced_plain z hab hb]
theorem sl_str : SlR X rSlS := by
  intro pins s σ H x v vl vu lo hi sl Q I rx hs pl pu h
  obtain ⟨z, a, b, rfl, hlo, hhi, hab, hb, hz, q⟩ := h
  obtain ⟨t, rfl⟩ := rx
  obtain ⟨l, rfl, el⟩ : ∃ l : Option (Int × Tok), vl = partValue l ∧ l.map (·.1) = lo := by
    cases pl with
    | none => exact ⟨none, rfl, rfl⟩
    | int i t => exact ⟨some (i, t), rfl, rfl⟩
  obtain ⟨u, rfl, eu⟩ : ∃ l : Option (Int × Tok), vu = partValue l ∧ l.map (·.1) = hi := by
    cases pu with
    | none => exact ⟨none, rfl, rfl⟩
    | int i t => exact ⟨some (i, t), rfl, rfl⟩
  refine ⟨"str", _, F.slot_str_getitem.lookup, typeIs_str _ _ _, wpAny_getItem_str_slice (l := l) (u := u) (st := none) hs rfl ?_⟩
  unfold sliceMade slicePicked
  rw [el, eu]
  have hS : ∀ y : Str, y = Txt.slice z lo hi → y.length ≤ sizeLine ∧ ∀ t' k, EP X pins σ Q (.str y t') { s with toks := k } := fun y ey => by
    refine ⟨by rw [ey]; exact Nat.le_trans (Txt.slice_le z lo hi) (Nat.le_of_lt (small1000 hz)), fun t' k => ?_⟩
    rw [ey, slice_plain hlo hhi hab hb]
    exact ⟨.str ⟨((z.cps.toList.drop a).take (b - a)).toArray⟩, H, I.tok _, ⟨_, rfl⟩, q⟩
  exact post_val_or_str (hS _ rfl)
/-- two lists of like tuples -/
def rNeTs (K : PySem.W.Frag) : R2 := fun x y H Q => ∃ (p b : Addr) (ts : List (Addr × Addr × List V)), x = .ref p ∧ y = .ref b ∧ SqL K H p (ts.map fun t => V.ref t.1) ∧ SqL K H b (ts.map fun t => V.ref t.2.1) ∧
  (∀ t ∈ ts, SqT K H t.1 t.2.2 ∧ SqT K H t.2.1 t.2.2 ∧ t.2.2.all plainV = true) ∧ Q (.bl false) H
end
end L2

set_option linter.all false
set_option maxHeartbeats 4000000
set_option maxRecDepth 100000
namespace L2
open PySem PySem.W PySem.Spec PySem.Calls PyProof.Rows
/-- alike, whatever lies where -/
inductive Alk (K : PySem.W.Frag) (H : Hp) : V → V → Prop
  | same {x : V} (h : plainV x = true) : Alk K H x x
  | tup {a b : Addr} {xs : List V} (ha : SqT K H a xs) (hb : SqT K H b xs) (h : xs.all plainV = true) : Alk K H (.ref a) (.ref b)
  | lst {a b : Addr} {xs : List V} (ha : SqL K H a xs) (hb : SqL K H b xs) (h : xs.all plainV = true) : Alk K H (.ref a) (.ref b)
section
variable {X : Cx} {pins : List (Addr × Obj)} {σ : St} {H : Hp} {s : Shared}
/-- two lists of like things -/
def rAlk (K : PySem.W.Frag) (neg : Bool) : R2 := fun x y H Q => ∃ (p b : Addr) (xs ys : List V), x = .ref p ∧ y = .ref b ∧ SqL K H p xs ∧ SqL K H b ys ∧ xs.length = ys.length ∧
  (∀ i, i < xs.length → Alk K H (xs.getD i .non) (ys.getD i .non)) ∧ Q (.bl (!neg)) H
end
end L2
namespace L2
open PySem PyProof.Rows
/-- the two ways of an if that both go on -/
theorem seq_joinI {t u : TS} {D : Ends} {σ : St} {H : Hp} (R : St → Hp → Prop) (h1 : ∀ N : St → Hp → Prop, (∀ σ' H', R σ' H' → N σ' H') → t { D with nx := N } σ H) (h2 : ∀ σ' H', R σ' H' → u D σ' H') : tSeq t u D σ H := h1 (u D) h2
end L2

/-! words, joined by one blank -/
set_option linter.all false
namespace WM
open PySem
def jn : List (List Nat) → List Nat
  | [] => []
  | [x] => x
  | x :: y :: r => x ++ 32 :: jn (y :: r)
theorem app_inj : ∀ {p w A B : List Nat}, 32 ∉ p → 32 ∉ w → p ++ 32 :: A = w ++ 32 :: B → p = w ∧ A = B
  | [], [], A, B, _, _, h => by injection h with _ h; exact ⟨rfl, h⟩
  | [], b :: w, A, B, _, hw, h => by injection h with h _; exact absurd (h ▸ List.mem_cons_self ..) hw
  | a :: p, [], A, B, hp, _, h => by injection h with h _; exact absurd (h ▸ List.mem_cons_self ..) hp
  | a :: p, b :: w, A, B, hp, hw, h => by
    injection h with h1 h2
    obtain ⟨e1, e2⟩ := app_inj (fun z => hp (List.mem_cons_of_mem _ z)) (fun z => hw (List.mem_cons_of_mem _ z)) h2
    exact ⟨by rw [h1, e1], e2⟩
theorem jn_inj : ∀ {ps ws : List (List Nat)}, (∀ p ∈ ps, 32 ∉ p) → (∀ w ∈ ws, 32 ∉ w) → ps ≠ [] → ws ≠ [] → jn ps = jn ws → ps = ws
  | [], _, _, _, h, _, _ => absurd rfl h
  | _ :: _, [], _, _, _, h, _ => absurd rfl h
  | [p], [w], _, _, _, _, e => by rw [show p = w from e]
  | [p], w :: w2 :: r, hp, _, _, _, e => by
    have e' : p = w ++ 32 :: jn (w2 :: r) := e
    exact absurd (by rw [e']; exact List.mem_append_right _ (List.mem_cons_self ..)) (hp p (List.mem_cons_self ..))
  | p :: p2 :: r, [w], _, hw, _, _, e => by
    have e' : p ++ 32 :: jn (p2 :: r) = w := e
    exact absurd (by rw [← e']; exact List.mem_append_right _ (List.mem_cons_self ..)) (hw w (List.mem_cons_self ..))
  | p :: p2 :: r, w :: w2 :: q, hp, hw, _, _, e => by
    have e' : p ++ 32 :: jn (p2 :: r) = w ++ 32 :: jn (w2 :: q) := e
    obtain ⟨e1, e2⟩ := app_inj (hp p (List.mem_cons_self ..)) (hw w (List.mem_cons_self ..)) e'
    rw [e1, jn_inj (fun z hz => hp z (List.mem_cons_of_mem _ hz)) (fun z hz => hw z (List.mem_cons_of_mem _ hz)) (by simp) (by simp) e2]
abbrev bl : Str := Str.ofString " "
theorem bl_cps : bl = ⟨#[32]⟩ := by decide +kernel
abbrev J (ws : List Str) : Str := Str.join bl ws
def ls (z : Str) : List Nat := z.cps.toList
theorem ls_inj {a b : Str} (h : ls a = ls b) : a = b := by
  obtain ⟨x⟩ := a; obtain ⟨y⟩ := b
  have : x = y := Array.toList_inj.mp h
  rw [this]
theorem ls_app (a b : Str) : ls (a ++ b) = ls a ++ ls b := by
  obtain ⟨x⟩ := a; obtain ⟨y⟩ := b
  show (x ++ y).toList = _
  simp [ls]
theorem ls_bl : ls bl = [32] := by rw [bl_cps]; rfl
theorem ls_J : ∀ ws : List Str, ls (J ws) = jn (ws.map ls)
  | [] => rfl
  | [x] => rfl
  | x :: y :: r => by
    show ls (x ++ bl ++ J (y :: r)) = _
    rw [ls_app, ls_app, ls_bl, ls_J (y :: r)]
    show _ = ls x ++ 32 :: jn ((y :: r).map ls)
    rw [List.append_assoc]; rfl
/-- a word -/
structure Wo (w : Str) : Prop where
  n0 : 1 ≤ w.length
  n1 : w.length ≤ 20
  nb : 32 ∉ ls w
theorem split_words {ws : List Str} (hw : ∀ w ∈ ws, 32 ∉ ls w) (hne : ws ≠ []) : Txt.split (J ws) bl = ws := by
  have h1 := StrLaws.join_split (J ws) bl
  have h2 : ∀ p ∈ Txt.split (J ws) bl, 32 ∉ ls p := by rw [bl_cps]; exact StrLaws.split_free _ 32
  have h3 : Txt.split (J ws) bl ≠ [] := fun z => by have := PyProof.Rows.split_pos (J ws) bl; rw [z] at this; exact absurd this (by decide)
  generalize Txt.split (J ws) bl = ps at h1 h2 h3
  have e : jn (ps.map ls) = jn (ws.map ls) := by
    have := congrArg ls h1
    rwa [show Str.join bl ps = J ps from rfl, ls_J, ls_J] at this
  have e2 := jn_inj (fun p hp => by obtain ⟨q, hq, rfl⟩ := List.mem_map.mp hp; exact h2 q hq) (fun p hp => by obtain ⟨q, hq, rfl⟩ := List.mem_map.mp hp; exact hw q hq) (by simpa using h3) (by simpa using hne) e
  have inj : ∀ (a b : List Str), a.map ls = b.map ls → a = b := fun a => by
    induction a with
    | nil => intro b h; cases b with
      | nil => rfl
      | cons y b => cases h
    | cons x a ih => intro b h; cases b with
      | nil => cases h
      | cons y b =>
        rw [List.map_cons, List.map_cons] at h
        injection h with h1 h2
        rw [ls_inj h1, ih b h2]
  exact inj _ _ e2
/-- rows of words, as broken by a width -/
structure Brk (wide : Int) (gs : List (List Str)) : Prop where
  ne : ∀ g ∈ gs, g ≠ []
  fit : ∀ g ∈ gs, 2 ≤ g.length → ((J g).length : Int) ≤ wide
  full : ∀ (k : Nat) (g h : List Str) (w : Str), gs[k]? = some g → gs[k + 1]? = some h → h.head? = some w → wide < ((J g).length : Int) + 1 + (w.length : Int)
end WM

set_option linter.all false
set_option maxHeartbeats 4000000
set_option maxRecDepth 100000
namespace L2
open PySem PySem.Spec PySem.Calls PyProof.Rows
open Builtin Builtin.Str
section
variable {X : Cx}
theorem strVals {l : List (Str × Tok)} {ts : List Str} (h : l.map (·.1) = ts) : Vals (ts.map V.str) (strValues l) := by
  subst h
  induction l with
  | nil => exact .nil
  | cons p l ih => exact .cons ⟨_, rfl⟩ ih
/-- text.split(sep) -/
def rSplit : V → List V → Hp → VK → Prop := fun x vs H Q => ∃ (z sep : Str), x = .str z ∧ vs = [.str sep] ∧ (sep.length == 0) = false ∧ z.length ≤ 500 ∧ (Txt.split z sep).length ≤ 900 ∧ ∀ l, H l = none → Q (.ref l) (upd H l (.lst ((Txt.split z sep).map V.str)))
theorem mt_split : MtM X "str.split" rSplit := by
  intro pins s σ H x vs v us Q I rx rv h
  obtain ⟨x, y, rfl, rfl, hy, hz, hn, q⟩ := h
  obtain ⟨t, rfl⟩ := rx
  obtain ⟨u0, rfl, ru⟩ := rv.one
  obtain ⟨u, rfl⟩ := ru
  have fin : ∀ (l : List (Str × Tok)) (k : Nat), l.map (·.1) = Txt.split x y → EP X pins σ Q (.ref s.heap.objs.size) { s with toks := k, heap := s.heap.push { cls := .type "list", data := .seq (strValues l).toArray } } := fun l k e => by
    refine ⟨.ref s.heap.objs.size, _, I.laid (t' := k) (o := .lst ((Txt.split x y).map V.str)) (fun b ob q => Heap.get?_push_of_some _ q) (Nat.le_refl _) ?_, rfl, q _ (I.hok.fresh (Nat.le_refl _))⟩
    exact ⟨by rw [List.length_map]; exact Nat.le_of_lt (small1000 (by omega)), _, 0, strVals e, Heap.get?_push_size _ rfl⟩
  have hsz : x.length ≤ sizeLine := Nat.le_of_lt (small1000 (by omega))
  cases h1 : (decide (x.length < y.length) || decide (strKind x < strKind y))
  · cases hf : (occurrences x y 0 x.length (x.length + 1)).isEmpty
    · have hs2 : (partsBetween x (occurrences x y 0 x.length (x.length + 1)) y.length).length ≤ sizeLine := by
        have e : Txt.split x y = partsBetween x (occurrences x y 0 x.length (x.length + 1)) y.length := (if_neg (ne_true_of_eq_false h1)).trans (if_neg (ne_true_of_eq_false hf))
        rw [← e]; exact Nat.le_of_lt (small1000 (by omega))
      refine call_meets F.slot_str_split (typeIs_str _ _ _) F.entry_str_split (F.args_str_split_2 _ _) (meets_str_split_sep x y t u h1 hy hf hsz hs2) ?_
      show wants _ _ _ { s with toks := _, heap := s.heap.push { cls := .type "list", data := .seq (strsFrom s.toks (partsBetween x (occurrences x y 0 x.length (x.length + 1)) y.length)).toArray } }
      rw [strsFrom_eq]
      exact fin (numbered s.toks _) _ ((numbered_texts _ _).trans ((if_neg (ne_true_of_eq_false h1)).trans (if_neg (ne_true_of_eq_false hf))).symm)
    · exact call_meets F.slot_str_split (typeIs_str _ _ _) F.entry_str_split (F.args_str_split_2 _ _) (meets_str_split_not_found x y t u h1 hy hf)
        (fin [(x, t)] _ ((if_neg (ne_true_of_eq_false h1)).trans (if_pos hf)).symm)
  · exact call_meets F.slot_str_split (typeIs_str _ _ _) F.entry_str_split (F.args_str_split_2 _ _) (meets_str_split_cannot_occur x y t u h1)
      (fin [(x, t)] _ (if_pos h1).symm)
end
end L2

set_option linter.all false
set_option maxHeartbeats 4000000
set_option maxRecDepth 100000
namespace L2
open PySem PySem.Spec PyProof.Rows
/-- a text, n times -/
def repS (z : Str) (n : Nat) : Str := ⟨(List.replicate n z.cps.toList).flatten.toArray⟩
theorem foldl_repS (x : Array Nat) : ∀ (n : Nat) (a : Array Nat), (List.replicate n x).foldl (· ++ ·) a = (a.toList ++ (List.replicate n x.toList).flatten).toArray
  | 0, a => by simp
  | n + 1, a => by
    rw [List.replicate_succ, List.foldl_cons, foldl_repS x n, List.replicate_succ, List.flatten_cons, Array.toList_append, List.append_assoc]
theorem repS_len (z : Str) (n : Nat) : (repS z n).length = z.length * n := by
  show (List.replicate n z.cps.toList).flatten.toArray.size = _
  rw [List.size_toArray, List.length_flatten, List.map_replicate, List.sum_replicate_nat, Nat.mul_comm]; rfl
section
variable {X : Cx}
/-- a text times a number -/
theorem op_repX : OpR X (binaryOp .Mult) (fun x y H Q => ∃ (z : Str) (k : Int), x = .str z ∧ y = .int k ∧ 0 ≤ k ∧ k ≤ 100 ∧ z.length ≤ 10 ∧ Q (.str (repS z k.toNat)) H) := by
  intro pins s σ H x y v u Q I rx ry h
  obtain ⟨z, k, rfl, rfl, h0, h1, hz, q⟩ := h
  obtain ⟨t, rfl⟩ := rx
  obtain ⟨t', rfl⟩ := ry
  have hm : z.length * k.toNat ≤ 1000 := Nat.le_trans (Nat.mul_le_mul hz (show k.toNat ≤ 100 by omega)) (by decide)
  have hs : z.length * k.toNat ≤ sizeLine := Nat.le_of_lt (small1000 hm)
  have fin : ∀ w : Str, w = repS z k.toNat → ∀ (t' : Tok) (n : Nat), EP X pins σ Q (.str w t') { s with toks := n } := fun w e t' n => ⟨.str w, H, I.tok _, ⟨_, rfl⟩, e ▸ q⟩
  refine P.mul_str ?_ ?_ ?_ ?_
  · rw [decide_eq_false (by omega), decide_eq_false (by omega)]; rfl
  · intro hk _ hgt
    have : (z.length : Int) ≤ (2 ^ 63 - 1) / k := by
      rw [Int.le_ediv_iff_mul_le (by omega)]
      have e : ((z.length * k.toNat : Nat) : Int) = (z.length : Int) * k := by rw [Int.natCast_mul, Int.toNat_of_nonneg h0]
      rw [← e]; omega
    omega
  · intro _ _
    unfold Builtin.Str.tooLong
    exact decide_eq_false (by omega)
  · split
    · have hk0 : k = 0 := by omega
      subst hk0
      exact ⟨by decide, fin Str.empty rfl _ _⟩
    · split
      · rename_i h3
        refine fin z ?_ t s.toks
        rcases Bool.or_eq_true_iff.mp h3 with e | e
        · have : k = 1 := by simpa using e
          rw [this]
          show z = repS z 1
          unfold repS; simp
        · have e1 : z.length = 0 := by simpa using e
          have e0 : z.cps.toList = [] := List.eq_nil_of_length_eq_zero e1
          unfold repS
          rw [e0]
          have : (List.replicate k.toNat ([] : List Nat)).flatten = [] := by simp
          rw [this]
          obtain ⟨⟨l⟩⟩ := z
          exact congrArg (fun l : List Nat => (⟨⟨l⟩⟩ : Str)) e0
      · have hv : (⟨(List.replicate k.toNat z.cps).foldl (· ++ ·) #[]⟩ : Str) = repS z k.toNat := by
          rw [foldl_repS]; rfl
        have hl : (⟨(List.replicate k.toNat z.cps).foldl (· ++ ·) #[]⟩ : Str).length = z.length * k.toNat := by rw [hv, repS_len]
        exact ⟨by rw [hl]; exact hs, fin _ hv _ _⟩
end
end L2
namespace L2
open PySem PyProof.Rows
theorem op_notIn_seqK {X : Cx} {K : PySem.W.Frag} (e : X.K = K) : OpR X (compareOp .NotIn) (rIn K true) := by subst e; exact op_notIn_seq
end L2

set_option linter.all false
set_option maxHeartbeats 4000000
set_option maxRecDepth 100000
namespace PySem
open Sem (wp)
namespace F
end F
end PySem

set_option linter.all false
set_option maxHeartbeats 4000000
set_option maxRecDepth 100000
namespace PySem
open Sem (wp)
def revO (t : Addr) (i : Int) : Obj := { cls := .type "reversed", data := .fields #[.ref t, rawInt i] }
def Heap.IsRev (h : Heap) (a t : Addr) (i : Int) : Prop := ∃ o, h.get? a = some o ∧ o.cls = .type "reversed" ∧ o.data = .fields #[.ref t, rawInt i]
section
variable {prog : Program} {w : World} {A : Around} {E : Value → Shared → Prop} {s : Shared}
end
section
variable {prog : Program} {w : World} {A : Around} {s : Shared} {R : Result → Shared → Prop}
end
section
variable {prog : Program} {w : World} {A : Around} {E : Value → Shared → Prop} {s : Shared}
end
end PySem

set_option linter.all false
set_option maxHeartbeats 4000000
set_option maxRecDepth 100000
namespace L2
open PySem PySem.W PySem.Spec PyProof.Rows
section
variable {X : Cx} {K : PySem.W.Frag}
theorem ix_seqK (e : X.K = K) : IxR X (rIx K) := by subst e; exact ix_seq
/-- where nothing is raised, the exceptions need not be told -/
theorem FnOk.calm {P : Program} {w : World} {mg : Str → Option Value} {base : Heap} {k : Nat} {f : Addr} {fd : FuncData} {ps : List Str} {sp sp' : Sp} (F : FnOk P w K mg base (CXW P w) k f fd ps sp)
    (h : ∀ vs H Q E, sp' vs H Q E → sp vs H Q E0) : FnOk P w K mg base CX0 k f fd ps sp' :=
  ⟨fun vs H Q E q => F.len vs H Q E0 (h _ _ _ _ q), fun A outer s H args us vs Q E hr he hb hv hs =>
    codeAny_mono (F.run A outer s H args us vs Q E0 hr he hb hv (h _ _ _ _ hs)) fun r s' hq => by
      cases r with
      | error e => obtain ⟨_, _, _, _, _, _, _, _, _, _, _, _, _, _, z⟩ := hq; exact z.elim
      | ok fl => cases fl <;> exact hq⟩
end
/-- each of these classes is below that one, as isinstance sees it -/
def clsUp (K : Frag) (pe : Addr) (cs : List Addr) : Bool := cs.all fun c => kitOne K (.ref c) (.ref pe) == some true && belowIn K c c
theorem cls_up {K : Frag} {pe : Addr} {cs : List Addr} (h : clsUp K pe cs = true) {c : Addr} (hc : c ∈ cs) : kitOne K (.ref c) (.ref pe) = some true ∧ belowIn K c c = true := by
  have := List.all_eq_true.mp h c hc
  rw [Bool.and_eq_true] at this
  exact ⟨beq_iff_eq.mp this.1, this.2⟩
/-- try: the j-th name(..) except C0 as the i-th name: .. -/
def tTryV (j : Nat) (f : Addr) (sp : Sp) (K : Frag) (C0 : Addr) (i : Nat) (t : TA) (ts : TS) : TS := fun D σ H => σ[j]? = some (some (.ref f)) ∧ tTry sp K C0 i t ts D σ H
section
variable {X : Cx} {k j : Nat} {f : Addr} {fd : FuncData} {ps : List Str} {sp : Sp} {x c n : Str} {p cpos epos np hpos pos : Pos} {e : Expr} {es : List Expr} {b₀ : Stmt} {suite : List Stmt} {t : TA} {ts : TS} {i : Nat} {C0 : Addr} {bmB : List Value} {newId : String}
end
end L2

set_option linter.all false
set_option maxHeartbeats 4000000
set_option maxRecDepth 100000
namespace PySem
open PyProof.Rows
/-- the texts that were met, each once -/
def metS : List Str → List Str
  | [] => []
  | x :: l => if l.contains x then metS l else x :: metS l
/-- one more -/
def stepS (σ : List Str) (v : Str) : List Str := if σ.any (· == v) then σ else σ ++ [v]
def firstS (val : Nat → Str) (n : Nat) : List Str := ((List.range n).map val).foldl stepS []
theorem firstS_succ (val : Nat → Str) (i : Nat) : firstS val (i + 1) = stepS (firstS val i) (val i) := by
  unfold firstS; rw [List.range_succ, List.map_append, List.foldl_append]; rfl
theorem stepS_any (σ : List Str) (v k : Str) : (stepS σ v).any (· == k) = (σ.any (· == k) || decide (k = v)) := by
  unfold stepS
  split
  · rename_i h
    by_cases e : k = v
    · subst e; rw [h]; simp
    · rw [decide_eq_false e, Bool.or_false]
  · rw [List.any_append]
    congr 1
    by_cases e : k = v
    · subst e; simp
    · rw [decide_eq_false e]; simpa using fun z => e z.symm
theorem stepS_len (σ : List Str) (v : Str) : (stepS σ v).length = if σ.any (· == v) then σ.length else σ.length + 1 := by
  unfold stepS; split <;> simp
theorem firstS_le (val : Nat → Str) : ∀ i, (firstS val i).length ≤ i
  | 0 => by simp [firstS]
  | i + 1 => by
    rw [firstS_succ, stepS_len]
    have := firstS_le val i
    split <;> omega
theorem setS_at : ∀ {vs : List Value} {ns : List Str}, StrsAre vs ns → ∀ (i : Nat) (v : Value), vs[i]? = some v → ∃ t, v = .str (ns.getD i Str.empty) t
  | _, _, .nil, i, v, h => by simp at h
  | _, _, .cons y t r, 0, v, h => by simp at h; exact ⟨t, by rw [← h]; rfl⟩
  | _, _, .cons y t r, i + 1, v, h => by
    obtain ⟨t', e⟩ := setS_at r i v (by simpa using h)
    exact ⟨t', by rw [e]; simp⟩
section
variable {prog : Program} {w : World} {A : Around} {R : Result → Shared → Prop} {I : Addr} {fp wr : List Addr} {G : Array GenState → Array GenState → Prop} {n : Nat} {P : Nat → Value → Prop} {St : Nat → Shared → Prop}
theorem setS_loop (W : WalksS prog w A.in1 I fp wr G n P St) (S : Addr) (nSf : S ∉ fp) (val : Nat → Str) (hv : ∀ i v, P i v → ∃ t, v = .str (val i) t) (hb : n + 1 < scanBound) :
    ∀ (k i : Nat) (s : Shared), n - i = k → i ≤ n → St i s → s.heap.SetOf (strKind prog w) S (fun z => (firstS val i).any (· == z)) (firstS val i).length →
      (∀ s', Moved (S :: wr) G s s' → s'.heap.SetOf (strKind prog w) S (fun z => (firstS val n).any (· == z)) (firstS val n).length → R (.ok (.ret .none)) s') →
      codeAny (model prog w) A (.builtin "set.update.loop" ⟨[.ref S, .ref I], []⟩) R s := by
  have nSw : S ∉ wr := fun h => nSf (W.sub _ h)
  have up : ∀ b ∈ wr, b ∈ S :: wr := fun b hb => List.mem_cons_of_mem _ hb
  intro k
  induction k with
  | zero =>
    intro i s hk hi st zs fin
    have e : i = n := by omega
    subst e
    refine codeAny_builtin F.entry_set_update_loop ?_
    rw [Around.under_plainId F.plain_set_update_loop _]
    show wpAny _ A.in1 (pyNext (.ref I) >>= _) _ _ s
    refine wpAny_bind (W.done s _ _ st fun s' mv => ?_)
    show wpAny _ A.in1 (ret Value.none) _ _ s'
    exact wpAny_pure (fin s' (mv.mono up) (let ⟨o, es, ep, t, ho, rr⟩ := zs; ⟨o, es, ep, t, mv.heap S _ nSw ho, rr⟩))
  | succ k ih =>
    intro i s hk hi st zs fin
    have lt : i < n := by omega
    refine codeAny_builtin F.entry_set_update_loop ?_
    rw [Around.under_plainId F.plain_set_update_loop _]
    show wpAny _ A.in1 (pyNext (.ref I) >>= _) _ _ s
    refine wpAny_bind (W.item i s _ _ lt st fun v s' hp st' mv => ?_)
    obtain ⟨t, rfl⟩ := hv i v hp
    have zs' : s'.heap.SetOf (strKind prog w) S (fun z => (firstS val i).any (· == z)) (firstS val i).length := let ⟨o, es, ep, tb, ho, rr⟩ := zs; ⟨o, es, ep, tb, mv.heap S _ nSw ho, rr⟩
    show wpAny _ A.in1 (holding [Value.str (val i) t] (setAdd S (.str (val i) t)) >>= _) _ _ s'
    refine wpAny_bind (wpAny_holding ?_)
    unfold setAdd
    refine wpAny_holding ?_
    refine wpAny_bind ((strKind prog w).pyHash (k := val i) (strKind_is _ _ _ _) ?_)
    have room : (firstS val i).length + 1 < scanBound := by have := firstS_le val i; omega
    refine wpAny_setAddHashed_of (knd := strKind prog w) (s := { s' with toks := s'.toks + 1 }) (strKind_is _ _ _ _) rfl zs' room fun h' sb z2 => ?_
    have z3 : h'.SetOf (strKind prog w) S (fun z => (firstS val (i + 1)).any (· == z)) (firstS val (i + 1)).length := SetOf_congr z2 (fun z => by rw [firstS_succ, stepS_any]) (by rw [firstS_succ, stepS_len])
    refine wpAny_pure ⟨plainId_quiet F.plain_set_update_loop _, ih (i + 1) _ (by omega) lt (W.frame _ s' _ _ st' (Nat.le_succ _) fun b hb o e => ?_) z3 fun s'' mv' z4 => ?_⟩
    · rw [sb.2 b (fun h : b = S => nSf (by rw [← h]; exact hb))]; exact e
    · refine fin s'' (Moved.trans W.gtrans ((mv.mono up).then_heap (Nat.le_succ _) fun b o hb e => ?_) mv') z4
      rw [sb.2 b (fun h : b = S => hb (by rw [h]; exact List.mem_cons_self))]; exact e
end
end PySem

set_option linter.all false
set_option maxHeartbeats 4000000
set_option maxRecDepth 100000
namespace PySem
open PyProof.Rows
namespace F
theorem sv_sub1 : isSubtype (.type "tuple") (.type "set") = pure false := by rw [isSubtype_type]; kernel_rfl
theorem sv_sub2 : isSubtype (.type "tuple") (.type "frozenset") = pure false := by rw [isSubtype_type]; kernel_rfl
end F
section
variable {prog : Program} {w : World} {A : Around} {E : Value → Shared → Prop} {s : Shared}
abbrev setO (led : Bool) : Obj := { cls := .type "set", dict := none, data := .set #[] 0 (.fresh 0 0 led) }
/-- set(t), t a tuple of texts -/
theorem setS_call {l : Addr} {items : Array Value} {ns : List Str} {Q : Value → Shared → Prop} (hh : A.handled = none) (hl : s.heap.IsTuple l items) (hi : StrsAre items.toList ns) (hb : items.size + 1 < scanBound)
    (h : ∀ (h' : Heap) (tk : Nat), h'.SetOf (strKind prog w) s.heap.objs.size (fun z => (firstS (fun i => ns.getD i Str.empty) items.size).any (· == z)) (firstS (fun i => ns.getD i Str.empty) items.size).length →
      (∀ b o, b < s.heap.objs.size → s.heap.get? b = some o → h'.get? b = some o) → Q (.ref s.heap.objs.size) { s with heap := h', toks := tk }) :
    wpAny (model prog w) A (call (.type "set") [.ref l]) Q E s := by
  obtain ⟨c, tl, hmro⟩ := F.called_set.mro
  have hmade := F.called_set.made
  have hsub := F.called_set.sub
  refine wpAny_call (codeAny_of_tree ?_)
  show wpAny _ _ (callAny (.type "set") _) _ _ _
  refine wpAny_pure ⟨Code.quiet_builtin _ (by decide +kernel), codeAny_builtin F.entry_type_call ?_⟩
  rw [Around.under_plain (weight_type_call_type "set" [.ref l] []) rfl]
  have h1 := F.called_set.notType
  have h2 := F.called_set.canCreate
  have hct := F.typeCall_set_1 (.ref l)
  repeat (any_goals (first | assumption | wp_step))
  refine codeAny_mono (code_set_new_1 (.ref l) (E := E) (Q₁ := fun obj t => ∃ led : Bool, obj = .ref s.heap.objs.size ∧ t = { s with heap := s.heap.push (setO led) }) fun led => ⟨led, rfl, rfl⟩) fun r s₁ hr => ?_
  cases r with
  | error e => exact hr
  | ok fl =>
    cases fl with
    | ret obj =>
      obtain ⟨led, rfl, rfl⟩ := hr
      have hS : (s.heap.push (setO led)).get? s.heap.objs.size = some (setO led) := Heap.get?_push_size _ rfl
      have hT : Shared.TypeIs { s with heap := s.heap.push (setO led) } (.ref s.heap.objs.size) "set" := ⟨_, hS, rfl⟩
      have hli := F.called_set.init.lookup
      have hbi := F.called_set.init.bind (.ref s.heap.objs.size)
      repeat (any_goals (first | assumption | wp_step))
      refine codeAny_mono (codeAny_call_builtin (R := wants (fun r s₂ => r = .none ∧ ∃ h' tk, s₂ = { s with heap := h', toks := tk } ∧
          h'.SetOf (strKind prog w) s.heap.objs.size (fun z => (firstS (fun i => ns.getD i Str.empty) items.size).any (· == z)) (firstS (fun i => ns.getD i Str.empty) items.size).length ∧
          (∀ b o, b < s.heap.objs.size → s.heap.get? b = some o → h'.get? b = some o)) E) F.called_set.init.plain F.entry_set_init (check_set_init_1 hT ?_)) fun r₂ s₂ hr₂ => ?_
      · obtain ⟨ol, hol, hcl, nl, hdl⟩ := hl
        obtain ⟨ocls, odict, odata, oslots⟩ := ol
        simp only at hcl hdl
        subst hcl; subst hdl
        have hol' : (s.heap.push (setO led)).get? l = some { cls := .type "tuple", dict := odict, data := .seq items nl, slots := oslots } := Heap.get?_push_of_some _ hol
        have hsls := F.sv_sub1
        have hslf := F.sv_sub2
        have hne : (Value.type "tuple" == Value.type "dict") = false := by decide
        have hl1 : (s.heap.push (setO led)).IsTuple l items := ⟨_, hol', rfl, nl, rfl⟩
        unfold Builtin.«set.__init__» noKeywords Builtin.Frozenset.updateFrom
        generalize hPI : pyIter = PI
        wp_walk
        subst hPI
        refine wpAny_pyIter_tuple hl1 ?_
        refine wpAny_bind (wpAny_runValue ?_)
        have hlS : l < s.heap.objs.size := Heap.lt_size hol
        have hh3 : A.in1.in1.in1.handled = none := by simp [hh]
        have hneI : l ≠ (s.heap.push (setO led)).objs.size := by
          rw [Heap.size_push]; exact Nat.ne_of_lt (Nat.lt_succ_of_lt hlS)
        have hSf : s.heap.objs.size ∉ [(s.heap.push (setO led)).objs.size, l] := by
          rw [Heap.size_push]; simp only [List.mem_cons, List.mem_singleton, List.not_mem_nil, or_false, not_or]
          exact ⟨Nat.ne_of_lt (Nat.lt_succ_self _), Nat.ne_of_gt hlS⟩
        have hval : ∀ (i : Nat) (v : Value), items[i]? = some v → ∃ t, v = .str ((fun i => ns.getD i Str.empty) i) t := fun i v hv => setS_at hi i v (by rw [Array.getElem?_toList]; exact hv)
        refine setS_loop ((Walks.tuple hh3 _ l hneI items).toS) s.heap.objs.size hSf (fun i => ns.getD i Str.empty) hval hb (items.size - 0) 0 _ (by omega) (Nat.zero_le _)
          ⟨⟨_, Heap.get?_push_size _ rfl, rfl, rfl⟩, ⟨_, Heap.get?_push_of_some _ hol', rfl, nl, rfl⟩⟩ ?hS0 ?hR
        case hS0 =>
          have hget : ((s.heap.push (setO led)).push { cls := .type "tuple_iterator", data := .fields #[.ref l, .int 0 0] }).get? s.heap.objs.size = some (setO led) := Heap.get?_push_of_some _ hS
          exact SetOf_congr ((setObjOf_fresh (knd := strKind prog w) led).setOf hget (by unfold scanBound; omega)) (fun _ => rfl) rfl
        case hR =>
          intro s' hm hS'
          obtain ⟨h', g', d', tk', os'⟩ := s'
          have eg : g' = s.gens := hm.gens
          have ed : d' = s.drawn := hm.drawn
          have eo : os' = s.os := hm.os
          subst eg; subst ed; subst eo
          show wpAny _ _ _ _ _ _
          refine wpAny_pure ?_
          show wpAny _ _ (ret Value.none) _ _ _
          refine wpAny_pure ⟨rfl, h', tk', rfl, hS', fun b o hb e => ?_⟩
          have hb1 : b ≠ s.heap.objs.size := Nat.ne_of_lt hb
          have hb2 : b ≠ (s.heap.push (setO led)).objs.size := by
            rw [Heap.size_push]; exact Nat.ne_of_lt (Nat.lt_succ_of_lt hb)
          exact hm.heap b o (by simp only [List.mem_cons, List.mem_singleton, List.not_mem_nil, or_false, not_or]; exact ⟨hb1, hb2⟩) (Heap.get?_push_of_some _ (Heap.get?_push_of_some _ e))
      · cases r₂ with
        | error e => exact hr₂
        | ok fl₂ =>
          cases fl₂ with
          | ret r =>
            obtain ⟨rfl, h', tk, rfl, hS', hk'⟩ := hr₂
            repeat (any_goals (first | assumption | wp_step))
            exact h _ _ hS' hk'
          | _ => exact hr₂.elim
    | _ => exact hr.elim
end
end PySem

set_option linter.all false
set_option maxHeartbeats 4000000
set_option maxRecDepth 100000
namespace L2
open PySem PySem.W PySem.Spec PyProof.Rows
theorem strsAre_of : ∀ {ts : List Str} {its : List Value}, Vals (ts.map V.str) its → StrsAre its ts
  | [], _, .nil => .nil
  | x :: ts, _, .cons ⟨t, e⟩ r => by
    subst e
    exact .cons x t (strsAre_of r)
/-- how many of the texts are unlike -/
def manyS (ns : List Str) : Nat := (firstS (fun i => ns.getD i Str.empty) ns.length).length
/-- len(set(t)), t a tuple of texts -/
theorem pe_lenSet {X : Cx} {e : Expr} {t : TE} {p1 p2 pos2 pos : Pos} (hg1 : Gl X "len") (n1 : X.mg "len" = none) (b1 : bootBuiltins "len" = some (.builtin "len")) (hg2 : Gl X "set") (n2 : X.mg "set" = none) (b2 : bootBuiltins "set" = some (.type "set")) (he : PE X e t) (hc : X.calm = true := by rfl)
    (hs : starEach [e] X.env = [(false, eval e X.env)] := by rfl) :
    PE X (.Call (.Name "len" p1) [.Call (.Name "set" p2) [e] [] pos2] [] pos) (fun σ H Q => t σ H fun x H1 => ∃ (p : Addr) (ns : List Str), x = .ref p ∧ SqT X.K H1 p (ns.map V.str) ∧ ns.length ≤ 100 ∧ Q (.int (manyS ns)) H1) := by
  intro pins s σ H Q I h
  refine wpAny_Call_Name_kw (ld_blt I hg1 n1 b1 ?_)
  refine PyProof.Rows.callWith_builtin1 ?_ rfl rfl
  show wpAny _ _ (spliced ((false, eval (.Call (.Name "set" p2) [e] [] pos2) X.env) :: backTo pos (starEach [] X.env))) _ _ s
  refine Calls.spliced_cons ?_
  refine wpAny_Call_Name_kw (ld_blt I hg2 n2 b2 ?_)
  refine PyProof.Rows.callWith_type1 ?_ hs rfl
  rw [hs]
  show wpAny _ _ (spliced ((false, eval e X.env) :: backTo pos2 (starEach [] X.env))) _ _ s
  refine Calls.spliced_cons (thn (he pins s σ H _ I h) fun u s1 ⟨x, H1, I1, r1, p, ns, ex, hq, hn, q⟩ => ?_)
  subst ex
  cases r1
  refine Calls.spliced_nil ?_
  obtain ⟨its, rv, pl, hz⟩ := I1.tuple hq
  have hlen := rv.length
  rw [List.length_map] at hlen
  have pt : s1.heap.IsTuple p its.toArray := pl
  have esz : its.toArray.size = ns.length := by simp [hlen]
  refine setS_call (I1.ok.hd hc) pt (by simpa using strsAre_of rv) (by rw [esz]; unfold scanBound; omega) fun h' tk zs kp => ?_
  refine Calls.spliced_nil ?_
  obtain ⟨o, es, ep, tb, ho, ex, hd, _, _, _, hf, en⟩ := zs
  rw [esz] at en
  have le := firstS_le (fun i => ns.getD i Str.empty) ns.length
  refine call_len_set (s := { s1 with heap := h', toks := tk }) ho ex hd hf (by rw [en]; omega) ?_
  refine ⟨.int (manyS ns), H1, I1.kept (t' := tk + 1 + 1) fun b o eb => kp b o (Heap.lt_size eb) eb, ⟨_, by rw [en]; rfl⟩, q⟩
end L2

set_option linter.all false
set_option maxHeartbeats 4000000
set_option maxRecDepth 100000
namespace L2
open PySem PySem.W PySem.Spec PyProof.Rows
/-- a text walked sign by sign -/
def Itc (z : Str) : It :=
  ⟨fun i _ => i < z.cps.size, fun i H v H' => H' = H ∧ ∃ c, v = .str ⟨#[c]⟩ ∧ z.cps[i]? = some c, fun i _ => z.cps.size ≤ i⟩
theorem walkS {P : Program} {w : World} {A : Around} (hh : A.handled = none) (it : Addr) (z : Str) (t : Tok) : Walks P w A it [it] [it] z.cps.size (SignAt z) (fun i h => h.IsStrIter it (strIterType z) z t i) := by
  cases ha : z.cps.all (· < 128)
  · rw [show strIterType z = "str_iterator" by simp [strIterType, ha]]; exact Walks.strWide hh it z t
  · rw [show strIterType z = "str_ascii_iterator" by simp [strIterType, ha]]; exact Walks.strAscii hh it z t
theorem turn_str {P : Program} {w : World} {K : PySem.W.Frag} {tg : Expr} (z : Str) (t : Tok) (it : Addr) : Turn P w K tg (Itc z) [it] it (fun i h => i ≤ z.cps.size ∧ h.IsStrIter it (strIterType z) z t i) where
  mem := by simp
  obj := fun i h st b hb => by
    have e : b = it := by simpa using hb
    subst e
    obtain ⟨_, o, e, c, d⟩ := st
    exact ⟨o, e, fun v z => by rw [d] at z; cases z⟩
  keep := fun i h h' st k => ⟨st.1, let ⟨o, ho, r⟩ := st.2; ⟨o, k it (by simp) o ho, r⟩⟩
  item := by
    intro X hP hw hK hc i pins s σ H E I hf st hg
    subst hP hw hK
    obtain ⟨f0, f1, f2, f3, f4, f5⟩ := hf it (by simp)
    refine (walkS (I.ok.hd hc) it z t).item i s _ _ hg st.2 fun v h' tk pv st' kp => ?_
    obtain ⟨c, u, ec, rfl⟩ := pv
    have I1 : Inv X pins σ H { s with heap := h', toks := tk } := I.turned (t' := tk) (fun b o hb e => kp b o (by simpa using hb) e) f0 f1 f3 f4 f5
    obtain ⟨o, e, cl, d⟩ := id st'
    refine ⟨_, rfl, ?_⟩
    cases ha : z.cps.all (· < 128)
    · rw [show strIterType z = "str_iterator" by simp [strIterType, ha]] at cl
      exact go_of (s := { s with heap := h', toks := tk }) e cl d (by decide) ⟨.str ⟨#[c]⟩, H, I1, ⟨_, rfl⟩, ⟨rfl, c, rfl, ec⟩, ⟨hg, st'⟩, fun b hb => (hf b hb).1⟩
    · rw [show strIterType z = "str_ascii_iterator" by simp [strIterType, ha]] at cl
      exact go_of (s := { s with heap := h', toks := tk }) e cl d (by decide) ⟨.str ⟨#[c]⟩, H, I1, ⟨_, rfl⟩, ⟨rfl, c, rfl, ec⟩, ⟨hg, st'⟩, fun b hb => (hf b hb).1⟩
  done := by
    intro X hP hw hK hc i pins s σ H E I hf st hg
    subst hP hw hK
    obtain ⟨f0, f1, f2, f3, f4, f5⟩ := hf it (by simp)
    have e : i = z.cps.size := Nat.le_antisymm st.1 hg
    subst e
    exact (walkS (I.ok.hd hc) it z t).done s _ _ st.2 fun h' tk kp => ⟨rfl, I.turned (t' := tk) (fun b o hb e => kp b o (by simpa using hb) e) f0 f1 f3 f4 f5⟩
  self := fun A i s Q E st h => by
    cases ha : z.cps.all (· < 128)
    · have s2 := st.2
      rw [show strIterType z = "str_iterator" by simp [strIterType, ha]] at s2
      exact wpAny_pyIter_striter_wide s2 h
    · have s2 := st.2
      rw [show strIterType z = "str_ascii_iterator" by simp [strIterType, ha]] at s2
      exact wpAny_pyIter_striter_ascii s2 h
section
variable {X : Cx} {tg : Expr}
def iStrC (tl : TE) : TI := fun σ H R => tl σ H fun x H1 => ∃ z : Str, x = .str z ∧ R (Itc z) H1
theorem pi_strC {l : Expr} {tl : TE} (hl : PE X l tl) : PI X tg l (iStrC tl) := by
  intro pins s σ H R I h
  refine thn (hl pins s σ H _ I h) fun v s1 ⟨x, H1, I1, r1, q1⟩ => ?_
  obtain ⟨z, e, q⟩ := q1
  subst e
  obtain ⟨t, rfl⟩ := r1
  refine wpAny_pyIter_strU ?_
  refine ⟨s1.heap.objs.size, [s1.heap.objs.size], _, _, H1, rfl, I1.kept (t' := s1.toks) fun b o e => Heap.get?_push_of_some _ e, turn_str z t _, ⟨Nat.zero_le _, ⟨_, Heap.get?_push_size _ rfl, rfl, rfl⟩⟩, fun b hb => ?_, q⟩
  have e : b = s1.heap.objs.size := by simpa using hb
  subst e
  exact I1.fpOk (Nat.le_refl _) (I1.hok.fresh (Nat.le_refl _))
end
section
variable {z : Str} {y : Str} {cap : List Nat} {tt : TT} {te : TE} {σ : St} {Z : List V → Hp → Prop} {H1 : Hp}
/-- each sign by a function, nothing changed -/
theorem blk_str (f : Nat → V) (hz : z.cps.size < sizeLine) (he : ∀ c, ∀ Q : VK, Q (f c) H1 → te ((capS [y] cap σ).set 0 (some (.str ⟨#[c]⟩))) H1 Q) (hd : Z (z.cps.toList.map f) H1) : tBlk [y] cap (gName 0) tYes te σ Z (Itc z) H1 := by
  refine ⟨fun i m acc H => m = z.cps.size - i ∧ i ≤ z.cps.size ∧ acc = (z.cps.toList.take i).map f ∧ H = H1, ⟨_, rfl, Nat.zero_le _, by simp, rfl⟩, ?_⟩
  rintro i m acc H ⟨rfl, hi, rfl, rfl⟩
  refine ⟨by rw [List.length_map, List.length_take, Array.length_toList]; omega, ?_⟩
  by_cases hlt : i < z.cps.size
  · refine .inr ⟨hlt, fun x H3 yl => ?_⟩
    obtain ⟨e, c, rfl, ec⟩ := yl
    subst e
    refine ⟨wk_one y cap σ _, ?_⟩
    unfold tYes
    dsimp only
    rw [if_pos rfl]
    refine he c _ ⟨z.cps.size - (i + 1), by omega, rfl, hlt, ?_, rfl⟩
    have ec' : z.cps.toList[i]? = some c := by simpa using ec
    rw [List.take_add_one, ec']
    simp
  · have e : i = z.cps.size := by omega
    subst e
    refine .inl ⟨Nat.le_refl _, ?_⟩
    rw [show z.cps.size = z.cps.toList.length from (Array.length_toList).symm, List.take_length]
    exact hd
end
/-- a tuple of texts, as the text's own part shows it -/
def tupIn (K : Frag) (a : Addr) (ss : List Str) : Bool := match K.lookup a with
  | some ⟨.type "tuple", _, .seq its _, _⟩ => decide (its.size ≤ 1000) && (its.toList.map fun v => match v with | .str x _ => some x | _ => none) == ss.map some
  | _ => false
theorem tupIn_sq {K : Frag} {a : Addr} {ss : List Str} (h : tupIn K a ss = true) (H : Hp) : SqT K H a (ss.map V.str) := by
  unfold tupIn at h
  split at h
  · rename_i od its n sl e
    rw [Bool.and_eq_true] at h
    obtain ⟨h1, h2⟩ := h
    have h3 := beq_iff_eq.mp h2
    refine .inr ⟨_, its, n, e, rfl, rfl, Nat.le_of_lt (small1000 (of_decide_eq_true h1)), ?_⟩
    generalize its.toList = l at h3
    clear h1 h2 e
    induction l generalizing ss with
    | nil => cases ss with
      | nil => exact .nil
      | cons _ _ => cases h3
    | cons v l ih => cases ss with
      | nil => cases h3
      | cons x ss =>
        rw [List.map_cons, List.map_cons] at h3
        injection h3 with h4 h5
        refine .cons ?_ (ih h5)
        cases v <;> first | cases h4 | skip
        exact ⟨_, rfl⟩
  · cases h
end L2

set_option linter.all false
set_option maxHeartbeats 4000000
set_option maxRecDepth 100000
namespace L2
open PySem PySem.W PyProof.Rows
/-- try: return f(..) is None except C0 as the i-th name: .. -/
def tTryR (sp : Sp) (K : Frag) (C0 : Addr) (i : Nat) (t : TA) (ts : TS) : TS := fun D σ H => t σ H fun vs H1 => sp vs H1 (fun v H2 => D.rt (.bl (decide (v = .non))) H2) fun cls _ H2 => ∃ C bm nid, cls = .ref C ∧ excIn K C bm nid = true ∧ belowIn K C C0 = true ∧
  ∀ a, H2 a = none → ts { nx := fun σ' H' => D.nx (σ'.set i none) H', rt := D.rt, bk := fun σ' H' => D.bk (σ'.set i none) H', ct := fun σ' H' => D.ct (σ'.set i none) H' } (σ.set i (some (.ref a))) (upd H2 a (excO a C))
section
variable {X : Cx} {k : Nat} {f : Addr} {fd : FuncData} {ps : List Str} {sp : Sp} {x c n : Str} {p cpos epos np hpos pos rpos kp : Pos} {kc : _} {e : Expr} {es : List Expr} {b₀ : Stmt} {suite : List Stmt} {t : TA} {ts : TS} {i : Nat} {C0 : Addr} {bmB : List Value} {newId : String}
end
end L2

set_option linter.all false
set_option maxHeartbeats 4000000
set_option maxRecDepth 100000
namespace L2
open PySem PySem.W PySem.Spec PyProof.Rows
/-- t + u of tuples, empty ones too -/
def rCatE (K : PySem.W.Frag) : R2 := fun x y H Q => ∃ a b xs ys, x = .ref a ∧ y = .ref b ∧ SqT K H a xs ∧ SqT K H b ys ∧ xs.length + ys.length ≤ sizeLine ∧ (xs = [] → Q (.ref b) H) ∧ (xs ≠ [] → ys = [] → Q (.ref a) H) ∧ (xs ≠ [] → ys ≠ [] → ∀ p, H p = none → Q (.ref p) (upd H p (.tup (xs ++ ys))))
section
variable {X : Cx}
end
theorem seq_asg {te : TE} {g : TG} {u : TS} {D : Ends} {σ : St} {H : Hp} (h : te σ H fun v H1 => g v σ H1 fun σ2 H2 => u D σ2 H2) : tSeq (tAsg te g) u D σ H := h
end L2

set_option linter.all false
set_option maxHeartbeats 4000000
set_option maxRecDepth 100000
namespace L2
open PySem PySem.W PySem.Spec PySem.Calls PyProof.Rows
open Builtin Builtin.Str
theorem line5 : (100000 : Nat) ≤ sizeLine := by decide
section
variable {X : Cx}
/-- text.split(sep), a long text -/
def rSplitB : V → List V → Hp → VK → Prop := fun x vs H Q => ∃ (z sep : Str), x = .str z ∧ vs = [.str sep] ∧ (sep.length == 0) = false ∧ z.length ≤ 100000 ∧ (Txt.split z sep).length ≤ 900 ∧ ∀ l, H l = none → Q (.ref l) (upd H l (.lst ((Txt.split z sep).map V.str)))
theorem mt_splitB : MtM X "str.split" rSplitB := by
  intro pins s σ H x vs v us Q I rx rv h
  obtain ⟨x, y, rfl, rfl, hy, hz, hn, q⟩ := h
  obtain ⟨t, rfl⟩ := rx
  obtain ⟨u0, rfl, ru⟩ := rv.one
  obtain ⟨u, rfl⟩ := ru
  have fin : ∀ (l : List (Str × Tok)) (k : Nat), l.map (·.1) = Txt.split x y → EP X pins σ Q (.ref s.heap.objs.size) { s with toks := k, heap := s.heap.push { cls := .type "list", data := .seq (strValues l).toArray } } := fun l k e => by
    refine ⟨.ref s.heap.objs.size, _, I.laid (t' := k) (o := .lst ((Txt.split x y).map V.str)) (fun b ob q => Heap.get?_push_of_some _ q) (Nat.le_refl _) ?_, rfl, q _ (I.hok.fresh (Nat.le_refl _))⟩
    exact ⟨by rw [List.length_map]; exact Nat.le_of_lt (small1000 (by omega)), _, 0, strVals e, Heap.get?_push_size _ rfl⟩
  have hsz : x.length ≤ sizeLine := Nat.le_trans hz line5
  cases h1 : (decide (x.length < y.length) || decide (strKind x < strKind y))
  · cases hf : (occurrences x y 0 x.length (x.length + 1)).isEmpty
    · have hs2 : (partsBetween x (occurrences x y 0 x.length (x.length + 1)) y.length).length ≤ sizeLine := by
        have e : Txt.split x y = partsBetween x (occurrences x y 0 x.length (x.length + 1)) y.length := (if_neg (ne_true_of_eq_false h1)).trans (if_neg (ne_true_of_eq_false hf))
        rw [← e]; exact Nat.le_of_lt (small1000 (by omega))
      refine call_meets F.slot_str_split (typeIs_str _ _ _) F.entry_str_split (F.args_str_split_2 _ _) (meets_str_split_sep x y t u h1 hy hf hsz hs2) ?_
      show wants _ _ _ { s with toks := _, heap := s.heap.push { cls := .type "list", data := .seq (strsFrom s.toks (partsBetween x (occurrences x y 0 x.length (x.length + 1)) y.length)).toArray } }
      rw [strsFrom_eq]
      exact fin (numbered s.toks _) _ ((numbered_texts _ _).trans ((if_neg (ne_true_of_eq_false h1)).trans (if_neg (ne_true_of_eq_false hf))).symm)
    · exact call_meets F.slot_str_split (typeIs_str _ _ _) F.entry_str_split (F.args_str_split_2 _ _) (meets_str_split_not_found x y t u h1 hy hf)
        (fin [(x, t)] _ ((if_neg (ne_true_of_eq_false h1)).trans (if_pos hf)).symm)
  · exact call_meets F.slot_str_split (typeIs_str _ _ _) F.entry_str_split (F.args_str_split_2 _ _) (meets_str_split_cannot_occur x y t u h1)
      (fin [(x, t)] _ (if_pos h1).symm)
/-- text.partition(sep) -/
def rPart : V → List V → Hp → VK → Prop := fun x vs H Q => ∃ (z sep : Str), x = .str z ∧ vs = [.str sep] ∧ (sep.length == 0) = false ∧ z.length ≤ 100000 ∧ ∀ p, H p = none → Q (.ref p) (upd H p (.tup [.str (Txt.partition z sep).1, .str (Txt.partition z sep).2.1, .str (Txt.partition z sep).2.2]))
theorem mt_partition : MtM X "str.partition" rPart := by
  intro pins s σ H x vs v us Q I rx rv h
  obtain ⟨x, y, rfl, rfl, hy, hz, q⟩ := h
  obtain ⟨t, rfl⟩ := rx
  obtain ⟨u0, rfl, ru⟩ := rv.one
  obtain ⟨u, rfl⟩ := ru
  have hsz : x.length ≤ sizeLine := Nat.le_trans hz line5
  refine call_meets F.slot_str_partition (typeIs_str _ _ _) F.entry_str_partition (F.args_str_partition_2 _ _) (meets_str_partition x y t u hy hsz) ?_
  unfold Txt.partition at q
  have n3 : (3 : Nat) ≤ sizeLine := by decide
  cases ho : occurrences x y 0 x.length 1 with
  | nil =>
    rw [ho] at q
    refine ⟨.ref s.heap.objs.size, _, I.laid (t' := s.toks + 1) (o := .tup [.str x, .str Str.empty, .str Str.empty]) (fun b ob q => Heap.get?_push_of_some _ q) (Nat.le_refl _) ?_, rfl, q _ (I.hok.fresh (Nat.le_refl _))⟩
    exact ⟨n3, _, .cons ⟨_, rfl⟩ (.cons ⟨_, rfl⟩ (.cons ⟨_, rfl⟩ .nil)), _, Heap.get?_push_size _ rfl, rfl, _, rfl⟩
  | cons i r =>
    rw [ho] at q
    refine ⟨.ref s.heap.objs.size, _, I.laid (t' := s.toks + 1 + 1) (o := .tup [.str (strSub x 0 i), .str y, .str (strSub x (i + y.length) x.length)]) (fun b ob q => Heap.get?_push_of_some _ q) (Nat.le_refl _) ?_, rfl, q _ (I.hok.fresh (Nat.le_refl _))⟩
    exact ⟨n3, _, .cons ⟨_, rfl⟩ (.cons ⟨_, rfl⟩ (.cons ⟨_, rfl⟩ .nil)), _, Heap.get?_push_size _ rfl, rfl, _, rfl⟩
/-- text.lstrip(signs) -/
def rLstrip : V → List V → Hp → VK → Prop := fun x vs H Q => ∃ (z y : Str), x = .str z ∧ vs = [.str y] ∧ z.length ≤ 100000 ∧ Q (.str (Txt.lstripChars z y)) H
theorem mt_lstrip : MtM X "str.lstrip" rLstrip := by
  intro pins s σ H x vs v us Q I rx rv h
  obtain ⟨x, y, rfl, rfl, hz, q⟩ := h
  obtain ⟨t, rfl⟩ := rx
  obtain ⟨u0, rfl, ru⟩ := rv.one
  obtain ⟨u, rfl⟩ := ru
  exact SC.lstripChars (fun t' k => ⟨.str _, H, I.tok _, ⟨t', rfl⟩, q⟩) (Nat.le_trans hz line5)
theorem joinOk_of' {sep : Str} {ts : List Str} (h : (ts.map (·.length)).sum + ts.length * sep.length ≤ 100000) : JoinOk sep ts = true := by
  unfold JoinOk Builtin.Str.tooLong
  rw [StrLaws.joinTotal]
  simp only [Bool.not_eq_true', decide_eq_false_iff_not, gt_iff_lt, Nat.not_lt]
  exact Nat.le_trans h line5
/-- sep.join(texts), long ones -/
def rJoinB (K : PySem.W.Frag) : V → List V → Hp → VK → Prop := fun x vs H Q => ∃ (sep : Str) (p : Addr) (ts : List Str), x = .str sep ∧ vs = [.ref p] ∧ SqL K H p (ts.map V.str) ∧ (ts.map (·.length)).sum + ts.length * sep.length ≤ 100000 ∧ Q (.str (Str.join sep ts)) H
theorem mt_joinB : MtM X "str.join" (rJoinB X.K) := by
  intro pins s σ H x vs v us Q I rx rv h
  obtain ⟨sep, p, ts, rfl, rfl, hp, hz, q⟩ := h
  obtain ⟨t, rfl⟩ := rx
  obtain ⟨u, rfl, ru⟩ := rv.one
  cases ru
  obtain ⟨its, r, pl, _⟩ := I.list hp
  obtain ⟨l, e1, e2⟩ := strs_of r
  rw [← e1] at pl
  refine SC.join pl.isList e2 (joinOk_of' hz) fun t' k => ⟨.str (Str.join sep ts), H, I.tok _, ⟨t', ?_⟩, q⟩
  show Value.str (Builtin.Str.glued sep ts) t' = _
  rw [StrLaws.glued_eq_join]
/-- int(text of a number) -/
theorem call_intT : CallR X (.type "int") (fun xs H Q => ∃ n : Int, xs = [.str (Str.ofString (toString n))] ∧ 0 ≤ n ∧ n < 10 ^ 10 ∧ Q (.int n) H) := by
  intro pins s σ H xs us Q I r h
  obtain ⟨n, rfl, h0, h1, q⟩ := h
  obtain ⟨u, rfl, rx⟩ := vals1 r
  obtain ⟨t, rfl⟩ := rx
  exact KIN.call_num h0 h1 ⟨.int n, H, I.tok _, ⟨_, rfl⟩, q⟩
/-- try: nothing is raised in it -/
theorem ps_tryN {body : List Stmt} {h₀ : ExceptHandler} {hs : List ExceptHandler} {pos : Pos} {t : TS} (hb : PSs X.nox body t) : PS X (.Try body (h₀ :: hs) [] [] pos) t := by
  intro pins s σ H D I h
  refine wpAny_Try_except ?_
  refine wpAny_mono (hb pins s σ H D (I.wish _) h) (fun fl s1 q => ?_) fun _ _ z => z.elim
  cases fl with
  | next => obtain ⟨σ', H', J, q⟩ := q; exact wpAny_execs_nil ⟨σ', H', J.unwish, q⟩
  | brk => obtain ⟨σ', H', J, q⟩ := q; exact ⟨σ', H', J.unwish, q⟩
  | cont => obtain ⟨σ', H', J, q⟩ := q; exact ⟨σ', H', J.unwish, q⟩
  | ret u => obtain ⟨v, σ', H', J, r, q⟩ := q; exact ⟨v, σ', H', J.unwish, r, q⟩
end
/-- a list walked from behind -/
def Itv (K : PySem.W.Frag) (a : Addr) (xs : List V) : It :=
  ⟨fun i H => SqL K H a xs ∧ i < xs.length, fun i H v H' => H' = H ∧ xs.reverse[i]? = some v, fun i H => xs.length ≤ i⟩
theorem turn_rev {P : Program} {w : World} {K : PySem.W.Frag} {tg : Expr} (l : Addr) (xs : List V) (it : Addr) : Turn P w K tg (Itv K l xs) [it] it (fun i h => i ≤ xs.length ∧ h.IsRevIter it l ((xs.length : Int) - 1 - (i : Int))) where
  mem := by simp
  obj := fun i h st b hb => by
    have e : b = it := by simpa using hb
    subst e
    obtain ⟨_, o, e, c, d⟩ := st
    exact ⟨o, e, fun v z => by rw [d] at z; cases z⟩
  keep := fun i h h' st k => ⟨st.1, st.2.at fun o e => k it (by simp) o e⟩
  item := by
    intro X hP hw hK hc i pins s σ H E I hf st hg
    subst hP hw hK
    obtain ⟨hx, hi⟩ := hg
    obtain ⟨f0, f1, f2, f3, f4, f5⟩ := hf it (by simp)
    obtain ⟨its, rx, pl, _⟩ := I.list hx
    have lx := rx.length
    have e : (xs.length : Int) - 1 - (i : Int) = ((xs.length - 1 - i : Nat) : Int) := by omega
    have hit := st.2
    rw [e] at hit
    have ex : xs[xs.length - 1 - i]? = some (xs[xs.length - 1 - i]'(by omega)) := List.getElem?_eq_getElem (by omega)
    obtain ⟨u, hu, ru⟩ := rx.get ex
    refine wpAny_pyNext_rev_item hit pl.isList (x := u) (by simpa using hu) fun h' hit' sb => ?_
    have I1 : Inv X pins σ H { s with heap := h', toks := s.toks } := I.turned (t' := s.toks) (fun b o hb e => sb.extBut b o (by simpa using hb) e) f0 f1 f3 f4 f5
    have e2 : ((xs.length - 1 - i : Nat) : Int) - 1 = (xs.length : Int) - 1 - ((i + 1 : Nat) : Int) := by omega
    rw [e2] at hit'
    obtain ⟨o, eo, cl, d⟩ := id hit'
    refine ⟨_, rfl, go_of (s := { s with heap := h' }) eo cl d (by decide) ⟨_, H, I1, ru, ⟨rfl, ?_⟩, ⟨hi, hit'⟩, fun b hb => (hf b hb).1⟩⟩
    rw [List.getElem?_reverse hi]; exact ex
  done := by
    intro X hP hw hK hc i pins s σ H E I hf st hg
    subst hP hw hK
    obtain ⟨f0, f1, f2, f3, f4, f5⟩ := hf it (by simp)
    have hg' : xs.length ≤ i := hg
    have e : i = xs.length := Nat.le_antisymm st.1 hg'
    subst e
    have hit := st.2
    rw [show (xs.length : Int) - 1 - (xs.length : Int) = -1 by omega] at hit
    exact wpAny_pyNext_rev_end (I.ok.hd hc) hit fun h' eb => ⟨rfl, I.turned (t' := s.toks) (fun b o hb e => eb b o (by simpa using hb) e) f0 f1 f3 f4 f5⟩
  self := fun A i s Q E st h => wpAny_pyIter_revIter st.2 h
section
variable {X : Cx} {tg : Expr}
theorem boot_reversed : bootBuiltins "reversed" = some (.type "reversed") := by decide +kernel
def iRev (K : PySem.W.Frag) (ta : TA) : TI := fun σ H R => ta σ H fun vs H1 => ∃ (a : Addr) (xs : List V), vs = [.ref a] ∧ SqL K H1 a xs ∧ R (Itv K a xs) H1
theorem pi_rev {a : Expr} {ta : TA} {p pos : Pos} (hg : Gl X "reversed") (hm : X.mg "reversed" = none) (ha : PA X [a] ta) (hs : starEach [a] X.env = [(false, eval a X.env)] := by rfl) :
    PI X tg (.Call (.Name "reversed" p) [a] [] pos) (iRev X.K ta) := by
  intro pins s σ H R I h
  refine Call_ (ld_blt I hg hm boot_reversed (PyProof.Rows.callWith_type1 (thn (ha pos pins s σ H _ I h) fun us s1 ⟨vs, H1, I1, r1, q1⟩ => ?_) hs rfl))
  obtain ⟨a, xs, e, hx, hR⟩ := q1
  subst e
  cases r1 with
  | cons r rr =>
    cases rr
    cases r
    obtain ⟨its, rx, pl, _⟩ := I1.list hx
    have lx := rx.length
    refine call_reversed_list pl.isList ?_
    have hit : (s1.heap.push (revObj a ((its.toArray.size : Int) - 1))).IsRevIter s1.heap.objs.size a ((xs.length : Int) - 1 - ((0 : Nat) : Int)) := ⟨_, Heap.get?_push_size _ rfl, rfl, by
      show Data.fields _ = _
      rw [show (its.toArray.size : Int) - 1 = (xs.length : Int) - 1 - ((0 : Nat) : Int) by simp only [List.size_toArray]; omega]⟩
    refine wpAny_pyIter_revIter hit ⟨_, [s1.heap.objs.size], _, _, H1, rfl, I1.kept (t' := s1.toks) (fun b o e => Heap.get?_push_of_some _ e), turn_rev a xs _, ⟨Nat.zero_le _, hit⟩, fun c hc => ?_, hR⟩
    have e : c = s1.heap.objs.size := by simpa using hc
    subst e
    exact I1.fpOk (Nat.le_refl _) (I1.hok.fresh (Nat.le_refl _))
end
/-- a loop over a list from behind -/
theorem for_rev {K : PySem.W.Frag} {a : Addr} {xs : List V} {g : TG} {tb : TS} {D : Ends} {σ : St} {H : Hp} (Pv : Nat → St → Hp → Prop) (h0 : Pv 0 σ H) (hl : ∀ i σ H, i < xs.length → Pv i σ H → SqL K H a xs)
    (hs : ∀ i x σ H, xs.reverse[i]? = some x → Pv i σ H → g x σ H fun σ2 H2 => tb { D with nx := Pv (i + 1), ct := Pv (i + 1), bk := D.nx } σ2 H2) (hd : ∀ σ H, Pv xs.length σ H → D.nx σ H) :
    ∃ W : Nat → Nat → St → Hp → Prop, (∃ m, W 0 m σ H) ∧ ∀ i m σ H, W i m σ H →
      ((Itv K a xs).stop i H ∧ D.nx σ H) ∨ ((Itv K a xs).go i H ∧ ∃ N : St → Hp → Prop, (∀ σ' H', N σ' H' → ∃ m', m' < m ∧ W (i + 1) m' σ' H') ∧ ∀ x H', (Itv K a xs).yld i H x H' → g x σ H' fun σ2 H2 => tb { D with nx := N, ct := N, bk := D.nx } σ2 H2) :=
  for_any xs.length Pv h0 (fun i σ H hi p => ⟨hl i σ H hi p, hi⟩) (fun σ H p => Nat.le_refl _) (fun i x σ H H' hi p y => by
    obtain ⟨e, y⟩ := y
    subst e
    exact hs i x σ _ y p) hd
end L2

set_option linter.all false
set_option maxHeartbeats 4000000
set_option maxRecDepth 100000
namespace KP
open PySem L2
/-! the text by places -/
def top (i : Nat) : Stmt := PySem.Challenge.pw_panehouse_k14_whole_texts.main.body.getD i (.Pass ⟨0, 0, 0, 0⟩)
abbrev s_is_number : Stmt := top 16
abbrev s_is_within : Stmt := top 17
abbrev s_has_only : Stmt := top 18
abbrev s_is_name : Stmt := top 19
abbrev s_is_kind : Stmt := top 31
abbrev s_are_tags : Stmt := top 32
abbrev s_is_word : Stmt := top 33
abbrev s_is_words_text : Stmt := top 34
abbrev s_is_more : Stmt := top 35
abbrev s_are_kids : Stmt := top 36
abbrev s_is_box_alone : Stmt := top 37
abbrev s_need_document : Stmt := top 38
abbrev s_row_of : Stmt := top 41
abbrev s_rows_of : Stmt := top 42
abbrev s_document_text : Stmt := top 43
abbrev s_columns_of : Stmt := top 44
abbrev s_read_row : Stmt := top 45
abbrev s_taken_kids : Stmt := top 46
abbrev s_read_rows : Stmt := top 47
abbrev s_read_document : Stmt := top 48
abbrev s_l_cell_at : Stmt := top 50
abbrev s_l_mix : Stmt := top 51
abbrev s_l_state : Stmt := top 52
abbrev s_l_names : Stmt := top 53
abbrev s_l_tags : Stmt := top 54
abbrev s_l_text : Stmt := top 55
abbrev s_l_rows : Stmt := top 56
abbrev s_l_box : Stmt := top 57
abbrev s_l_same : Stmt := top 59
abbrev s_l_doc_text : Stmt := top 60
abbrev s_l_alone : Stmt := top 61
abbrev s_l_refused : Stmt := top 62
abbrev s_l_both : Stmt := top 63
abbrev s_l_great : Stmt := top 64
abbrev s_law : Stmt := top 65
-- is_number: 0=thing
abbrev N_is_number : List Str := ["thing"]
abbrev P_is_number : List Str := ["thing"]
theorem sc_is_number : FnScope N_is_number P_is_number (defScope s_is_number) := ⟨rfl, rfl, rfl, by decide +kernel, rfl, by decide +kernel, by decide +kernel⟩
-- is_within: 0=thing 1=least 2=most
abbrev N_is_within : List Str := ["thing", "least", "most"]
abbrev P_is_within : List Str := ["thing", "least", "most"]
theorem sc_is_within : FnScope N_is_within P_is_within (defScope s_is_within) := ⟨rfl, rfl, rfl, by decide +kernel, rfl, by decide +kernel, by decide +kernel⟩
-- has_only: 0=text 1=signs
abbrev N_has_only : List Str := ["text", "signs"]
abbrev P_has_only : List Str := ["text", "signs"]
theorem sc_has_only : FnScope N_has_only P_has_only (defScope s_has_only) := ⟨rfl, rfl, rfl, by decide +kernel, rfl, by decide +kernel, by decide +kernel⟩
-- is_name: 0=thing
abbrev N_is_name : List Str := ["thing"]
abbrev P_is_name : List Str := ["thing"]
theorem sc_is_name : FnScope N_is_name P_is_name (defScope s_is_name) := ⟨rfl, rfl, rfl, by decide +kernel, rfl, by decide +kernel, by decide +kernel⟩
-- is_kind: 0=thing
abbrev N_is_kind : List Str := ["thing"]
abbrev P_is_kind : List Str := ["thing"]
theorem sc_is_kind : FnScope N_is_kind P_is_kind (defScope s_is_kind) := ⟨rfl, rfl, rfl, by decide +kernel, rfl, by decide +kernel, by decide +kernel⟩
-- are_tags: 0=thing
abbrev N_are_tags : List Str := ["thing"]
abbrev P_are_tags : List Str := ["thing"]
theorem sc_are_tags : FnScope N_are_tags P_are_tags (defScope s_are_tags) := ⟨rfl, rfl, rfl, by decide +kernel, rfl, by decide +kernel, by decide +kernel⟩
-- is_word: 0=text
abbrev N_is_word : List Str := ["text"]
abbrev P_is_word : List Str := ["text"]
theorem sc_is_word : FnScope N_is_word P_is_word (defScope s_is_word) := ⟨rfl, rfl, rfl, by decide +kernel, rfl, by decide +kernel, by decide +kernel⟩
-- is_words_text: 0=thing
abbrev N_is_words_text : List Str := ["thing"]
abbrev P_is_words_text : List Str := ["thing"]
theorem sc_is_words_text : FnScope N_is_words_text P_is_words_text (defScope s_is_words_text) := ⟨rfl, rfl, rfl, by decide +kernel, rfl, by decide +kernel, by decide +kernel⟩
-- is_more: 0=kind 1=thing
abbrev N_is_more : List Str := ["kind", "thing"]
abbrev P_is_more : List Str := ["kind", "thing"]
theorem sc_is_more : FnScope N_is_more P_is_more (defScope s_is_more) := ⟨rfl, rfl, rfl, by decide +kernel, rfl, by decide +kernel, by decide +kernel⟩
-- are_kids: 0=kind 1=thing 2=most
abbrev N_are_kids : List Str := ["kind", "thing", "most"]
abbrev P_are_kids : List Str := ["kind", "thing"]
theorem sc_are_kids : FnScope N_are_kids P_are_kids (defScope s_are_kids) := ⟨rfl, rfl, rfl, by decide +kernel, rfl, by decide +kernel, by decide +kernel⟩
-- is_box_alone: 0=thing
abbrev N_is_box_alone : List Str := ["thing"]
abbrev P_is_box_alone : List Str := ["thing"]
theorem sc_is_box_alone : FnScope N_is_box_alone P_is_box_alone (defScope s_is_box_alone) := ⟨rfl, rfl, rfl, by decide +kernel, rfl, by decide +kernel, by decide +kernel⟩
-- need_document: 0=thing 1=names 2=waiting 3=entry 4=box 5=deep
abbrev N_need_document : List Str := ["thing", "names", "waiting", "entry", "box", "deep"]
abbrev P_need_document : List Str := ["thing"]
theorem sc_need_document : FnScope N_need_document P_need_document (defScope s_need_document) := ⟨rfl, rfl, rfl, by decide +kernel, rfl, by decide +kernel, by decide +kernel⟩
-- row_of: 0=box 1=words 2=row
abbrev N_row_of : List Str := ["box", "words", "row"]
abbrev P_row_of : List Str := ["box"]
theorem sc_row_of : FnScope N_row_of P_row_of (defScope s_row_of) := ⟨rfl, rfl, rfl, by decide +kernel, rfl, by decide +kernel, by decide +kernel⟩
-- rows_of: 0=box 1=deep 2=rows 3=kid
abbrev N_rows_of : List Str := ["box", "deep", "rows", "kid"]
abbrev P_rows_of : List Str := ["box", "deep"]
theorem sc_rows_of : FnScope N_rows_of P_rows_of (defScope s_rows_of) := ⟨rfl, rfl, rfl, by decide +kernel, rfl, by decide +kernel, by decide +kernel⟩
-- document_text: 0=doc
abbrev N_document_text : List Str := ["doc"]
abbrev P_document_text : List Str := ["doc"]
theorem sc_document_text : FnScope N_document_text P_document_text (defScope s_document_text) := ⟨rfl, rfl, rfl, by decide +kernel, rfl, by decide +kernel, by decide +kernel⟩
-- columns_of: 0=words
abbrev N_columns_of : List Str := ["words"]
abbrev P_columns_of : List Str := ["words"]
theorem sc_columns_of : FnScope N_columns_of P_columns_of (defScope s_columns_of) := ⟨rfl, rfl, rfl, by decide +kernel, rfl, by decide +kernel, by decide +kernel⟩
-- read_row: 0=row 1=kids 2=parts 3=words 4=kind 5=more 6=tags
abbrev N_read_row : List Str := ["row", "kids", "parts", "words", "kind", "more", "tags"]
abbrev P_read_row : List Str := ["row", "kids"]
theorem sc_read_row : FnScope N_read_row P_read_row (defScope s_read_row) := ⟨rfl, rfl, rfl, by decide +kernel, rfl, by decide +kernel, by decide +kernel⟩
-- taken_kids: 0=waiting 1=deep 2=kids
abbrev N_taken_kids : List Str := ["waiting", "deep", "kids"]
abbrev P_taken_kids : List Str := ["waiting", "deep"]
theorem sc_taken_kids : FnScope N_taken_kids P_taken_kids (defScope s_taken_kids) := ⟨rfl, rfl, rfl, by decide +kernel, rfl, by decide +kernel, by decide +kernel⟩
-- read_rows: 0=rows 1=waiting 2=row 3=bare 4=deep
abbrev N_read_rows : List Str := ["rows", "waiting", "row", "bare", "deep"]
abbrev P_read_rows : List Str := ["rows"]
theorem sc_read_rows : FnScope N_read_rows P_read_rows (defScope s_read_rows) := ⟨rfl, rfl, rfl, by decide +kernel, rfl, by decide +kernel, by decide +kernel⟩
-- read_document: 0=text 1=doc 2=written 3=e
abbrev N_read_document : List Str := ["text", "doc", "written", "e"]
abbrev P_read_document : List Str := ["text"]
theorem sc_read_document : FnScope N_read_document P_read_document (defScope s_read_document) := ⟨rfl, rfl, rfl, by decide +kernel, rfl, by decide +kernel, by decide +kernel⟩
-- _law_cell_at: 0=_law_script 1=_law_k
abbrev N_l_cell_at : List Str := ["_law_script", "_law_k"]
abbrev P_l_cell_at : List Str := ["_law_script", "_law_k"]
theorem sc_l_cell_at : FnScope N_l_cell_at P_l_cell_at (defScope s_l_cell_at) := ⟨rfl, rfl, rfl, by decide +kernel, rfl, by decide +kernel, by decide +kernel⟩
-- _law_mix: 0=_law_state_here 1=_law_cell
abbrev N_l_mix : List Str := ["_law_state_here", "_law_cell"]
abbrev P_l_mix : List Str := ["_law_state_here", "_law_cell"]
theorem sc_l_mix : FnScope N_l_mix P_l_mix (defScope s_l_mix) := ⟨rfl, rfl, rfl, by decide +kernel, rfl, by decide +kernel, by decide +kernel⟩
-- _law_state: 0=_law_script 1=_law_at
abbrev N_l_state : List Str := ["_law_script", "_law_at"]
abbrev P_l_state : List Str := ["_law_script", "_law_at"]
theorem sc_l_state : FnScope N_l_state P_l_state (defScope s_l_state) := ⟨rfl, rfl, rfl, by decide +kernel, rfl, by decide +kernel, by decide +kernel⟩
-- _law_names: 0=_law_cell 1=_law_size 2=_law_place 3=_law_some 4=_law_names_here 5=_law_k 6=_law_sign
abbrev N_l_names : List Str := ["_law_cell", "_law_size", "_law_place", "_law_some", "_law_names_here", "_law_k", "_law_sign"]
abbrev P_l_names : List Str := ["_law_cell"]
theorem sc_l_names : FnScope N_l_names P_l_names (defScope s_l_names) := ⟨rfl, rfl, rfl, by decide +kernel, rfl, by decide +kernel, by decide +kernel⟩
-- _law_tags: 0=_law_pick 1=_law_names_here 2=_law_many
abbrev N_l_tags : List Str := ["_law_pick", "_law_names_here", "_law_many"]
abbrev P_l_tags : List Str := ["_law_pick", "_law_names_here"]
theorem sc_l_tags : FnScope N_l_tags P_l_tags (defScope s_l_tags) := ⟨rfl, rfl, rfl, by decide +kernel, rfl, by decide +kernel, by decide +kernel⟩
-- _law_text: 0=_law_state_here 1=_law_cell 2=_law_signs 3=_law_words 4=_law_k 5=_law_pick 6=_law_size
abbrev N_l_text : List Str := ["_law_state_here", "_law_cell", "_law_signs", "_law_words", "_law_k", "_law_pick", "_law_size"]
abbrev P_l_text : List Str := ["_law_state_here", "_law_cell"]
theorem sc_l_text : FnScope N_l_text P_l_text (defScope s_l_text) := ⟨rfl, rfl, rfl, by decide +kernel, rfl, by decide +kernel, by decide +kernel⟩
-- _law_rows: 0=_law_script 1=_law_at 2=_law_state_here 3=_law_names_here 4=_law_kinds 5=_law_rows_here 6=_law_k 7=_law_pick 8=_law_holders 9=_law_about 10=_law_kind 11=_law_more
abbrev N_l_rows : List Str := ["_law_script", "_law_at", "_law_state_here", "_law_names_here", "_law_kinds", "_law_rows_here", "_law_k", "_law_pick", "_law_holders", "_law_about", "_law_kind", "_law_more"]
abbrev P_l_rows : List Str := ["_law_script", "_law_at"]
theorem sc_l_rows : FnScope N_l_rows P_l_rows (defScope s_l_rows) := ⟨rfl, rfl, rfl, by decide +kernel, rfl, by decide +kernel, by decide +kernel⟩
-- _law_box: 0=_law_rows_here 1=_law_k 2=_law_kids
abbrev N_l_box : List Str := ["_law_rows_here", "_law_k", "_law_kids"]
abbrev P_l_box : List Str := ["_law_rows_here", "_law_k"]
theorem sc_l_box : FnScope N_l_box P_l_box (defScope s_l_box) := ⟨rfl, rfl, rfl, by decide +kernel, rfl, by decide +kernel, by decide +kernel⟩
-- _law_same: 0=_law_one 1=_law_other
abbrev N_l_same : List Str := ["_law_one", "_law_other"]
abbrev P_l_same : List Str := ["_law_one", "_law_other"]
theorem sc_l_same : FnScope N_l_same P_l_same (defScope s_l_same) := ⟨rfl, rfl, rfl, by decide +kernel, rfl, by decide +kernel, by decide +kernel⟩
-- _law_doc_text: 0=_law_box_here 1=_law_deep 2=_law_words 3=_law_text_here
abbrev N_l_doc_text : List Str := ["_law_box_here", "_law_deep", "_law_words", "_law_text_here"]
abbrev P_l_doc_text : List Str := ["_law_box_here", "_law_deep"]
theorem sc_l_doc_text : FnScope N_l_doc_text P_l_doc_text (defScope s_l_doc_text) := ⟨rfl, rfl, rfl, by decide +kernel, rfl, by decide +kernel, by decide +kernel⟩
-- _law_alone: 0=_law_e
abbrev N_l_alone : List Str := ["_law_e"]
abbrev P_l_alone : List Str := ["_law_e"]
theorem sc_l_alone : FnScope N_l_alone P_l_alone (defScope s_l_alone) := ⟨rfl, rfl, rfl, by decide +kernel, rfl, by decide +kernel, by decide +kernel⟩
-- _law_refused: 0=_law_thing 1=_law_e
abbrev N_l_refused : List Str := ["_law_thing", "_law_e"]
abbrev P_l_refused : List Str := ["_law_thing"]
theorem sc_l_refused : FnScope N_l_refused P_l_refused (defScope s_l_refused) := ⟨rfl, rfl, rfl, by decide +kernel, rfl, by decide +kernel, by decide +kernel⟩
-- _law_both: 0=_law_doc 1=_law_due 2=_law_turn
abbrev N_l_both : List Str := ["_law_doc", "_law_due", "_law_turn"]
abbrev P_l_both : List Str := ["_law_doc"]
theorem sc_l_both : FnScope N_l_both P_l_both (defScope s_l_both) := ⟨rfl, rfl, rfl, by decide +kernel, rfl, by decide +kernel, by decide +kernel⟩
-- _law_great: 0=_law_cell 1=_law_kinds 2=_law_box_here 3=_law_k 4=_law_kind 5=_law_twelve 6=_law_kids 7=_law_j 8=_law_inner
abbrev N_l_great : List Str := ["_law_cell", "_law_kinds", "_law_box_here", "_law_k", "_law_kind", "_law_twelve", "_law_kids", "_law_j", "_law_inner"]
abbrev P_l_great : List Str := ["_law_cell"]
theorem sc_l_great : FnScope N_l_great P_l_great (defScope s_l_great) := ⟨rfl, rfl, rfl, by decide +kernel, rfl, by decide +kernel, by decide +kernel⟩
-- law: 0=_law_script
abbrev N_law : List Str := ["_law_script"]
abbrev P_law : List Str := ["_law_script"]
theorem sc_law : FnScope N_law P_law (defScope s_law) := ⟨rfl, rfl, rfl, by decide +kernel, rfl, by decide +kernel, by decide +kernel⟩
/-- the addresses of the defs, as the top has made them -/
structure Adr where
  f_is_number : Addr
  d_is_number : FuncData
  f_is_within : Addr
  d_is_within : FuncData
  f_has_only : Addr
  d_has_only : FuncData
  f_is_name : Addr
  d_is_name : FuncData
  f_is_kind : Addr
  d_is_kind : FuncData
  f_are_tags : Addr
  d_are_tags : FuncData
  f_is_word : Addr
  d_is_word : FuncData
  f_is_words_text : Addr
  d_is_words_text : FuncData
  f_is_more : Addr
  d_is_more : FuncData
  f_are_kids : Addr
  d_are_kids : FuncData
  f_is_box_alone : Addr
  d_is_box_alone : FuncData
  f_need_document : Addr
  d_need_document : FuncData
  f_row_of : Addr
  d_row_of : FuncData
  f_rows_of : Addr
  d_rows_of : FuncData
  f_document_text : Addr
  d_document_text : FuncData
  f_columns_of : Addr
  d_columns_of : FuncData
  f_read_row : Addr
  d_read_row : FuncData
  f_taken_kids : Addr
  d_taken_kids : FuncData
  f_read_rows : Addr
  d_read_rows : FuncData
  f_read_document : Addr
  d_read_document : FuncData
  f_l_cell_at : Addr
  d_l_cell_at : FuncData
  f_l_mix : Addr
  d_l_mix : FuncData
  f_l_state : Addr
  d_l_state : FuncData
  f_l_names : Addr
  d_l_names : FuncData
  f_l_tags : Addr
  d_l_tags : FuncData
  f_l_text : Addr
  d_l_text : FuncData
  f_l_rows : Addr
  d_l_rows : FuncData
  f_l_box : Addr
  d_l_box : FuncData
  f_l_same : Addr
  d_l_same : FuncData
  f_l_doc_text : Addr
  d_l_doc_text : FuncData
  f_l_alone : Addr
  d_l_alone : FuncData
  f_l_refused : Addr
  d_l_refused : FuncData
  f_l_both : Addr
  d_l_both : FuncData
  f_l_great : Addr
  d_l_great : FuncData
  f_law : Addr
  d_law : FuncData
  c_PaneError : Addr
  c_NoShare : Addr
  c_NoBox : Addr
  c_NoText : Addr
  c_NoRule : Addr
  c_NoName : Addr
  c_NoPlace : Addr
  c_NoPage : Addr
  c_NoChange : Addr
  c_NoUndo : Addr
  c_NoRow : Addr
structure Txt (K : PySem.W.Frag) (mg : Str → Option Value) (A : Adr) : Prop where
  F_is_number : Fun K "is_number" "is_number" s_is_number A.f_is_number A.d_is_number
  b_is_number : Binds K A.d_is_number P_is_number []
  m_is_number : mg "is_number" = some (.ref A.f_is_number)
  F_is_within : Fun K "is_within" "is_within" s_is_within A.f_is_within A.d_is_within
  b_is_within : Binds K A.d_is_within P_is_within []
  m_is_within : mg "is_within" = some (.ref A.f_is_within)
  F_has_only : Fun K "has_only" "has_only" s_has_only A.f_has_only A.d_has_only
  b_has_only : Binds K A.d_has_only P_has_only []
  m_has_only : mg "has_only" = some (.ref A.f_has_only)
  F_is_name : Fun K "is_name" "is_name" s_is_name A.f_is_name A.d_is_name
  b_is_name : Binds K A.d_is_name P_is_name []
  m_is_name : mg "is_name" = some (.ref A.f_is_name)
  F_is_kind : Fun K "is_kind" "is_kind" s_is_kind A.f_is_kind A.d_is_kind
  b_is_kind : Binds K A.d_is_kind P_is_kind []
  m_is_kind : mg "is_kind" = some (.ref A.f_is_kind)
  F_are_tags : Fun K "are_tags" "are_tags" s_are_tags A.f_are_tags A.d_are_tags
  b_are_tags : Binds K A.d_are_tags P_are_tags []
  m_are_tags : mg "are_tags" = some (.ref A.f_are_tags)
  F_is_word : Fun K "is_word" "is_word" s_is_word A.f_is_word A.d_is_word
  b_is_word : Binds K A.d_is_word P_is_word []
  m_is_word : mg "is_word" = some (.ref A.f_is_word)
  F_is_words_text : Fun K "is_words_text" "is_words_text" s_is_words_text A.f_is_words_text A.d_is_words_text
  b_is_words_text : Binds K A.d_is_words_text P_is_words_text []
  m_is_words_text : mg "is_words_text" = some (.ref A.f_is_words_text)
  F_is_more : Fun K "is_more" "is_more" s_is_more A.f_is_more A.d_is_more
  b_is_more : Binds K A.d_is_more P_is_more []
  m_is_more : mg "is_more" = some (.ref A.f_is_more)
  F_are_kids : Fun K "are_kids" "are_kids" s_are_kids A.f_are_kids A.d_are_kids
  b_are_kids : Binds K A.d_are_kids P_are_kids []
  m_are_kids : mg "are_kids" = some (.ref A.f_are_kids)
  F_is_box_alone : Fun K "is_box_alone" "is_box_alone" s_is_box_alone A.f_is_box_alone A.d_is_box_alone
  b_is_box_alone : Binds K A.d_is_box_alone P_is_box_alone []
  m_is_box_alone : mg "is_box_alone" = some (.ref A.f_is_box_alone)
  F_need_document : Fun K "need_document" "need_document" s_need_document A.f_need_document A.d_need_document
  b_need_document : Binds K A.d_need_document P_need_document []
  m_need_document : mg "need_document" = some (.ref A.f_need_document)
  F_row_of : Fun K "row_of" "row_of" s_row_of A.f_row_of A.d_row_of
  b_row_of : Binds K A.d_row_of P_row_of []
  m_row_of : mg "row_of" = some (.ref A.f_row_of)
  F_rows_of : Fun K "rows_of" "rows_of" s_rows_of A.f_rows_of A.d_rows_of
  b_rows_of : Binds K A.d_rows_of P_rows_of []
  m_rows_of : mg "rows_of" = some (.ref A.f_rows_of)
  F_document_text : Fun K "document_text" "document_text" s_document_text A.f_document_text A.d_document_text
  b_document_text : Binds K A.d_document_text P_document_text []
  m_document_text : mg "document_text" = some (.ref A.f_document_text)
  F_columns_of : Fun K "columns_of" "columns_of" s_columns_of A.f_columns_of A.d_columns_of
  b_columns_of : Binds K A.d_columns_of P_columns_of []
  m_columns_of : mg "columns_of" = some (.ref A.f_columns_of)
  F_read_row : Fun K "read_row" "read_row" s_read_row A.f_read_row A.d_read_row
  b_read_row : Binds K A.d_read_row P_read_row []
  m_read_row : mg "read_row" = some (.ref A.f_read_row)
  F_taken_kids : Fun K "taken_kids" "taken_kids" s_taken_kids A.f_taken_kids A.d_taken_kids
  b_taken_kids : Binds K A.d_taken_kids P_taken_kids []
  m_taken_kids : mg "taken_kids" = some (.ref A.f_taken_kids)
  F_read_rows : Fun K "read_rows" "read_rows" s_read_rows A.f_read_rows A.d_read_rows
  b_read_rows : Binds K A.d_read_rows P_read_rows []
  m_read_rows : mg "read_rows" = some (.ref A.f_read_rows)
  F_read_document : Fun K "read_document" "read_document" s_read_document A.f_read_document A.d_read_document
  b_read_document : Binds K A.d_read_document P_read_document []
  m_read_document : mg "read_document" = some (.ref A.f_read_document)
  F_l_cell_at : Fun K "_law_cell_at" "_law_cell_at" s_l_cell_at A.f_l_cell_at A.d_l_cell_at
  b_l_cell_at : Binds K A.d_l_cell_at P_l_cell_at []
  m_l_cell_at : mg "_law_cell_at" = some (.ref A.f_l_cell_at)
  F_l_mix : Fun K "_law_mix" "_law_mix" s_l_mix A.f_l_mix A.d_l_mix
  b_l_mix : Binds K A.d_l_mix P_l_mix []
  m_l_mix : mg "_law_mix" = some (.ref A.f_l_mix)
  F_l_state : Fun K "_law_state" "_law_state" s_l_state A.f_l_state A.d_l_state
  b_l_state : Binds K A.d_l_state P_l_state []
  m_l_state : mg "_law_state" = some (.ref A.f_l_state)
  F_l_names : Fun K "_law_names" "_law_names" s_l_names A.f_l_names A.d_l_names
  b_l_names : Binds K A.d_l_names P_l_names []
  m_l_names : mg "_law_names" = some (.ref A.f_l_names)
  F_l_tags : Fun K "_law_tags" "_law_tags" s_l_tags A.f_l_tags A.d_l_tags
  b_l_tags : Binds K A.d_l_tags P_l_tags []
  m_l_tags : mg "_law_tags" = some (.ref A.f_l_tags)
  F_l_text : Fun K "_law_text" "_law_text" s_l_text A.f_l_text A.d_l_text
  b_l_text : Binds K A.d_l_text P_l_text []
  m_l_text : mg "_law_text" = some (.ref A.f_l_text)
  F_l_rows : Fun K "_law_rows" "_law_rows" s_l_rows A.f_l_rows A.d_l_rows
  b_l_rows : Binds K A.d_l_rows P_l_rows []
  m_l_rows : mg "_law_rows" = some (.ref A.f_l_rows)
  F_l_box : Fun K "_law_box" "_law_box" s_l_box A.f_l_box A.d_l_box
  b_l_box : Binds K A.d_l_box P_l_box []
  m_l_box : mg "_law_box" = some (.ref A.f_l_box)
  F_l_same : Fun K "_law_same" "_law_same" s_l_same A.f_l_same A.d_l_same
  b_l_same : Binds K A.d_l_same P_l_same []
  m_l_same : mg "_law_same" = some (.ref A.f_l_same)
  F_l_doc_text : Fun K "_law_doc_text" "_law_doc_text" s_l_doc_text A.f_l_doc_text A.d_l_doc_text
  b_l_doc_text : Binds K A.d_l_doc_text P_l_doc_text []
  m_l_doc_text : mg "_law_doc_text" = some (.ref A.f_l_doc_text)
  F_l_alone : Fun K "_law_alone" "_law_alone" s_l_alone A.f_l_alone A.d_l_alone
  b_l_alone : Binds K A.d_l_alone P_l_alone []
  m_l_alone : mg "_law_alone" = some (.ref A.f_l_alone)
  F_l_refused : Fun K "_law_refused" "_law_refused" s_l_refused A.f_l_refused A.d_l_refused
  b_l_refused : Binds K A.d_l_refused P_l_refused []
  m_l_refused : mg "_law_refused" = some (.ref A.f_l_refused)
  F_l_both : Fun K "_law_both" "_law_both" s_l_both A.f_l_both A.d_l_both
  b_l_both : Binds K A.d_l_both P_l_both []
  m_l_both : mg "_law_both" = some (.ref A.f_l_both)
  F_l_great : Fun K "_law_great" "_law_great" s_l_great A.f_l_great A.d_l_great
  b_l_great : Binds K A.d_l_great P_l_great []
  m_l_great : mg "_law_great" = some (.ref A.f_l_great)
  F_law : Fun K "law" "law" s_law A.f_law A.d_law
  b_law : Binds K A.d_law P_law []
  m_law : mg "law" = some (.ref A.f_law)
  g_MOST_NAME_SIGNS : ∃ t, mg "MOST_NAME_SIGNS" = some (.int 8 t)
  g_MOST_TAGS : ∃ t, mg "MOST_TAGS" = some (.int 4 t)
  g_MOST_KIDS : ∃ t, mg "MOST_KIDS" = some (.int 12 t)
  g_MOST_COLUMNS : ∃ t, mg "MOST_COLUMNS" = some (.int 9 t)
  g_MOST_TEXT_SIGNS : ∃ t, mg "MOST_TEXT_SIGNS" = some (.int 80 t)
  g_MOST_WORD_SIGNS : ∃ t, mg "MOST_WORD_SIGNS" = some (.int 20 t)
  g_MOST_BOXES : ∃ t, mg "MOST_BOXES" = some (.int 40 t)
  g_MOST_DEEP : ∃ t, mg "MOST_DEEP" = some (.int 8 t)
  g_LETTERS : ∃ t, mg "LETTERS" = some (.str "abcdefghijklmnopqrstuvwxyz" t)
  g_NAME_SIGNS : ∃ t, mg "NAME_SIGNS" = some (.str "abcdefghijklmnopqrstuvwxyz0123456789" t)
  g_TEXT_SIGNS : ∃ t, mg "TEXT_SIGNS" = some (.str "ABCDEFGHIJKLMNOPQRSTUVWXYZabcdefghijklmnopqrstuvwxyz0123456789" t)
  g_KINDS : ∃ a, mg "KINDS" = some (.ref a) ∧ tupIn K a ["blank", "words", "row", "flow", "column", "grid", "pile"] = true
  g_KIDLESS : ∃ a, mg "KIDLESS" = some (.ref a) ∧ tupIn K a ["blank", "words"] = true
  g_COLUMNS : ∃ a, mg "COLUMNS" = some (.ref a) ∧ tupIn K a ["1", "2", "3", "4", "5", "6", "7", "8", "9"] = true
  n_ValueError : mg "ValueError" = none
  n_all : mg "all" = none
  n_bool : mg "bool" = none
  n_int : mg "int" = none
  n_isinstance : mg "isinstance" = none
  n_len : mg "len" = none
  n_list : mg "list" = none
  n_range : mg "range" = none
  n_reversed : mg "reversed" = none
  n_set : mg "set" = none
  n_str : mg "str" = none
  n_tuple : mg "tuple" = none
  m_PaneError : mg "PaneError" = some (.ref A.c_PaneError)
  m_NoShare : mg "NoShare" = some (.ref A.c_NoShare)
  m_NoBox : mg "NoBox" = some (.ref A.c_NoBox)
  m_NoText : mg "NoText" = some (.ref A.c_NoText)
  m_NoRule : mg "NoRule" = some (.ref A.c_NoRule)
  m_NoName : mg "NoName" = some (.ref A.c_NoName)
  m_NoPlace : mg "NoPlace" = some (.ref A.c_NoPlace)
  m_NoPage : mg "NoPage" = some (.ref A.c_NoPage)
  m_NoChange : mg "NoChange" = some (.ref A.c_NoChange)
  m_NoUndo : mg "NoUndo" = some (.ref A.c_NoUndo)
  m_NoRow : mg "NoRow" = some (.ref A.c_NoRow)
  cls : clsAll K A.c_PaneError [A.c_NoShare, A.c_NoBox, A.c_NoText, A.c_NoRule, A.c_NoName, A.c_NoPlace, A.c_NoPage, A.c_NoChange, A.c_NoUndo, A.c_NoRow] = true
  up : clsUp K A.c_PaneError [A.c_NoShare, A.c_NoBox, A.c_NoText, A.c_NoRule, A.c_NoName, A.c_NoPlace, A.c_NoPage, A.c_NoChange, A.c_NoUndo, A.c_NoRow] = true
  kit : kitAll K = true
end KP

set_option linter.all false
set_option maxHeartbeats 4000000
set_option maxRecDepth 100000
namespace KP
open PySem L2 PyProof.Rows

theorem b_isinstance : bootBuiltins "isinstance" = some (.builtin "isinstance") := by decide +kernel
theorem b_int : bootBuiltins "int" = some (.type "int") := by decide +kernel
theorem b_bool : bootBuiltins "bool" = some (.type "bool") := by decide +kernel
theorem b_list : bootBuiltins "list" = some (.type "list") := by decide +kernel
theorem b_tuple : bootBuiltins "tuple" = some (.type "tuple") := by decide +kernel
theorem b_all : bootBuiltins "all" = some (.builtin "all") := by decide +kernel
theorem b_len : bootBuiltins "len" = some (.builtin "len") := by decide +kernel

/-- a list or a tuple of ints, tracked -/
def WT (H : Hp) (p : Addr) (ws : List Int) : Prop := H p = some (.lst (ws.map V.int)) ∨ H p = some (.tup (ws.map V.int))
theorem same_upd {H : Hp} {p : Addr} (h : H p = none) (o : HO) : Same H (upd H p o) := fun b u q => by rw [upd_ne (ne_of_none q h)]; exact q
theorem small {n : Nat} (h : n ≤ 1000) : n ≤ sizeLine := Nat.le_of_lt (small1000 h)
theorem atI_int {xs : List Int} {j : Nat} (h : j < xs.length) : atI (xs.map V.int) (j : Int) = some (.int (xs.getD j 0)) := by
  refine atI_nat ?_
  rw [List.getElem?_map, List.getElem?_eq_getElem h, List.getD_eq_getElem?_getD, List.getElem?_eq_getElem h]; rfl
theorem cut_take (xs : List V) (n : Int) (h0 : 0 ≤ n) : cutV xs none (some n) = xs.take n.toNat := by
  obtain ⟨k, rfl⟩ := Int.eq_ofNat_of_zero_le h0
  unfold cutV
  rw [HT.sIx_none, HT.sIx_nat, Nat.sub_zero, List.drop_zero]
  by_cases h : k ≤ xs.length
  · rw [Nat.min_eq_left h]; simp
  · rw [Nat.min_eq_right (by omega), List.take_length, List.take_of_length_le (by simp; omega)]

section
variable {P : Program} {w : World} {K : PySem.W.Frag} {mg : Str → Option Value} {base : Heap} {A : Adr}

def spCell (K : PySem.W.Frag) : Sp := fun vs H Q _ => ∃ (a : Addr) (ns : List Int) (k : Int), vs = [.ref a, .int k] ∧ SqL K H a (ns.map V.int) ∧ ns.length ≤ 63 ∧ 0 ≤ k ∧ ∀ v : Int, Q (.int v) H
theorem ok_cell (T : Txt K mg A) : FnOk P w K mg base CX0 1 A.f_l_cell_at A.d_l_cell_at P_l_cell_at (spCell K) := by
  refine T.F_l_cell_at.ok sc_l_cell_at (fun vs H Q E h => ?_) (fun cdv B outer s H vs Q E hr h => ?_)
  · obtain ⟨a, ns, k, rfl, _⟩ := h; rfl
  obtain ⟨a, ns, k, rfl, hS, hn, h0, q⟩ := h
  refine ⟨_, pss_cons (ps_if (pt_cmpR op_lt (pv 1) (pe_callB call_len_seq rfl T.n_len b_len (pa_cons (pv 0) pa_nil)) (nomark _)) (pss_one (ps_ret (pe_ix ix_list (pv 0) (pv 1) (fun _ _ => rfl)))) pss_nil) (pss_one (ps_ret pe_int)), ?_⟩
  refine ⟨_, rfl, _, rfl, a, _, rfl, .inl hS, _, _, rfl, rfl, _, rfl, ite2 (fun c => ?_) (fun c => ?_)⟩
  · have c' : k < (((ns.map V.int).length : Nat) : Int) := of_decide_eq_true c
    rw [List.length_map] at c'
    obtain ⟨j, rfl⟩ := Int.eq_ofNat_of_zero_le h0
    exact ⟨_, rfl, _, rfl, a, _, _, _, rfl, rfl, hS, atI_int (by omega), q _⟩
  · exact q 0

/-- the law's state: a list of one number -/
def St (st : Addr) (H : Hp) : Prop := ∃ s : Int, H st = some (.lst [.int s]) ∧ 0 ≤ s ∧ s < 2147483648
/-- all but the state is as it was -/
structure Ms (st : Addr) (H H' : Hp) : Prop where
  keep : ∀ b o, b ≠ st → H b = some o → H' b = some o
  st : St st H'
theorem Ms.trans {st : Addr} {H H1 H2 : Hp} (a : Ms st H H1) (b : Ms st H1 H2) : Ms st H H2 := ⟨fun c o n h => b.keep c o n (a.keep c o n h), b.st⟩
theorem Ms.of {st : Addr} {H H' : Hp} (h : St st H) (e : Same H H') : Ms st H H' := ⟨fun b o _ q => e b o q, let ⟨s, a, b⟩ := h; ⟨s, e _ _ a, b⟩⟩
theorem Ms.grow {st : Addr} {H H1 H2 : Hp} (a : Ms st H H1) (e : Same H1 H2) : Ms st H H2 := a.trans (.of a.st e)
/-- the script: not the state, or of the written part -/
def Off (K : PySem.W.Frag) (a st : Addr) (xs : List V) : Prop := a ≠ st ∨ ∀ H : Hp, SqL K H a xs
theorem Off.of {H : Hp} {a st : Addr} {xs : List V} (h : SqL K H a xs) (e : H st = none) : Off K a st xs := by
  rcases h with (h | ⟨o, h⟩) | h
  · exact .inl fun z => by rw [z, e] at h; cases h
  · exact .inl fun z => by rw [z, e] at h; cases h
  · exact .inr fun _ => .inr h
theorem Ms.seq {st : Addr} {H H' : Hp} {a : Addr} {xs : List V} (m : Ms st H H') (n : Off K a st xs) (h : SqL K H a xs) : SqL K H' a xs := by
  rcases n with n | n
  · rcases h with (h | ⟨o, h⟩) | h
    · exact .inl (.inl (m.keep _ _ n h))
    · exact .inl (.inr ⟨o, m.keep _ _ n h⟩)
    · exact .inr h
  · exact n _
def spMix : Sp := fun vs H Q _ => ∃ (p : Addr) (c : Int), vs = [.ref p, .int c] ∧ St p H ∧ ∀ (r : Int) (H' : Hp), 0 ≤ r → r < 2147483648 → Ms p H H' → (∀ b, H b = none → H' b = none) → Q (.int r) H'
theorem ok_mix (T : Txt K mg A) : FnOk P w K mg base CX0 1 A.f_l_mix A.d_l_mix P_l_mix spMix := by
  refine T.F_l_mix.ok sc_l_mix (fun vs H Q E h => ?_) (fun cdv B outer s H vs Q E hr h => ?_)
  · obtain ⟨p, c, rfl, _⟩ := h; rfl
  obtain ⟨p, c, rfl, ⟨s0, hp, h0, h1⟩, q⟩ := h
  refine ⟨_, pss_cons (ps_asg (pe_op op_mod (pe_op op_add (pe_op op_add (pe_op op_mul (pe_ix ix_list (pv 0) pe_int (fun _ _ => rfl)) pe_int) (pe_op op_mul (pe_op op_mod (pv 1) pe_int) pe_int)) pe_int) pe_int) (pg_sub (pv 0) pe_int set_list))
    (pss_one (ps_ret (pe_op op_fdiv (pe_op op_mod (pe_op op_mul (pe_ix ix_list (pv 0) pe_int (fun _ _ => rfl)) (pe_ix ix_list (pv 0) pe_int (fun _ _ => rfl))) pe_int) pe_int))), ?_⟩
  refine ⟨_, rfl, p, _, _, _, rfl, rfl, .of hp, rfl, _, _, rfl, rfl, .inl ⟨by omega, by omega⟩, _, rfl, _, _, rfl, rfl, (by show (0 : Int) < 2147483647; decide), _, _, rfl, rfl, .inr ⟨by decide, by decide⟩, _, _, rfl, rfl, _, _, rfl, rfl, _, _, rfl, rfl, (by show (0 : Int) < 2147483647; decide), ?_⟩
  refine ⟨_, rfl, p, _, _, 0, rfl, rfl, hp, rfl, ?_⟩
  generalize hs1 : (s0 * 48271 + c % 2147483647 * 16807 + 11) % 2147483647 = s1
  have b0 : 0 ≤ s1 := by rw [← hs1]; exact Int.emod_nonneg _ (by decide)
  have b1 : s1 < 2147483647 := by rw [← hs1]; exact Int.emod_lt_of_pos _ (by decide)
  refine ⟨_, rfl, p, _, _, _, rfl, rfl, .of upd_same, rfl, _, rfl, p, _, _, _, rfl, rfl, .of upd_same, rfl, _, _, rfl, rfl, .inl ⟨by omega, by omega⟩, _, _, rfl, rfl, (by show (0 : Int) < 2147483629; decide), _, _, rfl, rfl, ⟨by decide, by decide⟩, ?_⟩
  generalize hz : s1 * s1 % 2147483629 = z
  have c0 : 0 ≤ z := by rw [← hz]; exact Int.emod_nonneg _ (by decide)
  have c1 : z < 2147483629 := by rw [← hz]; exact Int.emod_lt_of_pos _ (by decide)
  refine q _ _ (by omega) (by omega) ⟨fun b o n e => by rw [upd_ne n]; exact e, ⟨s1, by rw [upd_same]; show some (HO.lst [V.int ((s0 * 48271 + c % 2147483647 * 16807 + 11) % 2147483647)]) = _; rw [hs1], b0, by omega⟩⟩ fun b e => ?_
  rw [upd_ne (fun z => by rw [z, hp] at e; cases e)]; exact e
end
end KP

set_option linter.all false
set_option maxHeartbeats 4000000
set_option maxRecDepth 100000
namespace KP
open PySem L2 PyProof.Rows
section
variable {P : Program} {w : World} {K : PySem.W.Frag} {mg : Str → Option Value} {base : Heap} {A : Adr}
theorem St.ne {st : Addr} {H : Hp} (h : St st H) {l : Addr} (e : H l = none) : l ≠ st := fun z => by obtain ⟨s, a, _⟩ := h; rw [z, a] at e; cases e
theorem Ms.set {st : Addr} {H H' : Hp} (m : Ms st H H') {l : Addr} (o : HO) (e : H l = none) (n : l ≠ st) : Ms st H (upd H' l o) :=
  ⟨fun b u hb q => by rw [upd_ne (ne_of_none q e)]; exact m.keep b u hb q, let ⟨s, a, b⟩ := m.st; ⟨s, by rw [upd_ne n.symm]; exact a, b⟩⟩
theorem Ms.new {st : Addr} {H H' : Hp} (m : Ms st H H') {l : Addr} (o : HO) (e : H' l = none) : Ms st H (upd H' l o) := m.grow (same_upd e o)
theorem St.mk' {H : Hp} {st : Addr} (c : Int) : St st (upd H st (.lst [.int (1 + c % 2147483646)])) :=
  ⟨1 + c % 2147483646, upd_same, by have := Int.emod_nonneg c (show (2147483646 : Int) ≠ 0 by decide); omega, by have := Int.emod_lt_of_pos c (show (0 : Int) < 2147483646 by decide); omega⟩
end
end KP

set_option linter.all false
set_option maxHeartbeats 4000000
set_option maxRecDepth 100000
namespace KP
open PySem L2 PyProof.Rows
def sgA : Str := "abcdefghijklmnopqrstuvwxyz0123456789"
def mS : Str := "m"
/-- how long the names are, and where their sign stands -/
def nmN (c : Int) : Int := 1 + c % 8
def nmP (c : Int) : Int := c / 8 % nmN c
def nmM (c : Int) : Int := if nmP c > 0 then 36 else 26
def nmJ (c : Int) (k : Nat) : Nat := ((c / 64 + k) % nmM c).toNat
/-- the k-th name -/
def nm (c : Int) (k : Nat) : Str := repS mS (nmP c).toNat ++ ⟨#[sgA.cps.toList.getD (nmJ c k) 0]⟩ ++ repS mS (nmN c - 1 - nmP c).toNat
def nms (c : Int) : List Str := (List.range 24).map (nm c)
theorem nmN_in (c : Int) : 1 ≤ nmN c ∧ nmN c ≤ 8 := by unfold nmN; omega
theorem nmP_in (c : Int) : 0 ≤ nmP c ∧ nmP c < nmN c := by
  have := nmN_in c
  exact ⟨Int.emod_nonneg _ (by omega), Int.emod_lt_of_pos _ (by omega)⟩
theorem nmM_in (c : Int) : 26 ≤ nmM c ∧ nmM c ≤ 36 := by unfold nmM; split <;> omega
theorem sgA_len : sgA.cps.toList.length = 36 := by decide +kernel
theorem nmJ_in (c : Int) (k : Nat) : (c / 64 + k) % nmM c = (nmJ c k : Int) ∧ nmJ c k < 36 := by
  have := nmM_in c
  have h0 := Int.emod_nonneg (c / 64 + k) (show nmM c ≠ 0 by omega)
  have h1 := Int.emod_lt_of_pos (c / 64 + k) (show 0 < nmM c by omega)
  unfold nmJ
  omega
section
variable {P : Program} {w : World} {K : PySem.W.Frag} {mg : Str → Option Value} {base : Heap} {A : Adr}
def spState (K : PySem.W.Frag) : Sp := fun vs H Q _ => ∃ (a : Addr) (ns : List Int) (k : Int), vs = [.ref a, .int k] ∧ SqL K H a (ns.map V.int) ∧ ns.length ≤ 63 ∧ 0 ≤ k ∧ ∀ (l : Addr) (H' : Hp), H l = none → Same H H' → (∀ b, b ≠ l → H b = none → H' b = none) → St l H' → Q (.ref l) H'
theorem ok_state (T : Txt K mg A) : FnOk P w K mg base CX0 2 A.f_l_state A.d_l_state P_l_state (spState K) := by
  have G_l_cell_at := ok_cell (P := P) (w := w) (base := base) T
  refine T.F_l_state.ok sc_l_state (fun vs H Q E h => ?_) (fun cdv B outer s H vs Q E hr h => ?_)
  · obtain ⟨a, ns, k, rfl, _⟩ := h; rfl
  obtain ⟨a, ns, k, rfl, hS, hn, h0, q⟩ := h
  refine ⟨_, pss_one (ps_ret (pe_lst (pa_cons (pe_op op_add pe_int (pe_op op_mod (pe_call G_l_cell_at hr rfl T.m_l_cell_at T.F_l_cell_at.kp T.b_l_cell_at .nil pass0 (pa_cons (pv 0) (pa_cons (pv 1) pa_nil))) pe_int)) pa_nil))), ?_⟩
  refine ⟨_, rfl, _, rfl, a, ns, k, rfl, hS, hn, h0, fun v => ⟨_, _, rfl, rfl, (by show (0 : Int) < 2147483646; decide), _, _, rfl, rfl, small (by simp), fun l hl => ?_⟩⟩
  exact q l _ hl (same_upd hl _) (fun b n e => by rw [upd_ne n]; exact e) (St.mk' v)
def spNames : Sp := fun vs H Q _ => ∃ c : Int, vs = [.int c] ∧ 0 ≤ c ∧ ∀ (l : Addr) (H' : Hp), H l = none → Same H H' → H' l = some (.lst ((nms c).map V.str)) → Q (.ref l) H'
theorem ok_names (T : Txt K mg A) : FnOk P w K mg base CX0 1 A.f_l_names A.d_l_names P_l_names spNames := by
  refine T.F_l_names.ok sc_l_names (fun vs H Q E h => ?_) (fun cdv B outer s H vs Q E hr h => ?_)
  · obtain ⟨c, rfl, _⟩ := h; rfl
  obtain ⟨c, rfl, h0, q⟩ := h
  refine ⟨_, @pss_cons _ _ _ _ _ (ps_set (i := 1) sc_l_names.nd rfl (Or.inl rfl) (pe_op op_add pe_int (pe_op op_mod (pv 0) pe_int)))
    (@pss_cons _ _ _ _ _ (ps_set (i := 2) sc_l_names.nd rfl (Or.inl rfl) (pe_op op_mod (pe_op op_fdiv (pv 0) pe_int) (pv 1)))
    (@pss_cons _ _ _ _ _ (ps_set (i := 3) sc_l_names.nd rfl (Or.inl rfl) pe_str)
    (@pss_cons _ _ _ _ _ (ps_set (i := 4) sc_l_names.nd rfl (Or.inl rfl) (pe_lst pa_nil))
    (@pss_cons _ _ _ _ _ (ps_for PassesOwn.never rfl (pi_range1 rfl T.n_range (pa_cons pe_int pa_nil)) (pg_name (i := 5) sc_l_names.nd rfl (Or.inl rfl)) (@pss_cons _ _ _ _ _ (ps_set (i := 6) sc_l_names.nd rfl (Or.inl rfl) (pe_ix ix_str (pv 3) (pe_op op_mod (pe_op op_add (pe_op op_fdiv (pv 0) pe_int) (pv 5)) (pe_ix ix_list (pe_lst (pa_cons pe_int (pa_cons pe_int pa_nil))) (pe_callTy call_int1 rfl T.n_int b_int (pa_cons (pe_cmpR op_gt (pv 2) pe_int (nomark _)) pa_nil)) (fun _ _ => rfl))) (fun _ _ => rfl)))
    (pss_one (ps_expr (pe_bm PySem.F.plainAttrs_list PySem.F.slot_list_append PySem.F.type_list_append mt_append (pv 4) (pa_cons (pe_op op_add_str (pe_op op_add_str (pe_op op_repX pe_str (pv 2)) (pv 6)) (pe_op op_repX pe_str (pe_op op_sub (pe_op op_sub (pv 1) pe_int) (pv 2)))) pa_nil))))))
    (pss_one (ps_ret (pv 4))))))), ?_⟩
  have b1 := nmN_in c
  have b2 := nmP_in c
  refine ⟨_, rfl, _, _, rfl, rfl, (by show (0 : Int) < 8; decide), _, _, rfl, rfl, ?_⟩
  refine ⟨_, rfl, _, _, rfl, rfl, ⟨by decide, by decide⟩, _, rfl, _, _, rfl, rfl, (by show 0 < nmN c; omega), ?_⟩
  refine ⟨small (by simp), fun l hl => ?_⟩
  refine ⟨_, rfl, by decide, by decide, for_range (n := 24) (fun i σ H' => ∃ v5 v6 : Option V, σ = [some (.int c), some (.int (nmN c)), some (.int (nmP c)), some (.str sgA), some (.ref l), v5, v6] ∧ Same H H' ∧ H' l = some (.lst (((List.range i).map (nm c)).map V.str)))
    ⟨none, none, rfl, same_upd hl _, upd_same⟩ ?_ ?_⟩
  · rintro i σ H1 hi ⟨v5, v6, rfl, s1, e1⟩
    refine ⟨_, rfl, _, rfl, _, _, rfl, rfl, ⟨by decide, by decide⟩, _, rfl, _, _, rfl, rfl, small (by simp), fun l2 hl2 => ?_⟩
    have k2 := same_upd hl2 (.lst [.int 26, .int 36])
    have n2 : l ≠ l2 := fun z => by rw [← z, e1] at hl2; cases hl2
    refine ⟨_, rfl, _, _, rfl, rfl, .inr ⟨_, rfl, l2, _, _, .int (nmM c), rfl, rfl, .of upd_same, ?_, _, _, rfl, rfl, (by show 0 < nmM c; have := nmM_in c; omega), sgA, _, sgA.cps.toList.getD (nmJ c i) 0, rfl, rfl, ?_, ?_, ?_⟩⟩
    · show atI [V.int 26, V.int 36] (if decide (nmP c > 0) = true then 1 else 0) = _
      unfold nmM
      by_cases hp : nmP c > 0
      · rw [decide_eq_true hp, if_pos rfl, if_pos hp]; rfl
      · rw [decide_eq_false hp, if_neg (by simp), if_neg hp]; rfl
    · exact small (by show sgA.cps.size ≤ 1000; decide +kernel)
    · obtain ⟨j1, j2⟩ := nmJ_in c i
      show atI sgA.cps.toList ((c / 64 + (0 + (i : Int))) % nmM c) = _
      rw [Int.zero_add, j1]
      refine atI_nat ?_
      have h := sgA_len
      rw [List.getD_eq_getElem?_getD, List.getElem?_eq_getElem (by omega)]; rfl
    have lm : mS.length = 1 := by decide +kernel
    have r1 := repS_len mS (nmP c).toNat
    have r2 := repS_len mS (nmN c - 1 - nmP c).toNat
    rw [lm, Nat.one_mul] at r1 r2
    have e1' : upd H1 l2 (.lst [.int 26, .int 36]) l = some (.lst (((List.range i).map (nm c)).map V.str)) := by rw [upd_ne n2]; exact e1
    refine ⟨_, rfl, .inl ⟨rfl, _, .of e1'⟩, _, rfl, mS, nmP c, rfl, rfl, by omega, by omega, (by rw [lm]; decide), _, rfl, _, _, rfl, rfl, ?_, _, rfl, _, _, rfl, rfl, _, rfl, _, _, rfl, rfl, mS, nmN c - 1 - nmP c, rfl, rfl, by omega, by omega, (by rw [lm]; decide), _, _, rfl, rfl, ?_, l, _, _, rfl, rfl, e1', ?_, ?_⟩
    · show (repS mS (nmP c).toNat).length + 1 ≤ sizeLine
      exact small (by omega)
    · show (repS mS (nmP c).toNat ++ ⟨#[sgA.cps.toList.getD (nmJ c i) 0]⟩ : Str).length + (repS mS (nmN c - 1 - nmP c).toNat).length ≤ sizeLine
      rw [Str.length_append]
      exact small (by show (repS mS (nmP c).toNat).length + 1 + _ ≤ _; omega)
    · rw [List.length_map, List.length_map, List.length_range]; exact small1000 (by omega)
    · refine ⟨_, _, rfl, fun b u e => ?_, ?_⟩
      · rw [upd_ne (ne_of_none e hl)]; exact k2 _ _ (s1 _ _ e)
      · rw [upd_same, List.range_succ, List.map_append, List.map_append]; rfl
  · rintro σ H1 ⟨v5, v6, rfl, s1, e1⟩
    exact ⟨_, rfl, q l H1 hl s1 e1⟩
end
end KP

set_option linter.all false
set_option maxHeartbeats 4000000
set_option maxRecDepth 100000
namespace KP
open PySem L2 PyProof.Rows
def tgN (p : Int) : Nat := ([0, 0, 0, 1, 2, 4, 1] : List Nat).getD (p % 7).toNat 0
def tgJ (p : Int) (k : Nat) : Nat := ((p / 7 + 7 * k) % 24).toNat
/-- the tags that a pick gives -/
def tgs (p : Int) (ns : List Str) : List Str := (List.range (tgN p)).map fun k => ns.getD (tgJ p k) Str.empty
theorem tgN_at (p : Int) : atI [V.int 0, .int 0, .int 0, .int 1, .int 2, .int 4, .int 1] (p % 7) = some (.int (tgN p)) ∧ tgN p ≤ 4 := by
  have h0 := Int.emod_nonneg p (show (7 : Int) ≠ 0 by decide)
  have h1 := Int.emod_lt_of_pos p (show (0 : Int) < 7 by decide)
  unfold tgN
  have : p % 7 = 0 ∨ p % 7 = 1 ∨ p % 7 = 2 ∨ p % 7 = 3 ∨ p % 7 = 4 ∨ p % 7 = 5 ∨ p % 7 = 6 := by omega
  rcases this with e | e | e | e | e | e | e <;> rw [e] <;> exact ⟨rfl, by decide⟩
theorem tgJ_in (p : Int) (k : Nat) : (p / 7 + 7 * (k : Int)) % 24 = (tgJ p k : Int) ∧ tgJ p k < 24 := by
  have h0 := Int.emod_nonneg (p / 7 + 7 * (k : Int)) (show (24 : Int) ≠ 0 by decide)
  have h1 := Int.emod_lt_of_pos (p / 7 + 7 * (k : Int)) (show (0 : Int) < 24 by decide)
  unfold tgJ
  omega
theorem tgs_mem {p : Int} {ns : List Str} (hn : ns.length = 24) {x : Str} (h : x ∈ tgs p ns) : x ∈ ns := by
  obtain ⟨k, _, rfl⟩ := List.mem_map.mp h
  have := (tgJ_in p k).2
  rw [List.getD_eq_getElem?_getD, List.getElem?_eq_getElem (by omega)]
  exact List.getElem_mem _
theorem tgs_len (p : Int) (ns : List Str) : (tgs p ns).length ≤ 4 := by
  unfold tgs; rw [List.length_map, List.length_range]; exact (tgN_at p).2
section
variable {P : Program} {w : World} {K : PySem.W.Frag} {mg : Str → Option Value} {base : Heap} {A : Adr}
abbrev sc_l_tags_0 : Scope := (match defBody s_l_tags with | _ :: (.Return (some (.Call _ ((.ListComp _ _ sc _) :: _) _ _)) _) :: _ => sc | _ => defScope s_l_tags)
theorem blk_l_tags_0 : Blk (defScope s_l_tags) N_l_tags sc_l_tags_0 ["_law_k"] [0, 1] := ⟨rfl, by decide +kernel, by decide +kernel, by decide +kernel, by decide +kernel⟩
theorem nd_l_tags_0 : (capN N_l_tags ["_law_k"] [0, 1]).Nodup := by decide +kernel
def spTags : Sp := fun vs H Q _ => ∃ (p : Int) (nl : Addr) (ns : List Str), vs = [.int p, .ref nl] ∧ H nl = some (.lst (ns.map V.str)) ∧ ns.length = 24 ∧ ∀ (t : Addr) (H' : Hp), H t = none → Same H H' → H' t = some (.tup ((tgs p ns).map V.str)) → Q (.ref t) H'
theorem ok_tags (T : Txt K mg A) : FnOk P w K mg base CX0 1 A.f_l_tags A.d_l_tags P_l_tags spTags := by
  refine T.F_l_tags.ok sc_l_tags (fun vs H Q E h => ?_) (fun cdv B outer s H vs Q E hr h => ?_)
  · obtain ⟨p, nl, ns, rfl, _⟩ := h; rfl
  obtain ⟨p, nl, ns, rfl, hl, hn, q⟩ := h
  refine ⟨_, @pss_cons _ _ _ _ _ (ps_set (i := 2) sc_l_tags.nd rfl (Or.inl rfl) (pe_ix ix_list (pe_lst (pa_cons pe_int (pa_cons pe_int (pa_cons pe_int (pa_cons pe_int (pa_cons pe_int (pa_cons pe_int (pa_cons pe_int pa_nil)))))))) (pe_op op_mod (pv 0) pe_int) (fun _ _ => rfl)))
    (pss_one (ps_ret (pe_callTy call_tuple_of rfl T.n_tuple b_tuple (pa_cons (pe_comp blk_l_tags_0 rfl (pi_range1 rfl T.n_range (pa_cons (pv 2) pa_nil)) (fun _ _ _ _ _ => pg_name (i := 0) nd_l_tags_0 rfl (.inl rfl)) (fun _ _ _ _ _ => pif_nil) (fun _ _ _ _ _ => pe_ix (ix_listK (K := K) rfl) (pv 2) (pe_op op_mod (pe_op op_add (pe_op op_fdiv (pv 1) pe_int) (pe_op op_mul pe_int (pv 0))) pe_int) (fun _ _ => rfl))) pa_nil)))), ?_⟩
  obtain ⟨ha, h4⟩ := tgN_at p
  refine ⟨small (by simp), fun l1 hl1 => ⟨_, rfl, _, _, rfl, rfl, (by show (0 : Int) < 7; decide), l1, _, _, _, rfl, rfl, .of upd_same, ha, ?_⟩⟩
  have k1 := same_upd hl1 (.lst [.int 0, .int 0, .int 0, .int 1, .int 2, .int 4, .int 1])
  have e1 := k1 _ _ hl
  generalize upd H l1 (.lst [.int 0, .int 0, .int 0, .int 1, .int 2, .int 4, .int 1]) = H1 at k1 e1 ⊢
  refine ⟨_, rfl, _, rfl, by omega, by omega, blk_rng (n := ((tgN p : Nat) : Int).toNat) (fun i acc H' => H' = H1 ∧ acc = ((List.range i).map fun k => ns.getD (tgJ p k) Str.empty).map V.str ∧ i ≤ 4) ⟨rfl, rfl, by decide⟩ (fun i acc H' z => ?_) (fun i acc H' R k hi z => ?_) fun acc H' z => ?_⟩
  · rw [z.2.1, List.length_map, List.length_map, List.length_range]; exact small1000 (by have := z.2.2; omega)
  · obtain ⟨rfl, rfl, h⟩ := z
    obtain ⟨j1, j2⟩ := tgJ_in p i
    dsimp only [tYes]; rw [if_pos rfl]
    refine ⟨_, rfl, _, rfl, _, _, rfl, rfl, ⟨by decide, by decide⟩, _, rfl, _, _, rfl, rfl, .inl ⟨by decide, by decide⟩, _, _, rfl, rfl, _, _, rfl, rfl, (by show (0 : Int) < 24; decide), nl, _, _, .str (ns.getD (tgJ p i) Str.empty), rfl, rfl, .of e1, ?_, ?_⟩
    · rw [Int.zero_add, j1]
      refine atI_nat ?_
      rw [List.getElem?_map, List.getElem?_eq_getElem (by omega), List.getD_eq_getElem?_getD, List.getElem?_eq_getElem (by omega)]; rfl
    · refine k _ _ ⟨rfl, ?_, by omega⟩
      rw [List.range_succ, List.map_append, List.map_append]; rfl
  · obtain ⟨rfl, rfl, _⟩ := z
    intro l2 hl2
    refine ⟨l2, _, rfl, .inl ⟨.of upd_same, fun t ht => ?_⟩⟩
    have n2 : t ≠ l2 := fun z => by rw [z, upd_same] at ht; cases ht
    have f2 : H' t = none := by rw [upd_ne n2] at ht; exact ht
    have k2 := same_upd hl2 (.lst (((List.range ((tgN p : Nat) : Int).toNat).map fun k => ns.getD (tgJ p k) Str.empty).map V.str))
    refine q t _ ?_ (k1.trans (k2.trans (same_upd ht _))) (by rw [upd_same]; rfl)
    cases e : H t with
    | none => rfl
    | some o => rw [k1 _ _ e] at f2; cases f2
end
end KP

set_option linter.all false
set_option maxHeartbeats 4000000
set_option maxRecDepth 100000
namespace KP
open PySem L2 PyProof.Rows
open WM (J bl ls)
def sgT : Str := "abcdefghijklmnopqrstuvwxyzABCDEFGHIJKLMNOPQRSTUVWXYZ0123456789"
/-- a word of a text -/
structure Wd (z : Str) : Prop where
  n0 : 1 ≤ z.length
  n1 : z.length ≤ 9
  sg : ∀ c ∈ ls z, c ∈ ls sgT
structure Wds (ws : List Str) : Prop where
  n : ws.length ≤ 7
  w : ∀ w ∈ ws, Wd w
theorem sgT_len : sgT.cps.toList.length = 62 := by decide +kernel
theorem joinE (ts : List Str) : ls (Str.join (Str.ofString "") ts) = (ts.map ls).flatten := by
  induction ts with
  | nil => rfl
  | cons x r ih =>
    cases r with
    | nil => show ls x = _; simp
    | cons y r =>
      have e : ls (Str.ofString "") = [] := by decide +kernel
      show (x ++ Str.ofString "" ++ Str.join (Str.ofString "") (y :: r)).cps.toList = _
      have a : ∀ u v : Str, ls (u ++ v) = ls u ++ ls v := fun u v => Array.toList_append
      show ls (x ++ Str.ofString "" ++ Str.join (Str.ofString "") (y :: r)) = _
      rw [a, a, e, List.append_nil, ih]; rfl
/-- a text of one sign -/
def sg1 (c : Nat) : Str := ⟨#[c]⟩
theorem joinS (cs : List Nat) : ls (Str.join (Str.ofString "") (cs.map sg1)) = cs := by
  rw [joinE, List.map_map]
  induction cs with
  | nil => rfl
  | cons c r ih => rw [List.map_cons, List.flatten_cons, ih]; rfl
theorem sum_sg1 (cs : List Nat) : ((cs.map sg1).map (·.length)).sum = cs.length := by
  induction cs with
  | nil => rfl
  | cons c r ih => rw [List.map_cons, List.map_cons, List.sum_cons, ih, List.length_cons]; show 1 + _ = _; omega
theorem sumWd : ∀ (l : List Str), (∀ w ∈ l, Wd w) → (l.map (·.length)).sum ≤ l.length * 9
  | [], _ => by simp
  | w :: l, h => by
    have := sumWd l fun z hz => h z (List.mem_cons_of_mem _ hz)
    have h1 := (h w (List.mem_cons_self ..)).n1
    rw [List.map_cons, List.sum_cons, List.length_cons, Nat.succ_mul]; omega
theorem wdN (p : Int) : ∃ m : Int, atI [V.int 1, .int 2, .int 3, .int 5, .int 8, .int (1 + p / 6 % 9)] (p % 6) = some (.int m) ∧ 1 ≤ m ∧ m ≤ 9 := by
  have h0 := Int.emod_nonneg p (show (6 : Int) ≠ 0 by decide)
  have h1 := Int.emod_lt_of_pos p (show (0 : Int) < 6 by decide)
  have : p % 6 = 0 ∨ p % 6 = 1 ∨ p % 6 = 2 ∨ p % 6 = 3 ∨ p % 6 = 4 ∨ p % 6 = 5 := by omega
  rcases this with e | e | e | e | e | e <;> rw [e]
  · exact ⟨1, rfl, by decide, by decide⟩
  · exact ⟨2, rfl, by decide, by decide⟩
  · exact ⟨3, rfl, by decide, by decide⟩
  · exact ⟨5, rfl, by decide, by decide⟩
  · exact ⟨8, rfl, by decide, by decide⟩
  · exact ⟨_, rfl, by omega, by omega⟩
theorem wdM (p : Int) : ∃ m : Nat, atI [V.int 0, .int 1, .int 2, .int 3, .int 5, .int 7, .int 1, .int 4] (p % 8) = some (.int m) ∧ m ≤ 7 := by
  have h0 := Int.emod_nonneg p (show (8 : Int) ≠ 0 by decide)
  have h1 := Int.emod_lt_of_pos p (show (0 : Int) < 8 by decide)
  have : p % 8 = 0 ∨ p % 8 = 1 ∨ p % 8 = 2 ∨ p % 8 = 3 ∨ p % 8 = 4 ∨ p % 8 = 5 ∨ p % 8 = 6 ∨ p % 8 = 7 := by omega
  rcases this with e | e | e | e | e | e | e | e <;> rw [e]
  · exact ⟨0, rfl, by decide⟩
  · exact ⟨1, rfl, by decide⟩
  · exact ⟨2, rfl, by decide⟩
  · exact ⟨3, rfl, by decide⟩
  · exact ⟨5, rfl, by decide⟩
  · exact ⟨7, rfl, by decide⟩
  · exact ⟨1, rfl, by decide⟩
  · exact ⟨4, rfl, by decide⟩
section
variable {P : Program} {w : World} {K : PySem.W.Frag} {mg : Str → Option Value} {base : Heap} {A : Adr}
abbrev sc_l_text_0 : Scope := (match defBody s_l_text with | _ :: _ :: (.For _ _ (_ :: _ :: (.Expr (.Call _ ((.Call _ ((.ListComp _ _ sc _) :: _) _ _) :: _) _ _) _) :: _) _ _) :: _ => sc | _ => defScope s_l_text)
theorem blk_l_text_0 : Blk (defScope s_l_text) N_l_text sc_l_text_0 ["_law_j"] [0, 2] := ⟨rfl, by decide +kernel, by decide +kernel, by decide +kernel, by decide +kernel⟩
theorem nd_l_text_0 : (capN N_l_text ["_law_j"] [0, 2]).Nodup := by decide +kernel
def spText : Sp := fun vs H Q _ => ∃ (st : Addr) (c : Int), vs = [.ref st, .int c] ∧ St st H ∧ ∀ (ws : List Str) (H' : Hp), Ms st H H' → Wds ws → Q (.str (J ws)) H'
seal PE PS PSs PA PT PI PG in
theorem ok_text (T : Txt K mg A) : FnOk P w K mg base CX0 2 A.f_l_text A.d_l_text P_l_text spText := by
  have G_l_mix := ok_mix (P := P) (w := w) (base := base) T
  refine T.F_l_text.ok sc_l_text (fun vs H Q E h => ?_) (fun cdv B outer s H vs Q E hr h => ?_)
  · obtain ⟨st, c, rfl, _⟩ := h; rfl
  obtain ⟨st, c, rfl, hst, q⟩ := h
  refine ⟨_, @pss_cons _ _ _ _ _ (ps_set (i := 2) sc_l_text.nd rfl (Or.inr rfl) pe_str)
    (@pss_cons _ _ _ _ _ (ps_set (i := 3) sc_l_text.nd rfl (Or.inl rfl) (pe_lst pa_nil))
    (@pss_cons _ _ _ _ _ (ps_for PassesOwn.never rfl (pi_range1 rfl T.n_range (pa_cons (pe_ix ix_list (pe_lst (pa_cons pe_int (pa_cons pe_int (pa_cons pe_int (pa_cons pe_int (pa_cons pe_int (pa_cons pe_int (pa_cons pe_int (pa_cons pe_int pa_nil))))))))) (pe_op op_mod (pe_call G_l_mix hr rfl T.m_l_mix T.F_l_mix.kp T.b_l_mix .nil pass0 (pa_cons (pv 0) (pa_cons (pv 1) pa_nil))) pe_int) (fun _ _ => rfl)) pa_nil)) (pg_name (i := 4) sc_l_text.nd rfl (Or.inl rfl)) (@pss_cons _ _ _ _ _ (ps_set (i := 5) sc_l_text.nd rfl (Or.inl rfl) (pe_call G_l_mix hr rfl T.m_l_mix T.F_l_mix.kp T.b_l_mix .nil pass0 (pa_cons (pv 0) (pa_cons (pe_op op_add (pv 1) (pv 4)) pa_nil))))
    (@pss_cons _ _ _ _ _ (ps_set (i := 6) sc_l_text.nd rfl (Or.inl rfl) (pe_ix ix_list (pe_lst (pa_cons pe_int (pa_cons pe_int (pa_cons pe_int (pa_cons pe_int (pa_cons pe_int (pa_cons (pe_op op_add pe_int (pe_op op_mod (pe_op op_fdiv (pv 5) pe_int) pe_int)) pa_nil))))))) (pe_op op_mod (pv 5) pe_int) (fun _ _ => rfl)))
    (pss_one (ps_expr (pe_bm PySem.F.plainAttrs_list PySem.F.slot_list_append PySem.F.type_list_append mt_append (pv 3) (pa_cons (pe_bm PySem.F.plainAttrs_str PySem.F.slot_str_join PySem.F.type_str_join mt_join pe_str (pa_cons (pe_comp blk_l_text_0 rfl (pi_range1 rfl T.n_range (pa_cons (pv 6) pa_nil)) (fun _ _ _ _ _ => pg_name (i := 0) nd_l_text_0 rfl (.inl rfl)) (fun _ _ _ _ _ => pif_nil) (fun _ _ _ _ _ => pe_ix ix_str (pv 2) (pe_op op_mod (pe_call G_l_mix hr rfl T.m_l_mix T.F_l_mix.kp T.b_l_mix .nil pass0 (pa_cons (pv 1) (pa_cons (pv 0) pa_nil))) pe_int) (fun _ _ => rfl))) pa_nil)) pa_nil)))))))
    (pss_one (ps_ret (pe_bm PySem.F.plainAttrs_str PySem.F.slot_str_join PySem.F.type_str_join mt_join pe_str (pa_cons (pv 3) pa_nil)))))), ?_⟩
  refine ⟨small (by simp), fun wl hwl => ?_⟩
  have nw := hst.ne hwl
  have m1 : Ms st H (upd H wl (.lst [])) := .of hst (same_upd hwl _)
  have e1 : upd H wl (.lst []) wl = some (.lst []) := upd_same
  generalize upd H wl (.lst []) = H1 at m1 e1 ⊢
  refine ⟨small (by simp), fun la hla => ?_⟩
  have na := m1.st.ne hla
  have m2 := m1.new (.lst [.int 0, .int 1, .int 2, .int 3, .int 5, .int 7, .int 1, .int 4]) hla
  have ea : upd H1 la (.lst [.int 0, .int 1, .int 2, .int 3, .int 5, .int 7, .int 1, .int 4]) la = _ := upd_same
  have e2 : upd H1 la (.lst [.int 0, .int 1, .int 2, .int 3, .int 5, .int 7, .int 1, .int 4]) wl = some (.lst []) := by rw [upd_ne (ne_of_none e1 hla)]; exact e1
  refine ⟨_, rfl, _, rfl, st, c, rfl, m2.st, fun r H2 r0 r1 m3 f3 => ?_⟩
  obtain ⟨m, hm, hm7⟩ := wdM r
  refine ⟨_, _, rfl, rfl, (by show (0 : Int) < 8; decide), la, _, _, _, rfl, rfl, .of (m3.keep _ _ na ea), hm, _, rfl, by omega, by omega, for_range (n := ((m : Nat) : Int).toNat) (fun i σ H' => ∃ (v4 v5 v6 : Option V) (ws : List Str), σ = [some (.ref st), some (.int c), some (.str sgT), some (.ref wl), v4, v5, v6] ∧ Ms st H H' ∧ H' wl = some (.lst (ws.map V.str)) ∧ ws.length = i ∧ i ≤ 7 ∧ ∀ w ∈ ws, Wd w)
    ⟨none, none, none, [], rfl, m2.trans m3, m3.keep _ _ nw e2, rfl, by decide, fun w h => (by cases h)⟩ ?_ ?_⟩
  · rintro i σ H3 hi ⟨v4, v5, v6, ws, rfl, m4, e4, hl, h7, hw⟩
    refine ⟨_, rfl, _, rfl, _, rfl, _, _, rfl, rfl, st, _, rfl, m4.st, fun p H4 p0 p1 m5 f5 => ?_⟩
    obtain ⟨sz, hsz, s1, s9⟩ := wdN p
    refine ⟨_, rfl, _, _, rfl, rfl, ⟨by decide, by decide⟩, _, _, rfl, rfl, (by show (0 : Int) < 9; decide), _, _, rfl, rfl, small (by simp), fun lb hlb => ?_⟩
    have m6 := (m4.trans m5).new (.lst [.int 1, .int 2, .int 3, .int 5, .int 8, .int (1 + p / 6 % 9)]) hlb
    have e5 := m5.keep _ _ nw e4
    have e6 : upd H4 lb (.lst [.int 1, .int 2, .int 3, .int 5, .int 8, .int (1 + p / 6 % 9)]) wl = some (.lst (ws.map V.str)) := by rw [upd_ne (ne_of_none e5 hlb)]; exact e5
    refine ⟨_, rfl, _, _, rfl, rfl, (by show (0 : Int) < 6; decide), lb, _, _, _, rfl, rfl, .of upd_same, hsz, ?_⟩
    generalize upd H4 lb (.lst [.int 1, .int 2, .int 3, .int 5, .int 8, .int (1 + p / 6 % 9)]) = H5 at m6 e6 ⊢
    refine ⟨_, rfl, .inl ⟨rfl, _, .of e6⟩, rfl, _, rfl, _, rfl, by omega, by omega, blk_rng (n := sz.toNat) (fun j acc H' => ∃ cs : List Nat, acc = (cs.map sg1).map V.str ∧ cs.length = j ∧ j ≤ 9 ∧ (∀ c ∈ cs, c ∈ ls sgT) ∧ Ms st H H' ∧ H' wl = some (.lst (ws.map V.str))) ⟨[], rfl, rfl, by decide, fun c h => (by cases h), m6, e6⟩ (fun j acc H' z => ?_) (fun j acc H' R k hj z => ?_) fun acc H' z => ?_⟩
    · obtain ⟨cs, rfl, h1, h2, _⟩ := z
      rw [List.length_map, List.length_map]; exact small1000 (by omega)
    · obtain ⟨cs, rfl, h1, h2, h3, m7, e7⟩ := z
      dsimp only [tYes]; rw [if_pos rfl]
      refine ⟨_, rfl, _, rfl, _, rfl, st, _, rfl, m7.st, fun u H6 u0 u1 m8 f8 => ?_⟩
      have h0 := Int.emod_nonneg u (show (62 : Int) ≠ 0 by decide)
      have h1' := Int.emod_lt_of_pos u (show (0 : Int) < 62 by decide)
      obtain ⟨jj, ej⟩ := Int.eq_ofNat_of_zero_le h0
      have hk : jj < sgT.cps.toList.length := by rw [sgT_len]; omega
      refine ⟨_, _, rfl, rfl, (by show (0 : Int) < 62; decide), sgT, _, sgT.cps.toList[jj], rfl, rfl, ?_, ?_, ?_⟩
      · exact small (by show sgT.cps.size ≤ 1000; decide +kernel)
      · rw [ej]
        exact atI_nat (List.getElem?_eq_getElem hk)
      · refine k _ _ ⟨cs ++ [sgT.cps.toList[jj]], ?_, by simp; omega, by omega, fun c hc => ?_, m7.trans m8, m8.keep _ _ nw e7⟩
        · rw [List.map_append, List.map_append]; rfl
        · rcases List.mem_append.mp hc with hc | hc
          · exact h3 c hc
          · rw [List.mem_singleton.mp hc]; exact List.getElem_mem hk
    · obtain ⟨cs, rfl, h1, h2, h3, m7, e7⟩ := z
      intro jl hjl
      have m8 := m7.new (.lst ((cs.map sg1).map V.str)) hjl
      have e8 : upd H' jl (.lst ((cs.map sg1).map V.str)) wl = some (.lst (ws.map V.str)) := by rw [upd_ne (ne_of_none e7 hjl)]; exact e7
      refine ⟨Str.ofString "", jl, cs.map sg1, rfl, rfl, .of upd_same, ?_, wl, _, _, rfl, rfl, e8, ?_, ?_⟩
      · have e : (Str.ofString "").length = 0 := by decide +kernel
        rw [sum_sg1, e]; omega
      · rw [List.length_map]; exact small1000 (by omega)
      · refine ⟨_, _, _, ws ++ [Str.join (Str.ofString "") (cs.map sg1)], rfl, m8.set _ hwl nw, ?_, by simp; omega, by omega, fun w hw' => ?_⟩
        · rw [upd_same, List.map_append]; rfl
        · rcases List.mem_append.mp hw' with h | h
          · exact hw w h
          · rw [List.mem_singleton.mp h]
            have ej := joinS cs
            have el : (Str.join (Str.ofString "") (cs.map sg1)).length = cs.length := by
              show (Str.join (Str.ofString "") (cs.map sg1)).cps.size = _
              rw [← Array.length_toList]; exact congrArg List.length ej
            exact ⟨by omega, by omega, fun c hc => h3 c (by rw [ej] at hc; exact hc)⟩
  · rintro σ H3 ⟨v4, v5, v6, ws, rfl, m4, e4, hl, h7, hw⟩
    refine ⟨rfl, _, rfl, bl, wl, ws, rfl, rfl, .of e4, ?_, q ws H3 m4 ⟨by omega, hw⟩⟩
    have := sumWd ws hw
    have e : bl.length = 1 := by decide +kernel
    rw [e]; omega
end
end KP

set_option linter.all false
set_option maxHeartbeats 4000000
set_option maxRecDepth 100000
namespace KP
open PySem L2 PyProof.Rows
open WM (J bl ls)
/-- what more a box has: nothing, a text, a number -/
inductive Mo where
  | no : Mo
  | tx (ws : List Str) : Mo
  | nu (n : Int) : Mo
def Mo.v : Mo → V
  | .no => .non
  | .tx ws => .str (J ws)
  | .nu n => .int n
/-- a row of the law's table of boxes -/
structure Rw where
  kind : Str
  name : Str
  tags : List Str
  more : Mo
  about : Int
  deep : Int
def Rw.vs (r : Rw) (t : Addr) : List V := [.str r.kind, .str r.name, .ref t, r.more.v, .int r.about, .int r.deep]
structure RowAt (H : Hp) (a t : Addr) (r : Rw) : Prop where
  row : H a = some (.lst (r.vs t))
  tags : H t = some (.tup (r.tags.map V.str))
theorem RowAt.ms {st : Addr} {H H' : Hp} {a t : Addr} {r : Rw} (h : RowAt H a t r) (m : Ms st H H') (n1 : a ≠ st) (n2 : t ≠ st) : RowAt H' a t r := ⟨m.keep _ _ n1 h.row, m.keep _ _ n2 h.tags⟩
theorem RowAt.same {H H' : Hp} {a t : Addr} {r : Rw} (h : RowAt H a t r) (m : Same H H') : RowAt H' a t r := ⟨m _ _ h.row, m _ _ h.tags⟩
/-- a row with where it and its tags lie -/
structure Lr where
  a : Addr
  t : Addr
  r : Rw
/-- the table rl of rows -/
structure Rws (H : Hp) (rl : Addr) (xs : List Lr) : Prop where
  lst : H rl = some (.lst (xs.map fun x => V.ref x.a))
  row : ∀ x ∈ xs, RowAt H x.a x.t x.r
theorem Rws.same {H H' : Hp} {rl : Addr} {xs : List Lr} (h : Rws H rl xs) (m : Same H H') : Rws H' rl xs := ⟨m _ _ h.lst, fun x hx => (h.row x hx).same m⟩
theorem Rws.ms {st : Addr} {H H' : Hp} {rl : Addr} {xs : List Lr} (h : Rws H rl xs) (m : Ms st H H') (hs : St st H) : Rws H' rl xs := by
  have ne : ∀ {l : Addr} {o : HO}, H l = some o → (∀ s, o ≠ .lst [.int s]) → l ≠ st := fun e n z => by
    obtain ⟨s, a, _⟩ := hs
    rw [z, a] at e
    cases e
    exact n s rfl
  refine ⟨m.keep _ _ (ne h.lst fun s e => ?_) h.lst, fun x hx => (h.row x hx).ms m (ne (h.row x hx).row fun s e => ?_) (ne (h.row x hx).tags fun s e => ?_)⟩
  · injection e with e
    cases xs with
    | nil => cases e
    | cons y ys => rw [List.map_cons] at e; injection e with e _; cases e
  · injection e with e; unfold Rw.vs at e; injection e with e _; cases e
  · cases e
theorem atI_row {xs : List Lr} {j : Nat} {x : Lr} (h : xs[j]? = some x) : atI (xs.map fun x => V.ref x.a) (j : Int) = some (.ref x.a) := atI_nat (by rw [List.getElem?_map, h]; rfl)
def kBlank : Str := "blank"
def kWords : Str := "words"
def kGrid : Str := "grid"
def kinds : List Str := ["row", "column", "words", "blank", "flow", "grid", "pile"]
/-- a box of this kind may hold others -/
def Hold (r : Rw) : Prop := r.kind ≠ kBlank ∧ r.kind ≠ kWords ∧ r.deep < 8
/-- what more belongs to a kind -/
def MoOk (k : Str) (m : Mo) : Prop := (k = kWords ∧ ∃ ws, m = .tx ws ∧ Wds ws) ∨ (k = kGrid ∧ ∃ n : Int, m = .nu n ∧ 1 ≤ n ∧ n ≤ 9) ∨ (k ≠ kWords ∧ k ≠ kGrid ∧ m = .no)
/-- the i-th row: its name, its kind, what it is about -/
structure RowOk (c : Int) (xs : List Lr) (i : Nat) (r : Rw) : Prop where
  name : r.name = nm c i
  kind : r.kind ∈ kinds
  more : MoOk r.kind r.more
  tags : ∃ p, r.tags = tgs p (nms c)
  about : (i = 0 ∧ r.about = -1 ∧ r.deep = 1) ∨ ∃ (j : Nat) (h : Lr), j < i ∧ xs[j]? = some h ∧ r.about = (j : Int) ∧ Hold h.r ∧ r.deep = h.r.deep + 1
structure RwsOk (c : Int) (xs : List Lr) : Prop where
  n : xs.length ≤ 12
  row : ∀ (i : Nat) (x : Lr), xs[i]? = some x → RowOk c xs i x.r
theorem RwsOk.deep {c : Int} {xs : List Lr} (h : RwsOk c xs) : ∀ (i : Nat) (x : Lr), xs[i]? = some x → 1 ≤ x.r.deep ∧ x.r.deep ≤ 8 := by
  intro i
  induction i using Nat.strongRecOn with
  | ind i ih =>
    intro x hx
    rcases (h.row i x hx).about with ⟨_, _, e⟩ | ⟨j, y, hj, hy, _, hh, e⟩
    · omega
    · have := ih j hj y hy
      have h3 := hh.2.2
      omega
theorem RowOk.more' {c : Int} {xs : List Lr} {i : Nat} {r : Rw} (h : RowOk c xs i r) (ys : List Lr) : RowOk c (xs ++ ys) i r := ⟨h.name, h.kind, h.more, h.tags, h.about.imp id fun ⟨j, y, hj, hy, e⟩ => ⟨j, y, hj, by rw [List.getElem?_append_left (List.getElem?_eq_some_iff.mp hy).1]; exact hy, e⟩⟩
theorem RwsOk.snoc {c : Int} {xs : List Lr} {x : Lr} (h : RwsOk c xs) (n : xs.length < 12) (hx : RowOk c xs xs.length x.r) : RwsOk c (xs ++ [x]) := by
  refine ⟨by simp; omega, fun i y hy => ?_⟩
  rw [List.getElem?_append] at hy
  split at hy
  · exact (h.row i y hy).more' _
  · rename_i hi
    have e : i = xs.length := by
      have := (List.getElem?_eq_some_iff.mp hy).1
      simp at this; omega
    subst e
    rw [Nat.sub_self] at hy
    cases hy
    exact hx.more' _
end KP

set_option linter.all false
set_option maxHeartbeats 4000000
set_option maxRecDepth 100000
namespace KP
open PySem L2 PyProof.Rows
open WM (J bl ls)
theorem hold_of {k : Str} (h : (!inV (.str k) [.str kBlank, .str kWords]) = true) : k ≠ kBlank ∧ k ≠ kWords := by
  have e : inV (.str k) [.str kBlank, .str kWords] = false := by simpa using h
  unfold inV at e
  rw [List.any_eq_false] at e
  refine ⟨fun z => e (.str kBlank) (by simp) ?_, fun z => e (.str kWords) (by simp) ?_⟩
  · rw [z]; show (kBlank == kBlank) = true; simp
  · rw [z]; show (kWords == kWords) = true; simp
theorem sq_same {K : PySem.W.Frag} {H H' : Hp} {a : Addr} {xs : List V} (h : SqL K H a xs) (e : Same H H') : SqL K H' a xs := by
  rcases h with (h | ⟨o, h⟩) | h
  · exact .inl (.inl (e _ _ h))
  · exact .inl (.inr ⟨o, e _ _ h⟩)
  · exact .inr h
theorem seq_setC {v : V} {i : Nat} {u : TS} {D : Ends} {σ : L2.St} {H : Hp} (h : u D (σ.set i (some v)) H) : tSeq (tAsg (tC v) (gName i)) u D σ H := h
theorem pick3 {x y z m : Int} (h0 : 0 ≤ m) (h : m < 3) : ∃ u, atI [V.int x, V.int y, V.int z] m = some (.int u) ∧ (u = x ∨ u = y ∨ u = z) := by
  have : m = 0 ∨ m = 1 ∨ m = 2 := by omega
  rcases this with rfl | rfl | rfl
  · exact ⟨x, rfl, .inl rfl⟩
  · exact ⟨y, rfl, .inr (.inl rfl)⟩
  · exact ⟨z, rfl, .inr (.inr rfl)⟩
theorem atI_strs {l : List Str} {m : Int} (h0 : 0 ≤ m) (h : m < l.length) : ∃ k ∈ l, atI (l.map V.str) m = some (.str k) := by
  obtain ⟨j, rfl⟩ := Int.eq_ofNat_of_zero_le h0
  have hj : j < l.length := by omega
  exact ⟨l[j], List.getElem_mem hj, atI_nat (by rw [List.getElem?_map, List.getElem?_eq_getElem hj]; rfl)⟩
theorem kinds12 {m : Int} (h0 : 0 ≤ m) (h : m < 12) : ∃ k ∈ kinds, atI [V.str "row", .str "column", .str "words", .str "blank", .str "flow", .str "grid", .str "pile", .str "words", .str "row", .str "column", .str "blank", .str "flow"] m = some (.str k) := by
  obtain ⟨k, hk, e⟩ := atI_strs (l := ["row", "column", "words", "blank", "flow", "grid", "pile", "words", "row", "column", "blank", "flow"]) h0 h
  refine ⟨k, ?_, e⟩
  unfold kinds
  simp only [List.mem_cons, List.not_mem_nil, or_false] at hk ⊢
  rcases hk with h | h | h | h | h | h | h | h | h | h | h | h <;> simp [h]
theorem kinds5 {m : Int} (h0 : 0 ≤ m) (h : m < 5) : ∃ k ∈ kinds, atI [V.str "row", .str "column", .str "flow", .str "grid", .str "pile"] m = some (.str k) := by
  obtain ⟨k, hk, e⟩ := atI_strs (l := ["row", "column", "flow", "grid", "pile"]) h0 h
  refine ⟨k, ?_, e⟩
  unfold kinds
  simp only [List.mem_cons, List.not_mem_nil, or_false] at hk ⊢
  rcases hk with h | h | h | h | h <;> simp [h]
/-- what the loop of the rows keeps -/
structure Lp (K : PySem.W.Frag) (a st nl kl rl : Addr) (ns : List Int) (c : Int) (H H' : Hp) (xs : List Lr) : Prop where
  same : Same H H'
  sta : St st H'
  scr : SqL K H' a (ns.map V.int)
  off : Off K a st (ns.map V.int)
  nl : H' nl = some (.lst ((nms c).map V.str))
  kl : H' kl = some (.lst [.str "row", .str "column", .str "words", .str "blank", .str "flow", .str "grid", .str "pile", .str "words", .str "row", .str "column", .str "blank", .str "flow"])
  rws : Rws H' rl xs
  ok : RwsOk c xs
section
variable {P : Program} {w : World} {K : PySem.W.Frag} {mg : Str → Option Value} {base : Heap} {A : Adr}
theorem Lp.grow {a st nl kl rl : Addr} {ns : List Int} {c : Int} {H H1 H2 : Hp} {xs : List Lr} (h : Lp K a st nl kl rl ns c H H1 xs) (e : Same H1 H2) : Lp K a st nl kl rl ns c H H2 xs :=
  ⟨h.same.trans e, let ⟨s, x, y⟩ := h.sta; ⟨s, e _ _ x, y⟩, sq_same h.scr e, h.off, e _ _ h.nl, e _ _ h.kl, h.rws.same e, h.ok⟩
theorem Lp.ms {a st nl kl rl : Addr} {ns : List Int} {c : Int} {H H1 H2 : Hp} {xs : List Lr} (h : Lp K a st nl kl rl ns c H H1 xs) (hs : H st = none) (m : Ms st H1 H2) : Lp K a st nl kl rl ns c H H2 xs := by
  have ne : ∀ {l : Addr} {o : HO}, H1 l = some o → (∀ s, o ≠ .lst [.int s]) → l ≠ st := fun e n z => by
    obtain ⟨s, x, _⟩ := h.sta
    rw [z, x] at e
    cases e
    exact n s rfl
  refine ⟨fun b o e => m.keep b o (fun z => by rw [z, hs] at e; cases e) (h.same b o e), m.st, m.seq h.off h.scr, h.off, m.keep _ _ (ne h.nl fun s e => ?_) h.nl, m.keep _ _ (ne h.kl fun s e => ?_) h.kl, h.rws.ms m h.sta, h.ok⟩
  · injection e with e
    have := congrArg List.length e
    simp [nms] at this
  · injection e with e
    have := congrArg List.length e
    simp at this
theorem Lp.snoc {a st nl kl rl ra tt : Addr} {ns : List Int} {c : Int} {H H1 H2 : Hp} {xs : List Lr} {r : Rw} (L : Lp K a st nl kl rl ns c H H1 xs) (hS : SqL K H a (ns.map V.int)) (hrl : H rl = none) (hra : H1 ra = none) (et : H1 tt = some (.tup (r.tags.map V.str))) (n : xs.length < 12) (hok : RowOk c xs xs.length r)
    (e1 : H2 ra = some (.lst (r.vs tt))) (e2 : H2 rl = some (.lst ((xs.map fun x => V.ref x.a) ++ [.ref ra]))) (e3 : ∀ b, b ≠ ra → b ≠ rl → H2 b = H1 b) : Lp K a st nl kl rl ns c H H2 (xs ++ [⟨ra, tt, r⟩]) := by
  have nra : ∀ {l : Addr} {o : HO}, H1 l = some o → l ≠ ra := fun e z => by rw [z, hra] at e; cases e
  have nrl : ∀ {l : Addr} {o : HO}, H1 l = some o → o ≠ .lst (xs.map fun x => V.ref x.a) → l ≠ rl := fun e n z => by
    rw [z, L.rws.lst] at e
    cases e
    exact n rfl
  have kp : ∀ {l : Addr} {o : HO}, H1 l = some o → o ≠ .lst (xs.map fun x => V.ref x.a) → H2 l = some o := fun e n => by rw [e3 _ (nra e) (nrl e n)]; exact e
  have hd : ∀ (v : V) (vs : List V), (∀ b, v ≠ .ref b) → HO.lst (v :: vs) ≠ .lst (xs.map fun x => V.ref x.a) := fun v vs h e => by
    injection e with e
    cases xs with
    | nil => cases e
    | cons y ys => rw [List.map_cons] at e; injection e with e _; exact h _ e
  have sm : Same H H2 := fun b o e => by
    have e' := L.same b o e
    rw [e3 b (nra e') (fun z => by rw [z, hrl] at e; cases e)]; exact e'
  refine ⟨sm, ?_, sq_same hS sm, L.off, kp L.nl fun e => ?_, kp L.kl (hd _ _ fun b e => by cases e), ⟨by rw [e2, List.map_append]; rfl, fun x hx => ?_⟩, L.ok.snoc n hok⟩
  · obtain ⟨s, x, y⟩ := L.sta
    exact ⟨s, kp x (hd _ _ fun b e => by cases e), y⟩
  · injection e with e
    have := congrArg List.length e
    simp [nms] at this
    omega
  · rcases List.mem_append.mp hx with hx | hx
    · have h := L.rws.row x hx
      exact ⟨kp h.row (hd _ _ fun b e => by cases e), kp h.tags fun e => by cases e⟩
    · rw [List.mem_singleton.mp hx]
      exact ⟨e1, kp et fun e => by cases e⟩
abbrev sc_l_rows_0 : Scope := (match defBody s_l_rows with | _ :: _ :: _ :: _ :: (.For _ _ (_ :: (.Assign _ (.ListComp _ _ sc _) _) :: _) _ _) :: _ => sc | _ => defScope s_l_rows)
theorem blk_l_rows_0 : Blk (defScope s_l_rows) N_l_rows sc_l_rows_0 ["_law_j"] [5] := ⟨rfl, by decide +kernel, by decide +kernel, by decide +kernel, by decide +kernel⟩
theorem nd_l_rows_0 : (capN N_l_rows ["_law_j"] [5]).Nodup := by decide +kernel
def spRows (K : PySem.W.Frag) : Sp := fun vs H Q _ => ∃ (a : Addr) (ns : List Int) (k : Int), vs = [.ref a, .int k] ∧ SqL K H a (ns.map V.int) ∧ ns.length ≤ 63 ∧ 0 ≤ k ∧
  ∀ (rl : Addr) (xs : List Lr) (c : Int) (H' : Hp), Same H H' → Rws H' rl xs → RwsOk c xs → 1 ≤ xs.length → Q (.ref rl) H'
seal PE PS PSs PA PT PI PG in
theorem ok_rows (T : Txt K mg A) : FnOk P w K mg base CX0 3 A.f_l_rows A.d_l_rows P_l_rows (spRows K) := by
  have G_l_cell_at := (ok_cell (P := P) (w := w) (base := base) T).mono (show 1 ≤ 2 by decide)
  have G_l_mix := (ok_mix (P := P) (w := w) (base := base) T).mono (show 1 ≤ 2 by decide)
  have G_l_names := (ok_names (P := P) (w := w) (base := base) T).mono (show 1 ≤ 2 by decide)
  have G_l_tags := (ok_tags (P := P) (w := w) (base := base) T).mono (show 1 ≤ 2 by decide)
  have G_l_text := ok_text (P := P) (w := w) (base := base) T
  have G_l_state := ok_state (P := P) (w := w) (base := base) T
  refine T.F_l_rows.ok sc_l_rows (fun vs H Q E h => ?_) (fun cdv B outer s H vs Q E hr h => ?_)
  · obtain ⟨a, ns, k, rfl, _⟩ := h; rfl
  obtain ⟨a, ns, at0, rfl, hS, hn, h0, q⟩ := h
  refine ⟨_, @pss_cons _ _ _ _ _ (ps_set (i := 2) sc_l_rows.nd rfl (Or.inl rfl) (pe_call G_l_state hr rfl T.m_l_state T.F_l_state.kp T.b_l_state .nil pass0 (pa_cons (pv 0) (pa_cons (pv 1) pa_nil))))
    (@pss_cons _ _ _ _ _ (ps_set (i := 3) sc_l_rows.nd rfl (Or.inl rfl) (pe_call G_l_names hr rfl T.m_l_names T.F_l_names.kp T.b_l_names .nil pass0 (pa_cons (pe_call G_l_mix hr rfl T.m_l_mix T.F_l_mix.kp T.b_l_mix .nil pass0 (pa_cons (pv 2) (pa_cons (pe_call G_l_cell_at hr rfl T.m_l_cell_at T.F_l_cell_at.kp T.b_l_cell_at .nil pass0 (pa_cons (pv 0) (pa_cons (pe_op op_add (pv 1) pe_int) pa_nil))) pa_nil))) pa_nil)))
    (@pss_cons _ _ _ _ _ (ps_set (i := 4) sc_l_rows.nd rfl (Or.inl rfl) (pe_lst (pa_cons pe_str (pa_cons pe_str (pa_cons pe_str (pa_cons pe_str (pa_cons pe_str (pa_cons pe_str (pa_cons pe_str (pa_cons pe_str (pa_cons pe_str (pa_cons pe_str (pa_cons pe_str (pa_cons pe_str pa_nil))))))))))))))
    (@pss_cons _ _ _ _ _ (ps_set (i := 5) sc_l_rows.nd rfl (Or.inr rfl) (pe_lst pa_nil))
    (@pss_cons _ _ _ _ _ (ps_for PassesOwn.never rfl (pi_range1 rfl T.n_range (pa_cons (pe_op op_add pe_int (pe_op op_mod (pe_call G_l_mix hr rfl T.m_l_mix T.F_l_mix.kp T.b_l_mix .nil pass0 (pa_cons (pv 2) (pa_cons (pe_call G_l_cell_at hr rfl T.m_l_cell_at T.F_l_cell_at.kp T.b_l_cell_at .nil pass0 (pa_cons (pv 0) (pa_cons (pe_op op_add (pv 1) pe_int) pa_nil))) pa_nil))) pe_int)) pa_nil)) (pg_name (i := 6) sc_l_rows.nd rfl (Or.inl rfl)) (@pss_cons _ _ _ _ _ (ps_set (i := 7) sc_l_rows.nd rfl (Or.inl rfl) (pe_call G_l_mix hr rfl T.m_l_mix T.F_l_mix.kp T.b_l_mix .nil pass0 (pa_cons (pv 2) (pa_cons (pe_call G_l_cell_at hr rfl T.m_l_cell_at T.F_l_cell_at.kp T.b_l_cell_at .nil pass0 (pa_cons (pv 0) (pa_cons (pe_op op_add (pe_op op_add (pv 1) pe_int) (pe_op op_mod (pv 6) pe_int)) pa_nil))) pa_nil))))
    (@pss_cons _ _ _ _ _ (ps_setComp (i := 8) blk_l_rows_0 rfl (pi_range1 rfl T.n_range (pa_cons (pv 6) pa_nil)) (fun _ _ _ _ _ => pg_name (i := 0) nd_l_rows_0 rfl (.inl rfl)) (fun _ _ _ _ _ => pif_one (PW.pt (pw_and (pt_cmpR (op_notIn_seqK (K := K) rfl) (pe_ix (ix_listK (K := K) rfl) (pe_ix (ix_listK (K := K) rfl) (pv 1) (pv 0) (fun _ _ => rfl)) pe_int (fun _ _ => rfl)) (pe_tup (pa_cons pe_str (pa_cons pe_str pa_nil))) rfl) (pw_and1 (pt_cmpR op_lt (pe_ix (ix_listK (K := K) rfl) (pe_ix (ix_listK (K := K) rfl) (pv 1) (pv 0) (fun _ _ => rfl)) pe_int (fun _ _ => rfl)) pe_int (nomark _)))))) (fun _ _ _ _ _ => pv 0) sc_l_rows.nd rfl rfl)
    (@pss_cons _ _ _ _ _ (ps_if (PW.pt (pw_and (pt_cmpR op_gt (pv 6) pe_int (nomark _)) (pw_and1 (pt_cmpR (op_eqNil hr.units0) (pv 8) (pe_lst pa_nil) (nomark _))))) (pss_one ps_break) pss_nil)
    (@pss_cons _ _ _ _ _ (ps_set (i := 9) sc_l_rows.nd rfl (Or.inl rfl) (pe_un un_neg pe_int))
    (@pss_cons _ _ _ _ _ (ps_if (pt_cmpR op_gt (pv 6) pe_int (nomark _)) (pss_one (ps_set (i := 9) sc_l_rows.nd rfl (Or.inl rfl) (pe_ix ix_list (pv 8) (pe_ix ix_list (pe_lst (pa_cons (pe_op op_sub (pe_callB call_len_seq rfl T.n_len b_len (pa_cons (pv 8) pa_nil)) pe_int) (pa_cons pe_int (pa_cons (pe_op op_mod (pe_op op_fdiv (pv 7) pe_int) (pe_callB call_len_seq rfl T.n_len b_len (pa_cons (pv 8) pa_nil))) pa_nil)))) (pe_op op_mod (pe_op op_mod (pv 7) pe_int) pe_int) (fun _ _ => rfl)) (fun _ _ => rfl)))) pss_nil)
    (@pss_cons _ _ _ _ _ (ps_set (i := 10) sc_l_rows.nd rfl (Or.inl rfl) (pe_ix ix_list (pv 4) (pe_op op_mod (pe_op op_fdiv (pv 7) pe_int) pe_int) (fun _ _ => rfl)))
    (@pss_cons _ _ _ _ _ (ps_if (PW.pt (pw_and (pt_cmpR op_eq (pv 6) pe_int (nomark _)) (pw_and1 (pt_cmpR op_gt (pe_op op_mod (pe_op op_fdiv (pv 7) pe_int) pe_int) pe_int (nomark _))))) (pss_one (ps_set (i := 10) sc_l_rows.nd rfl (Or.inl rfl) (pe_ix ix_list (pe_lst (pa_cons pe_str (pa_cons pe_str (pa_cons pe_str (pa_cons pe_str (pa_cons pe_str pa_nil)))))) (pe_op op_mod (pe_op op_fdiv (pv 7) pe_int) pe_int) (fun _ _ => rfl)))) pss_nil)
    (@pss_cons _ _ _ _ _ (ps_set (i := 11) sc_l_rows.nd rfl (Or.inl rfl) pe_non)
    (@pss_cons _ _ _ _ _ (ps_if (pt_cmpR op_eq (pv 10) pe_str (nomark _)) (pss_one (ps_set (i := 11) sc_l_rows.nd rfl (Or.inl rfl) (pe_call G_l_text hr rfl T.m_l_text T.F_l_text.kp T.b_l_text .nil pass0 (pa_cons (pv 2) (pa_cons (pv 7) pa_nil))))) pss_nil)
    (@pss_cons _ _ _ _ _ (ps_if (pt_cmpR op_eq (pv 10) pe_str (nomark _)) (pss_one (ps_set (i := 11) sc_l_rows.nd rfl (Or.inl rfl) (pe_op op_add pe_int (pe_op op_mod (pe_op op_fdiv (pv 7) pe_int) pe_int)))) pss_nil)
    (@pss_cons _ _ _ _ _ (ps_expr (pe_bm PySem.F.plainAttrs_list PySem.F.slot_list_append PySem.F.type_list_append mt_append (pv 5) (pa_cons (pe_lst (pa_cons (pv 10) (pa_cons (pe_ix ix_list (pv 3) (pv 6) (fun _ _ => rfl)) (pa_cons (pe_call G_l_tags hr rfl T.m_l_tags T.F_l_tags.kp T.b_l_tags .nil pass0 (pa_cons (pe_call G_l_mix hr rfl T.m_l_mix T.F_l_mix.kp T.b_l_mix .nil pass0 (pa_cons (pv 2) (pa_cons (pv 6) pa_nil))) (pa_cons (pv 3) pa_nil))) (pa_cons (pv 11) (pa_cons (pv 9) (pa_cons pe_int pa_nil))))))) pa_nil)))
    (pss_one (ps_if (pt_cmpR op_ge (pv 9) pe_int (nomark _)) (pss_one (ps_asg (pe_op op_add (pe_ix ix_list (pe_ix ix_list (pv 5) (pv 9) (fun _ _ => rfl)) pe_int (fun _ _ => rfl)) pe_int) (pg_sub (pe_ix ix_list (pv 5) (pv 6) (fun _ _ => rfl)) pe_int set_list))) pss_nil))))))))))))))
    (pss_one (ps_ret (pv 5))))))), ?_⟩
  refine ⟨_, rfl, _, rfl, a, ns, at0, rfl, hS, hn, h0, fun st H1 hst s1 f1 hSt => ?_⟩
  have off := Off.of hS hst
  refine ⟨_, rfl, _, rfl, _, rfl, _, _, rfl, rfl, a, ns, _, rfl, sq_same hS s1, hn, by omega, fun v => ⟨st, v, rfl, hSt, fun c H2 c0 c1 m2 f2 => ⟨c, rfl, c0, fun nl H3 hnl s3 e3 => ?_⟩⟩⟩
  refine ⟨small (by simp), fun kl hkl => ?_⟩
  refine ⟨small (by simp), fun rl hrl => ?_⟩
  have sH2 : Same H H2 := fun b o e => m2.keep b o (fun z => by rw [z, hst] at e; cases e) (s1 b o e)
  have sK := (s3.trans (same_upd hkl (.lst [.str "row", .str "column", .str "words", .str "blank", .str "flow", .str "grid", .str "pile", .str "words", .str "row", .str "column", .str "blank", .str "flow"])))
  have sR := same_upd hrl (.lst [])
  have hrl0 : H rl = none := by
    cases e : H rl with
    | none => rfl
    | some o => rw [sK _ _ (sH2 _ _ e)] at hrl; cases hrl
  have L0 : Lp K a st nl kl rl ns c H _ [] := ⟨(sH2.trans sK).trans sR, let ⟨z, x, y⟩ := m2.st; ⟨z, sR _ _ (sK _ _ x), y⟩, sq_same (sq_same (m2.seq off (sq_same hS s1)) sK) sR, off, sR _ _ (same_upd hkl _ _ _ e3), sR _ _ upd_same, ⟨upd_same, fun x hx => by cases hx⟩, ⟨by simp, fun i x h => by simp at h⟩⟩
  generalize upd (upd H3 kl (.lst [.str "row", .str "column", .str "words", .str "blank", .str "flow", .str "grid", .str "pile", .str "words", .str "row", .str "column", .str "blank", .str "flow"])) rl (.lst []) = H4 at L0 ⊢
  refine ⟨_, rfl, _, rfl, _, rfl, _, _, rfl, rfl, a, ns, _, rfl, L0.scr, hn, by omega, fun v2 => ⟨st, v2, rfl, L0.sta, fun r2 H5 r20 r21 m5 f5 => ⟨_, _, rfl, rfl, (by show (0 : Int) < 12; decide), _, _, rfl, rfl, _, rfl, by omega, by omega, for_range (n := (1 + r2 % 12).toNat)
    (fun i σ H' => ∃ (v6 v7 v8 v9 v10 v11 : Option V) (xs : List Lr), σ = [some (.ref a), some (.int at0), some (.ref st), some (.ref nl), some (.ref kl), some (.ref rl), v6, v7, v8, v9, v10, v11] ∧ Lp K a st nl kl rl ns c H H' xs ∧ xs.length = i) ⟨none, none, none, none, none, none, [], rfl, L0.ms hst m5, rfl⟩ ?_ ?_⟩⟩⟩
  · rintro i σ H6 hi ⟨v6, v7, v8, v9, v10, v11, xs, rfl, L, hl⟩
    refine ⟨_, rfl, _, rfl, _, rfl, _, _, rfl, rfl, _, rfl, _, _, rfl, rfl, (by show (0 : Int) < 5; decide), _, _, rfl, rfl, a, ns, _, rfl, L.scr, hn, by omega, fun v => ⟨st, v, rfl, L.sta, fun p H7 p0 p1 m7 f7 => ?_⟩⟩
    have L7 := L.ms hst m7
    have i12 : i < 12 := by omega
    refine ⟨_, rfl, _, rfl, by omega, by omega, blk_rng (n := (0 + (i : Int)).toNat) (fun j acc H' => ∃ hs : List Nat, acc = hs.map (fun h : Nat => V.int h) ∧ hs.length ≤ j ∧ j ≤ 12 ∧ (∀ h ∈ hs, ∃ x, xs[h]? = some x ∧ Hold x.r) ∧ Same H7 H') ⟨[], rfl, Nat.le_refl _, by omega, fun h z => (by cases z), .refl _⟩ (fun j acc H' z => ?_) (fun j acc H' R k hj z => ?_) fun acc H8 z => ?_⟩
    · obtain ⟨hs, rfl, h1, h2, _⟩ := z
      rw [List.length_map]; exact small1000 (by omega)
    · obtain ⟨hs, rfl, h1, h2, h3, s7⟩ := z
      have hj' : j < xs.length := by omega
      have ex : xs[j]? = some xs[j] := List.getElem?_eq_getElem hj'
      have L8 := L7.grow s7
      have rw8 := L8.rws.row xs[j] (List.getElem_mem hj')
      refine ⟨_, rfl, _, rfl, rl, _, _, _, rfl, rfl, .of L8.rws.lst, (by rw [Int.zero_add]; exact atI_row ex), xs[j].a, _, _, _, rfl, rfl, .of rw8.row, rfl, small (by simp), fun tl htl => ⟨tl, _, rfl, .inr (.of upd_same), rfl, rfl, _, rfl, ?_⟩⟩
      have s8 := same_upd htl (.tup [.str kBlank, .str kWords])
      have L9 := L8.grow s8
      have rw9 := L9.rws.row xs[j] (List.getElem_mem hj')
      have no : R (hs.map (fun h : Nat => V.int h)) (upd H' tl (.tup [.str kBlank, .str kWords])) := k _ _ ⟨hs, rfl, by omega, by omega, h3, s7.trans s8⟩
      refine ite2 (fun c1 => ?_) (fun c1 => iteF no)
      have hh := hold_of (k := xs[j].r.kind) c1
      refine ⟨_, rfl, _, rfl, rl, _, _, _, rfl, rfl, .of L9.rws.lst, (by rw [Int.zero_add]; exact atI_row ex), xs[j].a, _, _, .int xs[j].r.deep, rfl, rfl, .of rw9.row, rfl, _, _, rfl, rfl, _, rfl, ite2 (fun c2 => ?_) (fun c2 => no)⟩
      have hd : xs[j].r.deep < 8 := of_decide_eq_true c2
      refine ⟨_, rfl, k _ _ ⟨hs ++ [j], ?_, by simp; omega, by omega, fun h hm => ?_, s7.trans s8⟩⟩
      · rw [List.map_append, Int.zero_add]; rfl
      · rcases List.mem_append.mp hm with hm | hm
        · exact h3 h hm
        · rw [List.mem_singleton.mp hm]; exact ⟨_, ex, hh.1, hh.2, hd⟩
    · obtain ⟨hs, rfl, h1, h2, h3, s8⟩ := z
      intro hl2 hhl
      have L9 := (L7.grow s8).grow (same_upd hhl (.lst (hs.map fun h : Nat => V.int h)))
      have eh : upd H8 hl2 (.lst (hs.map fun h : Nat => V.int h)) hl2 = some (.lst (hs.map fun h : Nat => V.int h)) := upd_same
      generalize upd H8 hl2 (.lst (hs.map fun h : Nat => V.int h)) = H9 at L9 eh ⊢
      dsimp only [gName]; show tSeq _ _ _ _ _
      refine seq_joinI (fun σ' H' => σ' = [some (.ref a), some (.int at0), some (.ref st), some (.ref nl), some (.ref kl), some (.ref rl), some (.int (0 + (i : Int))), some (.int p), some (.ref hl2), v9, v10, v11] ∧ Lp K a st nl kl rl ns c H H' xs ∧ H' hl2 = some (.lst (hs.map fun h : Nat => V.int h)) ∧ (0 < i → hs ≠ [])) (fun N hN => ?_) ?_
      · refine ⟨_, rfl, _, _, rfl, rfl, _, rfl, ite2 (fun c1 => ?_) (fun c1 => iteF (hN _ _ ⟨rfl, L9, eh, fun z => absurd (decide_eq_true (by omega)) c1⟩))⟩
        have i0 : 0 < i := by
          have : (0 : Int) + (i : Int) > 0 := of_decide_eq_true c1
          omega
        refine ⟨_, rfl, small (by simp), fun el hel => ⟨hl2, el, _, rfl, rfl, .of (same_upd hel _ _ _ eh), .of upd_same, _, rfl, ite2 (fun c2 => ?_) (fun c2 => ?_)⟩⟩
        · have Lz := L9.grow (same_upd hel (.lst []))
          exact ⟨_, rfl, q rl xs c _ Lz.same Lz.rws Lz.ok (by omega)⟩
        · exact hN _ _ ⟨rfl, L9.grow (same_upd hel _), same_upd hel _ _ _ eh, fun _ z => c2 (decide_eq_true (by rw [z]; rfl))⟩
      rintro σ H10 ⟨rfl, L10, e10, hne⟩
      refine ⟨_, rfl, ?_⟩
      dsimp only [gName]; show tSeq _ _ _ _ _
      refine seq_joinI (fun σ' H' => ∃ ab : Int, σ' = [some (.ref a), some (.int at0), some (.ref st), some (.ref nl), some (.ref kl), some (.ref rl), some (.int (0 + (i : Int))), some (.int p), some (.ref hl2), some (.int ab), v10, v11] ∧ Lp K a st nl kl rl ns c H H' xs ∧ ((i = 0 ∧ ab = -1) ∨ ∃ (j : Nat) (x : Lr), j < i ∧ xs[j]? = some x ∧ ab = (j : Int) ∧ Hold x.r)) (fun N hN => ?_) ?_
      · refine ⟨_, rfl, _, _, rfl, rfl, _, rfl, ite2 (fun c1 => ?_) (fun c1 => hN _ _ ⟨-1, rfl, L10, .inl ⟨?_, rfl⟩⟩)⟩
        · have i0 : 0 < i := by
            have : (0 : Int) + (i : Int) > 0 := of_decide_eq_true c1
            omega
          have ln : 0 < hs.length := List.length_pos_iff.mpr (hne i0)
          have lm : (hs.map fun h : Nat => V.int h).length = hs.length := List.length_map _
          refine ⟨_, rfl, _, rfl, hl2, _, rfl, .inl (.of e10), _, _, rfl, rfl, _, rfl, _, _, rfl, rfl, ⟨by decide, by decide⟩, _, rfl, hl2, _, rfl, .inl (.of e10), _, _, rfl, rfl, (by show (0 : Int) < (((hs.map fun h : Nat => V.int h).length : Nat) : Int); omega), small (by simp), fun dl hdl => ?_⟩
          obtain ⟨u, hu, hu3⟩ := pick3 (x := (((hs.map fun h : Nat => V.int h).length : Nat) : Int) - 1) (y := 0) (z := p / 4 % (((hs.map fun h : Nat => V.int h).length : Nat) : Int)) (m := p % 4 % 3) (by omega) (by omega)
          have z0 := Int.emod_nonneg (p / 4) (show (((hs.map fun h : Nat => V.int h).length : Nat) : Int) ≠ 0 by omega)
          have z1 := Int.emod_lt_of_pos (p / 4) (show 0 < (((hs.map fun h : Nat => V.int h).length : Nat) : Int) by omega)
          have u0 : 0 ≤ u ∧ u < (((hs.map fun h : Nat => V.int h).length : Nat) : Int) := by rcases hu3 with h | h | h <;> omega
          obtain ⟨j, rfl⟩ := Int.eq_ofNat_of_zero_le u0.1
          have hj : j < hs.length := by omega
          obtain ⟨x, hx, hx2⟩ := h3 hs[j] (List.getElem_mem hj)
          refine ⟨_, rfl, _, _, rfl, rfl, (by show (0 : Int) < 4; decide), _, _, rfl, rfl, (by show (0 : Int) < 3; decide), dl, _, _, _, rfl, rfl, .of upd_same, hu, hl2, _, _, .int (hs[j] : Nat), rfl, rfl, .of (same_upd hdl _ _ _ e10), ?_, hN _ _ ⟨_, rfl, L10.grow (same_upd hdl _), .inr ⟨hs[j], x, ?_, hx, rfl, hx2⟩⟩⟩
          · exact atI_nat (by rw [List.getElem?_map, List.getElem?_eq_getElem hj]; rfl)
          · have := (List.getElem?_eq_some_iff.mp hx).1; omega
        · have h : ¬ ((0 : Int) + (i : Int) > 0) := fun z => c1 (decide_eq_true z)
          omega
      rintro σ H11 ⟨ab, rfl, L11, hab⟩
      obtain ⟨kd, hkd, ekd⟩ := kinds12 (m := p / 64 % 12) (by omega) (by omega)
      refine ⟨_, rfl, _, rfl, _, _, rfl, rfl, ⟨by decide, by decide⟩, _, _, rfl, rfl, (by show (0 : Int) < 12; decide), kl, _, _, _, rfl, rfl, .of L11.kl, ekd, ?_⟩
      dsimp only [gName]; show tSeq _ _ _ _ _
      refine seq_joinI (fun σ' H' => ∃ kd : Str, σ' = [some (.ref a), some (.int at0), some (.ref st), some (.ref nl), some (.ref kl), some (.ref rl), some (.int (0 + (i : Int))), some (.int p), some (.ref hl2), some (.int ab), some (.str kd), v11] ∧ Lp K a st nl kl rl ns c H H' xs ∧ kd ∈ kinds) (fun N hN => ?_) ?_
      · have no : N _ _ := hN _ _ ⟨kd, rfl, L11, hkd⟩
        refine ⟨_, rfl, rfl, _, rfl, ite2 (fun c1 => ?_) (fun c1 => iteF no)⟩
        refine ⟨_, rfl, _, _, rfl, rfl, ⟨by decide, by decide⟩, _, _, rfl, rfl, (by show (0 : Int) < 6; decide), _, _, rfl, rfl, _, rfl, ite2 (fun c2 => ?_) (fun c2 => no)⟩
        obtain ⟨k5, hk5, ek5⟩ := kinds5 (m := p / 64 % 5) (by omega) (by omega)
        exact ⟨small (by simp), fun dl hdl => ⟨_, rfl, _, _, rfl, rfl, ⟨by decide, by decide⟩, _, _, rfl, rfl, (by show (0 : Int) < 5; decide), dl, _, _, _, rfl, rfl, .of upd_same, ek5, hN _ _ ⟨k5, rfl, L11.grow (same_upd hdl _), hk5⟩⟩⟩
      rintro σ H12 ⟨kd, rfl, L12, hkd⟩
      refine seq_setC ?_
      show tSeq _ _ _ _ _
      refine seq_joinI (fun σ' H' => ∃ mo : Mo, σ' = [some (.ref a), some (.int at0), some (.ref st), some (.ref nl), some (.ref kl), some (.ref rl), some (.int (0 + (i : Int))), some (.int p), some (.ref hl2), some (.int ab), some (.str kd), some mo.v] ∧ Lp K a st nl kl rl ns c H H' xs ∧ ((kd = kWords ∧ ∃ ws, mo = .tx ws ∧ Wds ws) ∨ (kd ≠ kWords ∧ mo = .no))) (fun N hN => ?_) ?_
      · refine ⟨_, rfl, rfl, _, rfl, ite2 (fun c1 => ?_) (fun c1 => hN _ _ ⟨.no, rfl, L12, .inr ⟨fun z => c1 (decide_eq_true (by rw [z]; rfl)), rfl⟩⟩)⟩
        have ek : kd = kWords := by
          have := of_decide_eq_true c1
          injection this
        exact ⟨_, rfl, _, rfl, st, p, rfl, L12.sta, fun ws Hx mx hw => hN _ _ ⟨.tx ws, rfl, L12.ms hst mx, .inl ⟨ek, ws, rfl, hw⟩⟩⟩
      rintro σ H13 ⟨mo, rfl, L13, hmo⟩
      show tSeq _ _ _ _ _
      refine seq_joinI (fun σ' H' => ∃ mo : Mo, σ' = [some (.ref a), some (.int at0), some (.ref st), some (.ref nl), some (.ref kl), some (.ref rl), some (.int (0 + (i : Int))), some (.int p), some (.ref hl2), some (.int ab), some (.str kd), some mo.v] ∧ Lp K a st nl kl rl ns c H H' xs ∧ MoOk kd mo) (fun N hN => ?_) ?_
      · have nwg : kGrid ≠ kWords := by decide +kernel
        refine ⟨_, rfl, rfl, _, rfl, ite2 (fun c1 => ?_) (fun c1 => hN _ _ ⟨mo, rfl, L13, ?_⟩)⟩
        · have ek : kd = kGrid := by
            have := of_decide_eq_true c1
            injection this
          exact ⟨_, rfl, _, _, rfl, rfl, ⟨by decide, by decide⟩, _, _, rfl, rfl, (by show (0 : Int) < 9; decide), _, _, rfl, rfl, hN _ _ ⟨.nu (1 + p / 4096 % 9), rfl, L13, .inr (.inl ⟨ek, _, rfl, by omega, by omega⟩)⟩⟩
        · have ng : kd ≠ kGrid := fun z => c1 (decide_eq_true (by rw [z]; rfl))
          rcases hmo with h | ⟨h, e⟩
          · exact .inl h
          · exact .inr (.inr ⟨h, ng, e⟩)
      rintro σ H14 ⟨mo, rfl, L14, hmo⟩
      have ln : (nms c).length = 24 := by simp [nms]
      refine ⟨_, rfl, .inl ⟨rfl, _, .of L14.rws.lst⟩, _, rfl, _, rfl, _, rfl, nl, _, _, .str (nm c i), rfl, rfl, .of L14.nl, ?_, _, rfl, _, rfl, st, _, rfl, L14.sta, fun u H15 u0 u1 m15 f15 => ?_⟩
      · rw [Int.zero_add]
        refine atI_nat ?_
        rw [List.getElem?_map]
        unfold nms
        rw [List.getElem?_map, List.getElem?_range (by omega)]; rfl
      have L15 := L14.ms hst m15
      refine ⟨_, rfl, u, nl, nms c, rfl, L15.nl, ln, fun tt H16 htt s16 e16 => ?_⟩
      have L16 := L15.grow s16
      refine ⟨_, rfl, _, rfl, small (by simp), fun ra hra => ?_⟩
      have hrlH : H rl = none := hrl0
      have nar : ra ≠ rl := fun z => by rw [z, L16.rws.lst] at hra; cases hra
      have e17 : upd H16 ra (.lst [.str kd, .str (nm c i), .ref tt, mo.v, .int ab, .int 1]) rl = some (.lst (xs.map fun x => V.ref x.a)) := by rw [upd_ne nar.symm]; exact L16.rws.lst
      refine ⟨rl, _, _, rfl, rfl, e17, (by rw [List.length_map]; exact small1000 (by omega)), ?_⟩
      have tg : ∃ p, tgs u (nms c) = tgs p (nms c) := ⟨u, rfl⟩
      refine ⟨_, rfl, _, _, rfl, rfl, _, rfl, ite2 (fun c1 => ?_) (fun c1 => ?_)⟩
      · have c1' : ab ≥ 0 := of_decide_eq_true c1
        rcases hab with ⟨_, h⟩ | ⟨j, x, hj, hx, eab, hh⟩
        · omega
        subst eab
        have hxm : x ∈ xs := List.mem_of_getElem? hx
        have rx := L16.rws.row x hxm
        have xra : x.a ≠ ra := fun z => by rw [← z, rx.row] at hra; cases hra
        have xrl : x.a ≠ rl := fun z => by
          have h := rx.row
          rw [z, L16.rws.lst] at h
          injection h with h
          injection h with h
          cases xs with
          | nil => cases h
          | cons y ys => rw [List.map_cons] at h; injection h with h _; cases h
        refine ⟨_, rfl, _, rfl, rl, _, _, .ref x.a, rfl, rfl, .of upd_same, ?_, x.a, _, _, .int x.r.deep, rfl, rfl, .of (by rw [upd_ne xrl, upd_ne xra]; exact rx.row), rfl, _, _, rfl, rfl, _, rfl, _, rfl, rl, _, _, .ref ra, rfl, rfl, .of upd_same, ?_, ra, _, _, 5, rfl, rfl, (by rw [upd_ne nar, upd_same]), rfl, ?_⟩
        · refine atI_nat ?_
          rw [List.getElem?_append_left (by rw [List.length_map]; omega), List.getElem?_map, hx]; rfl
        · rw [Int.zero_add]
          refine atI_nat ?_
          rw [List.getElem?_append_right (by rw [List.length_map]; omega), List.length_map, hl, Nat.sub_self]; rfl
        · refine ⟨_, _, _, _, _, _, _, rfl, L16.snoc (r := ⟨kd, nm c i, tgs u (nms c), mo, (j : Int), x.r.deep + 1⟩) hS hrlH hra e16 (by omega) ⟨by rw [hl], hkd, hmo, tg, .inr ⟨j, x, by omega, hx, rfl, hh, rfl⟩⟩ (by rw [upd_same]; rfl) (by rw [upd_ne nar.symm, upd_same]) (fun b h1 h2 => by rw [upd_ne h1, upd_ne h2, upd_ne h1]), by simp; omega⟩
      · have c1' : ¬ ab ≥ 0 := fun z => c1 (decide_eq_true z)
        rcases hab with ⟨h, h'⟩ | ⟨j, x, hj, hx, eab, hh⟩
        · refine ⟨_, _, _, _, _, _, _, rfl, L16.snoc (r := ⟨kd, nm c i, tgs u (nms c), mo, ab, 1⟩) hS hrlH hra e16 (by omega) ⟨by rw [hl], hkd, hmo, tg, .inl ⟨by omega, h', rfl⟩⟩ ?_ upd_same (fun b h1 h2 => by rw [upd_ne h2, upd_ne h1]), by simp; omega⟩
          rw [upd_ne nar, upd_same]; rfl
        · omega
  · rintro σ H6 ⟨v6, v7, v8, v9, v10, v11, xs, rfl, L, hl⟩
    exact ⟨_, rfl, q rl xs c H6 L.same L.rws L.ok (by omega)⟩
end
end KP

set_option linter.all false
set_option maxHeartbeats 4000000
set_option maxRecDepth 100000
namespace KP
open PySem L2 PyProof.Rows
/-- a box -/
inductive Bx where
  | mk (kind name : Str) (tags : List Str) (more : Mo) (kids : List Bx) : Bx
/-- the tuple at a is this box -/
inductive IsBx (H : Hp) : Addr → Bx → Prop where
  | mk {a t ks : Addr} {kind name : Str} {tags : List Str} {more : Mo} {kids : List Bx} {as : List Addr} (box : H a = some (.tup [.str kind, .str name, .ref t, more.v, .ref ks])) (tg : H t = some (.tup (tags.map V.str)))
      (ks : H ks = some (.tup (as.map V.ref))) (n : as.length = kids.length) (k : ∀ (i : Nat) (b : Addr) (z : Bx), as[i]? = some b → kids[i]? = some z → IsBx H b z) : IsBx H a (.mk kind name tags more kids)
theorem IsBx.same {H H' : Hp} (s : Same H H') {a : Addr} {b : Bx} (h : IsBx H a b) : IsBx H' a b := by
  induction h with
  | mk h1 h2 h3 h4 h5 ih => exact .mk (s _ _ h1) (s _ _ h2) (s _ _ h3) h4 ih
/-- the rows that are about the k-th -/
def kidsAt (xs : List Lr) (k : Nat) : List Nat := (List.range xs.length).filter fun j => match xs[j]? with | some x => x.r.about == (k : Int) | none => false
theorem kidsAt_mem {xs : List Lr} {k j : Nat} : j ∈ kidsAt xs k ↔ ∃ x, xs[j]? = some x ∧ x.r.about = (k : Int) := by
  unfold kidsAt
  rw [List.mem_filter, List.mem_range]
  constructor
  · rintro ⟨h, e⟩
    rw [List.getElem?_eq_getElem h] at e
    exact ⟨_, List.getElem?_eq_getElem h, by simpa using e⟩
  · rintro ⟨x, hx, e⟩
    refine ⟨(List.getElem?_eq_some_iff.mp hx).1, ?_⟩
    rw [hx]
    simpa using e
theorem kidsAt_lt {c : Int} {xs : List Lr} (h : RwsOk c xs) {k j : Nat} (hj : j ∈ kidsAt xs k) : k < j ∧ j < xs.length := by
  obtain ⟨x, hx, e⟩ := kidsAt_mem.mp hj
  refine ⟨?_, (List.getElem?_eq_some_iff.mp hx).1⟩
  rcases (h.row j x hx).about with ⟨_, e2, _⟩ | ⟨i, y, hi, _, e2, _⟩ <;> omega
/-- the box of the k-th row; n: more than the rows behind it -/
def bx (xs : List Lr) : Nat → Nat → Bx
  | 0, _ => .mk Str.empty Str.empty [] .no []
  | n + 1, k => match xs[k]? with
    | some x => .mk x.r.kind x.r.name x.r.tags x.r.more ((kidsAt xs k).map (bx xs n))
    | none => .mk Str.empty Str.empty [] .no []
theorem bx_more {c : Int} {xs : List Lr} (h : RwsOk c xs) : ∀ (n m k : Nat), xs.length - k ≤ n → n ≤ m → k < xs.length → bx xs m k = bx xs n k
  | 0, _, k, h1, _, h3 => by omega
  | n + 1, 0, _, _, h2, _ => by omega
  | n + 1, m + 1, k, h1, h2, h3 => by
    unfold bx
    rw [List.getElem?_eq_getElem h3]
    have : (kidsAt xs k).map (bx xs m) = (kidsAt xs k).map (bx xs n) := List.map_congr_left fun j hj => by
      obtain ⟨a, b⟩ := kidsAt_lt h hj
      exact bx_more h n m j (by omega) (by omega) b
    simp only [this]
/-- the box of the k-th row -/
def bxOf (xs : List Lr) (k : Nat) : Bx := bx xs (xs.length - k) k
theorem bxOf_eq {c : Int} {xs : List Lr} (h : RwsOk c xs) {k : Nat} {x : Lr} (hx : xs[k]? = some x) : bxOf xs k = .mk x.r.kind x.r.name x.r.tags x.r.more ((kidsAt xs k).map (bxOf xs)) := by
  have hk := (List.getElem?_eq_some_iff.mp hx).1
  obtain ⟨n, hn⟩ : ∃ n, xs.length - k = n + 1 := ⟨xs.length - k - 1, by omega⟩
  have e : bxOf xs k = bx xs (n + 1) k := by unfold bxOf; rw [hn]
  have e2 : bx xs (n + 1) k = .mk x.r.kind x.r.name x.r.tags x.r.more ((kidsAt xs k).map (bx xs n)) := by rw [bx, hx]
  have : (kidsAt xs k).map (bx xs n) = (kidsAt xs k).map (bxOf xs) := List.map_congr_left fun j hj => by
    obtain ⟨a, b⟩ := kidsAt_lt h hj
    exact bx_more h _ _ j (Nat.le_refl _) (by omega) b
  rw [e, e2, this]
end KP

set_option linter.all false
set_option maxHeartbeats 4000000
set_option maxRecDepth 100000
namespace KP
open PySem L2 PyProof.Rows
def isKid (xs : List Lr) (k j : Nat) : Bool := match xs[j]? with | some x => x.r.about == (k : Int) | none => false
theorem isKid_at {xs : List Lr} {k j : Nat} {x : Lr} (h : xs[j]? = some x) : isKid xs k j = (x.r.about == (k : Int)) := by unfold isKid; rw [h]
section
variable {P : Program} {w : World} {K : PySem.W.Frag} {mg : Str → Option Value} {base : Heap} {A : Adr}
abbrev sc_l_box_0 : Scope := (match defBody s_l_box with | (.Assign _ (.ListComp _ _ sc _) _) :: _ => sc | _ => defScope s_l_box)
theorem blk_l_box_0 : Blk (defScope s_l_box) N_l_box sc_l_box_0 ["_law_j"] [0, 1] := ⟨rfl, by decide +kernel, by decide +kernel, by decide +kernel, by decide +kernel⟩
theorem nd_l_box_0 : (capN N_l_box ["_law_j"] [0, 1]).Nodup := by decide +kernel
def spBox (n : Nat) : Sp := fun vs H Q _ => ∃ (rl : Addr) (xs : List Lr) (c : Int) (k : Nat), vs = [.ref rl, .int (k : Int)] ∧ Rws H rl xs ∧ RwsOk c xs ∧ k < xs.length ∧ xs.length - k ≤ n ∧
  ∀ (a : Addr) (H' : Hp), Same H H' → IsBx H' a (bxOf xs k) → Q (.ref a) H'
seal PE PS PSs PA PT PI PG in
theorem box_step (T : Txt K mg A) (n : Nat) (G_l_box : FnOk P w K mg base CX0 n A.f_l_box A.d_l_box P_l_box (spBox n)) : FnOk P w K mg base CX0 (n + 1) A.f_l_box A.d_l_box P_l_box (spBox (n + 1)) := by
  refine T.F_l_box.ok sc_l_box (fun vs H Q E h => ?_) (fun cdv B outer s H vs Q E hr h => ?_)
  · obtain ⟨rl, xs, c, k, rfl, _⟩ := h; rfl
  obtain ⟨rl, xs, c, k, rfl, R, ok, hk, hn, q⟩ := h
  have n12 := ok.n
  refine ⟨_, @pss_cons _ _ _ _ _ (ps_setComp (i := 2) blk_l_box_0 rfl (pi_range1 rfl T.n_range (pa_cons (pe_callB call_len_seq rfl T.n_len b_len (pa_cons (pv 0) pa_nil)) pa_nil)) (fun _ _ _ _ _ => pg_name (i := 0) nd_l_box_0 rfl (.inl rfl)) (fun _ _ _ _ _ => pif_one (pt_cmpR op_eq (pe_ix (ix_listK (K := K) rfl) (pe_ix (ix_listK (K := K) rfl) (pv 1) (pv 0) (fun _ _ => rfl)) pe_int (fun _ _ => rfl)) (pv 2) (nomark _))) (fun _ _ _ _ _ => pe_call G_l_box hr rfl T.m_l_box T.F_l_box.kp T.b_l_box .nil pass0 (pa_cons (pv 1) (pa_cons (pv 0) pa_nil))) sc_l_box.nd rfl rfl)
    (pss_one (ps_ret (pe_op op_catT (pe_callTy call_tuple_of rfl T.n_tuple b_tuple (pa_cons (pe_slice sl_list (pe_ix ix_list (pv 0) (pv 1) (fun _ _ => rfl)) po_none (po_some pe_int)) pa_nil)) (pe_tup (pa_cons (pe_callTy call_tuple_of rfl T.n_tuple b_tuple (pa_cons (pv 2) pa_nil)) pa_nil))))), ?_⟩
  refine ⟨_, rfl, rl, _, rfl, .inl (.of R.lst), _, rfl, by omega, by rw [List.length_map]; omega, blk_rng (n := (((xs.map fun x => V.ref x.a).length : Nat) : Int).toNat) (fun j acc H' => ∃ as : List Addr, acc = as.map V.ref ∧ as.length = ((List.range j).filter (isKid xs k)).length ∧ (∀ (i : Nat) (b : Addr) (m : Nat), as[i]? = some b → ((List.range j).filter (isKid xs k))[i]? = some m → IsBx H' b (bxOf xs m)) ∧ Same H H' ∧ j ≤ 12)
    ⟨[], rfl, rfl, fun i b m h => by simp at h, .refl _, by omega⟩ (fun j acc H' z => ?_) (fun j acc H' N kk hj z => ?_) fun acc H' z => ?_⟩
  · obtain ⟨as, rfl, h1, _, _, h2⟩ := z
    rw [List.length_map, h1]
    have := List.length_filter_le (isKid xs k) (List.range j)
    rw [List.length_range] at this
    exact small1000 (by omega)
  · obtain ⟨as, rfl, h1, h3, s1, h2⟩ := z
    have hj' : j < xs.length := by simp at hj; omega
    have ex : xs[j]? = some xs[j] := List.getElem?_eq_getElem hj'
    have R1 := R.same s1
    have r1 := R1.row xs[j] (List.getElem_mem hj')
    have ef : (List.range (j + 1)).filter (isKid xs k) = (List.range j).filter (isKid xs k) ++ (if isKid xs k j then [j] else []) := by
      rw [List.range_succ, List.filter_append]
      congr 1
      by_cases e : isKid xs k j <;> simp [e]
    refine ⟨_, rfl, _, rfl, rl, _, _, _, rfl, rfl, .of R1.lst, (by rw [Int.zero_add]; exact atI_row ex), xs[j].a, _, _, .int xs[j].r.about, rfl, rfl, .of r1.row, rfl, _, rfl, rfl, _, rfl, ite2 (fun c1 => ?_) (fun c1 => ?_)⟩
    · have ea : xs[j].r.about = (k : Int) := by
        have := of_decide_eq_true c1
        injection this
      have ek : isKid xs k j = true := by rw [isKid_at ex, ea]; simp
      have hkj := kidsAt_lt ok (kidsAt_mem.mpr ⟨_, ex, ea⟩)
      rw [ek, if_pos rfl] at ef
      refine ⟨_, rfl, _, rfl, rl, xs, c, j, (by rw [Int.zero_add]; rfl), R1, ok, hj', by omega, fun a H2 s2 hb => kk _ _ ⟨as ++ [a], by rw [List.map_append]; rfl, ?_, ?_, s1.trans s2, by omega⟩⟩
      · rw [ef]; simp; omega
      · intro i b m hb' hm
        rw [ef] at hm
        rw [List.getElem?_append] at hb' hm
        rw [← h1] at hm
        split at hb'
        · rename_i hi
          rw [if_pos hi] at hm
          exact (h3 i b m hb' hm).same s2
        · rename_i hi
          rw [if_neg hi] at hm
          have i0 : i - as.length = 0 := by have := (List.getElem?_eq_some_iff.mp hb').1; simp at this; omega
          rw [i0] at hb' hm
          cases hb'
          cases hm
          exact hb
    · have ek : isKid xs k j = false := by
        rw [isKid_at ex]
        refine Bool.eq_false_iff.mpr fun e => c1 (decide_eq_true ?_)
        rw [show xs[j].r.about = (k : Int) by simpa using e]
      rw [ek] at ef
      simp at ef
      exact kk _ _ ⟨as, rfl, by rw [ef]; exact h1, by rw [ef]; exact h3, s1, by omega⟩
  · obtain ⟨as, rfl, h1, h3, s1, h2⟩ := z
    intro l hl
    have ex : xs[k]? = some xs[k] := List.getElem?_eq_getElem hk
    have e1 : upd H' l (.lst (as.map V.ref)) l = some (.lst (as.map V.ref)) := upd_same
    have s2 := s1.trans (same_upd hl (.lst (as.map V.ref)))
    have h3' : ∀ (i : Nat) (b : Addr) (m : Nat), as[i]? = some b → (kidsAt xs k)[i]? = some m → IsBx (upd H' l (.lst (as.map V.ref))) b (bxOf xs m) := fun i b m hb hm => (h3 i b m hb (by
      have e : (((xs.map fun x => V.ref x.a).length : Nat) : Int).toNat = xs.length := by simp
      rw [e]; exact hm)).same (same_upd hl _)
    have h1' : as.length = (kidsAt xs k).length := by
      have e : (((xs.map fun x => V.ref x.a).length : Nat) : Int).toNat = xs.length := by simp
      rw [e] at h1; exact h1
    generalize upd H' l (.lst (as.map V.ref)) = H2 at e1 s2 h3' ⊢
    have R2 := R.same s2
    have r2 := R2.row xs[k] (List.getElem_mem hk)
    refine ⟨_, rfl, _, rfl, rl, _, _, _, rfl, rfl, .of R2.lst, atI_row ex, 4, rfl, xs[k].a, _, rfl, .of r2.row, fun p hp => ⟨p, _, rfl, .inl ⟨.of upd_same, fun t1 ht1 => ?_⟩⟩⟩
    have c4 : cutV (xs[k].r.vs xs[k].t) none (some 4) = [.str xs[k].r.kind, .str xs[k].r.name, .ref xs[k].t, xs[k].r.more.v] := by rw [cut_take _ _ (by decide)]; rfl
    rw [c4] at ht1 ⊢
    have s3 := (same_upd hp (.lst [V.str xs[k].r.kind, .str xs[k].r.name, .ref xs[k].t, xs[k].r.more.v])).trans (same_upd ht1 (.tup [V.str xs[k].r.kind, .str xs[k].r.name, .ref xs[k].t, xs[k].r.more.v]))
    have et1 : upd (upd H2 p (.lst [V.str xs[k].r.kind, .str xs[k].r.name, .ref xs[k].t, xs[k].r.more.v])) t1 (.tup [V.str xs[k].r.kind, .str xs[k].r.name, .ref xs[k].t, xs[k].r.more.v]) t1 = some (.tup [V.str xs[k].r.kind, .str xs[k].r.name, .ref xs[k].t, xs[k].r.more.v]) := upd_same
    generalize upd (upd H2 p (.lst [V.str xs[k].r.kind, .str xs[k].r.name, .ref xs[k].t, xs[k].r.more.v])) t1 (.tup [V.str xs[k].r.kind, .str xs[k].r.name, .ref xs[k].t, xs[k].r.more.v]) = H3 at s3 et1 ⊢
    refine ⟨_, rfl, l, _, rfl, .inl ⟨.of (s3 _ _ e1), fun t2 ht2 => ⟨small (by simp), fun t3 ht3 => ?_⟩⟩⟩
    have s4 := same_upd ht2 (.tup (as.map V.ref))
    have s5 := same_upd ht3 (.tup [V.ref t2])
    refine ⟨t1, t3, _, _, rfl, rfl, .of (s5 _ _ (s4 _ _ et1)), .of upd_same, by simp, small (by simp), fun e => by simp at e, fun _ a ha => ?_⟩
    have s6 := same_upd ha (.tup ([V.str xs[k].r.kind, .str xs[k].r.name, .ref xs[k].t, xs[k].r.more.v] ++ [V.ref t2]))
    have sA := ((s3.trans s4).trans s5).trans s6
    refine q a _ (s2.trans sA) ?_
    rw [bxOf_eq ok ex]
    refine .mk (t := xs[k].t) (ks := t2) (as := as) upd_same (sA _ _ r2.tags) (s6 _ _ (s5 _ _ upd_same)) (by rw [List.length_map]; exact h1') fun i b z hb hz => ?_
    rw [List.getElem?_map] at hz
    cases em : (kidsAt xs k)[i]? with
    | none => rw [em] at hz; cases hz
    | some m =>
      rw [em] at hz
      cases hz
      exact (h3' i b m hb em).same sA
theorem ok_box (T : Txt K mg A) : ∀ n, FnOk P w K mg base CX0 n A.f_l_box A.d_l_box P_l_box (spBox n)
  | 0 => ⟨fun vs H Q E h => by obtain ⟨_, xs, _, k, _, _, _, h1, h2, _⟩ := h; omega, fun _ _ _ _ _ _ vs Q E _ _ _ _ h => by obtain ⟨_, xs, _, k, _, _, _, h1, h2, _⟩ := h; omega⟩
  | n + 1 => box_step T n (ok_box T n)
end
end KP

set_option linter.all false
set_option maxHeartbeats 4000000
set_option maxRecDepth 100000
namespace KP
open PySem L2 PyProof.Rows
/-- the rows from the k-th on, each ahead of those that are about it -/
def od (xs : List Lr) : Nat → Nat → List Nat
  | 0, _ => []
  | n + 1, k => k :: ((kidsAt xs k).map (od xs n)).flatten
def odOf (xs : List Lr) (k : Nat) : List Nat := od xs (xs.length - k) k
theorem kidsAt_pw (xs : List Lr) (k : Nat) : (kidsAt xs k).Pairwise (· < ·) := List.Pairwise.filter _ List.pairwise_lt_range
end KP

set_option linter.all false
set_option maxHeartbeats 4000000
set_option maxRecDepth 100000
namespace KP
open PySem L2 PyProof.Rows
theorem ite_no {c : Bool} {A B : Prop} (h : c = false) (b : B) : if c = true then A else B := by subst h; exact iteF b
theorem ite_yes {c : Bool} {A B : Prop} (h : c = true) (a : A) : if c = true then A else B := by subst h; exact iteT a
/-- two rows of things, each like its other -/
inductive F2 {α β : Type} (R : α → β → Prop) : List α → List β → Prop where
  | nil : F2 R [] []
  | cons {a : α} {b : β} {l : List α} {m : List β} (h : R a b) (t : F2 R l m) : F2 R (a :: l) (b :: m)
section
variable {α β : Type} {R S : α → β → Prop}
theorem F2.mono (h : ∀ a b, R a b → S a b) {l : List α} {m : List β} (x : F2 R l m) : F2 S l m := by
  induction x with
  | nil => exact .nil
  | cons r _ ih => exact .cons (h _ _ r) ih
theorem F2.len {l : List α} {m : List β} (x : F2 R l m) : l.length = m.length := by
  induction x with
  | nil => rfl
  | cons _ _ ih => rw [List.length_cons, List.length_cons, ih]
theorem F2.append {l l' : List α} {m m' : List β} (x : F2 R l m) (y : F2 R l' m') : F2 R (l ++ l') (m ++ m') := by
  induction x with
  | nil => exact y
  | cons r _ ih => exact .cons r ih
theorem F2.one {a : α} {b : β} (h : R a b) : F2 R [a] [b] := .cons h .nil
theorem F2.get {l : List α} {m : List β} (x : F2 R l m) : ∀ {i : Nat} {a : α} {b : β}, l[i]? = some a → m[i]? = some b → R a b := by
  induction x with
  | nil => intro i a b h; cases h
  | cons r _ ih =>
    intro i a b h1 h2
    cases i with
    | zero => cases h1; cases h2; exact r
    | succ i => exact ih (by simpa using h1) (by simpa using h2)
theorem F2.of : ∀ {l : List α} {m : List β}, l.length = m.length → (∀ (i : Nat) (a : α) (b : β), l[i]? = some a → m[i]? = some b → R a b) → F2 R l m
  | [], [], _, _ => .nil
  | [], _ :: _, h, _ => by cases h
  | _ :: _, [], h, _ => by cases h
  | a :: l, b :: m, h, k => .cons (k 0 a b rfl rfl) (F2.of (by simpa using h) fun i x y h1 h2 => k (i + 1) x y (by simpa using h1) (by simpa using h2))
theorem F2.last {l : List α} {m : List β} {b : β} (x : F2 R l (m ++ [b])) : ∃ l' a, l = l' ++ [a] ∧ F2 R l' m ∧ R a b := by
  induction m generalizing l with
  | nil =>
    cases x with
    | cons r t => cases t; exact ⟨[], _, rfl, .nil, r⟩
  | cons c m ih =>
    cases x with
    | cons r t =>
      obtain ⟨l', a, rfl, t', r'⟩ := ih t
      exact ⟨_ :: l', a, rfl, .cons r t', r'⟩
end
/-- the addresses hold the boxes of these rows -/
abbrev BxsAt (xs : List Lr) (H : Hp) (as : List Addr) (js : List Nat) : Prop := F2 (fun a j => IsBx H a (bxOf xs j)) as js
/-- what lies at a box -/
theorem IsBx.row {c : Int} {xs : List Lr} (ok : RwsOk c xs) {H : Hp} {a : Addr} {k : Nat} {x : Lr} (hx : xs[k]? = some x) (h : IsBx H a (bxOf xs k)) : ∃ (t ks : Addr) (as : List Addr), H a = some (.tup [.str x.r.kind, .str x.r.name, .ref t, x.r.more.v, .ref ks]) ∧ H t = some (.tup (x.r.tags.map V.str)) ∧ H ks = some (.tup (as.map V.ref)) ∧ BxsAt xs H as (kidsAt xs k) := by
  rw [bxOf_eq ok hx] at h
  cases h with
  | @mk _ t ks _ _ _ _ _ as h1 h2 h3 h4 h5 =>
    refine ⟨t, ks, as, h1, h2, h3, F2.of (by rw [h4, List.length_map]) fun i b j hb hj => h5 i b _ hb ?_⟩
    rw [List.getElem?_map, hj]; rfl
/-- the rows from the root to the k-th -/
def anc (xs : List Lr) : Nat → Nat → List Nat
  | 0, _ => []
  | n + 1, k => match xs[k]? with
    | some x => (if x.r.about < 0 then [] else anc xs n x.r.about.toNat) ++ [k]
    | none => []
theorem anc_more {c : Int} {xs : List Lr} (h : RwsOk c xs) : ∀ (n m k : Nat), k < n → n ≤ m → k < xs.length → anc xs m k = anc xs n k
  | 0, _, k, h1, _, _ => by omega
  | n + 1, 0, _, _, h2, _ => by omega
  | n + 1, m + 1, k, h1, h2, h3 => by
    have ex : xs[k]? = some xs[k] := List.getElem?_eq_getElem h3
    unfold anc
    rw [ex]
    dsimp only
    rcases (h.row k _ ex).about with ⟨_, e, _⟩ | ⟨j, y, hj, hy, e, _⟩
    · rw [e, if_pos (by decide), if_pos (by decide)]
    · rw [e, if_neg (by omega), if_neg (by omega), Int.toNat_natCast, anc_more h n m j (by omega) (by omega) (by omega)]
def ancOf (xs : List Lr) (k : Nat) : List Nat := anc xs (k + 1) k
theorem ancOf_kid {c : Int} {xs : List Lr} (h : RwsOk c xs) {j k : Nat} (hk : k ∈ kidsAt xs j) : ancOf xs k = ancOf xs j ++ [k] := by
  obtain ⟨x, hx, e⟩ := kidsAt_mem.mp hk
  obtain ⟨h1, h2⟩ := kidsAt_lt h hk
  unfold ancOf
  rw [show anc xs (k + 1) k = _ from by rw [anc, hx]]
  dsimp only
  rw [e, if_neg (by omega), Int.toNat_natCast, anc_more h (j + 1) k j (by omega) (by omega) (by omega)]
/-- how many are yet to come -/
def rest (xs : List Lr) (js : List Nat) : Nat := ((js.map (odOf xs)).flatten).length
/-- like things: n deep at most -/
def Lk (H : Hp) : Nat → V → V → Prop
  | 0, _, _ => False
  | n + 1, u, v => (u = v ∧ flatV u = true ∧ ∀ x, u ≠ .bl x) ∨ ∃ a b xs ys, u = .ref a ∧ v = .ref b ∧ ((H a = some (.tup xs) ∧ H b = some (.tup ys)) ∨ (H a = some (.lst xs) ∧ H b = some (.lst ys))) ∧ xs.length ≤ 10000 ∧ F2 (Lk H n) xs ys
theorem Lk.flat {H : Hp} {n : Nat} {v : V} (h : flatV v = true) (b : ∀ x, v ≠ .bl x) : Lk H (n + 1) v v := .inl ⟨rfl, h, b⟩
theorem Lk.tup {H : Hp} {n : Nat} {a b : Addr} {xs ys : List V} (ha : H a = some (.tup xs)) (hb : H b = some (.tup ys)) (l : xs.length ≤ 10000) (k : F2 (Lk H n) xs ys) : Lk H (n + 1) (.ref a) (.ref b) := .inr ⟨a, b, xs, ys, rfl, rfl, .inl ⟨ha, hb⟩, l, k⟩
theorem Lk.same {H H' : Hp} (s : Same H H') : ∀ {n : Nat} {u v : V}, Lk H n u v → Lk H' n u v
  | 0, _, _, h => h.elim
  | n + 1, _, _, h => h.imp id fun ⟨a, b, xs, ys, e1, e2, e3, l, k⟩ => ⟨a, b, xs, ys, e1, e2, e3.imp (fun z => ⟨s _ _ z.1, s _ _ z.2⟩) (fun z => ⟨s _ _ z.1, s _ _ z.2⟩), l, k.mono fun _ _ x => Lk.same s x⟩
theorem Lk.strs {H : Hp} {n : Nat} : ∀ (l : List Str), F2 (Lk H (n + 1)) (l.map V.str) (l.map V.str)
  | [] => .nil
  | _ :: l => .cons (Lk.flat rfl (fun _ e => by cases e)) (Lk.strs l)
theorem kidsAt_len (xs : List Lr) (k : Nat) : (kidsAt xs k).length ≤ xs.length := by
  unfold kidsAt
  have := List.length_filter_le (fun j => match xs[j]? with | some x => x.r.about == (k : Int) | none => false) (List.range xs.length)
  rw [List.length_range] at this
  exact this
end KP

set_option linter.all false
set_option maxHeartbeats 4000000
set_option maxRecDepth 100000
namespace KP
open PySem L2 PyProof.Rows
theorem app_list (a b : Str) : (a ++ b).cps.toList = a.cps.toList ++ b.cps.toList := Array.toList_append
theorem nm_list (c : Int) (k : Nat) : (nm c k).cps.toList = (List.replicate (nmP c).toNat mS.cps.toList).flatten ++ sgA.cps.toList.getD (nmJ c k) 0 :: (List.replicate (nmN c - 1 - nmP c).toNat mS.cps.toList).flatten := by
  unfold nm
  rw [app_list, app_list]
  unfold repS
  simp
theorem mS_list : mS.cps.toList = [109] := by decide +kernel
theorem nm_lst (c : Int) (k : Nat) : (nm c k).cps.toList = List.replicate (nmP c).toNat 109 ++ sgA.cps.toList.getD (nmJ c k) 0 :: List.replicate (nmN c - 1 - nmP c).toNat 109 := by
  rw [nm_list, mS_list]
  simp
theorem sgA_nd : ∀ p q : Fin 36, sgA.cps.toList.getD p.val 0 = sgA.cps.toList.getD q.val 0 → p = q := by decide +kernel
theorem nm_inj {c : Int} {i j : Nat} (hi : i < 24) (hj : j < 24) (e : nm c i = nm c j) : i = j := by
  have e2 : (nm c i).cps.toList = (nm c j).cps.toList := by rw [e]
  rw [nm_lst, nm_lst] at e2
  have e3 := List.append_cancel_left e2
  injection e3 with e4 _
  obtain ⟨a1, a2⟩ := nmJ_in c i
  obtain ⟨b1, b2⟩ := nmJ_in c j
  have e5 := congrArg Fin.val (sgA_nd ⟨_, a2⟩ ⟨_, b2⟩ e4)
  dsimp only at e5
  have e6 : (c / 64 + i) % nmM c = (c / 64 + j) % nmM c := by rw [a1, b1, e5]
  unfold nmM at e6
  split at e6 <;> omega
theorem nm_len (c : Int) (k : Nat) : (nm c k).length = (nmN c).toNat := by
  have e : (nm c k).length = (nm c k).cps.toList.length := (Array.length_toList).symm
  rw [e, nm_lst, List.length_append, List.length_replicate, List.length_cons, List.length_replicate]
  have h1 := nmN_in c
  have h2 := nmP_in c
  omega
def zzS : Str := "zzzzzzzz"
end KP

set_option linter.all false
set_option maxHeartbeats 4000000
set_option maxRecDepth 100000
namespace KP
open PySem L2 PyProof.Rows
/-- a thing that isn't changed any more -/
inductive Tr where
  | non : Tr
  | bl (b : Bool) : Tr
  | int (i : Int) : Tr
  | str (x : Str) : Tr
  | tup (l : List Tr) : Tr
  | lst (l : List Tr) : Tr
  | dic : Tr
/-- this value is that thing -/
inductive TrAt (H : Hp) : Tr → V → Prop where
  | non : TrAt H .non .non
  | bl (b : Bool) : TrAt H (.bl b) (.bl b)
  | int (i : Int) : TrAt H (.int i) (.int i)
  | str (x : Str) (h : x.length ≤ 400) : TrAt H (.str x) (.str x)
  | tup {a : Addr} {vs : List V} {l : List Tr} (e : H a = some (.tup vs)) (n : vs.length = l.length) (k : ∀ (i : Nat) (v : V) (t : Tr), vs[i]? = some v → l[i]? = some t → TrAt H t v) : TrAt H (.tup l) (.ref a)
  | lst {a : Addr} {vs : List V} {l : List Tr} (e : H a = some (.lst vs)) (n : vs.length = l.length) (k : ∀ (i : Nat) (v : V) (t : Tr), vs[i]? = some v → l[i]? = some t → TrAt H t v) : TrAt H (.lst l) (.ref a)
  | dic {a : Addr} (e : H a = some (.dK [])) : TrAt H .dic (.ref a)
theorem TrAt.same {H H' : Hp} (s : Same H H') {t : Tr} {v : V} (h : TrAt H t v) : TrAt H' t v := by
  induction h with
  | non => exact .non
  | bl b => exact .bl b
  | int i => exact .int i
  | str x h => exact .str x h
  | tup e n _ ih => exact .tup (s _ _ e) n ih
  | lst e n _ ih => exact .lst (s _ _ e) n ih
  | dic e => exact .dic (s _ _ e)
abbrev TrsAt (H : Hp) (l : List Tr) (vs : List V) : Prop := F2 (TrAt H) l vs
theorem TrsAt.same {H H' : Hp} (s : Same H H') {l : List Tr} {vs : List V} (h : TrsAt H l vs) : TrsAt H' l vs := h.mono fun _ _ x => x.same s
theorem TrAt.tup' {H : Hp} {a : Addr} {vs : List V} {l : List Tr} (e : H a = some (.tup vs)) (k : TrsAt H l vs) : TrAt H (.tup l) (.ref a) := .tup e k.len.symm fun _ _ _ h1 h2 => k.get h2 h1
theorem TrAt.lst' {H : Hp} {a : Addr} {vs : List V} {l : List Tr} (e : H a = some (.lst vs)) (k : TrsAt H l vs) : TrAt H (.lst l) (.ref a) := .lst e k.len.symm fun _ _ _ h1 h2 => k.get h2 h1
theorem TrAt.tupE {H : Hp} {v : V} {l : List Tr} (h : TrAt H (.tup l) v) : ∃ a vs, v = .ref a ∧ H a = some (.tup vs) ∧ TrsAt H l vs := by
  cases h with
  | tup e n k => exact ⟨_, _, rfl, e, F2.of n.symm fun i t v h1 h2 => k i v t h2 h1⟩
def tyT : Tr → String
  | .non => "NoneType"
  | .bl _ => "bool"
  | .int _ => "int"
  | .str _ => "str"
  | .tup _ => "tuple"
  | .lst _ => "list"
  | .dic => "dict"
theorem TrAt.is {K : PySem.W.Frag} {H : Hp} {t : Tr} {v : V} (h : TrAt H t v) : Is K H v (tyT t) := by
  cases h with
  | non => exact .non
  | bl b => exact .bl b
  | int i => exact .int i
  | str x _ => exact .str x
  | tup e _ _ => exact .tup e
  | lst e _ _ => exact .lst e
  | dic e => exact .dK e
/-- this sign stands in that text -/
def signIn (z : Str) (c : Nat) : Bool := !(Builtin.Str.occurrences z ⟨#[c]⟩ 0 z.length 1).isEmpty
def hasOnly (x z : Str) : Bool := x.cps.toList.all (signIn z)
def sgLet : Str := "abcdefghijklmnopqrstuvwxyz"
def sgNam : Str := "abcdefghijklmnopqrstuvwxyz0123456789"
def sgTxt : Str := "ABCDEFGHIJKLMNOPQRSTUVWXYZabcdefghijklmnopqrstuvwxyz0123456789"
abbrev bl1 : Str := WM.bl
def numT : Tr → Bool
  | .int i => decide (0 ≤ i)
  | _ => false
def withinT (t : Tr) (a b : Int) : Bool := match t with
  | .int i => decide (0 ≤ i) && (decide (a ≤ i) && decide (i ≤ b))
  | _ => false
def nameS (x : Str) : Bool := (decide (1 ≤ (x.length : Int)) && decide ((x.length : Int) ≤ 8)) && (signIn sgLet (x.cps.toList.getD 0 0) && hasOnly x sgNam)
def nameT : Tr → Bool
  | .str x => nameS x
  | _ => false
def kindsP : List Str := ["blank", "words", "row", "flow", "column", "grid", "pile"]
def kidless : List Str := ["blank", "words"]
def kindT : Tr → Bool
  | .str x => kindsP.any fun y => y == x
  | _ => false
def strOf : Tr → Str
  | .str x => x
  | _ => Str.empty
def tagsT : Tr → Bool
  | .tup l => decide (l.length ≤ 4) && (l.all nameT && decide (manyS (l.map strOf) = l.length))
  | _ => false
def wordS (x : Str) : Bool := (decide (1 ≤ (x.length : Int)) && decide ((x.length : Int) ≤ 20)) && hasOnly x sgTxt
def wtextS (x : Str) : Bool := decide ((x.length : Int) ≤ 80) && (decide (x = Str.empty) || (Txt.split x bl1).all wordS)
def wtextT : Tr → Bool
  | .str x => wtextS x
  | _ => false
def nonT : Tr → Bool
  | .non => true
  | _ => false
def moreT (k : Str) (m : Tr) : Bool := if k = "words" then wtextT m else if k = "grid" then withinT m 1 9 else nonT m
def kidsT (k : Str) : Tr → Bool
  | .tup l => decide (l.length ≤ if (kidless.any fun y => y == k) = true then 0 else 12)
  | _ => false
def aloneT : Tr → Bool
  | .tup [k, n, tg, m, ks] => kindT k && nameT n && tagsT tg && (moreT (strOf k) m && kidsT (strOf k) ks)
  | _ => false
/-- its name, its kids -/
def nameOf : Tr → Str
  | .tup [_, n, _, _, _] => strOf n
  | _ => Str.empty
def kidsOf : Tr → List Tr
  | .tup [_, _, _, _, .tup l] => l
  | _ => []
/-- the walk over what waits, the last first -/
def runT : Nat → List (Tr × Nat) → List Str → Bool
  | 0, _, _ => false
  | _ + 1, [], _ => true
  | n + 1, (t, d) :: st, ns => if aloneT t && decide (d ≤ 8) && !ns.contains (nameOf t) && decide (ns.length < 40) then runT n ((kidsOf t).reverse.map (fun k => (k, d + 1)) ++ st) (nameOf t :: ns) else false
def docT (t : Tr) : Bool := runT 42 [(t, 1)] []
end KP

set_option linter.all false
set_option maxHeartbeats 4000000
set_option maxRecDepth 100000
namespace KP
open PySem L2 PyProof.Rows
theorem b_str : bootBuiltins "str" = some (.type "str") := by decide +kernel
theorem b_set : bootBuiltins "set" = some (.type "set") := by decide +kernel
theorem join_ge : ∀ (l : List Str), l.length ≤ (Str.join bl1 l).length + 1
  | [] => by simp
  | [x] => by simp
  | x :: y :: r => by
    have h := join_ge (y :: r)
    have e : Str.join bl1 (x :: y :: r) = x ++ bl1 ++ Str.join bl1 (y :: r) := rfl
    rw [e, Str.length_append, Str.length_append]
    have b1 : bl1.length = 1 := by decide +kernel
    rw [List.length_cons] at h
    rw [List.length_cons, List.length_cons]
    omega
theorem split_len (x : Str) : (Txt.split x bl1).length ≤ x.length + 1 := by
  have h := join_ge (Txt.split x bl1)
  rw [StrLaws.join_split] at h
  exact h
section
variable {P : Program} {w : World} {K : PySem.W.Frag} {mg : Str → Option Value} {base : Heap} {A : Adr}
def spNumT : Sp := fun vs H Q _ => ∃ (v : V) (t : Tr), vs = [v] ∧ TrAt H t v ∧ Q (.bl (numT t)) H
seal PE PS PSs PA PT PI PG in
theorem ok_is_number (T : Txt K mg A) : FnOk P w K mg base CX0 1 A.f_is_number A.d_is_number P_is_number spNumT := by
  refine T.F_is_number.ok sc_is_number (fun vs H Q E h => ?_) (fun cdv B outer s H vs Q E hr h => ?_)
  · obtain ⟨v, t, rfl, _⟩ := h; rfl
  obtain ⟨v, t, rfl, h, q⟩ := h
  refine ⟨_, pss_one (ps_ret (pe_and (pe_callB call_isi rfl T.n_isinstance b_isinstance (pa_cons (pv 0) (pa_cons (pe_bltn rfl T.n_int b_int (v := .ty "int") rfl) pa_nil))) (pe_and (pe_not (pe_callB call_isi rfl T.n_isinstance b_isinstance (pa_cons (pv 0) (pa_cons (pe_bltn rfl T.n_bool b_bool (v := .ty "bool") rfl) pa_nil)))) (pe_one (pe_cmpR op_ge (pv 0) pe_int (nomark _)))))), ?_⟩
  have I := h.is (K := K)
  refine ⟨_, rfl, v, "int", _, _, rfl, I.ty, I.kit T.kit "int", _, rfl, ?_⟩
  cases h with
  | int i => exact iteT ⟨_, rfl, _, "bool", _, _, rfl, I.ty, I.kit T.kit "bool", _, rfl, _, rfl, iteT ⟨_, rfl, _, _, rfl, rfl, q⟩⟩
  | bl b => exact iteT ⟨_, rfl, _, "bool", _, _, rfl, I.ty, I.kit T.kit "bool", _, rfl, _, rfl, iteF q⟩
  | non => exact iteF q
  | str x _ => exact iteF q
  | tup e n k => exact iteF q
  | lst e n k => exact iteF q
  | dic e => exact iteF q
def spWithin : Sp := fun vs H Q _ => ∃ (v : V) (t : Tr) (a b : Int), vs = [v, .int a, .int b] ∧ TrAt H t v ∧ Q (.bl (withinT t a b)) H
seal PE PS PSs PA PT PI PG in
theorem ok_is_within (T : Txt K mg A) : FnOk P w K mg base CX0 2 A.f_is_within A.d_is_within P_is_within spWithin := by
  have G_is_number := ok_is_number (P := P) (w := w) (base := base) T
  refine T.F_is_within.ok sc_is_within (fun vs H Q E h => ?_) (fun cdv B outer s H vs Q E hr h => ?_)
  · obtain ⟨v, t, a, b, rfl, _⟩ := h; rfl
  obtain ⟨v, t, a, b, rfl, h, q⟩ := h
  refine ⟨_, pss_one (ps_ret (pe_and (pe_call G_is_number hr rfl T.m_is_number T.F_is_number.kp T.b_is_number .nil pass0 (pa_cons (pv 0) pa_nil)) (pe_one (pe_chain op_le op_le (pv 1) (pv 0) (pv 2))))), ?_⟩
  refine ⟨_, rfl, v, t, rfl, h, _, rfl, ?_⟩
  cases h with
  | int i =>
    by_cases h0 : 0 ≤ i
    · refine ite_yes (decide_eq_true h0) ⟨_, rfl, _, rfl, _, _, rfl, rfl, _, rfl, ?_⟩
      have e : withinT (.int i) a b = (decide (a ≤ i) && decide (i ≤ b)) := by
        show (decide (0 ≤ i) && (decide (a ≤ i) && decide (i ≤ b))) = _
        rw [decide_eq_true h0, Bool.true_and]
      rw [e] at q
      by_cases h1 : a ≤ i
      · refine ite_yes (decide_eq_true h1) ⟨_, rfl, _, _, rfl, rfl, ?_⟩
        rw [decide_eq_true h1, Bool.true_and] at q
        exact q
      · refine ite_no (decide_eq_false h1) ?_
        rw [decide_eq_false h1, Bool.false_and] at q
        exact q
    · refine ite_no (decide_eq_false h0) ?_
      have e : withinT (.int i) a b = false := by
        show (decide (0 ≤ i) && (decide (a ≤ i) && decide (i ≤ b))) = _
        rw [decide_eq_false h0, Bool.false_and]
      rw [e] at q
      exact q
  | bl b => exact iteF q
  | non => exact iteF q
  | str x _ => exact iteF q
  | tup e n k => exact iteF q
  | lst e n k => exact iteF q
  | dic e => exact iteF q
abbrev sc_has_only_0 : Scope := (match defBody s_has_only with | (.Return (some (.Call _ ((.ListComp _ _ sc _) :: _) _ _)) _) :: _ => sc | _ => defScope s_has_only)
theorem blk_has_only_0 : Blk (defScope s_has_only) N_has_only sc_has_only_0 ["sign"] [1] := ⟨rfl, by decide +kernel, by decide +kernel, by decide +kernel, by decide +kernel⟩
theorem nd_has_only_0 : (capN N_has_only ["sign"] [1]).Nodup := by decide +kernel
def spOnly : Sp := fun vs H Q _ => ∃ x z : Str, vs = [.str x, .str z] ∧ x.length ≤ 400 ∧ ∀ H', Same H H' → Q (.bl (hasOnly x z)) H'
seal PE PS PSs PA PT PI PG in
theorem ok_has_only (T : Txt K mg A) : FnOk P w K mg base CX0 1 A.f_has_only A.d_has_only P_has_only spOnly := by
  refine T.F_has_only.ok sc_has_only (fun vs H Q E h => ?_) (fun cdv B outer s H vs Q E hr h => ?_)
  · obtain ⟨x, z, rfl, _⟩ := h; rfl
  obtain ⟨x, z, rfl, hx, q⟩ := h
  refine ⟨_, pss_one (ps_ret (pe_callB (call_all rfl) rfl T.n_all b_all (pa_cons (pe_comp blk_has_only_0 rfl (pi_strC (pv 0)) (fun _ _ _ _ _ => pg_name (i := 0) nd_has_only_0 rfl (.inl rfl)) (fun _ _ _ _ _ => pif_nil) (fun _ _ _ _ _ => pe_cmpR op_in_str (pv 0) (pv 1) rfl)) pa_nil))), ?_⟩
  refine ⟨_, rfl, x, rfl, blk_str (fun c => V.bl (signIn z c)) (small1000 (show x.cps.size ≤ 1000 from Nat.le_trans hx (by decide))) (fun c Q hQ => ⟨_, rfl, _, rfl, _, _, rfl, rfl, hQ⟩) fun l hl => ?_⟩
  refine ⟨l, x.cps.toList.map (signIn z), rfl, .of (by rw [upd_same, List.map_map]; rfl), ?_⟩
  have e : (x.cps.toList.map (signIn z)).all id = hasOnly x z := by unfold hasOnly; rw [List.all_map]; rfl
  rw [e]
  exact q _ (same_upd hl _)
def spIsName : Sp := fun vs H Q _ => ∃ (v : V) (t : Tr), vs = [v] ∧ TrAt H t v ∧ ∀ H', Same H H' → Q (.bl (nameT t)) H'
seal PE PS PSs PA PT PI PG in
theorem ok_is_name (T : Txt K mg A) : FnOk P w K mg base CX0 2 A.f_is_name A.d_is_name P_is_name spIsName := by
  have G_has_only := ok_has_only (P := P) (w := w) (base := base) T
  obtain ⟨t1, hg_MOST_NAME_SIGNS⟩ := T.g_MOST_NAME_SIGNS
  obtain ⟨t2, hg_LETTERS⟩ := T.g_LETTERS
  obtain ⟨t3, hg_NAME_SIGNS⟩ := T.g_NAME_SIGNS
  refine T.F_is_name.ok sc_is_name (fun vs H Q E h => ?_) (fun cdv B outer s H vs Q E hr h => ?_)
  · obtain ⟨v, t, rfl, _⟩ := h; rfl
  obtain ⟨v, t, rfl, h, q⟩ := h
  refine ⟨_, @pss_cons _ _ _ _ _ (ps_if (PW.pt (pw_or (pt_not (pt_val (pe_callB call_isi rfl T.n_isinstance b_isinstance (pa_cons (pv 0) (pa_cons (pe_bltn rfl T.n_str b_str (v := .ty "str") rfl) pa_nil))))) (pw_or1 (pt_not (pt_chain op_le op_le pe_int (pe_callB call_len_str rfl T.n_len b_len (pa_cons (pv 0) pa_nil)) (pe_glob rfl hg_MOST_NAME_SIGNS (v := .int 8) ⟨_, rfl⟩)))))) (pss_one (ps_ret pe_bl)) pss_nil)
    (pss_one (ps_ret (pe_and (pe_cmpR op_in_str (pe_ix ix_str (pv 0) pe_int (fun _ _ => rfl)) (pe_glob rfl hg_LETTERS (v := .str "abcdefghijklmnopqrstuvwxyz") ⟨_, rfl⟩) rfl) (pe_one (pe_call G_has_only hr rfl T.m_has_only T.F_has_only.kp T.b_has_only .nil pass0 (pa_cons (pv 0) (pa_cons (pe_glob rfl hg_NAME_SIGNS (v := .str "abcdefghijklmnopqrstuvwxyz0123456789") ⟨_, rfl⟩) pa_nil))))))), ?_⟩
  have I := h.is (K := K)
  refine ⟨_, rfl, v, "str", _, _, rfl, I.ty, I.kit T.kit "str", _, rfl, ?_⟩
  cases h with
  | str x hx =>
    have sz : x.length ≤ sizeLine := small (by omega)
    refine iteF ⟨_, rfl, x, rfl, sz, _, _, rfl, rfl, _, rfl, ?_⟩
    by_cases h1 : 1 ≤ (x.length : Int)
    · refine ite_yes (decide_eq_true h1) ⟨_, _, rfl, rfl, _, rfl, ?_⟩
      by_cases h8 : (x.length : Int) ≤ 8
      · refine ite_no (by show (!decide ((x.length : Int) ≤ 8)) = false; rw [decide_eq_true h8]; rfl) ?_
        have e : nameT (.str x) = (signIn sgLet (x.cps.toList.getD 0 0) && hasOnly x sgNam) := by
          show ((decide (1 ≤ (x.length : Int)) && decide ((x.length : Int) ≤ 8)) && (signIn sgLet (x.cps.toList.getD 0 0) && hasOnly x sgNam)) = _
          rw [decide_eq_true h1, decide_eq_true h8, Bool.true_and, Bool.true_and]
        rw [e] at q
        have hl : 0 < x.cps.toList.length := by rw [Array.length_toList]; show 0 < x.length; omega
        refine ⟨_, rfl, x, _, x.cps.toList.getD 0 0, rfl, rfl, sz, ?_, _, _, rfl, rfl, _, rfl, ?_⟩
        · refine atI_nat (j := 0) ?_
          rw [List.getD_eq_getElem?_getD, List.getElem?_eq_getElem hl]; rfl
        · show if signIn sgLet (x.cps.toList.getD 0 0) = true then _ else _
          cases hs : signIn sgLet (x.cps.toList.getD 0 0) with
          | true =>
            rw [hs, Bool.true_and] at q
            exact iteT ⟨_, rfl, x, sgNam, rfl, hx, q⟩
          | false =>
            rw [hs, Bool.false_and] at q
            exact iteF (q _ (.refl _))
      · refine ite_yes (by show (!decide ((x.length : Int) ≤ 8)) = true; rw [decide_eq_false h8]; rfl) ?_
        have e : nameT (.str x) = false := by
          show ((decide (1 ≤ (x.length : Int)) && decide ((x.length : Int) ≤ 8)) && (signIn sgLet (x.cps.toList.getD 0 0) && hasOnly x sgNam)) = _
          rw [decide_eq_false h8, Bool.and_false, Bool.false_and]
        rw [e] at q
        exact q _ (.refl _)
    · refine ite_no (decide_eq_false h1) ⟨_, rfl, iteT ?_⟩
      have e : nameT (.str x) = false := by
        show ((decide (1 ≤ (x.length : Int)) && decide ((x.length : Int) ≤ 8)) && (signIn sgLet (x.cps.toList.getD 0 0) && hasOnly x sgNam)) = _
        rw [decide_eq_false h1, Bool.false_and, Bool.false_and]
      rw [e] at q
      exact q _ (.refl _)
  | int i => exact iteT (iteT (q _ (.refl _)))
  | bl b => exact iteT (iteT (q _ (.refl _)))
  | non => exact iteT (iteT (q _ (.refl _)))
  | tup e n k => exact iteT (iteT (q _ (.refl _)))
  | lst e n k => exact iteT (iteT (q _ (.refl _)))
  | dic e => exact iteT (iteT (q _ (.refl _)))
end
end KP

set_option linter.all false
set_option maxHeartbeats 4000000
set_option maxRecDepth 100000
namespace KP
open PySem L2 PyProof.Rows
theorem inV_str (x : Str) : ∀ ss : List Str, inV (.str x) (ss.map V.str) = ss.any fun y => y == x
  | [] => rfl
  | s :: ss => by
    show (eqV (.str s) (.str x) || inV (.str x) (ss.map V.str)) = _
    rw [inV_str x ss, List.any_cons]; rfl
theorem flat_strs : ∀ ss : List Str, (ss.map V.str).all flatV = true
  | [] => rfl
  | _ :: ss => by rw [List.map_cons, List.all_cons, flat_strs ss]; rfl
section
variable {P : Program} {w : World} {K : PySem.W.Frag} {mg : Str → Option Value} {base : Heap} {A : Adr}
def spIsKind : Sp := fun vs H Q _ => ∃ (v : V) (t : Tr), vs = [v] ∧ TrAt H t v ∧ Q (.bl (kindT t)) H
seal PE PS PSs PA PT PI PG in
theorem ok_is_kind (T : Txt K mg A) : FnOk P w K mg base CX0 1 A.f_is_kind A.d_is_kind P_is_kind spIsKind := by
  obtain ⟨a_KINDS, hg_KINDS, hq⟩ := T.g_KINDS
  refine T.F_is_kind.ok sc_is_kind (fun vs H Q E h => ?_) (fun cdv B outer s H vs Q E hr h => ?_)
  · obtain ⟨v, t, rfl, _⟩ := h; rfl
  obtain ⟨v, t, rfl, h, q⟩ := h
  refine ⟨_, pss_one (ps_ret (pe_and (pe_callB call_isi rfl T.n_isinstance b_isinstance (pa_cons (pv 0) (pa_cons (pe_bltn rfl T.n_str b_str (v := .ty "str") rfl) pa_nil))) (pe_one (pe_cmpR op_in_seq (pv 0) (pe_glob rfl hg_KINDS (v := .ref a_KINDS) rfl) rfl)))), ?_⟩
  have I := h.is (K := K)
  refine ⟨_, rfl, v, "str", _, _, rfl, I.ty, I.kit T.kit "str", _, rfl, ?_⟩
  cases h with
  | str x _ =>
    refine iteT ⟨_, rfl, a_KINDS, _, rfl, .inr (tupIn_sq hq H), rfl, flat_strs _, ?_⟩
    rw [if_neg (by decide), inV_str]
    exact q
  | int i => exact iteF q
  | bl b => exact iteF q
  | non => exact iteF q
  | tup e n k => exact iteF q
  | lst e n k => exact iteF q
  | dic e => exact iteF q
theorem strs_at {H : Hp} : ∀ {l : List Tr} {vs : List V}, TrsAt H l vs → l.all nameT = true → vs = (l.map strOf).map V.str
  | [], _, .nil, _ => rfl
  | t :: l, _, .cons h k, ha => by
    rw [List.all_cons, Bool.and_eq_true] at ha
    cases h with
    | str x _ => rw [List.map_cons, List.map_cons, ← strs_at k ha.2]; rfl
    | int i => cases ha.1
    | bl b => cases ha.1
    | non => cases ha.1
    | tup e n k => cases ha.1
    | lst e n k => cases ha.1
    | dic e => cases ha.1
abbrev sc_are_tags_0 : Scope := (match defBody s_are_tags with | _ :: (.Return (some (.BoolOp _ ((.Call _ ((.ListComp _ _ sc _) :: _) _ _) :: _) _)) _) :: _ => sc | _ => defScope s_are_tags)
theorem blk_are_tags_0 : Blk (defScope s_are_tags) N_are_tags sc_are_tags_0 ["tag"] [] := ⟨rfl, by decide +kernel, by decide +kernel, by decide +kernel, by decide +kernel⟩
theorem nd_are_tags_0 : (capN N_are_tags ["tag"] []).Nodup := by decide +kernel
def spAreTags : Sp := fun vs H Q _ => ∃ (v : V) (t : Tr), vs = [v] ∧ TrAt H t v ∧ ∀ H', Same H H' → Q (.bl (tagsT t)) H'
seal PE PS PSs PA PT PI PG in
theorem ok_are_tags (T : Txt K mg A) : FnOk P w K mg base CX0 3 A.f_are_tags A.d_are_tags P_are_tags spAreTags := by
  have G_is_name := ok_is_name (P := P) (w := w) (base := base) T
  obtain ⟨t1, hg_MOST_TAGS⟩ := T.g_MOST_TAGS
  refine T.F_are_tags.ok sc_are_tags (fun vs H Q E h => ?_) (fun cdv B outer s H vs Q E hr h => ?_)
  · obtain ⟨v, t, rfl, _⟩ := h; rfl
  obtain ⟨v, t, rfl, h, q⟩ := h
  refine ⟨_, @pss_cons _ _ _ _ _ (ps_if (PW.pt (pw_or (pt_not (pt_val (pe_callB call_isi rfl T.n_isinstance b_isinstance (pa_cons (pv 0) (pa_cons (pe_bltn rfl T.n_tuple b_tuple (v := .ty "tuple") rfl) pa_nil))))) (pw_or1 (pt_cmpR op_gt (pe_callB call_len_seq rfl T.n_len b_len (pa_cons (pv 0) pa_nil)) (pe_glob rfl hg_MOST_TAGS (v := .int 4) ⟨_, rfl⟩) (nomark _))))) (pss_one (ps_ret pe_bl)) pss_nil)
    (pss_one (ps_ret (pe_and (pe_callB (call_all rfl) rfl T.n_all b_all (pa_cons (pe_comp blk_are_tags_0 rfl (pi_seq (pv 0)) (fun _ _ _ _ _ => pg_name (i := 0) nd_are_tags_0 rfl (.inl rfl)) (fun _ _ _ _ _ => pif_nil) (fun _ _ _ _ _ => pe_call G_is_name hr rfl T.m_is_name T.F_is_name.kp T.b_is_name .nil pass0 (pa_cons (pv 0) pa_nil))) pa_nil)) (pe_one (pe_cmpR op_eq (pe_lenSet rfl T.n_len b_len rfl T.n_set b_set (pv 0)) (pe_callB call_len_seq rfl T.n_len b_len (pa_cons (pv 0) pa_nil)) (nomark _)))))), ?_⟩
  have I := h.is (K := K)
  refine ⟨_, rfl, v, "tuple", _, _, rfl, I.ty, I.kit T.kit "tuple", _, rfl, ?_⟩
  cases t with
  | tup l =>
    obtain ⟨a, vs, rfl, ea, k⟩ := h.tupE
    have lk := k.len
    refine iteF ⟨_, rfl, a, vs, rfl, .inr (.of ea), _, _, rfl, rfl, _, rfl, ?_⟩
    by_cases h4 : l.length ≤ 4
    · refine ite_no (decide_eq_false (by omega)) ?_
      have eT : tagsT (.tup l) = (l.all nameT && decide (manyS (l.map strOf) = l.length)) := by
        show (decide (l.length ≤ 4) && _) = _
        rw [decide_eq_true h4, Bool.true_and]
      rw [eT] at q
      refine ⟨_, rfl, a, rfl, .inr ⟨⟨_, .of ea⟩, blk_tup (xs := vs) (fun i acc H' => acc = ((l.take i).map fun t => V.bl (nameT t)) ∧ Same H H') ⟨rfl, .refl _⟩ (fun i acc H' z => .of (z.2 _ _ ea)) (fun i acc H' z => ?_) (fun i x acc H' N kk hx z => ?_) fun acc H' z => ?_⟩⟩
      · rw [z.1, List.length_map, List.length_take]; exact small1000 (by omega)
      · obtain ⟨rfl, s1⟩ := z
        dsimp only [tYes]
        rw [if_pos rfl]
        have hi : i < l.length := by have := (List.getElem?_eq_some_iff.mp hx).1; omega
        have et : l[i]? = some l[i] := List.getElem?_eq_getElem hi
        refine ⟨_, rfl, x, l[i], rfl, (k.get et hx).same s1, fun H2 s2 => kk _ _ ⟨?_, s1.trans s2⟩⟩
        rw [List.take_add_one, et, List.map_append]; rfl
      · obtain ⟨rfl, s1⟩ := z
        rw [← lk, List.take_length]
        intro p hp
        have s2 := s1.trans (same_upd hp (.lst (l.map fun t => V.bl (nameT t))))
        refine ⟨p, l.map nameT, rfl, .of (by rw [upd_same, List.map_map]; rfl), _, rfl, ?_⟩
        have e : (l.map nameT).all id = l.all nameT := by rw [List.all_map]; rfl
        rw [e]
        cases ha : l.all nameT with
        | true =>
          rw [ha, Bool.true_and] at q
          have evs := strs_at k ha
          have ea2 := s2 _ _ ea
          refine iteT ⟨_, rfl, a, l.map strOf, rfl, .of (by rw [← evs]; exact ea2), by rw [List.length_map]; omega, _, rfl, a, vs, rfl, .inr (.of ea2), rfl, ?_⟩
          have e2 : decide (V.int (manyS (l.map strOf) : Nat) = V.int (vs.length : Nat)) = decide (manyS (l.map strOf) = l.length) := by
            rw [lk]
            by_cases c : manyS (l.map strOf) = vs.length
            · rw [decide_eq_true c, decide_eq_true (by rw [c])]
            · rw [decide_eq_false c, decide_eq_false]
              intro z
              injection z with z
              exact c (by omega)
          rw [e2]
          exact q _ s2
        | false =>
          rw [ha, Bool.false_and] at q
          exact iteF (q _ s2)
    · refine ite_yes (decide_eq_true (by omega)) ?_
      have eT : tagsT (.tup l) = false := by
        show (decide (l.length ≤ 4) && _) = _
        rw [decide_eq_false h4, Bool.false_and]
      rw [eT] at q
      exact q _ (.refl _)
  | str x => exact iteT (iteT (q _ (.refl _)))
  | int i => exact iteT (iteT (q _ (.refl _)))
  | bl b => exact iteT (iteT (q _ (.refl _)))
  | non => exact iteT (iteT (q _ (.refl _)))
  | lst l => exact iteT (iteT (q _ (.refl _)))
  | dic => exact iteT (iteT (q _ (.refl _)))
end
end KP

set_option linter.all false
set_option maxHeartbeats 4000000
set_option maxRecDepth 100000
namespace KP
open PySem L2 PyProof.Rows
section
variable {P : Program} {w : World} {K : PySem.W.Frag} {mg : Str → Option Value} {base : Heap} {A : Adr}
def spIsWord : Sp := fun vs H Q _ => ∃ x : Str, vs = [.str x] ∧ x.length ≤ 400 ∧ ∀ H', Same H H' → Q (.bl (wordS x)) H'
seal PE PS PSs PA PT PI PG in
theorem ok_is_word (T : Txt K mg A) : FnOk P w K mg base CX0 2 A.f_is_word A.d_is_word P_is_word spIsWord := by
  have G_has_only := ok_has_only (P := P) (w := w) (base := base) T
  obtain ⟨t1, hg_MOST_WORD_SIGNS⟩ := T.g_MOST_WORD_SIGNS
  obtain ⟨t2, hg_TEXT_SIGNS⟩ := T.g_TEXT_SIGNS
  refine T.F_is_word.ok sc_is_word (fun vs H Q E h => ?_) (fun cdv B outer s H vs Q E hr h => ?_)
  · obtain ⟨x, rfl, _⟩ := h; rfl
  obtain ⟨x, rfl, hx, q⟩ := h
  refine ⟨_, pss_one (ps_ret (pe_and (pe_chain op_le op_le pe_int (pe_callB call_len_str rfl T.n_len b_len (pa_cons (pv 0) pa_nil)) (pe_glob rfl hg_MOST_WORD_SIGNS (v := .int 20) ⟨_, rfl⟩)) (pe_one (pe_call G_has_only hr rfl T.m_has_only T.F_has_only.kp T.b_has_only .nil pass0 (pa_cons (pv 0) (pa_cons (pe_glob rfl hg_TEXT_SIGNS (v := .str "ABCDEFGHIJKLMNOPQRSTUVWXYZabcdefghijklmnopqrstuvwxyz0123456789") ⟨_, rfl⟩) pa_nil)))))), ?_⟩
  have sz : x.length ≤ sizeLine := small (by omega)
  refine ⟨_, rfl, x, rfl, sz, _, _, rfl, rfl, _, rfl, ?_⟩
  have eW : wordS x = ((decide (1 ≤ (x.length : Int)) && decide ((x.length : Int) ≤ 20)) && hasOnly x sgTxt) := rfl
  rw [eW] at q
  by_cases h1 : 1 ≤ (x.length : Int)
  · rw [decide_eq_true h1, Bool.true_and] at q
    refine ite_yes (decide_eq_true h1) ⟨_, _, rfl, rfl, _, rfl, ?_⟩
    by_cases h2 : (x.length : Int) ≤ 20
    · rw [decide_eq_true h2, Bool.true_and] at q
      exact ite_yes (decide_eq_true h2) ⟨_, rfl, x, sgTxt, rfl, hx, q⟩
    · rw [decide_eq_false h2, Bool.false_and] at q
      exact ite_no (decide_eq_false h2) (q _ (.refl _))
  · rw [decide_eq_false h1, Bool.false_and, Bool.false_and] at q
    exact ite_no (decide_eq_false h1) ⟨_, rfl, iteF (q _ (.refl _))⟩
abbrev sc_is_words_text_0 : Scope := (match defBody s_is_words_text with | _ :: (.Return (some (.BoolOp _ (_ :: (.Call _ ((.ListComp _ _ sc _) :: _) _ _) :: _) _)) _) :: _ => sc | _ => defScope s_is_words_text)
theorem blk_is_words_text_0 : Blk (defScope s_is_words_text) N_is_words_text sc_is_words_text_0 ["word"] [] := ⟨rfl, by decide +kernel, by decide +kernel, by decide +kernel, by decide +kernel⟩
theorem nd_is_words_text_0 : (capN N_is_words_text ["word"] []).Nodup := by decide +kernel
def spWText : Sp := fun vs H Q _ => ∃ (v : V) (t : Tr), vs = [v] ∧ TrAt H t v ∧ ∀ H', Same H H' → Q (.bl (wtextT t)) H'
theorem piece_len (x : Str) : ∀ p ∈ Txt.split x bl1, p.length ≤ x.length := by
  have h := StrLaws.join_split x bl1
  have go : ∀ (l : List Str), ∀ p ∈ l, p.length ≤ (Str.join bl1 l).length := by
    intro l
    induction l with
    | nil => intro p hp; cases hp
    | cons y l ih =>
      intro p hp
      cases l with
      | nil => rw [List.mem_singleton.mp hp]; exact Nat.le_refl _
      | cons z r =>
        have e : Str.join bl1 (y :: z :: r) = y ++ bl1 ++ Str.join bl1 (z :: r) := rfl
        rw [e, Str.length_append, Str.length_append]
        rcases List.mem_cons.mp hp with rfl | hp
        · omega
        · have := ih p hp; omega
  intro p hp
  have := go _ p hp
  rw [h] at this
  exact this
seal PE PS PSs PA PT PI PG in
theorem ok_is_words_text (T : Txt K mg A) : FnOk P w K mg base CX0 3 A.f_is_words_text A.d_is_words_text P_is_words_text spWText := by
  have G_is_word := ok_is_word (P := P) (w := w) (base := base) T
  obtain ⟨t1, hg_MOST_TEXT_SIGNS⟩ := T.g_MOST_TEXT_SIGNS
  refine T.F_is_words_text.ok sc_is_words_text (fun vs H Q E h => ?_) (fun cdv B outer s H vs Q E hr h => ?_)
  · obtain ⟨v, t, rfl, _⟩ := h; rfl
  obtain ⟨v, t, rfl, h, q⟩ := h
  refine ⟨_, @pss_cons _ _ _ _ _ (ps_if (PW.pt (pw_or (pt_not (pt_val (pe_callB call_isi rfl T.n_isinstance b_isinstance (pa_cons (pv 0) (pa_cons (pe_bltn rfl T.n_str b_str (v := .ty "str") rfl) pa_nil))))) (pw_or1 (pt_cmpR op_gt (pe_callB call_len_str rfl T.n_len b_len (pa_cons (pv 0) pa_nil)) (pe_glob rfl hg_MOST_TEXT_SIGNS (v := .int 80) ⟨_, rfl⟩) (nomark _))))) (pss_one (ps_ret pe_bl)) pss_nil)
    (pss_one (ps_ret (pe_or (pe_cmpR op_eq (pv 0) pe_str (nomark _)) (pe_one (pe_callB (call_all rfl) rfl T.n_all b_all (pa_cons (pe_comp blk_is_words_text_0 rfl (pi_seq (pe_bm PySem.F.plainAttrs_str PySem.F.slot_str_split PySem.F.type_str_split mt_split (pv 0) (pa_cons pe_str pa_nil))) (fun _ _ _ _ _ => pg_name (i := 0) nd_is_words_text_0 rfl (.inl rfl)) (fun _ _ _ _ _ => pif_nil) (fun _ _ _ _ _ => pe_call G_is_word hr rfl T.m_is_word T.F_is_word.kp T.b_is_word .nil pass0 (pa_cons (pv 0) pa_nil))) pa_nil)))))), ?_⟩
  have I := h.is (K := K)
  refine ⟨_, rfl, v, "str", _, _, rfl, I.ty, I.kit T.kit "str", _, rfl, ?_⟩
  cases h with
  | str x hx =>
    have sz : x.length ≤ sizeLine := small (by omega)
    have eW : wtextT (.str x) = (decide ((x.length : Int) ≤ 80) && (decide (x = Str.empty) || (Txt.split x bl1).all wordS)) := rfl
    rw [eW] at q
    refine iteF ⟨_, rfl, x, rfl, sz, _, _, rfl, rfl, _, rfl, ?_⟩
    by_cases h8 : (x.length : Int) ≤ 80
    · rw [decide_eq_true h8, Bool.true_and] at q
      refine ite_no (decide_eq_false (by omega)) ⟨_, rfl, rfl, _, rfl, ?_⟩
      by_cases he : x = Str.empty
      · rw [decide_eq_true he, Bool.true_or] at q
        exact ite_yes (decide_eq_true (by rw [he]; rfl)) (q _ (.refl _))
      · rw [decide_eq_false he, Bool.false_or] at q
        refine ite_no (decide_eq_false fun z => he (by injection z)) ?_
        have sl := split_len x
        refine ⟨_, rfl, rfl, x, bl1, rfl, rfl, by decide +kernel, by omega, by omega, fun l hl => ?_⟩
        have s0 := same_upd hl (.lst ((Txt.split x bl1).map V.str))
        have e0 : upd H l (.lst ((Txt.split x bl1).map V.str)) l = some (.lst ((Txt.split x bl1).map V.str)) := upd_same
        generalize upd H l (.lst ((Txt.split x bl1).map V.str)) = H0 at s0 e0 ⊢
        refine ⟨l, rfl, .inl ⟨⟨_, .of e0⟩, blk_list (xs := (Txt.split x bl1).map V.str) (fun i acc H' => acc = (((Txt.split x bl1).take i).map fun z => V.bl (wordS z)) ∧ Same H0 H') ⟨rfl, .refl _⟩ (fun i acc H' z => .of (z.2 _ _ e0)) (fun i acc H' z => ?_) (fun i y acc H' N kk hy z => ?_) fun acc H' z => ?_⟩⟩
        · rw [z.1, List.length_map, List.length_take]; exact small1000 (by omega)
        · obtain ⟨rfl, s1⟩ := z
          dsimp only [tYes]
          rw [if_pos rfl]
          rw [List.getElem?_map] at hy
          cases ez : (Txt.split x bl1)[i]? with
          | none => rw [ez] at hy; cases hy
          | some z =>
            rw [ez] at hy
            cases hy
            refine ⟨_, rfl, z, rfl, by have := piece_len x z (List.mem_of_getElem? ez); omega, fun H2 s2 => kk _ _ ⟨?_, s1.trans s2⟩⟩
            rw [List.take_add_one, ez, List.map_append]; rfl
        · obtain ⟨rfl, s1⟩ := z
          rw [List.length_map, List.take_length]
          intro p hp
          have s2 := s0.trans (s1.trans (same_upd hp (.lst ((Txt.split x bl1).map fun z => V.bl (wordS z)))))
          refine ⟨p, (Txt.split x bl1).map wordS, rfl, .of (by rw [upd_same, List.map_map]; rfl), ?_⟩
          have e : ((Txt.split x bl1).map wordS).all id = (Txt.split x bl1).all wordS := by rw [List.all_map]; rfl
          rw [e]
          exact q _ s2
    · rw [decide_eq_false h8, Bool.false_and] at q
      exact ite_yes (decide_eq_true (by omega)) (q _ (.refl _))
  | int i => exact iteT (iteT (q _ (.refl _)))
  | bl b => exact iteT (iteT (q _ (.refl _)))
  | non => exact iteT (iteT (q _ (.refl _)))
  | tup e n k => exact iteT (iteT (q _ (.refl _)))
  | lst e n k => exact iteT (iteT (q _ (.refl _)))
  | dic e => exact iteT (iteT (q _ (.refl _)))
def spMore : Sp := fun vs H Q _ => ∃ (k : Str) (v : V) (t : Tr), vs = [.str k, v] ∧ TrAt H t v ∧ ∀ H', Same H H' → Q (.bl (moreT k t)) H'
seal PE PS PSs PA PT PI PG in
theorem ok_is_more (T : Txt K mg A) : FnOk P w K mg base CX0 4 A.f_is_more A.d_is_more P_is_more spMore := by
  have G_is_words_text := ok_is_words_text (P := P) (w := w) (base := base) T
  have G_is_within := (ok_is_within (P := P) (w := w) (base := base) T).mono (show 2 ≤ 3 by decide)
  obtain ⟨t1, hg_MOST_COLUMNS⟩ := T.g_MOST_COLUMNS
  refine T.F_is_more.ok sc_is_more (fun vs H Q E h => ?_) (fun cdv B outer s H vs Q E hr h => ?_)
  · obtain ⟨k, v, t, rfl, _⟩ := h; rfl
  obtain ⟨k, v, t, rfl, h, q⟩ := h
  refine ⟨_, @pss_cons _ _ _ _ _ (ps_if (pt_cmpR op_eq (pv 0) pe_str (nomark _)) (pss_one (ps_ret (pe_call G_is_words_text hr rfl T.m_is_words_text T.F_is_words_text.kp T.b_is_words_text .nil pass0 (pa_cons (pv 1) pa_nil)))) pss_nil)
    (@pss_cons _ _ _ _ _ (ps_if (pt_cmpR op_eq (pv 0) pe_str (nomark _)) (pss_one (ps_ret (pe_call G_is_within hr rfl T.m_is_within T.F_is_within.kp T.b_is_within .nil pass0 (pa_cons (pv 1) (pa_cons pe_int (pa_cons (pe_glob rfl hg_MOST_COLUMNS (v := .int 9) ⟨_, rfl⟩) pa_nil)))))) pss_nil)
    (pss_one (ps_ret (pe_cmpR op_isN (pv 1) pe_non (nomark _))))), ?_⟩
  unfold moreT at q
  refine ⟨_, rfl, rfl, _, rfl, ite2 (fun c => ?_) (fun c => ?_)⟩
  · have e : k = "words" := by
      have := of_decide_eq_true c
      injection this
    rw [if_pos e] at q
    exact ⟨_, rfl, v, t, rfl, h, q⟩
  · have e : ¬ k = "words" := fun e => c (decide_eq_true (by rw [e]))
    rw [if_neg e] at q
    refine ⟨_, rfl, rfl, _, rfl, ite2 (fun c2 => ?_) (fun c2 => ?_)⟩
    · have e2 : k = "grid" := by
        have := of_decide_eq_true c2
        injection this
      rw [if_pos e2] at q
      exact ⟨_, rfl, v, t, 1, 9, rfl, h, q _ (.refl _)⟩
    · have e2 : ¬ k = "grid" := fun e => c2 (decide_eq_true (by rw [e]))
      rw [if_neg e2] at q
      refine ⟨_, rfl, rfl, ?_⟩
      have e3 : decide (v = .non) = nonT t := by
        cases h with
        | non => rfl
        | _ => exact decide_eq_false (fun z => by cases z)
      rw [e3]
      exact q _ (.refl _)
def spKidsT : Sp := fun vs H Q _ => ∃ (k : Str) (v : V) (t : Tr), vs = [.str k, v] ∧ TrAt H t v ∧ Q (.bl (kidsT k t)) H
seal PE PS PSs PA PT PI PG in
theorem ok_are_kids (T : Txt K mg A) : FnOk P w K mg base CX0 1 A.f_are_kids A.d_are_kids P_are_kids spKidsT := by
  obtain ⟨a_KIDLESS, hg_KIDLESS, hq⟩ := T.g_KIDLESS
  obtain ⟨t1, hg_MOST_KIDS⟩ := T.g_MOST_KIDS
  refine T.F_are_kids.ok sc_are_kids (fun vs H Q E h => ?_) (fun cdv B outer s H vs Q E hr h => ?_)
  · obtain ⟨k, v, t, rfl, _⟩ := h; rfl
  obtain ⟨k, v, t, rfl, h, q⟩ := h
  refine ⟨_, @pss_cons _ _ _ _ _ (ps_set (i := 2) sc_are_kids.nd rfl (Or.inl rfl) (pe_ifExp (pt_cmpR op_in_seq (pv 0) (pe_glob rfl hg_KIDLESS (v := .ref a_KIDLESS) rfl) rfl) pe_int (pe_glob rfl hg_MOST_KIDS (v := .int 12) ⟨_, rfl⟩)))
    (pss_one (ps_ret (pe_and (pe_callB call_isi rfl T.n_isinstance b_isinstance (pa_cons (pv 1) (pa_cons (pe_bltn rfl T.n_tuple b_tuple (v := .ty "tuple") rfl) pa_nil))) (pe_one (pe_cmpR op_le (pe_callB call_len_seq rfl T.n_len b_len (pa_cons (pv 1) pa_nil)) (pv 2) (nomark _)))))), ?_⟩
  refine ⟨_, rfl, a_KIDLESS, _, rfl, .inr (tupIn_sq hq H), rfl, flat_strs _, _, rfl, ?_⟩
  rw [if_neg (show ¬ (false = true) by decide), inV_str]
  have I := h.is (K := K)
  have fin : ∀ m : Int, (∀ l, kidsT k (.tup l) = decide ((l.length : Int) ≤ m)) → tRet (tAndV (tCB (fun xs H Q => ∃ x T t b, xs = [x, .ty T] ∧ TyOf K H x t ∧ PySem.W.kitOne K t (.type T) = some b ∧ Q (.bl b) H) (tCons (tVar 1) (tCons (tC (.ty "tuple")) tNil))) (tOp (rI0 fun i j => .bl (decide (i ≤ j))) (tCB (fun xs H Q => ∃ p ys, xs = [.ref p] ∧ (SqL K H p ys ∨ SqT K H p ys) ∧ Q (.int ys.length) H) (tCons (tVar 1) tNil)) (tVar 2))) { nx := fun _ H' => Q .non H', rt := Q } [some (.str k), some v, some (.int m)] H := fun m hm => by
    refine ⟨_, rfl, v, "tuple", _, _, rfl, I.ty, I.kit T.kit "tuple", _, rfl, ?_⟩
    cases t with
    | tup l =>
      obtain ⟨a, vs, rfl, ea, kk⟩ := h.tupE
      have lk := kk.len
      rw [hm, lk] at q
      exact iteT ⟨_, rfl, a, vs, rfl, .inr (.of ea), _, rfl, _, _, rfl, rfl, q⟩
    | str x => exact iteF q
    | int i => exact iteF q
    | bl b => exact iteF q
    | non => exact iteF q
    | lst l => exact iteF q
    | dic => exact iteF q
  cases hk : kidless.any fun y => y == k with
  | true =>
    refine ite_yes hk (fin 0 fun l => ?_)
    show decide (l.length ≤ if (kidless.any fun y => y == k) = true then 0 else 12) = _
    rw [hk, if_pos rfl]
    by_cases c : l.length ≤ 0
    · rw [decide_eq_true c, decide_eq_true (by omega)]
    · rw [decide_eq_false c, decide_eq_false (by omega)]
  | false =>
    refine ite_no hk (fin 12 fun l => ?_)
    show decide (l.length ≤ if (kidless.any fun y => y == k) = true then 0 else 12) = _
    rw [hk, if_neg (by decide)]
    by_cases c : l.length ≤ 12
    · rw [decide_eq_true c, decide_eq_true (by omega)]
    · rw [decide_eq_false c, decide_eq_false (by omega)]
end
end KP

set_option linter.all false
set_option maxHeartbeats 4000000
set_option maxRecDepth 100000
namespace KP
open PySem L2 PyProof.Rows
theorem kindT_str {t : Tr} (h : kindT t = true) : ∃ x, t = .str x := by
  cases t with
  | str x => exact ⟨x, rfl⟩
  | _ => cases h
theorem nameT_str {t : Tr} (h : nameT t = true) : ∃ x, t = .str x := by
  cases t with
  | str x => exact ⟨x, rfl⟩
  | _ => cases h
theorem kidsT_tup {k : Str} {t : Tr} (h : kidsT k t = true) : ∃ l, t = .tup l ∧ l.length ≤ 12 := by
  cases t with
  | tup l =>
    refine ⟨l, rfl, ?_⟩
    have := of_decide_eq_true (show decide (l.length ≤ if (kidless.any fun y => y == k) = true then 0 else 12) = true from h)
    split at this <;> omega
  | _ => cases h
/-- a box alone: what it looks like -/
theorem alone_form {t : Tr} (h : aloneT t = true) : ∃ (k n : Str) (tg m : Tr) (l : List Tr), t = .tup [.str k, .str n, tg, m, .tup l] ∧ l.length ≤ 12 := by
  unfold aloneT at h
  split at h
  · rename_i k n tg m ks
    simp only [Bool.and_eq_true] at h
    obtain ⟨⟨⟨h1, h2⟩, _⟩, _, h5⟩ := h
    obtain ⟨x, rfl⟩ := kindT_str h1
    obtain ⟨y, rfl⟩ := nameT_str h2
    obtain ⟨l, rfl, hl⟩ := kidsT_tup h5
    exact ⟨x, y, tg, m, l, rfl, hl⟩
  · cases h
theorem alone_no {l : List Tr} (h : l.length ≠ 5) : aloneT (.tup l) = false := by
  unfold aloneT
  split
  · rename_i k n tg m ks e
    injection e with e
    rw [e] at h
    exact absurd rfl h
  · rfl
theorem five {α : Type} : ∀ {l : List α}, l.length = 5 → ∃ a b c d e, l = [a, b, c, d, e]
  | [a, b, c, d, e], _ => ⟨a, b, c, d, e, rfl⟩
theorem none_of' {H H' : Hp} (s : Same H H') {l : Addr} (h : H' l = none) : H l = none := by
  cases e : H l with
  | none => rfl
  | some o => rw [s _ _ e] at h; cases h
theorem last_mapV {α : Type} (f : α → V) (l : List α) (a : α) : ((l ++ [a]).map f)[((l ++ [a]).map f).length - 1]? = some (f a) := by simp
section
variable {P : Program} {w : World} {K : PySem.W.Frag} {mg : Str → Option Value} {base : Heap} {A : Adr}
def spAloneT : Sp := fun vs H Q _ => ∃ (v : V) (t : Tr), vs = [v] ∧ TrAt H t v ∧ ∀ H', Same H H' → Q (.bl (aloneT t)) H'
seal PE PS PSs PA PT PI PG in
theorem ok_is_box_alone (T : Txt K mg A) : FnOk P w K mg base CX0 5 A.f_is_box_alone A.d_is_box_alone P_is_box_alone spAloneT := by
  have G_is_kind := (ok_is_kind (P := P) (w := w) (base := base) T).mono (show 1 ≤ 4 by decide)
  have G_is_name := (ok_is_name (P := P) (w := w) (base := base) T).mono (show 2 ≤ 4 by decide)
  have G_are_tags := (ok_are_tags (P := P) (w := w) (base := base) T).mono (show 3 ≤ 4 by decide)
  have G_is_more := ok_is_more (P := P) (w := w) (base := base) T
  have G_are_kids := (ok_are_kids (P := P) (w := w) (base := base) T).mono (show 1 ≤ 4 by decide)
  refine T.F_is_box_alone.ok sc_is_box_alone (fun vs H Q E h => ?_) (fun cdv B outer s H vs Q E hr h => ?_)
  · obtain ⟨v, t, rfl, _⟩ := h; rfl
  obtain ⟨v, t, rfl, h, q⟩ := h
  refine ⟨_, @pss_cons _ _ _ _ _ (ps_if (PW.pt (pw_or (pt_not (pt_val (pe_callB call_isi rfl T.n_isinstance b_isinstance (pa_cons (pv 0) (pa_cons (pe_bltn rfl T.n_tuple b_tuple (v := .ty "tuple") rfl) pa_nil))))) (pw_or1 (pt_cmpR op_ne (pe_callB call_len_seq rfl T.n_len b_len (pa_cons (pv 0) pa_nil)) pe_int (nomark _))))) (pss_one (ps_ret pe_bl)) pss_nil)
    (@pss_cons _ _ _ _ _ (ps_if (PW.pt (pw_or (pt_not (pt_val (pe_call G_is_kind hr rfl T.m_is_kind T.F_is_kind.kp T.b_is_kind .nil pass0 (pa_cons (pe_ix ix_tup (pv 0) pe_int (fun _ _ => rfl)) pa_nil)))) (pw_or (pt_not (pt_val (pe_call G_is_name hr rfl T.m_is_name T.F_is_name.kp T.b_is_name .nil pass0 (pa_cons (pe_ix ix_tup (pv 0) pe_int (fun _ _ => rfl)) pa_nil)))) (pw_or1 (pt_not (pt_val (pe_call G_are_tags hr rfl T.m_are_tags T.F_are_tags.kp T.b_are_tags .nil pass0 (pa_cons (pe_ix ix_tup (pv 0) pe_int (fun _ _ => rfl)) pa_nil)))))))) (pss_one (ps_ret pe_bl)) pss_nil)
    (pss_one (ps_ret (pe_and (pe_call G_is_more hr rfl T.m_is_more T.F_is_more.kp T.b_is_more .nil pass0 (pa_cons (pe_ix ix_tup (pv 0) pe_int (fun _ _ => rfl)) (pa_cons (pe_ix ix_tup (pv 0) pe_int (fun _ _ => rfl)) pa_nil))) (pe_one (pe_call G_are_kids hr rfl T.m_are_kids T.F_are_kids.kp T.b_are_kids .nil pass0 (pa_cons (pe_ix ix_tup (pv 0) pe_int (fun _ _ => rfl)) (pa_cons (pe_ix ix_tup (pv 0) pe_int (fun _ _ => rfl)) pa_nil)))))))), ?_⟩
  have I := h.is (K := K)
  refine ⟨_, rfl, v, "tuple", _, _, rfl, I.ty, I.kit T.kit "tuple", _, rfl, ?_⟩
  cases t with
  | tup l =>
    obtain ⟨a, vs, rfl, ea, k⟩ := h.tupE
    have lk := k.len
    refine iteF ⟨_, rfl, a, vs, rfl, .inr (.of ea), rfl, _, rfl, ?_⟩
    by_cases h5 : l.length = 5
    · refine ite_no (by simp; omega) ?_
      obtain ⟨t0, t1, t2, t3, t4, rfl⟩ := five h5
      cases k with
      | @cons _ v0 _ _ a0 k =>
      cases k with
      | @cons _ v1 _ _ a1 k =>
      cases k with
      | @cons _ v2 _ _ a2 k =>
      cases k with
      | @cons _ v3 _ _ a3 k =>
      cases k with
      | @cons _ v4 _ _ a4 k =>
      cases k
      have eA : aloneT (.tup [t0, t1, t2, t3, t4]) = (kindT t0 && nameT t1 && tagsT t2 && (moreT (strOf t0) t3 && kidsT (strOf t0) t4)) := rfl
      rw [eA] at q
      refine ⟨_, rfl, a, _, _, _, rfl, rfl, .of ea, rfl, v0, t0, rfl, a0, _, rfl, ?_⟩
      cases hk : kindT t0 with
      | false =>
        rw [hk, Bool.false_and, Bool.false_and, Bool.false_and] at q
        exact iteT (iteT (q _ (.refl _)))
      | true =>
        rw [hk, Bool.true_and] at q
        obtain ⟨x0, rfl⟩ := kindT_str hk
        cases a0 with
        | str _ hx0 =>
        refine iteF ⟨_, rfl, a, _, _, _, rfl, rfl, .of ea, rfl, v1, t1, rfl, a1, fun H1 s1 => ⟨_, rfl, ?_⟩⟩
        cases hn : nameT t1 with
        | false =>
          rw [hn, Bool.false_and, Bool.false_and] at q
          exact iteT (iteT (q _ s1))
        | true =>
          rw [hn, Bool.true_and] at q
          refine iteF ⟨_, rfl, a, _, _, _, rfl, rfl, .of (s1 _ _ ea), rfl, v2, t2, rfl, a2.same s1, fun H2 s2 => ⟨_, rfl, ?_⟩⟩
          replace s2 := s1.trans s2
          cases ht : tagsT t2 with
          | false =>
            rw [ht, Bool.false_and] at q
            exact iteT (q _ s2)
          | true =>
            rw [ht, Bool.true_and] at q
            refine iteF ⟨_, rfl, a, _, _, _, rfl, rfl, .of (s2 _ _ ea), rfl, _, rfl, a, _, _, _, rfl, rfl, .of (s2 _ _ ea), rfl, x0, v3, t3, rfl, a3.same s2, fun H3 s3 => ⟨_, rfl, ?_⟩⟩
            replace s3 := s2.trans s3
            change ∀ H', Same H H' → Q (.bl (moreT x0 t3 && kidsT x0 t4)) H' at q
            cases hm : moreT x0 t3 with
            | false =>
              rw [hm, Bool.false_and] at q
              exact iteF (q _ s3)
            | true =>
              rw [hm, Bool.true_and] at q
              exact iteT ⟨_, rfl, a, _, _, _, rfl, rfl, .of (s3 _ _ ea), rfl, _, rfl, a, _, _, _, rfl, rfl, .of (s3 _ _ ea), rfl, x0, v4, t4, rfl, a4.same s3, q _ s3⟩
    · rw [alone_no h5] at q
      refine ite_yes (by simp; omega) ?_
      exact q _ (.refl _)
  | str x => exact iteT (iteT (q _ (.refl _)))
  | int i => exact iteT (iteT (q _ (.refl _)))
  | bl b => exact iteT (iteT (q _ (.refl _)))
  | non => exact iteT (iteT (q _ (.refl _)))
  | lst l => exact iteT (iteT (q _ (.refl _)))
  | dic => exact iteT (iteT (q _ (.refl _)))
theorem Txt.nb (T : Txt K mg A) : ClsAt K A.c_PaneError [A.c_NoShare, A.c_NoBox, A.c_NoText, A.c_NoRule, A.c_NoName, A.c_NoPlace, A.c_NoPage, A.c_NoChange, A.c_NoUndo, A.c_NoRow] A.c_NoBox := (cls_at T.cls).2 _ (by simp)
/-- raise NoBox("..") -/
theorem ps_nb (T : Txt K mg A) {N : List Str} {qual : Str} {scope : Scope} {f : Addr} {cd : Value} {B : Around} {outer : List Env} {s : Shared} {H : Hp} {E : XK} {x : Str} {j np cp pp pos : _} (hg : Gl (cxOf (CXW P w) P w K mg base N qual scope f cd B outer s H E) "NoBox") :
    PS (cxOf (CXW P w) P w K mg base N qual scope f cd B outer s H E) (.Raise (some (.Call (.Name "NoBox" np) [.Constant (.str x) j cp] [] pp)) none pos) (tRaise E A.c_NoBox (tCons (tC (.str x)) tNil)) :=
  ps_raise raisesW rfl hg T.m_NoBox T.nb.exc PySem.F.excBase_ValueError PySem.F.excBase_ValueError (by decide) (by show 1 ≤ 1000; omega) (pa_cons pe_str pa_nil) (fun σ H Q h => ⟨by show 1 ≤ sizeLine; decide, h⟩)
/-- an entry of what waits: a thing of H, and how deep -/
def EntAt (H H1 : Hp) (e : Addr) (p : Tr × Nat) : Prop := ∃ v, H1 e = some (.tup [v, .int p.2]) ∧ TrAt H p.1 v
theorem EntAt.same {H H1 H2 : Hp} {e : Addr} {p : Tr × Nat} (s : Same H1 H2) (h : EntAt H H1 e p) : EntAt H H2 e p := let ⟨v, h1, h2⟩ := h; ⟨v, s _ _ h1, h2⟩
theorem EntAt.upd {H H1 : Hp} {e l : Addr} {p : Tr × Nat} {o o' : HO} (h : EntAt H H1 e p) (hl : H1 l = some o) (ho : ∀ xs, o ≠ .tup xs) : EntAt H (upd H1 l o') e p := by
  obtain ⟨v, h1, h2⟩ := h
  refine ⟨v, ?_, h2⟩
  rw [upd_ne (fun z => by rw [z, hl] at h1; cases h1; exact ho _ rfl)]
  exact h1
abbrev sc_need_document_0 : Scope := (match defBody s_need_document with | _ :: _ :: (.While _ (_ :: _ :: _ :: _ :: _ :: _ :: _ :: _ :: (.Expr (.Call _ ((.ListComp _ _ sc _) :: _) _ _) _) :: _) _ _) :: _ => sc | _ => defScope s_need_document)
theorem blk_need_document_0 : Blk (defScope s_need_document) N_need_document sc_need_document_0 ["kid"] [5] := ⟨rfl, by decide +kernel, by decide +kernel, by decide +kernel, by decide +kernel⟩
theorem nd_need_document_0 : (capN N_need_document ["kid"] [5]).Nodup := by decide +kernel
def spDoc (c0 : Addr) : Sp := fun vs H Q E => ∃ (v : V) (t : Tr), vs = [v] ∧ TrAt H t v ∧ (docT t = true → ∀ H', Same H H' → Q .non H') ∧ (docT t = false → ∀ H', Same H H' → E (.ref c0) none H')
seal PE PS PSs PA PT PI PG in
theorem ok_need_document (T : Txt K mg A) : FnOk P w K mg base (CXW P w) 6 A.f_need_document A.d_need_document P_need_document (spDoc A.c_NoBox) := by
  have G_is_box_alone := ok_is_box_alone (P := P) (w := w) (base := base) T
  obtain ⟨g1, hg_MOST_DEEP⟩ := T.g_MOST_DEEP
  obtain ⟨g2, hg_MOST_BOXES⟩ := T.g_MOST_BOXES
  refine T.F_need_document.okW sc_need_document (fun vs H Q E h => ?_) (fun cdv B outer s H vs Q E hr h => ?_)
  · obtain ⟨v, t, rfl, _⟩ := h; rfl
  obtain ⟨v, t, rfl, h, qg, qb⟩ := h
  refine ⟨_, @pss_cons _ _ _ _ _ (ps_set (i := 1) sc_need_document.nd rfl (Or.inl rfl) pe_dict0)
    (@pss_cons _ _ _ _ _ (ps_set (i := 2) sc_need_document.nd rfl (Or.inl rfl) (pe_lst (pa_cons (pe_tup (pa_cons (pv 0) (pa_cons pe_int pa_nil))) pa_nil)))
    (pss_one (ps_while PassesOwn.leaving (pt_truth (pv 2) (fun _ => rfl)) (@pss_cons _ _ _ _ _ (ps_set (i := 3) sc_need_document.nd rfl (Or.inl rfl) (pe_bm0 PySem.F.plainAttrs_list PySem.F.slot_list_pop PySem.F.type_list_pop mt_pop (pv 2)))
    (@pss_cons _ _ _ _ _ (ps_set (i := 4) sc_need_document.nd rfl (Or.inl rfl) (pe_ix ix_tup (pv 3) pe_int (fun _ _ => rfl)))
    (@pss_cons _ _ _ _ _ (ps_set (i := 5) sc_need_document.nd rfl (Or.inr rfl) (pe_ix ix_tup (pv 3) pe_int (fun _ _ => rfl)))
    (@pss_cons _ _ _ _ _ (ps_if (pt_not (pt_val (pe_call G_is_box_alone hr rfl T.m_is_box_alone T.F_is_box_alone.kp T.b_is_box_alone .nil pass0 (pa_cons (pv 4) pa_nil)))) (pss_one (ps_nb T rfl)) pss_nil)
    (@pss_cons _ _ _ _ _ (ps_if (pt_cmpR op_gt (pv 5) (pe_glob rfl hg_MOST_DEEP (v := .int 8) ⟨_, rfl⟩) (nomark _)) (pss_one (ps_nb T rfl)) pss_nil)
    (@pss_cons _ _ _ _ _ (ps_if (pt_cmp (pc_din (hu_of hr) (pe_ix ix_tup (pv 4) pe_int (fun _ _ => rfl)) (pv 1))) (pss_one (ps_nb T rfl)) pss_nil)
    (@pss_cons _ _ _ _ _ (ps_dput (hu_of hr) (pv 1) (pe_ix ix_tup (pv 4) pe_int (fun _ _ => rfl)) pe_bl rfl)
    (@pss_cons _ _ _ _ _ (ps_if (pt_cmpR op_gt (pe_callB call_lenD rfl T.n_len b_len (pa_cons (pv 1) pa_nil)) (pe_glob rfl hg_MOST_BOXES (v := .int 40) ⟨_, rfl⟩) (nomark _)) (pss_one (ps_nb T rfl)) pss_nil)
    (pss_one (ps_expr (pe_bm PySem.F.plainAttrs_list PySem.F.slot_list_extend PySem.F.type_list_extend mt_extend (pv 2) (pa_cons (pe_comp blk_need_document_0 rfl (pi_seq (pe_ix ix_tup (pv 4) pe_int (fun _ _ => rfl))) (fun _ _ _ _ _ => pg_name (i := 0) nd_need_document_0 rfl (.inl rfl)) (fun _ _ _ _ _ => pif_nil) (fun _ _ _ _ _ => pe_tup (pa_cons (pv 0) (pa_cons (pe_op op_add (pv 1) pe_int) pa_nil)))) pa_nil))))))))))))))), ?_⟩
  intro dn hdn
  have s1 := same_upd hdn (.dK [])
  refine ⟨_, rfl, small (by simp), fun e1 he1 => ⟨small (by simp), fun wl hwl => ?_⟩⟩
  have s2 := same_upd he1 (.tup [v, V.int 1])
  have s3 := same_upd hwl (.lst [V.ref e1])
  have hdn' := hdn
  have nwd : wl ≠ dn := fun z => by
    rw [z, s2 _ _ (upd_same : upd H dn (.dK []) dn = _)] at hwl; cases hwl
  have hwl' : H wl = none := none_of' (s1.trans s2) hwl
  have n40 : (1000 : Nat) < sizeLine := small1000 (Nat.le_refl _)
  refine ⟨fun m σ H1 => ∃ (js : List (Tr × Nat)) (es : List Addr) (ns : List Str) (kvs : List (Key × V)) (v3 v4 v5 : Option V), σ = [some v, some (.ref dn), some (.ref wl), v3, v4, v5] ∧ Same H H1 ∧ H1 dn = some (.dK kvs) ∧ H1 wl = some (.lst (es.map V.ref)) ∧ F2 (EntAt H H1) es js ∧
      (∀ y : Str, (valV kvs (Sum.inr y : Key)).isSome = ns.contains y) ∧ kvs.length = ns.length ∧ ns.length ≤ 40 ∧ js.length ≤ 12 * ns.length + 1 ∧ m + ns.length = 42 ∧ docT t = runT m js.reverse ns,
    ⟨42, [(t, 1)], [e1], [], [], none, none, none, rfl, (s1.trans s2).trans s3, ?_, upd_same, .one ⟨v, s3 _ _ upd_same, h⟩, fun y => rfl, rfl, by decide, by simp, rfl, rfl⟩, ?_⟩
  · exact s3 _ _ (s2 _ _ upd_same)
  rintro m σ H1 ⟨js, es, ns, kvs, v3, v4, v5, rfl, sH, ed, ew, be, hv, hl, h40, hj, hm, hd⟩
  rcases List.eq_nil_or_concat js with rfl | ⟨js', p, rfl⟩
  · cases be
    refine ⟨_, rfl, _, .inl ⟨_, .of ew, rfl⟩, ite_no (by simp) ?_⟩
    refine qg ?_ _ sH
    rw [hd]
    obtain ⟨m', rfl⟩ : ∃ m', m = m' + 1 := ⟨m - 1, by omega⟩
    rfl
  · rw [List.concat_eq_append] at be hj hd
    obtain ⟨es', e, rfl, be', ⟨bv, ee, bt⟩⟩ := be.last
    obtain ⟨bt0, d⟩ := p
    obtain ⟨m', rfl⟩ : ∃ m', m = m' + 1 := ⟨m - 1, by omega⟩
    refine ⟨_, rfl, _, .inl ⟨_, .of ew, rfl⟩, ite_yes (by simp) ?_⟩
    refine ⟨fun σ' H' => _, fun σ' H' h => h, ?_⟩
    rw [List.reverse_append, List.reverse_singleton, List.singleton_append] at hd
    have hd' : docT t = if (aloneT bt0 && decide (d ≤ 8) && !ns.contains (nameOf bt0) && decide (ns.length < 40)) = true then runT m' ((kidsOf bt0).reverse.map (fun k => (k, d + 1)) ++ js'.reverse) (nameOf bt0 :: ns) else false := hd
    refine ⟨_, rfl, .inl ⟨rfl, _, .of ew⟩, wl, _, _, rfl, rfl, ew, last_mapV _ _ _, ?_⟩
    have edl : ((es' ++ [e]).map V.ref).dropLast = es'.map V.ref := by rw [List.map_append]; exact List.dropLast_concat
    rw [edl]
    have k1 : upd H1 wl (.lst (es'.map V.ref)) e = some (.tup [bv, .int (d : Int)]) := by
      rw [upd_ne (fun z => by rw [z, ew] at ee; cases ee)]; exact ee
    have k2 : upd H1 wl (.lst (es'.map V.ref)) wl = some (.lst (es'.map V.ref)) := upd_same
    have k3 : upd H1 wl (.lst (es'.map V.ref)) dn = some (.dK kvs) := by rw [upd_ne nwd.symm]; exact ed
    have k4 : F2 (EntAt H (upd H1 wl (.lst (es'.map V.ref)))) es' js' := be'.mono fun _ _ x => x.upd ew (fun xs z => by cases z)
    have k5 : Same H (upd H1 wl (.lst (es'.map V.ref))) := fun b u z => by rw [upd_ne (ne_of_none z hwl')]; exact sH _ _ z
    generalize upd H1 wl (.lst (es'.map V.ref)) = H2 at k1 k2 k3 k4 k5 ⊢
    refine ⟨_, rfl, e, _, _, _, rfl, rfl, .of k1, rfl, ?_⟩
    refine ⟨_, rfl, e, _, _, _, rfl, rfl, .of k1, rfl, ?_⟩
    refine ⟨_, rfl, bv, bt0, rfl, bt.same k5, fun H3 s4 => ⟨_, rfl, ?_⟩⟩
    have k6 := k5.trans s4
    cases ha : aloneT bt0 with
    | false =>
      refine iteT (qb ?_ _ k6)
      rw [hd', ha]; rfl
    | true =>
      rw [ha] at hd'
      refine iteF ⟨_, rfl, _, _, rfl, rfl, _, rfl, ?_⟩
      by_cases h8 : d ≤ 8
      · refine ite_no (decide_eq_false (by omega)) ?_
        rw [decide_eq_true h8] at hd'
        obtain ⟨bk, bn, tg, mo, l, rfl, hl12⟩ := alone_form ha
        have eN : nameOf (.tup [.str bk, .str bn, tg, mo, .tup l]) = bn := rfl
        have eK : kidsOf (.tup [.str bk, .str bn, tg, mo, .tup l]) = l := rfl
        rw [eN, eK] at hd'
        obtain ⟨ba, bvs, rfl, eb, kb⟩ := bt.tupE
        cases kb with
        | @cons _ w0 _ _ a0 kb =>
        cases kb with
        | @cons _ w1 _ _ a1 kb =>
        cases kb with
        | @cons _ w2 _ _ a2 kb =>
        cases kb with
        | @cons _ w3 _ _ a3 kb =>
        cases kb with
        | @cons _ w4 _ _ a4 kb =>
        cases kb
        cases a1 with
        | str _ hbn =>
        obtain ⟨ka, kvs4, rfl, ek, kk4⟩ := a4.tupE
        have lk4 := kk4.len
        have eb3 := k6 _ _ eb
        have ek3 := k6 _ _ ek
        have ed3 := s4 _ _ k3
        refine ⟨_, rfl, ba, _, _, _, rfl, rfl, .of eb3, rfl, _, rfl, dn, _, rfl, DGet.k (k := Sum.inr bn) ed3, _, rfl, ?_⟩
        rw [hv bn]
        cases hc : ns.contains bn with
        | true =>
          refine iteT (qb ?_ _ k6)
          rw [hd', hc]; rfl
        | false =>
          rw [hc] at hd'
          refine iteF ?_
          have hnone : valV kvs (Sum.inr bn : Key) = none := by
            have := hv bn
            rw [hc] at this
            cases ev : valV kvs (Sum.inr bn : Key) with
            | none => rfl
            | some o => rw [ev] at this; cases this
          refine ⟨_, rfl, _, rfl, ba, _, _, _, rfl, rfl, .of eb3, rfl, dn, _, rfl, DPut.k (k := Sum.inr bn) ed3 (by omega), ?_⟩
          rw [putK_new _ hnone]
          have j1 : upd H3 dn (.dK (kvs ++ [(Sum.inr bn, V.bl true)])) dn = some (.dK (kvs ++ [(Sum.inr bn, V.bl true)])) := upd_same
          have j2 : upd H3 dn (.dK (kvs ++ [(Sum.inr bn, V.bl true)])) wl = some (.lst (es'.map V.ref)) := by rw [upd_ne nwd]; exact s4 _ _ k2
          have j3 : F2 (EntAt H (upd H3 dn (.dK (kvs ++ [(Sum.inr bn, V.bl true)])))) es' js' := (k4.mono fun _ _ x => x.same s4).mono fun _ _ x => x.upd ed3 (fun xs z => by cases z)
          have j4 : Same H (upd H3 dn (.dK (kvs ++ [(Sum.inr bn, V.bl true)]))) := fun b u z => by rw [upd_ne (ne_of_none z hdn')]; exact k6 _ _ z
          generalize upd H3 dn (.dK (kvs ++ [(Sum.inr bn, V.bl true)])) = H4 at j1 j2 j3 j4 ⊢
          refine ⟨_, rfl, dn, _, rfl, j1, _, _, rfl, rfl, _, rfl, ?_⟩
          have lkv : (kvs ++ [((Sum.inr bn : Key), V.bl true)]).length = ns.length + 1 := by rw [List.length_append, hl]; rfl
          by_cases h39 : ns.length < 40
          · refine ite_no (decide_eq_false (by rw [lkv]; omega)) ?_
            rw [decide_eq_true h39] at hd'
            have hd2 : docT t = runT m' (l.reverse.map (fun k => (k, d + 1)) ++ js'.reverse) (bn :: ns) := hd'
            have eb4 := j4 _ _ eb
            have ek4 := j4 _ _ ek
            rw [List.length_append, List.length_singleton] at hj
            have lbe := be'.len
            refine ⟨_, rfl, .inl ⟨rfl, _, .of j2⟩, _, rfl, ba, _, _, _, rfl, rfl, .of eb4, rfl, ka, rfl, .inr ⟨⟨_, .of ek4⟩,
              blk_tup (xs := kvs4) (fun i acc H' => ∃ us : List Addr, acc = us.map V.ref ∧ Same H4 H' ∧ F2 (EntAt H H') us ((l.take i).map fun k => (k, d + 1))) ⟨[], rfl, .refl _, .nil⟩ (fun i acc H' z => ?_) (fun i acc H' z => ?_) (fun i x acc H' N kk hx z => ?_) fun acc H' z => ?_⟩⟩
            · obtain ⟨_, _, s5, _⟩ := z; exact .of (s5 _ _ ek4)
            · obtain ⟨us, rfl, _, u1⟩ := z
              have := u1.len
              rw [List.length_map, List.length_take] at this
              rw [List.length_map]; exact small1000 (by omega)
            · obtain ⟨us, rfl, s5, u1⟩ := z
              dsimp only [tYes]
              rw [if_pos rfl]
              have hi : i < l.length := by have := (List.getElem?_eq_some_iff.mp hx).1; omega
              have et : l[i]? = some l[i] := List.getElem?_eq_getElem hi
              refine ⟨_, rfl, _, rfl, _, _, rfl, rfl, small (by simp), fun p1 hp1 => ?_⟩
              have s6 := same_upd hp1 (.tup [x, V.int ((d : Int) + 1)])
              refine kk _ _ ⟨us ++ [p1], by rw [List.map_append]; rfl, s5.trans s6, ?_⟩
              rw [List.take_add_one, et, List.map_append]
              exact (u1.mono fun _ _ z => z.same s6).append (.one ⟨x, by rw [upd_same]; rfl, kk4.get et hx⟩)
            · obtain ⟨us, rfl, s5, u1⟩ := z
              rw [← lk4, List.take_length] at u1
              have lu := u1.len
              rw [List.length_map] at lu
              intro l3 hl3
              have s6 := same_upd hl3 (.lst (us.map V.ref))
              have s7 := s5.trans s6
              refine ⟨wl, l3, _, _, rfl, rfl, s7 _ _ j2, upd_same, by rw [List.length_map, List.length_map]; exact small (by omega), ?_⟩
              have ew7 := s7 _ _ j2
              refine ⟨m', by omega, js' ++ l.map (fun k => (k, d + 1)), es' ++ us, bn :: ns, kvs ++ [(Sum.inr bn, V.bl true)], _, _, _, rfl, fun b u z => by rw [upd_ne (ne_of_none z hwl')]; exact s7 _ _ (j4 _ _ z), ?_, by rw [upd_same, List.map_append], ?_, fun y => ?_, by rw [lkv]; rfl, by rw [List.length_cons]; omega, by rw [List.length_append, List.length_map, List.length_cons]; omega, by rw [List.length_cons]; omega, ?_⟩
              · rw [upd_ne nwd.symm]; exact s7 _ _ j1
              · exact (((j3.mono fun _ _ x => x.same s7).append (u1.mono fun _ _ x => x.same s6))).mono fun _ _ x => x.upd ew7 (fun xs z => by cases z)
              · rw [valV_snoc _ _ _ _ hnone]
                by_cases c : y = bn
                · rw [if_pos (by rw [c]), c]; simp
                · rw [if_neg (fun z => c (by injection z)), hv y]
                  simp [c]
              · rw [hd2, List.reverse_append, List.map_reverse]
          · refine ite_yes (decide_eq_true (by rw [lkv]; omega)) (qb ?_ _ j4)
            rw [hd', decide_eq_false h39]; rfl
      · refine ite_yes (decide_eq_true (by omega)) (qb ?_ _ k6)
        rw [hd', decide_eq_false h8]; rfl
end
end KP

set_option linter.all false
set_option maxHeartbeats 4000000
set_option maxRecDepth 100000
namespace KP
open PySem L2 PyProof.Rows
/-- a thing and all below it, the last kid first -/
def preT : Nat → Tr → List Tr
  | 0, _ => []
  | n + 1, t => t :: ((kidsOf t).reverse.map (preT n)).flatten
theorem rev_nd {α : Type} {l : List α} (h : l.Nodup) : l.reverse.Nodup := by
  refine List.pairwise_reverse.mpr ?_
  exact List.Pairwise.imp (fun a e => a e.symm) h
/-- bad, wherever it stands: it or a kid is none, or two kids have one name -/
def BadT (t : Tr) : Prop := aloneT t = false ∨ (∃ k ∈ kidsOf t, aloneT k = false) ∨ ¬ ((kidsOf t).map nameOf).Nodup
end KP

set_option linter.all false
set_option maxHeartbeats 4000000
set_option maxRecDepth 100000
namespace KP
open PySem L2 PyProof.Rows
def Mo.t : Mo → Tr
  | .no => .non
  | .tx ws => .str (WM.J ws)
  | .nu n => .int n
def trRow (r : Rw) (kids : List Tr) : Tr := .tup [.str r.kind, .str r.name, .tup (r.tags.map Tr.str), r.more.t, .tup kids]
/-- the document of the rows, with sp done to the box of the row p -/
def wN (xs : List Lr) (p : Nat) (sp : Tr → Tr) : Nat → Nat → Tr
  | 0, _ => .non
  | n + 1, k => match xs[k]? with
    | some x => if k = p then sp (trRow x.r ((kidsAt xs k).map (wN xs p sp n))) else trRow x.r ((kidsAt xs k).map (wN xs p sp n))
    | none => .non
theorem wN_more {c : Int} {xs : List Lr} (h : RwsOk c xs) (p : Nat) (sp : Tr → Tr) : ∀ (n m k : Nat), xs.length - k ≤ n → n ≤ m → k < xs.length → wN xs p sp m k = wN xs p sp n k
  | 0, _, k, h1, _, h3 => by omega
  | n + 1, 0, _, _, h2, _ => by omega
  | n + 1, m + 1, k, h1, h2, h3 => by
    unfold wN
    rw [List.getElem?_eq_getElem h3]
    have : (kidsAt xs k).map (wN xs p sp m) = (kidsAt xs k).map (wN xs p sp n) := List.map_congr_left fun j hj => by
      obtain ⟨a, b⟩ := kidsAt_lt h hj
      exact wN_more h p sp n m j (by omega) (by omega) b
    simp only [this]
def wOf (xs : List Lr) (p : Nat) (sp : Tr → Tr) (k : Nat) : Tr := wN xs p sp (xs.length - k) k
theorem wOf_eq {c : Int} {xs : List Lr} (h : RwsOk c xs) (p : Nat) (sp : Tr → Tr) {k : Nat} {x : Lr} (hx : xs[k]? = some x) : wOf xs p sp k = if k = p then sp (trRow x.r ((kidsAt xs k).map (wOf xs p sp))) else trRow x.r ((kidsAt xs k).map (wOf xs p sp)) := by
  have hk := (List.getElem?_eq_some_iff.mp hx).1
  obtain ⟨n, hn⟩ : ∃ n, xs.length - k = n + 1 := ⟨xs.length - k - 1, by omega⟩
  have e : wOf xs p sp k = wN xs p sp (n + 1) k := by unfold wOf; rw [hn]
  have : (kidsAt xs k).map (wN xs p sp n) = (kidsAt xs k).map (wOf xs p sp) := List.map_congr_left fun j hj => by
    obtain ⟨a, b⟩ := kidsAt_lt h hj
    exact wN_more h p sp _ _ j (Nat.le_refl _) (by omega) b
  rw [e, wN, hx]
  simp only [this]
/-- the document of the rows as it is -/
abbrev tOf (xs : List Lr) (k : Nat) : Tr := wOf xs 0 id k
theorem tOf_eq {c : Int} {xs : List Lr} (h : RwsOk c xs) {k : Nat} {x : Lr} (hx : xs[k]? = some x) : tOf xs k = trRow x.r ((kidsAt xs k).map (tOf xs)) := by
  have := wOf_eq h 0 id hx
  unfold tOf
  rw [this]
  split <;> rfl
/-- the rows from the k-th on, the last kid first -/
def rodN (xs : List Lr) : Nat → Nat → List Nat
  | 0, _ => []
  | n + 1, k => k :: ((kidsAt xs k).reverse.map (rodN xs n)).flatten
/-- from the root to i it goes by j -/
theorem rod_anc {c : Int} {xs : List Lr} (h : RwsOk c xs) : ∀ {f i j : Nat}, i ∈ rodN xs f j → ∃ s, ancOf xs i = ancOf xs j ++ s
  | 0, _, _, hi => by cases hi
  | f + 1, i, j, hi => by
    rcases List.mem_cons.mp hi with rfl | hi
    · exact ⟨[], by simp⟩
    · obtain ⟨l, hl, hi⟩ := List.mem_flatten.mp hi
      obtain ⟨m, hm, rfl⟩ := List.mem_map.mp hl
      obtain ⟨s, e⟩ := rod_anc h hi
      rw [ancOf_kid h (List.mem_reverse.mp hm), List.append_assoc] at e
      exact ⟨_, e⟩
theorem rod_ge {c : Int} {xs : List Lr} (h : RwsOk c xs) : ∀ {f i j : Nat}, j < xs.length → i ∈ rodN xs f j → j ≤ i ∧ i < xs.length
  | 0, _, _, _, hi => by cases hi
  | f + 1, i, j, hj, hi => by
    rcases List.mem_cons.mp hi with rfl | hi
    · omega
    · obtain ⟨l, hl, hi⟩ := List.mem_flatten.mp hi
      obtain ⟨m, hm, rfl⟩ := List.mem_map.mp hl
      obtain ⟨a, b⟩ := kidsAt_lt h (List.mem_reverse.mp hm)
      have := rod_ge h b hi
      omega
theorem flat_nd {α : Type} {f : Nat → List α} : ∀ {l : List Nat}, (∀ x ∈ l, (f x).Nodup) → l.Nodup → (∀ x ∈ l, ∀ y ∈ l, x ≠ y → ∀ z ∈ f x, z ∉ f y) → ((l.map f).flatten).Nodup
  | [], _, _, _ => List.nodup_nil
  | a :: l, h1, h2, h3 => by
    rw [List.map_cons, List.flatten_cons, List.nodup_append]
    obtain ⟨h4, h5⟩ := List.nodup_cons.mp h2
    refine ⟨h1 a (List.mem_cons_self ..), flat_nd (fun x hx => h1 x (List.mem_cons_of_mem _ hx)) h5 fun x hx y hy => h3 x (List.mem_cons_of_mem _ hx) y (List.mem_cons_of_mem _ hy), fun z hz w hw e => ?_⟩
    subst e
    obtain ⟨m, hm, hz2⟩ := List.mem_flatten.mp hw
    obtain ⟨y, hy, rfl⟩ := List.mem_map.mp hm
    exact h3 a (List.mem_cons_self ..) y (List.mem_cons_of_mem _ hy) (fun e => h4 (e ▸ hy)) z hz hz2
theorem rod_nd {c : Int} {xs : List Lr} (h : RwsOk c xs) : ∀ (f j : Nat), j < xs.length → (rodN xs f j).Nodup
  | 0, _, _ => List.nodup_nil
  | f + 1, j, hj => by
    show (j :: ((kidsAt xs j).reverse.map (rodN xs f)).flatten).Nodup
    rw [List.nodup_cons]
    refine ⟨fun hm => ?_, flat_nd (fun x hx => rod_nd h f x (kidsAt_lt h (List.mem_reverse.mp hx)).2) (rev_nd ((kidsAt_pw xs j).imp fun a => Nat.ne_of_lt a)) fun x hx y hy hne z hz hz2 => ?_⟩
    · obtain ⟨l, hl, hi⟩ := List.mem_flatten.mp hm
      obtain ⟨m, hm, rfl⟩ := List.mem_map.mp hl
      obtain ⟨a, b⟩ := kidsAt_lt h (List.mem_reverse.mp hm)
      have := rod_ge h b hi
      omega
    · obtain ⟨s1, e1⟩ := rod_anc h hz
      obtain ⟨s2, e2⟩ := rod_anc h hz2
      rw [ancOf_kid h (List.mem_reverse.mp hx), List.append_assoc] at e1
      rw [ancOf_kid h (List.mem_reverse.mp hy), List.append_assoc, e1] at e2
      have e3 := List.append_cancel_left e2
      injection e3 with e4 _
      exact hne e4
theorem nd_lt : ∀ (n : Nat) (l : List Nat), l.Nodup → (∀ x ∈ l, x < n) → l.length ≤ n
  | 0, [], _, _ => Nat.le_refl _
  | 0, a :: _, _, h => absurd (h a (List.mem_cons_self ..)) (by omega)
  | n + 1, l, hn, h => by
    have h1 := nd_lt n (l.erase n) (hn.erase n) fun x hx => by
      have a := h x (List.mem_of_mem_erase hx)
      have b : x ≠ n := fun e => by subst e; exact (List.Nodup.not_mem_erase hn) hx
      omega
    by_cases hm : n ∈ l
    · rw [List.length_erase_of_mem hm] at h1; omega
    · rw [List.erase_of_not_mem hm] at h1; omega
end KP

set_option linter.all false
set_option maxHeartbeats 4000000
set_option maxRecDepth 100000
namespace KP
open PySem L2 PyProof.Rows
open WM (J bl ls)
theorem signIn_eq (z : Str) (c : Nat) : signIn z c = decide (c ∈ z.cps.toList) := StrLaws.found_one z c
theorem only_of {x z : Str} (h : ∀ c ∈ x.cps.toList, c ∈ z.cps.toList) : hasOnly x z = true := List.all_eq_true.mpr fun c hc => by rw [signIn_eq]; exact decide_eq_true (h c hc)
theorem let26 : ∀ i : Fin 26, sgA.cps.toList.getD i.val 0 ∈ sgLet.cps.toList := by decide +kernel
theorem nam36 : ∀ i : Fin 36, sgA.cps.toList.getD i.val 0 ∈ sgNam.cps.toList := by decide +kernel
theorem m_let : (109 : Nat) ∈ sgLet.cps.toList := by decide +kernel
theorem m_nam : (109 : Nat) ∈ sgNam.cps.toList := by decide +kernel
theorem name_ok (c : Int) (k : Nat) : nameS (nm c k) = true := by
  have h1 := nmN_in c
  have h2 := nmP_in c
  have h3 := nm_len c k
  have hj := nmJ_in c k
  unfold nameS
  rw [h3, decide_eq_true (by omega), decide_eq_true (by omega), nm_lst, signIn_eq]
  have e1 : (List.replicate (nmP c).toNat 109 ++ sgA.cps.toList.getD (nmJ c k) 0 :: List.replicate (nmN c - 1 - nmP c).toNat 109).getD 0 0 ∈ sgLet.cps.toList := by
    by_cases h0 : (nmP c).toNat = 0
    · rw [h0]
      have hm : nmM c = 26 := by unfold nmM; rw [if_neg (by omega)]
      have hl : nmJ c k < 26 := by
        have := Int.emod_lt_of_pos (c / 64 + k) (show (0 : Int) < nmM c by omega)
        have := hj.1
        omega
      exact let26 ⟨_, hl⟩
    · obtain ⟨n, hn⟩ : ∃ n, (nmP c).toNat = n + 1 := ⟨(nmP c).toNat - 1, by omega⟩
      rw [hn]
      exact m_let
  rw [decide_eq_true e1, only_of]
  · rfl
  · rw [nm_lst]
    intro x hx
    rcases List.mem_append.mp hx with hx | hx
    · rw [(List.mem_replicate.mp hx).2]; exact m_nam
    · rcases List.mem_cons.mp hx with rfl | hx
      · exact nam36 ⟨_, hj.2⟩
      · rw [(List.mem_replicate.mp hx).2]; exact m_nam
theorem first_take (l : List Str) (h : l.Nodup) : ∀ i, i ≤ l.length → firstS (fun i => l.getD i Str.empty) i = l.take i
  | 0, _ => by simp [firstS]
  | i + 1, hi => by
    have hi' : i < l.length := hi
    rw [firstS_succ, first_take l h i (by omega)]
    have e : l.getD i Str.empty = l[i] := by rw [List.getD_eq_getElem?_getD, List.getElem?_eq_getElem hi']; rfl
    rw [e]
    unfold stepS
    have no : ¬ (l.take i).any (fun x => x == l[i]) = true := fun z => by
      obtain ⟨x, hx, ex⟩ := List.any_eq_true.mp z
      have ex' : x = l[i] := by simpa using ex
      subst ex'
      have hd : l = l.take i ++ l[i] :: l.drop (i + 1) := by rw [← List.drop_eq_getElem_cons hi', List.take_append_drop]
      rw [hd] at h
      exact (List.nodup_append.mp h).2.2 _ hx _ (List.mem_cons_self ..) rfl
    rw [if_neg no, List.take_add_one, List.getElem?_eq_getElem hi']
    rfl
theorem manyS_nd {l : List Str} (h : l.Nodup) : manyS l = l.length := by
  unfold manyS
  rw [first_take l h _ (Nat.le_refl _), List.take_length]
theorem nms_at (c : Int) {j : Nat} (h : j < 24) : (nms c).getD j Str.empty = nm c j := by
  unfold nms
  rw [List.getD_eq_getElem?_getD, List.getElem?_map, List.getElem?_range h]; rfl
theorem tgs_nd (p c : Int) : (tgs p (nms c)).Nodup := by
  unfold tgs
  have h4 := (tgN_at p).2
  refine List.Nodup.map_on' ?_ (List.nodup_range)
  intro a ha b hb e
  have ha' := List.mem_range.mp ha
  have hb' := List.mem_range.mp hb
  obtain ⟨e1, l1⟩ := tgJ_in p a
  obtain ⟨e2, l2⟩ := tgJ_in p b
  rw [nms_at c l1, nms_at c l2] at e
  have e3 := nm_inj l1 l2 e
  omega
where
  List.Nodup.map_on' {α β : Type} {f : α → β} {l : List α} (h : ∀ a ∈ l, ∀ b ∈ l, f a = f b → a = b) (hl : l.Nodup) : (l.map f).Nodup := by
    induction l with
    | nil => exact List.nodup_nil
    | cons x l ih =>
      obtain ⟨h1, h2⟩ := List.nodup_cons.mp hl
      rw [List.map_cons, List.nodup_cons]
      refine ⟨fun hm => ?_, ih (fun a ha b hb => h a (List.mem_cons_of_mem _ ha) b (List.mem_cons_of_mem _ hb)) h2⟩
      obtain ⟨y, hy, e⟩ := List.mem_map.mp hm
      exact h1 (h y (List.mem_cons_of_mem _ hy) x (List.mem_cons_self ..) e ▸ hy)
theorem nms_len (c : Int) : (nms c).length = 24 := by unfold nms; simp
theorem tags_name {p c : Int} {x : Str} (h : x ∈ tgs p (nms c)) : ∃ k, x = nm c k := by
  have h2 := tgs_mem (nms_len c) h
  unfold nms at h2
  obtain ⟨k, _, rfl⟩ := List.mem_map.mp h2
  exact ⟨k, rfl⟩
theorem tags_ok (p c : Int) : tagsT (.tup ((tgs p (nms c)).map Tr.str)) = true := by
  have h4 := tgs_len p (nms c)
  show (decide (((tgs p (nms c)).map Tr.str).length ≤ 4) && (((tgs p (nms c)).map Tr.str).all nameT && decide (manyS (((tgs p (nms c)).map Tr.str).map strOf) = ((tgs p (nms c)).map Tr.str).length))) = true
  have e : ((tgs p (nms c)).map Tr.str).map strOf = tgs p (nms c) := by
    rw [List.map_map]
    exact (List.map_congr_left fun x _ => rfl).trans (List.map_id _)
  rw [e, manyS_nd (tgs_nd p c), List.length_map, decide_eq_true h4, decide_eq_true rfl, Bool.true_and, Bool.and_true]
  refine List.all_eq_true.mpr fun t ht => ?_
  obtain ⟨x, hx, rfl⟩ := List.mem_map.mp ht
  obtain ⟨k, rfl⟩ := tags_name hx
  exact name_ok c k
theorem sgT_in : ∀ c ∈ ls sgT, c ∈ sgTxt.cps.toList := by decide +kernel
theorem sgT_no : (32 : Nat) ∉ ls sgT := by decide +kernel
theorem sum_le {l : List Nat} {b : Nat} (h : ∀ x ∈ l, x ≤ b) : l.sum ≤ l.length * b := by
  induction l with
  | nil => simp
  | cons x l ih =>
    have h1 := h x (List.mem_cons_self ..)
    have h2 := ih fun y hy => h y (List.mem_cons_of_mem _ hy)
    rw [List.sum_cons, List.length_cons, Nat.succ_mul]; omega
theorem J_len {ws : List Str} (h : Wds ws) : (J ws).length ≤ 70 := by
  have h1 := StrLaws.join_length_le bl ws
  have h2 : (ws.map (·.length)).sum ≤ (ws.map (·.length)).length * 9 := sum_le fun x hx => by
    obtain ⟨w, hw, rfl⟩ := List.mem_map.mp hx
    exact (h.w w hw).n1
  have b1 : bl.length = 1 := by decide +kernel
  rw [List.length_map] at h2
  rw [b1, Nat.mul_one] at h1
  have := h.n
  show (Str.join bl ws).length ≤ 70
  omega
theorem text_ok {ws : List Str} (h : Wds ws) : wtextS (J ws) = true := by
  have hl := J_len h
  unfold wtextS
  rw [decide_eq_true (by omega), Bool.true_and]
  by_cases hw : ws = []
  · subst hw; rw [decide_eq_true (show J [] = Str.empty from rfl)]; rfl
  · have nb : ∀ w ∈ ws, 32 ∉ ls w := fun w hw' hb => sgT_no ((h.w w hw').sg _ hb)
    rw [show Txt.split (J ws) bl1 = ws from WM.split_words nb hw]
    refine Bool.or_eq_true_iff.mpr (.inr (List.all_eq_true.mpr fun w hw' => ?_))
    have W := h.w w hw'
    have a1 := W.n0
    have a2 := W.n1
    unfold wordS
    rw [decide_eq_true (by omega), decide_eq_true (by omega), only_of fun c hc => sgT_in c (W.sg c hc)]; rfl
theorem kinds_in : ∀ k ∈ kinds, (kindsP.any fun y => y == k) = true := by decide +kernel
theorem kinds_len : ∀ k ∈ kinds, k.length ≤ 400 := by decide +kernel
theorem less_of : ∀ k ∈ kinds, k ≠ kBlank → k ≠ kWords → (kidless.any fun y => y == k) = false := by decide +kernel
/-- a row's box alone -/
theorem alone_row {c : Int} {xs : List Lr} (h : RwsOk c xs) {k : Nat} {x : Lr} (hx : xs[k]? = some x) (kids : List Tr) (hk : kids.length ≤ (kidsAt xs k).length) : aloneT (trRow x.r kids) = true := by
  have R := h.row k x hx
  obtain ⟨p, ep⟩ := R.tags
  have n12 := h.n
  have hl := kidsAt_len xs k
  show (kindT (.str x.r.kind) && nameT (.str x.r.name) && tagsT (.tup (x.r.tags.map Tr.str)) && (moreT x.r.kind x.r.more.t && kidsT x.r.kind (.tup kids))) = true
  have e1 : kindT (.str x.r.kind) = true := kinds_in _ R.kind
  have e2 : nameT (.str x.r.name) = true := by rw [R.name]; exact name_ok c k
  have e3 : tagsT (.tup (x.r.tags.map Tr.str)) = true := by rw [ep]; exact tags_ok p c
  have e4 : moreT x.r.kind x.r.more.t = true := by
    unfold moreT
    rcases R.more with ⟨a, ws, b, W⟩ | ⟨a, n, b, n1, n9⟩ | ⟨a1, a2, b⟩
    · rw [b, a, if_pos (show kWords = "words" from rfl)]
      exact text_ok W
    · rw [b, a, if_neg (by decide +kernel), if_pos (show kGrid = "grid" from rfl)]
      show (decide (0 ≤ n) && (decide (1 ≤ n) && decide (n ≤ 9))) = true
      rw [decide_eq_true (by omega), decide_eq_true n1, decide_eq_true n9]; rfl
    · rw [b, if_neg (show ¬ x.r.kind = "words" from a1), if_neg (show ¬ x.r.kind = "grid" from a2)]; rfl
  have e5 : kidsT x.r.kind (.tup kids) = true := by
    show decide (kids.length ≤ if (kidless.any fun y => y == x.r.kind) = true then 0 else 12) = true
    refine decide_eq_true ?_
    by_cases h0 : kidsAt xs k = []
    · rw [h0] at hk
      have : kids.length = 0 := by simpa using hk
      omega
    · obtain ⟨j, hj⟩ := List.exists_mem_of_ne_nil _ h0
      obtain ⟨y, hy, ey⟩ := kidsAt_mem.mp hj
      rcases (h.row j y hy).about with ⟨_, e, _⟩ | ⟨i, z, hi, hz, e, hh, _⟩
      · omega
      · have : i = k := by omega
        subst this
        rw [hx] at hz
        cases hz
        rw [less_of _ R.kind hh.1 hh.2.1, if_neg (by decide)]
        omega
  rw [e1, e2, e3, e4, e5]; rfl
/-- the walk over the rows' boxes ends well -/
theorem run_rows {c : Int} {xs : List Lr} (h : RwsOk c xs) : ∀ (n : Nat) (js : List (Nat × Nat)) (ns : List Str), (∀ p ∈ js, p.1 < xs.length ∧ p.2 = 12 - p.1) → (((js.map fun p => rodN xs p.2 p.1).flatten).Nodup) → (∀ i ∈ (js.map fun p => rodN xs p.2 p.1).flatten, ns.contains (nm c i) = false) →
    ns.length + (js.map fun p => rodN xs p.2 p.1).flatten.length ≤ 40 → (js.map fun p => rodN xs p.2 p.1).flatten.length < n → runT n (js.map fun p => (tOf xs p.1, match xs[p.1]? with | some x => x.r.deep.toNat | none => 0)) ns = true
  | 0, _, _, _, _, _, _, hn => by omega
  | n + 1, [], _, _, _, _, _, _ => rfl
  | n + 1, (j, f) :: js, ns, h1, h2, h3, h4, h5 => by
    obtain ⟨hj, hf⟩ := h1 (j, f) (List.mem_cons_self ..)
    have hj' : j < xs.length := hj
    have n12 := h.n
    have ex : xs[j]? = some xs[j] := List.getElem?_eq_getElem hj'
    obtain ⟨g, hg⟩ : ∃ g, f = g + 1 := ⟨f - 1, by have : f = 12 - j := hf; omega⟩
    subst hg
    have hf' : g + 1 = 12 - j := hf
    have eL : (((j, g + 1) :: js).map fun p : Nat × Nat => rodN xs p.2 p.1).flatten = j :: (((kidsAt xs j).reverse.map (rodN xs g)).flatten ++ (js.map fun p => rodN xs p.2 p.1).flatten) := rfl
    rw [eL] at h2 h3 h4 h5
    have hd := h.deep j _ ex
    have R := h.row j _ ex
    show (if (aloneT (tOf xs j) && decide ((match xs[j]? with | some x => x.r.deep.toNat | none => 0) ≤ 8) && !ns.contains (nameOf (tOf xs j)) && decide (ns.length < 40)) = true then runT n ((kidsOf (tOf xs j)).reverse.map (fun k => (k, (match xs[j]? with | some x => x.r.deep.toNat | none => 0) + 1)) ++ js.map fun p => (tOf xs p.1, match xs[p.1]? with | some x => x.r.deep.toNat | none => 0)) (nameOf (tOf xs j) :: ns) else false) = true
    rw [ex]
    dsimp only
    have et := tOf_eq h ex
    have ea : aloneT (tOf xs j) = true := by rw [et]; exact alone_row h ex _ (by rw [List.length_map]; exact Nat.le_refl _)
    have en : nameOf (tOf xs j) = nm c j := by rw [et]; exact R.name
    have ek : kidsOf (tOf xs j) = (kidsAt xs j).map (tOf xs) := by rw [et]; rfl
    rw [ea, en, ek, decide_eq_true (show xs[j].r.deep.toNat ≤ 8 by omega), h3 j (List.mem_cons_self ..), decide_eq_true (show ns.length < 40 by rw [List.length_cons] at h4; omega), if_pos (show (true && true && !false && true) = true from rfl)]
    rw [List.nodup_cons] at h2
    rw [List.length_cons] at h4 h5
    -- each kid waits as deep as its row says, with as much fuel as it wants
    have eR : ∀ k ∈ (kidsAt xs j), xs[k]?.map (fun x => x.r.deep.toNat) = some (xs[j].r.deep.toNat + 1) := fun k hk => by
      obtain ⟨y, hy, ey⟩ := kidsAt_mem.mp hk
      rcases (h.row k y hy).about with ⟨_, e, _⟩ | ⟨i, z, hi, hz, e, hh, e2⟩
      · omega
      · have : i = j := by omega
        subst this
        rw [ex] at hz
        cases hz
        rw [hy]
        show some y.r.deep.toNat = _
        congr 1
        omega
    have eS : ((kidsAt xs j).map (tOf xs)).reverse.map (fun k => (k, xs[j].r.deep.toNat + 1)) = (((kidsAt xs j).reverse.map fun k => (k, 12 - k)).map fun p : Nat × Nat => (tOf xs p.1, match xs[p.1]? with | some x => x.r.deep.toNat | none => 0)) := by
      rw [← List.map_reverse, List.map_map, List.map_map]
      refine List.map_congr_left fun k hk => ?_
      have := eR k (List.mem_reverse.mp hk)
      cases exk : xs[k]? with
      | none => rw [exk] at this; cases this
      | some y =>
        rw [exk] at this
        show (tOf xs k, xs[j].r.deep.toNat + 1) = (tOf xs k, match xs[k]? with | some x => x.r.deep.toNat | none => 0)
        rw [exk]
        injection this with this
        rw [← this]
    rw [eS, ← List.map_append]
    -- more fuel finds the same rows
    have eF : (((kidsAt xs j).reverse.map fun k => (k, 12 - k)).map fun p : Nat × Nat => rodN xs p.2 p.1) = (kidsAt xs j).reverse.map (rodN xs g) := by
      rw [List.map_map]
      refine List.map_congr_left fun k hk => ?_
      obtain ⟨a, b⟩ := kidsAt_lt h (List.mem_reverse.mp hk)
      exact (rod_fuel h (12 - k) g k (by omega) (by omega) b)
    have eL2 : ((((kidsAt xs j).reverse.map fun k => (k, 12 - k)) ++ js).map fun p : Nat × Nat => rodN xs p.2 p.1).flatten = ((kidsAt xs j).reverse.map (rodN xs g)).flatten ++ (js.map fun p => rodN xs p.2 p.1).flatten := by
      rw [List.map_append, eF, List.flatten_append]
    refine run_rows h n _ _ (fun p hp => ?_) (by rw [eL2]; exact h2.2) (fun i hi => ?_) (by rw [eL2, List.length_cons]; omega) (by rw [eL2]; omega)
    · rcases List.mem_append.mp hp with hp | hp
      · obtain ⟨k, hk, rfl⟩ := List.mem_map.mp hp
        exact ⟨(kidsAt_lt h (List.mem_reverse.mp hk)).2, rfl⟩
      · exact h1 p (List.mem_cons_of_mem _ hp)
    · rw [eL2] at hi
      rw [List.contains_cons, Bool.or_eq_false_iff]
      refine ⟨?_, h3 i (List.mem_cons_of_mem _ hi)⟩
      have hij : i ≠ j := fun e => h2.1 (e ▸ hi)
      have hil : i < xs.length := by
        rcases List.mem_append.mp hi with hi | hi
        · obtain ⟨l, hl, hi⟩ := List.mem_flatten.mp hi
          obtain ⟨m, hm, rfl⟩ := List.mem_map.mp hl
          exact (rod_ge h (kidsAt_lt h (List.mem_reverse.mp hm)).2 hi).2
        · obtain ⟨l, hl, hi⟩ := List.mem_flatten.mp hi
          obtain ⟨p, hp, rfl⟩ := List.mem_map.mp hl
          exact (rod_ge h (h1 p (List.mem_cons_of_mem _ hp)).1 hi).2
      exact beq_eq_false_iff_ne.mpr fun e => hij (nm_inj (by omega) (by omega) e)
where
  rod_fuel {c : Int} {xs : List Lr} (h : RwsOk c xs) : ∀ (n m k : Nat), 12 - k ≤ n → 12 - k ≤ m → k < xs.length → rodN xs n k = rodN xs m k := by
    intro n
    induction n with
    | zero => intro m k h1 _ h3; have := h.n; omega
    | succ n ih =>
      intro m k h1 h2 h3
      have n12 := h.n
      obtain ⟨m', rfl⟩ : ∃ m', m = m' + 1 := ⟨m - 1, by omega⟩
      show k :: _ = k :: _
      congr 2
      refine List.map_congr_left fun j hj => ?_
      obtain ⟨a, b⟩ := kidsAt_lt h (List.mem_reverse.mp hj)
      exact ih m' j (by omega) (by omega) b
theorem doc_rows {c : Int} {xs : List Lr} (h : RwsOk c xs) (h0 : 0 < xs.length) : docT (tOf xs 0) = true := by
  have ex : xs[0]? = some xs[0] := List.getElem?_eq_getElem h0
  have nd := rod_nd h 12 0 h0
  have lim := nd_lt 12 _ nd fun i hi => by have := rod_ge h h0 hi; have := h.n; omega
  have d1 : xs[0].r.deep.toNat = 1 := by
    rcases (h.row 0 _ ex).about with ⟨_, _, e⟩ | ⟨j, _, hj, _⟩
    · rw [e]; rfl
    · omega
  have := run_rows h 42 [(0, 12)] [] (by intro p hp; rw [List.mem_singleton.mp hp]; exact ⟨h0, rfl⟩) (by simpa using nd) (fun i _ => rfl) (by simp; omega) (by simp; omega)
  rw [List.map_cons, List.map_nil, ex] at this
  dsimp only at this
  rw [d1] at this
  exact this
/-- the box in the heap is that tree -/
theorem tr_of {c : Int} {xs : List Lr} (h : RwsOk c xs) {H : Hp} : ∀ (n k : Nat) (a : Addr), xs.length - k ≤ n → k < xs.length → IsBx H a (bxOf xs k) → TrAt H (tOf xs k) (.ref a)
  | 0, k, _, h1, h2, _ => by omega
  | n + 1, k, a, h1, h2, x => by
    have ex : xs[k]? = some xs[k] := List.getElem?_eq_getElem h2
    obtain ⟨t, ks, as, x1, x2, x3, x4⟩ := x.row h ex
    have R := h.row k _ ex
    have n1 := nmN_in c
    obtain ⟨p, ep⟩ := R.tags
    rw [tOf_eq h ex]
    refine TrAt.tup' x1 (.cons (.str _ (kinds_len _ R.kind)) (.cons (.str _ (by rw [R.name, nm_len]; omega)) (.cons (TrAt.tup' x2 ?_) (.cons ?_ (.cons (TrAt.tup' x3 ?_) .nil)))))
    · have hb : ∀ z ∈ xs[k].r.tags, z.length ≤ 400 := fun z hz => by
        rw [ep] at hz
        obtain ⟨i, rfl⟩ := tags_name hz
        rw [nm_len]; omega
      generalize xs[k].r.tags = l at hb
      clear ep x2
      induction l with
      | nil => exact .nil
      | cons z l ih => exact .cons (.str z (hb z (List.mem_cons_self ..))) (ih fun y hy => hb y (List.mem_cons_of_mem _ hy))
    · rcases R.more with ⟨_, ws, b, W⟩ | ⟨_, m, b, _⟩ | ⟨_, _, b⟩ <;> rw [b]
      · exact .str _ (by have := J_len W; omega)
      · exact .int m
      · exact .non
    · have go : ∀ (js : List Nat), (∀ j ∈ js, j ∈ kidsAt xs k) → ∀ (l : List Addr), BxsAt xs H l js → TrsAt H (js.map (tOf xs)) (l.map V.ref) := by
        intro js
        induction js with
        | nil => intro _ l u; cases u; exact .nil
        | cons j js ih =>
          intro hm l u
          cases u with
          | cons ua ub =>
            obtain ⟨z1, z2⟩ := kidsAt_lt h (hm j (List.mem_cons_self ..))
            exact .cons (tr_of h n j _ (by omega) z2 ua) (ih (fun i hi => hm i (List.mem_cons_of_mem _ hi)) _ ub)
      exact go _ (fun _ z => z) _ x4
end KP

set_option linter.all false
set_option maxHeartbeats 4000000
set_option maxRecDepth 100000
/-! texts: cut and glued at one sign; the first ' : '; blanks ahead -/
namespace TX
open PySem WM
open Builtin Builtin.Str
def jc (c : Nat) : List (List Nat) → List Nat
  | [] => []
  | [x] => x
  | x :: y :: r => x ++ c :: jc c (y :: r)
theorem app_inj {c : Nat} : ∀ {p w A B : List Nat}, c ∉ p → c ∉ w → p ++ c :: A = w ++ c :: B → p = w ∧ A = B
  | [], [], A, B, _, _, h => by injection h with _ h; exact ⟨rfl, h⟩
  | [], b :: w, A, B, _, hw, h => by injection h with h _; exact absurd (h ▸ List.mem_cons_self ..) hw
  | a :: p, [], A, B, hp, _, h => by injection h with h _; exact absurd (h ▸ List.mem_cons_self ..) hp
  | a :: p, b :: w, A, B, hp, hw, h => by
    injection h with h1 h2
    obtain ⟨e1, e2⟩ := app_inj (fun z => hp (List.mem_cons_of_mem _ z)) (fun z => hw (List.mem_cons_of_mem _ z)) h2
    exact ⟨by rw [h1, e1], e2⟩
theorem jc_inj {c : Nat} : ∀ {ps ws : List (List Nat)}, (∀ p ∈ ps, c ∉ p) → (∀ w ∈ ws, c ∉ w) → ps ≠ [] → ws ≠ [] → jc c ps = jc c ws → ps = ws
  | [], _, _, _, h, _, _ => absurd rfl h
  | _ :: _, [], _, _, _, h, _ => absurd rfl h
  | [p], [w], _, _, _, _, e => by rw [show p = w from e]
  | [p], w :: w2 :: r, hp, _, _, _, e => by
    have e' : p = w ++ c :: jc c (w2 :: r) := e
    exact absurd (by rw [e']; exact List.mem_append_right _ (List.mem_cons_self ..)) (hp p (List.mem_cons_self ..))
  | p :: p2 :: r, [w], _, hw, _, _, e => by
    have e' : p ++ c :: jc c (p2 :: r) = w := e
    exact absurd (by rw [← e']; exact List.mem_append_right _ (List.mem_cons_self ..)) (hw w (List.mem_cons_self ..))
  | p :: p2 :: r, w :: w2 :: q, hp, hw, _, _, e => by
    have e' : p ++ c :: jc c (p2 :: r) = w ++ c :: jc c (w2 :: q) := e
    obtain ⟨e1, e2⟩ := app_inj (hp p (List.mem_cons_self ..)) (hw w (List.mem_cons_self ..)) e'
    rw [e1, jc_inj (fun z hz => hp z (List.mem_cons_of_mem _ hz)) (fun z hz => hw z (List.mem_cons_of_mem _ hz)) (by simp) (by simp) e2]
theorem ls_join (c : Nat) : ∀ ws : List Str, ls (Str.join ⟨#[c]⟩ ws) = jc c (ws.map ls)
  | [] => rfl
  | [x] => rfl
  | x :: y :: r => by
    show ls (x ++ ⟨#[c]⟩ ++ Str.join ⟨#[c]⟩ (y :: r)) = _
    rw [ls_app, ls_app, ls_join c (y :: r)]
    show _ = ls x ++ c :: jc c ((y :: r).map ls)
    rw [List.append_assoc]; rfl
theorem map_ls_inj : ∀ (a b : List Str), a.map ls = b.map ls → a = b := fun a => by
  induction a with
  | nil => intro b h; cases b with
    | nil => rfl
    | cons y b => cases h
  | cons x a ih => intro b h; cases b with
    | nil => cases h
    | cons y b =>
      rw [List.map_cons, List.map_cons] at h
      injection h with h1 h2
      rw [ls_inj h1, ih b h2]
theorem split_join {c : Nat} {ws : List Str} (hw : ∀ w ∈ ws, c ∉ ls w) (hne : ws ≠ []) : Txt.split (Str.join ⟨#[c]⟩ ws) ⟨#[c]⟩ = ws := by
  have h1 := StrLaws.join_split (Str.join ⟨#[c]⟩ ws) ⟨#[c]⟩
  have h2 : ∀ p ∈ Txt.split (Str.join ⟨#[c]⟩ ws) ⟨#[c]⟩, c ∉ ls p := StrLaws.split_free _ c
  have h3 : Txt.split (Str.join ⟨#[c]⟩ ws) ⟨#[c]⟩ ≠ [] := fun z => by have := PyProof.Rows.split_pos (Str.join ⟨#[c]⟩ ws) ⟨#[c]⟩; rw [z] at this; exact absurd this (by decide)
  generalize Txt.split (Str.join ⟨#[c]⟩ ws) ⟨#[c]⟩ = ps at h1 h2 h3
  have e : jc c (ps.map ls) = jc c (ws.map ls) := by
    have := congrArg ls h1
    rwa [ls_join, ls_join] at this
  exact map_ls_inj _ _ (jc_inj (fun p hp => by obtain ⟨q, hq, rfl⟩ := List.mem_map.mp hp; exact h2 q hq) (fun p hp => by obtain ⟨q, hq, rfl⟩ := List.mem_map.mp hp; exact hw q hq) (by simpa using h3) (by simpa using hne) e)
/-- glued without a sign between -/
def cat (l : List Str) : Str := ⟨(l.map ls).flatten.toArray⟩
theorem ls_cat (l : List Str) : ls (cat l) = (l.map ls).flatten := by simp [cat, ls]
theorem join_empty : ∀ l : List Str, Str.join Str.empty l = cat l
  | [] => rfl
  | [x] => by apply ls_inj; rw [ls_cat]; simp; rfl
  | x :: y :: r => by
    apply ls_inj
    show ls (x ++ Str.empty ++ Str.join Str.empty (y :: r)) = _
    rw [join_empty (y :: r), ls_app, ls_app, ls_cat, ls_cat]
    show ls x ++ [] ++ _ = _
    simp
theorem cat_cons (x : Str) (l : List Str) : cat (x :: l) = x ++ cat l := by apply ls_inj; rw [ls_cat, ls_app, ls_cat]; rfl
theorem cat_app (l m : List Str) : cat (l ++ m) = cat l ++ cat m := by apply ls_inj; rw [ls_cat, ls_app, ls_cat, ls_cat]; simp
/-- each row with its end: all rows, and an empty one, joined by the end -/
theorem cat_rows (c : Nat) : ∀ l : List Str, cat (l.map (· ++ ⟨#[c]⟩)) = Str.join ⟨#[c]⟩ (l ++ [Str.empty])
  | [] => rfl
  | [x] => by
    apply ls_inj
    rw [ls_cat]
    show ls (x ++ ⟨#[c]⟩) ++ [] = ls (x ++ ⟨#[c]⟩ ++ Str.empty)
    rw [ls_app, ls_app, ls_app]
    show _ = _ ++ []
    simp
  | x :: y :: r => by
    rw [List.map_cons, cat_cons, cat_rows c (y :: r)]
    rfl
theorem len_ls (x : Str) : x.length = (ls x).length := by show x.cps.size = x.cps.toList.length; simp
theorem ls_mk (l : List Nat) : ls (⟨l.toArray⟩ : Str) = l := by simp [ls]
theorem ls_sub (x : Str) (i j : Nat) : ls (strSub x i j) = ((ls x).drop i).take (j - i) := StrLaws.strSub_toList x i j
theorem at_ls {x y : Str} {i : Nat} : StrLaws.At x y x.length i ↔ i + (ls y).length ≤ (ls x).length ∧ ((ls x).drop i).take (ls y).length = ls y := by
  unfold StrLaws.At
  rw [StrLaws.subAt_eq, len_ls, len_ls, beq_iff_eq]
  exact Iff.rfl
/-- the first ' : ' -/
theorem part_some {a b y : Str} (hy : ls y = [32, 58, 32]) (ha : 58 ∉ ls a) : Txt.partition (a ++ y ++ b) y = (a, y, b) := by
  have hx : ls (a ++ y ++ b) = ls a ++ (32 :: 58 :: 32 :: ls b) := by rw [ls_app, ls_app, hy, List.append_assoc]; rfl
  have hat : StrLaws.At (a ++ y ++ b) y (a ++ y ++ b).length (ls a).length := at_ls.mpr (by
    rw [hx, hy]
    refine ⟨by simp, ?_⟩
    rw [List.drop_left]; rfl)
  rcases StrLaws.occ_head (a ++ y ++ b) y 1 (Nat.le_refl _) with ⟨_, h⟩ | ⟨i, r, he, hi, hk⟩
  · exact absurd hat (h _)
  · have hle : i ≤ (ls a).length := Nat.le_of_not_lt fun z => hk _ z hat
    have hi' := at_ls.mp hi
    rw [hx, hy] at hi'
    have h58 : (ls a ++ (32 :: 58 :: 32 :: ls b))[i + 1]? = some 58 := by
      have := congrArg (fun l : List Nat => l[1]?) hi'.2
      simp only [List.length_cons, List.length_nil] at this
      rw [List.getElem?_take_of_lt (by omega), List.getElem?_drop] at this
      simpa using this
    have hi2 : i = (ls a).length := by
      rcases Nat.lt_or_ge i (ls a).length with h | h
      · exfalso
        rcases Nat.lt_or_ge (i + 1) (ls a).length with h2 | h2
        · rw [List.getElem?_append_left h2] at h58
          exact ha (List.mem_of_getElem? h58)
        · rw [List.getElem?_append_right h2, show i + 1 - (ls a).length = 0 by omega] at h58
          cases h58
      · omega
    unfold Txt.partition
    rw [he]
    dsimp only
    have e1 : strSub (a ++ y ++ b) 0 i = a := by
      apply ls_inj
      rw [ls_sub, hx, hi2, List.drop_zero, Nat.sub_zero, List.take_left]
    have e2 : strSub (a ++ y ++ b) (i + y.length) (a ++ y ++ b).length = b := by
      apply ls_inj
      rw [ls_sub, len_ls (a ++ y ++ b), hx, len_ls y, hy, hi2]
      have : ls a ++ (32 :: 58 :: 32 :: ls b) = (ls a ++ [32, 58, 32]) ++ ls b := by simp
      rw [this, show (ls a).length + [32, 58, 32].length = (ls a ++ [32, 58, 32]).length by simp, List.drop_left, List.length_append, Nat.add_sub_cancel_left, List.take_length]
    rw [e1, e2]
theorem part_none {a y : Str} (hy : ls y = [32, 58, 32]) (ha : 58 ∉ ls a) : Txt.partition a y = (a, Str.empty, Str.empty) := by
  have hn : ∀ i, ¬ StrLaws.At a y a.length i := fun i hi => by
    have hi' := at_ls.mp hi
    rw [hy] at hi'
    have h58 : (ls a)[i + 1]? = some 58 := by
      have := congrArg (fun l : List Nat => l[1]?) hi'.2
      simp only [List.length_cons, List.length_nil] at this
      rw [List.getElem?_take_of_lt (by omega), List.getElem?_drop] at this
      simpa using this
    exact ha (List.mem_of_getElem? h58)
  rcases StrLaws.occ_head a y 1 (Nat.le_refl _) with ⟨he, _⟩ | ⟨i, r, _, hi, _⟩
  · unfold Txt.partition; rw [he]
  · exact absurd hi (hn i)
/-- blanks ahead -/
theorem lstrip_ahead {a b : Str} (ha : ∀ c ∈ ls a, c = 32) {c : Nat} {r : List Nat} (hb : ls b = c :: r) (hc : c ≠ 32) {y : Str} (hy : ls y = [32]) : Txt.lstripChars (a ++ b) y = b := by
  unfold Txt.lstripChars
  rw [PyProof.Rows.stripBy_eq]
  have hg : ∀ d, y.cps.contains d = decide (d = 32) := fun d => by
    have : y.cps.contains d = (ls y).contains d := by simp [ls]
    rw [this, hy]
    by_cases h : d = 32
    · subst h; rfl
    · rw [decide_eq_false h]; simp; exact h
  have hl : ls (a ++ b) = ls a ++ c :: r := by rw [ls_app, hb]
  have tw : ∀ l : List Nat, (∀ d ∈ l, d = 32) → ((l ++ c :: r).takeWhile y.cps.contains) = l := fun l => by
    induction l with
    | nil =>
      intro _
      rw [List.nil_append, List.takeWhile_cons, if_neg (by rw [hg, decide_eq_false hc]; decide)]
    | cons d l ih =>
      intro h
      rw [List.cons_append, List.takeWhile_cons, if_pos (by rw [hg]; exact decide_eq_true (h d (List.mem_cons_self ..))), ih fun e he => h e (List.mem_cons_of_mem _ he)]
  have e1 : stripLo y.cps.contains true (a ++ b) = (ls a).length := by
    simp only [stripLo, if_true]
    have : (a ++ b).cps.toList = ls a ++ c :: r := hl
    rw [this, tw _ ha]
  apply ls_inj
  rw [ls_sub, e1]
  have e2 : stripHi y.cps.contains false (a ++ b) (ls a).length = (a ++ b).length := by simp [stripHi]
  rw [e2, len_ls, hl, List.drop_left, List.length_append, Nat.add_sub_cancel_left, ← hb, List.take_of_length_le (by rw [hb]; exact Nat.le_refl _)]
end TX

set_option linter.all false
set_option maxHeartbeats 4000000
set_option maxRecDepth 100000
namespace KP
open PySem L2 PyProof.Rows
/-- a tuple or a list -/
def SqE (H : Hp) (a : Addr) (xs : List V) : Prop := H a = some (.tup xs) ∨ H a = some (.lst xs)
section
variable {P : Program} {w : World} {K : PySem.W.Frag} {mg : Str → Option Value} {base : Heap} {A : Adr}
theorem SqE.same {H H' : Hp} {a : Addr} {xs : List V} (s : Same H H') (h : SqE H a xs) : SqE H' a xs := h.imp (s _ _) (s _ _)
theorem SqE.seq {H : Hp} {a : Addr} {xs : List V} (h : SqE H a xs) : SqL K H a xs ∨ SqT K H a xs := h.elim (fun e => .inr (.of e)) fun e => .inl (.of e)
theorem SqE.ix {H : Hp} {a : Addr} {xs : List V} {i : Int} {v : V} {Q : VK} (h : SqE H a xs) (e : atI xs i = some v) (q : Q v H) : rIx K (.ref a) (.int i) H Q :=
  h.elim (fun z => .inr (.inl ⟨a, xs, i, v, rfl, rfl, .of z, e, q⟩)) fun z => .inl ⟨a, xs, i, v, rfl, rfl, .of z, e, q⟩
theorem flat_is {H : Hp} {v : V} (h : flatV v = true) (nb : ∀ x, v ≠ .bl x) : ∃ S, Is K H v S ∧ subTy S "tuple" = false ∧ subTy S "list" = false ∧ subTy S "bool" = false := by
  cases v with
  | non => exact ⟨_, .non, rfl, rfl, rfl⟩
  | bl x => exact absurd rfl (nb x)
  | int i => exact ⟨_, .int i, rfl, rfl, rfl⟩
  | str x => exact ⟨_, .str x, rfl, rfl, rfl⟩
  | _ => cases h
abbrev sc_l_same_0 : Scope := (match defBody s_l_same with | (.If _ (_ :: (.Return (some (.BoolOp _ (_ :: (.Call _ ((.ListComp _ _ sc _) :: _) _ _) :: _) _)) _) :: _) _ _) :: _ => sc | _ => defScope s_l_same)
theorem blk_l_same_0 : Blk (defScope s_l_same) N_l_same sc_l_same_0 ["_law_k"] [0, 1] := ⟨rfl, by decide +kernel, by decide +kernel, by decide +kernel, by decide +kernel⟩
theorem nd_l_same_0 : (capN N_l_same ["_law_k"] [0, 1]).Nodup := by decide +kernel
def spSame (n : Nat) : Sp := fun vs H Q _ => ∃ u v : V, vs = [u, v] ∧ Lk H n u v ∧ ∀ H', Same H H' → Q (.bl true) H'
seal PE PS PSs PA PT PI PG in
theorem same_step (T : Txt K mg A) (n : Nat) (G_l_same : FnOk P w K mg base CX0 n A.f_l_same A.d_l_same P_l_same (spSame n)) : FnOk P w K mg base CX0 (n + 1) A.f_l_same A.d_l_same P_l_same (spSame (n + 1)) := by
  refine T.F_l_same.ok sc_l_same (fun vs H Q E h => ?_) (fun cdv B outer s H vs Q E hr h => ?_)
  · obtain ⟨u, v, rfl, _⟩ := h; rfl
  obtain ⟨u, v, rfl, lk, q⟩ := h
  refine ⟨_, @pss_cons _ _ _ _ _ (ps_if (pt_val (pe_callB call_isi2 rfl T.n_isinstance b_isinstance (pa_cons (pv 1) (pa_cons (pe_tup (pa_cons (pe_bltn rfl T.n_tuple b_tuple (v := .ty "tuple") rfl) (pa_cons (pe_bltn rfl T.n_list b_list (v := .ty "list") rfl) pa_nil))) pa_nil)))) (@pss_cons _ _ _ _ _ (ps_if (PW.pt (pw_or (pt_cmpR op_ne (pe_callB call_isi rfl T.n_isinstance b_isinstance (pa_cons (pv 0) (pa_cons (pe_bltn rfl T.n_tuple b_tuple (v := .ty "tuple") rfl) pa_nil))) (pe_callB call_isi rfl T.n_isinstance b_isinstance (pa_cons (pv 1) (pa_cons (pe_bltn rfl T.n_tuple b_tuple (v := .ty "tuple") rfl) pa_nil))) (nomark _)) (pw_or1 (pt_cmpR op_ne (pe_callB call_isi rfl T.n_isinstance b_isinstance (pa_cons (pv 0) (pa_cons (pe_bltn rfl T.n_list b_list (v := .ty "list") rfl) pa_nil))) (pe_callB call_isi rfl T.n_isinstance b_isinstance (pa_cons (pv 1) (pa_cons (pe_bltn rfl T.n_list b_list (v := .ty "list") rfl) pa_nil))) (nomark _))))) (pss_one (ps_ret pe_bl)) pss_nil)
    (pss_one (ps_ret (pe_and (pe_cmpR op_eq (pe_callB call_len_seq rfl T.n_len b_len (pa_cons (pv 0) pa_nil)) (pe_callB call_len_seq rfl T.n_len b_len (pa_cons (pv 1) pa_nil)) (nomark _)) (pe_one (pe_callB (call_all rfl) rfl T.n_all b_all (pa_cons (pe_comp blk_l_same_0 rfl (pi_range1 rfl T.n_range (pa_cons (pe_callB call_len_seq rfl T.n_len b_len (pa_cons (pv 1) pa_nil)) pa_nil)) (fun _ _ _ _ _ => pg_name (i := 0) nd_l_same_0 rfl (.inl rfl)) (fun _ _ _ _ _ => pif_nil) (fun _ _ _ _ _ => pe_call G_l_same hr rfl T.m_l_same T.F_l_same.kp T.b_l_same .nil pass0 (pa_cons (pe_ix (ix_seqK (K := K) rfl) (pv 1) (pv 0) (fun _ _ => rfl)) (pa_cons (pe_ix (ix_seqK (K := K) rfl) (pv 2) (pv 0) (fun _ _ => rfl)) pa_nil)))) pa_nil))))))) pss_nil)
    (@pss_cons _ _ _ _ _ (ps_if (PW.pt (pw_or (pt_val (pe_callB call_isi rfl T.n_isinstance b_isinstance (pa_cons (pv 1) (pa_cons (pe_bltn rfl T.n_bool b_bool (v := .ty "bool") rfl) pa_nil)))) (pw_or1 (pt_val (pe_callB call_isi rfl T.n_isinstance b_isinstance (pa_cons (pv 0) (pa_cons (pe_bltn rfl T.n_bool b_bool (v := .ty "bool") rfl) pa_nil))))))) (pss_one (ps_ret (pe_and (pe_callB call_isi rfl T.n_isinstance b_isinstance (pa_cons (pv 0) (pa_cons (pe_bltn rfl T.n_bool b_bool (v := .ty "bool") rfl) pa_nil))) (pe_and (pe_callB call_isi rfl T.n_isinstance b_isinstance (pa_cons (pv 1) (pa_cons (pe_bltn rfl T.n_bool b_bool (v := .ty "bool") rfl) pa_nil))) (pe_one (pe_cmpR op_eq (pv 0) (pv 1) (nomark _))))))) pss_nil)
    (pss_one (ps_ret (pe_cmpR op_eq (pv 0) (pv 1) (nomark _))))), ?_⟩
  refine ⟨_, rfl, (by show 2 ≤ sizeLine; decide), fun p hp => ?_⟩
  have s1 : Same H (upd H p (.tup [.ty "tuple", .ty "list"])) := same_upd hp _
  have e1 : upd H p (.tup [.ty "tuple", .ty "list"]) p = some (.tup [.ty "tuple", .ty "list"]) := upd_same
  replace lk := Lk.same s1 lk
  replace q : ∀ H', Same (upd H p (.tup [.ty "tuple", .ty "list"])) H' → Q (.bl true) H' := fun H' z => q H' (s1.trans z)
  generalize upd H p (.tup [.ty "tuple", .ty "list"]) = H1 at s1 e1 q lk ⊢
  rcases lk with ⟨rfl, fl, nb⟩ | ⟨a, b, xs, ys, rfl, rfl, e, hl, k⟩
  · obtain ⟨S, hS, n1, n2, n3⟩ := flat_is (K := K) (H := H1) fl nb
    have k2 : PySem.W.kitAny K (.type S) [.type "tuple", .type "list"] = some false := kit_none fun c hc => by
      simp only [List.mem_cons, List.not_mem_nil, or_false] at hc
      rcases hc with rfl | rfl
      · rw [hS.kit T.kit "tuple", n1]
      · rw [hS.kit T.kit "list", n2]
    have k3 : PySem.W.kitOne K (.type S) (.type "bool") = some false := by rw [hS.kit T.kit "bool", n3]
    have sc : scal u u = true := by cases u <;> first | rfl | cases fl
    refine ⟨u, p, "tuple", "list", _, false, rfl, e1, hS.ty, k2, _, rfl, iteF ?_⟩
    refine ⟨_, rfl, u, "bool", _, false, rfl, hS.ty, k3, _, rfl, iteF ⟨_, rfl, u, "bool", _, false, rfl, hS.ty, k3, _, rfl, iteF ?_⟩⟩
    refine ⟨_, rfl, _, rfl, sc, ?_⟩
    rw [decide_eq_true rfl]
    exact q _ (.refl _)
  · have hx : SqE H1 a xs := e.imp And.left And.left
    have hy : SqE H1 b ys := e.imp And.right And.right
    obtain ⟨S, iA, iB, k2⟩ : ∃ S, Is K H1 (.ref a) S ∧ Is K H1 (.ref b) S ∧ PySem.W.kitAny K (.type S) [.type "tuple", .type "list"] = some true := by
      rcases e with ⟨ea, eb⟩ | ⟨ea, eb⟩
      · exact ⟨_, .tup ea, .tup eb, by unfold PySem.W.kitAny PySem.W.kitOne; rfl⟩
      · refine ⟨_, .lst ea, .lst eb, ?_⟩
        unfold PySem.W.kitAny
        rw [kit_of T.kit (S := "list") (T := "tuple") rfl rfl]
        show PySem.W.kitAny K (.type "list") [.type "list"] = some true
        unfold PySem.W.kitAny PySem.W.kitOne; rfl
    have lxy := k.len
    refine ⟨.ref b, p, "tuple", "list", _, true, rfl, e1, iB.ty, k2, _, rfl, iteT ?_⟩
    refine ⟨_, rfl, .ref a, "tuple", _, _, rfl, iA.ty, iA.kit T.kit "tuple", _, rfl, .ref b, "tuple", _, _, rfl, iB.ty, iB.kit T.kit "tuple", rfl, _, rfl, ite_no (by simp) ?_⟩
    refine ⟨_, rfl, .ref a, "list", _, _, rfl, iA.ty, iA.kit T.kit "list", _, rfl, .ref b, "list", _, _, rfl, iB.ty, iB.kit T.kit "list", rfl, _, rfl, ite_no (by simp) ?_⟩
    refine ⟨_, rfl, a, xs, rfl, hx.seq, _, rfl, b, ys, rfl, hy.seq, rfl, _, rfl, ite_yes (decide_eq_true (by rw [lxy])) ?_⟩
    refine ⟨_, rfl, b, ys, rfl, hy.seq, _, rfl, by omega, by have : (10000 : Nat) ≤ sizeLine := by decide
                                                             omega, blk_rng (n := ((ys.length : Nat) : Int).toNat) (fun j acc H' => acc = List.replicate j (V.bl true) ∧ j ≤ 10000 ∧ Same H1 H') ⟨rfl, by omega, .refl _⟩ (fun j acc H' z => ?_) (fun j acc H' N kk hj z => ?_) fun acc H' z => ?_⟩
    · obtain ⟨rfl, h1, _⟩ := z
      rw [List.length_replicate]
      exact Nat.lt_of_le_of_lt h1 (by decide)
    · obtain ⟨rfl, h1, s2⟩ := z
      have hj' : j < ys.length := by omega
      have hjx : j < xs.length := by omega
      dsimp only [tYes]
      rw [if_pos rfl]
      refine ⟨_, rfl, _, rfl, (hx.same s2).ix (v := xs[j]) (by rw [Int.zero_add]; exact atI_nat (List.getElem?_eq_getElem hjx)) ⟨_, rfl, _, rfl, (hy.same s2).ix (v := ys[j]) (by rw [Int.zero_add]; exact atI_nat (List.getElem?_eq_getElem hj')) ?_⟩⟩
      exact ⟨_, _, rfl, Lk.same s2 (k.get (List.getElem?_eq_getElem hjx) (List.getElem?_eq_getElem hj')), fun H2 s3 => kk _ _ ⟨by rw [← List.replicate_append_replicate (n := j) (m := 1)]; rfl, by omega, s2.trans s3⟩⟩
    · obtain ⟨rfl, h1, s2⟩ := z
      intro l hl2
      have s3 := s2.trans (same_upd hl2 (.lst (List.replicate ((ys.length : Nat) : Int).toNat (V.bl true))))
      refine ⟨l, List.replicate ((ys.length : Nat) : Int).toNat true, rfl, .of (by rw [upd_same, List.map_replicate]), ?_⟩
      rw [show (List.replicate ((ys.length : Nat) : Int).toNat true).all id = true from List.all_eq_true.mpr fun x hx => by rw [(List.mem_replicate.mp hx).2]; rfl]
      exact q _ s3
theorem ok_same (T : Txt K mg A) : ∀ n, FnOk P w K mg base CX0 n A.f_l_same A.d_l_same P_l_same (spSame n)
  | 0 => ⟨fun vs H Q E h => by obtain ⟨_, _, _, h, _⟩ := h; exact h.elim, fun _ _ _ _ _ _ vs Q E _ _ _ _ h => by obtain ⟨_, _, _, h, _⟩ := h; exact h.elim⟩
  | n + 1 => same_step T n (ok_same T n)
end
end KP

set_option linter.all false
set_option maxHeartbeats 4000000
set_option maxRecDepth 100000
/-! a document's text, row by row; what is read back -/
namespace KP
open PySem L2 PyProof.Rows WM TX
def kindOf : Tr → Str
  | .tup [k, _, _, _, _] => strOf k
  | _ => Str.empty
def tagsOf : Tr → List Str
  | .tup [_, _, .tup l, _, _] => l.map strOf
  | _ => []
def moreOf : Tr → Tr
  | .tup [_, _, _, m, _] => m
  | _ => .non
def intOf : Tr → Int
  | .int i => i
  | _ => 0
def dot : Str := "."
def col : Str := " : "
def nl : Str := "\n"
def ind2 : Str := "  "
theorem ls_dot : ls dot = [46] := by decide +kernel
theorem ls_col : ls col = [32, 58, 32] := by decide +kernel
theorem nl_cps : nl = ⟨#[10]⟩ := by decide +kernel
theorem ls_ind : ls ind2 = [32, 32] := by decide +kernel
def rowWords (t : Tr) : List Str := [kindOf t, nameOf t] ++ (if kindOf t = "grid" then [(toString (intOf (moreOf t)) : Str)] else []) ++ (tagsOf t).map (dot ++ ·)
def rowT (t : Tr) : Str := if kindOf t = "words" ∧ strOf (moreOf t) ≠ Str.empty then J (rowWords t) ++ col ++ strOf (moreOf t) else J (rowWords t)
/-- what a box alone is -/
structure Bok (t : Tr) : Prop where
  form : t = .tup [.str (kindOf t), .str (nameOf t), .tup ((tagsOf t).map Tr.str), moreOf t, .tup (kidsOf t)]
  kind : kindOf t ∈ kindsP
  name : nameS (nameOf t) = true
  tags : ∀ x ∈ tagsOf t, nameS x = true
  tlen : (tagsOf t).length ≤ 4
  words : kindOf t = "words" → ∃ x, moreOf t = .str x ∧ wtextS x = true
  grid : kindOf t = "grid" → ∃ i : Int, moreOf t = .int i ∧ 1 ≤ i ∧ i ≤ 9
  other : kindOf t ≠ "words" → kindOf t ≠ "grid" → moreOf t = .non
  kids : (kidsOf t).length ≤ 12
theorem strs_map : ∀ {l : List Tr}, l.all nameT = true → (l.map strOf).map Tr.str = l
  | [], _ => rfl
  | a :: l, h => by
    rw [List.all_cons, Bool.and_eq_true] at h
    obtain ⟨x, rfl⟩ := nameT_str h.1
    rw [List.map_cons, List.map_cons, strs_map h.2]; rfl
theorem alone_ok {t : Tr} (h : aloneT t = true) : Bok t := by
  obtain ⟨k, n, tg, m, l, rfl, hl⟩ := alone_form h
  have h' : (kindT (.str k) && nameT (.str n) && tagsT tg && (moreT k m && kidsT k (.tup l))) = true := h
  simp only [Bool.and_eq_true] at h'
  obtain ⟨⟨⟨hk, hn⟩, ht⟩, hm, _⟩ := h'
  cases tg with
  | tup tl =>
    have ht' : (decide (tl.length ≤ 4) && (tl.all nameT && decide (manyS (tl.map strOf) = tl.length))) = true := ht
    simp only [Bool.and_eq_true, decide_eq_true_eq] at ht'
    obtain ⟨t1, t2, t3⟩ := ht'
    have hkm : k ∈ kindsP := by
      have : (kindsP.any fun y => y == k) = true := hk
      obtain ⟨y, hy, e⟩ := List.any_eq_true.mp this
      rw [← eq_of_beq e]; exact hy
    refine ⟨?_, hkm, hn, fun x hx => ?_, ?_, fun e => ?_, fun e => ?_, fun e1 e2 => ?_, hl⟩
    · show Tr.tup [.str k, .str n, .tup tl, m, .tup l] = .tup [.str k, .str n, .tup ((tl.map strOf).map Tr.str), m, .tup l]
      rw [strs_map t2]
    · have hx' : x ∈ tl.map strOf := hx
      obtain ⟨y, hy, rfl⟩ := List.mem_map.mp hx'
      have := List.all_eq_true.mp t2 y hy
      obtain ⟨z, rfl⟩ := nameT_str this
      exact this
    · show (tl.map strOf).length ≤ 4
      rw [List.length_map]; exact t1
    · have e' : k = "words" := e
      unfold moreT at hm
      rw [if_pos e'] at hm
      cases m with
      | str x => exact ⟨x, rfl, hm⟩
      | _ => cases hm
    · have e' : k = "grid" := e
      unfold moreT at hm
      rw [if_neg (by rw [e']; decide), if_pos e'] at hm
      cases m with
      | int i =>
        have hm' : (decide (0 ≤ i) && (decide (1 ≤ i) && decide (i ≤ 9))) = true := hm
        simp only [Bool.and_eq_true, decide_eq_true_eq] at hm'
        exact ⟨i, rfl, hm'.2⟩
      | _ => cases hm
    · have e1' : ¬ k = "words" := e1
      have e2' : ¬ k = "grid" := e2
      unfold moreT at hm
      rw [if_neg e1', if_neg e2'] at hm
      show m = .non
      cases m with
      | non => rfl
      | _ => cases hm
  | _ => cases ht
/-- signs of texts and names -/
theorem txt_signs : ∀ c ∈ sgTxt.cps.toList, c ≠ 32 ∧ c ≠ 10 ∧ c ≠ 58 := by decide +kernel
theorem nam_signs : ∀ c ∈ sgNam.cps.toList, c ≠ 32 ∧ c ≠ 10 ∧ c ≠ 58 := by decide +kernel
theorem kind_signs : ∀ k ∈ kindsP, (∀ c ∈ ls k, c ≠ 32 ∧ c ≠ 10 ∧ c ≠ 58) ∧ k.length ≤ 6 ∧ 1 ≤ k.length := by decide +kernel
theorem num_signs : ∀ i : Fin 10, (∀ c ∈ ls (toString (i.val : Int) : Str), c ≠ 32 ∧ c ≠ 10 ∧ c ≠ 58) ∧ (toString (i.val : Int) : Str).length ≤ 1 := by decide +kernel
theorem only_mem {x z : Str} (h : hasOnly x z = true) {c : Nat} (hc : c ∈ ls x) : c ∈ z.cps.toList := by
  have := List.all_eq_true.mp h c hc
  rw [signIn_eq] at this
  exact of_decide_eq_true this
theorem name_signs {x : Str} (h : nameS x = true) : (∀ c ∈ ls x, c ≠ 32 ∧ c ≠ 10 ∧ c ≠ 58) ∧ x.length ≤ 8 := by
  unfold nameS at h
  simp only [Bool.and_eq_true, decide_eq_true_eq] at h
  exact ⟨fun c hc => nam_signs c (only_mem h.2.2 hc), by omega⟩
theorem word_signs {x : Str} (h : wtextS x = true) : (∀ c ∈ ls x, c ≠ 10 ∧ c ≠ 58) ∧ x.length ≤ 80 := by
  unfold wtextS at h
  simp only [Bool.and_eq_true, Bool.or_eq_true, decide_eq_true_eq] at h
  obtain ⟨h1, h2⟩ := h
  refine ⟨?_, by omega⟩
  rcases h2 with h2 | h2
  · rw [h2]; intro c hc; cases hc
  · intro c hc
    have e := StrLaws.join_split x bl1
    have e2 : ls x = jn ((Txt.split x bl1).map ls) := by rw [← ls_J]; exact congrArg ls e.symm
    have key : ∀ (l : List Str), l.all wordS = true → ∀ c ∈ jn (l.map ls), c ≠ 10 ∧ c ≠ 58 := by
      intro l
      induction l with
      | nil => intro _ c hc; cases hc
      | cons w l ih =>
        intro hl c hc
        rw [List.all_cons, Bool.and_eq_true] at hl
        have hw : ∀ c ∈ ls w, c ≠ 10 ∧ c ≠ 58 := fun c hc => by
          have h3 := hl.1
          unfold wordS at h3
          simp only [Bool.and_eq_true] at h3
          exact (txt_signs c (only_mem h3.2 hc)).2
        cases l with
        | nil => exact hw c hc
        | cons y r =>
          have hc' : c ∈ ls w ++ 32 :: jn ((y :: r).map ls) := hc
          rcases List.mem_append.mp hc' with h | h
          · exact hw c h
          · rcases List.mem_cons.mp h with h | h
            · subst h; exact ⟨by decide, by decide⟩
            · exact ih hl.2 c h
    rw [e2] at hc
    exact key _ h2 c hc
section
variable {t : Tr} (b : Bok t)
include b
theorem rowWords_signs : ∀ w ∈ rowWords t, ∀ c ∈ ls w, c ≠ 32 ∧ c ≠ 10 ∧ c ≠ 58 := by
  intro w hw
  unfold rowWords at hw
  rcases List.mem_append.mp hw with hw | hw
  · rcases List.mem_append.mp hw with hw | hw
    · simp only [List.mem_cons, List.not_mem_nil, or_false] at hw
      rcases hw with rfl | rfl
      · exact (kind_signs _ b.kind).1
      · exact (name_signs b.name).1
    · split at hw
      · rename_i e
        obtain ⟨i, e2, h1, h9⟩ := b.grid e
        rw [List.mem_singleton.mp hw, e2]
        have := num_signs ⟨i.toNat, by omega⟩
        rw [show ((i.toNat : Nat) : Int) = i by omega] at this
        exact this.1
      · cases hw
  · obtain ⟨x, hx, rfl⟩ := List.mem_map.mp hw
    intro c hc
    rw [ls_app, ls_dot] at hc
    rcases List.mem_append.mp hc with hc | hc
    · rw [List.mem_singleton.mp hc]; exact ⟨by decide, by decide, by decide⟩
    · exact (name_signs (b.tags x hx)).1 c hc
theorem rowWords_ne : rowWords t ≠ [] := by unfold rowWords; simp
theorem rowWords_split : Txt.split (J (rowWords t)) bl = rowWords t := split_words (fun w hw h => (rowWords_signs b w hw 32 h).1 rfl) (rowWords_ne b)
theorem jn_signs : ∀ {l : List (List Nat)}, (∀ w ∈ l, ∀ c ∈ w, c ≠ 32 ∧ c ≠ 10 ∧ c ≠ 58) → ∀ c ∈ jn l, c ≠ 10 ∧ c ≠ 58
  | [], _, c, hc => by cases hc
  | [x], h, c, hc => (h x (List.mem_cons_self ..) c hc).2
  | x :: y :: r, h, c, hc => by
    have hc' : c ∈ x ++ 32 :: jn (y :: r) := hc
    rcases List.mem_append.mp hc' with h1 | h1
    · exact (h x (List.mem_cons_self ..) c h1).2
    · rcases List.mem_cons.mp h1 with h2 | h2
      · subst h2; exact ⟨by decide, by decide⟩
      · exact jn_signs (fun w hw => h w (List.mem_cons_of_mem _ hw)) c h2
theorem head_signs : ∀ c ∈ ls (J (rowWords t)), c ≠ 10 ∧ c ≠ 58 := by
  rw [ls_J]
  exact jn_signs b fun w hw => by obtain ⟨x, hx, rfl⟩ := List.mem_map.mp hw; exact rowWords_signs b x hx
theorem more_signs (h : kindOf t = "words") : (∀ c ∈ ls (strOf (moreOf t)), c ≠ 10 ∧ c ≠ 58) ∧ (strOf (moreOf t)).length ≤ 80 := by
  obtain ⟨x, e, hx⟩ := b.words h
  rw [e]; exact word_signs hx
theorem row_signs : ∀ c ∈ ls (rowT t), c ≠ 10 := by
  intro c hc
  unfold rowT at hc
  split at hc
  · rename_i e
    rw [ls_app, ls_app, ls_col] at hc
    rcases List.mem_append.mp hc with hc | hc
    · rcases List.mem_append.mp hc with hc | hc
      · exact (head_signs b c hc).1
      · simp only [List.mem_cons, List.not_mem_nil, or_false] at hc
        rcases hc with rfl | rfl | rfl <;> decide
    · exact ((more_signs b e.1).1 c hc).1
  · exact (head_signs b c hc).1
/-- the first ' : ' of a row -/
theorem row_part : Txt.partition (rowT t) col = (J (rowWords t), if kindOf t = "words" ∧ strOf (moreOf t) ≠ Str.empty then col else Str.empty, if kindOf t = "words" then strOf (moreOf t) else Str.empty) := by
  have h58 : 58 ∉ ls (J (rowWords t)) := fun h => (head_signs b 58 h).2 rfl
  unfold rowT
  by_cases e : kindOf t = "words" ∧ strOf (moreOf t) ≠ Str.empty
  · rw [if_pos e, if_pos e, if_pos e.1, part_some ls_col h58]
  · rw [if_neg e, if_neg e, part_none ls_col h58]
    by_cases e1 : kindOf t = "words"
    · rw [if_pos e1]
      have : strOf (moreOf t) = Str.empty := Classical.byContradiction fun z => e ⟨e1, z⟩
      rw [this]
    · rw [if_neg e1]
theorem row_first : ∃ c r, ls (rowT t) = c :: r ∧ c ≠ 32 := by
  obtain ⟨h1, _, h3⟩ := kind_signs _ b.kind
  obtain ⟨c, r, e⟩ : ∃ c r, ls (kindOf t) = c :: r := by
    rw [len_ls] at h3
    cases h : ls (kindOf t) with
    | nil => rw [h] at h3; cases h3
    | cons c r => exact ⟨c, r, rfl⟩
  have hc : c ≠ 32 := (h1 c (by rw [e]; exact List.mem_cons_self ..)).1
  have hJ : ∃ r', ls (J (rowWords t)) = c :: r' := by
    rw [ls_J]
    unfold rowWords
    refine ⟨r ++ 32 :: jn ((nameOf t :: ((if kindOf t = "grid" then [(toString (intOf (moreOf t)) : Str)] else []) ++ (tagsOf t).map (dot ++ ·))).map ls), ?_⟩
    show jn ((kindOf t :: nameOf t :: ((if kindOf t = "grid" then [(toString (intOf (moreOf t)) : Str)] else []) ++ (tagsOf t).map (dot ++ ·))).map ls) = _
    rw [List.map_cons, List.map_cons]
    show ls (kindOf t) ++ 32 :: jn _ = _
    rw [e]; rfl
  obtain ⟨r', e'⟩ := hJ
  unfold rowT
  split
  · exact ⟨c, r' ++ [32, 58, 32] ++ ls (strOf (moreOf t)), by rw [ls_app, ls_app, e', ls_col]; rfl, hc⟩
  · exact ⟨c, r', e', hc⟩
end
theorem app_len' (a b : Str) : (a ++ b).length = a.length + b.length := by
  show (a.cps ++ b.cps).size = _
  rw [Array.size_append]; rfl
theorem jn_len : ∀ l : List (List Nat), (jn l).length ≤ (l.map List.length).sum + l.length
  | [] => Nat.le_refl _
  | [x] => by show x.length ≤ x.length + 0 + 1; omega
  | x :: y :: r => by
    have := jn_len (y :: r)
    show (x ++ 32 :: jn (y :: r)).length ≤ x.length + ((y :: r).map List.length).sum + ((y :: r).length + 1)
    rw [List.length_append, List.length_cons]; omega
theorem sum_b {b : Nat} : ∀ {l : List Nat}, (∀ x ∈ l, x ≤ b) → l.sum ≤ l.length * b
  | [], _ => by simp
  | x :: l, h => by
    have := sum_b fun y hy => h y (List.mem_cons_of_mem _ hy)
    have := h x (List.mem_cons_self ..)
    rw [List.sum_cons, List.length_cons, Nat.succ_mul]; omega
theorem rowWords_len {t : Tr} (b : Bok t) : (rowWords t).length ≤ 7 ∧ ∀ w ∈ rowWords t, w.length ≤ 9 := by
  constructor
  · unfold rowWords
    rw [List.length_append, List.length_append, List.length_map]
    have := b.tlen
    split <;> simp <;> omega
  · intro w hw
    unfold rowWords at hw
    rcases List.mem_append.mp hw with hw | hw
    · rcases List.mem_append.mp hw with hw | hw
      · simp only [List.mem_cons, List.not_mem_nil, or_false] at hw
        rcases hw with rfl | rfl
        · have := (kind_signs _ b.kind).2.1; omega
        · have := (name_signs b.name).2; omega
      · split at hw
        · rename_i e
          obtain ⟨i, e2, h1, h9⟩ := b.grid e
          rw [List.mem_singleton.mp hw, e2]
          have := num_signs ⟨i.toNat, by omega⟩
          rw [show ((i.toNat : Nat) : Int) = i by omega] at this
          have := this.2
          show (toString i : Str).length ≤ 9
          omega
        · cases hw
    · obtain ⟨x, hx, rfl⟩ := List.mem_map.mp hw
      have := (name_signs (b.tags x hx)).2
      rw [app_len']
      have : dot.length = 1 := by decide +kernel
      omega
theorem J_len' {t : Tr} (b : Bok t) : (J (rowWords t)).length ≤ 70 := by
  obtain ⟨h1, h2⟩ := rowWords_len b
  rw [len_ls, ls_J]
  have h3 := jn_len ((rowWords t).map ls)
  have h4 : (((rowWords t).map ls).map List.length).sum ≤ (((rowWords t).map ls).map List.length).length * 9 := sum_b fun x hx => by
    obtain ⟨y, hy, rfl⟩ := List.mem_map.mp hx
    obtain ⟨z, hz, rfl⟩ := List.mem_map.mp hy
    rw [← len_ls]; exact h2 z hz
  rw [List.length_map, List.length_map] at h4
  rw [List.length_map] at h3
  omega
theorem row_len {t : Tr} (b : Bok t) : (rowT t).length ≤ 153 := by
  have := J_len' b
  unfold rowT
  split
  · rename_i e
    have := (more_signs b e.1).2
    rw [app_len', app_len']
    have : col.length = 3 := by decide +kernel
    omega
  · omega
end KP

set_option linter.all false
set_option maxHeartbeats 4000000
set_option maxRecDepth 100000
/-! all boxes in order with how deep they are; the stack that reads them back -/
namespace KP
open PySem L2 PyProof.Rows WM TX
def nodesF : Nat → Nat → Tr → List (Nat × Tr)
  | 0, _, _ => []
  | f + 1, d, t => (d, t) :: ((kidsOf t).map (nodesF f (d + 1))).flatten
def lineOf (p : Nat × Tr) : Str := repS ind2 p.1 ++ rowT p.2
def linesF (f d : Nat) (t : Tr) : List Str := (nodesF f d t).map lineOf
/-- good boxes, at most so many deep -/
def fits : Nat → Tr → Bool
  | 0, _ => false
  | f + 1, t => aloneT t && (kidsOf t).all (fits f)
theorem fits_alone {f : Nat} {t : Tr} (h : fits (f + 1) t = true) : aloneT t = true ∧ ∀ k ∈ kidsOf t, fits f k = true := by
  have h' : (aloneT t && (kidsOf t).all (fits f)) = true := h
  rw [Bool.and_eq_true] at h'
  exact ⟨h'.1, fun k hk => List.all_eq_true.mp h'.2 k hk⟩
/-- the walk over what waits: each thing in it is good and no deeper than there is room -/
theorem run_fits : ∀ (n : Nat) (st : List (Tr × Nat)) (ns : List Str), runT n st ns = true → ∀ p ∈ st, p.2 ≤ 8 ∧ fits (9 - p.2) p.1 = true
  | 0, _, _, h, _, _ => by cases h
  | n + 1, [], _, _, p, hp => by cases hp
  | n + 1, (t, d) :: st, ns, h, p, hp => by
    have h' : (if (aloneT t && decide (d ≤ 8) && !ns.contains (nameOf t) && decide (ns.length < 40)) = true then runT n ((kidsOf t).reverse.map (fun k => (k, d + 1)) ++ st) (nameOf t :: ns) else false) = true := h
    split at h'
    · rename_i c
      simp only [Bool.and_eq_true, decide_eq_true_eq] at c
      have ih := run_fits n _ _ h'
      rcases List.mem_cons.mp hp with rfl | hp
      · refine ⟨c.1.1.2, ?_⟩
        obtain ⟨f, hf⟩ : ∃ f, 9 - d = f + 1 := ⟨8 - d, by have := c.1.1.2; omega⟩
        show fits (9 - d) t = true
        rw [hf]
        show (aloneT t && (kidsOf t).all (fits f)) = true
        rw [c.1.1.1, Bool.true_and]
        refine List.all_eq_true.mpr fun k hk => ?_
        have := (ih (k, d + 1) (List.mem_append_left _ (List.mem_map.mpr ⟨k, List.mem_reverse.mpr hk, rfl⟩))).2
        rwa [show 9 - (d + 1) = f by omega] at this
      · exact ih p (List.mem_append_right _ hp)
    · cases h'
def manyN (p : Tr × Nat) : Nat := (nodesF (9 - p.2) 0 p.1).length
theorem nodes_len : ∀ (f d e : Nat) (t : Tr), (nodesF f d t).length = (nodesF f e t).length
  | 0, _, _, _ => rfl
  | f + 1, d, e, t => by
    show (((kidsOf t).map (nodesF f (d + 1))).flatten).length + 1 = (((kidsOf t).map (nodesF f (e + 1))).flatten).length + 1
    rw [List.length_flatten, List.length_flatten, List.map_map, List.map_map]
    congr 2
    exact List.map_congr_left fun k _ => nodes_len f (d + 1) (e + 1) k
theorem sum_rev (l : List Nat) : l.reverse.sum = l.sum := by simp
theorem run_many : ∀ (n : Nat) (st : List (Tr × Nat)) (ns : List Str), ns.length ≤ 40 → runT n st ns = true → (st.map manyN).sum + ns.length ≤ 40
  | 0, _, _, _, h => by cases h
  | n + 1, [], ns, hn, _ => by simpa using hn
  | n + 1, (t, d) :: st, ns, hn, h => by
    have h' : (if (aloneT t && decide (d ≤ 8) && !ns.contains (nameOf t) && decide (ns.length < 40)) = true then runT n ((kidsOf t).reverse.map (fun k => (k, d + 1)) ++ st) (nameOf t :: ns) else false) = true := h
    split at h'
    · rename_i c
      simp only [Bool.and_eq_true, decide_eq_true_eq] at c
      have ih := run_many n _ _ (by rw [List.length_cons]; omega) h'
      rw [List.map_append, List.sum_append, List.map_map, List.length_cons, List.map_reverse, sum_rev] at ih
      rw [List.map_cons, List.sum_cons]
      have e : manyN (t, d) = ((kidsOf t).map (manyN ∘ fun k => (k, d + 1))).sum + 1 := by
        obtain ⟨f, hf⟩ : ∃ f, 9 - d = f + 1 := ⟨8 - d, by have := c.1.1.2; omega⟩
        show (nodesF (9 - d) 0 t).length = _
        rw [hf]
        show (((kidsOf t).map (nodesF f 1)).flatten).length + 1 = _
        rw [List.length_flatten, List.map_map]
        congr 2
        refine List.map_congr_left fun k _ => ?_
        show (nodesF f 1 k).length = (nodesF (9 - (d + 1)) 0 k).length
        rw [show 9 - (d + 1) = f by omega, nodes_len f 1 0]
      omega
    · cases h'
/-- a document: good boxes, eight deep, forty -/
theorem doc_fits {t : Tr} (h : docT t = true) : fits 8 t = true ∧ (nodesF 8 0 t).length ≤ 40 := by
  refine ⟨(run_fits 42 _ _ h (t, 1) (List.mem_singleton.mpr rfl)).2, ?_⟩
  have := run_many 42 _ _ (by simp) h
  have e : ([(t, 1)] : List (Tr × Nat)).map manyN = [(nodesF 8 0 t).length] := rfl
  rw [e] at this
  simpa using this
theorem nodes_fit : ∀ {f d : Nat} {t : Tr}, fits f t = true → ∀ p ∈ nodesF f d t, aloneT p.2 = true ∧ d ≤ p.1 ∧ p.1 < d + f
  | 0, _, _, h, _, _ => by cases h
  | f + 1, d, t, h, p, hp => by
    obtain ⟨h1, h2⟩ := fits_alone h
    rcases List.mem_cons.mp hp with rfl | hp
    · exact ⟨h1, Nat.le_refl _, by show d < d + (f + 1); omega⟩
    · obtain ⟨l, hl, hp⟩ := List.mem_flatten.mp hp
      obtain ⟨k, hk, rfl⟩ := List.mem_map.mp hl
      obtain ⟨a, b, c⟩ := nodes_fit (h2 k hk) p hp
      exact ⟨a, by omega, by omega⟩
/-- what waits behind the rows that were read, from the last on -/
def stk : List (Nat × Tr) → List (Nat × Tr)
  | [] => []
  | p :: r => p :: (stk r).dropWhile fun q => q.1 == p.1 + 1
def GoodN : List (Nat × Tr) → Prop
  | [] => True
  | p :: r => (stk r).takeWhile (fun q => q.1 == p.1 + 1) = (kidsOf p.2).map (fun k => (p.1 + 1, k)) ∧ GoodN r
theorem tw_app {α : Type} (p : α → Bool) : ∀ (l m : List α), (∀ a ∈ l, p a = true) → (∀ a ∈ m, p a = false) → (l ++ m).takeWhile p = l ∧ (l ++ m).dropWhile p = m
  | [], [], _, _ => ⟨rfl, rfl⟩
  | [], a :: m, _, h => by
    have ha := h a (List.mem_cons_self ..)
    rw [List.nil_append, List.takeWhile_cons, List.dropWhile_cons, if_neg (by rw [ha]; decide), if_neg (by rw [ha]; decide)]
    exact ⟨rfl, rfl⟩
  | a :: l, m, h1, h2 => by
    obtain ⟨i1, i2⟩ := tw_app p l m (fun b hb => h1 b (List.mem_cons_of_mem _ hb)) h2
    have ha := h1 a (List.mem_cons_self ..)
    rw [List.cons_append, List.takeWhile_cons, List.dropWhile_cons, if_pos ha, if_pos ha, i1, i2]
    exact ⟨rfl, rfl⟩
theorem stk_node : ∀ (f d : Nat) (t : Tr) (r : List (Nat × Tr)), fits f t = true → GoodN r → (∀ p ∈ stk r, p.1 ≤ d) → GoodN (nodesF f d t ++ r) ∧ stk (nodesF f d t ++ r) = (d, t) :: stk r
  | 0, _, _, _, h, _, _ => by cases h
  | f + 1, d, t, r, h, hr, hd => by
    obtain ⟨h1, h2⟩ := fits_alone h
    have forest : ∀ ks : List Tr, (∀ k ∈ ks, fits f k = true) → GoodN ((ks.map (nodesF f (d + 1))).flatten ++ r) ∧ stk ((ks.map (nodesF f (d + 1))).flatten ++ r) = ks.map (fun k => (d + 1, k)) ++ stk r := by
      intro ks
      induction ks with
      | nil => intro _; exact ⟨hr, rfl⟩
      | cons k ks ih =>
        intro hk
        obtain ⟨i1, i2⟩ := ih fun x hx => hk x (List.mem_cons_of_mem _ hx)
        rw [List.map_cons, List.flatten_cons, List.append_assoc]
        obtain ⟨j1, j2⟩ := stk_node f (d + 1) k ((ks.map (nodesF f (d + 1))).flatten ++ r) (hk k (List.mem_cons_self ..)) i1 (fun p hp => by
          rw [i2] at hp
          rcases List.mem_append.mp hp with hp | hp
          · obtain ⟨x, _, rfl⟩ := List.mem_map.mp hp; exact Nat.le_refl _
          · have := hd p hp; omega)
        refine ⟨j1, ?_⟩
        rw [j2, i2]; rfl
    obtain ⟨i1, i2⟩ := forest (kidsOf t) h2
    have hsp := tw_app (fun q : Nat × Tr => q.1 == d + 1) ((kidsOf t).map fun k => (d + 1, k)) (stk r) (fun a ha => by obtain ⟨x, _, rfl⟩ := List.mem_map.mp ha; simp) (fun a ha => by have := hd a ha; simp; omega)
    have e : nodesF (f + 1) d t ++ r = (d, t) :: (((kidsOf t).map (nodesF f (d + 1))).flatten ++ r) := rfl
    rw [e]
    refine ⟨⟨?_, i1⟩, ?_⟩
    · show (stk _).takeWhile (fun q => q.1 == d + 1) = (kidsOf t).map fun k => (d + 1, k)
      rw [i2]; exact hsp.1
    · show (d, t) :: (stk _).dropWhile (fun q => q.1 == d + 1) = _
      rw [i2, hsp.2]
/-- read back: all boxes give the root alone -/
theorem stk_doc {t : Tr} (h : fits 8 t = true) : GoodN (nodesF 8 0 t) ∧ stk (nodesF 8 0 t) = [(0, t)] := by
  have := stk_node 8 0 t [] h trivial (fun p hp => by cases hp)
  rwa [List.append_nil] at this
theorem good_drop : ∀ {l : List (Nat × Tr)} (i : Nat), GoodN l → GoodN (l.drop i)
  | _, 0, h => h
  | [], i + 1, _ => trivial
  | p :: r, i + 1, h => good_drop i h.2
/-- the text of a document -/
def catL (l : List Str) : Str := cat (l.map (· ++ nl))
def textF (f d : Nat) (t : Tr) : Str := catL (linesF f d t)
def textT (t : Tr) : Str := textF 8 0 t
theorem lines_step (f d : Nat) (t : Tr) : linesF (f + 1) d t = lineOf (d, t) :: ((kidsOf t).map (linesF f (d + 1))).flatten := by
  unfold linesF
  show (nodesF (f + 1) d t).map lineOf = _
  rw [nodesF, List.map_cons, List.map_flatten, List.map_map]
  rfl
theorem catL_flat : ∀ l : List (List Str), catL l.flatten = cat (l.map catL)
  | [] => rfl
  | a :: l => by
    unfold catL at *
    rw [List.flatten_cons, List.map_append, cat_app, List.map_cons, cat_cons]
    congr 1
    exact catL_flat l
theorem text_step (f d : Nat) (t : Tr) : textF (f + 1) d t = lineOf (d, t) ++ nl ++ cat ((kidsOf t).map (textF f (d + 1))) := by
  unfold textF
  rw [lines_step]
  have : catL (lineOf (d, t) :: ((kidsOf t).map (linesF f (d + 1))).flatten) = (lineOf (d, t) ++ nl) ++ catL ((kidsOf t).map (linesF f (d + 1))).flatten := by
    unfold catL; rw [List.map_cons, cat_cons]
  rw [this, catL_flat, List.map_map]; rfl
theorem rep_blank (d : Nat) : ∀ c ∈ ls (repS ind2 d), c = 32 := by
  intro c hc
  have hc' : c ∈ (List.replicate d (ls ind2)).flatten := by
    have : ls (repS ind2 d) = (List.replicate d (ls ind2)).flatten := ls_mk _
    rw [← this]; exact hc
  obtain ⟨l, hl, hc⟩ := List.mem_flatten.mp hc'
  rw [List.eq_of_mem_replicate hl, ls_ind] at hc
  simpa using hc
theorem line_len {p : Nat × Tr} (b : Bok p.2) (h : p.1 ≤ 8) : (lineOf p).length ≤ 169 := by
  unfold lineOf
  have := row_len b
  have e : ind2.length = 2 := by decide +kernel
  rw [app_len', repS_len, e]; omega
theorem lines_nl {f d : Nat} {t : Tr} (h : fits f t = true) : ∀ w ∈ linesF f d t, 10 ∉ ls w := by
  intro w hw hc
  obtain ⟨p, hp, rfl⟩ := List.mem_map.mp hw
  obtain ⟨a, _, _⟩ := nodes_fit h p hp
  unfold lineOf at hc
  rw [ls_app] at hc
  rcases List.mem_append.mp hc with hc | hc
  · have := rep_blank _ _ hc; omega
  · exact row_signs (alone_ok a) _ hc rfl
/-- the text cut at its ends -/
theorem text_split {t : Tr} (h : fits 8 t = true) : Txt.split (textT t) nl = linesF 8 0 t ++ [Str.empty] := by
  have e : textT t = Str.join ⟨#[10]⟩ (linesF 8 0 t ++ [Str.empty]) := by
    show cat ((linesF 8 0 t).map (· ++ nl)) = _
    rw [nl_cps]; exact cat_rows 10 _
  rw [e, nl_cps]
  refine split_join (fun w hw => ?_) (by simp)
  rcases List.mem_append.mp hw with hw | hw
  · exact lines_nl h w hw
  · rw [List.mem_singleton.mp hw]; exact fun z => by cases z
theorem cat_len : ∀ {l : List Str} {b : Nat}, (∀ x ∈ l, x.length ≤ b) → (cat l).length ≤ l.length * b
  | [], _, _ => by show 0 ≤ _; exact Nat.zero_le _
  | x :: l, b, h => by
    rw [cat_cons, app_len', List.length_cons, Nat.succ_mul]
    have := h x (List.mem_cons_self ..)
    have := cat_len fun y hy => h y (List.mem_cons_of_mem _ hy)
    omega
theorem text_len {f d : Nat} {t : Tr} (h : fits f t = true) (hd : d + f ≤ 9) : (textF f d t).length ≤ (nodesF f d t).length * 170 := by
  have : (textF f d t).length ≤ ((linesF f d t).map (· ++ nl)).length * 170 := cat_len fun x hx => by
    obtain ⟨y, hy, rfl⟩ := List.mem_map.mp hx
    obtain ⟨p, hp, rfl⟩ := List.mem_map.mp hy
    obtain ⟨a, b, c⟩ := nodes_fit h p hp
    have := line_len (alone_ok a) (show p.1 ≤ 8 by omega)
    have e : nl.length = 1 := by decide +kernel
    rw [app_len', e]; omega
  rwa [List.length_map, show (linesF f d t).length = (nodesF f d t).length from List.length_map ..] at this
end KP

set_option linter.all false
set_option maxHeartbeats 4000000
set_option maxRecDepth 100000
namespace KP
open PySem L2 PyProof.Rows WM TX
theorem nx_go {D : Ends} {σ : L2.St} {H : Hp} (h : D.nx σ H) : tNext D σ H := h
theorem box_open {H : Hp} {t : Tr} {v : V} (h : TrAt H t v) (b : Bok t) : ∃ (a tg ks : Addr) (mv : V) (kv : List V), v = .ref a ∧ H a = some (.tup [.str (kindOf t), .str (nameOf t), .ref tg, mv, .ref ks]) ∧ H tg = some (.tup ((tagsOf t).map V.str)) ∧ TrAt H (moreOf t) mv ∧ H ks = some (.tup kv) ∧ TrsAt H (kidsOf t) kv := by
  have h' := h
  rw [b.form] at h'
  obtain ⟨a, vs, rfl, ea, k⟩ := h'.tupE
  cases k with
  | @cons _ v0 _ _ a0 k =>
  cases k with
  | @cons _ v1 _ _ a1 k =>
  cases k with
  | @cons _ v2 _ _ a2 k =>
  cases k with
  | @cons _ v3 _ _ a3 k =>
  cases k with
  | @cons _ v4 _ _ a4 k =>
  cases k
  cases a0
  cases a1
  obtain ⟨tg, tv, rfl, et, kt⟩ := a2.tupE
  obtain ⟨ks, kv, rfl, ek, kk⟩ := a4.tupE
  have etv : ∀ {l : List Str} {tv : List V}, TrsAt H (l.map Tr.str) tv → tv = l.map V.str := by
    intro l
    induction l with
    | nil => intro tv h; cases h; rfl
    | cons x l ih =>
      intro tv h
      cases h with
      | cons h t => cases h; rw [ih t]; rfl
  rw [etv kt] at et
  exact ⟨a, tg, ks, v3, kv, rfl, ea, et, a3, ek, kk⟩
section
variable {P : Program} {w : World} {K : PySem.W.Frag} {mg : Str → Option Value} {base : Heap} {A : Adr}
abbrev sc_row_of_0 : Scope := (match defBody s_row_of with | _ :: _ :: (.Expr (.Call _ ((.ListComp _ _ sc _) :: _) _ _) _) :: _ => sc | _ => defScope s_row_of)
theorem blk_row_of_0 : Blk (defScope s_row_of) N_row_of sc_row_of_0 ["tag"] [] := ⟨rfl, by decide +kernel, by decide +kernel, by decide +kernel, by decide +kernel⟩
theorem nd_row_of_0 : (capN N_row_of ["tag"] []).Nodup := by decide +kernel
def spRowOf : Sp := fun vs H Q _ => ∃ (v : V) (t : Tr), vs = [v] ∧ TrAt H t v ∧ aloneT t = true ∧ ∀ H', Same H H' → Q (.str (rowT t)) H'
seal PE PS PSs PA PT PI PG in
theorem ok_row_of (T : Txt K mg A) : FnOk P w K mg base CX0 1 A.f_row_of A.d_row_of P_row_of spRowOf := by
  refine T.F_row_of.ok sc_row_of (fun vs H Q E h => ?_) (fun cdv B outer s H vs Q E hr h => ?_)
  · obtain ⟨v, t, rfl, _⟩ := h; rfl
  obtain ⟨v, t, rfl, h, al, q⟩ := h
  refine ⟨_, @pss_cons _ _ _ _ _ (ps_set (i := 1) sc_row_of.nd rfl (Or.inl rfl) (pe_lst (pa_cons (pe_ix ix_tup (pv 0) pe_int (fun _ _ => rfl)) (pa_cons (pe_ix ix_tup (pv 0) pe_int (fun _ _ => rfl)) pa_nil))))
    (@pss_cons _ _ _ _ _ (ps_if (pt_cmpR op_eq (pe_ix ix_tup (pv 0) pe_int (fun _ _ => rfl)) pe_str (nomark _)) (pss_one (ps_expr (pe_bm PySem.F.plainAttrs_list PySem.F.slot_list_append PySem.F.type_list_append mt_append (pv 1) (pa_cons (pe_callTy call_str_int rfl T.n_str b_str (pa_cons (pe_ix ix_tup (pv 0) pe_int (fun _ _ => rfl)) pa_nil)) pa_nil)))) pss_nil)
    (@pss_cons _ _ _ _ _ (ps_expr (pe_bm PySem.F.plainAttrs_list PySem.F.slot_list_extend PySem.F.type_list_extend mt_extend (pv 1) (pa_cons (pe_comp blk_row_of_0 rfl (pi_seq (pe_ix ix_tup (pv 0) pe_int (fun _ _ => rfl))) (fun _ _ _ _ _ => pg_name (i := 0) nd_row_of_0 rfl (.inl rfl)) (fun _ _ _ _ _ => pif_nil) (fun _ _ _ _ _ => pe_op op_add_str pe_str (pv 0))) pa_nil)))
    (@pss_cons _ _ _ _ _ (ps_set (i := 2) sc_row_of.nd rfl (Or.inl rfl) (pe_bm PySem.F.plainAttrs_str PySem.F.slot_str_join PySem.F.type_str_join mt_join pe_str (pa_cons (pv 1) pa_nil)))
    (@pss_cons _ _ _ _ _ (ps_if (PW.pt (pw_and (pt_cmpR op_eq (pe_ix ix_tup (pv 0) pe_int (fun _ _ => rfl)) pe_str (nomark _)) (pw_and1 (pt_cmpR op_ne (pe_ix ix_tup (pv 0) pe_int (fun _ _ => rfl)) pe_str (nomark _))))) (pss_one (ps_set (i := 2) sc_row_of.nd rfl (Or.inl rfl) (pe_op op_add_str (pe_op op_add_str (pv 2) pe_str) (pe_ix ix_tup (pv 0) pe_int (fun _ _ => rfl))))) pss_nil)
    (pss_one (ps_ret (pv 2))))))), ?_⟩
  have b := alone_ok al
  obtain ⟨a, tg, ks, mv, kv, rfl, ea, et, am, ek, ak⟩ := box_open h b
  refine ⟨_, rfl, a, _, _, _, rfl, rfl, .of ea, rfl, _, rfl, a, _, _, _, rfl, rfl, .of ea, rfl, small (by simp), fun wl hwl => ?_⟩
  have s1 : Same H (upd H wl (.lst [V.str (kindOf t), V.str (nameOf t)])) := same_upd hwl _
  have e1 : upd H wl (.lst [V.str (kindOf t), V.str (nameOf t)]) wl = some (.lst ([kindOf t, nameOf t].map V.str)) := upd_same
  generalize upd H wl (.lst [V.str (kindOf t), V.str (nameOf t)]) = H1 at s1 e1 ⊢
  dsimp only [gName]; show tSeq _ _ _ _ _
  refine seq_joinI (fun σ' H' => σ' = [some (.ref a), some (.ref wl), none] ∧ Same H H' ∧ H' wl = some (.lst (([kindOf t, nameOf t] ++ (if kindOf t = "grid" then [(toString (intOf (moreOf t)) : Str)] else [])).map V.str))) (fun N kN => ?_) ?_
  · refine ⟨_, rfl, a, _, _, _, rfl, rfl, .of (s1 _ _ ea), rfl, rfl, _, rfl, ?_⟩
    by_cases hg : kindOf t = "grid"
    · obtain ⟨i, ei, i1, i9⟩ := b.grid hg
      rw [ei] at am
      cases am
      refine ite_yes (decide_eq_true (by rw [hg])) ?_
      refine ⟨_, rfl, .inl ⟨rfl, _, .of e1⟩, _, rfl, a, _, _, _, rfl, rfl, .of (s1 _ _ ea), rfl, i, rfl, ?_, wl, _, _, rfl, rfl, e1, small1000 (by simp), kN _ _ ⟨rfl, ?_, ?_⟩⟩
      · have : ∀ j : Fin 10, (j.val : Int).natAbs.log2 < 1920 := by decide +kernel
        have := this ⟨i.toNat, by omega⟩
        rwa [show ((i.toNat : Nat) : Int) = i by omega] at this
      · exact fun c u z => by rw [upd_ne (ne_of_none z hwl)]; exact s1 _ _ z
      · rw [upd_same, if_pos hg, ei]; rfl
    · refine ite_no (decide_eq_false fun z => hg (by injection z)) ?_
      refine nx_go (kN _ _ ⟨rfl, s1, ?_⟩)
      rw [e1, if_neg hg, List.append_nil]
  rintro σ2 H2 ⟨rfl, s2, e2⟩
  have ht4 := b.tlen
  refine ⟨_, rfl, .inl ⟨rfl, _, .of e2⟩, _, rfl, a, _, _, _, rfl, rfl, .of (s2 _ _ ea), rfl, tg, rfl, .inr ⟨⟨_, .of (s2 _ _ et)⟩,
    blk_tup (xs := (tagsOf t).map V.str) (fun i acc H' => H2 = H' ∧ i ≤ 4 ∧ acc = ((tagsOf t).take i).map (fun x => V.str (dot ++ x))) ⟨rfl, by omega, rfl⟩ (fun i acc H' z => ?_) (fun i acc H' z => ?_) (fun i x acc H' N kk hx z => ?_) fun acc H' z => ?_⟩⟩
  · rw [← z.1]; exact .of (s2 _ _ et)
  · rw [z.2.2, List.length_map, List.length_take]; exact small1000 (by omega)
  · obtain ⟨rfl, h4, rfl⟩ := z
    dsimp only [tYes]; rw [if_pos rfl]
    obtain ⟨y, hy, rfl⟩ : ∃ y, (tagsOf t)[i]? = some y ∧ x = V.str y := by
      rw [List.getElem?_map] at hx
      cases hy : (tagsOf t)[i]? with
      | none => rw [hy] at hx; cases hx
      | some y => rw [hy] at hx; cases hx; exact ⟨y, rfl, rfl⟩
    have hi : i < (tagsOf t).length := (List.getElem?_eq_some_iff.mp hy).1
    have hl := (name_signs (b.tags y (List.mem_of_getElem? hy))).2
    refine ⟨_, rfl, dot, y, rfl, rfl, small ?_, kk _ _ ⟨rfl, by omega, ?_⟩⟩
    · have : dot.length = 1 := by decide +kernel
      omega
    · rw [List.take_add_one, hy, List.map_append]; rfl
  · obtain ⟨rfl, h4, rfl⟩ := z
    rw [List.length_map, List.take_length] at *
    intro l3 hl3
    have n3 : l3 ≠ wl := fun z => by rw [z, e2] at hl3; cases hl3
    have s3 : Same H (upd H2 l3 (.lst ((tagsOf t).map fun x => V.str (dot ++ x)))) := s2.trans (same_upd hl3 _)
    refine ⟨wl, l3, _, _, rfl, rfl, by rw [upd_ne n3.symm]; exact e2, upd_same, ?_, ?_⟩
    · rw [List.length_map, List.length_map, List.length_append]
      refine small ?_
      split <;> simp <;> omega
    have e4 : upd (upd H2 l3 (.lst ((tagsOf t).map fun x => V.str (dot ++ x)))) wl (.lst ((([kindOf t, nameOf t] ++ (if kindOf t = "grid" then [(toString (intOf (moreOf t)) : Str)] else [])).map V.str) ++ ((tagsOf t).map fun x => V.str (dot ++ x)))) wl = some (.lst ((rowWords t).map V.str)) := by
      rw [upd_same]
      unfold rowWords
      rw [List.map_append, List.map_append, List.map_append, List.map_map]; rfl
    have s4 : Same H (upd (upd H2 l3 (.lst ((tagsOf t).map fun x => V.str (dot ++ x)))) wl (.lst ((([kindOf t, nameOf t] ++ (if kindOf t = "grid" then [(toString (intOf (moreOf t)) : Str)] else [])).map V.str) ++ ((tagsOf t).map fun x => V.str (dot ++ x))))) := fun c u z => by rw [upd_ne (ne_of_none z hwl)]; exact s3 _ _ z
    generalize upd (upd H2 l3 (.lst ((tagsOf t).map fun x => V.str (dot ++ x)))) wl (.lst ((([kindOf t, nameOf t] ++ (if kindOf t = "grid" then [(toString (intOf (moreOf t)) : Str)] else [])).map V.str) ++ ((tagsOf t).map fun x => V.str (dot ++ x)))) = H4 at e4 s4 ⊢
    have hj := rowWords_len b
    have hjl := J_len' b
    refine ⟨rfl, _, rfl, bl, wl, rowWords t, rfl, rfl, .of e4, ?_, ?_⟩
    · have : ((rowWords t).map (·.length)).sum ≤ ((rowWords t).map (·.length)).length * 9 := sum_b fun x hx => by
        obtain ⟨y, hy, rfl⟩ := List.mem_map.mp hx
        exact hj.2 y hy
      rw [List.length_map] at this
      have e : bl.length = 1 := by decide +kernel
      rw [e]; omega
    dsimp only [gName]; show tSeq _ _ _ _ _
    refine seq_joinI (fun σ' H' => σ' = [some (.ref a), some (.ref wl), some (.str (rowT t))] ∧ H' = H4) (fun N kN => ?_) ?_
    · refine ⟨_, rfl, a, _, _, _, rfl, rfl, .of (s4 _ _ ea), rfl, rfl, _, rfl, ?_⟩
      by_cases hw : kindOf t = "words"
      · obtain ⟨x, ex, hx⟩ := b.words hw
        have hx80 := (word_signs hx).2
        rw [ex] at am
        cases am with
        | str _ hx4 =>
        refine ite_yes (decide_eq_true (by rw [hw])) ?_
        refine ⟨_, rfl, a, _, _, _, rfl, rfl, .of (s4 _ _ ea), rfl, rfl, _, rfl, ?_⟩
        by_cases hx0 : x = Str.empty
        · refine ite_no (by rw [hx0]; rfl) ?_
          refine nx_go (kN _ _ ⟨?_, rfl⟩)
          unfold rowT
          rw [if_neg (fun z => z.2 (by rw [ex]; exact hx0))]; rfl
        · refine ite_yes (by rw [decide_eq_false fun z => hx0 (by injection z)]; rfl) ?_
          have c3 : col.length = 3 := by decide +kernel
          refine ⟨_, rfl, J (rowWords t), col, rfl, rfl, small (by omega), _, rfl, a, _, _, _, rfl, rfl, .of (s4 _ _ ea), rfl, J (rowWords t) ++ col, x, rfl, rfl, small (by rw [app_len']; omega), kN _ _ ⟨?_, rfl⟩⟩
          unfold rowT
          rw [if_pos ⟨hw, by rw [ex]; exact hx0⟩, ex]; rfl
      · refine ite_no (decide_eq_false fun z => hw (by injection z)) ?_
        refine iteF ?_
        refine nx_go (kN _ _ ⟨?_, rfl⟩)
        unfold rowT
        rw [if_neg fun z => hw z.1]; rfl
    rintro σ5 H5 ⟨rfl, rfl⟩
    exact ⟨_, rfl, q _ s4⟩
end
end KP

set_option linter.all false
set_option maxHeartbeats 4000000
set_option maxRecDepth 100000
namespace KP
open PySem L2 PyProof.Rows WM TX
theorem lines_take (f d : Nat) (t : Tr) (i : Nat) : ((((kidsOf t).take i).map (linesF f (d + 1))).flatten).length + 1 ≤ (nodesF (f + 1) d t).length := by
  have e : (nodesF (f + 1) d t).length = (linesF (f + 1) d t).length := (List.length_map ..).symm
  rw [e, lines_step, List.length_cons]
  have h2 : ((kidsOf t).map (linesF f (d + 1))).flatten = (((kidsOf t).take i).map (linesF f (d + 1))).flatten ++ (((kidsOf t).drop i).map (linesF f (d + 1))).flatten := by
    rw [← List.flatten_append, ← List.map_append, List.take_append_drop]
  rw [h2, List.length_append]; omega
theorem take_kid {f d : Nat} {t k : Tr} {i : Nat} (hk : (kidsOf t)[i]? = some k) : (((kidsOf t).take (i + 1)).map (linesF f (d + 1))).flatten = (((kidsOf t).take i).map (linesF f (d + 1))).flatten ++ linesF f (d + 1) k := by
  rw [List.take_add_one, hk, List.map_append, List.flatten_append]; simp
section
variable {P : Program} {w : World} {K : PySem.W.Frag} {mg : Str → Option Value} {base : Heap} {A : Adr}

def spRowsOf (f : Nat) : Sp := fun vs H Q _ => ∃ (v : V) (t : Tr) (d : Nat), vs = [v, .int (d : Int)] ∧ TrAt H t v ∧ fits f t = true ∧ d + f ≤ 8 ∧ (nodesF f d t).length ≤ 40 ∧ ∀ l H', Same H H' → H l = none → H' l = some (.lst ((linesF f d t).map V.str)) → Q (.ref l) H'
seal PE PS PSs PA PT PI PG in
theorem rows_of_step (T : Txt K mg A) (f : Nat) (G_rows_of : FnOk P w K mg base CX0 (f + 1) A.f_rows_of A.d_rows_of P_rows_of (spRowsOf f)) : FnOk P w K mg base CX0 (f + 2) A.f_rows_of A.d_rows_of P_rows_of (spRowsOf (f + 1)) := by
  have G_row_of := (ok_row_of (P := P) (w := w) (base := base) T).mono (show 1 ≤ f + 1 by omega)
  refine T.F_rows_of.ok sc_rows_of (fun vs H Q E h => ?_) (fun cdv B outer s H vs Q E hr h => ?_)
  · obtain ⟨v, t, d, rfl, _⟩ := h; rfl
  obtain ⟨v, t, d, rfl, h, fi, hd, hn, q⟩ := h
  refine ⟨_, @pss_cons _ _ _ _ _ (ps_set (i := 2) sc_rows_of.nd rfl (Or.inl rfl) (pe_lst (pa_cons (pe_op op_add_str (pe_op op_repX pe_str (pv 1)) (pe_call G_row_of hr rfl T.m_row_of T.F_row_of.kp T.b_row_of .nil pass0 (pa_cons (pv 0) pa_nil))) pa_nil)))
    (@pss_cons _ _ _ _ _ (ps_for PassesOwn.never rfl (pi_tup (pe_ix ix_tup (pv 0) pe_int (fun _ _ => rfl))) (pg_name (i := 3) sc_rows_of.nd rfl (Or.inl rfl)) (pss_one (ps_expr (pe_bm PySem.F.plainAttrs_list PySem.F.slot_list_extend PySem.F.type_list_extend mt_extend (pv 2) (pa_cons (pe_call G_rows_of hr rfl T.m_rows_of T.F_rows_of.kp T.b_rows_of .nil pass0 (pa_cons (pv 3) (pa_cons (pe_op op_add (pv 1) pe_int) pa_nil))) pa_nil)))))
    (pss_one (ps_ret (pv 2)))), ?_⟩
  obtain ⟨al, fk⟩ := fits_alone fi
  have b := alone_ok al
  obtain ⟨a, tg, ks, mv, kv, rfl, ea, et, am, ek, ak⟩ := box_open h b
  have i2 : ind2.length = 2 := by decide +kernel
  have hrl := row_len b
  refine ⟨_, rfl, ind2, (d : Int), rfl, rfl, by omega, by omega, by rw [i2]; decide, _, rfl, .ref a, t, rfl, h, al, fun H1 s1 => ⟨repS ind2 d, rowT t, rfl, rfl, small ?_, small (by simp), fun l hl => ?_⟩⟩
  · rw [repS_len, i2]; omega
  have hl0 : H l = none := none_of' s1 hl
  have s2 : Same H (upd H1 l (.lst [V.str (repS ind2 d ++ rowT t)])) := s1.trans (same_upd hl _)
  have e2 : upd H1 l (.lst [V.str (repS ind2 d ++ rowT t)]) l = some (.lst ((lineOf (d, t) :: (((kidsOf t).take 0).map (linesF f (d + 1))).flatten).map V.str)) := upd_same
  generalize upd H1 l (.lst [V.str (repS ind2 d ++ rowT t)]) = H2 at s2 e2 ⊢
  have lk := ak.len
  dsimp only [gName]; show tSeq _ _ _ _ _
  refine ⟨_, rfl, a, _, _, _, rfl, rfl, .of (s2 _ _ ea), rfl, ks, rfl, ⟨_, .of (s2 _ _ ek)⟩, for_tup (xs := kv) (fun i σ H' => ∃ x3, σ = [some (.ref a), some (.int (d : Int)), some (.ref l), x3] ∧ Same H H' ∧ H' l = some (.lst ((lineOf (d, t) :: (((kidsOf t).take i).map (linesF f (d + 1))).flatten).map V.str))) ⟨_, rfl, s2, e2⟩ (fun i σ H' hi z => ?_) (fun i x σ H' hx z => ?_) fun σ H' z => ?_⟩
  · obtain ⟨_, _, s3, _⟩ := z; exact .of (s3 _ _ ek)
  · obtain ⟨x3, rfl, s3, e3⟩ := z
    have hi : i < (kidsOf t).length := by have := (List.getElem?_eq_some_iff.mp hx).1; omega
    have ek' : (kidsOf t)[i]? = some (kidsOf t)[i] := List.getElem?_eq_getElem hi
    have km : (kidsOf t)[i] ∈ kidsOf t := List.getElem_mem hi
    have L1 := lines_take f d t (i + 1)
    rw [take_kid ek', List.length_append] at L1
    have L2 : (nodesF f (d + 1) (kidsOf t)[i]).length = (linesF f (d + 1) (kidsOf t)[i]).length := (List.length_map ..).symm
    refine ⟨_, rfl, .inl ⟨rfl, _, .of e3⟩, _, rfl, _, rfl, _, _, rfl, rfl, x, (kidsOf t)[i], d + 1, rfl, (ak.get ek' hx).same s3, fk _ km, by omega, by omega, fun l2 H4 s4 hl2 e4 => ?_⟩
    have e3' := s4 _ _ e3
    have n2 : l2 ≠ l := fun z => by rw [z, e3] at hl2; cases hl2
    refine ⟨l, l2, _, _, rfl, rfl, e3', e4, ?_, _, rfl, ?_, ?_⟩
    · rw [List.length_map, List.length_map, List.length_cons]; exact small (by omega)
    · exact fun c u z => by rw [upd_ne (ne_of_none z hl0)]; exact s4 _ _ (s3 _ _ z)
    · rw [upd_same, take_kid ek', ← List.map_append, List.cons_append]
  · obtain ⟨x3, rfl, s3, e3⟩ := z
    rw [← lk, List.take_length, ← lines_step] at e3
    exact ⟨_, rfl, q l H' s3 hl0 e3⟩
theorem ok_rows_of (T : Txt K mg A) : ∀ f, FnOk P w K mg base CX0 (f + 1) A.f_rows_of A.d_rows_of P_rows_of (spRowsOf f)
  | 0 => ⟨fun vs H Q E h => (by obtain ⟨_, _, _, _, _, h, _⟩ := h; cases h), fun _ _ _ _ _ _ vs Q E _ _ _ _ h => (by obtain ⟨_, _, _, _, _, h, _⟩ := h; cases h)⟩
  | f + 1 => rows_of_step T f (ok_rows_of T f)
abbrev sc_document_text_0 : Scope := (match defBody s_document_text with | _ :: (.Return (some (.Call _ ((.ListComp _ _ sc _) :: _) _ _)) _) :: _ => sc | _ => defScope s_document_text)
theorem blk_document_text_0 : Blk (defScope s_document_text) N_document_text sc_document_text_0 ["row"] [] := ⟨rfl, by decide +kernel, by decide +kernel, by decide +kernel, by decide +kernel⟩
theorem nd_document_text_0 : (capN N_document_text ["row"] []).Nodup := by decide +kernel
def spDocText (c0 : Addr) : Sp := fun vs H Q E => ∃ (v : V) (t : Tr), vs = [v] ∧ TrAt H t v ∧ (docT t = true → ∀ H', Same H H' → Q (.str (textT t)) H') ∧ (docT t = false → ∀ H', Same H H' → E (.ref c0) none H')
seal PE PS PSs PA PT PI PG in
theorem ok_document_text (T : Txt K mg A) : FnOk P w K mg base (CXW P w) 10 A.f_document_text A.d_document_text P_document_text (spDocText A.c_NoBox) := by
  have G_need_document := (ok_need_document (P := P) (w := w) (base := base) T).mono (show 6 ≤ 9 by decide)
  have G_rows_of := ok_rows_of (P := P) (w := w) (base := base) T 8
  refine T.F_document_text.okW sc_document_text (fun vs H Q E h => ?_) (fun cdv B outer s H vs Q E hr h => ?_)
  · obtain ⟨v, t, rfl, _⟩ := h; rfl
  obtain ⟨v, t, rfl, h, qg, qb⟩ := h
  refine ⟨_, @pss_cons _ _ _ _ _ (ps_expr (pe_call G_need_document hr rfl T.m_need_document T.F_need_document.kp T.b_need_document .nil (passW fun _ _ _ z => z) (pa_cons (pv 0) pa_nil)))
    (pss_one (ps_ret (pe_bm PySem.F.plainAttrs_str PySem.F.slot_str_join PySem.F.type_str_join mt_joinB pe_str (pa_cons (pe_comp blk_document_text_0 rfl (pi_seq (pe_call G_rows_of hr rfl T.m_rows_of T.F_rows_of.kp T.b_rows_of .nil pass0 (pa_cons (pv 0) (pa_cons pe_int pa_nil)))) (fun _ _ _ _ _ => pg_name (i := 0) nd_document_text_0 rfl (.inl rfl)) (fun _ _ _ _ _ => pif_nil) (fun _ _ _ _ _ => pe_op op_add_str (pv 0) pe_str)) pa_nil)))), ?_⟩
  refine ⟨_, rfl, v, t, rfl, h, fun hd H1 s1 => ?_, fun hd H1 s1 => qb hd _ s1⟩
  replace qg := qg hd
  obtain ⟨f8, n40⟩ := doc_fits hd
  have L0 : (linesF 8 0 t).length = (nodesF 8 0 t).length := List.length_map ..
  refine ⟨rfl, _, rfl, v, t, 0, rfl, h.same s1, f8, by decide, n40, fun l H2 s2 hl e2 => ?_⟩
  refine ⟨l, rfl, .inl ⟨⟨_, .of e2⟩, blk_list (xs := (linesF 8 0 t).map V.str) (fun i acc H' => H2 = H' ∧ i ≤ 40 ∧ acc = (((linesF 8 0 t).take i).map (· ++ nl)).map V.str) ⟨rfl, by omega, rfl⟩ (fun i acc H' z => ?_) (fun i acc H' z => ?_) (fun i x acc H' N kk hx z => ?_) fun acc H' z => ?_⟩⟩
  · rw [← z.1]; exact .of e2
  · rw [z.2.2, List.length_map, List.length_map, List.length_take]; exact small1000 (by have := z.2.1; omega)
  · obtain ⟨rfl, h4, rfl⟩ := z
    dsimp only [tYes]; rw [if_pos rfl]
    obtain ⟨y, hy, rfl⟩ : ∃ y, (linesF 8 0 t)[i]? = some y ∧ x = V.str y := by
      rw [List.getElem?_map] at hx
      cases hy : (linesF 8 0 t)[i]? with
      | none => rw [hy] at hx; cases hx
      | some y => rw [hy] at hx; cases hx; exact ⟨y, rfl, rfl⟩
    have hi : i < (linesF 8 0 t).length := (List.getElem?_eq_some_iff.mp hy).1
    obtain ⟨p, hp, ep⟩ := List.mem_map.mp (List.mem_of_getElem? hy)
    obtain ⟨pa, pb, pc⟩ := nodes_fit f8 p hp
    have hl := line_len (alone_ok pa) (show p.1 ≤ 8 by omega)
    rw [ep] at hl
    refine ⟨_, rfl, y, nl, rfl, rfl, small ?_, kk _ _ ⟨rfl, by omega, ?_⟩⟩
    · have : nl.length = 1 := by decide +kernel
      omega
    · rw [List.take_add_one, hy, List.map_append, List.map_append]; rfl
  · obtain ⟨rfl, h4, rfl⟩ := z
    rw [List.length_map, List.take_length] at *
    intro l3 hl3
    refine ⟨Str.empty, l3, (linesF 8 0 t).map (· ++ nl), rfl, rfl, .of upd_same, ?_, ?_⟩
    · have : (((linesF 8 0 t).map (· ++ nl)).map (·.length)).sum ≤ (((linesF 8 0 t).map (· ++ nl)).map (·.length)).length * 170 := sum_b fun x hx => by
        obtain ⟨y, hy, rfl⟩ := List.mem_map.mp hx
        obtain ⟨z, hz, rfl⟩ := List.mem_map.mp hy
        obtain ⟨p, hp, rfl⟩ := List.mem_map.mp hz
        obtain ⟨pa, pb, pc⟩ := nodes_fit f8 p hp
        have hl := line_len (alone_ok pa) (show p.1 ≤ 8 by omega)
        have : nl.length = 1 := by decide +kernel
        rw [app_len']; omega
      rw [List.length_map, List.length_map] at this
      have e : Str.empty.length = 0 := rfl
      rw [e, List.length_map]; omega
    · rw [join_empty]
      exact qg _ ((s1.trans s2).trans (same_upd hl3 _))
/-- of good documents -/
def spDocText0 : Sp := fun vs H Q _ => ∃ (v : V) (t : Tr), vs = [v] ∧ TrAt H t v ∧ docT t = true ∧ ∀ H', Same H H' → Q (.str (textT t)) H'
theorem ok_document_text0 (T : Txt K mg A) : FnOk P w K mg base CX0 10 A.f_document_text A.d_document_text P_document_text spDocText0 :=
  FnOk.calm (ok_document_text T) fun vs H Q E ⟨v, t, e, h, d, q⟩ => ⟨v, t, e, h, fun _ => q, fun z => by rw [d] at z; cases z⟩
end
end KP

set_option linter.all false
set_option maxHeartbeats 4000000
set_option maxRecDepth 100000
namespace KP
open PySem L2 PyProof.Rows WM TX
def colsP : List Str := ["1", "2", "3", "4", "5", "6", "7", "8", "9"]
theorem cols_in : ∀ i : Fin 9, (colsP.any fun y => y == (toString (1 + (i.val : Int)) : Str)) = true := by decide +kernel
theorem cols_in' {i : Int} (h1 : 1 ≤ i) (h9 : i ≤ 9) : (colsP.any fun y => y == (toString i : Str)) = true := by
  have := cols_in ⟨(i - 1).toNat, by omega⟩
  rwa [show 1 + (((i - 1).toNat : Nat) : Int) = i by omega] at this
theorem cut_from (xs : List V) (n : Nat) (h : n ≤ xs.length) : cutV xs (some (n : Int)) none = xs.drop n := by
  unfold cutV
  rw [HT.sIx_none, HT.sIx_nat, Nat.min_eq_left h, List.take_of_length_le (by rw [List.length_drop]; exact Nat.le_refl _)]
section
variable {P : Program} {w : World} {K : PySem.W.Frag} {mg : Str → Option Value} {base : Heap} {A : Adr}
def spColumns : Sp := fun vs H Q _ => ∃ (p : Addr) (i : Int) (r : List Str), vs = [.ref p] ∧ 1 ≤ i ∧ i ≤ 9 ∧ H p = some (.lst (((toString i : Str) :: r).map V.str)) ∧ Q (.int i) H
seal PE PS PSs PA PT PI PG in
theorem ok_columns_of (T : Txt K mg A) : FnOk P w K mg base CX0 1 A.f_columns_of A.d_columns_of P_columns_of spColumns := by
  obtain ⟨a_COLUMNS, hg_COLUMNS, hq⟩ := T.g_COLUMNS
  refine T.F_columns_of.ok sc_columns_of (fun vs H Q E h => ?_) (fun cdv B outer s H vs Q E hr h => ?_)
  · obtain ⟨p, i, r, rfl, _⟩ := h; rfl
  obtain ⟨p, i, r, rfl, h1, h9, ep, q⟩ := h
  refine ⟨_, pss_one (ps_ret (pe_ifExp (PW.pt (pw_and (pt_truth (pv 0) (fun _ => rfl)) (pw_and1 (pt_cmpR op_in_seq (pe_ix ix_list (pv 0) pe_int (fun _ _ => rfl)) (pe_glob rfl hg_COLUMNS (v := .ref a_COLUMNS) rfl) rfl)))) (pe_callTy call_intT rfl T.n_int b_int (pa_cons (pe_ix ix_list (pv 0) pe_int (fun _ _ => rfl)) pa_nil)) pe_non)), ?_⟩
  have a0 : atI (((toString i : Str) :: r).map V.str) 0 = some (V.str (toString i : Str)) := atI_nat (j := 0) rfl
  refine ⟨_, rfl, _, .inl ⟨_, .of ep, rfl⟩, ite_yes rfl ⟨_, rfl, p, _, _, _, rfl, rfl, .of ep, a0, a_COLUMNS, _, rfl, .inr (tupIn_sq hq H), rfl, flat_strs _, _, rfl, ?_⟩⟩
  rw [if_neg (show ¬ (false = true) by decide), inV_str]
  refine ite_yes (cols_in' h1 h9) ?_
  exact ⟨_, rfl, p, _, _, _, rfl, rfl, .of ep, a0, i, rfl, by omega, by omega, q⟩
abbrev sc_read_row_0 : Scope := (match defBody s_read_row with | _ :: _ :: _ :: _ :: _ :: _ :: _ :: _ :: (.Return (some (.Tuple (_ :: _ :: (.Call _ ((.ListComp _ _ sc _) :: _) _ _) :: _) _ _)) _) :: _ => sc | _ => defScope s_read_row)
theorem blk_read_row_0 : Blk (defScope s_read_row) N_read_row sc_read_row_0 ["tag"] [] := ⟨rfl, by decide +kernel, by decide +kernel, by decide +kernel, by decide +kernel⟩
theorem nd_read_row_0 : (capN N_read_row ["tag"] []).Nodup := by decide +kernel
def spReadRow : Sp := fun vs H Q _ => ∃ (t : Tr) (lk : Addr) (kv : List V), vs = [.str (rowT t), .ref lk] ∧ aloneT t = true ∧ H lk = some (.lst kv) ∧ TrsAt H (kidsOf t) kv ∧ ∀ v H', Same H H' → TrAt H' t v → Q v H'
seal PE PS PSs PA PT PI PG in
theorem ok_read_row (T : Txt K mg A) : FnOk P w K mg base CX0 2 A.f_read_row A.d_read_row P_read_row spReadRow := by
  have G_columns_of := ok_columns_of (P := P) (w := w) (base := base) T
  refine T.F_read_row.ok sc_read_row (fun vs H Q E h => ?_) (fun cdv B outer s H vs Q E hr h => ?_)
  · obtain ⟨t, lk, kv, rfl, _⟩ := h; rfl
  obtain ⟨t, lk, kv, rfl, al, ek, ak, q⟩ := h
  refine ⟨_, @pss_cons _ _ _ _ _ (ps_set (i := 2) sc_read_row.nd rfl (Or.inl rfl) (pe_bm PySem.F.plainAttrs_str PySem.F.slot_str_partition PySem.F.type_str_partition mt_partition (pv 0) (pa_cons pe_str pa_nil)))
    (@pss_cons _ _ _ _ _ (ps_set (i := 3) sc_read_row.nd rfl (Or.inl rfl) (pe_bm PySem.F.plainAttrs_str PySem.F.slot_str_split PySem.F.type_str_split mt_split (pe_ix ix_tup (pv 2) pe_int (fun _ _ => rfl)) (pa_cons pe_str pa_nil)))
    (@pss_cons _ _ _ _ _ (ps_if (pt_cmpR op_lt (pe_callB call_len_seq rfl T.n_len b_len (pa_cons (pv 3) pa_nil)) pe_int (nomark _)) pss_never pss_nil)
    (@pss_cons _ _ _ _ _ (ps_set (i := 4) sc_read_row.nd rfl (Or.inl rfl) (pe_ix ix_list (pv 3) pe_int (fun _ _ => rfl)))
    (@pss_cons _ _ _ _ _ (ps_set (i := 5) sc_read_row.nd rfl (Or.inl rfl) pe_non)
    (@pss_cons _ _ _ _ _ (ps_set (i := 6) sc_read_row.nd rfl (Or.inl rfl) (pe_slice sl_list (pv 3) (po_some pe_int) po_none))
    (@pss_cons _ _ _ _ _ (ps_if (pt_cmpR op_eq (pv 4) pe_str (nomark _)) (pss_one (ps_set (i := 5) sc_read_row.nd rfl (Or.inl rfl) (pe_ix ix_tup (pv 2) pe_int (fun _ _ => rfl)))) pss_nil)
    (@pss_cons _ _ _ _ _ (ps_if (pt_cmpR op_eq (pv 4) pe_str (nomark _)) (@pss_cons _ _ _ _ _ (ps_set (i := 5) sc_read_row.nd rfl (Or.inl rfl) (pe_call G_columns_of hr rfl T.m_columns_of T.F_columns_of.kp T.b_columns_of .nil pass0 (pa_cons (pv 6) pa_nil)))
    (pss_one (ps_set (i := 6) sc_read_row.nd rfl (Or.inl rfl) (pe_slice sl_list (pv 6) (po_some pe_int) po_none)))) pss_nil)
    (pss_one (ps_ret (pe_tup (pa_cons (pv 4) (pa_cons (pe_ix ix_list (pv 3) pe_int (fun _ _ => rfl)) (pa_cons (pe_callTy call_tuple_of rfl T.n_tuple b_tuple (pa_cons (pe_comp blk_read_row_0 rfl (pi_seq (pv 6)) (fun _ _ _ _ _ => pg_name (i := 0) nd_read_row_0 rfl (.inl rfl)) (fun _ _ _ _ _ => pif_nil) (fun _ _ _ _ _ => pe_slice sl_str (pv 0) (po_some pe_int) po_none)) pa_nil)) (pa_cons (pv 5) (pa_cons (pe_callTy call_tuple_of rfl T.n_tuple b_tuple (pa_cons (pv 1) pa_nil)) pa_nil))))))))))))))), ?_⟩
  have b := alone_ok al
  have hrl := row_len b
  have hjl := J_len' b
  have hwl := rowWords_len b
  have c3 : (col.length == 0) = false := by decide +kernel
  have b1 : (bl.length == 0) = false := by decide +kernel
  refine ⟨_, rfl, rfl, rowT t, col, rfl, rfl, c3, by omega, fun p hp => ?_⟩
  rw [row_part b]
  have s1 := same_upd hp (.tup [V.str (J (rowWords t)), V.str (if kindOf t = "words" ∧ strOf (moreOf t) ≠ Str.empty then col else Str.empty), V.str (if kindOf t = "words" then strOf (moreOf t) else Str.empty)])
  have e1 : upd H p (.tup [V.str (J (rowWords t)), V.str (if kindOf t = "words" ∧ strOf (moreOf t) ≠ Str.empty then col else Str.empty), V.str (if kindOf t = "words" then strOf (moreOf t) else Str.empty)]) p = some _ := upd_same
  dsimp only
  generalize upd H p (.tup [V.str (J (rowWords t)), V.str (if kindOf t = "words" ∧ strOf (moreOf t) ≠ Str.empty then col else Str.empty), V.str (if kindOf t = "words" then strOf (moreOf t) else Str.empty)]) = H1 at s1 e1 ⊢
  refine ⟨_, rfl, p, _, _, _, rfl, rfl, .of e1, rfl, rfl, J (rowWords t), bl, rfl, rfl, b1, by omega, by rw [rowWords_split b]; omega, fun wl hwl' => ?_⟩
  rw [rowWords_split b]
  have s2 := s1.trans (same_upd hwl' (.lst ((rowWords t).map V.str)))
  have e2 : upd H1 wl (.lst ((rowWords t).map V.str)) wl = some (.lst ((rowWords t).map V.str)) := upd_same
  have e1' := (same_upd hwl' (.lst ((rowWords t).map V.str))) _ _ e1
  generalize upd H1 wl (.lst ((rowWords t).map V.str)) = H2 at s2 e2 e1' ⊢
  have two : 2 ≤ (rowWords t).length := by unfold rowWords; simp
  refine ⟨_, rfl, wl, _, rfl, .inl (.of e2), _, _, rfl, rfl, _, rfl, ite_no (decide_eq_false (by rw [List.length_map]; omega)) ?_⟩
  have a0 : atI ((rowWords t).map V.str) 0 = some (V.str (kindOf t)) := atI_nat (j := 0) rfl
  have a1 : atI ((rowWords t).map V.str) 1 = some (V.str (nameOf t)) := atI_nat (j := 1) rfl
  refine ⟨_, rfl, wl, _, _, _, rfl, rfl, .of e2, a0, ?_⟩
  (try dsimp only [gName]); show tSeq _ _ _ _ _
  refine seq_setC ?_
  (try dsimp only [gName]); show tSeq _ _ _ _ _
  refine ⟨_, rfl, 2, rfl, wl, _, rfl, .of e2, fun tl htl => ?_⟩
  have ec : cutV ((rowWords t).map V.str) (some 2) none = ((rowWords t).drop 2).map V.str := by
    rw [show (some (2 : Int)) = some ((2 : Nat) : Int) from rfl, cut_from _ _ (by rw [List.length_map]; exact two), List.map_drop]
  rw [ec]
  have s3 := s2.trans (same_upd htl (.lst (((rowWords t).drop 2).map V.str)))
  have e3 : upd H2 tl (.lst (((rowWords t).drop 2).map V.str)) tl = some (.lst (((rowWords t).drop 2).map V.str)) := upd_same
  have e1'' := (same_upd htl (.lst (((rowWords t).drop 2).map V.str))) _ _ e1'
  have e2' := (same_upd htl (.lst (((rowWords t).drop 2).map V.str))) _ _ e2
  generalize upd H2 tl (.lst (((rowWords t).drop 2).map V.str)) = H3 at s3 e3 e1'' e2' ⊢
  have d2 : (rowWords t).drop 2 = (if kindOf t = "grid" then [(toString (intOf (moreOf t)) : Str)] else []) ++ (tagsOf t).map (dot ++ ·) := by unfold rowWords; rfl
  (try dsimp only [gName]); show tSeq _ _ _ _ _
  refine seq_joinI (fun σ' H' => H' = H3 ∧ ∃ mv, σ' = [some (.str (rowT t)), some (.ref lk), some (.ref p), some (.ref wl), some (.str (kindOf t)), some mv, some (.ref tl)] ∧ (kindOf t = "grid" ∨ TrAt H3 (moreOf t) mv)) (fun N kN => ?_) ?_
  · refine ⟨_, rfl, rfl, _, rfl, ?_⟩
    by_cases hw : kindOf t = "words"
    · obtain ⟨x, ex, hx⟩ := b.words hw
      have hx80 := (word_signs hx).2
      refine ite_yes (decide_eq_true (by rw [hw])) ?_
      refine ⟨_, rfl, p, _, _, _, rfl, rfl, .of e1'', rfl, kN _ _ ⟨rfl, _, rfl, .inr ?_⟩⟩
      rw [if_pos hw, ex]
      exact .str x (by omega)
    · refine ite_no (decide_eq_false fun z => hw (by injection z)) ?_
      refine nx_go (kN _ _ ⟨rfl, _, rfl, ?_⟩)
      by_cases hg : kindOf t = "grid"
      · exact .inl hg
      · rw [b.other hw hg]; exact .inr .non
  rintro σ4 H4 ⟨rfl, mv, rfl, hmv⟩
  (try dsimp only [gName]); show tSeq _ _ _ _ _
  refine seq_joinI (fun σ' H' => Same H H' ∧ ∃ mv t2, σ' = [some (.str (rowT t)), some (.ref lk), some (.ref p), some (.ref wl), some (.str (kindOf t)), some mv, some (.ref t2)] ∧ TrAt H' (moreOf t) mv ∧ H' t2 = some (.lst (((tagsOf t).map (dot ++ ·)).map V.str)) ∧ H' wl = some (.lst ((rowWords t).map V.str))) (fun N kN => ?_) ?_
  · refine ⟨_, rfl, rfl, _, rfl, ?_⟩
    by_cases hg : kindOf t = "grid"
    · obtain ⟨i, ei, i1, i9⟩ := b.grid hg
      rw [d2, if_pos hg, ei] at e3
      refine ite_yes (decide_eq_true (by rw [hg])) ?_
      refine ⟨_, rfl, tl, i, _, rfl, i1, i9, e3, ?_⟩
      refine ⟨_, rfl, 1, rfl, tl, _, rfl, .of e3, fun t2 ht2 => ?_⟩
      have ec2 : cutV (([(toString (intOf (.int i)) : Str)] ++ (tagsOf t).map (dot ++ ·)).map V.str) (some 1) none = ((tagsOf t).map (dot ++ ·)).map V.str := by
        rw [show (some (1 : Int)) = some ((1 : Nat) : Int) from rfl, cut_from _ _ (by simp)]; rfl
      rw [ec2]
      refine kN _ _ ⟨s3.trans (same_upd ht2 _), _, t2, rfl, ?_, upd_same, (same_upd ht2 _) _ _ e2'⟩
      rw [ei]; exact .int i
    · refine ite_no (decide_eq_false fun z => hg (by injection z)) ?_
      rw [d2, if_neg hg, List.nil_append] at e3
      exact nx_go (kN _ _ ⟨s3, mv, tl, rfl, hmv.resolve_left hg, e3, e2'⟩)
  rintro σ5 H5 ⟨s5, mv, t2, rfl, am, e5, e5w⟩
  have ht4 := b.tlen
  refine ⟨_, rfl, _, rfl, wl, _, _, _, rfl, rfl, .of e5w, a1, _, rfl, t2, rfl, .inl ⟨⟨_, .of e5⟩, blk_list (xs := ((tagsOf t).map (dot ++ ·)).map V.str) (fun i acc H' => H5 = H' ∧ i ≤ 4 ∧ acc = ((tagsOf t).take i).map V.str) ⟨rfl, by omega, rfl⟩ (fun i acc H' z => ?_) (fun i acc H' z => ?_) (fun i x acc H' N kk hx z => ?_) fun acc H' z => ?_⟩⟩
  · rw [← z.1]; exact .of e5
  · rw [z.2.2, List.length_map, List.length_take]; exact small1000 (by have := z.2.1; omega)
  · obtain ⟨rfl, h4, rfl⟩ := z
    dsimp only [tYes]; rw [if_pos rfl]
    obtain ⟨y, hy, rfl⟩ : ∃ y, (tagsOf t)[i]? = some y ∧ x = V.str (dot ++ y) := by
      rw [List.getElem?_map, List.getElem?_map] at hx
      cases hy : (tagsOf t)[i]? with
      | none => rw [hy] at hx; cases hx
      | some y => rw [hy] at hx; cases hx; exact ⟨y, rfl, rfl⟩
    have hi : i < (tagsOf t).length := (List.getElem?_eq_some_iff.mp hy).1
    have hl := (name_signs (b.tags y (List.mem_of_getElem? hy))).2
    have hd1 : dot.length = 1 := by decide +kernel
    have hdl := app_len' dot y
    refine ⟨_, rfl, 1, rfl, dot ++ y, 1, (dot ++ y).length, rfl, .inr rfl, .inl ⟨rfl, rfl⟩, by omega, Nat.le_refl _, by omega, kk _ _ ⟨rfl, by omega, ?_⟩⟩
    have ey : (⟨(((dot ++ y).cps.toList.drop 1).take ((dot ++ y).length - 1)).toArray⟩ : Str) = y := by
      apply ls_inj
      rw [ls_mk]
      have e : (dot ++ y).cps.toList = 46 :: ls y := by
        show ls (dot ++ y) = _
        rw [ls_app, ls_dot]; rfl
      rw [e, hdl, hd1, List.drop_succ_cons, List.drop_zero, Nat.add_sub_cancel_left, len_ls, List.take_length]
    rw [ey, List.take_add_one, hy, List.map_append]; rfl
  · obtain ⟨rfl, h4, rfl⟩ := z
    rw [List.length_map, List.length_map, List.take_length] at *
    intro l3 hl3
    have s6 := same_upd hl3 (.lst ((tagsOf t).map V.str))
    have e6 : upd H5 l3 (.lst ((tagsOf t).map V.str)) l3 = some (.lst ((tagsOf t).map V.str)) := upd_same
    generalize upd H5 l3 (.lst ((tagsOf t).map V.str)) = H6 at s6 e6 ⊢
    refine ⟨l3, _, rfl, .inl ⟨.of e6, fun tu htu => ?_⟩⟩
    have s7 := s6.trans (same_upd htu (.tup ((tagsOf t).map V.str)))
    have e7 : upd H6 tu (.tup ((tagsOf t).map V.str)) tu = some (.tup ((tagsOf t).map V.str)) := upd_same
    generalize upd H6 tu (.tup ((tagsOf t).map V.str)) = H7 at s7 e7 ⊢
    refine ⟨_, rfl, _, rfl, lk, _, rfl, .inl ⟨.of (s7 _ _ (s5 _ _ ek)), fun kt hkt => ?_⟩⟩
    have s8 := s7.trans (same_upd hkt (.tup kv))
    have e8 : upd H7 kt (.tup kv) kt = some (.tup kv) := upd_same
    have e78 := (same_upd hkt (.tup kv)) _ _ e7
    generalize upd H7 kt (.tup kv) = H8 at s8 e8 e78 ⊢
    refine ⟨small (by simp), fun r hr' => q _ _ (s5.trans (s8.trans (same_upd hr' _))) ?_⟩
    have s9 := same_upd hr' (.tup [V.str (kindOf t), V.str (nameOf t), .ref tu, mv, .ref kt])
    have kk6 : (kindOf t).length ≤ 400 := by have := (kind_signs _ b.kind).2.1; omega
    have nn8 : (nameOf t).length ≤ 400 := by have := (name_signs b.name).2; omega
    have tgs : TrsAt H8 ((tagsOf t).map Tr.str) ((tagsOf t).map V.str) := by
      have : ∀ l : List Str, (∀ x ∈ l, x.length ≤ 400) → TrsAt H8 (l.map Tr.str) (l.map V.str) := by
        intro l
        induction l with
        | nil => intro _; exact .nil
        | cons x l ih => intro h; exact .cons (.str x (h x (List.mem_cons_self ..))) (ih fun y hy => h y (List.mem_cons_of_mem _ hy))
      exact this _ fun x hx => by have := (name_signs (b.tags x hx)).2; omega
    have F : TrAt (upd H8 r (.tup [V.str (kindOf t), V.str (nameOf t), .ref tu, mv, .ref kt])) (.tup [.str (kindOf t), .str (nameOf t), .tup ((tagsOf t).map Tr.str), moreOf t, .tup (kidsOf t)]) (.ref r) :=
      TrAt.tup' upd_same (TrsAt.same s9 (.cons (.str _ kk6) (.cons (.str _ nn8) (.cons (TrAt.tup' e78 tgs) (.cons (am.same s8) (.cons (TrAt.tup' e8 (TrsAt.same (s5.trans s8) ak)) .nil))))))
    rw [← b.form] at F
    exact F
end
end KP

set_option linter.all false
set_option maxHeartbeats 4000000
set_option maxRecDepth 100000
namespace KP
open PySem L2 PyProof.Rows WM TX
/-- tuples stay -/
def SameT (H H' : Hp) : Prop := ∀ b xs, H b = some (.tup xs) → H' b = some (.tup xs)
theorem SameT.of {H H' : Hp} (s : Same H H') : SameT H H' := fun b xs e => s _ _ e
theorem SameT.trans {H H' H2 : Hp} (s : SameT H H') (t : SameT H' H2) : SameT H H2 := fun b xs e => t _ _ (s _ _ e)
theorem SameT.upd {H : Hp} {l : Addr} {ys : List V} (h : H l = some (.lst ys)) (o : HO) : SameT H (upd H l o) := fun b xs e => by
  rw [upd_ne fun z => by rw [z, h] at e; cases e]; exact e
/-- boxes are made of tuples -/
theorem fits_keep {H H' : Hp} (s : SameT H H') : ∀ {f : Nat} {t : Tr} {v : V}, fits f t = true → TrAt H t v → TrAt H' t v
  | 0, _, _, h, _ => by cases h
  | f + 1, t, v, h, at_ => by
    obtain ⟨al, fk⟩ := fits_alone h
    have b := alone_ok al
    obtain ⟨a, tg, ks, mv, kv, rfl, ea, et, am, ek, ak⟩ := box_open at_ b
    have kk6 : (kindOf t).length ≤ 400 := by have := (kind_signs _ b.kind).2.1; omega
    have nn8 : (nameOf t).length ≤ 400 := by have := (name_signs b.name).2; omega
    have tgs : TrsAt H' ((tagsOf t).map Tr.str) ((tagsOf t).map V.str) := by
      have : ∀ l : List Str, (∀ x ∈ l, x.length ≤ 400) → TrsAt H' (l.map Tr.str) (l.map V.str) := by
        intro l
        induction l with
        | nil => intro _; exact .nil
        | cons x l ih => intro h; exact .cons (.str x (h x (List.mem_cons_self ..))) (ih fun y hy => h y (List.mem_cons_of_mem _ hy))
      exact this _ fun x hx => by have := (name_signs (b.tags x hx)).2; omega
    have am' : TrAt H' (moreOf t) mv := by
      by_cases hw : kindOf t = "words"
      · obtain ⟨x, ex, _⟩ := b.words hw
        rw [ex] at am ⊢
        cases am with
        | str _ hx => exact .str x hx
      · by_cases hg : kindOf t = "grid"
        · obtain ⟨i, ei, _⟩ := b.grid hg
          rw [ei] at am ⊢
          cases am; exact .int i
        · rw [b.other hw hg] at am ⊢
          cases am; exact .non
    have ak' : TrsAt H' (kidsOf t) kv := F2.of ak.len fun i k x hk hx => fits_keep s (fk k (List.mem_of_getElem? hk)) (ak.get hk hx)
    have F : TrAt H' (.tup [.str (kindOf t), .str (nameOf t), .tup ((tagsOf t).map Tr.str), moreOf t, .tup (kidsOf t)]) (.ref a) :=
      TrAt.tup' (s _ _ ea) (.cons (.str _ kk6) (.cons (.str _ nn8) (.cons (TrAt.tup' (s _ _ et) tgs) (.cons am' (.cons (TrAt.tup' (s _ _ ek) ak') .nil)))))
    rw [← b.form] at F
    exact F
/-- an entry of what waits: how deep, and a box -/
def EnAt (H : Hp) (e : Addr) (p : Nat × Tr) : Prop := ∃ (v : V) (f : Nat), H e = some (.tup [.int (p.1 : Int), v]) ∧ TrAt H p.2 v ∧ fits f p.2 = true
theorem EnAt.keep {H H' : Hp} (s : SameT H H') {e : Addr} {p : Nat × Tr} (h : EnAt H e p) : EnAt H' e p := let ⟨v, f, h1, h2, h3⟩ := h; ⟨v, f, s _ _ h1, fits_keep s h3 h2, h3⟩
def KdAt (H : Hp) (t : Tr) (v : V) : Prop := TrAt H t v ∧ ∃ f, fits f t = true
theorem KdAt.keep {H H' : Hp} (s : SameT H H') {t : Tr} {v : V} (h : KdAt H t v) : KdAt H' t v := let ⟨h1, f, h2⟩ := h; ⟨fits_keep s h2 h1, f, h2⟩
theorem tw_stop {α : Type} (p : α → Bool) : ∀ (l : List α) (a : α) (m : List α), (∀ x ∈ l, p x = true) → p a = false → (l ++ a :: m).takeWhile p = l ∧ (l ++ a :: m).dropWhile p = a :: m
  | [], a, m, _, h => by rw [List.nil_append, List.takeWhile_cons, List.dropWhile_cons, h]; exact ⟨rfl, rfl⟩
  | x :: l, a, m, h1, h2 => by
    obtain ⟨i1, i2⟩ := tw_stop p l a m (fun b hb => h1 b (List.mem_cons_of_mem _ hb)) h2
    have hx := h1 x (List.mem_cons_self ..)
    rw [List.cons_append, List.takeWhile_cons, List.dropWhile_cons, if_pos hx, if_pos hx, i1, i2]; exact ⟨rfl, rfl⟩
theorem neg_last {xs : List V} {x : V} : atI (xs ++ [x]) (-1) = some x := by
  unfold atI ixN
  rw [if_neg (by decide), if_pos (by simp; omega)]
  show (xs ++ [x])[(-1 + ((xs ++ [x]).length : Int)).toNat]? = some x
  rw [show (-1 + ((xs ++ [x]).length : Int)).toNat = xs.length by simp; omega]
  simp
section
variable {P : Program} {w : World} {K : PySem.W.Frag} {mg : Str → Option Value} {base : Heap} {A : Adr}
def spTaken : Sp := fun vs H Q _ => ∃ (wa : Addr) (d : Nat) (st : List (Nat × Tr)) (es : List Addr), vs = [.ref wa, .int (d : Int)] ∧ H wa = some (.lst (es.map V.ref)) ∧ F2 (EnAt H) es st.reverse ∧ st.length ≤ 100 ∧
  ∀ (l : Addr) (H' : Hp) (es' : List Addr) (kv : List V), (∀ b u, b ≠ wa → H b = some u → H' b = some u) → H' wa = some (.lst (es'.map V.ref)) → F2 (EnAt H') es' (st.dropWhile fun q => q.1 == d).reverse → H l = none → H' l = some (.lst kv) → F2 (KdAt H') ((st.takeWhile fun q => q.1 == d).map (·.2)) kv → Q (.ref l) H'
seal PE PS PSs PA PT PI PG in
theorem ok_taken_kids (T : Txt K mg A) : FnOk P w K mg base CX0 1 A.f_taken_kids A.d_taken_kids P_taken_kids spTaken := by
  refine T.F_taken_kids.ok sc_taken_kids (fun vs H Q E h => ?_) (fun cdv B outer s H vs Q E hr h => ?_)
  · obtain ⟨wa, d, st, es, rfl, _⟩ := h; rfl
  obtain ⟨wa, d, st, es, rfl, ew, be, h100, q⟩ := h
  refine ⟨_, @pss_cons _ _ _ _ _ (ps_set (i := 2) sc_taken_kids.nd rfl (Or.inl rfl) (pe_lst pa_nil))
    (@pss_cons _ _ _ _ _ (ps_while PassesOwn.never (PW.pt (pw_and (pt_truth (pv 0) (fun _ => rfl)) (pw_and1 (pt_cmpR op_eq (pe_ix ix_tup (pe_ix ix_list (pv 0) (pe_un un_neg pe_int) (fun _ _ => rfl)) pe_int (fun _ _ => rfl)) (pv 1) (nomark _))))) (pss_one (ps_expr (pe_bm PySem.F.plainAttrs_list PySem.F.slot_list_append PySem.F.type_list_append mt_append (pv 2) (pa_cons (pe_ix ix_tup (pe_bm0 PySem.F.plainAttrs_list PySem.F.slot_list_pop PySem.F.type_list_pop mt_pop (pv 0)) pe_int (fun _ _ => rfl)) pa_nil)))))
    (pss_one (ps_ret (pv 2)))), ?_⟩
  refine ⟨small (by simp), fun kl hkl => ?_⟩
  have nk : kl ≠ wa := fun z => by rw [z, ew] at hkl; cases hkl
  have s1 := same_upd hkl (.lst [])
  refine ⟨fun m σ H1 => ∃ (st1 st2 : List (Nat × Tr)) (es2 : List Addr) (kv : List V), σ = [some (.ref wa), some (.int (d : Int)), some (.ref kl)] ∧ st = st1 ++ st2 ∧ (∀ p ∈ st1, (p.1 == d) = true) ∧ m = st2.length ∧ (∀ b u, b ≠ wa → H b = some u → H1 b = some u) ∧ H1 wa = some (.lst (es2.map V.ref)) ∧ F2 (EnAt H1) es2 st2.reverse ∧ H1 kl = some (.lst kv) ∧ F2 (KdAt H1) (st1.map (·.2)) kv,
    ⟨st.length, [], st, es, [], rfl, rfl, (fun p hp => by cases hp), rfl, fun b u _ z => s1 _ _ z, s1 _ _ ew, be.mono fun _ _ x => x.keep (.of s1), upd_same, .nil⟩, ?_⟩
  rintro m σ H1 ⟨st1, st2, es2, kv, rfl, rfl, h1, rfl, sx, ew1, be1, ek1, bk1⟩
  have lkv := bk1.len
  rw [List.length_map] at lkv
  rw [List.length_append] at h100
  cases st2 with
  | nil =>
    cases be1
    refine ⟨_, rfl, _, .inl ⟨_, .of ew1, rfl⟩, ite_no (by simp) (iteF ?_)⟩
    refine ⟨_, rfl, q kl H1 [] kv sx ew1 ?_ hkl ek1 ?_⟩
    · have := (tw_app (fun q : Nat × Tr => q.1 == d) st1 [] h1 (fun a ha => by cases ha)).2
      rw [this]; exact .nil
    · have := (tw_app (fun q : Nat × Tr => q.1 == d) st1 [] h1 (fun a ha => by cases ha)).1
      rw [this]; exact bk1
  | cons p st2 =>
    rw [List.reverse_cons] at be1
    obtain ⟨es', e, rfl, be', ⟨v, f, ee, at_, hf⟩⟩ := be1.last
    have ae : atI ((es' ++ [e]).map V.ref) (-1) = some (V.ref e) := by rw [List.map_append]; exact neg_last
    refine ⟨_, rfl, _, .inl ⟨_, .of ew1, rfl⟩, ite_yes (by simp) ?_⟩
    refine ⟨_, rfl, _, rfl, wa, _, _, _, rfl, rfl, .of ew1, ae, e, _, _, _, rfl, rfl, .of ee, rfl, _, rfl, rfl, _, rfl, ?_⟩
    by_cases hp : p.1 = d
    · refine ite_yes (decide_eq_true (by rw [hp])) ?_
      refine ⟨fun σ' H' => _, fun σ' H' h => h, ?_⟩
      have edl : ((es' ++ [e]).map V.ref).dropLast = es'.map V.ref := by rw [List.map_append]; exact List.dropLast_concat
      refine ⟨_, rfl, .inl ⟨rfl, _, .of ek1⟩, _, rfl, .inl ⟨rfl, _, .of ew1⟩, wa, _, _, rfl, rfl, ew1, last_mapV _ _ _, ?_⟩
      rw [edl]
      have t2 : SameT H1 (upd H1 wa (.lst (es'.map V.ref))) := .upd ew1 _
      have k1 := t2 _ _ ee
      have k2 : upd H1 wa (.lst (es'.map V.ref)) wa = some (.lst (es'.map V.ref)) := upd_same
      have k3 : upd H1 wa (.lst (es'.map V.ref)) kl = some (.lst kv) := by rw [upd_ne nk]; exact ek1
      have k4 : ∀ b u, b ≠ wa → H b = some u → upd H1 wa (.lst (es'.map V.ref)) b = some u := fun b u hb z => by rw [upd_ne hb]; exact sx b u hb z
      generalize upd H1 wa (.lst (es'.map V.ref)) = H2 at t2 k1 k2 k3 k4 ⊢
      refine ⟨e, _, _, _, rfl, rfl, .of k1, rfl, kl, _, _, rfl, rfl, k3, small1000 (by omega), ?_⟩
      have t3 : SameT H2 (upd H2 kl (.lst (kv ++ [v]))) := .upd k3 _
      have t4 := t2.trans t3
      refine ⟨st2.length, by simp, st1 ++ [p], st2, es', kv ++ [v], rfl, by rw [List.append_assoc]; rfl, fun x hx => ?_, rfl, fun b u hb z => ?_, ?_, be'.mono fun _ _ x => x.keep t4, upd_same, ?_⟩
      · rcases List.mem_append.mp hx with hx | hx
        · exact h1 x hx
        · rw [List.mem_singleton.mp hx, hp]; simp
      · rw [upd_ne (ne_of_none z hkl)]; exact k4 b u hb z
      · rw [upd_ne nk.symm]; exact k2
      · rw [List.map_append]
        exact (bk1.mono fun _ _ x => x.keep t4).append (.one ⟨fits_keep t4 hf at_, f, hf⟩)
    · refine ite_no (decide_eq_false fun z => hp (by injection z with z; omega)) ?_
      have hpf : (p.1 == d) = false := by simp [hp]
      have tw := tw_stop (fun q : Nat × Tr => q.1 == d) st1 p st2 h1 hpf
      refine ⟨_, rfl, q kl H1 (es' ++ [e]) kv sx ew1 ?_ hkl ek1 ?_⟩
      · rw [tw.2, List.reverse_cons]; exact be'.append (.one ⟨v, f, ee, at_, hf⟩)
      · rw [tw.1]; exact bk1
theorem stk_len : ∀ l : List (Nat × Tr), (stk l).length ≤ l.length
  | [] => Nat.le_refl _
  | p :: r => by
    show ((stk r).dropWhile _).length + 1 ≤ r.length + 1
    have := stk_len r
    have h2 : ((stk r).dropWhile fun q => q.1 == p.1 + 1).length ≤ (stk r).length := (List.dropWhile_sublist _).length_le
    omega
def spReadRows : Sp := fun vs H Q _ => ∃ (lr : Addr) (t : Tr), vs = [.ref lr] ∧ H lr = some (.lst ((linesF 8 0 t).map V.str)) ∧ fits 8 t = true ∧ (nodesF 8 0 t).length ≤ 40 ∧ ∀ v H', Same H H' → TrAt H' t v → Q v H'
seal PE PS PSs PA PT PI PG in
theorem ok_read_rows (T : Txt K mg A) : FnOk P w K mg base CX0 3 A.f_read_rows A.d_read_rows P_read_rows spReadRows := by
  have G_read_row := ok_read_row (P := P) (w := w) (base := base) T
  have G_taken_kids := (ok_taken_kids (P := P) (w := w) (base := base) T).mono (show 1 ≤ 2 by decide)
  refine T.F_read_rows.ok sc_read_rows (fun vs H Q E h => ?_) (fun cdv B outer s H vs Q E hr h => ?_)
  · obtain ⟨lr, t, rfl, _⟩ := h; rfl
  obtain ⟨lr, t, rfl, el, f8, n40, q⟩ := h
  refine ⟨_, @pss_cons _ _ _ _ _ (ps_set (i := 1) sc_read_rows.nd rfl (Or.inl rfl) (pe_lst pa_nil))
    (@pss_cons _ _ _ _ _ (ps_for PassesOwn.never rfl (pi_rev rfl T.n_reversed (pa_cons (pv 0) pa_nil)) (pg_name (i := 2) sc_read_rows.nd rfl (Or.inl rfl)) (@pss_cons _ _ _ _ _ (ps_set (i := 3) sc_read_rows.nd rfl (Or.inl rfl) (pe_bm PySem.F.plainAttrs_str PySem.F.slot_str_lstrip PySem.F.type_str_lstrip mt_lstrip (pv 2) (pa_cons pe_str pa_nil)))
    (@pss_cons _ _ _ _ _ (ps_set (i := 4) sc_read_rows.nd rfl (Or.inl rfl) (pe_op op_fdiv (pe_op op_sub (pe_callB call_len_str rfl T.n_len b_len (pa_cons (pv 2) pa_nil)) (pe_callB call_len_str rfl T.n_len b_len (pa_cons (pv 3) pa_nil))) pe_int))
    (pss_one (ps_expr (pe_bm PySem.F.plainAttrs_list PySem.F.slot_list_append PySem.F.type_list_append mt_append (pv 1) (pa_cons (pe_tup (pa_cons (pv 4) (pa_cons (pe_call G_read_row hr rfl T.m_read_row T.F_read_row.kp T.b_read_row .nil pass0 (pa_cons (pv 3) (pa_cons (pe_call G_taken_kids hr rfl T.m_taken_kids T.F_taken_kids.kp T.b_taken_kids .nil pass0 (pa_cons (pv 1) (pa_cons (pe_op op_add (pv 4) pe_int) pa_nil))) pa_nil))) pa_nil))) pa_nil)))))))
    (@pss_cons _ _ _ _ _ (ps_if (pt_cmpR op_ne (pe_callB call_len_seq rfl T.n_len b_len (pa_cons (pv 1) pa_nil)) pe_int (nomark _)) pss_never pss_nil)
    (pss_one (ps_ret (pe_ix ix_tup (pe_ix ix_list (pv 1) pe_int (fun _ _ => rfl)) pe_int (fun _ _ => rfl)))))), ?_⟩
  obtain ⟨gd, sd⟩ := stk_doc f8
  refine ⟨small (by simp), fun wa hwa => ?_⟩
  have s1 := same_upd hwa (.lst [])
  have e1 : upd H wa (.lst []) wa = some (.lst (([] : List Addr).map V.ref)) := upd_same
  generalize upd H wa (.lst []) = H1 at s1 e1 ⊢
  have Ln : ((linesF 8 0 t).map V.str).length = (nodesF 8 0 t).length := by rw [List.length_map]; exact List.length_map ..
  (try dsimp only [gName]); show tSeq _ _ _ _ _
  refine ⟨_, rfl, lr, _, rfl, .of (s1 _ _ el), for_rev (xs := (linesF 8 0 t).map V.str) (fun i σ H' => ∃ x2 x3 x4 es, σ = [some (.ref lr), some (.ref wa), x2, x3, x4] ∧ Same H H' ∧ H' wa = some (.lst (es.map V.ref)) ∧ F2 (EnAt H') es (stk ((nodesF 8 0 t).drop ((nodesF 8 0 t).length - i))).reverse) ⟨_, _, _, [], rfl, s1, e1, ?_⟩ (fun i σ H' hi z => ?_) (fun i x σ H' hx z => ?_) fun σ H' z => ?_⟩
  · rw [Nat.sub_zero, List.drop_length]; exact .nil
  · obtain ⟨_, _, _, _, _, s2, _⟩ := z; exact .of (s2 _ _ el)
  · obtain ⟨x2, x3, x4, es, rfl, s2, e2, be⟩ := z
    have hi : i < (nodesF 8 0 t).length := by have := (List.getElem?_eq_some_iff.mp hx).1; rw [List.length_reverse] at this; omega
    have hj : (nodesF 8 0 t).length - 1 - i < (nodesF 8 0 t).length := by omega
    obtain ⟨p, hp⟩ : ∃ p, (nodesF 8 0 t)[(nodesF 8 0 t).length - 1 - i]? = some p := ⟨_, List.getElem?_eq_getElem hj⟩
    have ex : x = V.str (lineOf p) := by
      rw [List.getElem?_reverse (by omega), Ln, List.getElem?_map] at hx
      unfold linesF at hx
      rw [List.getElem?_map, hp] at hx
      cases hx; rfl
    subst ex
    obtain ⟨pa, pb, pc⟩ := nodes_fit f8 p (List.mem_of_getElem? hp)
    have b := alone_ok pa
    have hd : (nodesF 8 0 t).drop ((nodesF 8 0 t).length - (i + 1)) = p :: (nodesF 8 0 t).drop ((nodesF 8 0 t).length - i) := by
      have e : (nodesF 8 0 t).length - (i + 1) = (nodesF 8 0 t).length - 1 - i := by omega
      rw [e, List.drop_eq_getElem_cons hj, show (nodesF 8 0 t).length - 1 - i + 1 = (nodesF 8 0 t).length - i by omega]
      congr 1
      rw [List.getElem?_eq_getElem hj] at hp
      exact Option.some.inj hp
    have hg := good_drop ((nodesF 8 0 t).length - (i + 1)) gd
    rw [hd] at hg
    rw [hd]
    generalize (nodesF 8 0 t).drop ((nodesF 8 0 t).length - i) = r at be hd hg ⊢
    have hrl : (stk r).length ≤ 40 := by
      have h1 := stk_len r
      have h2 := congrArg List.length hd
      rw [List.length_drop, List.length_cons] at h2
      omega
    obtain ⟨c, cr, ec, hc⟩ := row_first b
    have hl169 := line_len b (show p.1 ≤ 8 by omega)
    have hr153 := row_len b
    have est : Txt.lstripChars (lineOf p) bl = rowT p.2 := lstrip_ahead (rep_blank p.1) ec hc ls_bl
    (try dsimp only [gName]); show tSeq _ _ _ _ _
    refine ⟨_, rfl, rfl, lineOf p, bl, rfl, rfl, by omega, ?_⟩
    rw [est]
    have i2 : ind2.length = 2 := by decide +kernel
    have hlen : (lineOf p).length = 2 * p.1 + (rowT p.2).length := by unfold lineOf; rw [app_len', repS_len, i2]
    refine ⟨_, rfl, _, rfl, small (by omega), _, rfl, _, rfl, small (by omega), _, _, rfl, rfl, _, _, rfl, rfl, ⟨by decide, by decide⟩, ?_⟩
    have ediv : (((lineOf p).length : Int) - ((rowT p.2).length : Int)) / 2 = (p.1 : Int) := by omega
    dsimp only [gName]
    rw [ediv]
    refine ⟨_, rfl, .inl ⟨rfl, _, .of e2⟩, _, rfl, _, rfl, _, rfl, _, rfl, _, _, rfl, rfl, wa, p.1 + 1, stk r, es, rfl, e2, be, by omega, fun l H3 es3 kv sx e3 be3 hl ek bk => ?_⟩
    have hkids : ((stk r).takeWhile fun q => q.1 == p.1 + 1).map (·.2) = kidsOf p.2 := by
      rw [hg.1, List.map_map]; exact List.map_id _
    rw [hkids] at bk
    have s3 : Same H H3 := fun b u z => sx b u (ne_of_none z hwa) (s2 _ _ z)
    refine ⟨p.2, l, kv, rfl, pa, ek, bk.mono fun _ _ x => x.1, fun v H4 s4 t4 => ⟨small (by simp), fun en hen => ?_⟩⟩
    have s5 := s4.trans (same_upd hen (.tup [V.int (p.1 : Int), v]))
    have e5 : upd H4 en (.tup [V.int (p.1 : Int), v]) en = some (.tup [V.int (p.1 : Int), v]) := upd_same
    have t5 := t4.same (same_upd hen (.tup [V.int (p.1 : Int), v]))
    generalize upd H4 en (.tup [V.int (p.1 : Int), v]) = H5 at s5 e5 t5 ⊢
    have e5w := s5 _ _ e3
    have hl3 := be3.len
    rw [List.length_reverse] at hl3
    have hl4 : ((stk r).dropWhile fun q => q.1 == p.1 + 1).length ≤ (stk r).length := (List.dropWhile_sublist _).length_le
    refine ⟨wa, _, _, rfl, rfl, e5w, small1000 (by rw [List.length_map]; omega), ?_⟩
    have t6 : SameT H5 (upd H5 wa (.lst (es3.map V.ref ++ [V.ref en]))) := .upd e5w _
    obtain ⟨fp, hfp⟩ : ∃ f, fits f p.2 = true := by
      have : ∀ {f d : Nat} {t : Tr}, fits f t = true → ∀ p ∈ nodesF f d t, ∃ g, fits g p.2 = true := by
        intro f
        induction f with
        | zero => intro d t h; cases h
        | succ f ih =>
          intro d t h p hp
          rcases List.mem_cons.mp hp with rfl | hp
          · exact ⟨_, h⟩
          · obtain ⟨l, hl, hp⟩ := List.mem_flatten.mp hp
            obtain ⟨k, hk, rfl⟩ := List.mem_map.mp hl
            exact ih ((fits_alone h).2 k hk) p hp
      exact this f8 p (List.mem_of_getElem? hp)
    refine ⟨_, _, _, es3 ++ [en], rfl, fun b u z => ?_, by rw [upd_same, List.map_append]; rfl, ?_⟩
    · rw [upd_ne (ne_of_none z hwa)]; exact s5 _ _ (s3 _ _ z)
    · show F2 _ _ (p :: (stk r).dropWhile fun q => q.1 == p.1 + 1).reverse
      rw [List.reverse_cons]
      exact (be3.mono fun _ _ x => x.keep ((SameT.of s5).trans t6)).append (.one ⟨v, fp, t6 _ _ e5, fits_keep t6 hfp t5, hfp⟩)
  · obtain ⟨x2, x3, x4, es, rfl, s2, e2, be⟩ := z
    rw [Ln, Nat.sub_self, List.drop_zero, sd] at be
    cases be with
    | @cons e _ _ _ he be =>
    cases be
    obtain ⟨v, f, ee, at_, hf⟩ := he
    refine ⟨_, rfl, wa, _, rfl, .inl (.of e2), rfl, _, rfl, ite_no rfl ?_⟩
    exact ⟨_, rfl, wa, _, _, _, rfl, rfl, .of e2, rfl, e, _, _, _, rfl, rfl, .of ee, rfl, q v H' s2 at_⟩
def spReadDoc : Sp := fun vs H Q _ => ∃ t : Tr, vs = [.str (textT t)] ∧ docT t = true ∧ ∀ v H', Same H H' → TrAt H' t v → Q v H'
seal PE PS PSs PA PT PI PG in
theorem ok_read_document (T : Txt K mg A) : FnOk P w K mg base CX0 11 A.f_read_document A.d_read_document P_read_document spReadDoc := by
  have G_read_rows := (ok_read_rows (P := P) (w := w) (base := base) T).mono (show 3 ≤ 10 by decide)
  have G_document_text := ok_document_text0 (P := P) (w := w) (base := base) T
  refine T.F_read_document.ok sc_read_document (fun vs H Q E h => ?_) (fun cdv B outer s H vs Q E hr h => ?_)
  · obtain ⟨t, rfl, _⟩ := h; rfl
  obtain ⟨t, rfl, hd, q⟩ := h
  refine ⟨_, @pss_cons _ _ _ _ _ (ps_if (pt_not (pt_val (pe_callB call_isi rfl T.n_isinstance b_isinstance (pa_cons (pv 0) (pa_cons (pe_bltn rfl T.n_str b_str (v := .ty "str") rfl) pa_nil))))) pss_never pss_nil)
    (@pss_cons _ _ _ _ _ (ps_set (i := 1) sc_read_document.nd rfl (Or.inl rfl) (pe_call G_read_rows hr rfl T.m_read_rows T.F_read_rows.kp T.b_read_rows .nil pass0 (pa_cons (pe_slice sl_list (pe_bm PySem.F.plainAttrs_str PySem.F.slot_str_split PySem.F.type_str_split mt_splitB (pv 0) (pa_cons pe_str pa_nil)) po_none (po_some (pe_un un_neg pe_int))) pa_nil)))
    (@pss_cons _ _ _ _ _ (ps_tryN (pss_one (ps_set (i := 2) sc_read_document.nd rfl (Or.inl rfl) (pe_call G_document_text hr rfl T.m_document_text T.F_document_text.kp T.b_document_text .nil pass0 (pa_cons (pv 1) pa_nil)))))
    (@pss_cons _ _ _ _ _ (ps_if (pt_cmpR op_ne (pv 2) (pv 0) (nomark _)) pss_never pss_nil)
    (pss_one (ps_ret (pv 1)))))), ?_⟩
  obtain ⟨f8, n40⟩ := doc_fits hd
  have hl := text_len f8 (show 0 + 8 ≤ 9 by decide)
  have hl' : (textT t).length ≤ 6800 := by show (textF 8 0 t).length ≤ _; omega
  have I : Is K H (.str (textT t)) "str" := .str _
  have n1 : (nl.length == 0) = false := by decide +kernel
  have Ln : (linesF 8 0 t).length = (nodesF 8 0 t).length := List.length_map ..
  refine ⟨_, rfl, .str (textT t), "str", _, _, rfl, I.ty, I.kit T.kit "str", _, rfl, iteF ?_⟩
  refine ⟨_, rfl, rfl, textT t, nl, rfl, rfl, n1, by omega, ?_, fun l hl => ?_⟩
  · rw [text_split f8, List.length_append, List.length_singleton]; omega
  rw [text_split f8]
  have s1 := same_upd hl (.lst ((linesF 8 0 t ++ [Str.empty]).map V.str))
  have e1 : upd H l (.lst ((linesF 8 0 t ++ [Str.empty]).map V.str)) l = some (.lst ((linesF 8 0 t ++ [Str.empty]).map V.str)) := upd_same
  generalize upd H l (.lst ((linesF 8 0 t ++ [Str.empty]).map V.str)) = H1 at s1 e1 ⊢
  refine ⟨1, rfl, -1, rfl, l, _, rfl, .of e1, fun l2 hl2 => ?_⟩
  have ec : cutV ((linesF 8 0 t ++ [Str.empty]).map V.str) none (some (-1)) = (linesF 8 0 t).map V.str := by
    unfold cutV HT.sIx
    dsimp only
    rw [if_pos (by decide), List.drop_zero, Nat.sub_zero, List.map_append, List.length_append]
    rw [show (-1 + (((linesF 8 0 t).map V.str).length + ([Str.empty].map V.str).length : Nat) : Int).toNat = ((linesF 8 0 t).map V.str).length by simp; omega]
    exact List.take_left
  rw [ec]
  have s2 := s1.trans (same_upd hl2 (.lst ((linesF 8 0 t).map V.str)))
  refine ⟨l2, t, rfl, upd_same, f8, n40, fun v H3 s3 t3 => ?_⟩
  have s4 := s2.trans s3
  (try dsimp only [gName]); show tSeq _ _ _ _ _
  refine ⟨_, rfl, v, t, rfl, t3, hd, fun H5 s5 => ?_⟩
  refine ⟨_, rfl, _, rfl, rfl, _, rfl, ite_no (by simp) ?_⟩
  exact ⟨_, rfl, q v H5 (s4.trans s5) (t3.same s5)⟩
end
end KP

set_option linter.all false
set_option maxHeartbeats 4000000
set_option maxRecDepth 100000
namespace L2
open PySem PySem.W PySem.Spec PySem.Calls PyProof.Rows
/-- str of this is that -/
def StrV (x : V) (z : Str) : Prop := (∃ i : Int, x = .int i ∧ i.natAbs.log2 < 1920 ∧ z = (toString i : Str)) ∨ x = .str z ∨ (x = .non ∧ z = "None")
theorem call_strT {X : Cx} : CallR X (.type "str") (fun xs H Q => ∃ x z, xs = [x] ∧ StrV x z ∧ Q (.str z) H) := by
  intro pins s σ H xs us Q I r h
  obtain ⟨x, z, rfl, h, q⟩ := h
  rcases h with ⟨i, rfl, hz, rfl⟩ | rfl | ⟨rfl, rfl⟩
  · obtain ⟨u, rfl, t, rfl⟩ := vals1 r
    exact PySem.P.str_of_int hz ⟨.str _, H, I.tok _, ⟨_, rfl⟩, q⟩
  · obtain ⟨u, rfl, t, rfl⟩ := vals1 r
    exact PySem.P.str_of_str ⟨.str _, H, I, ⟨_, rfl⟩, q⟩
  · obtain ⟨u, rfl, rx⟩ := vals1 r
    cases rx
    exact PySem.P.str_of_none ⟨.str _, H, I.tok _, ⟨_, rfl⟩, q⟩
end L2
namespace KP
open PySem L2 PyProof.Rows WM TX
theorem str_more {t : Tr} {H : Hp} {mv : V} (b : Bok t) (am : TrAt H (moreOf t) mv) : ∃ z : Str, (kindOf t = "grid" → z = (toString (intOf (moreOf t)) : Str)) ∧ StrV mv z := by
  by_cases hg : kindOf t = "grid"
  · obtain ⟨i, ei, i1, i9⟩ := b.grid hg
    rw [ei] at am
    cases am
    refine ⟨(toString i : Str), fun _ => by rw [ei]; rfl, .inl ⟨i, rfl, ?_, rfl⟩⟩
    have : ∀ j : Fin 10, (j.val : Int).natAbs.log2 < 1920 := by decide +kernel
    have := this ⟨i.toNat, by omega⟩
    rwa [show ((i.toNat : Nat) : Int) = i by omega] at this
  · by_cases hw : kindOf t = "words"
    · obtain ⟨x, ex, hx⟩ := b.words hw
      rw [ex] at am
      cases am with
      | str _ hx4 => exact ⟨x, fun z => absurd z hg, .inr (.inl rfl)⟩
    · rw [b.other hw hg] at am
      cases am
      exact ⟨"None", fun z => absurd z hg, .inr (.inr ⟨rfl, rfl⟩)⟩
def wordsD (d : Nat) (t : Tr) : List Str := (repS ind2 d ++ kindOf t) :: (nameOf t :: ((if kindOf t = "grid" then [(toString (intOf (moreOf t)) : Str)] else []) ++ (tagsOf t).map (dot ++ ·)))
theorem J_wordsD (d : Nat) (t : Tr) : J (wordsD d t) = repS ind2 d ++ J (rowWords t) := by
  apply ls_inj
  rw [ls_app, ls_J, ls_J]
  show ls (repS ind2 d ++ kindOf t) ++ 32 :: jn ((nameOf t :: ((if kindOf t = "grid" then [(toString (intOf (moreOf t)) : Str)] else []) ++ (tagsOf t).map (dot ++ ·))).map ls) = ls (repS ind2 d) ++ (ls (kindOf t) ++ 32 :: jn ((nameOf t :: ((if kindOf t = "grid" then [(toString (intOf (moreOf t)) : Str)] else []) ++ (tagsOf t).map (dot ++ ·))).map ls))
  rw [ls_app, List.append_assoc]
theorem app_assoc (a b c : Str) : a ++ b ++ c = a ++ (b ++ c) := by apply ls_inj; simp only [ls_app, List.append_assoc]
section
variable {P : Program} {w : World} {K : PySem.W.Frag} {mg : Str → Option Value} {base : Heap} {A : Adr}
abbrev sc_l_doc_text_0 : Scope := (match defBody s_l_doc_text with | (.Assign _ (.BinOp _ _ (.ListComp _ _ sc _) _) _) :: _ => sc | _ => defScope s_l_doc_text)
theorem blk_l_doc_text_0 : Blk (defScope s_l_doc_text) N_l_doc_text sc_l_doc_text_0 ["_law_tag"] [] := ⟨rfl, by decide +kernel, by decide +kernel, by decide +kernel, by decide +kernel⟩
theorem nd_l_doc_text_0 : (capN N_l_doc_text ["_law_tag"] []).Nodup := by decide +kernel
abbrev sc_l_doc_text_1 : Scope := (match defBody s_l_doc_text with | _ :: _ :: _ :: (.Return (some (.BinOp _ _ (.Call _ ((.ListComp _ _ sc _) :: _) _ _) _)) _) :: _ => sc | _ => defScope s_l_doc_text)
theorem blk_l_doc_text_1 : Blk (defScope s_l_doc_text) N_l_doc_text sc_l_doc_text_1 ["_law_kid"] [1] := ⟨rfl, by decide +kernel, by decide +kernel, by decide +kernel, by decide +kernel⟩
theorem nd_l_doc_text_1 : (capN N_l_doc_text ["_law_kid"] [1]).Nodup := by decide +kernel
def spDT (f : Nat) : Sp := fun vs H Q _ => ∃ (v : V) (t : Tr) (d : Nat), vs = [v, .int (d : Int)] ∧ TrAt H t v ∧ fits f t = true ∧ d + f ≤ 8 ∧ (nodesF f d t).length ≤ 40 ∧ ∀ H', Same H H' → Q (.str (textF f d t)) H'
seal PE PS PSs PA PT PI PG in
theorem doc_text_step (T : Txt K mg A) (f : Nat) (G_l_doc_text : FnOk P w K mg base CX0 f A.f_l_doc_text A.d_l_doc_text P_l_doc_text (spDT f)) : FnOk P w K mg base CX0 (f + 1) A.f_l_doc_text A.d_l_doc_text P_l_doc_text (spDT (f + 1)) := by
  refine T.F_l_doc_text.ok sc_l_doc_text (fun vs H Q E h => ?_) (fun cdv B outer s H vs Q E hr h => ?_)
  · obtain ⟨v, t, d, rfl, _⟩ := h; rfl
  obtain ⟨v, t, d, rfl, h, fi, hd, hn, q⟩ := h
  refine ⟨_, @pss_cons _ _ _ _ _ (ps_set (i := 2) sc_l_doc_text.nd rfl (Or.inl rfl) (pe_op op_cat (pe_op op_cat (pe_lst (pa_cons (pe_op op_add_str (pe_op op_repX pe_str (pv 1)) (pe_ix ix_tup (pv 0) pe_int (fun _ _ => rfl))) (pa_cons (pe_ix ix_tup (pv 0) pe_int (fun _ _ => rfl)) pa_nil))) (pe_op op_rep (pe_lst (pa_cons (pe_callTy call_strT rfl T.n_str b_str (pa_cons (pe_ix ix_tup (pv 0) pe_int (fun _ _ => rfl)) pa_nil)) pa_nil)) (pe_callTy call_int1 rfl T.n_int b_int (pa_cons (pe_cmpR op_eq (pe_ix ix_tup (pv 0) pe_int (fun _ _ => rfl)) pe_str (nomark _)) pa_nil)))) (pe_comp blk_l_doc_text_0 rfl (pi_seq (pe_ix ix_tup (pv 0) pe_int (fun _ _ => rfl))) (fun _ _ _ _ _ => pg_name (i := 0) nd_l_doc_text_0 rfl (.inl rfl)) (fun _ _ _ _ _ => pif_nil) (fun _ _ _ _ _ => pe_op op_add_str pe_str (pv 0)))))
    (@pss_cons _ _ _ _ _ (ps_set (i := 3) sc_l_doc_text.nd rfl (Or.inl rfl) (pe_bm PySem.F.plainAttrs_str PySem.F.slot_str_join PySem.F.type_str_join mt_joinB pe_str (pa_cons (pv 2) pa_nil)))
    (@pss_cons _ _ _ _ _ (ps_if (PW.pt (pw_and (pt_cmpR op_eq (pe_ix ix_tup (pv 0) pe_int (fun _ _ => rfl)) pe_str (nomark _)) (pw_and1 (pt_cmpR op_ne (pe_ix ix_tup (pv 0) pe_int (fun _ _ => rfl)) pe_str (nomark _))))) (pss_one (ps_set (i := 3) sc_l_doc_text.nd rfl (Or.inl rfl) (pe_op op_add_str (pe_op op_add_str (pv 3) pe_str) (pe_ix ix_tup (pv 0) pe_int (fun _ _ => rfl))))) pss_nil)
    (pss_one (ps_ret (pe_op op_add_str (pe_op op_add_str (pv 3) pe_str) (pe_bm PySem.F.plainAttrs_str PySem.F.slot_str_join PySem.F.type_str_join mt_joinB pe_str (pa_cons (pe_comp blk_l_doc_text_1 rfl (pi_seq (pe_ix ix_tup (pv 0) pe_int (fun _ _ => rfl))) (fun _ _ _ _ _ => pg_name (i := 0) nd_l_doc_text_1 rfl (.inl rfl)) (fun _ _ _ _ _ => pif_nil) (fun _ _ _ _ _ => pe_call G_l_doc_text hr rfl T.m_l_doc_text T.F_l_doc_text.kp T.b_l_doc_text .nil pass0 (pa_cons (pv 0) (pa_cons (pe_op op_add (pv 1) pe_int) pa_nil)))) pa_nil))))))), ?_⟩
  obtain ⟨al, fk⟩ := fits_alone fi
  have b := alone_ok al
  obtain ⟨a, tg, ks, mv, kv, rfl, ea, et, am, ek, ak⟩ := box_open h b
  have i2 : ind2.length = 2 := by decide +kernel
  have kl6 := (kind_signs _ b.kind).2.1
  have hrep := repS_len ind2 d
  rw [i2] at hrep
  obtain ⟨z, hz, hstr⟩ := str_more b am
  refine ⟨_, rfl, ind2, (d : Int), rfl, rfl, by omega, by omega, by rw [i2]; decide, _, rfl, a, _, _, _, rfl, rfl, .of ea, rfl, repS ind2 d, kindOf t, rfl, rfl, small (by omega), _, rfl, a, _, _, _, rfl, rfl, .of ea, rfl, small (by simp), fun lA hA => ?_⟩
  have sA := same_upd hA (.lst [V.str (repS ind2 d ++ kindOf t), V.str (nameOf t)])
  have eA : upd H lA (.lst [V.str (repS ind2 d ++ kindOf t), V.str (nameOf t)]) lA = some (.lst [V.str (repS ind2 d ++ kindOf t), V.str (nameOf t)]) := upd_same
  generalize upd H lA (.lst [V.str (repS ind2 d ++ kindOf t), V.str (nameOf t)]) = H1 at sA eA ⊢
  refine ⟨_, rfl, a, _, _, _, rfl, rfl, .of (sA _ _ ea), rfl, _, z, rfl, hstr, small (by simp), fun lB hB => ?_⟩
  have sB := sA.trans (same_upd hB (.lst [V.str z]))
  have eA2 := (same_upd hB (.lst [V.str z])) _ _ eA
  have eB : upd H1 lB (.lst [V.str z]) lB = some (.lst [V.str z]) := upd_same
  generalize upd H1 lB (.lst [V.str z]) = H2 at sB eA2 eB ⊢
  refine ⟨_, rfl, a, _, _, _, rfl, rfl, .of (sB _ _ ea), rfl, rfl, .inr ⟨_, rfl, ?_⟩⟩
  have hrepl : ∀ k : Bool, (k = true ↔ kindOf t = "grid") → (List.replicate (if k = true then (1 : Int) else 0).toNat [V.str z]).flatten = ((if kindOf t = "grid" then [(toString (intOf (moreOf t)) : Str)] else [])).map V.str := fun k hk => by
    cases k with
    | true => rw [if_pos (show kindOf t = "grid" from hk.mp rfl), ← hz (hk.mp rfl)]; rfl
    | false => rw [if_neg (show ¬ kindOf t = "grid" from fun y => by have := hk.mpr y; cases this)]; rfl
  have hk1 : ∀ k : Bool, 0 ≤ (if k = true then (1 : Int) else 0) ∧ (if k = true then (1 : Int) else 0) ≤ 1 := fun k => by cases k <;> decide
  have hdk : decide (V.str (kindOf t) = V.str "grid") = true ↔ kindOf t = "grid" := ⟨fun z => by have := of_decide_eq_true z; injection this, fun z => decide_eq_true (by rw [z])⟩
  refine ⟨lB, _, _, rfl, rfl, eB, ?_, ?_, ?_, fun lC hC => ?_⟩
  · have := (hk1 (decide (V.str (kindOf t) = V.str "grid"))).1; omega
  · have := (hk1 (decide (V.str (kindOf t) = V.str "grid"))).2; omega
  · have := hk1 (decide (V.str (kindOf t) = V.str "grid"))
    refine small ?_
    rw [List.length_singleton]; omega
  rw [hrepl _ hdk]
  have glen : (if kindOf t = "grid" then [(toString (intOf (moreOf t)) : Str)] else []).length ≤ 1 := by split <;> simp
  have sC := sB.trans (same_upd hC (.lst ((if kindOf t = "grid" then [(toString (intOf (moreOf t)) : Str)] else []).map V.str)))
  have eA3 := (same_upd hC (.lst ((if kindOf t = "grid" then [(toString (intOf (moreOf t)) : Str)] else []).map V.str))) _ _ eA2
  have eC : upd H2 lC (.lst ((if kindOf t = "grid" then [(toString (intOf (moreOf t)) : Str)] else []).map V.str)) lC = some _ := upd_same
  generalize upd H2 lC (.lst ((if kindOf t = "grid" then [(toString (intOf (moreOf t)) : Str)] else []).map V.str)) = H3 at sC eA3 eC ⊢
  refine ⟨lA, lC, _, _, rfl, rfl, eA3, eC, small (by rw [List.length_map]; show 2 + _ ≤ 1000; omega), fun lD hD => ?_⟩
  have sD := sC.trans (same_upd hD (.lst ([V.str (repS ind2 d ++ kindOf t), V.str (nameOf t)] ++ (if kindOf t = "grid" then [(toString (intOf (moreOf t)) : Str)] else []).map V.str)))
  have eD : upd H3 lD (.lst ([V.str (repS ind2 d ++ kindOf t), V.str (nameOf t)] ++ (if kindOf t = "grid" then [(toString (intOf (moreOf t)) : Str)] else []).map V.str)) lD = some _ := upd_same
  generalize upd H3 lD (.lst ([V.str (repS ind2 d ++ kindOf t), V.str (nameOf t)] ++ (if kindOf t = "grid" then [(toString (intOf (moreOf t)) : Str)] else []).map V.str)) = H4 at sD eD ⊢
  have ht4 := b.tlen
  refine ⟨_, rfl, a, _, _, _, rfl, rfl, .of (sD _ _ ea), rfl, tg, rfl, .inr ⟨⟨_, .of (sD _ _ et)⟩,
    blk_tup (xs := (tagsOf t).map V.str) (fun i acc H' => H4 = H' ∧ i ≤ 4 ∧ acc = ((tagsOf t).take i).map (fun x => V.str (dot ++ x))) ⟨rfl, by omega, rfl⟩ (fun i acc H' z => ?_) (fun i acc H' z => ?_) (fun i x acc H' N kk hx z => ?_) fun acc H' z => ?_⟩⟩
  · rw [← z.1]; exact .of (sD _ _ et)
  · rw [z.2.2, List.length_map, List.length_take]; exact small1000 (by have := z.2.1; omega)
  · obtain ⟨rfl, h4, rfl⟩ := z
    dsimp only [tYes]; rw [if_pos rfl]
    obtain ⟨y, hy, rfl⟩ : ∃ y, (tagsOf t)[i]? = some y ∧ x = V.str y := by
      rw [List.getElem?_map] at hx
      cases hy : (tagsOf t)[i]? with
      | none => rw [hy] at hx; cases hx
      | some y => rw [hy] at hx; cases hx; exact ⟨y, rfl, rfl⟩
    have hi : i < (tagsOf t).length := (List.getElem?_eq_some_iff.mp hy).1
    have hl := (name_signs (b.tags y (List.mem_of_getElem? hy))).2
    refine ⟨_, rfl, dot, y, rfl, rfl, small ?_, kk _ _ ⟨rfl, by omega, ?_⟩⟩
    · have : dot.length = 1 := by decide +kernel
      omega
    · rw [List.take_add_one, hy, List.map_append]; rfl
  · obtain ⟨rfl, h4, rfl⟩ := z
    rw [List.length_map, List.take_length] at *
    intro lE hE
    have sE := sD.trans (same_upd hE (.lst ((tagsOf t).map fun x => V.str (dot ++ x))))
    have eD2 := (same_upd hE (.lst ((tagsOf t).map fun x => V.str (dot ++ x)))) _ _ eD
    have eE : upd H4 lE (.lst ((tagsOf t).map fun x => V.str (dot ++ x))) lE = some (.lst ((tagsOf t).map fun x => V.str (dot ++ x))) := upd_same
    generalize upd H4 lE (.lst ((tagsOf t).map fun x => V.str (dot ++ x))) = H5 at sE eD2 eE ⊢
    refine ⟨lD, lE, _, _, rfl, rfl, eD2, eE, small (by rw [List.length_append, List.length_map, List.length_map]; show 2 + _ + _ ≤ 1000; omega), fun wl hwl => ?_⟩
    have ew : ([V.str (repS ind2 d ++ kindOf t), V.str (nameOf t)] ++ (if kindOf t = "grid" then [(toString (intOf (moreOf t)) : Str)] else []).map V.str) ++ ((tagsOf t).map fun x => V.str (dot ++ x)) = (wordsD d t).map V.str := by
      unfold wordsD
      rw [List.map_cons, List.map_cons, List.map_append, List.map_map, List.append_assoc]; rfl
    rw [ew]
    have sF := sE.trans (same_upd hwl (.lst ((wordsD d t).map V.str)))
    have eF : upd H5 wl (.lst ((wordsD d t).map V.str)) wl = some (.lst ((wordsD d t).map V.str)) := upd_same
    generalize upd H5 wl (.lst ((wordsD d t).map V.str)) = H6 at sF eF ⊢
    have hj := rowWords_len b
    have hjl := J_len' b
    have hwd : (wordsD d t).length ≤ 7 ∧ ∀ x ∈ wordsD d t, x.length ≤ 30 := by
      have e : (wordsD d t).length = (rowWords t).length := rfl
      refine ⟨by omega, fun x hx => ?_⟩
      rcases List.mem_cons.mp hx with rfl | hx
      · rw [app_len', hrep]; omega
      · have := hj.2 x (List.mem_cons_of_mem _ hx); omega
    refine ⟨rfl, _, rfl, bl, wl, wordsD d t, rfl, rfl, .of eF, ?_, ?_⟩
    · have : ((wordsD d t).map (·.length)).sum ≤ ((wordsD d t).map (·.length)).length * 30 := sum_b fun x hx => by
        obtain ⟨y, hy, rfl⟩ := List.mem_map.mp hx
        exact hwd.2 y hy
      rw [List.length_map] at this
      have e : bl.length = 1 := by decide +kernel
      have := hwd.1
      rw [e]; omega
    have eJ : Str.join bl (wordsD d t) = repS ind2 d ++ J (rowWords t) := J_wordsD d t
    rw [eJ]
    (try dsimp only [gName]); show tSeq _ _ _ _ _
    refine seq_joinI (fun σ' H' => σ' = [some (.ref a), some (.int (d : Int)), some (.ref wl), some (.str (lineOf (d, t)))] ∧ H' = H6) (fun N kN => ?_) ?_
    · refine ⟨_, rfl, a, _, _, _, rfl, rfl, .of (sF _ _ ea), rfl, rfl, _, rfl, ?_⟩
      by_cases hw : kindOf t = "words"
      · obtain ⟨x, ex, hx⟩ := b.words hw
        have hx80 := (word_signs hx).2
        rw [ex] at am
        cases am with
        | str _ hx4 =>
        refine ite_yes (decide_eq_true (by rw [hw])) ?_
        refine ⟨_, rfl, a, _, _, _, rfl, rfl, .of (sF _ _ ea), rfl, rfl, _, rfl, ?_⟩
        by_cases hx0 : x = Str.empty
        · refine ite_no (by rw [hx0]; rfl) ?_
          refine nx_go (kN _ _ ⟨?_, rfl⟩)
          unfold lineOf rowT
          rw [if_neg (fun z => z.2 (by rw [ex]; exact hx0))]; rfl
        · refine ite_yes (by rw [decide_eq_false fun z => hx0 (by injection z)]; rfl) ?_
          have c3 : col.length = 3 := by decide +kernel
          refine ⟨_, rfl, repS ind2 d ++ J (rowWords t), col, rfl, rfl, small (by rw [app_len', hrep]; omega), _, rfl, a, _, _, _, rfl, rfl, .of (sF _ _ ea), rfl, repS ind2 d ++ J (rowWords t) ++ col, x, rfl, rfl, small (by rw [app_len', app_len', hrep]; omega), kN _ _ ⟨?_, rfl⟩⟩
          unfold lineOf rowT
          rw [if_pos ⟨hw, by rw [ex]; exact hx0⟩, ex, app_assoc, app_assoc, ← app_assoc (J (rowWords t))]; rfl
      · refine ite_no (decide_eq_false fun z => hw (by injection z)) ?_
        refine iteF ?_
        refine nx_go (kN _ _ ⟨?_, rfl⟩)
        unfold lineOf rowT
        rw [if_neg fun z => hw z.1]; rfl
    rintro σ7 H7 ⟨rfl, rfl⟩
    have n1 : nl.length = 1 := by decide +kernel
    have hl169 := line_len (p := (d, t)) b (show d ≤ 8 by omega)
    have lk := ak.len
    have hk12 := b.kids
    refine ⟨_, rfl, lineOf (d, t), nl, rfl, rfl, small (by omega), rfl, _, rfl, a, _, _, _, rfl, rfl, .of (sF _ _ ea), rfl, ks, rfl, .inr ⟨⟨_, .of (sF _ _ ek)⟩,
      blk_tup (xs := kv) (fun i acc H' => Same H H' ∧ i ≤ 12 ∧ acc = (((kidsOf t).take i).map (textF f (d + 1))).map V.str) ⟨sF, by omega, rfl⟩ (fun i acc H' z => ?_) (fun i acc H' z => ?_) (fun i x acc H' N kk hx z => ?_) fun acc H' z => ?_⟩⟩
    · exact .of (z.1 _ _ ek)
    · rw [z.2.2, List.length_map, List.length_map, List.length_take]; exact small1000 (by have := z.2.1; omega)
    · obtain ⟨s8, h12, rfl⟩ := z
      dsimp only [tYes]; rw [if_pos rfl]
      have hi : i < (kidsOf t).length := by have := (List.getElem?_eq_some_iff.mp hx).1; omega
      have ek' : (kidsOf t)[i]? = some (kidsOf t)[i] := List.getElem?_eq_getElem hi
      have L1 := lines_take f d t (i + 1)
      rw [take_kid ek', List.length_append] at L1
      have L2 : (nodesF f (d + 1) (kidsOf t)[i]).length = (linesF f (d + 1) (kidsOf t)[i]).length := (List.length_map ..).symm
      refine ⟨_, rfl, _, rfl, _, _, rfl, rfl, x, (kidsOf t)[i], d + 1, rfl, (ak.get ek' hx).same s8, fk _ (List.getElem_mem hi), by omega, by omega, fun H9 s9 => kk _ _ ⟨s8.trans s9, by omega, ?_⟩⟩
      rw [List.take_add_one, ek', List.map_append, List.map_append]; rfl
    · obtain ⟨s8, h12, rfl⟩ := z
      rw [← lk, List.take_length] at *
      intro lJ hJ
      have hsum : (((kidsOf t).map (textF f (d + 1))).map (·.length)).sum ≤ ((kidsOf t).map fun k => (nodesF f (d + 1) k).length).sum * 170 := by
        have : ∀ l : List Tr, (∀ k ∈ l, fits f k = true) → ((l.map (textF f (d + 1))).map (·.length)).sum ≤ (l.map fun k => (nodesF f (d + 1) k).length).sum * 170 := by
          intro l
          induction l with
          | nil => intro _; exact Nat.le_refl _
          | cons k l ih =>
            intro hk
            have h1 := text_len (hk k (List.mem_cons_self ..)) (show d + 1 + f ≤ 9 by omega)
            have h2 := ih fun x hx => hk x (List.mem_cons_of_mem _ hx)
            rw [List.map_cons, List.map_cons, List.sum_cons, List.map_cons, List.sum_cons, Nat.add_mul]; omega
        exact this _ fk
      have hcount : ((kidsOf t).map fun k => (nodesF f (d + 1) k).length).sum + 1 ≤ 40 := by
        have e : (nodesF (f + 1) d t).length = ((kidsOf t).map fun k => (nodesF f (d + 1) k).length).sum + 1 := by
          show (((kidsOf t).map (nodesF f (d + 1))).flatten).length + 1 = _
          rw [List.length_flatten, List.map_map]; rfl
        omega
      have hcl : (cat ((kidsOf t).map (textF f (d + 1)))).length = (((kidsOf t).map (textF f (d + 1))).map (·.length)).sum := by
        have : ∀ l : List Str, (cat l).length = (l.map (·.length)).sum := by
          intro l
          induction l with
          | nil => rfl
          | cons x l ih => rw [cat_cons, app_len', ih]; rfl
        exact this _
      refine ⟨Str.empty, lJ, (kidsOf t).map (textF f (d + 1)), rfl, rfl, .of upd_same, ?_, lineOf (d, t) ++ nl, _, rfl, rfl, ?_, ?_⟩
      · have e : Str.empty.length = 0 := rfl
        rw [e]; omega
      · rw [join_empty, app_len', hcl]
        exact Nat.le_trans (show _ ≤ 100000 by omega) line5
      · rw [join_empty, ← text_step]
        exact q _ (s8.trans (same_upd hJ _))
theorem ok_doc_text (T : Txt K mg A) : ∀ f, FnOk P w K mg base CX0 f A.f_l_doc_text A.d_l_doc_text P_l_doc_text (spDT f)
  | 0 => ⟨fun vs H Q E h => (by obtain ⟨_, _, _, _, _, h, _⟩ := h; cases h), fun _ _ _ _ _ _ vs Q E _ _ _ _ h => (by obtain ⟨_, _, _, _, _, h, _⟩ := h; cases h)⟩
  | f + 1 => doc_text_step T f (ok_doc_text T f)
end
end KP

set_option linter.all false
set_option maxHeartbeats 4000000
set_option maxRecDepth 100000
namespace KP
open PySem L2 PyProof.Rows
section
variable {P : Program} {w : World} {K : PySem.W.Frag} {mg : Str → Option Value} {base : Heap} {A : Adr}
theorem b_ValueError : bootBuiltins "ValueError" = some (.type "ValueError") := by decide +kernel
def spAlone (c : Addr) : Sp := fun vs H Q _ => ∃ a, vs = [.ref a] ∧ H a = some (excO a c) ∧ ∀ H', Same H H' → Q (.bl true) H'
theorem ok_alone (T : Txt K mg A) : FnOkU P w K mg base 1 A.f_l_alone A.d_l_alone P_l_alone (spAlone A.c_NoBox) := by
  refine T.F_l_alone.okU sc_l_alone (fun vs H Q E h => ?_) (fun cdv B outer s H vs Q E hr h => ?_)
  · obtain ⟨a, rfl, _⟩ := h; rfl
  obtain ⟨a, rfl, ha, q⟩ := h
  have pn : ∀ {X : Cx} {x : Str} {pos : Pos} {c : Addr}, Gl X x → X.mg x = some (.ref c) → (x == ("__debug__" : Str)) = false → PE X (.Name x pos) (tC (.ref c)) := fun g m d => pe_glob g m rfl d
  refine ⟨_, pss_cons (ps_if (pt_val (pe_callB call_isiEs rfl T.n_isinstance b_isinstance (pa_cons (pv 0) (pa_cons (pe_tup (pa_cons (pn rfl T.m_NoShare (by decide)) (pa_cons (pn rfl T.m_NoText (by decide)) (pa_cons (pn rfl T.m_NoRule (by decide)) (pa_cons (pn rfl T.m_NoName (by decide)) (pa_cons (pn rfl T.m_NoPlace (by decide)) (pa_cons (pn rfl T.m_NoPage (by decide)) (pa_cons (pn rfl T.m_NoChange (by decide)) (pa_cons (pn rfl T.m_NoUndo (by decide)) (pa_cons (pn rfl T.m_NoRow (by decide)) pa_nil)))))))))) pa_nil)))) pss_never pss_nil)
    (pss_one (ps_ret (pe_and (pe_callB call_isiE rfl T.n_isinstance b_isinstance (pa_cons (pv 0) (pa_cons (pn rfl T.m_PaneError (by decide)) pa_nil)))
      (pe_one (pe_callB call_isiE rfl T.n_isinstance b_isinstance (pa_cons (pv 0) (pa_cons (pe_bltn rfl T.n_ValueError b_ValueError (v := .ty "ValueError") rfl) pa_nil))))))), ?_⟩
  have F1 := T.nb
  have nd := cls_nd T.cls
  have no : ∀ c ∈ [A.c_NoShare, A.c_NoText, A.c_NoRule, A.c_NoName, A.c_NoPlace, A.c_NoPage, A.c_NoChange, A.c_NoUndo, A.c_NoRow], PySem.W.kitOne K (.ref A.c_NoBox) (.ref c) = some false := fun c hc => by
    rw [F1.each c (by simp at hc ⊢; rcases hc with h | h | h | h | h | h | h | h | h <;> simp [h])]
    have : A.c_NoBox ≠ c := fun e => by
      subst e
      simp at nd hc
      rcases hc with h | h | h | h | h | h | h | h | h <;> simp_all
    rw [beq_eq_false_iff_ne.mpr this]
  refine ⟨_, rfl, (by show 9 ≤ sizeLine; decide), fun p1 hp1 => ?_⟩
  have s1 := same_upd hp1 (.tup [.ref A.c_NoShare, .ref A.c_NoText, .ref A.c_NoRule, .ref A.c_NoName, .ref A.c_NoPlace, .ref A.c_NoPage, .ref A.c_NoChange, .ref A.c_NoUndo, .ref A.c_NoRow])
  refine ⟨a, _, p1, [A.c_NoShare, A.c_NoText, A.c_NoRule, A.c_NoName, A.c_NoPlace, A.c_NoPage, A.c_NoChange, A.c_NoUndo, A.c_NoRow], false, rfl, s1 _ _ ha, upd_same, F1.isi, kit_none fun c hc => ?_, _, rfl, iteF ?_⟩
  · obtain ⟨x, hx, rfl⟩ := List.mem_map.mp hc
    exact no x hx
  refine ⟨_, rfl, a, _, A.c_PaneError, _, true, rfl, s1 _ _ ha, F1.isi, .inl ⟨rfl, (cls_up T.up (by simp)).1⟩, _, rfl, iteT ?_⟩
  exact ⟨_, rfl, a, _, A.c_NoBox, _, true, rfl, s1 _ _ ha, F1.isi, .inr ⟨_, rfl, F1.ve⟩, q _ s1⟩
def nthS (s : Stmt) (i : Nat) : Stmt := (defBody s).getD i (.Pass ⟨0, 0, 0, 0⟩)
def spRefused : Sp := fun vs H Q _ => ∃ (v : V) (t : Tr), vs = [v] ∧ TrAt H t v ∧ docT t = false ∧ ∀ H', Same H H' → Q (.bl true) H'
seal PE PS PSs PA PT PI PG in
theorem ok_refused (T : Txt K mg A) : FnOk P w K mg base CX0 11 A.f_l_refused A.d_l_refused P_l_refused spRefused := by
  have G0 := ok_document_text (P := P) (w := w) (base := base) T
  have G3 : FnOkU P w K mg base 1 A.f_l_alone A.d_l_alone P_l_alone (spAlone A.c_NoBox) := ok_alone T
  refine T.F_l_refused.ok sc_l_refused (fun vs H Q E h => ?_) (fun cdv B outer s H vs Q E hr h => ?_)
  · obtain ⟨v, t, rfl, _⟩ := h; rfl
  obtain ⟨v, t, rfl, h, hd, q⟩ := h
  have bel : belowIn K A.c_NoBox A.c_NoBox = true := (cls_up T.up (by simp)).2
  have suite : ∀ a, PSs ((cxOf CX0 P w K mg base N_l_refused "_law_refused" (defScope s_l_refused) A.f_l_refused cdv B outer s H E).held a) (match nthS s_l_refused 0 with | .Try _ (.ExceptHandler _ _ b _ :: _) _ _ _ => b | _ => [])
      (tRet (tCall (spAlone A.c_NoBox) [] E0 (tCons (tVar 1) tNil))) := fun a =>
    @pss_one _ _ _ (ps_ret (pe_callU G3 ((hr.mono (by decide)).u _) rfl T.m_l_alone T.F_l_alone.kp T.b_l_alone (pa_cons (pv 1) pa_nil)))
  refine ⟨_, @pss_cons _ _ _ _ _ (ps_try (C0 := A.c_NoBox) (i := 1) G0 hr rfl T.m_document_text T.F_document_text.kp T.b_document_text (pa_cons (pv 0) pa_nil) rfl rfl rfl rfl T.m_NoBox T.nb.exc (by decide) sc_l_refused.nd rfl rfl rfl suite) (pss_one (ps_ret pe_bl)), ?_⟩
  refine ⟨_, rfl, v, t, rfl, h, fun e H' s' => ?_, fun e H' s' => ⟨A.c_NoBox, _, _, rfl, T.nb.exc, bel, fun a na => ?_⟩⟩
  · rw [hd] at e; cases e
  · exact ⟨_, rfl, a, rfl, upd_same, fun H2 s2 => q _ (s'.trans ((same_upd na _).trans s2))⟩
end
end KP

set_option linter.all false
set_option maxHeartbeats 4000000
set_option maxRecDepth 100000
namespace KP
open PySem L2 PyProof.Rows WM TX
/-- one box told twice -/
theorem lk_fits {H : Hp} : ∀ {f : Nat} {t : Tr} {u v : V}, fits f t = true → TrAt H t u → TrAt H t v → Lk H (2 * f + 1) u v
  | 0, _, _, _, h, _, _ => by cases h
  | f + 1, t, u, v, h, hu, hv => by
    obtain ⟨al, fk⟩ := fits_alone h
    have b := alone_ok al
    obtain ⟨a, tg, ks, mv, kv, rfl, ea, et, am, ek, ak⟩ := box_open hu b
    obtain ⟨a', tg', ks', mv', kv', rfl, ea', et', am', ek', ak'⟩ := box_open hv b
    have hm : mv = mv' ∧ flatV mv = true ∧ ∀ x, mv ≠ .bl x := by
      by_cases hw : kindOf t = "words"
      · obtain ⟨x, ex, _⟩ := b.words hw
        rw [ex] at am am'
        cases am; cases am'; exact ⟨rfl, rfl, fun _ e => by cases e⟩
      · by_cases hg : kindOf t = "grid"
        · obtain ⟨i, ei, _⟩ := b.grid hg
          rw [ei] at am am'
          cases am; cases am'; exact ⟨rfl, rfl, fun _ e => by cases e⟩
        · rw [b.other hw hg] at am am'
          cases am; cases am'; exact ⟨rfl, rfl, fun _ e => by cases e⟩
    obtain ⟨rfl, m1, m2⟩ := hm
    have lk := ak.len
    have lk' := ak'.len
    have h12 := b.kids
    have ht := b.tlen
    show Lk H (2 * f + 2 + 1) _ _
    refine Lk.tup ea ea' (by simp) (.cons (Lk.flat rfl (fun _ e => by cases e)) (.cons (Lk.flat rfl (fun _ e => by cases e)) (.cons ?_ (.cons (Lk.flat m1 m2) (.cons ?_ .nil)))))
    · exact Lk.tup et et' (by rw [List.length_map]; omega) (Lk.strs _)
    · refine Lk.tup ek ek' (by omega) (F2.of (by omega) fun i x y hx hy => ?_)
      have hi : i < (kidsOf t).length := by have := (List.getElem?_eq_some_iff.mp hx).1; omega
      have e : (kidsOf t)[i]? = some (kidsOf t)[i] := List.getElem?_eq_getElem hi
      exact lk_fits (fk _ (List.getElem_mem hi)) (ak.get e hx) (ak'.get e hy)
/-- the document that is read between -/
def docL : Tr := .tup [.str "row", .str "a", .tup [.str "b"], .non, .tup [.tup [.str "words", .str "c", .tup [], .str "Hi 9", .tup []], .tup [.str "grid", .str "d", .tup [], .int 3, .tup []]]]
theorem docL_ok : docT docL = true := by decide +kernel
theorem docL_text : textT docL = ("row a .b\n  words c : Hi 9\n  grid d 3\n" : Str) := by decide +kernel
section
variable {P : Program} {w : World} {K : PySem.W.Frag} {mg : Str → Option Value} {base : Heap} {A : Adr}
def spBoth : Sp := fun vs H Q _ => ∃ (v : V) (t : Tr), vs = [v] ∧ TrAt H t v ∧ docT t = true ∧ ∀ H', Same H H' → Q (.bl true) H'
seal PE PS PSs PA PT PI PG in
theorem ok_both (T : Txt K mg A) : FnOk P w K mg base CX0 18 A.f_l_both A.d_l_both P_l_both spBoth := by
  have G_l_doc_text := (ok_doc_text (P := P) (w := w) (base := base) T 8).mono (show 8 ≤ 17 by decide)
  have G_document_text := (ok_document_text0 (P := P) (w := w) (base := base) T).mono (show 10 ≤ 17 by decide)
  have G_read_document := (ok_read_document (P := P) (w := w) (base := base) T).mono (show 11 ≤ 17 by decide)
  have G_l_same := ok_same (P := P) (w := w) (base := base) T 17
  refine T.F_l_both.ok sc_l_both (fun vs H Q E h => ?_) (fun cdv B outer s H vs Q E hr h => ?_)
  · obtain ⟨v, t, rfl, _⟩ := h; rfl
  obtain ⟨v, t, rfl, h, hd, q⟩ := h
  refine ⟨_, @pss_cons _ _ _ _ _ (ps_set (i := 1) sc_l_both.nd rfl (Or.inl rfl) (pe_call G_l_doc_text hr rfl T.m_l_doc_text T.F_l_doc_text.kp T.b_l_doc_text .nil pass0 (pa_cons (pv 0) (pa_cons pe_int pa_nil))))
    (@pss_cons _ _ _ _ _ (ps_for PassesOwn.never rfl (pi_range1 rfl T.n_range (pa_cons pe_int pa_nil)) (pg_name (i := 2) sc_l_both.nd rfl (Or.inl rfl)) (@pss_cons _ _ _ _ _ (ps_if (PW.pt (pw_or (pt_cmpR op_ne (pe_call G_document_text hr rfl T.m_document_text T.F_document_text.kp T.b_document_text .nil pass0 (pa_cons (pv 0) pa_nil)) (pv 1) (nomark _)) (pw_or1 (pt_not (pt_val (pe_call G_l_same hr rfl T.m_l_same T.F_l_same.kp T.b_l_same .nil pass0 (pa_cons (pe_call G_read_document hr rfl T.m_read_document T.F_read_document.kp T.b_read_document .nil pass0 (pa_cons (pv 1) pa_nil)) (pa_cons (pv 0) pa_nil)))))))) (pss_one (ps_ret pe_bl)) pss_nil)
    (pss_one (ps_if (pt_cmpR op_ne (pe_ix ix_tup (pe_ix ix_tup (pe_ix ix_tup (pe_call G_read_document hr rfl T.m_read_document T.F_read_document.kp T.b_read_document .nil pass0 (pa_cons pe_str pa_nil)) pe_int (fun _ _ => rfl)) pe_int (fun _ _ => rfl)) pe_int (fun _ _ => rfl)) pe_str (nomark _)) (pss_one (ps_ret pe_bl)) pss_nil))))
    (pss_one (ps_ret pe_bl))), ?_⟩
  obtain ⟨f8, n40⟩ := doc_fits hd
  refine ⟨_, rfl, v, t, 0, rfl, h, f8, by decide, n40, fun H1 s1 => ?_⟩
  (try dsimp only [gName]); show tSeq _ _ _ _ _
  refine ⟨2, rfl, by decide, by decide, for_range (fun i σ H' => ∃ x2, σ = [some v, some (.str (textT t)), x2] ∧ Same H H') ⟨_, rfl, s1⟩ (fun i σ H2 hi p => ?_) fun σ H2 p => ?_⟩
  · obtain ⟨x2, rfl, s2⟩ := p
    (try dsimp only [gName]); show tSeq _ _ _ _ _
    refine ⟨_, rfl, v, t, rfl, h.same s2, hd, fun H3 s3 => ⟨_, rfl, rfl, _, rfl, ite_no (by simp) ?_⟩⟩
    refine ⟨_, rfl, t, rfl, hd, fun u H4 s4 t4 => ⟨_, rfl, u, v, rfl, lk_fits f8 t4 (((h.same s2).same s3).same s4), fun H5 s5 => ⟨_, rfl, iteF ?_⟩⟩⟩
    have s6 := ((s2.trans s3).trans s4).trans s5
    refine ⟨docL, by rw [docL_text]; rfl, docL_ok, fun r H7 s7 t7 => ?_⟩
    obtain ⟨a, vs, rfl, ea, k⟩ := t7.tupE
    cases k with
    | @cons _ v0 _ _ a0 k =>
    cases k with
    | @cons _ v1 _ _ a1 k =>
    cases k with
    | @cons _ v2 _ _ a2 k =>
    cases k with
    | @cons _ v3 _ _ a3 k =>
    cases k with
    | @cons _ v4 _ _ a4 k =>
    cases k
    obtain ⟨ks, kv, rfl, ek, kk⟩ := a4.tupE
    cases kk with
    | @cons _ w0 _ _ b0 kk =>
    cases kk with
    | @cons _ w1 _ _ b1 kk =>
    cases kk
    obtain ⟨c, cs, rfl, ec, kc⟩ := b0.tupE
    cases kc with
    | @cons _ c0 _ _ d0 kc =>
    cases kc with
    | @cons _ c1 _ _ d1 kc =>
    cases kc with
    | @cons _ c2 _ _ d2 kc =>
    cases kc with
    | @cons _ c3 _ _ d3 kc =>
    cases kc with
    | @cons _ c4 _ _ d4 kc =>
    cases kc
    cases d3
    refine ⟨a, _, _, _, rfl, rfl, .of ea, rfl, ks, _, _, _, rfl, rfl, .of ek, rfl, c, _, _, _, rfl, rfl, .of ec, rfl, rfl, _, rfl, ite_no (by simp) ?_⟩
    exact nx_go ⟨_, rfl, s6.trans s7⟩
  · obtain ⟨x2, rfl, s2⟩ := p
    exact q _ s2
end
end KP

set_option linter.all false
set_option maxHeartbeats 4000000
set_option maxRecDepth 100000
namespace KP
open PySem L2 PyProof.Rows
/-- the heap without what is yet to be changed -/
def Hd (N : Addr → Bool) (H : Hp) : Hp := fun b => if N b = true then none else H b
theorem Hd.get {N : Addr → Bool} {H : Hp} {b : Addr} {o : HO} (h : Hd N H b = some o) : H b = some o ∧ N b = false := by
  unfold Hd at h
  split at h
  · cases h
  · rename_i c; exact ⟨h, by simpa using c⟩
def Al (N : Addr → Bool) (H : Hp) : Prop := ∀ b, N b = true → H b ≠ none
/-- the heap has grown, and what is to be changed is as it was -/
structure Gr (N : Addr → Bool) (H H' : Hp) : Prop where
  same : Same (Hd N H) (Hd N H')
  keep : ∀ b, N b = true → H' b = H b
section
variable {N : Addr → Bool} {H H' H2 B : Hp}
theorem Gr.refl (H : Hp) : Gr N H H := ⟨.refl _, fun _ _ => rfl⟩
theorem Gr.trans (a : Gr N H H') (b : Gr N H' H2) : Gr N H H2 := ⟨a.same.trans b.same, fun c h => (b.keep c h).trans (a.keep c h)⟩
theorem Gr.al (a : Gr N H H') (h : Al N H) : Al N H' := fun b hb => by rw [a.keep b hb]; exact h b hb
theorem Gr.new {p : Addr} (h : Al N H) (hp : H p = none) (o : HO) : Gr N H (upd H p o) := ⟨fun b u e => by
    obtain ⟨e1, e2⟩ := Hd.get e
    unfold Hd
    rw [if_neg (by rw [e2]; decide), upd_ne (ne_of_none e1 hp)]
    exact e1, fun b hb => upd_ne fun z => h b hb (z ▸ hp)⟩
theorem Hd.new {p : Addr} (h : Al N H) (hp : H p = none) (o : HO) : Hd N (upd H p o) p = some o := by
  unfold Hd
  rw [if_neg fun z => h p z hp, upd_same]
/-- this reading comes to that tree -/
def Yl (N : Addr → Bool) (B : Hp) (te : TE) (σ : L2.St) (t : Tr) : Prop := ∀ H, Same B (Hd N H) → Al N H → ∀ Q : VK, (∀ v H', Gr N H H' → TrAt (Hd N H') t v → Q v H') → te σ H Q
def Ya (N : Addr → Bool) (B : Hp) (ta : TA) (σ : L2.St) (ts : List Tr) : Prop := ∀ H, Same B (Hd N H) → Al N H → ∀ Q : List V → Hp → Prop, (∀ vs H', Gr N H H' → TrsAt (Hd N H') ts vs → Q vs H') → ta σ H Q
variable {σ : L2.St} {te tf : TE} {ta : TA} {t : Tr} {ts l l2 : List Tr} {K : PySem.W.Frag}
theorem y_str (x : Str) (h : x.length ≤ 400 := by decide +kernel) : Yl N B (tC (.str x)) σ (.str x) := fun H s al Q k => k _ H (.refl _) (.str x h)
theorem y_non : Yl N B (tC .non) σ .non := fun H s al Q k => k _ H (.refl _) .non
theorem y_int (i : Int) : Yl N B (tC (.int i)) σ (.int i) := fun H s al Q k => k _ H (.refl _) (.int i)
theorem y_var {i : Nat} {v : V} (e : σ[i]? = some (some v)) (h : TrAt B t v) : Yl N B (tVar i) σ t := fun H s al Q k => ⟨v, e, k v H (.refl _) (h.same s)⟩
theorem y_nil : Ya N B tNil σ [] := fun H s al Q k => k [] H (.refl _) .nil
theorem y_cons (h : Yl N B te σ t) (k : Ya N B ta σ ts) : Ya N B (tCons te ta) σ (t :: ts) := fun H s al Q q => h H s al _ fun v H1 g1 t1 => k H1 (s.trans g1.same) (g1.al al) _ fun vs H2 g2 t2 => q (v :: vs) H2 (g1.trans g2) (.cons (t1.same g2.same) t2)
theorem y_tup (h : Ya N B ta σ ts) (hn : ts.length ≤ 1000 := by simp) : Yl N B (tTup ta) σ (.tup ts) := fun H s al Q q => h H s al _ fun vs H1 g1 t1 =>
  ⟨by rw [← t1.len]; exact small hn, fun p hp => q _ _ (g1.trans (.new (g1.al al) hp _)) (TrAt.tup' (Hd.new (g1.al al) hp _) (TrsAt.same (Gr.new (g1.al al) hp _).same t1))⟩
end
end KP

set_option linter.all false
set_option maxHeartbeats 4000000
set_option maxRecDepth 100000
namespace KP
open PySem L2 PyProof.Rows WM TX
/-- which kind -/
def gk (m : Nat) : Str := (["row", "flow", "column", "pile", "grid"] : List Str).getD (m % 5) ""
def chG (m : Nat) (g : Int) : Nat → Tr
  | 0 => .tup [.str "blank", .str "b0", .tup [], .non, .tup []]
  | i + 1 => .tup [.str (gk (m + 1 + i)), .str (("b" : Str) ++ (toString (1 + (i : Int)) : Str)), .tup [.str "t", .str "u"], if gk (m + 1 + i) = "grid" then .int (1 + g) else .non, .tup [chG m g i]]
theorem chG_ok : ∀ m : Fin 5, ∀ g : Fin 9, docT (chG m.val (g.val : Int) 7) = true := by decide +kernel
theorem gk_len : ∀ i : Fin 5, (gk i.val).length ≤ 400 := by decide +kernel
theorem gk_mod (m : Nat) : gk m = gk (m % 5) := by unfold gk; rw [Nat.mod_mod]
theorem gk_at : ∀ i : Fin 5, atI [V.str "row", .str "flow", .str "column", .str "pile", .str "grid"] ((i.val : Nat) : Int) = some (.str (gk i.val)) := by decide +kernel
def wdK (k : Nat) : Tr := .tup [.str "words", .str (("c" : Str) ++ (toString (0 + (k : Int)) : Str)), .tup [], .str (repS "a" (1 + (0 + (k : Int))).toNat), .tup []]
def wdT : Tr := .tup [.str "flow", .str "r", .tup [], .non, .tup ((List.range 12).map wdK)]
theorem wdT_ok : docT wdT = true := by decide +kernel
def exK (j k : Nat) : Tr := .tup [.str "blank", .str (("e" : Str) ++ (toString (0 + (j : Int)) : Str) ++ ("x" : Str) ++ (toString (0 + (k : Int)) : Str)), .tup [], .non, .tup []]
def rwK (j : Nat) : Tr := .tup [.str "row", .str (("d" : Str) ++ (toString (0 + (j : Int)) : Str)), .tup [], .non, .tup ((List.range 12).map (exK j))]
def plT : Tr := .tup [.str "pile", .str "r", .tup [], .non, .tup ((List.range 3).map rwK)]
theorem plT_ok : docT plT = true := by decide +kernel
theorem d14 : ∀ k : Fin 14, (toString (0 + (k.val : Int)) : Str).length ≤ 3 ∧ (0 + (k.val : Int)).natAbs.log2 < 1920 ∧ (toString (1 + (k.val : Int)) : Str).length ≤ 3 ∧ (1 + (k.val : Int)).natAbs.log2 < 1920 := by decide +kernel
theorem one_len : ∀ x ∈ (["a", "b", "c", "d", "e", "x"] : List Str), x.length = 1 := by decide +kernel
section
variable {P : Program} {w : World} {K : PySem.W.Frag} {mg : Str → Option Value} {base : Heap} {A : Adr}
section
variable {N : Addr → Bool} {B : Hp} {σ : L2.St} {te tf : TE} {a b : Str}
theorem y_addS (h : Yl N B te σ (.str a)) (k : Yl N B tf σ (.str b)) (hl : (a ++ b).length ≤ 400) (hz : a.length + b.length ≤ 1000) : Yl N B (tOp (fun x y H Q => ∃ i j, x = .str i ∧ y = .str j ∧ i.length + j.length ≤ sizeLine ∧ Q (.str (i ++ j)) H) te tf) σ (.str (a ++ b)) := fun H s al Q q => h H s al _ fun v H1 g1 t1 => k H1 (s.trans g1.same) (g1.al al) _ fun w H2 g2 t2 => by
  cases t1
  cases t2
  exact ⟨a, b, rfl, rfl, small hz, q _ _ (g1.trans g2) (.str _ hl)⟩
theorem y_strI {i : Nat} {n : Int} (e : σ[i]? = some (some (.int n))) (hl : n.natAbs.log2 < 1920) (hz : (toString n : Str).length ≤ 400) : Yl N B (tCB (fun xs H Q => ∃ i, xs = [V.int i] ∧ i.natAbs.log2 < 1920 ∧ Q (V.str (toString i : Str)) H) (tCons (tVar i) tNil)) σ (.str (toString n : Str)) := fun H s al Q q => ⟨_, e, n, rfl, hl, q _ H (.refl _) (.str _ hz)⟩
end
theorem asg_one {te : TE} {g : TG} {D : Ends} {σ : L2.St} {H : Hp} (h : te σ H fun v H1 => g v σ H1 D.nx) : tAsg te g D σ H := h
abbrev sc_l_great_0 : Scope := (match defBody s_l_great with | _ :: _ :: _ :: _ :: (.Assign _ (.ListComp _ _ sc _) _) :: _ => sc | _ => defScope s_l_great)
theorem blk_l_great_0 : Blk (defScope s_l_great) N_l_great sc_l_great_0 ["_law_k"] [] := ⟨rfl, by decide +kernel, by decide +kernel, by decide +kernel, by decide +kernel⟩
theorem nd_l_great_0 : (capN N_l_great ["_law_k"] []).Nodup := by decide +kernel
abbrev sc_l_great_1 : Scope := (match defBody s_l_great with | _ :: _ :: _ :: _ :: _ :: _ :: _ :: (.For _ _ ((.Assign _ (.ListComp _ _ sc _) _) :: _) _ _) :: _ => sc | _ => defScope s_l_great)
theorem blk_l_great_1 : Blk (defScope s_l_great) N_l_great sc_l_great_1 ["_law_k"] [7] := ⟨rfl, by decide +kernel, by decide +kernel, by decide +kernel, by decide +kernel⟩
theorem nd_l_great_1 : (capN N_l_great ["_law_k"] [7]).Nodup := by decide +kernel
def spGreat : Sp := fun vs H Q _ => ∃ c : Nat, vs = [.int (c : Int)] ∧ ∀ v H' t, Same H H' → TrAt H' t v → docT t = true → Q v H'
seal PE PS PSs PA PT PI PG in
theorem ok_great (T : Txt K mg A) : FnOk P w K mg base CX0 1 A.f_l_great A.d_l_great P_l_great spGreat := by
  refine T.F_l_great.ok sc_l_great (fun vs H Q E h => ?_) (fun cdv B outer s H vs Q E hr h => ?_)
  · obtain ⟨c, rfl, _⟩ := h; rfl
  obtain ⟨c, rfl, q⟩ := h
  refine ⟨_, @pss_cons _ _ _ _ _ (ps_set (i := 1) sc_l_great.nd rfl (Or.inl rfl) (pe_lst (pa_cons pe_str (pa_cons pe_str (pa_cons pe_str (pa_cons pe_str (pa_cons pe_str pa_nil)))))))
    (@pss_cons _ _ _ _ _ (ps_set (i := 2) sc_l_great.nd rfl (Or.inl rfl) (pe_tup (pa_cons pe_str (pa_cons pe_str (pa_cons (pe_tup pa_nil) (pa_cons pe_non (pa_cons (pe_tup pa_nil) pa_nil)))))))
    (@pss_cons _ _ _ _ _ (ps_for PassesOwn.never rfl (pi_range2 rfl T.n_range (pa_cons pe_int (pa_cons pe_int pa_nil))) (pg_name (i := 3) sc_l_great.nd rfl (Or.inl rfl)) (@pss_cons _ _ _ _ _ (ps_set (i := 4) sc_l_great.nd rfl (Or.inl rfl) (pe_ix ix_list (pv 1) (pe_op op_mod (pe_op op_add (pv 0) (pv 3)) pe_int) (fun _ _ => rfl)))
    (pss_one (ps_set (i := 2) sc_l_great.nd rfl (Or.inl rfl) (pe_tup (pa_cons (pv 4) (pa_cons (pe_op op_add_str pe_str (pe_callTy call_str_int rfl T.n_str b_str (pa_cons (pv 3) pa_nil))) (pa_cons (pe_tup (pa_cons pe_str (pa_cons pe_str pa_nil))) (pa_cons (pe_ix ix_list (pe_lst (pa_cons pe_non (pa_cons (pe_op op_add pe_int (pe_op op_mod (pv 0) pe_int)) pa_nil))) (pe_callTy call_int1 rfl T.n_int b_int (pa_cons (pe_cmpR op_eq (pv 4) pe_str (nomark _)) pa_nil)) (fun _ _ => rfl)) (pa_cons (pe_tup (pa_cons (pv 2) pa_nil)) pa_nil))))))))))
    (@pss_cons _ _ _ _ _ (ps_if (pt_cmpR op_eq (pe_op op_mod (pv 0) pe_int) pe_int (nomark _)) (pss_one (ps_ret (pv 2))) pss_nil)
    (@pss_cons _ _ _ _ _ (ps_setComp (i := 5) blk_l_great_0 rfl (pi_range1 rfl T.n_range (pa_cons pe_int pa_nil)) (fun _ _ _ _ _ => pg_name (i := 0) nd_l_great_0 rfl (.inl rfl)) (fun _ _ _ _ _ => pif_nil) (fun _ _ _ _ _ => pe_tup (pa_cons pe_str (pa_cons (pe_op op_add_str pe_str (pe_callTy call_str_int rfl T.n_str b_str (pa_cons (pv 0) pa_nil))) (pa_cons (pe_tup pa_nil) (pa_cons (pe_op op_repX pe_str (pe_op op_add pe_int (pv 0))) (pa_cons (pe_tup pa_nil) pa_nil)))))) sc_l_great.nd rfl rfl)
    (@pss_cons _ _ _ _ _ (ps_if (pt_cmpR op_eq (pe_op op_mod (pv 0) pe_int) pe_int (nomark _)) (pss_one (ps_ret (pe_tup (pa_cons pe_str (pa_cons pe_str (pa_cons (pe_tup pa_nil) (pa_cons pe_non (pa_cons (pe_callTy call_tuple_of rfl T.n_tuple b_tuple (pa_cons (pv 5) pa_nil)) pa_nil)))))))) pss_nil)
    (@pss_cons _ _ _ _ _ (ps_set (i := 6) sc_l_great.nd rfl (Or.inl rfl) (pe_lst pa_nil))
    (@pss_cons _ _ _ _ _ (ps_for PassesOwn.never rfl (pi_range1 rfl T.n_range (pa_cons pe_int pa_nil)) (pg_name (i := 7) sc_l_great.nd rfl (Or.inr rfl)) (@pss_cons _ _ _ _ _ (ps_setComp (i := 8) blk_l_great_1 rfl (pi_range1 rfl T.n_range (pa_cons pe_int pa_nil)) (fun _ _ _ _ _ => pg_name (i := 0) nd_l_great_1 rfl (.inl rfl)) (fun _ _ _ _ _ => pif_nil) (fun _ _ _ _ _ => pe_tup (pa_cons pe_str (pa_cons (pe_op op_add_str (pe_op op_add_str (pe_op op_add_str pe_str (pe_callTy call_str_int rfl T.n_str b_str (pa_cons (pv 1) pa_nil))) pe_str) (pe_callTy call_str_int rfl T.n_str b_str (pa_cons (pv 0) pa_nil))) (pa_cons (pe_tup pa_nil) (pa_cons pe_non (pa_cons (pe_tup pa_nil) pa_nil)))))) sc_l_great.nd rfl rfl)
    (pss_one (ps_expr (pe_bm PySem.F.plainAttrs_list PySem.F.slot_list_append PySem.F.type_list_append mt_append (pv 6) (pa_cons (pe_tup (pa_cons pe_str (pa_cons (pe_op op_add_str pe_str (pe_callTy call_str_int rfl T.n_str b_str (pa_cons (pv 7) pa_nil))) (pa_cons (pe_tup pa_nil) (pa_cons pe_non (pa_cons (pe_callTy call_tuple_of rfl T.n_tuple b_tuple (pa_cons (pv 8) pa_nil)) pa_nil)))))) pa_nil))))))
    (pss_one (ps_ret (pe_tup (pa_cons pe_str (pa_cons pe_str (pa_cons (pe_tup pa_nil) (pa_cons pe_non (pa_cons (pe_callTy call_tuple_of rfl T.n_tuple b_tuple (pa_cons (pv 6) pa_nil)) pa_nil))))))))))))))), ?_⟩
  have n0 : ∀ {H : Hp}, Al (fun _ => false) H := fun {H} b hb => by cases hb
  have ol := one_len
  refine ⟨small (by simp), fun kl hkl => ?_⟩
  have s1 := same_upd hkl (.lst [V.str "row", .str "flow", .str "column", .str "pile", .str "grid"])
  have e1 : upd H kl (.lst [V.str "row", .str "flow", .str "column", .str "pile", .str "grid"]) kl = some (.lst [V.str "row", .str "flow", .str "column", .str "pile", .str "grid"]) := upd_same
  change tSeq _ _ _ _ (upd H kl (.lst [V.str "row", .str "flow", .str "column", .str "pile", .str "grid"]))
  generalize upd H kl (.lst [V.str "row", .str "flow", .str "column", .str "pile", .str "grid"]) = H1 at s1 e1 ⊢
  refine seq_asg ((y_tup (ts := [.str "blank", .str "b0", .tup [], .non, .tup []]) (y_cons (y_str _) (y_cons (y_str _) (y_cons (y_tup y_nil) (y_cons y_non (y_cons (y_tup y_nil) y_nil)))))) H1 (.refl (Hd (fun _ => false) H1)) n0 _ fun v1 H2 g2 t2 => ?_)
  have s2 : Same H1 H2 := g2.same
  (try dsimp only [gName]); show tSeq _ _ _ _ _
  refine ⟨1, 8, rfl, ⟨by decide, by decide, by decide, by decide⟩, for_range (fun i σ H' => i ≤ 7 ∧ ∃ v x3 x4, σ = [some (.int (c : Int)), some (.ref kl), some v, x3, x4, none, none, none, none] ∧ Same H1 H' ∧ TrAt H' (chG c ((c % 9 : Nat) : Int) i) v) ⟨by omega, v1, none, none, rfl, s2, t2⟩ (fun i σ H3 hi p => ?_) fun σ H3 p => ?_⟩
  · obtain ⟨h7, v, x3, x4, rfl, s3, t3⟩ := p
    have hi7 : i < 7 := hi
    obtain ⟨-, -, d3, d4⟩ := d14 ⟨i, by omega⟩
    dsimp only at d3 d4
    have emod : ((c : Int) + (1 + (i : Int))) % 5 = (((c + 1 + i) % 5 : Nat) : Int) := by omega
    have hg5 : (c + 1 + i) % 5 < 5 := Nat.mod_lt _ (by decide)
    have hat := gk_at ⟨(c + 1 + i) % 5, hg5⟩
    have hgl := gk_len ⟨(c + 1 + i) % 5, hg5⟩
    dsimp only at hat hgl
    rw [← gk_mod] at hat hgl
    (try dsimp only [gName]); show tSeq _ _ _ _ _
    refine seq_asg ⟨_, rfl, _, rfl, _, rfl, _, _, rfl, rfl, _, _, rfl, rfl, (by show (0 : Int) < 5; decide), kl, _, _, .str (gk (c + 1 + i)), rfl, rfl, .of (s3 _ _ e1), by rw [emod]; exact hat, ?_⟩
    show tAsg _ _ _ _ _
    refine asg_one ?_
    have hb1 : ("b" : Str).length = 1 := ol _ (by simp)
    refine (y_tup (ts := [.str (gk (c + 1 + i)), .str (("b" : Str) ++ (toString (1 + (i : Int)) : Str)), .tup [.str "t", .str "u"], if gk (c + 1 + i) = "grid" then .int (1 + ((c % 9 : Nat) : Int)) else .non, .tup [chG c ((c % 9 : Nat) : Int) i]]) (y_cons (y_var rfl (.str _ hgl)) (y_cons (y_addS (y_str _) (y_strI rfl d4 (by omega)) (by rw [app_len', hb1]; omega) (by omega)) (y_cons (y_tup (y_cons (y_str _) (y_cons (y_str _) y_nil))) (y_cons ?_ (y_cons (y_tup (y_cons (y_var rfl t3) y_nil)) y_nil)))))) H3 (.refl (Hd (fun _ => false) H3)) n0 _ fun v4 H4 g4 t4 => ⟨hi, v4, _, _, rfl, s3.trans g4.same, t4⟩
    intro Hx sx al Qx qx
    have e9 : (1 : Int) + (c : Int) % 9 = 1 + ((c % 9 : Nat) : Int) := by omega
    refine ⟨_, rfl, _, _, rfl, rfl, (by show (0 : Int) < 9; decide), _, _, rfl, rfl, small (by simp), fun p hp => ⟨_, rfl, rfl, .inr ⟨_, rfl, ?_⟩⟩⟩
    dsimp only
    rw [e9]
    by_cases hg : gk (c + 1 + i) = "grid"
    · rw [if_pos hg] at qx
      rw [decide_eq_true (show V.str (gk (c + 1 + i)) = V.str "grid" by rw [hg])]
      exact ⟨p, _, 1, .int (1 + ((c % 9 : Nat) : Int)), rfl, rfl, .of upd_same, rfl, qx _ _ (.new al hp _) (.int _)⟩
    · rw [if_neg hg] at qx
      rw [decide_eq_false (show ¬ V.str (gk (c + 1 + i)) = V.str "grid" from fun z => hg (by injection z))]
      exact ⟨p, _, 0, .non, rfl, rfl, .of upd_same, rfl, qx _ _ (.new al hp _) .non⟩
  · obtain ⟨h7, v, x3, x4, rfl, s3, t3⟩ := p
    have c7 : docT (chG c ((c % 9 : Nat) : Int) 7) = true := by
      have e : ∀ (m : Nat) (g : Int) (i : Nat), chG m g i = chG (m % 5) g i := by
        intro m g i
        induction i with
        | zero => rfl
        | succ i ih =>
          have : gk (m + 1 + i) = gk (m % 5 + 1 + i) := by rw [gk_mod (m + 1 + i), gk_mod (m % 5 + 1 + i)]; congr 1; omega
          show Tr.tup _ = Tr.tup _
          rw [this, ih]
      rw [e]
      exact chG_ok ⟨c % 5, Nat.mod_lt _ (by decide)⟩ ⟨c % 9, Nat.mod_lt _ (by decide)⟩
    have t7 : TrAt H3 (chG c ((c % 9 : Nat) : Int) 7) v := t3
    refine ⟨_, rfl, _, _, rfl, rfl, (by show (0 : Int) < 3; decide), rfl, _, rfl, ite2 (fun _ => ?_) (fun _ => ?_)⟩
    · exact ⟨_, rfl, q v H3 _ (s1.trans s3) t7 c7⟩
    refine ⟨12, rfl, by decide, by decide, blk_rng (n := 12) (fun j acc Hj => TrsAt Hj ((List.range j).map wdK) acc ∧ Same H3 Hj ∧ j ≤ 12) ⟨.nil, .refl _, by omega⟩ (fun j acc Hj z => small1000 (by have := z.1.len; rw [List.length_map, List.length_range] at this; have := z.2.2; omega)) (fun j acc Hj R kk hj z => ?_) fun acc Hj z => ?_⟩
    · obtain ⟨z1, z2, z3⟩ := z
      dsimp only [tYes]; rw [if_pos rfl]
      have hj12 : j < 12 := hj
      obtain ⟨d1, d2, -, -⟩ := d14 ⟨j, by omega⟩
      dsimp only at d1 d2
      have hc1 : ("c" : Str).length = 1 := ol _ (by simp)
      have ha1 : ("a" : Str).length = 1 := ol _ (by simp)
      have hrl : (repS "a" (1 + (0 + (j : Int))).toNat).length ≤ 400 := by rw [repS_len, ha1]; omega
      refine (y_tup (ts := [.str "words", .str (("c" : Str) ++ (toString (0 + (j : Int)) : Str)), .tup [], .str (repS "a" (1 + (0 + (j : Int))).toNat), .tup []]) (y_cons (y_str _) (y_cons (y_addS (y_str _) (y_strI rfl d2 (by omega)) (by rw [app_len', hc1]; omega) (by omega)) (y_cons (y_tup y_nil) (y_cons ?_ (y_cons (y_tup y_nil) y_nil)))))) Hj (.refl (Hd (fun _ => false) Hj)) n0 _ fun v6 H6 g6 t6 => kk _ _ ⟨?_, z2.trans g6.same, by omega⟩
      · intro Hx sx al Qx qx
        exact ⟨_, rfl, _, _, rfl, rfl, "a", _, rfl, rfl, by omega, by omega, by rw [ha1]; decide, qx _ _ (.refl _) (.str _ hrl)⟩
      · rw [List.range_succ, List.map_append]
        exact (TrsAt.same g6.same z1).append (.cons t6 .nil)
    · obtain ⟨z1, z2, z3⟩ := z
      intro tl htl
      have s4 := z2.trans (same_upd htl (.lst acc))
      have e4 : upd Hj tl (.lst acc) tl = some (.lst acc) := upd_same
      have z4 := TrsAt.same (same_upd htl (.lst acc)) z1
      generalize upd Hj tl (.lst acc) = H4 at s4 e4 z4 ⊢
      have s5 := (s1.trans s3).trans s4
      refine ⟨_, rfl, _, _, rfl, rfl, (by show (0 : Int) < 3; decide), rfl, _, rfl, ite2 (fun _ => ?_) (fun _ => ?_)⟩
      · refine (y_tup (ts := [.str "flow", .str "r", .tup [], .non, .tup ((List.range 12).map wdK)]) (y_cons (y_str _) (y_cons (y_str _) (y_cons (y_tup y_nil) (y_cons y_non (y_cons ?_ y_nil)))))) H4 (.refl (Hd (fun _ => false) H4)) n0 _ fun v6 H6 g6 t6 => q v6 H6 _ (s5.trans g6.same) t6 wdT_ok
        intro Hx sx al Qx qx
        exact ⟨_, rfl, tl, acc, rfl, .inl ⟨.of (sx _ _ e4), fun t ht => qx _ _ ⟨same_upd ht _, fun b hb => by cases hb⟩ (TrAt.tup' upd_same (TrsAt.same (sx.trans (same_upd ht _)) z4))⟩⟩
      refine ⟨small (by simp), fun ll hll => ?_⟩
      have s6 := s5.trans (same_upd hll (.lst []))
      have e6 : upd H4 ll (.lst []) ll = some (.lst []) := upd_same
      have hll0 : H ll = none := none_of' s5 hll
      generalize upd H4 ll (.lst []) = H5 at s6 e6 ⊢
      (try dsimp only [gName]); show tSeq _ _ _ _ _
      refine ⟨3, rfl, by decide, by decide, for_range (fun i σ H' => i ≤ 3 ∧ ∃ x7 x8 kv, σ = [some (.int (c : Int)), some (.ref kl), some v, x3, x4, some (.ref tl), some (.ref ll), x7, x8] ∧ Same H H' ∧ H' ll = some (.lst kv) ∧ TrsAt (Hd (fun b => b == ll) H') ((List.range i).map rwK) kv) ⟨by omega, none, none, [], rfl, s6, e6, .nil⟩ (fun i σ H6 hi p => ?_) fun σ H6 p => ?_⟩
      · obtain ⟨h3, x7, x8, kv, rfl, s7, e7, k7⟩ := p
        have hi3 : i < 3 := hi
        obtain ⟨d1, d2, -, -⟩ := d14 ⟨i, by omega⟩
        dsimp only at d1 d2
        have lk7 := k7.len
        rw [List.length_map, List.length_range] at lk7
        (try dsimp only [gName]); show tSeq _ _ _ _ _
        refine ⟨12, rfl, by decide, by decide, blk_rng (n := 12) (fun j acc Hj => TrsAt (Hd (fun b => b == ll) Hj) ((List.range j).map (exK i)) acc ∧ Gr (fun b => b == ll) H6 Hj ∧ j ≤ 12) ⟨.nil, .refl _, by omega⟩ (fun j acc Hj z => small1000 (by have := z.1.len; rw [List.length_map, List.length_range] at this; have := z.2.2; omega)) (fun j acc Hj R kk hj z => ?_) fun acc Hj z => ?_⟩
        · obtain ⟨z1, z2, z3⟩ := z
          dsimp only [tYes]; rw [if_pos rfl]
          have hj12 : j < 12 := hj
          have al6 : Al (fun b => b == ll) Hj := z2.al fun b hb => by rw [eq_of_beq hb, e7]; simp
          obtain ⟨d5, d6, -, -⟩ := d14 ⟨j, by omega⟩
          dsimp only at d5 d6
          have he1 : ("e" : Str).length = 1 := ol _ (by simp)
          have hx1 : ("x" : Str).length = 1 := ol _ (by simp)
          refine (y_tup (ts := [.str "blank", .str (("e" : Str) ++ (toString (0 + (i : Int)) : Str) ++ ("x" : Str) ++ (toString (0 + (j : Int)) : Str)), .tup [], .non, .tup []]) (y_cons (y_str _) (y_cons (y_addS (y_addS (y_addS (y_str _) (y_strI rfl d2 (by omega)) (by rw [app_len', he1]; omega) (by omega)) (y_str _) (by rw [app_len', app_len', he1, hx1]; omega) (by rw [app_len', he1, hx1]; omega)) (y_strI rfl d6 (by omega)) (by rw [app_len', app_len', app_len', he1, hx1]; omega) (by rw [app_len', app_len', he1, hx1]; omega)) (y_cons (y_tup y_nil) (y_cons y_non (y_cons (y_tup y_nil) y_nil)))))) Hj (.refl (Hd (fun b => b == ll) Hj)) al6 _ fun v6 H7 g7 t7 => kk _ _ ⟨?_, z2.trans g7, by omega⟩
          rw [List.range_succ, List.map_append]
          exact (TrsAt.same g7.same z1).append (.cons t7 .nil)
        · obtain ⟨z1, z2, z3⟩ := z
          intro il hil
          have al6 : Al (fun b => b == ll) Hj := z2.al fun b hb => by rw [eq_of_beq hb, e7]; simp
          have g8 := Gr.new al6 hil (.lst acc)
          have e8 := Hd.new al6 hil (.lst acc)
          have z8 := TrsAt.same g8.same z1
          have g9 := z2.trans g8
          have al8 := g8.al al6
          generalize upd Hj il (.lst acc) = H8 at g8 e8 z8 g9 al8 ⊢
          have e7' : H8 ll = some (.lst kv) := by rw [g9.keep ll (by simp)]; exact e7
          have hd1 : ("d" : Str).length = 1 := ol _ (by simp)
          refine ⟨_, rfl, .inl ⟨rfl, _, .of e7'⟩, ?_⟩
          refine (y_tup (ts := [.str "row", .str (("d" : Str) ++ (toString (0 + (i : Int)) : Str)), .tup [], .non, .tup ((List.range 12).map (exK i))]) (y_cons (y_str _) (y_cons (y_addS (y_str _) (y_strI rfl d2 (by omega)) (by rw [app_len', hd1]; omega) (by omega)) (y_cons (y_tup y_nil) (y_cons y_non (y_cons ?_ y_nil)))))) H8 (.refl (Hd (fun b => b == ll) H8)) al8 _ fun v9 H9 g10 t9 => ?_
          · intro Hx sx al Qx qx
            have ex := sx _ _ e8
            exact ⟨_, rfl, il, acc, rfl, .inl ⟨.of (Hd.get ex).1, fun t ht => qx _ _ (.new al ht _) (TrAt.tup' (Hd.new al ht _) (TrsAt.same (sx.trans (Gr.new al ht _).same) z8))⟩⟩
          have e9 : H9 ll = some (.lst kv) := by rw [g10.keep ll (by simp)]; exact e7'
          refine ⟨ll, kv, _, rfl, rfl, e9, small1000 (by omega), hi, _, _, kv ++ [v9], rfl, fun b u z => ?_, upd_same, ?_⟩
          · have nb := ne_of_none z hll0
            rw [upd_ne nb]
            have h6 := s7 _ _ z
            have : Hd (fun b => b == ll) H6 b = some u := by unfold Hd; rw [if_neg (by simp; exact nb)]; exact h6
            exact (Hd.get ((g9.trans g10).same _ _ this)).1
          · have sh : Same (Hd (fun b => b == ll) H9) (Hd (fun b => b == ll) (upd H9 ll (.lst (kv ++ [v9])))) := fun b u z => by
              obtain ⟨z1, z2⟩ := Hd.get z
              unfold Hd
              rw [if_neg (Bool.eq_false_iff.mp z2), upd_ne (fun e => by rw [e] at z2; simp at z2)]; exact z1
            rw [List.range_succ, List.map_append]
            exact (TrsAt.same ((g9.trans g10).same.trans sh) k7).append (.cons (t9.same sh) .nil)
      · obtain ⟨h3, x7, x8, kv, rfl, s7, e7, k7⟩ := p
        refine (y_tup (ts := [.str "pile", .str "r", .tup [], .non, .tup ((List.range 3).map rwK)]) (y_cons (y_str _) (y_cons (y_str _) (y_cons (y_tup y_nil) (y_cons y_non (y_cons ?_ y_nil)))))) H6 (.refl (Hd (fun _ => false) H6)) n0 _ fun v9 H9 g9 t9 => q v9 H9 _ (s7.trans g9.same) t9 plT_ok
        intro Hx sx al Qx qx
        have ex : Hx ll = some (.lst kv) := sx _ _ e7
        have sk : Same (Hd (fun b => b == ll) H6) Hx := fun b u z => sx _ _ (Hd.get z).1
        exact ⟨_, rfl, ll, kv, rfl, .inl ⟨.of ex, fun t ht => qx _ _ ⟨same_upd ht _, fun b hb => by cases hb⟩ (TrAt.tup' upd_same (TrsAt.same (sk.trans (same_upd ht _)) k7))⟩⟩
end
end KP

set_option linter.all false
set_option maxHeartbeats 4000000
set_option maxRecDepth 100000
namespace KP
open PySem L2 PyProof.Rows WM TX
section
variable {P : Program} {w : World} {K : PySem.W.Frag} {mg : Str → Option Value} {base : Heap} {A : Adr}
def spLaw (K : PySem.W.Frag) : Sp := fun vs H Q _ => ∃ (a : Addr) (ns : List Int), vs = [.ref a] ∧ SqL K H a (ns.map V.int) ∧ ns.length ≤ 63 ∧ ∀ H', Q (.bl true) H'
def docB : Tr := .tup [.str "row", .str "a", .tup [], .int 3, .tup []]
theorem docB_no : docT docB = false := by decide +kernel
theorem docN_no : docT .non = false := by decide +kernel
theorem docE_no : docT (.lst []) = false := by decide +kernel
theorem ret_call {sp : Sp} {E : XK} {te tf : TE} {D : Ends} {σ : L2.St} {H : Hp} (h : te σ H fun v H1 => sp [v] H1 (fun x H2 => ∃ k, x = .bl k ∧ (if k = true then tf σ H2 D.rt else D.rt (.bl false) H2)) E) : tRet (tAndV (tCall sp [] E (tCons te tNil)) tf) D σ H := h

seal PE PS PSs PA PT PI PG in
theorem ok_law (T : Txt K mg A) : FnOk P w K mg base CX0 19 A.f_law A.d_law P_law (spLaw K) := by
  have G_l_rows := (ok_rows (P := P) (w := w) (base := base) T).mono (show 3 ≤ 18 by decide)
  have G_l_cell_at := (ok_cell (P := P) (w := w) (base := base) T).mono (show 1 ≤ 18 by decide)
  have G_l_box := (ok_box (P := P) (w := w) (base := base) T 12).mono (show 12 ≤ 18 by decide)
  have G_l_both := ok_both (P := P) (w := w) (base := base) T
  have G_l_great := (ok_great (P := P) (w := w) (base := base) T).mono (show 1 ≤ 18 by decide)
  have G_l_refused := (ok_refused (P := P) (w := w) (base := base) T).mono (show 11 ≤ 18 by decide)
  refine T.F_law.ok sc_law (fun vs H Q E h => ?_) (fun cdv B outer s H vs Q E hr h => ?_)
  · obtain ⟨a, ns, rfl, _⟩ := h; rfl
  obtain ⟨a, ns, rfl, hS, hn, q⟩ := h
  refine ⟨_, @pss_cons _ _ _ _ _ (ps_if (PW.pt (pw_or (pt_not (pt_val (pe_call G_l_both hr rfl T.m_l_both T.F_l_both.kp T.b_l_both .nil pass0 (pa_cons (pe_call G_l_box hr rfl T.m_l_box T.F_l_box.kp T.b_l_box .nil pass0 (pa_cons (pe_call G_l_rows hr rfl T.m_l_rows T.F_l_rows.kp T.b_l_rows .nil pass0 (pa_cons (pv 0) (pa_cons pe_int pa_nil))) (pa_cons pe_int pa_nil))) pa_nil)))) (pw_or1 (pt_not (pt_val (pe_call G_l_both hr rfl T.m_l_both T.F_l_both.kp T.b_l_both .nil pass0 (pa_cons (pe_call G_l_great hr rfl T.m_l_great T.F_l_great.kp T.b_l_great .nil pass0 (pa_cons (pe_op op_mod (pe_call G_l_cell_at hr rfl T.m_l_cell_at T.F_l_cell_at.kp T.b_l_cell_at .nil pass0 (pa_cons (pv 0) (pa_cons pe_int pa_nil))) pe_int) pa_nil)) pa_nil))))))) (pss_one (ps_ret pe_bl)) pss_nil)
    (pss_one (ps_ret (pe_and (pe_call G_l_refused hr rfl T.m_l_refused T.F_l_refused.kp T.b_l_refused .nil pass0 (pa_cons (pe_tup (pa_cons pe_str (pa_cons pe_str (pa_cons (pe_tup pa_nil) (pa_cons pe_int (pa_cons (pe_tup pa_nil) pa_nil)))))) pa_nil)) (pe_and (pe_call G_l_refused hr rfl T.m_l_refused T.F_l_refused.kp T.b_l_refused .nil pass0 (pa_cons pe_non pa_nil)) (pe_one (pe_call G_l_refused hr rfl T.m_l_refused T.F_l_refused.kp T.b_l_refused .nil pass0 (pa_cons (pe_lst pa_nil) pa_nil))))))), ?_⟩
  have n0 : ∀ {H : Hp}, Al (fun _ => false) H := fun {H} b hb => by cases hb
  refine ⟨_, rfl, a, ns, 0, rfl, hS, hn, by decide, fun rl xs c H1 s1 R1 ok h0 => ?_⟩
  have n12 := ok.n
  have h0' : 0 < xs.length := h0
  have dr := doc_rows ok h0'
  refine ⟨rl, xs, c, 0, rfl, R1, ok, h0', by omega, fun d H2 s2 b2 => ⟨_, _, rfl, tr_of ok _ 0 d (Nat.le_refl _) h0' b2, dr, fun H3 s3 => ⟨_, rfl, iteF ?_⟩⟩⟩
  have hS3 := sq_same (sq_same (sq_same hS s1) s2) s3
  refine ⟨_, rfl, a, ns, 9, rfl, hS3, hn, by decide, fun c9 => ⟨_, _, rfl, rfl, (by show (0 : Int) < 999; decide), ?_⟩⟩
  obtain ⟨m, em⟩ : ∃ m : Nat, c9 % 999 = (m : Int) := ⟨(c9 % 999).toNat, by have := Int.emod_nonneg c9 (show (999 : Int) ≠ 0 by decide); omega⟩
  refine ⟨m, (by show [V.int (c9 % 999)] = _; rw [em]), fun v H4 t s4 t4 d4 => ⟨v, t, rfl, t4, d4, fun H5 s5 => ⟨_, rfl, iteF ?_⟩⟩⟩
  refine nx_go ?_
  dsimp only
  refine ret_call ?_
  refine (y_tup (ts := [.str "row", .str "a", .tup [], .int 3, .tup []]) (y_cons (y_str _) (y_cons (y_str _) (y_cons (y_tup y_nil) (y_cons (y_int 3) (y_cons (y_tup y_nil) y_nil)))))) H5 (.refl (Hd (fun _ => false) H5)) n0 _ fun v6 H6 g6 t6 => ?_
  refine ⟨v6, docB, rfl, t6, docB_no, fun H7 s7 => ⟨_, rfl, iteT ?_⟩⟩
  refine ⟨.non, .non, rfl, .non, docN_no, fun H8 s8 => ⟨_, rfl, iteT ?_⟩⟩
  refine ⟨small (by simp), fun l hl => ⟨.ref l, .lst [], rfl, TrAt.lst' upd_same .nil, docE_no, fun H9 s9 => q _⟩⟩
end
end KP

set_option Elab.async false
set_option linter.all false
set_option maxHeartbeats 4000000
set_option maxRecDepth 100000
namespace KP
open PySem L2 PyProof.Rows
theorem txt_mk {K : PySem.W.Frag} {h : Heap} {mg : Str → Option Value} (X : K.In h) (G : h.Ns mainGlobals mg)
    {f1 : Addr} {od1 an1 : Option Addr} {sl1 : Array (Option Value)} {oc1 kV1 dc1 pm1 cd1 ct1 : Value}
    {f2 : Addr} {od2 an2 : Option Addr} {sl2 : Array (Option Value)} {oc2 kV2 dc2 pm2 cd2 ct2 : Value}
    {f3 : Addr} {od3 an3 : Option Addr} {sl3 : Array (Option Value)} {oc3 kV3 dc3 pm3 cd3 ct3 : Value}
    {f4 : Addr} {od4 an4 : Option Addr} {sl4 : Array (Option Value)} {oc4 kV4 dc4 pm4 cd4 ct4 : Value}
    {f5 : Addr} {od5 an5 : Option Addr} {sl5 : Array (Option Value)} {oc5 kV5 dc5 pm5 cd5 ct5 : Value}
    {f6 : Addr} {od6 an6 : Option Addr} {sl6 : Array (Option Value)} {oc6 kV6 dc6 pm6 cd6 ct6 : Value}
    {f7 : Addr} {od7 an7 : Option Addr} {sl7 : Array (Option Value)} {oc7 kV7 dc7 pm7 cd7 ct7 : Value}
    {f8 : Addr} {od8 an8 : Option Addr} {sl8 : Array (Option Value)} {oc8 kV8 dc8 pm8 cd8 ct8 : Value}
    {f9 : Addr} {od9 an9 : Option Addr} {sl9 : Array (Option Value)} {oc9 kV9 dc9 pm9 cd9 ct9 : Value}
    {f10 : Addr} {od10 an10 : Option Addr} {sl10 : Array (Option Value)} {oc10 kV10 dc10 pm10 cd10 ct10 : Value}
    {f11 : Addr} {od11 an11 : Option Addr} {sl11 : Array (Option Value)} {oc11 kV11 dc11 pm11 cd11 ct11 : Value}
    {f12 : Addr} {od12 an12 : Option Addr} {sl12 : Array (Option Value)} {oc12 kV12 dc12 pm12 cd12 ct12 : Value}
    {f13 : Addr} {od13 an13 : Option Addr} {sl13 : Array (Option Value)} {oc13 kV13 dc13 pm13 cd13 ct13 : Value}
    {f14 : Addr} {od14 an14 : Option Addr} {sl14 : Array (Option Value)} {oc14 kV14 dc14 pm14 cd14 ct14 : Value}
    {f15 : Addr} {od15 an15 : Option Addr} {sl15 : Array (Option Value)} {oc15 kV15 dc15 pm15 cd15 ct15 : Value}
    {f16 : Addr} {od16 an16 : Option Addr} {sl16 : Array (Option Value)} {oc16 kV16 dc16 pm16 cd16 ct16 : Value}
    {f17 : Addr} {od17 an17 : Option Addr} {sl17 : Array (Option Value)} {oc17 kV17 dc17 pm17 cd17 ct17 : Value}
    {f18 : Addr} {od18 an18 : Option Addr} {sl18 : Array (Option Value)} {oc18 kV18 dc18 pm18 cd18 ct18 : Value}
    {f19 : Addr} {od19 an19 : Option Addr} {sl19 : Array (Option Value)} {oc19 kV19 dc19 pm19 cd19 ct19 : Value}
    {f20 : Addr} {od20 an20 : Option Addr} {sl20 : Array (Option Value)} {oc20 kV20 dc20 pm20 cd20 ct20 : Value}
    {f21 : Addr} {od21 an21 : Option Addr} {sl21 : Array (Option Value)} {oc21 kV21 dc21 pm21 cd21 ct21 : Value}
    {f22 : Addr} {od22 an22 : Option Addr} {sl22 : Array (Option Value)} {oc22 kV22 dc22 pm22 cd22 ct22 : Value}
    {f23 : Addr} {od23 an23 : Option Addr} {sl23 : Array (Option Value)} {oc23 kV23 dc23 pm23 cd23 ct23 : Value}
    {f24 : Addr} {od24 an24 : Option Addr} {sl24 : Array (Option Value)} {oc24 kV24 dc24 pm24 cd24 ct24 : Value}
    {f25 : Addr} {od25 an25 : Option Addr} {sl25 : Array (Option Value)} {oc25 kV25 dc25 pm25 cd25 ct25 : Value}
    {f26 : Addr} {od26 an26 : Option Addr} {sl26 : Array (Option Value)} {oc26 kV26 dc26 pm26 cd26 ct26 : Value}
    {f27 : Addr} {od27 an27 : Option Addr} {sl27 : Array (Option Value)} {oc27 kV27 dc27 pm27 cd27 ct27 : Value}
    {f28 : Addr} {od28 an28 : Option Addr} {sl28 : Array (Option Value)} {oc28 kV28 dc28 pm28 cd28 ct28 : Value}
    {f29 : Addr} {od29 an29 : Option Addr} {sl29 : Array (Option Value)} {oc29 kV29 dc29 pm29 cd29 ct29 : Value}
    {f30 : Addr} {od30 an30 : Option Addr} {sl30 : Array (Option Value)} {oc30 kV30 dc30 pm30 cd30 ct30 : Value}
    {f31 : Addr} {od31 an31 : Option Addr} {sl31 : Array (Option Value)} {oc31 kV31 dc31 pm31 cd31 ct31 : Value}
    {f32 : Addr} {od32 an32 : Option Addr} {sl32 : Array (Option Value)} {oc32 kV32 dc32 pm32 cd32 ct32 : Value}
    {f33 : Addr} {od33 an33 : Option Addr} {sl33 : Array (Option Value)} {oc33 kV33 dc33 pm33 cd33 ct33 : Value}
    {f34 : Addr} {od34 an34 : Option Addr} {sl34 : Array (Option Value)} {oc34 kV34 dc34 pm34 cd34 ct34 : Value}
    {f35 : Addr} {od35 an35 : Option Addr} {sl35 : Array (Option Value)} {oc35 kV35 dc35 pm35 cd35 ct35 : Value}
    {t_MOST_NAME_SIGNS : Tok}
    {t_MOST_TAGS : Tok}
    {t_MOST_KIDS : Tok}
    {t_MOST_COLUMNS : Tok}
    {t_MOST_TEXT_SIGNS : Tok}
    {t_MOST_WORD_SIGNS : Tok}
    {t_MOST_BOXES : Tok}
    {t_MOST_DEEP : Tok}
    {t_LETTERS : Tok}
    {t_NAME_SIGNS : Tok}
    {t_TEXT_SIGNS : Tok}
    {r_KINDS : Addr}
    {r_KIDLESS : Addr}
    {r_COLUMNS : Addr}
    {x_PaneError x_NoShare x_NoBox x_NoText x_NoRule x_NoName x_NoPlace x_NoPage x_NoChange x_NoUndo x_NoRow : Addr}
    (a1 : PySem.W.nsIn K mainGlobals "is_number" = some (some (.ref f1))) (l1 : K.lookup f1 = some ⟨oc1, od1, .func (PySem.W.fnOf "is_number" "is_number" (defArgs s_is_number) (defBody s_is_number) (defScope s_is_number) .none kV1 dc1 pm1 an1 cd1 ct1), sl1⟩) (c1 : PySem.W.codeIn K cd1 "is_number" = true) (k1 : PySem.W.keepIn K (.ref f1) = true)
    (a2 : PySem.W.nsIn K mainGlobals "is_within" = some (some (.ref f2))) (l2 : K.lookup f2 = some ⟨oc2, od2, .func (PySem.W.fnOf "is_within" "is_within" (defArgs s_is_within) (defBody s_is_within) (defScope s_is_within) .none kV2 dc2 pm2 an2 cd2 ct2), sl2⟩) (c2 : PySem.W.codeIn K cd2 "is_within" = true) (k2 : PySem.W.keepIn K (.ref f2) = true)
    (a3 : PySem.W.nsIn K mainGlobals "has_only" = some (some (.ref f3))) (l3 : K.lookup f3 = some ⟨oc3, od3, .func (PySem.W.fnOf "has_only" "has_only" (defArgs s_has_only) (defBody s_has_only) (defScope s_has_only) .none kV3 dc3 pm3 an3 cd3 ct3), sl3⟩) (c3 : PySem.W.codeIn K cd3 "has_only" = true) (k3 : PySem.W.keepIn K (.ref f3) = true)
    (a4 : PySem.W.nsIn K mainGlobals "is_name" = some (some (.ref f4))) (l4 : K.lookup f4 = some ⟨oc4, od4, .func (PySem.W.fnOf "is_name" "is_name" (defArgs s_is_name) (defBody s_is_name) (defScope s_is_name) .none kV4 dc4 pm4 an4 cd4 ct4), sl4⟩) (c4 : PySem.W.codeIn K cd4 "is_name" = true) (k4 : PySem.W.keepIn K (.ref f4) = true)
    (a5 : PySem.W.nsIn K mainGlobals "is_kind" = some (some (.ref f5))) (l5 : K.lookup f5 = some ⟨oc5, od5, .func (PySem.W.fnOf "is_kind" "is_kind" (defArgs s_is_kind) (defBody s_is_kind) (defScope s_is_kind) .none kV5 dc5 pm5 an5 cd5 ct5), sl5⟩) (c5 : PySem.W.codeIn K cd5 "is_kind" = true) (k5 : PySem.W.keepIn K (.ref f5) = true)
    (a6 : PySem.W.nsIn K mainGlobals "are_tags" = some (some (.ref f6))) (l6 : K.lookup f6 = some ⟨oc6, od6, .func (PySem.W.fnOf "are_tags" "are_tags" (defArgs s_are_tags) (defBody s_are_tags) (defScope s_are_tags) .none kV6 dc6 pm6 an6 cd6 ct6), sl6⟩) (c6 : PySem.W.codeIn K cd6 "are_tags" = true) (k6 : PySem.W.keepIn K (.ref f6) = true)
    (a7 : PySem.W.nsIn K mainGlobals "is_word" = some (some (.ref f7))) (l7 : K.lookup f7 = some ⟨oc7, od7, .func (PySem.W.fnOf "is_word" "is_word" (defArgs s_is_word) (defBody s_is_word) (defScope s_is_word) .none kV7 dc7 pm7 an7 cd7 ct7), sl7⟩) (c7 : PySem.W.codeIn K cd7 "is_word" = true) (k7 : PySem.W.keepIn K (.ref f7) = true)
    (a8 : PySem.W.nsIn K mainGlobals "is_words_text" = some (some (.ref f8))) (l8 : K.lookup f8 = some ⟨oc8, od8, .func (PySem.W.fnOf "is_words_text" "is_words_text" (defArgs s_is_words_text) (defBody s_is_words_text) (defScope s_is_words_text) .none kV8 dc8 pm8 an8 cd8 ct8), sl8⟩) (c8 : PySem.W.codeIn K cd8 "is_words_text" = true) (k8 : PySem.W.keepIn K (.ref f8) = true)
    (a9 : PySem.W.nsIn K mainGlobals "is_more" = some (some (.ref f9))) (l9 : K.lookup f9 = some ⟨oc9, od9, .func (PySem.W.fnOf "is_more" "is_more" (defArgs s_is_more) (defBody s_is_more) (defScope s_is_more) .none kV9 dc9 pm9 an9 cd9 ct9), sl9⟩) (c9 : PySem.W.codeIn K cd9 "is_more" = true) (k9 : PySem.W.keepIn K (.ref f9) = true)
    (a10 : PySem.W.nsIn K mainGlobals "are_kids" = some (some (.ref f10))) (l10 : K.lookup f10 = some ⟨oc10, od10, .func (PySem.W.fnOf "are_kids" "are_kids" (defArgs s_are_kids) (defBody s_are_kids) (defScope s_are_kids) .none kV10 dc10 pm10 an10 cd10 ct10), sl10⟩) (c10 : PySem.W.codeIn K cd10 "are_kids" = true) (k10 : PySem.W.keepIn K (.ref f10) = true)
    (a11 : PySem.W.nsIn K mainGlobals "is_box_alone" = some (some (.ref f11))) (l11 : K.lookup f11 = some ⟨oc11, od11, .func (PySem.W.fnOf "is_box_alone" "is_box_alone" (defArgs s_is_box_alone) (defBody s_is_box_alone) (defScope s_is_box_alone) .none kV11 dc11 pm11 an11 cd11 ct11), sl11⟩) (c11 : PySem.W.codeIn K cd11 "is_box_alone" = true) (k11 : PySem.W.keepIn K (.ref f11) = true)
    (a12 : PySem.W.nsIn K mainGlobals "need_document" = some (some (.ref f12))) (l12 : K.lookup f12 = some ⟨oc12, od12, .func (PySem.W.fnOf "need_document" "need_document" (defArgs s_need_document) (defBody s_need_document) (defScope s_need_document) .none kV12 dc12 pm12 an12 cd12 ct12), sl12⟩) (c12 : PySem.W.codeIn K cd12 "need_document" = true) (k12 : PySem.W.keepIn K (.ref f12) = true)
    (a13 : PySem.W.nsIn K mainGlobals "row_of" = some (some (.ref f13))) (l13 : K.lookup f13 = some ⟨oc13, od13, .func (PySem.W.fnOf "row_of" "row_of" (defArgs s_row_of) (defBody s_row_of) (defScope s_row_of) .none kV13 dc13 pm13 an13 cd13 ct13), sl13⟩) (c13 : PySem.W.codeIn K cd13 "row_of" = true) (k13 : PySem.W.keepIn K (.ref f13) = true)
    (a14 : PySem.W.nsIn K mainGlobals "rows_of" = some (some (.ref f14))) (l14 : K.lookup f14 = some ⟨oc14, od14, .func (PySem.W.fnOf "rows_of" "rows_of" (defArgs s_rows_of) (defBody s_rows_of) (defScope s_rows_of) .none kV14 dc14 pm14 an14 cd14 ct14), sl14⟩) (c14 : PySem.W.codeIn K cd14 "rows_of" = true) (k14 : PySem.W.keepIn K (.ref f14) = true)
    (a15 : PySem.W.nsIn K mainGlobals "document_text" = some (some (.ref f15))) (l15 : K.lookup f15 = some ⟨oc15, od15, .func (PySem.W.fnOf "document_text" "document_text" (defArgs s_document_text) (defBody s_document_text) (defScope s_document_text) .none kV15 dc15 pm15 an15 cd15 ct15), sl15⟩) (c15 : PySem.W.codeIn K cd15 "document_text" = true) (k15 : PySem.W.keepIn K (.ref f15) = true)
    (a16 : PySem.W.nsIn K mainGlobals "columns_of" = some (some (.ref f16))) (l16 : K.lookup f16 = some ⟨oc16, od16, .func (PySem.W.fnOf "columns_of" "columns_of" (defArgs s_columns_of) (defBody s_columns_of) (defScope s_columns_of) .none kV16 dc16 pm16 an16 cd16 ct16), sl16⟩) (c16 : PySem.W.codeIn K cd16 "columns_of" = true) (k16 : PySem.W.keepIn K (.ref f16) = true)
    (a17 : PySem.W.nsIn K mainGlobals "read_row" = some (some (.ref f17))) (l17 : K.lookup f17 = some ⟨oc17, od17, .func (PySem.W.fnOf "read_row" "read_row" (defArgs s_read_row) (defBody s_read_row) (defScope s_read_row) .none kV17 dc17 pm17 an17 cd17 ct17), sl17⟩) (c17 : PySem.W.codeIn K cd17 "read_row" = true) (k17 : PySem.W.keepIn K (.ref f17) = true)
    (a18 : PySem.W.nsIn K mainGlobals "taken_kids" = some (some (.ref f18))) (l18 : K.lookup f18 = some ⟨oc18, od18, .func (PySem.W.fnOf "taken_kids" "taken_kids" (defArgs s_taken_kids) (defBody s_taken_kids) (defScope s_taken_kids) .none kV18 dc18 pm18 an18 cd18 ct18), sl18⟩) (c18 : PySem.W.codeIn K cd18 "taken_kids" = true) (k18 : PySem.W.keepIn K (.ref f18) = true)
    (a19 : PySem.W.nsIn K mainGlobals "read_rows" = some (some (.ref f19))) (l19 : K.lookup f19 = some ⟨oc19, od19, .func (PySem.W.fnOf "read_rows" "read_rows" (defArgs s_read_rows) (defBody s_read_rows) (defScope s_read_rows) .none kV19 dc19 pm19 an19 cd19 ct19), sl19⟩) (c19 : PySem.W.codeIn K cd19 "read_rows" = true) (k19 : PySem.W.keepIn K (.ref f19) = true)
    (a20 : PySem.W.nsIn K mainGlobals "read_document" = some (some (.ref f20))) (l20 : K.lookup f20 = some ⟨oc20, od20, .func (PySem.W.fnOf "read_document" "read_document" (defArgs s_read_document) (defBody s_read_document) (defScope s_read_document) .none kV20 dc20 pm20 an20 cd20 ct20), sl20⟩) (c20 : PySem.W.codeIn K cd20 "read_document" = true) (k20 : PySem.W.keepIn K (.ref f20) = true)
    (a21 : PySem.W.nsIn K mainGlobals "_law_cell_at" = some (some (.ref f21))) (l21 : K.lookup f21 = some ⟨oc21, od21, .func (PySem.W.fnOf "_law_cell_at" "_law_cell_at" (defArgs s_l_cell_at) (defBody s_l_cell_at) (defScope s_l_cell_at) .none kV21 dc21 pm21 an21 cd21 ct21), sl21⟩) (c21 : PySem.W.codeIn K cd21 "_law_cell_at" = true) (k21 : PySem.W.keepIn K (.ref f21) = true)
    (a22 : PySem.W.nsIn K mainGlobals "_law_mix" = some (some (.ref f22))) (l22 : K.lookup f22 = some ⟨oc22, od22, .func (PySem.W.fnOf "_law_mix" "_law_mix" (defArgs s_l_mix) (defBody s_l_mix) (defScope s_l_mix) .none kV22 dc22 pm22 an22 cd22 ct22), sl22⟩) (c22 : PySem.W.codeIn K cd22 "_law_mix" = true) (k22 : PySem.W.keepIn K (.ref f22) = true)
    (a23 : PySem.W.nsIn K mainGlobals "_law_state" = some (some (.ref f23))) (l23 : K.lookup f23 = some ⟨oc23, od23, .func (PySem.W.fnOf "_law_state" "_law_state" (defArgs s_l_state) (defBody s_l_state) (defScope s_l_state) .none kV23 dc23 pm23 an23 cd23 ct23), sl23⟩) (c23 : PySem.W.codeIn K cd23 "_law_state" = true) (k23 : PySem.W.keepIn K (.ref f23) = true)
    (a24 : PySem.W.nsIn K mainGlobals "_law_names" = some (some (.ref f24))) (l24 : K.lookup f24 = some ⟨oc24, od24, .func (PySem.W.fnOf "_law_names" "_law_names" (defArgs s_l_names) (defBody s_l_names) (defScope s_l_names) .none kV24 dc24 pm24 an24 cd24 ct24), sl24⟩) (c24 : PySem.W.codeIn K cd24 "_law_names" = true) (k24 : PySem.W.keepIn K (.ref f24) = true)
    (a25 : PySem.W.nsIn K mainGlobals "_law_tags" = some (some (.ref f25))) (l25 : K.lookup f25 = some ⟨oc25, od25, .func (PySem.W.fnOf "_law_tags" "_law_tags" (defArgs s_l_tags) (defBody s_l_tags) (defScope s_l_tags) .none kV25 dc25 pm25 an25 cd25 ct25), sl25⟩) (c25 : PySem.W.codeIn K cd25 "_law_tags" = true) (k25 : PySem.W.keepIn K (.ref f25) = true)
    (a26 : PySem.W.nsIn K mainGlobals "_law_text" = some (some (.ref f26))) (l26 : K.lookup f26 = some ⟨oc26, od26, .func (PySem.W.fnOf "_law_text" "_law_text" (defArgs s_l_text) (defBody s_l_text) (defScope s_l_text) .none kV26 dc26 pm26 an26 cd26 ct26), sl26⟩) (c26 : PySem.W.codeIn K cd26 "_law_text" = true) (k26 : PySem.W.keepIn K (.ref f26) = true)
    (a27 : PySem.W.nsIn K mainGlobals "_law_rows" = some (some (.ref f27))) (l27 : K.lookup f27 = some ⟨oc27, od27, .func (PySem.W.fnOf "_law_rows" "_law_rows" (defArgs s_l_rows) (defBody s_l_rows) (defScope s_l_rows) .none kV27 dc27 pm27 an27 cd27 ct27), sl27⟩) (c27 : PySem.W.codeIn K cd27 "_law_rows" = true) (k27 : PySem.W.keepIn K (.ref f27) = true)
    (a28 : PySem.W.nsIn K mainGlobals "_law_box" = some (some (.ref f28))) (l28 : K.lookup f28 = some ⟨oc28, od28, .func (PySem.W.fnOf "_law_box" "_law_box" (defArgs s_l_box) (defBody s_l_box) (defScope s_l_box) .none kV28 dc28 pm28 an28 cd28 ct28), sl28⟩) (c28 : PySem.W.codeIn K cd28 "_law_box" = true) (k28 : PySem.W.keepIn K (.ref f28) = true)
    (a29 : PySem.W.nsIn K mainGlobals "_law_same" = some (some (.ref f29))) (l29 : K.lookup f29 = some ⟨oc29, od29, .func (PySem.W.fnOf "_law_same" "_law_same" (defArgs s_l_same) (defBody s_l_same) (defScope s_l_same) .none kV29 dc29 pm29 an29 cd29 ct29), sl29⟩) (c29 : PySem.W.codeIn K cd29 "_law_same" = true) (k29 : PySem.W.keepIn K (.ref f29) = true)
    (a30 : PySem.W.nsIn K mainGlobals "_law_doc_text" = some (some (.ref f30))) (l30 : K.lookup f30 = some ⟨oc30, od30, .func (PySem.W.fnOf "_law_doc_text" "_law_doc_text" (defArgs s_l_doc_text) (defBody s_l_doc_text) (defScope s_l_doc_text) .none kV30 dc30 pm30 an30 cd30 ct30), sl30⟩) (c30 : PySem.W.codeIn K cd30 "_law_doc_text" = true) (k30 : PySem.W.keepIn K (.ref f30) = true)
    (a31 : PySem.W.nsIn K mainGlobals "_law_alone" = some (some (.ref f31))) (l31 : K.lookup f31 = some ⟨oc31, od31, .func (PySem.W.fnOf "_law_alone" "_law_alone" (defArgs s_l_alone) (defBody s_l_alone) (defScope s_l_alone) .none kV31 dc31 pm31 an31 cd31 ct31), sl31⟩) (c31 : PySem.W.codeIn K cd31 "_law_alone" = true) (k31 : PySem.W.keepIn K (.ref f31) = true)
    (a32 : PySem.W.nsIn K mainGlobals "_law_refused" = some (some (.ref f32))) (l32 : K.lookup f32 = some ⟨oc32, od32, .func (PySem.W.fnOf "_law_refused" "_law_refused" (defArgs s_l_refused) (defBody s_l_refused) (defScope s_l_refused) .none kV32 dc32 pm32 an32 cd32 ct32), sl32⟩) (c32 : PySem.W.codeIn K cd32 "_law_refused" = true) (k32 : PySem.W.keepIn K (.ref f32) = true)
    (a33 : PySem.W.nsIn K mainGlobals "_law_both" = some (some (.ref f33))) (l33 : K.lookup f33 = some ⟨oc33, od33, .func (PySem.W.fnOf "_law_both" "_law_both" (defArgs s_l_both) (defBody s_l_both) (defScope s_l_both) .none kV33 dc33 pm33 an33 cd33 ct33), sl33⟩) (c33 : PySem.W.codeIn K cd33 "_law_both" = true) (k33 : PySem.W.keepIn K (.ref f33) = true)
    (a34 : PySem.W.nsIn K mainGlobals "_law_great" = some (some (.ref f34))) (l34 : K.lookup f34 = some ⟨oc34, od34, .func (PySem.W.fnOf "_law_great" "_law_great" (defArgs s_l_great) (defBody s_l_great) (defScope s_l_great) .none kV34 dc34 pm34 an34 cd34 ct34), sl34⟩) (c34 : PySem.W.codeIn K cd34 "_law_great" = true) (k34 : PySem.W.keepIn K (.ref f34) = true)
    (a35 : PySem.W.nsIn K mainGlobals "law" = some (some (.ref f35))) (l35 : K.lookup f35 = some ⟨oc35, od35, .func (PySem.W.fnOf "law" "law" (defArgs s_law) (defBody s_law) (defScope s_law) .none kV35 dc35 pm35 an35 cd35 ct35), sl35⟩) (c35 : PySem.W.codeIn K cd35 "law" = true) (k35 : PySem.W.keepIn K (.ref f35) = true)
    (g_MOST_NAME_SIGNS : PySem.W.nsIn K mainGlobals "MOST_NAME_SIGNS" = some (some (.int 8 t_MOST_NAME_SIGNS)))
    (g_MOST_TAGS : PySem.W.nsIn K mainGlobals "MOST_TAGS" = some (some (.int 4 t_MOST_TAGS)))
    (g_MOST_KIDS : PySem.W.nsIn K mainGlobals "MOST_KIDS" = some (some (.int 12 t_MOST_KIDS)))
    (g_MOST_COLUMNS : PySem.W.nsIn K mainGlobals "MOST_COLUMNS" = some (some (.int 9 t_MOST_COLUMNS)))
    (g_MOST_TEXT_SIGNS : PySem.W.nsIn K mainGlobals "MOST_TEXT_SIGNS" = some (some (.int 80 t_MOST_TEXT_SIGNS)))
    (g_MOST_WORD_SIGNS : PySem.W.nsIn K mainGlobals "MOST_WORD_SIGNS" = some (some (.int 20 t_MOST_WORD_SIGNS)))
    (g_MOST_BOXES : PySem.W.nsIn K mainGlobals "MOST_BOXES" = some (some (.int 40 t_MOST_BOXES)))
    (g_MOST_DEEP : PySem.W.nsIn K mainGlobals "MOST_DEEP" = some (some (.int 8 t_MOST_DEEP)))
    (g_LETTERS : PySem.W.nsIn K mainGlobals "LETTERS" = some (some (.str "abcdefghijklmnopqrstuvwxyz" t_LETTERS)))
    (g_NAME_SIGNS : PySem.W.nsIn K mainGlobals "NAME_SIGNS" = some (some (.str "abcdefghijklmnopqrstuvwxyz0123456789" t_NAME_SIGNS)))
    (g_TEXT_SIGNS : PySem.W.nsIn K mainGlobals "TEXT_SIGNS" = some (some (.str "ABCDEFGHIJKLMNOPQRSTUVWXYZabcdefghijklmnopqrstuvwxyz0123456789" t_TEXT_SIGNS)))
    (g_KINDS : PySem.W.nsIn K mainGlobals "KINDS" = some (some (.ref r_KINDS))) (q_KINDS : tupIn K r_KINDS ["blank", "words", "row", "flow", "column", "grid", "pile"] = true)
    (g_KIDLESS : PySem.W.nsIn K mainGlobals "KIDLESS" = some (some (.ref r_KIDLESS))) (q_KIDLESS : tupIn K r_KIDLESS ["blank", "words"] = true)
    (g_COLUMNS : PySem.W.nsIn K mainGlobals "COLUMNS" = some (some (.ref r_COLUMNS))) (q_COLUMNS : tupIn K r_COLUMNS ["1", "2", "3", "4", "5", "6", "7", "8", "9"] = true)
    (n_ValueError : PySem.W.nsIn K mainGlobals "ValueError" = some none)
    (n_all : PySem.W.nsIn K mainGlobals "all" = some none)
    (n_bool : PySem.W.nsIn K mainGlobals "bool" = some none)
    (n_int : PySem.W.nsIn K mainGlobals "int" = some none)
    (n_isinstance : PySem.W.nsIn K mainGlobals "isinstance" = some none)
    (n_len : PySem.W.nsIn K mainGlobals "len" = some none)
    (n_list : PySem.W.nsIn K mainGlobals "list" = some none)
    (n_range : PySem.W.nsIn K mainGlobals "range" = some none)
    (n_reversed : PySem.W.nsIn K mainGlobals "reversed" = some none)
    (n_set : PySem.W.nsIn K mainGlobals "set" = some none)
    (n_str : PySem.W.nsIn K mainGlobals "str" = some none)
    (n_tuple : PySem.W.nsIn K mainGlobals "tuple" = some none)
    (y_PaneError : PySem.W.nsIn K mainGlobals "PaneError" = some (some (.ref x_PaneError)))
    (y_NoShare : PySem.W.nsIn K mainGlobals "NoShare" = some (some (.ref x_NoShare)))
    (y_NoBox : PySem.W.nsIn K mainGlobals "NoBox" = some (some (.ref x_NoBox)))
    (y_NoText : PySem.W.nsIn K mainGlobals "NoText" = some (some (.ref x_NoText)))
    (y_NoRule : PySem.W.nsIn K mainGlobals "NoRule" = some (some (.ref x_NoRule)))
    (y_NoName : PySem.W.nsIn K mainGlobals "NoName" = some (some (.ref x_NoName)))
    (y_NoPlace : PySem.W.nsIn K mainGlobals "NoPlace" = some (some (.ref x_NoPlace)))
    (y_NoPage : PySem.W.nsIn K mainGlobals "NoPage" = some (some (.ref x_NoPage)))
    (y_NoChange : PySem.W.nsIn K mainGlobals "NoChange" = some (some (.ref x_NoChange)))
    (y_NoUndo : PySem.W.nsIn K mainGlobals "NoUndo" = some (some (.ref x_NoUndo)))
    (y_NoRow : PySem.W.nsIn K mainGlobals "NoRow" = some (some (.ref x_NoRow)))
    (cls : clsAll K x_PaneError [x_NoShare, x_NoBox, x_NoText, x_NoRule, x_NoName, x_NoPlace, x_NoPage, x_NoChange, x_NoUndo, x_NoRow] = true)
    (up : clsUp K x_PaneError [x_NoShare, x_NoBox, x_NoText, x_NoRule, x_NoName, x_NoPlace, x_NoPage, x_NoChange, x_NoUndo, x_NoRow] = true)
    (kit : kitAll K = true) :
    ∃ A : Adr, (∀ (s : Shared) (u : Value), BindsTo s A.d_law ⟨[u], []⟩ [("_law_script", u)]) ∧ Txt K mg A := by
  have F1 := fun_mk (st := s_is_number) l1 c1 k1
  have b1 := F1.binds (ps := P_is_number) fun _ _ _ _ _ _ us hl => match us, hl with | [_], _ => rfl
  have F2 := fun_mk (st := s_is_within) l2 c2 k2
  have b2 := F2.binds (ps := P_is_within) fun _ _ _ _ _ _ us hl => match us, hl with | [_, _, _], _ => rfl
  have F3 := fun_mk (st := s_has_only) l3 c3 k3
  have b3 := F3.binds (ps := P_has_only) fun _ _ _ _ _ _ us hl => match us, hl with | [_, _], _ => rfl
  have F4 := fun_mk (st := s_is_name) l4 c4 k4
  have b4 := F4.binds (ps := P_is_name) fun _ _ _ _ _ _ us hl => match us, hl with | [_], _ => rfl
  have F5 := fun_mk (st := s_is_kind) l5 c5 k5
  have b5 := F5.binds (ps := P_is_kind) fun _ _ _ _ _ _ us hl => match us, hl with | [_], _ => rfl
  have F6 := fun_mk (st := s_are_tags) l6 c6 k6
  have b6 := F6.binds (ps := P_are_tags) fun _ _ _ _ _ _ us hl => match us, hl with | [_], _ => rfl
  have F7 := fun_mk (st := s_is_word) l7 c7 k7
  have b7 := F7.binds (ps := P_is_word) fun _ _ _ _ _ _ us hl => match us, hl with | [_], _ => rfl
  have F8 := fun_mk (st := s_is_words_text) l8 c8 k8
  have b8 := F8.binds (ps := P_is_words_text) fun _ _ _ _ _ _ us hl => match us, hl with | [_], _ => rfl
  have F9 := fun_mk (st := s_is_more) l9 c9 k9
  have b9 := F9.binds (ps := P_is_more) fun _ _ _ _ _ _ us hl => match us, hl with | [_, _], _ => rfl
  have F10 := fun_mk (st := s_are_kids) l10 c10 k10
  have b10 := F10.binds (ps := P_are_kids) fun _ _ _ _ _ _ us hl => match us, hl with | [_, _], _ => rfl
  have F11 := fun_mk (st := s_is_box_alone) l11 c11 k11
  have b11 := F11.binds (ps := P_is_box_alone) fun _ _ _ _ _ _ us hl => match us, hl with | [_], _ => rfl
  have F12 := fun_mk (st := s_need_document) l12 c12 k12
  have b12 := F12.binds (ps := P_need_document) fun _ _ _ _ _ _ us hl => match us, hl with | [_], _ => rfl
  have F13 := fun_mk (st := s_row_of) l13 c13 k13
  have b13 := F13.binds (ps := P_row_of) fun _ _ _ _ _ _ us hl => match us, hl with | [_], _ => rfl
  have F14 := fun_mk (st := s_rows_of) l14 c14 k14
  have b14 := F14.binds (ps := P_rows_of) fun _ _ _ _ _ _ us hl => match us, hl with | [_, _], _ => rfl
  have F15 := fun_mk (st := s_document_text) l15 c15 k15
  have b15 := F15.binds (ps := P_document_text) fun _ _ _ _ _ _ us hl => match us, hl with | [_], _ => rfl
  have F16 := fun_mk (st := s_columns_of) l16 c16 k16
  have b16 := F16.binds (ps := P_columns_of) fun _ _ _ _ _ _ us hl => match us, hl with | [_], _ => rfl
  have F17 := fun_mk (st := s_read_row) l17 c17 k17
  have b17 := F17.binds (ps := P_read_row) fun _ _ _ _ _ _ us hl => match us, hl with | [_, _], _ => rfl
  have F18 := fun_mk (st := s_taken_kids) l18 c18 k18
  have b18 := F18.binds (ps := P_taken_kids) fun _ _ _ _ _ _ us hl => match us, hl with | [_, _], _ => rfl
  have F19 := fun_mk (st := s_read_rows) l19 c19 k19
  have b19 := F19.binds (ps := P_read_rows) fun _ _ _ _ _ _ us hl => match us, hl with | [_], _ => rfl
  have F20 := fun_mk (st := s_read_document) l20 c20 k20
  have b20 := F20.binds (ps := P_read_document) fun _ _ _ _ _ _ us hl => match us, hl with | [_], _ => rfl
  have F21 := fun_mk (st := s_l_cell_at) l21 c21 k21
  have b21 := F21.binds (ps := P_l_cell_at) fun _ _ _ _ _ _ us hl => match us, hl with | [_, _], _ => rfl
  have F22 := fun_mk (st := s_l_mix) l22 c22 k22
  have b22 := F22.binds (ps := P_l_mix) fun _ _ _ _ _ _ us hl => match us, hl with | [_, _], _ => rfl
  have F23 := fun_mk (st := s_l_state) l23 c23 k23
  have b23 := F23.binds (ps := P_l_state) fun _ _ _ _ _ _ us hl => match us, hl with | [_, _], _ => rfl
  have F24 := fun_mk (st := s_l_names) l24 c24 k24
  have b24 := F24.binds (ps := P_l_names) fun _ _ _ _ _ _ us hl => match us, hl with | [_], _ => rfl
  have F25 := fun_mk (st := s_l_tags) l25 c25 k25
  have b25 := F25.binds (ps := P_l_tags) fun _ _ _ _ _ _ us hl => match us, hl with | [_, _], _ => rfl
  have F26 := fun_mk (st := s_l_text) l26 c26 k26
  have b26 := F26.binds (ps := P_l_text) fun _ _ _ _ _ _ us hl => match us, hl with | [_, _], _ => rfl
  have F27 := fun_mk (st := s_l_rows) l27 c27 k27
  have b27 := F27.binds (ps := P_l_rows) fun _ _ _ _ _ _ us hl => match us, hl with | [_, _], _ => rfl
  have F28 := fun_mk (st := s_l_box) l28 c28 k28
  have b28 := F28.binds (ps := P_l_box) fun _ _ _ _ _ _ us hl => match us, hl with | [_, _], _ => rfl
  have F29 := fun_mk (st := s_l_same) l29 c29 k29
  have b29 := F29.binds (ps := P_l_same) fun _ _ _ _ _ _ us hl => match us, hl with | [_, _], _ => rfl
  have F30 := fun_mk (st := s_l_doc_text) l30 c30 k30
  have b30 := F30.binds (ps := P_l_doc_text) fun _ _ _ _ _ _ us hl => match us, hl with | [_, _], _ => rfl
  have F31 := fun_mk (st := s_l_alone) l31 c31 k31
  have b31 := F31.binds (ps := P_l_alone) fun _ _ _ _ _ _ us hl => match us, hl with | [_], _ => rfl
  have F32 := fun_mk (st := s_l_refused) l32 c32 k32
  have b32 := F32.binds (ps := P_l_refused) fun _ _ _ _ _ _ us hl => match us, hl with | [_], _ => rfl
  have F33 := fun_mk (st := s_l_both) l33 c33 k33
  have b33 := F33.binds (ps := P_l_both) fun _ _ _ _ _ _ us hl => match us, hl with | [_], _ => rfl
  have F34 := fun_mk (st := s_l_great) l34 c34 k34
  have b34 := F34.binds (ps := P_l_great) fun _ _ _ _ _ _ us hl => match us, hl with | [_], _ => rfl
  have F35 := fun_mk (st := s_law) l35 c35 k35
  have b35 := F35.binds (ps := P_law) fun _ _ _ _ _ _ us hl => match us, hl with | [_], _ => rfl
  refine ⟨⟨f1, PySem.W.fnOf "is_number" "is_number" (defArgs s_is_number) (defBody s_is_number) (defScope s_is_number) .none kV1 dc1 pm1 an1 cd1 ct1, f2, PySem.W.fnOf "is_within" "is_within" (defArgs s_is_within) (defBody s_is_within) (defScope s_is_within) .none kV2 dc2 pm2 an2 cd2 ct2, f3, PySem.W.fnOf "has_only" "has_only" (defArgs s_has_only) (defBody s_has_only) (defScope s_has_only) .none kV3 dc3 pm3 an3 cd3 ct3, f4, PySem.W.fnOf "is_name" "is_name" (defArgs s_is_name) (defBody s_is_name) (defScope s_is_name) .none kV4 dc4 pm4 an4 cd4 ct4, f5, PySem.W.fnOf "is_kind" "is_kind" (defArgs s_is_kind) (defBody s_is_kind) (defScope s_is_kind) .none kV5 dc5 pm5 an5 cd5 ct5, f6, PySem.W.fnOf "are_tags" "are_tags" (defArgs s_are_tags) (defBody s_are_tags) (defScope s_are_tags) .none kV6 dc6 pm6 an6 cd6 ct6, f7, PySem.W.fnOf "is_word" "is_word" (defArgs s_is_word) (defBody s_is_word) (defScope s_is_word) .none kV7 dc7 pm7 an7 cd7 ct7, f8, PySem.W.fnOf "is_words_text" "is_words_text" (defArgs s_is_words_text) (defBody s_is_words_text) (defScope s_is_words_text) .none kV8 dc8 pm8 an8 cd8 ct8, f9, PySem.W.fnOf "is_more" "is_more" (defArgs s_is_more) (defBody s_is_more) (defScope s_is_more) .none kV9 dc9 pm9 an9 cd9 ct9, f10, PySem.W.fnOf "are_kids" "are_kids" (defArgs s_are_kids) (defBody s_are_kids) (defScope s_are_kids) .none kV10 dc10 pm10 an10 cd10 ct10, f11, PySem.W.fnOf "is_box_alone" "is_box_alone" (defArgs s_is_box_alone) (defBody s_is_box_alone) (defScope s_is_box_alone) .none kV11 dc11 pm11 an11 cd11 ct11, f12, PySem.W.fnOf "need_document" "need_document" (defArgs s_need_document) (defBody s_need_document) (defScope s_need_document) .none kV12 dc12 pm12 an12 cd12 ct12, f13, PySem.W.fnOf "row_of" "row_of" (defArgs s_row_of) (defBody s_row_of) (defScope s_row_of) .none kV13 dc13 pm13 an13 cd13 ct13, f14, PySem.W.fnOf "rows_of" "rows_of" (defArgs s_rows_of) (defBody s_rows_of) (defScope s_rows_of) .none kV14 dc14 pm14 an14 cd14 ct14, f15, PySem.W.fnOf "document_text" "document_text" (defArgs s_document_text) (defBody s_document_text) (defScope s_document_text) .none kV15 dc15 pm15 an15 cd15 ct15, f16, PySem.W.fnOf "columns_of" "columns_of" (defArgs s_columns_of) (defBody s_columns_of) (defScope s_columns_of) .none kV16 dc16 pm16 an16 cd16 ct16, f17, PySem.W.fnOf "read_row" "read_row" (defArgs s_read_row) (defBody s_read_row) (defScope s_read_row) .none kV17 dc17 pm17 an17 cd17 ct17, f18, PySem.W.fnOf "taken_kids" "taken_kids" (defArgs s_taken_kids) (defBody s_taken_kids) (defScope s_taken_kids) .none kV18 dc18 pm18 an18 cd18 ct18, f19, PySem.W.fnOf "read_rows" "read_rows" (defArgs s_read_rows) (defBody s_read_rows) (defScope s_read_rows) .none kV19 dc19 pm19 an19 cd19 ct19, f20, PySem.W.fnOf "read_document" "read_document" (defArgs s_read_document) (defBody s_read_document) (defScope s_read_document) .none kV20 dc20 pm20 an20 cd20 ct20, f21, PySem.W.fnOf "_law_cell_at" "_law_cell_at" (defArgs s_l_cell_at) (defBody s_l_cell_at) (defScope s_l_cell_at) .none kV21 dc21 pm21 an21 cd21 ct21, f22, PySem.W.fnOf "_law_mix" "_law_mix" (defArgs s_l_mix) (defBody s_l_mix) (defScope s_l_mix) .none kV22 dc22 pm22 an22 cd22 ct22, f23, PySem.W.fnOf "_law_state" "_law_state" (defArgs s_l_state) (defBody s_l_state) (defScope s_l_state) .none kV23 dc23 pm23 an23 cd23 ct23, f24, PySem.W.fnOf "_law_names" "_law_names" (defArgs s_l_names) (defBody s_l_names) (defScope s_l_names) .none kV24 dc24 pm24 an24 cd24 ct24, f25, PySem.W.fnOf "_law_tags" "_law_tags" (defArgs s_l_tags) (defBody s_l_tags) (defScope s_l_tags) .none kV25 dc25 pm25 an25 cd25 ct25, f26, PySem.W.fnOf "_law_text" "_law_text" (defArgs s_l_text) (defBody s_l_text) (defScope s_l_text) .none kV26 dc26 pm26 an26 cd26 ct26, f27, PySem.W.fnOf "_law_rows" "_law_rows" (defArgs s_l_rows) (defBody s_l_rows) (defScope s_l_rows) .none kV27 dc27 pm27 an27 cd27 ct27, f28, PySem.W.fnOf "_law_box" "_law_box" (defArgs s_l_box) (defBody s_l_box) (defScope s_l_box) .none kV28 dc28 pm28 an28 cd28 ct28, f29, PySem.W.fnOf "_law_same" "_law_same" (defArgs s_l_same) (defBody s_l_same) (defScope s_l_same) .none kV29 dc29 pm29 an29 cd29 ct29, f30, PySem.W.fnOf "_law_doc_text" "_law_doc_text" (defArgs s_l_doc_text) (defBody s_l_doc_text) (defScope s_l_doc_text) .none kV30 dc30 pm30 an30 cd30 ct30, f31, PySem.W.fnOf "_law_alone" "_law_alone" (defArgs s_l_alone) (defBody s_l_alone) (defScope s_l_alone) .none kV31 dc31 pm31 an31 cd31 ct31, f32, PySem.W.fnOf "_law_refused" "_law_refused" (defArgs s_l_refused) (defBody s_l_refused) (defScope s_l_refused) .none kV32 dc32 pm32 an32 cd32 ct32, f33, PySem.W.fnOf "_law_both" "_law_both" (defArgs s_l_both) (defBody s_l_both) (defScope s_l_both) .none kV33 dc33 pm33 an33 cd33 ct33, f34, PySem.W.fnOf "_law_great" "_law_great" (defArgs s_l_great) (defBody s_l_great) (defScope s_l_great) .none kV34 dc34 pm34 an34 cd34 ct34, f35, PySem.W.fnOf "law" "law" (defArgs s_law) (defBody s_law) (defScope s_law) .none kV35 dc35 pm35 an35 cd35 ct35, x_PaneError, x_NoShare, x_NoBox, x_NoText, x_NoRule, x_NoName, x_NoPlace, x_NoPage, x_NoChange, x_NoUndo, x_NoRow⟩, fun s u => .of_eq rfl, ?_⟩
  exact ⟨F1, b1, PySem.W.mg_of X G a1, F2, b2, PySem.W.mg_of X G a2, F3, b3, PySem.W.mg_of X G a3, F4, b4, PySem.W.mg_of X G a4, F5, b5, PySem.W.mg_of X G a5, F6, b6, PySem.W.mg_of X G a6, F7, b7, PySem.W.mg_of X G a7, F8, b8, PySem.W.mg_of X G a8, F9, b9, PySem.W.mg_of X G a9, F10, b10, PySem.W.mg_of X G a10, F11, b11, PySem.W.mg_of X G a11, F12, b12, PySem.W.mg_of X G a12, F13, b13, PySem.W.mg_of X G a13, F14, b14, PySem.W.mg_of X G a14, F15, b15, PySem.W.mg_of X G a15, F16, b16, PySem.W.mg_of X G a16, F17, b17, PySem.W.mg_of X G a17, F18, b18, PySem.W.mg_of X G a18, F19, b19, PySem.W.mg_of X G a19, F20, b20, PySem.W.mg_of X G a20, F21, b21, PySem.W.mg_of X G a21, F22, b22, PySem.W.mg_of X G a22, F23, b23, PySem.W.mg_of X G a23, F24, b24, PySem.W.mg_of X G a24, F25, b25, PySem.W.mg_of X G a25, F26, b26, PySem.W.mg_of X G a26, F27, b27, PySem.W.mg_of X G a27, F28, b28, PySem.W.mg_of X G a28, F29, b29, PySem.W.mg_of X G a29, F30, b30, PySem.W.mg_of X G a30, F31, b31, PySem.W.mg_of X G a31, F32, b32, PySem.W.mg_of X G a32, F33, b33, PySem.W.mg_of X G a33, F34, b34, PySem.W.mg_of X G a34, F35, b35, PySem.W.mg_of X G a35, ⟨_, PySem.W.mg_of X G g_MOST_NAME_SIGNS⟩, ⟨_, PySem.W.mg_of X G g_MOST_TAGS⟩, ⟨_, PySem.W.mg_of X G g_MOST_KIDS⟩, ⟨_, PySem.W.mg_of X G g_MOST_COLUMNS⟩, ⟨_, PySem.W.mg_of X G g_MOST_TEXT_SIGNS⟩, ⟨_, PySem.W.mg_of X G g_MOST_WORD_SIGNS⟩, ⟨_, PySem.W.mg_of X G g_MOST_BOXES⟩, ⟨_, PySem.W.mg_of X G g_MOST_DEEP⟩, ⟨_, PySem.W.mg_of X G g_LETTERS⟩, ⟨_, PySem.W.mg_of X G g_NAME_SIGNS⟩, ⟨_, PySem.W.mg_of X G g_TEXT_SIGNS⟩, ⟨_, PySem.W.mg_of X G g_KINDS, q_KINDS⟩, ⟨_, PySem.W.mg_of X G g_KIDLESS, q_KIDLESS⟩, ⟨_, PySem.W.mg_of X G g_COLUMNS, q_COLUMNS⟩, PySem.W.mg_none_of X G n_ValueError, PySem.W.mg_none_of X G n_all, PySem.W.mg_none_of X G n_bool, PySem.W.mg_none_of X G n_int, PySem.W.mg_none_of X G n_isinstance, PySem.W.mg_none_of X G n_len, PySem.W.mg_none_of X G n_list, PySem.W.mg_none_of X G n_range, PySem.W.mg_none_of X G n_reversed, PySem.W.mg_none_of X G n_set, PySem.W.mg_none_of X G n_str, PySem.W.mg_none_of X G n_tuple, PySem.W.mg_of X G y_PaneError, PySem.W.mg_of X G y_NoShare, PySem.W.mg_of X G y_NoBox, PySem.W.mg_of X G y_NoText, PySem.W.mg_of X G y_NoRule, PySem.W.mg_of X G y_NoName, PySem.W.mg_of X G y_NoPlace, PySem.W.mg_of X G y_NoPage, PySem.W.mg_of X G y_NoChange, PySem.W.mg_of X G y_NoUndo, PySem.W.mg_of X G y_NoRow, cls, up, kit⟩
end KP
def PySem.W.Fast.tw12483926206545238226 : Unit := ()
def PySem.W.Fast.tw4196230940146569485 : Unit := ()
def PySem.W.Fast.tw2909216234585637325 : Unit := ()
def PySem.W.Fast.tw4494102976363886024 : Unit := ()
def PySem.W.Fast.tw11572970568559933621 : Unit := ()
def PySem.W.Fast.tw548275061609042851 : Unit := ()
def PySem.W.Fast.tw5048227540029461000 : Unit := ()
def PySem.W.Fast.tw5100157395334188024 : Unit := ()
def PySem.W.Fast.tw7965770840078751641 : Unit := ()
def PySem.W.Fast.tw10953757987316565303 : Unit := ()
def PySem.W.Fast.tw6887124302462427111 : Unit := ()
def PySem.W.Fast.tw13142825149172325458 : Unit := ()
def PySem.W.Fast.tw16102548375806343022 : Unit := ()
def PySem.W.Fast.tw4114032097122788023 : Unit := ()
def PySem.W.Fast.tw2113740654381548651 : Unit := ()
def PySem.W.Fast.tw4566760858483367451 : Unit := ()
def PySem.W.Fast.tw8333401552526074505 : Unit := ()
def PySem.W.Fast.tw504797556106791834 : Unit := ()
def PySem.W.Fast.tw7203014951984244373 : Unit := ()
def PySem.W.Fast.tw1608066901215853510 : Unit := ()
open PySem PySem.W PyProof.Rows
set_option maxRecDepth 100000 in
set_option maxHeartbeats 0 in
theorem PySem.Challenge.cw_panehouse_k14_whole_texts_holds : PySem.Challenge.rw_panehouse_k14_whole_texts.Holds := by
  w_on; o_law; k_head; (case hw => w_witness2)
  k_fill
  refine' L2.walk_ofK (l := PySem.Challenge.rw_panehouse_k14_whole_texts) (n := 63) (k := 19) (x := "_law_script") (CX := L2.CX0) (sp := KP.spLaw) rfl (by decide) rfl ⟨rfl, by decide, by decide⟩ (fun w h Y => PySem.W.kIn_of Y) ?F ?S ?C
  case F =>
    intro w mg fa h KX G hmg
    have T : ∃ A : KP.Adr, (∀ (s : Shared) (u : Value), BindsTo s A.d_law ⟨[u], []⟩ [("_law_script", u)]) ∧ KP.Txt (L2.KOf KX) mg A := by
      dsimp only [L2.KOf]
      refine' KP.txt_mk KX G ?a1 ?l1 ?c1 ?k1 ?a2 ?l2 ?c2 ?k2 ?a3 ?l3 ?c3 ?k3 ?a4 ?l4 ?c4 ?k4 ?a5 ?l5 ?c5 ?k5 ?a6 ?l6 ?c6 ?k6 ?a7 ?l7 ?c7 ?k7 ?a8 ?l8 ?c8 ?k8 ?a9 ?l9 ?c9 ?k9 ?a10 ?l10 ?c10 ?k10 ?a11 ?l11 ?c11 ?k11 ?a12 ?l12 ?c12 ?k12 ?a13 ?l13 ?c13 ?k13 ?a14 ?l14 ?c14 ?k14 ?a15 ?l15 ?c15 ?k15 ?a16 ?l16 ?c16 ?k16 ?a17 ?l17 ?c17 ?k17 ?a18 ?l18 ?c18 ?k18 ?a19 ?l19 ?c19 ?k19 ?a20 ?l20 ?c20 ?k20 ?a21 ?l21 ?c21 ?k21 ?a22 ?l22 ?c22 ?k22 ?a23 ?l23 ?c23 ?k23 ?a24 ?l24 ?c24 ?k24 ?a25 ?l25 ?c25 ?k25 ?a26 ?l26 ?c26 ?k26 ?a27 ?l27 ?c27 ?k27 ?a28 ?l28 ?c28 ?k28 ?a29 ?l29 ?c29 ?k29 ?a30 ?l30 ?c30 ?k30 ?a31 ?l31 ?c31 ?k31 ?a32 ?l32 ?c32 ?k32 ?a33 ?l33 ?c33 ?k33 ?a34 ?l34 ?c34 ?k34 ?a35 ?l35 ?c35 ?k35 ?g_MOST_NAME_SIGNS ?g_MOST_TAGS ?g_MOST_KIDS ?g_MOST_COLUMNS ?g_MOST_TEXT_SIGNS ?g_MOST_WORD_SIGNS ?g_MOST_BOXES ?g_MOST_DEEP ?g_LETTERS ?g_NAME_SIGNS ?g_TEXT_SIGNS ?g_KINDS ?q_KINDS ?g_KIDLESS ?q_KIDLESS ?g_COLUMNS ?q_COLUMNS ?n_ValueError ?n_all ?n_bool ?n_int ?n_isinstance ?n_len ?n_list ?n_range ?n_reversed ?n_set ?n_str ?n_tuple ?y_PaneError ?y_NoShare ?y_NoBox ?y_NoText ?y_NoRule ?y_NoName ?y_NoPlace ?y_NoPage ?y_NoChange ?y_NoUndo ?y_NoRow ?cls ?up ?kit
      (case a1 => k_is)
      (case l1 => k_is)
      (case c1 => k_is)
      (case k1 => k_is)
      (case a2 => k_is)
      (case l2 => k_is)
      (case c2 => k_is)
      (case k2 => k_is)
      (case a3 => k_is)
      (case l3 => k_is)
      (case c3 => k_is)
      (case k3 => k_is)
      (case a4 => k_is)
      (case l4 => k_is)
      (case c4 => k_is)
      (case k4 => k_is)
      (case a5 => k_is)
      (case l5 => k_is)
      (case c5 => k_is)
      (case k5 => k_is)
      (case a6 => k_is)
      (case l6 => k_is)
      (case c6 => k_is)
      (case k6 => k_is)
      (case a7 => k_is)
      (case l7 => k_is)
      (case c7 => k_is)
      (case k7 => k_is)
      (case a8 => k_is)
      (case l8 => k_is)
      (case c8 => k_is)
      (case k8 => k_is)
      (case a9 => k_is)
      (case l9 => k_is)
      (case c9 => k_is)
      (case k9 => k_is)
      (case a10 => k_is)
      (case l10 => k_is)
      (case c10 => k_is)
      (case k10 => k_is)
      (case a11 => k_is)
      (case l11 => k_is)
      (case c11 => k_is)
      (case k11 => k_is)
      (case a12 => k_is)
      (case l12 => k_is)
      (case c12 => k_is)
      (case k12 => k_is)
      (case a13 => k_is)
      (case l13 => k_is)
      (case c13 => k_is)
      (case k13 => k_is)
      (case a14 => k_is)
      (case l14 => k_is)
      (case c14 => k_is)
      (case k14 => k_is)
      (case a15 => k_is)
      (case l15 => k_is)
      (case c15 => k_is)
      (case k15 => k_is)
      (case a16 => k_is)
      (case l16 => k_is)
      (case c16 => k_is)
      (case k16 => k_is)
      (case a17 => k_is)
      (case l17 => k_is)
      (case c17 => k_is)
      (case k17 => k_is)
      (case a18 => k_is)
      (case l18 => k_is)
      (case c18 => k_is)
      (case k18 => k_is)
      (case a19 => k_is)
      (case l19 => k_is)
      (case c19 => k_is)
      (case k19 => k_is)
      (case a20 => k_is)
      (case l20 => k_is)
      (case c20 => k_is)
      (case k20 => k_is)
      (case a21 => k_is)
      (case l21 => k_is)
      (case c21 => k_is)
      (case k21 => k_is)
      (case a22 => k_is)
      (case l22 => k_is)
      (case c22 => k_is)
      (case k22 => k_is)
      (case a23 => k_is)
      (case l23 => k_is)
      (case c23 => k_is)
      (case k23 => k_is)
      (case a24 => k_is)
      (case l24 => k_is)
      (case c24 => k_is)
      (case k24 => k_is)
      (case a25 => k_is)
      (case l25 => k_is)
      (case c25 => k_is)
      (case k25 => k_is)
      (case a26 => k_is)
      (case l26 => k_is)
      (case c26 => k_is)
      (case k26 => k_is)
      (case a27 => k_is)
      (case l27 => k_is)
      (case c27 => k_is)
      (case k27 => k_is)
      (case a28 => k_is)
      (case l28 => k_is)
      (case c28 => k_is)
      (case k28 => k_is)
      (case a29 => k_is)
      (case l29 => k_is)
      (case c29 => k_is)
      (case k29 => k_is)
      (case a30 => k_is)
      (case l30 => k_is)
      (case c30 => k_is)
      (case k30 => k_is)
      (case a31 => k_is)
      (case l31 => k_is)
      (case c31 => k_is)
      (case k31 => k_is)
      (case a32 => k_is)
      (case l32 => k_is)
      (case c32 => k_is)
      (case k32 => k_is)
      (case a33 => k_is)
      (case l33 => k_is)
      (case c33 => k_is)
      (case k33 => k_is)
      (case a34 => k_is)
      (case l34 => k_is)
      (case c34 => k_is)
      (case k34 => k_is)
      (case a35 => k_is)
      (case l35 => k_is)
      (case c35 => k_is)
      (case k35 => k_is)
      (case g_MOST_NAME_SIGNS => k_is)
      (case g_MOST_TAGS => k_is)
      (case g_MOST_KIDS => k_is)
      (case g_MOST_COLUMNS => k_is)
      (case g_MOST_TEXT_SIGNS => k_is)
      (case g_MOST_WORD_SIGNS => k_is)
      (case g_MOST_BOXES => k_is)
      (case g_MOST_DEEP => k_is)
      (case g_LETTERS => k_is)
      (case g_NAME_SIGNS => k_is)
      (case g_TEXT_SIGNS => k_is)
      (case g_KINDS => k_is)
      (case q_KINDS => kernel_rfl)
      (case g_KIDLESS => k_is)
      (case q_KIDLESS => kernel_rfl)
      (case g_COLUMNS => k_is)
      (case q_COLUMNS => kernel_rfl)
      (case n_ValueError => k_is)
      (case n_all => k_is)
      (case n_bool => k_is)
      (case n_int => k_is)
      (case n_isinstance => k_is)
      (case n_len => k_is)
      (case n_list => k_is)
      (case n_range => k_is)
      (case n_reversed => k_is)
      (case n_set => k_is)
      (case n_str => k_is)
      (case n_tuple => k_is)
      (case y_PaneError => k_is)
      (case y_NoShare => k_is)
      (case y_NoBox => k_is)
      (case y_NoText => k_is)
      (case y_NoRule => k_is)
      (case y_NoName => k_is)
      (case y_NoPlace => k_is)
      (case y_NoPage => k_is)
      (case y_NoChange => k_is)
      (case y_NoUndo => k_is)
      (case y_NoRow => k_is)
      (case cls => kernel_rfl)
      (case up => kernel_rfl)
      (case kit => kernel_rfl)
    obtain ⟨A, hb, T⟩ := T
    have e0 := hmg.symm.trans T.m_law
    cases e0
    exact ⟨A.d_law, hb, fun base kb nb => KP.ok_law T⟩
  case S => exact fun K H a ns hl _ hS => ⟨a, ns, rfl, hS, hl, fun _ => rfl⟩
  case C => exact fun _ _ _ _ z => z

