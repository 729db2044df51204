import PyProof.Rows.All
import Wide.All
import OpenK.AllK
import Wide.FinOn
import Lean
import PyProof.EqAt
import PyProof.EqKinds
import PyProof.TupleCall
import PyProof.CompFree
import PyProof.NeKinds
import KE.IntBitsLaws
import PyProof.Rows.SortRuns
import PyProof.RangeFor
import KE.KSortKey
import PyProof.ListRange
import KE.KListMore
import PyProof.ZipIter
import PyProof.Rows.ZipGen
import PyProof.WalksMore
import PyProof.EnumFor
import PyProof.EnumMake
import PyProof.Rows.TopTwo
import PyProof.Rows.CatchOwn
import PyProof.NsDelKeeps
import PyProof.ExcAttrAll.ValueError
import PyProof.DictDisplay
import KE.KEqDict
import PyProof.Draws
import PyProof.ListStr
import PyProof.StrCalls2
import PyProof.StrOps2
import PyProof.Rows.StrSplitCount
import PyProof.ListNew
import PyProof.Rows.Tup
import PyProof.CollectWalk
import PyProof.WalksS
import PyProof.Rows.SetFrom
import PyProof.Rows.StrInSeq
import PyProof.SetRoads
import PyProof.Rows.TupAdd
import KE.KIntText
import KE.KRevIter
import PyProof.MeetsStr
import PyProof.StrCalls
import PyProof.ListMulRoad
import KE.KDictOf
import PyProof.AttrMiss
import PyProof.IsiH_list
import PyProof.Seq
import PyProof.DictUpdate
import KE.KMinBuiltin
import PyProof.MinMaxWalk
import PyProof.DictWalks
import PyProof.DictItems
import KE.KDictList
import PyProof.StrLawsIn
import KE.KListLetter
import PyProof.Rows.Range3
import PyProof.MeetsIn
import KE.KRevSl
import PySem.Challenge.RW_panehouse_k40_natural_heights
set_option Elab.async false
set_option linter.all false
-- CHANGE: your row's module here, as the last of these rows
set_option Elab.async false
set_option linter.all false
set_option maxRecDepth 100000
/-! THE HAND LAYER, for ints, bools, texts, own classes, LISTS and tuples (index, slices, in, append, pop ..), calls, loops. Paste it whole ahead of your own text; what your proof does not reach may be deleted. -/
namespace L2
open PySem PySem.Spec PyProof.Rows

/-- a key: an int or a str -/
abbrev Key := Sum Int Str
def keyIs : Key → Value → Bool
  | .inl k, v => Value.isInt k v
  | .inr x, v => Value.isStrOf x v
def keyH (w : World) : Key → Int
  | .inl k => hashInt k
  | .inr x => hashStr w x
theorem keyIs_shape : ∀ {k : Key} {v : Value}, keyIs k v = true → (∃ i t, k = Sum.inl i ∧ v = Value.int i t) ∨ (∃ x t, k = Sum.inr x ∧ v = Value.str x t)
  | .inl i, v, h => by
    obtain ⟨t, e⟩ := Value.isInt_shape (k := i) (v := v) h
    exact .inl ⟨i, t, rfl, e⟩
  | .inr x, v, h => by
    obtain ⟨t, e⟩ := Value.isStrOf_shape (x := x) (v := v) h
    exact .inr ⟨x, t, rfl, e⟩
theorem keyIs_int (i : Int) (t : Tok) : keyIs (.inl i) (.int i t) = true := by simp [keyIs, Value.isInt]
theorem keyIs_str (x : Str) (t : Tok) : keyIs (.inr x) (.str x t) = true := by simp [keyIs, Value.isStrOf]
theorem key_ll (a b : Int) : decide ((Sum.inl a : Key) = Sum.inl b) = (a == b) := by
  by_cases e : a = b
  · subst e; simp
  · have h : ¬ (Sum.inl a : Key) = Sum.inl b := fun q => e (Sum.inl.inj q)
    rw [decide_eq_false h]
    exact (beq_eq_false_iff_ne.mpr e).symm
theorem key_rr (a b : Str) : decide ((Sum.inr a : Key) = Sum.inr b) = decide (a = b) := by
  by_cases e : a = b
  · subst e; simp
  · have h : ¬ (Sum.inr a : Key) = Sum.inr b := fun q => e (Sum.inr.inj q)
    rw [decide_eq_false h, decide_eq_false e]
theorem key_lr (a : Int) (b : Str) : decide ((Sum.inl a : Key) = Sum.inr b) = false := decide_eq_false (fun q => nomatch q)
theorem key_rl (a : Str) (b : Int) : decide ((Sum.inr a : Key) = Sum.inl b) = false := decide_eq_false (fun q => nomatch q)

def mixKind (prog : Program) (w : World) : PySem.KeyKind prog w Key where
  is := keyIs
  hash := keyH w
  inj := fun v a b ha hb => by
    rcases keyIs_shape ha with ⟨i, t, rfl, rfl⟩ | ⟨x, t, rfl, rfl⟩
    · rcases keyIs_shape hb with ⟨j, u, rfl, e⟩ | ⟨y, u, rfl, e⟩
      · injection e with e1 _; rw [e1]
      · exact nomatch e
    · rcases keyIs_shape hb with ⟨j, u, rfl, e⟩ | ⟨y, u, rfl, e⟩
      · exact nomatch e
      · injection e with e1 _; rw [e1]
  byValue := fun k v h => by
    rcases keyIs_shape h with ⟨i, t, rfl, rfl⟩ | ⟨x, t, rfl, rfl⟩ <;> rfl
  pyHash := fun hv h => by
    rcases keyIs_shape hv with ⟨i, t, rfl, rfl⟩ | ⟨x, t, rfl, rfl⟩
    · exact wpAny_pyHash_int h
    · exact wpAny_pyHash_str h
  eqBool := fun hu hv h => by
    rcases keyIs_shape hu with ⟨i, t, rfl, rfl⟩ | ⟨x, t, rfl, rfl⟩
    · rcases keyIs_shape hv with ⟨j, u, rfl, rfl⟩ | ⟨y, u, rfl, rfl⟩
      · rw [key_ll] at h; exact wpAny_eqBool_int h
      · rw [key_lr] at h; exact SeqAt.EqAt.int_str i t y u _ _ _ _ h
    · rcases keyIs_shape hv with ⟨j, u, rfl, rfl⟩ | ⟨y, u, rfl, rfl⟩
      · rw [key_rl] at h; exact SeqAt.EqAt.str_int x t j u _ _ _ _ h
      · rw [key_rr] at h; exact wpAny_eqBool_str h
  «strs» := fun k x t v h => by
    rcases keyIs_shape h with ⟨i, u, rfl, e⟩ | ⟨y, u, rfl, e⟩
    · exact nomatch e
    · injection e with e1 _
      subst e1
      cases v <;> rfl

theorem mixKind_int (prog : Program) (w : World) (i : Int) (t : Tok) : (mixKind prog w).is (.inl i) (.int i t) = true := keyIs_int i t
theorem mixKind_str (prog : Program) (w : World) (x : Str) (t : Tok) : (mixKind prog w).is (.inr x) (.str x t) = true := keyIs_str x t
end L2

namespace L2
open PySem PySem.Spec PyProof.Rows

/-- a value, without the heap -/
inductive V where
  | non | bl (b : Bool) | int (i : Int) | str (x : Str) | byt (b : Array UInt8) | flt (b : UInt64) | ref (a : Addr) | ty (n : String)
  deriving DecidableEq

def RelV : V → Value → Prop
  | .non, u => u = Value.none
  | .bl b, u => u = Value.bool b
  | .int i, u => ∃ t, u = Value.int i t
  | .str x, u => ∃ t, u = Value.str x t
  | .byt b, u => ∃ t, u = Value.bytes b t
  | .flt b, u => ∃ t, u = Value.float b t
  | .ref a, u => u = Value.ref a
  | .ty n, u => u = Value.type n

abbrev Vals : List V → List Value → Prop := Paired RelV
theorem Vals.length {xs : List V} {us : List Value} (r : Vals xs us) : xs.length = us.length := Paired.length r
theorem Vals.get : ∀ {xs : List V} {us : List Value} {i : Nat} {x : V}, Vals xs us → xs[i]? = some x → ∃ u, us[i]? = some u ∧ RelV x u
  | _, _, _, _, .nil, e => by simp at e
  | _, _, 0, _, .cons r _, e => by simp at e; subst e; exact ⟨_, rfl, r⟩
  | _, _, i + 1, x, .cons _ t, e => by
    obtain ⟨u, h1, h2⟩ := Vals.get (i := i) (x := x) t (by simpa using e)
    exact ⟨u, by simpa using h1, h2⟩
theorem Vals.set {x : V} {u : Value} (r : RelV x u) : ∀ {xs : List V} {us : List Value} (i : Nat), Vals xs us → Vals (xs.set i x) (us.set i u)
  | _, _, _, .nil => .nil
  | _, _, 0, .cons _ t => .cons r t
  | _, _, i + 1, .cons q t => .cons q (Vals.set r i t)
theorem Vals.append : ∀ {xs ys : List V} {us ws : List Value}, Vals xs us → Vals ys ws → Vals (xs ++ ys) (us ++ ws)
  | _, _, _, _, .nil, s => s
  | _, _, _, _, .cons r t, s => .cons r (Vals.append t s)
theorem Vals.take : ∀ {xs : List V} {us : List Value} (n : Nat), Vals xs us → Vals (xs.take n) (us.take n)
  | _, _, 0, _ => .nil
  | _, _, _ + 1, .nil => .nil
  | _, _, n + 1, .cons r t => .cons r (Vals.take n t)
theorem Vals.drop : ∀ {xs : List V} {us : List Value} (n : Nat), Vals xs us → Vals (xs.drop n) (us.drop n)
  | _, _, 0, r => r
  | _, _, _ + 1, .nil => .nil
  | _, _, n + 1, .cons _ t => Vals.drop n t
def RelO : Option V → Option Value → Prop
  | some v, some u => RelV v u
  | none, none => True
  | _, _ => False
def KV {κ : Type} : List (κ × V) → List (κ × Value) → Prop := Paired fun (p : κ × V) (q : κ × Value) => p.1 = q.1 ∧ RelV p.2 q.2

/-- a key of a dict (00_mix): an int or a text -/
def kV : Key → V
  | .inl i => .int i
  | .inr x => .str x

/-- what stands at a tracked address -/
inductive HO where
  /-- a list -/
  | lst (xs : List V)
  /-- a tuple (never changes) -/
  | tup (xs : List V)
  /-- a dict whose keys are ints and texts; one whose keys are tuples of ints and texts (the empty one is both) -/
  | dK (kvs : List (Key × V)) | dT (kvs : List (List Key × V))
  /-- a set of ints: its members, its size -/
  | set (S : Int → Bool) (n : Nat)
  /-- an instance of the class at C, its dict at dx, its attributes -/
  | ins (C dx : Addr) (fs : List (Str × V))
  /-- the dict of the instance at x -/
  | own (x : Addr)
  /-- the dict of an exception -/
  | xd (fs : List (Str × V))
  /-- a bound method, f of x -/
  | met (f x : Addr)
  /-- a range object lo, lo + 1, .. below hi -/
  | rng (lo hi : Int)
  /-- a thing that is known to the object (the script; a dict while a loop walks it): read, never written while it is so -/
  | frz (o : Obj) (u : HO)
  /-- a code object's table -/
  | tbl (ps : Array Value)
  /-- any other thing, by what is true of its one object (a def of one's own: SetO a S n := HO.ext fun h => ..) -/
  | ext (φ : Heap → Prop)

abbrev Hp := Addr → Option HO
def upd (H : Hp) (a : Addr) (o : HO) : Hp := fun b => if b = a then some o else H b
theorem upd_same {H : Hp} {a : Addr} {o : HO} : upd H a o a = some o := by unfold upd; rw [if_pos rfl]
theorem upd_ne {H : Hp} {a b : Addr} {o : HO} (h : b ≠ a) : upd H a o b = H b := by unfold upd; rw [if_neg h]
/-- two objects of different content stand apart -/
theorem ne_of {H : Hp} {a b : Addr} {o u : HO} (h : H a = some o) (h' : H b = some u) (d : o ≠ u) : a ≠ b := by
  intro e; subst e; rw [h] at h'; exact d (Option.some.inj h')
theorem ne_of_none {H : Hp} {a b : Addr} {o : HO} (h : H a = some o) (h' : H b = none) : a ≠ b := by
  intro e; subst e; rw [h] at h'; cases h'

section
variable (P : Program) (w : World)
def ObjOk (H : Hp) (h : Heap) (a : Addr) : HO → Prop
  | .lst xs => xs.length ≤ sizeLine ∧ ∃ (its : List Value) (n : Nat), Vals xs its ∧ h.get? a = some { cls := .type "list", data := .seq its.toArray n }
  | .tup xs => xs.length ≤ sizeLine ∧ ∃ its : List Value, Vals xs its ∧ IsTup h a its.toArray
  | .dK kvs => kvs.length ≤ sizeLine ∧ (a == sysModules) = false ∧ ∃ vs, KV kvs vs ∧ h.DictOf (mixKind P w) a vs
  | .dT kvs => kvs.length ≤ sizeLine ∧ (a == sysModules) = false ∧ ∃ xs : List (List Key × Addr × Value),
      Paired (fun (p : List Key × V) (q : List Key × Addr × Value) => p.1 = q.1 ∧ H q.2.1 = some (.tup (p.1.map kV)) ∧ RelV p.2 q.2.2) kvs xs ∧
      ∃ o es ep, h.get? a = some o ∧ o.ExactDict ∧ o.data = .dict es ep ∧ es.toList = xs.map (entryOfKey (tupleKind (mixKind P w))) ∧ (xs.map (·.1)).Nodup
  | .set S n => h.SetOf (intKind P w) a S n
  | .ins C dx fs => H dx = some (.own a) ∧ fs.length ≤ 1000 ∧ dx ≠ a ∧ h.get? a = some (PySem.W.instObj C dx) ∧
      ∃ mA, h.Ns1 dx mA ∧ (∀ f, RelO (fs.lookup f) (mA f)) ∧ PySem.Within mA (fs.map (·.1))
  | .own _ => ∃ o, h.get? a = some o
  | .xd fs => ∃ mA, h.Ns1 a mA ∧ ∀ f, RelO (fs.lookup f) (mA f)
  | .rng lo hi => ∃ t u v, h.get? a = some { cls := .type "range", data := .fields #[.int lo t, .int hi u, .int 1 v] }
  | .frz o u => h.get? a = some o ∧ ObjOk H h a u
  | .tbl ps => h.get? a = some { cls := .none, data := .fields ps }
  | .met f x => h.get? a = some (PySem.W.methodObj (.ref f) (.ref x))
  | .ext φ => φ h ∧ (∃ o, h.get? a = some o) ∧ ∀ h1 h2 : Heap, φ h1 → (∀ o, h1.get? a = some o → h2.get? a = some o) → φ h2
/-- the abstract heap is held -/
def HOk (H : Hp) (h : Heap) : Prop := ∀ a o, H a = some o → ObjOk P w H h a o
end

section
variable {P : Program} {w : World} {H H' : Hp} {h h' : Heap} {a : Addr} {o : HO}
theorem ObjOk.lt (x : ObjOk P w H h a o) : a < h.objs.size := by
  cases o with
  | lst xs => obtain ⟨_, _, _, _, e⟩ := x; exact Heap.lt_size e
  | tup xs => obtain ⟨_, _, _, p⟩ := x; exact p.lt
  | dK kvs => obtain ⟨_, _, _, _, o, _, _, e, _⟩ := x; exact Heap.lt_size e
  | dT kvs => obtain ⟨_, _, _, _, o, _, _, e, _⟩ := x; exact Heap.lt_size e
  | set S n => obtain ⟨o, _, _, _, e, _⟩ := x; exact Heap.lt_size e
  | ins C dx fs => obtain ⟨_, _, _, e, _⟩ := x; exact Heap.lt_size e
  | own y => obtain ⟨_, e⟩ := x; exact Heap.lt_size e
  | xd fs => obtain ⟨_, ⟨_, _, _, e, _⟩, _⟩ := x; exact Heap.lt_size e
  | rng lo hi => obtain ⟨_, _, _, e⟩ := x; exact Heap.lt_size e
  | frz ob u => obtain ⟨e, _⟩ := x; exact Heap.lt_size e
  | tbl ps => exact Heap.lt_size (show h.get? a = some _ from x)
  | met f y => exact Heap.lt_size (show h.get? a = some _ from x)
  | ext φ => obtain ⟨_, ⟨_, e⟩, _⟩ := x; exact Heap.lt_size e
theorem Paired.mapP {α β : Type} {F G : α → β → Prop} : ∀ {l₁ : List α} {l₂ : List β}, Paired F l₁ l₂ → (∀ a b, F a b → G a b) → Paired G l₁ l₂
  | _, _, .nil, _ => .nil
  | _, _, .cons r t, f => .cons (f _ _ r) (Paired.mapP t f)
/-- what an object's description leans on: its own object, its own dict, the tuples -/
theorem ObjOk.stay (x : ObjOk P w H h a o) (k : ∀ b u, (b = a ∨ H b = some (.own a)) → h.get? b = some u → h'.get? b = some u)
    (ho : ∀ b, H b = some (.own a) → H' b = some (.own a)) (ht : ∀ b xs, H b = some (.tup xs) → H' b = some (.tup xs)) : ObjOk P w H' h' a o := by
  induction o with
  | lst xs => obtain ⟨z, its, n, r, e⟩ := x; exact ⟨z, its, n, r, k _ _ (.inl rfl) e⟩
  | tup xs => obtain ⟨z, its, r, ob, e, c⟩ := x; exact ⟨z, its, r, ob, k _ _ (.inl rfl) e, c⟩
  | dK kvs => obtain ⟨z, y, vs, r, ob, es, ep, e, c⟩ := x; exact ⟨z, y, vs, r, ob, es, ep, k _ _ (.inl rfl) e, c⟩
  | dT kvs =>
    obtain ⟨z, y, xs, r, ob, es, ep, e, c⟩ := x
    exact ⟨z, y, xs, Paired.mapP r fun p q z => ⟨z.1, ht _ _ z.2.1, z.2.2⟩, ob, es, ep, k _ _ (.inl rfl) e, c⟩
  | set S n => obtain ⟨ob, es, ep, t, e, c⟩ := x; exact ⟨ob, es, ep, t, k _ _ (.inl rfl) e, c⟩
  | ins C dx fs =>
    obtain ⟨d, z, ne, e, mA, ⟨od, es, ep, e2, c⟩, r⟩ := x
    exact ⟨ho _ d, z, ne, k _ _ (.inl rfl) e, mA, ⟨od, es, ep, k _ _ (.inr d) e2, c⟩, r⟩
  | own y => obtain ⟨ob, e⟩ := x; exact ⟨ob, k _ _ (.inl rfl) e⟩
  | xd fs => obtain ⟨mA, ⟨od, es, ep, e, c⟩, r⟩ := x; exact ⟨mA, ⟨od, es, ep, k _ _ (.inl rfl) e, c⟩, r⟩
  | rng lo hi => obtain ⟨t, u, v, e⟩ := x; exact ⟨t, u, v, k _ _ (.inl rfl) e⟩
  | frz ob u ih => obtain ⟨e, q⟩ := x; exact ⟨k _ _ (.inl rfl) e, ih q⟩
  | tbl ps =>
    have e : h.get? a = some { cls := .none, data := .fields ps } := x
    show h'.get? a = some { cls := .none, data := .fields ps }
    exact k a _ (.inl rfl) e
  | met f y =>
    have e : h.get? a = some (PySem.W.methodObj (.ref f) (.ref y)) := x
    show h'.get? a = some (PySem.W.methodObj (.ref f) (.ref y))
    exact k a _ (.inl rfl) e
  | ext φ => obtain ⟨p, ⟨o, e⟩, st⟩ := x; exact ⟨st _ _ p fun o q => k _ _ (.inl rfl) q, ⟨o, k _ _ (.inl rfl) e⟩, st⟩
theorem HOk.lt (x : HOk P w H h) (e : H a = some o) : a < h.objs.size := (x a o e).lt
theorem HOk.fresh (x : HOk P w H h) (e : h.objs.size ≤ a) : H a = none := by
  cases q : H a with
  | none => rfl
  | some u => exact absurd (Nat.lt_of_lt_of_le (x.lt q) e) (Nat.lt_irrefl _)
/-- every object of the heap is kept -/
theorem HOk.kept (x : HOk P w H h) (k : ∀ b u, h.get? b = some u → h'.get? b = some u) : HOk P w H h' := fun a o e =>
  (x a o e).stay (fun b u _ q => k b u q) (fun _ q => q) fun _ _ q => q
/-- a new object is laid and tracked -/
theorem HOk.laid (x : HOk P w H h) (k : ∀ b u, h.get? b = some u → h'.get? b = some u) (hp : h.objs.size ≤ a) (new : ObjOk P w (upd H a o) h' a o) : HOk P w (upd H a o) h' := fun b u e => by
  have hn := x.fresh hp
  by_cases hb : b = a
  · subst hb; rw [upd_same] at e; cases e; exact new
  · rw [upd_ne hb] at e
    exact (x b u e).stay (fun c v _ q => k c v q) (fun c q => by rw [upd_ne (ne_of_none q hn)]; exact q) fun c xs q => by rw [upd_ne (ne_of_none q hn)]; exact q
end

/-- what may be read as u: it is u, or a known u -/
def Rd (H : Hp) (a : Addr) (u : HO) : Prop := H a = some u ∨ ∃ o, H a = some (.frz o u)
theorem Rd.ok {P : Program} {w : World} {H : Hp} {h : Heap} {a : Addr} {u : HO} (r : Rd H a u) (x : HOk P w H h) : ObjOk P w H h a u := by
  rcases r with r | ⟨o, r⟩
  · exact x a u r
  · obtain ⟨_, q⟩ := x a _ r
    exact q
/-- what may be written -/
def Mut : Option HO → Prop
  | some (.lst _) => True
  | some (.dK _) => True
  | some (.dT _) => True
  | some (.set _ _) => True
  | some (.ins _ _ _) => True
  | some (.ext _) => True
  | _ => False
section
variable {P : Program} {w : World} {H : Hp} {h h' : Heap} {x e : Addr} {o' : HO}
/-- the object at e is changed: x itself, or the dict of the instance x -/
theorem HOk.write (ok : HOk P w H h) (mu : Mut (H x)) (he : e = x ∨ H e = some (.own x)) (k : ∀ b u, b ≠ e → h.get? b = some u → h'.get? b = some u) (heo : ∃ u, h'.get? e = some u)
    (new : ObjOk P w (upd H x o') h' x o') : HOk P w (upd H x o') h' := fun b u q => by
  have nown : ∀ c y, H c = some (.own y) → c ≠ x := fun c y r z => by subst z; rw [r] at mu; exact mu
  have ntup : ∀ c xs, H c = some (.tup xs) → c ≠ x := fun c xs r z => by subst z; rw [r] at mu; exact mu
  by_cases hb : b = x
  · subst hb; rw [upd_same] at q; cases q; exact new
  · rw [upd_ne hb] at q
    by_cases hbe : b = e
    · have q' : H b = some (.own x) := by
        rcases he with z | z
        · exact absurd (hbe.trans z) hb
        · rw [hbe]; exact z
      rw [q] at q'; cases q'
      obtain ⟨v, hv⟩ := heo
      exact ⟨v, by rw [hbe]; exact hv⟩
    · refine (ok b u q).stay (fun c v hc r => k c v ?_ r) (fun c r => by rw [upd_ne (nown c b r)]; exact r) fun c xs r => by rw [upd_ne (ntup c xs r)]; exact r
      rcases hc with rfl | hc
      · exact hbe
      · rintro rfl
        rcases he with z | z
        · exact nown c b hc z
        · rw [hc] at z; cases z; exact hb rfl
end

/-! ### kept unless tracked; of the frames at fs (the callers') the slots may change (an exception that passes writes there); of the records at ex (iterators) nothing is said -/
structure Un (fs ex : List Addr) (H H' : Hp) (h h' : Heap) : Prop where
  keep : ∀ b o, h.get? b = some o → H b = none → b ∉ fs → b ∉ ex → h'.get? b = some o
  slot : ∀ b o, h.get? b = some o → H b = none → b ∈ fs → b ∉ ex → ∃ sl, h'.get? b = some { o with slots := sl }
  free : ∀ b o, h.get? b = some o → H b = none → b ∉ ex → H' b = none
  there : ∀ b o, h.get? b = some o → b ∉ ex → ∃ o', h'.get? b = some o'
  tups : ∀ b xs, H b = some (.tup xs) → H' b = some (.tup xs)
  frzs : ∀ b o u, H b = some (.frz o u) → H' b = some (.frz o u)
  tbls : ∀ b ps, H b = some (.tbl ps) → ∃ more, H' b = some (.tbl (ps ++ more))
section
variable {fs fs' ex ex' : List Addr} {H H1 H2 : Hp} {h h1 h2 h' : Heap} {a x e : Addr} {o : HO}
theorem Un.any (u : Un fs ex H H1 h h1) {b : Addr} {ob : Obj} (q : h.get? b = some ob) (n : H b = none) (hx : b ∉ ex) : ∃ sl, h1.get? b = some { ob with slots := sl } := by
  by_cases hb : b ∈ fs
  · exact u.slot b ob q n hb hx
  · exact ⟨ob.slots, u.keep b ob q n hb hx⟩
theorem Un.kept (k : ∀ b u, h.get? b = some u → h'.get? b = some u) : Un fs ex H H h h' :=
  ⟨fun b ob q _ _ _ => k b ob q, fun b ob q _ _ _ => ⟨ob.slots, k b ob q⟩, fun _ _ _ n _ => n, fun b ob q _ => ⟨ob, k b ob q⟩, fun _ _ q => q, fun _ _ _ q => q, fun _ ps q => ⟨#[], by rw [q]; simp⟩⟩
theorem Un.refl : Un fs ex H H h h := Un.kept fun _ _ q => q
theorem Un.laid (k : ∀ b u, h.get? b = some u → h'.get? b = some u) (hp : h.objs.size ≤ a) (hn : H a = none) : Un fs ex H (upd H a o) h h' where
  keep := fun b u q _ _ _ => k b u q
  slot := fun b u q _ _ _ => ⟨u.slots, k b u q⟩
  free := fun b u q n _ => by rw [upd_ne (Nat.ne_of_lt (Nat.lt_of_lt_of_le (Heap.lt_size q) hp))]; exact n
  there := fun b u q _ => ⟨u, k b u q⟩
  tups := fun b xs q => by rw [upd_ne (ne_of_none q hn)]; exact q
  frzs := fun b u xs q => by rw [upd_ne (ne_of_none q hn)]; exact q
  tbls := fun b ps q => ⟨#[], by rw [upd_ne (ne_of_none q hn), q]; simp⟩
theorem Un.write (mu : Mut (H x)) (he : e = x ∨ H e = some (.own x)) (k : ∀ b u, b ≠ e → h.get? b = some u → h'.get? b = some u) (heo : ∃ u, h'.get? e = some u) : Un fs ex H (upd H x o) h h' := by
  have hx : ∀ b, H b = none → b ≠ x := fun b n z => by subst z; rw [n] at mu; exact mu
  have hb : ∀ b, H b = none → b ≠ e := fun b n z => by
    subst z
    rcases he with r | r
    · exact hx b n r
    · rw [n] at r; cases r
  have hm : ∀ b u, H b = some u → ¬ Mut (some u) → b ≠ x := fun b u q nm z => by subst z; rw [q] at mu; exact nm mu
  refine ⟨fun b u q n _ _ => k b u (hb b n) q, fun b u q n _ _ => ⟨u.slots, k b u (hb b n) q⟩, fun b u q n _ => by rw [upd_ne (hx b n)]; exact n, fun b u q _ => ?_,
    fun b xs q => by rw [upd_ne (hm b _ q fun z => z)]; exact q, fun b u xs q => by rw [upd_ne (hm b _ q fun z => z)]; exact q, fun b ps q => ⟨#[], by rw [upd_ne (hm b _ q fun z => z), q]; simp⟩⟩
  by_cases hbe : b = e
  · subst hbe; exact heo
  · exact ⟨u, k b u hbe q⟩
end

/-! ### the heap without what is tracked -/
def trk (h : Heap) (H : Hp) : List Addr := (List.range h.objs.size).filter fun a => (H a).isSome
def hidT (h : Heap) (H : Hp) : Heap := PySem.W.hideAll h (trk h H)
theorem hidT_size (h : Heap) (H : Hp) : (hidT h H).objs.size = h.objs.size := PySem.W.hideAll_size _ _
theorem hidT_get {h : Heap} {H : Hp} {b : Addr} {o : Obj} (e : h.get? b = some o) (n : H b = none) : (hidT h H).get? b = some o :=
  PySem.W.hideAll_get _ e fun hm => by
    have q : (H b).isSome = true := (List.mem_filter.mp hm).2
    rw [n] at q; simp at q
theorem of_hidT {h : Heap} {H : Hp} {b : Addr} {o : Obj} (e : (hidT h H).get? b = some o) : h.get? b = some o ∧ H b = none := by
  have e' : h.get? b = some o := PySem.W.of_hideAll (trk h H) e
  refine ⟨e', ?_⟩
  cases q : H b with
  | none => rfl
  | some x =>
    have hm : b ∈ trk h H := List.mem_filter.mpr ⟨List.mem_range.mpr (Heap.lt_size e'), by simp [q]⟩
    have z : (hidT h H).get? b = none := PySem.W.hideAll_none (trk h H) hm
    rw [z] at e; cases e

/-! ### OpenK's ledger, filled with every new object but one -/
def allNews (g h : Heap) (L : Addr) : List (Addr × Obj) := (List.range h.objs.size).filterMap fun a => if a = L ∨ (g.get? a).isSome = true then none else (h.get? a).map fun o => (a, o)
def rest (g h : Heap) (L d : Addr) : List (Addr × Obj) := (allNews g h L).filter fun p => decide (p.1 ≠ d)
end L2

namespace L2
open PySem PySem.Spec PyProof.Rows

/-- the module's facts, over the base: the heap at the law's entry without what is tracked there -/
structure Mod (K : PySem.W.Frag) (mg : Str → Option Value) (base : Heap) : Prop where
  kin : K.In base
  glob : base.Ns mainGlobals mg
  blt : ∃ mb, base.Ns builtinsNs mb ∧ ∀ x : Str, x ≠ "__name__" → mb x = bootBuiltins x
  nolimit : base.NoLimit

/-- the context: a def's body (or a comprehension's block) running. base: fixed through the whole law; s₀, H₀: the entry; outer: the frames whose slots others may change (a def's callers); stack: all frames that run;
   ex: iterators that were made ahead of the entry and are walked here (a comprehension's); fn: the names whose cells were made at the entry (a def: all; a comprehension's block: its own); calm: not within an except suite; pn: pins that every state bears; xe: what is wanted of an exception that leaves the code -/
structure Cx where
  prog : Program
  w : World
  K : PySem.W.Frag
  mg : Str → Option Value
  base : Heap
  A : Around
  N : List Str
  s₀ : Shared
  H₀ : Hp
  env : Env
  outer : List Env
  stack : List Env
  ex : List Addr
  fn : Str → Bool
  calm : Bool
  pn : List (Addr × Obj)
  xe : Value → Shared → Prop
/-- the callers' frames -/
def frs (l : List Env) : List Addr := l.filterMap (·.frame)
abbrev Cx.fs (X : Cx) : List Addr := frs X.outer

def Vis (sc : Scope) (x : Str) : Prop := sc.names.lookup x = some .local ∨ sc.names.lookup x = some .cell ∨ sc.names.lookup x = some .free
def Loc (sc : Scope) (x : Str) : Prop := sc.names.lookup x = some .local ∨ sc.names.lookup x = some .cell
def Look (env : Env) (h : Heap) (m : Str → Option Value) (x : Str) (u : Value) : Prop :=
  (env.kindOf x = some .local ∧ m x = some u) ∨ ((env.kindOf x = some .cell ∨ env.kindOf x = some .free) ∧ ∃ c, env.cells.lookup x = some c ∧ h.IsCell c (some u))

structure Cx.Ok (X : Cx) : Prop where
  mod : Mod X.K X.mg X.base
  kind : X.env.scope.kind = .function
  glob : X.env.globals = mainGlobals
  blt : X.env.builtins = builtinsNs
  above : X.s₀.heap.objs.size ≤ X.env.locals
  inj : ∀ x y c, X.env.cells.lookup x = some c → X.env.cells.lookup y = some c → x = y
  has : ∀ x, (X.env.kindOf x = some .cell ∨ X.env.kindOf x = some .free) → ∃ c, X.env.cells.lookup x = some c
  cab : ∀ x c, X.fn x = true → X.env.cells.lookup x = some c → X.s₀.heap.objs.size ≤ c
  hd : X.calm = true → X.A.handled = none
  frames : X.A.frames = some X.stack
  stk : X.stack = X.outer ∨ (X.stack = X.env :: X.outer ∧ X.env.frame = some X.env.locals)
  exf : ∀ b ∈ X.ex, b ≠ X.env.locals ∧ ∀ x c, X.env.cells.lookup x = some c → c ≠ b
  bs : ∀ b o, X.base.get? b = some o → X.s₀.heap.get? b = some o ∧ X.H₀ b = none
  bsz : X.base.objs.size ≤ X.s₀.heap.objs.size
  noex : ∀ b o, X.base.get? b = some o → b ∉ X.ex
  exfs : ∀ b ∈ X.ex, b ∉ X.fs
  funs : X.s₀.heap.FunFrames X.base X.outer
  frf : ∀ b ∈ X.fs, X.H₀ b = none

structure Inv (X : Cx) (pins : List (Addr × Obj)) (σ : List (Option V)) (H : Hp) (s : Shared) : Prop where
  ok : X.Ok
  os : s.os = X.s₀.os
  bare : AllBare s.gens
  base : Un X.fs X.ex X.H₀ H X.s₀.heap s.heap
  loc : ∃ m, s.heap.Ns X.env.locals m ∧ ∀ (i : Nat) (x : Str) (v : V), X.N[i]? = some x → σ[i]? = some (some v) → Vis X.env.scope x → ∃ u, RelV v u ∧ Look X.env s.heap m x u
  cell : ∀ x c, X.env.cells.lookup x = some c → ∃ v, s.heap.IsCell c v
  free : H X.env.locals = none
  freeC : ∀ x c, X.env.cells.lookup x = some c → H c = none
  pin : ∀ p ∈ X.pn ++ pins, s.heap.get? p.1 = some p.2 ∧ H p.1 = none ∧ p.1 ≠ X.env.locals ∧ p.1 ∉ X.fs ∧ ∀ v, p.2.data ≠ .cell v
  hok : HOk X.prog X.w H s.heap
  len : σ.length = X.N.length

section
variable {X : Cx} {pins : List (Addr × Obj)} {σ : List (Option V)} {H H' : Hp} {s : Shared} {h' : Heap}

theorem Cx.Ok.nofr (ok : X.Ok) {b : Addr} {o : Obj} (e : X.base.get? b = some o) : b ∉ X.fs := fun hb => by
  have := (ok.funs.mem hb).1
  rw [e] at this; cases this
theorem Inv.bs (I : Inv X pins σ H s) : ∀ b o, X.base.get? b = some o → s.heap.get? b = some o ∧ H b = none := fun b o e =>
  ⟨I.base.keep b o (I.ok.bs b o e).1 (I.ok.bs b o e).2 (I.ok.nofr e) (I.ok.noex b o e), I.base.free b o (I.ok.bs b o e).1 (I.ok.bs b o e).2 (I.ok.noex b o e)⟩
theorem Inv.bk (I : Inv X pins σ H s) : ∀ b o, X.base.get? b = some o → s.heap.get? b = some o := fun b o e => (I.bs b o e).1
theorem Inv.mod (I : Inv X pins σ H s) : Mod X.K X.mg X.base := I.ok.mod
theorem Inv.kIn (I : Inv X pins σ H s) : X.K.In s.heap := I.ok.mod.kin.keeps I.bk
/-- the frame over the base: for OpenK's rules (K.In X.base is I.mod.kin) -/
theorem Inv.fr (I : Inv X pins σ H s) : ∃ m, Fr X.base X.env.locals s.heap m :=
  let ⟨m, hn, _⟩ := I.loc
  ⟨m, hn, I.bk, Nat.le_trans I.ok.bsz I.ok.above⟩
theorem Inv.lt (I : Inv X pins σ H s) : X.env.locals < s.heap.objs.size := let ⟨_, hn, _⟩ := I.loc; hn.lt
theorem Inv.sz (I : Inv X pins σ H s) : X.s₀.heap.objs.size ≤ s.heap.objs.size := Nat.le_trans I.ok.above (Nat.le_of_lt I.lt)
theorem Inv.nofs (I : Inv X pins σ H s) {a : Addr} (h : s.heap.objs.size ≤ a) : a ∉ X.fs := fun hb => by
  obtain ⟨_, o, ho, _⟩ := I.ok.funs.mem hb
  exact absurd (Nat.lt_of_lt_of_le (Heap.lt_size ho) (Nat.le_trans I.sz h)) (Nat.lt_irrefl _)
theorem Inv.cne (I : Inv X pins σ H s) : ∀ x c, X.env.cells.lookup x = some c → c ≠ X.env.locals := fun x c e z => by
  obtain ⟨v, o, ho, hd⟩ := I.cell x c e
  obtain ⟨m, ⟨o', es, ep, ho', hd', _⟩, _⟩ := I.loc
  rw [z, ho'] at ho; cases ho; rw [hd'] at hd; cases hd
theorem Inv.funs (I : Inv X pins σ H s) : s.heap.FunFrames X.base X.outer := by
  have all : ∀ (l : List Env), (∀ b ∈ frs l, b ∈ X.fs) → X.s₀.heap.FunFrames X.base l → s.heap.FunFrames X.base l := by
    intro l
    induction l with
    | nil => intro _ _; trivial
    | cons env r ih =>
      intro hs hl
      obtain ⟨hk, ⟨L, o, hf, hn, ho, hd⟩, hr⟩ := hl
      have hL : L ∈ X.fs := hs L (by unfold frs; rw [List.filterMap_cons, hf]; exact List.mem_cons_self)
      obtain ⟨sl, e⟩ := I.base.slot L o ho (I.ok.frf L hL) hL fun z => I.ok.exfs L z hL
      exact ⟨hk, ⟨L, _, hf, hn, e, hd⟩, ih (fun b hb => hs b (by unfold frs; rw [List.filterMap_cons, hf]; exact List.mem_cons_of_mem _ hb)) hr⟩
  exact all X.outer (fun _ hb => hb) I.ok.funs

/-- the frames that run, for a call -/
theorem Inv.stack (I : Inv X pins σ H s) : s.heap.FunFrames X.base X.stack := by
  rcases I.ok.stk with e | ⟨e, hf⟩
  · rw [e]; exact I.funs
  · rw [e]
    obtain ⟨m, hn, _⟩ := I.loc
    refine .cons (by rw [I.ok.kind]; decide) hf hn ?_ I.funs
    exact Heap.get?_none_of_le (Nat.le_trans I.ok.bsz I.ok.above)
theorem Inv.stkSub (I : Inv X pins σ H s) : ∀ b ∈ frs X.stack, b ∈ X.env.locals :: X.fs := fun b hb => by
  rcases I.ok.stk with e | ⟨e, hf⟩
  · rw [e] at hb; exact List.mem_cons_of_mem _ hb
  · rw [e] at hb
    unfold frs at hb
    rw [List.filterMap_cons, hf] at hb
    exact hb
theorem Inv.stkFree (I : Inv X pins σ H s) : ∀ b ∈ frs X.stack, H b = none := fun b hb => by
  rcases List.mem_cons.mp (I.stkSub b hb) with e | hb
  · rw [e]; exact I.free
  · obtain ⟨_, o, ho, _⟩ := I.ok.funs.mem hb
    exact I.base.free b o ho (I.ok.frf b hb) fun z => I.ok.exfs b z hb

/-- THE STEP: the untracked objects but the frame and the records at ch are kept (the callers' frames up to slots), the frame's map is kept, the new abstract heap is held -/
theorem Inv.step {g' : Array GenState} {t' : Nat} {d' : Drawn} {ch : List Addr} (I : Inv X pins σ H s)
    (hch : ∀ b ∈ ch, (b ∈ X.ex ∨ X.s₀.heap.objs.size ≤ b) ∧ b ≠ X.env.locals ∧ (∀ x c, X.env.cells.lookup x = some c → c ≠ b) ∧ ∀ p ∈ X.pn ++ pins, p.1 ≠ b)
    (keep : ∀ b o, b ≠ X.env.locals → b ∉ X.fs → b ∉ ch → s.heap.get? b = some o → H b = none → h'.get? b = some o)
    (slot : ∀ b o, b ≠ X.env.locals → b ∈ X.fs → b ∉ ch → s.heap.get? b = some o → H b = none → ∃ sl, h'.get? b = some { o with slots := sl }) (free : ∀ b o, b ∉ ch → s.heap.get? b = some o → H b = none → H' b = none)
    (there : ∀ b o, b ∉ ch → s.heap.get? b = some o → ∃ o', h'.get? b = some o')
    (tups : ∀ b xs, H b = some (.tup xs) → H' b = some (.tup xs)) (frzs : ∀ b o u, H b = some (.frz o u) → H' b = some (.frz o u)) (tbls : ∀ b ps, H b = some (.tbl ps) → ∃ more, H' b = some (.tbl (ps ++ more)))
    (ns : ∀ m, s.heap.Ns X.env.locals m → h'.Ns X.env.locals m) (hok : HOk X.prog X.w H' h') (hg : AllBare g') :
    Inv X pins σ H' { s with heap := h', gens := g', drawn := d', toks := t' } := by
  have neL : ∀ b o, X.s₀.heap.get? b = some o → b ≠ X.env.locals := fun b o e => Nat.ne_of_lt (Nat.lt_of_lt_of_le (Heap.lt_size e) I.ok.above)
  have neC : ∀ b o, X.s₀.heap.get? b = some o → b ∉ X.ex → b ∉ ch := fun b o e hx hb => by
    rcases (hch b hb).1 with z | z
    · exact hx z
    · exact absurd (Nat.lt_of_lt_of_le (Heap.lt_size e) z) (Nat.lt_irrefl _)
  have cellK : ∀ x c, X.env.cells.lookup x = some c → ∀ v, s.heap.IsCell c v → h'.IsCell c v := fun x c e v ⟨o, ho, hd⟩ => by
    have nch : c ∉ ch := fun z => (hch c z).2.2.1 x c e rfl
    by_cases hc : c ∈ X.fs
    · obtain ⟨sl, q⟩ := slot c o (I.cne x c e) hc nch ho (I.freeC x c e)
      exact ⟨_, q, hd⟩
    · exact ⟨o, keep c o (I.cne x c e) hc nch ho (I.freeC x c e), hd⟩
  refine ⟨I.ok, I.os, hg, ⟨fun b o e n hb hx => ?_, fun b o e n hb hx => ?_, fun b o e n hx => ?_, fun b o e hx => ?_, fun b xs e => tups b xs (I.base.tups b xs e), fun b o xs e => frzs b o xs (I.base.frzs b o xs e), fun b ps e => ?_⟩, ?_, fun x c e => ?_, ?_, fun x c e => ?_, fun p hp => ?_, hok, I.len⟩
  · exact keep b o (neL b o e) hb (neC b o e hx) (I.base.keep b o e n hb hx) (I.base.free b o e n hx)
  · obtain ⟨sl, e1⟩ := I.base.slot b o e n hb hx
    obtain ⟨sl', e2⟩ := slot b _ (neL b o e) hb (neC b o e hx) e1 (I.base.free b o e n hx)
    exact ⟨sl', e2⟩
  · obtain ⟨o', e1⟩ := I.base.there b o e hx
    exact free b o' (neC b o e hx) e1 (I.base.free b o e n hx)
  · obtain ⟨o', e1⟩ := I.base.there b o e hx
    exact there b o' (neC b o e hx) e1
  · obtain ⟨m1, e1⟩ := I.base.tbls b ps e
    obtain ⟨m2, e2⟩ := tbls b _ e1
    exact ⟨m1 ++ m2, by rw [e2, Array.append_assoc]⟩
  · obtain ⟨m, hn, hl⟩ := I.loc
    refine ⟨m, ns m hn, fun i x v e1 e2 e3 => ?_⟩
    obtain ⟨u, r, l⟩ := hl i x v e1 e2 e3
    refine ⟨u, r, ?_⟩
    rcases l with l | ⟨k, c, e, z⟩
    · exact .inl l
    · exact .inr ⟨k, c, e, cellK x c e _ z⟩
  · obtain ⟨v, z⟩ := I.cell x c e
    exact ⟨v, cellK x c e v z⟩
  · obtain ⟨m, ⟨o, _, _, ho, _⟩, _⟩ := I.loc
    exact free _ o (fun z => (hch _ z).2.1 rfl) ho I.free
  · obtain ⟨v, o, ho, hd⟩ := I.cell x c e
    exact free c o (fun z => (hch c z).2.2.1 x c e rfl) ho (I.freeC x c e)
  · obtain ⟨e, n, ne, nf, d⟩ := I.pin p hp
    have nch : p.1 ∉ ch := fun z => (hch p.1 z).2.2.2 p hp rfl
    exact ⟨keep p.1 p.2 ne nf nch e n, free p.1 p.2 nch e n, ne, nf, d⟩
/-- .. where the frame's own object is kept too -/
theorem Inv.un {t' : Nat} (I : Inv X pins σ H s) (u : Un X.fs [] H H' s.heap h') (hok : HOk X.prog X.w H' h') : Inv X pins σ H' { s with heap := h', toks := t' } := by
  obtain ⟨m, ⟨o, es, ep, ho, r⟩, _⟩ := id I.loc
  obtain ⟨sl, hL⟩ := u.any ho I.free (by simp)
  exact I.step (g' := s.gens) (d' := s.drawn) (ch := []) (fun _ z => nomatch z) (fun b o _ hb _ e n => u.keep b o e n hb (by simp)) (fun b o _ hb _ e n => u.slot b o e n hb (by simp)) (fun b o _ e n => u.free b o e n (by simp)) (fun b o _ e => u.there b o e (by simp)) u.tups u.frzs u.tbls (fun m' hm => by
    obtain ⟨o', es', ep', ho', r'⟩ := hm
    rw [ho] at ho'; cases ho'
    exact ⟨_, es', ep', hL, r'⟩) hok I.bare
/-- behind a call (or a comprehension's block): the slots of this frame may have changed too, the records at ch may have turned -/
theorem Inv.call {g' : Array GenState} {t' : Nat} {d' : Drawn} {ch : List Addr} (I : Inv X pins σ H s) (u : Un (frs X.stack) ch H H' s.heap h') (hok : HOk X.prog X.w H' h') (hg : AllBare g')
    (hch : ∀ b ∈ ch, (b ∈ X.ex ∨ X.s₀.heap.objs.size ≤ b) ∧ b ≠ X.env.locals ∧ (∀ x c, X.env.cells.lookup x = some c → c ≠ b) ∧ ∀ p ∈ X.pn ++ pins, p.1 ≠ b) :
    Inv X pins σ H' { s with heap := h', gens := g', drawn := d', toks := t' } := by
  obtain ⟨m, ⟨o, es, ep, ho, r⟩, _⟩ := id I.loc
  obtain ⟨sl, hL⟩ := u.any ho I.free fun z => (hch _ z).2.1 rfl
  exact I.step (ch := ch) hch (fun b o hL hb hc e n => u.keep b o e n (fun z => (List.mem_cons.mp (I.stkSub b z)).elim hL hb) hc) (fun b o _ _ hc e n => u.any e n hc) (fun b o hc e n => u.free b o e n hc) (fun b o hc e => u.there b o e hc) u.tups u.frzs u.tbls (fun m' hm => by
    obtain ⟨o', es', ep', ho', r'⟩ := hm
    rw [ho] at ho'; cases ho'
    exact ⟨_, es', ep', hL, r'⟩) hok hg
/-- an untracked record of ours (an iterator) has turned -/
theorem Inv.turned {t' : Nat} {it : Addr} (I : Inv X pins σ H s) (k : ∀ b o, b ≠ it → s.heap.get? b = some o → h'.get? b = some o) (hn : H it = none) (hL : it ≠ X.env.locals)
    (h1 : it ∈ X.ex ∨ X.s₀.heap.objs.size ≤ it) (h2 : ∀ x c, X.env.cells.lookup x = some c → c ≠ it) (h3 : ∀ p ∈ X.pn ++ pins, p.1 ≠ it) : Inv X pins σ H { s with heap := h', toks := t' } := by
  have nit : ∀ b u, H b = some u → b ≠ it := fun b u e z => by rw [z, hn] at e; cases e
  refine I.step (g' := s.gens) (d' := s.drawn) (ch := [it]) (fun b hb => ?_) (fun b o _ _ hc e _ => k b o (fun z => hc (by simp [z])) e) (fun b o _ _ hc e _ => ⟨o.slots, k b o (fun z => hc (by simp [z])) e⟩) (fun _ _ _ _ n => n)
    (fun b o hc e => ⟨o, k b o (fun z => hc (by simp [z])) e⟩) (fun _ _ e => e) (fun _ _ _ e => e) (fun b ps e => ⟨#[], by rw [e]; simp⟩) (fun m hm => ?_) (fun b u e => ?_) I.bare
  · have e : b = it := by simpa using hb
    subst e
    exact ⟨h1, hL, h2, h3⟩
  · obtain ⟨o, es, ep, ho, r⟩ := hm
    exact ⟨o, es, ep, k _ o (Ne.symm hL) ho, r⟩
  · refine (I.hok b u e).stay (fun c v hc q => k c v ?_ q) (fun _ q => q) fun _ _ q => q
    rcases hc with z | z
    · rw [z]; exact nit b u e
    · exact nit c _ z
theorem Inv.tok (I : Inv X pins σ H s) (t : Nat) : Inv X pins σ H { s with toks := t } := I.un (h' := s.heap) (t' := t) Un.refl I.hok
/-- all objects kept -/
theorem Inv.kept {t' : Nat} (I : Inv X pins σ H s) (k : ∀ b u, s.heap.get? b = some u → h'.get? b = some u) : Inv X pins σ H { s with heap := h', toks := t' } := I.un (Un.kept k) (I.hok.kept k)
/-- a new object laid and tracked -/
theorem Inv.laid {a : Addr} {o : HO} {t' : Nat} (I : Inv X pins σ H s) (k : ∀ b u, s.heap.get? b = some u → h'.get? b = some u) (hp : s.heap.objs.size ≤ a) (new : ObjOk X.prog X.w (upd H a o) h' a o) :
    Inv X pins σ (upd H a o) { s with heap := h', toks := t' } := I.un (Un.laid k hp (I.hok.fresh hp)) (I.hok.laid k hp new)
/-- an object written -/
theorem Inv.write {x e : Addr} {o : HO} {t' : Nat} (I : Inv X pins σ H s) (mu : Mut (H x)) (he : e = x ∨ H e = some (.own x)) (k : ∀ b u, b ≠ e → s.heap.get? b = some u → h'.get? b = some u) (heo : ∃ u, h'.get? e = some u)
    (new : ObjOk X.prog X.w (upd H x o) h' x o) : Inv X pins σ (upd H x o) { s with heap := h', toks := t' } := I.un (Un.write mu he k heo) (I.hok.write mu he k heo new)
/-- forgetting slots, pins -/
theorem Inv.weak {σ' : List (Option V)} (I : Inv X pins σ H s) (hl : σ'.length = σ.length) (w : ∀ (i : Nat) v, σ'[i]? = some (some v) → σ[i]? = some (some v)) : Inv X pins σ' H s :=
  ⟨I.ok, I.os, I.bare, I.base, let ⟨m, hn, hl'⟩ := I.loc; ⟨m, hn, fun i x v e1 e2 e3 => hl' i x v e1 (w i v e2) e3⟩, I.cell, I.free, I.freeC, I.pin, I.hok, hl.trans I.len⟩
theorem Inv.pins_of {pins' : List (Addr × Obj)} (I : Inv X pins σ H s) (h : ∀ p ∈ pins', s.heap.get? p.1 = some p.2 ∧ H p.1 = none ∧ p.1 ≠ X.env.locals ∧ p.1 ∉ X.fs ∧ ∀ v, p.2.data ≠ .cell v) : Inv X pins' σ H s :=
  ⟨I.ok, I.os, I.bare, I.base, I.loc, I.cell, I.free, I.freeC, fun p hp => (List.mem_append.mp hp).elim (fun z => I.pin p (List.mem_append_left _ z)) (h p), I.hok, I.len⟩

theorem nodup_ix {N : List Str} (hN : N.Nodup) {i j : Nat} {x : Str} (a : N[i]? = some x) (b : N[j]? = some x) : i = j := by
  obtain ⟨h1, e1⟩ := List.getElem?_eq_some_iff.mp a
  obtain ⟨h2, e2⟩ := List.getElem?_eq_some_iff.mp b
  exact (List.getElem_inj hN).mp (e1.trans e2.symm)

/-- a name is stored; what changed -/
theorem store_ok2 {M : Model} {A : Around} {E : Value → Shared → Prop} {i : Nat} {x : Str} {v : V} {u : Value} {Q : Unit → Shared → Prop} (I : Inv X pins σ H s) (hN : X.N.Nodup) (hi : X.N[i]? = some x) (hx : Loc X.env.scope x) (r : RelV v u)
    (h : ∀ s', Inv X pins (σ.set i (some v)) H s' → (∃ a, Heap.SameBut a s.heap s'.heap ∧ (a = X.env.locals ∨ X.env.cells.lookup x = some a)) → Q () s') (hf : X.fn x = true ∨ X.env.scope.names.lookup x = some .local := by first | exact .inl rfl | exact .inr rfl | assumption) : wpAny M A (storeName X.env x u) Q E s := by
  obtain ⟨m, hn, hl⟩ := id I.loc
  have hcls : (X.env.scope.kind == .class || (X.env.scope.kind == .module && X.env.locals != X.env.globals)) = false := by rw [I.ok.kind]; rfl
  have hiσ : i < σ.length := by rw [I.len]; exact (List.getElem?_eq_some_iff.mp hi).1
  have cne := I.cne
  have tracked : ∀ {a : Addr} {h' : Heap}, (∃ o, s.heap.get? a = some o ∧ H a = none) → Heap.SameBut a s.heap h' → HOk X.prog X.w H h' := fun {a h'} ha hs b ob e => by
    obtain ⟨_, _, hfree⟩ := ha
    refine (I.hok b ob e).stay (fun c w' hc q => (hs.2 c ?_).trans q) (fun _ q => q) fun _ _ q => q
    rintro rfl
    rcases hc with rfl | hc
    · rw [hfree] at e; cases e
    · rw [hfree] at hc; cases hc
  rcases hx with hk | hk
  · refine wpAny_storeName_local hk hn (fun h' hn' hs => ?_) hcls
    obtain ⟨oL, _, _, hoL, _⟩ := id hn
    refine h _ ⟨I.ok, I.os, I.bare, ⟨fun b o e n hb hx => ?_, fun b o e n hb hx => ?_, I.base.free, fun b o e hx => ?_, I.base.tups, I.base.frzs, I.base.tbls⟩, ⟨_, hn', fun j y v' e1 e2 e3 => ?_⟩, fun y c e => ?_, I.free, I.freeC, fun p hp => ?_, tracked ⟨oL, hoL, I.free⟩ hs, by simpa using I.len⟩ ⟨_, hs, .inl rfl⟩
    · exact (hs.2 b (Nat.ne_of_lt (Nat.lt_of_lt_of_le (Heap.lt_size e) I.ok.above))).trans (I.base.keep b o e n hb hx)
    · obtain ⟨sl, e1⟩ := I.base.slot b o e n hb hx
      exact ⟨sl, (hs.2 b (Nat.ne_of_lt (Nat.lt_of_lt_of_le (Heap.lt_size e) I.ok.above))).trans e1⟩
    · obtain ⟨o', e1⟩ := I.base.there b o e hx
      exact ⟨o', (hs.2 b (Nat.ne_of_lt (Nat.lt_of_lt_of_le (Heap.lt_size e) I.ok.above))).trans e1⟩
    · by_cases hj : j = i
      · subst hj
        rw [hi] at e1; cases e1
        rw [List.getElem?_set_self hiσ] at e2
        cases e2
        exact ⟨u, r, .inl ⟨hk, by simp⟩⟩
      · rw [List.getElem?_set_ne (Ne.symm hj)] at e2
        obtain ⟨u', r', q⟩ := hl j y v' e1 e2 e3
        refine ⟨u', r', ?_⟩
        rcases q with ⟨k, e⟩ | ⟨k, c, e, z⟩
        · refine .inl ⟨k, ?_⟩
          have : y ≠ x := fun e => hj (nodup_ix hN e1 (e ▸ hi))
          simp [this, e]
        · exact .inr ⟨k, c, e, z.sameBut hs (cne y c e)⟩
    · obtain ⟨w', z⟩ := I.cell y c e
      exact ⟨w', z.sameBut hs (cne y c e)⟩
    · obtain ⟨e, n, ne, nf, d⟩ := I.pin p hp
      exact ⟨(hs.2 p.1 ne).trans e, n, ne, nf, d⟩
  · have hfn : X.fn x = true := by
      rcases hf with z | z
      · exact z
      · rw [z] at hk; cases hk
    obtain ⟨c, hc⟩ := I.ok.has x (.inl hk)
    obtain ⟨w', z⟩ := I.cell x c hc
    refine wpAny_storeName_cell I.ok.kind hk hc z (fun h' hc' hs => ?_)
    obtain ⟨oc, hoc, hocd⟩ := id z
    refine h { s with heap := h' } ⟨I.ok, I.os, I.bare, ⟨fun b o e n hb hx => ?_, fun b o e n hb hx => ?_, I.base.free, fun b o e hx => ?_, I.base.tups, I.base.frzs, I.base.tbls⟩, ⟨m, hn.sameBut hs (Ne.symm (cne x c hc)), fun j y v' e1 e2 e3 => ?_⟩, fun y c' e => ?_, I.free, I.freeC, fun p hp => ?_, tracked ⟨oc, hoc, I.freeC x c hc⟩ hs, by simpa using I.len⟩ ⟨c, hs, .inr hc⟩
    · exact (hs.2 b (Nat.ne_of_lt (Nat.lt_of_lt_of_le (Heap.lt_size e) (I.ok.cab x c hfn hc)))).trans (I.base.keep b o e n hb hx)
    · obtain ⟨sl, e1⟩ := I.base.slot b o e n hb hx
      exact ⟨sl, (hs.2 b (Nat.ne_of_lt (Nat.lt_of_lt_of_le (Heap.lt_size e) (I.ok.cab x c hfn hc)))).trans e1⟩
    · obtain ⟨o', e1⟩ := I.base.there b o e hx
      exact ⟨o', (hs.2 b (Nat.ne_of_lt (Nat.lt_of_lt_of_le (Heap.lt_size e) (I.ok.cab x c hfn hc)))).trans e1⟩
    · by_cases hj : j = i
      · subst hj
        rw [hi] at e1; cases e1
        rw [List.getElem?_set_self hiσ] at e2
        cases e2
        exact ⟨u, r, .inr ⟨.inl hk, c, hc, hc'⟩⟩
      · rw [List.getElem?_set_ne (Ne.symm hj)] at e2
        obtain ⟨u', r', q⟩ := hl j y v' e1 e2 e3
        refine ⟨u', r', ?_⟩
        rcases q with q | ⟨k, c', e, z'⟩
        · exact .inl q
        · refine .inr ⟨k, c', e, z'.sameBut hs ?_⟩
          rintro rfl
          exact hj (nodup_ix hN e1 (I.ok.inj _ _ _ e hc ▸ hi))
    · by_cases hcc : c' = c
      · subst hcc; exact ⟨_, hc'⟩
      · obtain ⟨w2, z2⟩ := I.cell y c' e
        exact ⟨w2, z2.sameBut hs hcc⟩
    · obtain ⟨e, n, ne, nf, d⟩ := I.pin p hp
      refine ⟨(hs.2 p.1 ?_).trans e, n, ne, nf, d⟩
      intro q
      rw [q, hoc] at e
      have q' : oc = p.2 := Option.some.inj e
      exact d w' (by rw [← q']; exact hocd)
theorem store_ok {M : Model} {A : Around} {E : Value → Shared → Prop} {i : Nat} {x : Str} {v : V} {u : Value} {Q : Unit → Shared → Prop} (I : Inv X pins σ H s) (hN : X.N.Nodup) (hi : X.N[i]? = some x) (hx : Loc X.env.scope x) (r : RelV v u)
    (h : ∀ s', Inv X pins (σ.set i (some v)) H s' → Q () s') (hf : X.fn x = true ∨ X.env.scope.names.lookup x = some .local := by first | exact .inl rfl | exact .inr rfl | assumption) : wpAny M A (storeName X.env x u) Q E s :=
  store_ok2 I hN hi hx r (fun s' I' _ => h s' I') hf
/-- behind a call or a block, the state as it is -/
theorem Inv.call' {s' : Shared} {ch : List Addr} (I : Inv X pins σ H s) (ho : s'.os = s.os) (u : Un (frs X.stack) ch H H' s.heap s'.heap) (hok : HOk X.prog X.w H' s'.heap) (hg : AllBare s'.gens)
    (hch : ∀ b ∈ ch, (b ∈ X.ex ∨ X.s₀.heap.objs.size ≤ b) ∧ b ≠ X.env.locals ∧ (∀ x c, X.env.cells.lookup x = some c → c ≠ b) ∧ ∀ p ∈ X.pn ++ pins, p.1 ≠ b) : Inv X pins σ H' s' := by
  obtain ⟨h', g', d', t', o'⟩ := s'
  have e : o' = s.os := ho
  subst e
  exact I.call (g' := g') (t' := t') (d' := d') u hok hg hch
end

/-! ### the judgements -/
/-- an exception: its class, its own dict's address (where it has one), the abstract heap behind it -/
abbrev XK := Value → Option Addr → Hp → Prop
abbrev St := List (Option V)
abbrev VK := V → Hp → Prop
/-- an expression's reading; a test's; an argument list's -/
abbrev TE := St → Hp → VK → Prop
abbrev TT := St → Hp → (Bool → Hp → Prop) → Prop
abbrev TA := St → Hp → (List V → Hp → Prop) → Prop
/-- what is wanted behind a statement -/
structure Ends where
  nx : St → Hp → Prop
  rt : VK
  bk : St → Hp → Prop := fun _ _ => False
  ct : St → Hp → Prop := fun _ _ => False
abbrev TS := Ends → St → Hp → Prop

def EP (X : Cx) (pins : List (Addr × Obj)) (σ : St) (Q : VK) (u : Value) (s' : Shared) : Prop := ∃ v H', Inv X pins σ H' s' ∧ RelV v u ∧ Q v H'
def TP (X : Cx) (pins : List (Addr × Obj)) (σ : St) (Q : Bool → Hp → Prop) (b : Bool) (s' : Shared) : Prop := ∃ H', Inv X pins σ H' s' ∧ Q b H'
def AP (X : Cx) (pins : List (Addr × Obj)) (σ : St) (Q : List V → Hp → Prop) (us : List Value) (s' : Shared) : Prop := ∃ vs H', Inv X pins σ H' s' ∧ Vals vs us ∧ Q vs H'
def SP (X : Cx) (pins : List (Addr × Obj)) (D : Ends) (f : Flow) (s' : Shared) : Prop :=
  match f with
  | .next => ∃ σ' H', Inv X pins σ' H' s' ∧ D.nx σ' H'
  | .brk => ∃ σ' H', Inv X pins σ' H' s' ∧ D.bk σ' H'
  | .cont => ∃ σ' H', Inv X pins σ' H' s' ∧ D.ct σ' H'
  | .ret u => ∃ v σ' H', Inv X pins σ' H' s' ∧ RelV v u ∧ D.rt v H'

def PE (X : Cx) (e : Expr) (t : TE) : Prop :=
  ∀ (pins : List (Addr × Obj)) (s : Shared) (σ : St) (H : Hp) (Q : VK), Inv X pins σ H s → t σ H Q → wpAny (model X.prog X.w) X.A (eval e X.env) (EP X pins σ Q) X.xe s
def PT (X : Cx) (e : Expr) (t : TT) : Prop :=
  ∀ (pins : List (Addr × Obj)) (s : Shared) (σ : St) (H : Hp) (Q : Bool → Hp → Prop), Inv X pins σ H s → t σ H Q → wpAny (model X.prog X.w) X.A (isTrue e X.env (eval e X.env)) (TP X pins σ Q) X.xe s
/-- a test whatever its 'whole' is (and, or) -/
def PW (X : Cx) (e : Expr) (t : TT) : Prop :=
  ∀ (whole : Sem Value) (pins : List (Addr × Obj)) (s : Shared) (σ : St) (H : Hp) (Q : Bool → Hp → Prop), Inv X pins σ H s → t σ H Q → wpAny (model X.prog X.w) X.A (isTrue e X.env whole) (TP X pins σ Q) X.xe s
theorem PW.pt {X : Cx} {e : Expr} {t : TT} (h : PW X e t) : PT X e t := h _
/-- an argument list (no star), from the left -/
def PA (X : Cx) (es : List Expr) (t : TA) : Prop :=
  ∀ (pos : Pos) (pins : List (Addr × Obj)) (s : Shared) (σ : St) (H : Hp) (Q : List V → Hp → Prop), Inv X pins σ H s → t σ H Q → wpAny (model X.prog X.w) X.A (spliced (backTo pos (starEach es X.env))) (AP X pins σ Q) X.xe s
def PS (X : Cx) (st : Stmt) (t : TS) : Prop :=
  ∀ (pins : List (Addr × Obj)) (s : Shared) (σ : St) (H : Hp) (D : Ends), Inv X pins σ H s → t D σ H → wpAny (model X.prog X.w) X.A (exec st X.env) (SP X pins D) X.xe s
def PSs (X : Cx) (st : List Stmt) (t : TS) : Prop :=
  ∀ (pins : List (Addr × Obj)) (s : Shared) (σ : St) (H : Hp) (D : Ends), Inv X pins σ H s → t D σ H → wpAny (model X.prog X.w) X.A (execs st X.env) (SP X pins D) X.xe s
/-- weaken the end -/
theorem thn {α : Type} {t : Sem α} {Q Q' : α → Shared → Prop} {M : Model} {A : Around} {E : Value → Shared → Prop} {s : Shared} (h : wpAny M A t Q E s) (hQ : ∀ a s, Q a s → Q' a s) : wpAny M A t Q' E s := wpAny_mono h hQ fun _ _ x => x
end L2

namespace L2
open PySem PySem.Spec PyProof.Rows
section
variable {X : Cx}

/-- two expressions in a row -/
theorem bin {a b : Expr} {ta tb : TE} (ha : PE X a ta) (hb : PE X b tb) {pins : List (Addr × Obj)} {s : Shared} {σ : St} {H : Hp} {R : V → V → Hp → Prop} (I : Inv X pins σ H s) (h : ta σ H fun x H1 => tb σ H1 fun y H2 => R x y H2)
    {α : Type} {Q : α → Shared → Prop} {f : Value → Value → Sem α}
    (hf : ∀ v u s2 x y H2, Inv X pins σ H2 s2 → RelV x v → RelV y u → R x y H2 → wpAny (model X.prog X.w) X.A (f v u) Q X.xe s2) :
    wpAny (model X.prog X.w) X.A (eval a X.env) (fun v s₁ => wpAny (model X.prog X.w) X.A (eval b X.env) (fun u s₂ => wpAny (model X.prog X.w) X.A (f v u) Q X.xe s₂) X.xe s₁) X.xe s := by
  refine thn (ha pins s σ H _ I h) fun v s1 ⟨x, H1, I1, r1, q1⟩ => ?_
  refine thn (hb pins s1 σ H1 _ I1 q1) fun u s2 ⟨y, H2, I2, r2, q2⟩ => ?_
  exact hf v u s2 x y H2 I2 r1 r2 q2

/-! ### names and constants -/
def tVar (i : Nat) : TE := fun σ H Q => ∃ v, σ[i]? = some (some v) ∧ Q v H
def tC (v : V) : TE := fun _ H Q => Q v H
theorem pe_var {i : Nat} {x : Str} {pos : Pos} (hN : X.N[i]? = some x) (hv : Vis X.env.scope x) (hd : (x == ("__debug__" : Str)) = false := by decide) (hcd : (x == ("__classdict__" : Str)) = false := by decide) : PE X (.Name x pos) (tVar i) := by
  intro pins s σ H Q I h
  obtain ⟨v, e, h⟩ := h
  obtain ⟨m, hn, hl⟩ := I.loc
  obtain ⟨u, r, l⟩ := hl i x v hN e hv
  have fin : EP X pins σ Q u s := ⟨v, H, I, r, h⟩
  rcases l with ⟨hk, hm⟩ | ⟨hk, c, hc, hcell⟩
  · exact wpAny_Name (wpAny_loadName_local I.ok.kind hk hn hm fin) hd
  · rcases hk with hk | hk
    · exact wpAny_Name (wpAny_loadName_cell I.ok.kind hk hc hcell fin) hd
    · exact wpAny_Name (wpAny_loadName_free I.ok.kind hk hc hcell fin hcd) hd
theorem pe_int {i j pos} : PE X (.Constant (.int i) j pos) (tC (.int i)) := fun _ _ _ H _ I h => wpAny_Constant_int ⟨.int i, H, I.tok _, ⟨_, rfl⟩, h⟩
theorem pe_bl {b j pos} : PE X (.Constant (.bool b) j pos) (tC (.bl b)) := fun _ _ _ H _ I h => Constant_bool ⟨.bl b, H, I, rfl, h⟩
theorem pe_non {j pos} : PE X (.Constant .none j pos) (tC .non) := fun _ _ _ H _ I h => Constant_none ⟨.non, H, I, rfl, h⟩
theorem pe_str {x j pos} : PE X (.Constant (.str x) j pos) (tC (.str x)) := fun _ _ _ H _ I h => Calls.Constant_str ⟨.str x, H, I.tok _, ⟨_, rfl⟩, h⟩

/-- a global name of the def -/
def Gl (X : Cx) (x : Str) : Prop := X.env.kindOf x = some .globalImplicit
theorem ld_glob {E : Value → Shared → Prop} {pins : List (Addr × Obj)} {s : Shared} {σ : St} {H : Hp} {x : Str} {u : Value} {pos : Pos} {Q : Value → Shared → Prop} (I : Inv X pins σ H s) (hg : Gl X x) (hm : X.mg x = some u) (h : Q u s)
    (hd : (x == ("__debug__" : Str)) = false := by decide) : wpAny (model X.prog X.w) X.A (eval (.Name x pos) X.env) Q E s :=
  Calls.Name_function_global I.ok.kind hg (Calls.loadGlobal_global (by rw [I.ok.glob]; exact I.mod.glob.keeps I.bk) hm h) hd
theorem ld_blt {E : Value → Shared → Prop} {pins : List (Addr × Obj)} {s : Shared} {σ : St} {H : Hp} {x : Str} {u : Value} {pos : Pos} {Q : Value → Shared → Prop} (I : Inv X pins σ H s) (hg : Gl X x) (hm : X.mg x = none) (hv : bootBuiltins x = some u) (h : Q u s)
    (hn : x ≠ "__name__" := by decide) (hd : (x == ("__debug__" : Str)) = false := by decide) : wpAny (model X.prog X.w) X.A (eval (.Name x pos) X.env) Q E s := by
  obtain ⟨mb, h1, h2⟩ := I.mod.blt
  exact Calls.Name_function_global I.ok.kind hg (Calls.loadGlobal_builtin (by rw [I.ok.glob]; exact I.mod.glob.keeps I.bk) hm (by rw [I.ok.blt]; exact h1.keeps I.bk) ((h2 x hn).trans hv) h) hd
/-- a module's constant, a class, a function, as a value -/
theorem pe_glob {x : Str} {v : V} {u : Value} {pos : Pos} (hg : Gl X x) (hm : X.mg x = some u) (r : RelV v u) (hd : (x == ("__debug__" : Str)) = false := by decide) : PE X (.Name x pos) (tC v) :=
  fun _ _ _ H _ I h => ld_glob I hg hm ⟨v, H, I, r, h⟩ hd
theorem pe_bltn {x : Str} {v : V} {u : Value} {pos : Pos} (hg : Gl X x) (hm : X.mg x = none) (hv : bootBuiltins x = some u) (r : RelV v u) (hn : x ≠ "__name__" := by decide) (hd : (x == ("__debug__" : Str)) = false := by decide) : PE X (.Name x pos) (tC v) :=
  fun _ _ _ H _ I h => ld_blt I hg hm hv ⟨v, H, I, r, h⟩ hn hd

/-! ### arithmetic -/
/-- two ints -/
def t2I (ta tb : TE) (k : Int → Int → Hp → Prop) : St → Hp → Prop := fun σ H => ta σ H fun x H1 => tb σ H1 fun y H2 => ∃ i j, x = .int i ∧ y = .int j ∧ k i j H2
def tAdd (ta tb : TE) : TE := fun σ H Q => t2I ta tb (fun i j H2 => Q (.int (i + j)) H2) σ H
def tSub (ta tb : TE) : TE := fun σ H Q => t2I ta tb (fun i j H2 => Q (.int (i - j)) H2) σ H
/-- the left factor below 2^64 -/
def tMul (ta tb : TE) : TE := fun σ H Q => t2I ta tb (fun i j H2 => (-(2 ^ 64) < i ∧ i < 2 ^ 64) ∧ Q (.int (i * j)) H2) σ H
variable {a b : Expr} {ta tb : TE} {pos : Pos}
/-! ### comparisons -/
def PC (X : Cx) (op : CmpOp) (a b : Expr) (t : TE) : Prop :=
  ∀ (pins : List (Addr × Obj)) (s : Shared) (σ : St) (H : Hp) (Q : VK), Inv X pins σ H s → t σ H Q →
    wpAny (model X.prog X.w) X.A (eval a X.env) (fun v s₁ => wpAny (model X.prog X.w) X.A (eval b X.env) (fun u s₂ => wpAny (model X.prog X.w) X.A (compareOp op v u) (EP X pins σ Q) X.xe s₂) X.xe s₁) X.xe s
def tCmp (p : Int → Int → Bool) (ta tb : TE) : TE := fun σ H Q => t2I ta tb (fun i j H2 => Q (.bl (p i j)) H2) σ H
abbrev tLt : TE → TE → TE := tCmp fun i j => decide (i < j)
abbrev tLe : TE → TE → TE := tCmp fun i j => decide (i ≤ j)
abbrev tGt : TE → TE → TE := tCmp fun i j => decide (j < i)
abbrev tGe : TE → TE → TE := tCmp fun i j => decide (j ≤ i)
abbrev tEqI : TE → TE → TE := tCmp fun i j => decide (i = j)
abbrev tNeI : TE → TE → TE := tCmp fun i j => !decide (i = j)
/-- is None -/
def tIsN (ta : TE) : TE := fun σ H Q => ta σ H fun x H1 => Q (.bl (decide (x = .non))) H1
def tNotN (ta : TE) : TE := fun σ H Q => ta σ H fun x H1 => Q (.bl (!decide (x = .non))) H1
/-- a comparison as a value, as a test -/
def tB (t : TE) : TT := fun σ H Q => t σ H fun x H1 => ∃ c, x = .bl c ∧ Q c H1
theorem pt_cmp {op : CmpOp} {t : TE} (h : PC X op a b t) (h1 : behindInMarks op b = false := by first | exact nobehind _ (by decide) (by decide) | rfl) : PT X (.Compare a [op] [b] pos) (tB t) := by
  intro pins s σ H Q I hw
  refine wpAny_isTrue_Compare1 (thn (h pins s σ H _ I hw) fun v s1 h1 => thn h1 fun u s2 h2 => thn h2 fun c s3 ⟨x, H1, I1, r1, q1⟩ => ?_) h1
  obtain ⟨d, rfl, q⟩ := q1
  cases r1
  exact wpAny_truthy_bool ⟨H1, I1, q⟩
/-- an expression whose value is a bool, as a test -/
theorem pt_val {e : Expr} {t : TE} (h : PE X e t) (he : ∀ whole, isTrue e X.env whole = (do let v ← whole; standAt e.pos; holding [v] (truthy v)) := by intro _; rfl) : PT X e (tB t) := by
  intro pins s σ H Q I hw
  refine isTrue_plain (thn (h pins s σ H _ I hw) fun v s1 ⟨x, H1, I1, r1, q1⟩ => ?_) (he _)
  obtain ⟨d, rfl, q⟩ := q1
  cases r1
  exact wpAny_truthy_bool ⟨H1, I1, q⟩

/-! ### and, or, not -/
variable {tA tB' : TT} {rest : List Expr}
def tAnd (t u : TT) : TT := fun σ H Q => t σ H fun c H1 => if c = true then u σ H1 Q else Q false H1
def tOr (t u : TT) : TT := fun σ H Q => t σ H fun c H1 => if c = true then Q true H1 else u σ H1 Q
def tNot (t : TT) : TT := fun σ H Q => t σ H fun c H1 => Q (!c) H1
theorem pw_and1 (ha : PT X a tA) : PW X (.BoolOp .And [a] pos) tA := by
  intro wh pins s σ H Q I h
  refine isTrue_and (thn (ha pins s σ H Q I h) fun c s1 e => ?_)
  cases c with
  | true => exact isTrue_and_nil e
  | false => exact e
theorem pw_or1 (ha : PT X a tA) : PW X (.BoolOp .Or [a] pos) tA := by
  intro wh pins s σ H Q I h
  refine isTrue_or (thn (ha pins s σ H Q I h) fun c s1 e => ?_)
  cases c with
  | false => exact isTrue_or_nil e
  | true => exact e
theorem pw_and (ha : PT X a tA) (hb : PW X (.BoolOp .And (b :: rest) pos) tB') : PW X (.BoolOp .And (a :: b :: rest) pos) (tAnd tA tB') := by
  intro wh pins s σ H Q I h
  refine isTrue_and (thn (ha pins s σ H _ I h) fun c s1 ⟨H1, I1, q1⟩ => ?_)
  cases c with
  | true => exact hb wh pins s1 σ H1 Q I1 q1
  | false => exact ⟨H1, I1, q1⟩
theorem pw_or (ha : PT X a tA) (hb : PW X (.BoolOp .Or (b :: rest) pos) tB') : PW X (.BoolOp .Or (a :: b :: rest) pos) (tOr tA tB') := by
  intro wh pins s σ H Q I h
  refine isTrue_or (thn (ha pins s σ H _ I h) fun c s1 ⟨H1, I1, q1⟩ => ?_)
  cases c with
  | true => exact ⟨H1, I1, q1⟩
  | false => exact hb wh pins s1 σ H1 Q I1 q1
theorem pt_not (ha : PT X a tA) : PT X (.UnaryOp .Not a pos) (tNot tA) := by
  intro pins s σ H Q I h
  exact isTrue_not (ha pins s σ H (fun c H1 => Q (!c) H1) I h)
/-- .. as values (bools) -/
def tAndV (ta tb : TE) : TE := fun σ H Q => ta σ H fun x H1 => ∃ c, x = .bl c ∧ if c = true then tb σ H1 Q else Q (.bl false) H1
def tOrV (ta tb : TE) : TE := fun σ H Q => ta σ H fun x H1 => ∃ c, x = .bl c ∧ if c = true then Q (.bl true) H1 else tb σ H1 Q
def tNotV (ta : TE) : TE := fun σ H Q => ta σ H fun x H1 => ∃ c, x = .bl c ∧ Q (.bl (!c)) H1
theorem pe_one {op} {t : TE} (h : PE X a t) : PE X (.BoolOp op [a] pos) t := fun pins s σ H Q I hw => BoolOp_one (h pins s σ H Q I hw)
theorem pe_and (ha : PE X a ta) (hb : PE X (.BoolOp .And (b :: rest) pos) tb) : PE X (.BoolOp .And (a :: b :: rest) pos) (tAndV ta tb) := by
  intro pins s σ H Q I h
  refine BoolOp_and (thn (ha pins s σ H _ I h) fun v s1 ⟨x, H1, I1, r1, q1⟩ => ?_)
  obtain ⟨c, rfl, q1⟩ := q1
  cases r1
  refine wpAny_truthy_bool ?_
  cases c with
  | true => exact hb pins s1 σ H1 Q I1 q1
  | false => exact ⟨.bl false, H1, I1, rfl, q1⟩
theorem pe_not (ha : PE X a ta) : PE X (.UnaryOp .Not a pos) (tNotV ta) := by
  intro pins s σ H Q I h
  refine UnaryOp_ (thn (ha pins s σ H _ I h) fun v s1 ⟨x, H1, I1, r1, q1⟩ => ?_)
  obtain ⟨c, rfl, q1⟩ := q1
  cases r1
  exact not_of (wpAny_truthy_bool ⟨.bl (!c), H1, I1, rfl, q1⟩)
/-- a if t else b -/
def tIf (t : TT) (ta tb : TE) : TE := fun σ H Q => t σ H fun c H1 => if c = true then ta σ H1 Q else tb σ H1 Q
theorem pe_ifExp {c : Expr} (hc : PT X c tA) (ha : PE X a ta) (hb : PE X b tb) : PE X (.IfExp c a b pos) (tIf tA ta tb) := by
  intro pins s σ H Q I h
  refine wpAny_IfExp (thn (hc pins s σ H _ I h) fun d s1 ⟨H1, I1, q1⟩ => ?_)
  cases d with
  | true => exact ha pins s1 σ H1 Q I1 q1
  | false => exact hb pins s1 σ H1 Q I1 q1
end
end L2

namespace L2
open PySem PySem.Spec PyProof.Rows

/-! ### a list, a tuple that is read: tracked, frozen, or an object of the module -/
def SqL (K : PySem.W.Frag) (H : Hp) (a : Addr) (xs : List V) : Prop :=
  Rd H a (.lst xs) ∨
    ∃ (o : Obj) (its : Array Value) (n : Nat), K.lookup a = some o ∧ o.cls = .type "list" ∧ o.dict = none ∧ o.data = .seq its n ∧ its.size ≤ sizeLine ∧ Vals xs its.toList
def SqT (K : PySem.W.Frag) (H : Hp) (a : Addr) (xs : List V) : Prop :=
  Rd H a (.tup xs) ∨
    ∃ (o : Obj) (its : Array Value) (n : Nat), K.lookup a = some o ∧ o.cls = .type "tuple" ∧ o.data = .seq its n ∧ its.size ≤ sizeLine ∧ Vals xs its.toList
def absV : Value → Option V
  | .none => some .non
  | .bool b => some (.bl b)
  | .int i _ => some (.int i)
  | .str x _ => some (.str x)
  | .bytes b _ => some (.byt b)
  | .float b _ => some (.flt b)
  | .ref a => some (.ref a)
  | .type n => some (.ty n)
  | _ => none
theorem RelV.abs {x : V} {u : Value} (r : RelV x u) : absV u = some x := by
  cases x with
  | non => cases r; rfl
  | bl _ => cases r; rfl
  | int _ => obtain ⟨t, rfl⟩ := r; rfl
  | str _ => obtain ⟨t, rfl⟩ := r; rfl
  | byt _ => obtain ⟨t, rfl⟩ := r; rfl
  | flt _ => obtain ⟨t, rfl⟩ := r; rfl
  | ref _ => cases r; rfl
  | ty _ => cases r; rfl
theorem RelV.inj {x y : V} {u : Value} (r : RelV x u) (q : RelV y u) : x = y := Option.some.inj (r.abs.symm.trans q.abs)
theorem Vals.inj : ∀ {xs ys : List V} {us : List Value}, Vals xs us → Vals ys us → xs = ys
  | _, _, _, .nil, .nil => rfl
  | _, _, _, .cons r t, .cons r' t' => by rw [r.inj r', Vals.inj t t']
section
variable {X : Cx} {pins : List (Addr × Obj)} {σ : St} {H : Hp} {s : Shared} {a : Addr} {xs ys : List V}
theorem SqL.of {K : PySem.W.Frag} (h : H a = some (.lst xs)) : SqL K H a xs := .inl (.inl h)
theorem SqT.of {K : PySem.W.Frag} (h : H a = some (.tup xs)) : SqT K H a xs := .inl (.inl h)
theorem Inv.list (I : Inv X pins σ H s) (h : SqL X.K H a xs) : ∃ its : List Value, Vals xs its ∧ PlainL s.heap a its.toArray ∧ xs.length ≤ sizeLine := by
  rcases h with h | ⟨o, its, n, hk, hc, hd, hs, hz, r⟩
  · obtain ⟨z, its, n, r, e⟩ := h.ok I.hok
    exact ⟨its, r, ⟨_, n, e, rfl, rfl, rfl⟩, z⟩
  · refine ⟨its.toList, r, ⟨o, n, I.kIn a o hk, hc, hd, by simpa using hs⟩, ?_⟩
    have e := r.length
    simp only [Array.length_toList] at e
    omega
theorem Inv.tuple (I : Inv X pins σ H s) (h : SqT X.K H a xs) : ∃ its : List Value, Vals xs its ∧ IsTup s.heap a its.toArray ∧ xs.length ≤ sizeLine := by
  rcases h with h | ⟨o, its, n, hk, hc, hs, hz, r⟩
  · obtain ⟨z, its, r, p⟩ := h.ok I.hok
    exact ⟨its, r, p, z⟩
  · refine ⟨its.toList, r, ⟨o, I.kIn a o hk, hc, n, by simpa using hs⟩, ?_⟩
    have e := r.length
    simp only [Array.length_toList] at e
    omega
theorem Inv.list_inj (I : Inv X pins σ H s) (h : SqL X.K H a xs) (h' : SqL X.K H a ys) : xs = ys := by
  obtain ⟨its, r, ⟨o, n, e, _, _, d⟩, _⟩ := I.list h
  obtain ⟨its', r', ⟨o', n', e', _, _, d'⟩, _⟩ := I.list h'
  rw [e] at e'; cases e'
  rw [d] at d'
  injection d' with d1 _
  have : its = its' := by simpa using congrArg Array.toList d1
  subst this
  exact r.inj r'
theorem Inv.tuple_inj (I : Inv X pins σ H s) (h : SqT X.K H a xs) (h' : SqT X.K H a ys) : xs = ys := by
  obtain ⟨its, r, ⟨o, e, _, n, d⟩, _⟩ := I.tuple h
  obtain ⟨its', r', ⟨o', e', _, n', d'⟩, _⟩ := I.tuple h'
  rw [e] at e'; cases e'
  rw [d] at d'
  injection d' with d1 _
  have : its = its' := by simpa using congrArg Array.toList d1
  subst this
  exact r.inj r'
end

/-! ### another wish about exceptions -/
abbrev Cx.wish (X : Cx) (E : Value → Shared → Prop) : Cx := { X with xe := E }
/-- no exception leaves -/
abbrev Cx.nox (X : Cx) : Cx := X.wish fun _ _ => False
theorem Cx.Ok.wish {X : Cx} (ok : X.Ok) (E : Value → Shared → Prop) : (X.wish E).Ok :=
  ⟨ok.mod, ok.kind, ok.glob, ok.blt, ok.above, ok.inj, ok.has, ok.cab, ok.hd, ok.frames, ok.stk, ok.exf, ok.bs, ok.bsz, ok.noex, ok.exfs, ok.funs, ok.frf⟩
theorem Cx.Ok.unwish {X : Cx} {E : Value → Shared → Prop} (ok : (X.wish E).Ok) : X.Ok :=
  ⟨ok.mod, ok.kind, ok.glob, ok.blt, ok.above, ok.inj, ok.has, ok.cab, ok.hd, ok.frames, ok.stk, ok.exf, ok.bs, ok.bsz, ok.noex, ok.exfs, ok.funs, ok.frf⟩
section
variable {X : Cx} {pins : List (Addr × Obj)} {σ : St} {H : Hp} {s : Shared} {E : Value → Shared → Prop}
theorem Inv.wish (I : Inv X pins σ H s) (E : Value → Shared → Prop) : Inv (X.wish E) pins σ H s := ⟨I.ok.wish E, I.os, I.bare, I.base, I.loc, I.cell, I.free, I.freeC, I.pin, I.hok, I.len⟩
theorem Inv.unwish (I : Inv (X.wish E) pins σ H s) : Inv X pins σ H s := ⟨I.ok.unwish, I.os, I.bare, I.base, I.loc, I.cell, I.free, I.freeC, I.pin, I.hok, I.len⟩
theorem SP.unwish {D : Ends} {f : Flow} {s' : Shared} (h : SP (X.wish E) pins D f s') : SP X pins D f s' := by
  cases f with
  | next => obtain ⟨σ', H', I, q⟩ := h; exact ⟨σ', H', I.unwish, q⟩
  | brk => obtain ⟨σ', H', I, q⟩ := h; exact ⟨σ', H', I.unwish, q⟩
  | cont => obtain ⟨σ', H', I, q⟩ := h; exact ⟨σ', H', I.unwish, q⟩
  | ret u => obtain ⟨v, σ', H', I, r, q⟩ := h; exact ⟨v, σ', H', I.unwish, r, q⟩
theorem PSs.nox {st : List Stmt} {t : TS} (h : PSs X.nox st t) : PSs X st t := fun pins s σ H D I hw =>
  wpAny_mono (h pins s σ H D (I.wish _) hw) (fun _ _ q => q.unwish) fun _ _ z => False.elim z
end

/-! ### blocks and small statements -/
section
variable {X : Cx} {st : Stmt} {rest : List Stmt} {t u : TS} {e : Expr} {te : TE} {pos : Pos}
def tNext : TS := fun D σ H => D.nx σ H
def tSeq (t u : TS) : TS := fun D σ H => t { D with nx := u D } σ H
theorem pss_nil : PSs X [] tNext := fun _ _ σ H _ I h => wpAny_execs_nil ⟨σ, H, I, h⟩
theorem pss_cons (h1 : PS X st t) (h2 : PSs X rest u) : PSs X (st :: rest) (tSeq t u) := by
  intro pins s σ H D I h
  refine wpAny_execs_cons (thn (h1 pins s σ H { D with nx := u D } I h) fun f s1 q => ?_)
  cases f with
  | next =>
    obtain ⟨σ', H', I', q⟩ := q
    exact h2 pins s1 σ' H' D I' q
  | ret v => exact q
  | brk => exact q
  | cont => exact q
theorem pss_one (h1 : PS X st t) : PSs X [st] t := by
  intro pins s σ H D I h
  refine wpAny_execs_cons (thn (h1 pins s σ H D I h) fun f s1 q => ?_)
  cases f with
  | next => exact wpAny_execs_nil q
  | ret v => exact q
  | brk => exact q
  | cont => exact q
def tBreak : TS := fun D σ H => D.bk σ H
def tCont : TS := fun D σ H => D.ct σ H
/-- in a def's body nothing is shown -/
theorem Inv.quiet {pins : List (Addr × Obj)} {σ : St} {H : Hp} {s : Shared} (I : Inv X pins σ H s) : interactive X.env = false := by simp [interactive, I.ok.kind]
/-- an expression whose value is dropped -/
def tDrop (te : TE) : TS := fun D σ H => te σ H fun _ H1 => D.nx σ H1
theorem ps_expr (he : PE X e te) (hs : swapsWith e none pos.line X.env = pure false := by rfl) : PS X (.Expr e pos) (tDrop te) := by
  intro pins s σ H D I h
  exact wpAny_Expr_any (thn (he pins s σ H _ I h) fun v s1 ⟨x, H1, I1, r1, q1⟩ => ⟨σ, H1, I1, q1⟩) I.quiet hs
def tRet (te : TE) : TS := fun D σ H => te σ H D.rt
theorem ps_ret (he : PE X e te) : PS X (.Return (some e) pos) (tRet te) := by
  intro pins s σ H D I h
  exact wpAny_Return_some (thn (he pins s σ H _ I h) fun v s1 ⟨x, H1, I1, r1, q1⟩ => ⟨x, σ, H1, I1, r1, q1⟩)
def tRetN : TS := fun D _ H => D.rt .non H
def tIfS (c : TT) (t u : TS) : TS := fun D σ H => c σ H fun b H1 => if b = true then t D σ H1 else u D σ H1
theorem ps_if {c : Expr} {a b : List Stmt} {tc : TT} (hc : PT X c tc) (ha : PSs X a t) (hb : PSs X b u) : PS X (.If c a b pos) (tIfS tc t u) := by
  intro pins s σ H D I h
  refine wpAny_If (thn (hc pins s σ H _ I h) fun d s1 ⟨H1, I1, q1⟩ => ?_)
  cases d with
  | true => exact ha pins s1 σ H1 D I1 q1
  | false => exact hb pins s1 σ H1 D I1 q1
/-- code that the proof never comes to -/
def tNever : TS := fun _ _ _ => False
end

/-! ### targets -/
abbrev TG := V → St → Hp → (St → Hp → Prop) → Prop
abbrev TGs := List V → St → Hp → (St → Hp → Prop) → Prop
def PG (X : Cx) (target : Expr) (t : TG) : Prop :=
  ∀ (pins : List (Addr × Obj)) (s : Shared) (σ : St) (H : Hp) (v : V) (u : Value) (Q : St → Hp → Prop), Inv X pins σ H s → RelV v u → t v σ H Q →
    wpAny (model X.prog X.w) X.A (assign target X.env u) (fun _ s' => ∃ σ' H', Inv X pins σ' H' s' ∧ Q σ' H') X.xe s
/-- several targets, one after another -/
def PGs (X : Cx) (ts : List Expr) (t : TGs) : Prop :=
  ∀ (pins : List (Addr × Obj)) (s : Shared) (σ : St) (H : Hp) (vs : List V) (us : List Value) (Q : St → Hp → Prop), Inv X pins σ H s → Vals vs us → t vs σ H Q →
    wpAny (model X.prog X.w) X.A (assignInOrder ((assignEach ts X.env).map (·.2)) us) (fun _ s' => ∃ σ' H', Inv X pins σ' H' s' ∧ Q σ' H') X.xe s
/-- o[i] = v, by values -/
abbrev TSet := V → V → V → Hp → (Hp → Prop) → Prop
def PSet (X : Cx) (t : TSet) : Prop :=
  ∀ (pins : List (Addr × Obj)) (s : Shared) (σ : St) (H : Hp) (o i v : V) (ov iv u : Value) (Q : Hp → Prop), Inv X pins σ H s → RelV o ov → RelV i iv → RelV v u → t o i v H Q →
    wpAny (model X.prog X.w) X.A (setItem ov iv u) (fun _ s' => ∃ H', Inv X pins σ H' s' ∧ Q H') X.xe s
/-- a op= b, by values -/
abbrev TIp := V → V → Hp → VK → Prop
def PIp (X : Cx) (op : Operator) (t : TIp) : Prop :=
  ∀ (pins : List (Addr × Obj)) (s : Shared) (σ : St) (H : Hp) (x y : V) (v u : Value) (Q : VK), Inv X pins σ H s → RelV x v → RelV y u → t x y H Q →
    wpAny (model X.prog X.w) X.A (inplaceOp op v u) (EP X pins σ Q) X.xe s
section
variable {X : Cx} {pos : Pos}
def gName (i : Nat) : TG := fun v σ H Q => Q (σ.set i (some v)) H
theorem pg_name {i : Nat} {x : Str} (hN : X.N.Nodup) (hi : X.N[i]? = some x) (hx : Loc X.env.scope x) (hf : X.fn x = true ∨ X.env.scope.names.lookup x = some .local := by first | exact .inl rfl | exact .inr rfl | assumption) : PG X (.Name x pos) (gName i) := by
  intro pins s σ H v u Q I r h
  exact wpAny_assign_Name (store_ok I hN hi hx r (fun s' I' => ⟨_, H, I', h⟩) hf)
def gNil : TGs := fun vs σ H Q => vs = [] ∧ Q σ H
def gCons (t : TG) (u : TGs) : TGs := fun vs σ H Q => ∃ v r, vs = v :: r ∧ t v σ H fun σ' H' => u r σ' H' Q
theorem pgs_nil : PGs X [] gNil := by
  intro pins s σ H vs us Q I r h
  obtain ⟨e, h⟩ := h
  subst e
  cases r
  exact assignInOrder_nil ⟨σ, H, I, h⟩
theorem pgs_cons {e : Expr} {es : List Expr} {t : TG} {u : TGs} (h1 : PG X e t) (h2 : PGs X es u)
    (hs : (assignEach (e :: es) X.env).map (·.2) = assign e X.env :: (assignEach es X.env).map (·.2) := by rfl) : PGs X (e :: es) (gCons t u) := by
  intro pins s σ H vs us Q I r h
  obtain ⟨v, vr, e1, h⟩ := h
  subst e1
  cases r with
  | cons r rr =>
    rw [hs]
    refine assignInOrder_cons (thn (h1 pins s σ H _ _ _ I r h) fun _ s1 ⟨σ1, H1, I1, q1⟩ => ?_)
    exact h2 pins s1 σ1 H1 _ _ Q I1 rr q1
/-- (a, b, ..) = a tuple of that length -/
def gTup (K : PySem.W.Frag) (n : Nat) (t : TGs) : TG := fun v σ H Q => ∃ a xs, v = .ref a ∧ SqT K H a xs ∧ xs.length = n ∧ t xs σ H Q
theorem pg_tup {es : List Expr} {k : Nat} {t : TGs} {n : Nat} (hc : X.calm = true) (h : PGs X es t)
    (hn : (assignEach es X.env).length = n := by rfl) (hst : (assignEach es X.env).findIdx? (·.1) = none := by rfl) : PG X (.Tuple es k pos) (gTup X.K n t) := by
  intro pins s σ H v u Q I r hw
  obtain ⟨a, xs, e1, hq, hl, hw⟩ := hw
  subst e1
  cases r
  obtain ⟨its, rv, ht, hz⟩ := I.tuple hq
  refine assign_Tuple_tuple (I.ok.hd hc) ht (by simp [hn, ← hl, rv.length]) hst fun h' hx => ?_
  have I1 : Inv X pins σ H { s with heap := h' } := I.kept (t' := s.toks) fun b o e => hx b o (Nat.ne_of_lt (Heap.lt_size e)) e
  exact h pins _ σ H xs _ Q I1 (by simpa using rv) hw
/-- o[i] = .. -/
def gSub (to ti : TE) (t : TSet) : TG := fun v σ H Q => to σ H fun o H1 => ti σ H1 fun i H2 => t o i v H2 fun H3 => Q σ H3
theorem pg_sub {o i : Expr} {to ti : TE} {t : TSet} (ho : PE X o to) (hi : PE X i ti) (hs : PSet X t)
    (ha : ∀ v, assign (.Subscript o i pos) X.env v = (do
      let ov ← holding [v] (eval o X.env)
      let iv ← holding [v, ov] (eval i X.env)
      standAt pos
      holding [v, ov, iv] (setItem ov iv v)
      release [v, ov, iv] []) := by intro _; rfl) : PG X (.Subscript o i pos) (gSub to ti t) := by
  intro pins s σ H v u Q I r h
  rw [ha]
  refine wpAny_bind (wpAny_holding (thn (ho pins s σ H _ I h) fun ov s1 ⟨x, H1, I1, r1, q1⟩ => ?_))
  refine wpAny_bind (wpAny_holding (thn (hi pins s1 σ H1 _ I1 q1) fun iv s2 ⟨y, H2, I2, r2, q2⟩ => ?_))
  refine wpAny_bind (wpAny_standAt (wpAny_bind (wpAny_holding (thn (hs pins s2 σ H2 x y v ov iv u _ I2 r1 r2 r q2) fun _ s3 ⟨H3, I3, q3⟩ => ?_))))
  exact wpAny_release ⟨σ, H3, I3, q3⟩
/-- target = value -/
def tAsg (te : TE) (g : TG) : TS := fun D σ H => te σ H fun x H1 => g x σ H1 D.nx
theorem ps_asg {tg e : Expr} {te : TE} {g : TG} (he : PE X e te) (hg : PG X tg g) (hs : swapsWithSole [tg] e pos.line X.env = pure false := by rfl) (hw : swappedStores [tg] e X.env = pure none := by rfl)
    (h1 : (assignEach [tg] X.env).map (·.2) = [assign tg X.env] := by rfl) : PS X (.Assign [tg] e pos) (tAsg te g) := by
  intro pins s σ H D I h
  refine wpAny_Assign_stores (thn (he pins s σ H _ I h) fun v s1 ⟨x, H1, I1, r1, q1⟩ => ?_) hs hw
  rw [h1]
  exact thn (hg pins s1 σ H1 x v _ I1 r1 q1) fun _ s2 q => q
/-- name = value -/
theorem ps_set {i : Nat} {x : Str} {e : Expr} {te : TE} {pos' : Pos} (hN : X.N.Nodup) (hi : X.N[i]? = some x) (hx : Loc X.env.scope x) (he : PE X e te) (hs : swapsWith e (some (.Name x pos')) pos.line X.env = pure false := by rfl) (hf : X.fn x = true ∨ X.env.scope.names.lookup x = some .local := by first | exact .inl rfl | exact .inr rfl | assumption) :
    PS X (.Assign [.Name x pos'] e pos) (tAsg te (gName i)) := by
  intro pins s σ H D I h
  refine wpAny_Assign_Name (thn (he pins s σ H _ I h) fun v s1 ⟨y, H1, I1, r1, q1⟩ => ?_) hs
  exact store_ok I1 hN hi hx r1 (fun s2 I2 => ⟨_, H1, I2, q1⟩) hf
/-- a, b = x, y with plain local names: stored from the right; the pair itself is not tracked (the opening rows as in PyProof/Rows/TupAssign.lean:23) -/
def tPar (i j : Nat) (ta : TA) : TS := fun D σ H => ta σ H fun vs H1 => ∃ v w, vs = [v, w] ∧ D.nx ((σ.set i (some v)).set j (some w)) H1
/-- name op= e -/
def tAug (i : Nat) (te : TE) (ti : TIp) : TS := fun D σ H => ∃ x, σ[i]? = some (some x) ∧ te σ H fun y H1 => ti x y H1 fun z H2 => D.nx (σ.set i (some z)) H2
/-- o[i] op= e -/
def tAugS (to ti te : TE) (tget : V → V → Hp → VK → Prop) (tip : TIp) (tset : TSet) : TS := fun D σ H => to σ H fun o H1 => ti σ H1 fun i H2 => tget o i H2 fun x H3 => te σ H3 fun y H4 => tip x y H4 fun z H5 => tset o i z H5 fun H6 => D.nx σ H6
/-- o[i], by values -/
def PGet (X : Cx) (t : V → V → Hp → VK → Prop) : Prop :=
  ∀ (pins : List (Addr × Obj)) (s : Shared) (σ : St) (H : Hp) (o i : V) (ov iv : Value) (Q : VK), Inv X pins σ H s → RelV o ov → RelV i iv → t o i H Q →
    wpAny (model X.prog X.w) X.A (getItem ov iv) (EP X pins σ Q) X.xe s
/-- ints -/
def ipI (f : Int → Int → Int) : TIp := fun x y H Q => ∃ i j, x = .int i ∧ y = .int j ∧ Q (.int (f i j)) H
end

/-! ### while -/
section
variable {X : Cx} {pos : Pos}
/-- the invariant W with its measure -/
def tWhile (c : TT) (tb : TS) : TS := fun D σ H => ∃ W : Nat → St → Hp → Prop, (∃ m, W m σ H) ∧ ∀ m σ H, W m σ H →
  c σ H fun b H1 => if b = true then ∃ N : St → Hp → Prop, (∀ σ' H', N σ' H' → ∃ m', m' < m ∧ W m' σ' H') ∧ tb { D with nx := N, ct := N, bk := D.nx } σ H1 else D.nx σ H1
theorem ps_while {c : Expr} {body : List Stmt} {tc : TT} {tb : TS} (hp : PassesOwn (model X.prog X.w) X.A X.env X.xe) (hc : PT X c tc) (hb : PSs X body tb) : PS X (.While c body [] pos) (tWhile tc tb) := by
  intro pins s σ H D I h
  obtain ⟨W, ⟨m0, w0⟩, turn⟩ := h
  refine wpAny_While (codeAny_whileLoop (fun n s' => ∃ σ' H', Inv X pins σ' H' s' ∧ W n σ' H') ?_ m0 ⟨σ, H, I, w0⟩)
  rintro n s1 ⟨σ1, H1, I1, w1⟩
  refine wpAny_passesOwn hp (thn (hc pins s1 σ1 H1 _ I1 (turn n σ1 H1 w1)) fun b s2 ⟨H2, I2, q2⟩ => ?_)
  cases b with
  | true =>
    obtain ⟨N, hN, q2⟩ := q2
    rw [if_pos rfl]
    refine wpAny_passesOwn hp (thn (hb pins s2 σ1 H2 _ I2 q2) fun f s3 q3 => ?_)
    cases f with
    | next =>
      obtain ⟨σ3, H3, I3, n3⟩ := q3
      obtain ⟨m', hm, w3⟩ := hN σ3 H3 n3
      exact ⟨m', hm, σ3, H3, I3, w3⟩
    | cont =>
      obtain ⟨σ3, H3, I3, n3⟩ := q3
      obtain ⟨m', hm, w3⟩ := hN σ3 H3 n3
      exact ⟨m', hm, σ3, H3, I3, w3⟩
    | brk => exact q3
    | ret v => exact q3
  | false =>
    rw [if_neg Bool.false_ne_true]
    exact wpAny_execs_nil ⟨σ1, H2, I2, q2⟩
end

/-! ### what a loop or a comprehension walks -/
/-- at turn i: it yields x (the heap may grow), or it stops -/
structure It where
  go : Nat → Hp → Prop
  yld : Nat → Hp → V → Hp → Prop
  stop : Nat → Hp → Prop
/-- the iterator's own objects may turn: they are not the frame's, not pinned, younger than the entry (or a comprehension's own) -/
def FpOk (X : Cx) (pins : List (Addr × Obj)) (H : Hp) (b : Addr) : Prop :=
  H b = none ∧ b ≠ X.env.locals ∧ b ∉ X.fs ∧ (b ∈ X.ex ∨ X.s₀.heap.objs.size ≤ b) ∧ (∀ x c, X.env.cells.lookup x = some c → c ≠ b) ∧ ∀ p ∈ X.pn ++ pins, p.1 ≠ b
theorem Inv.fpOk {X : Cx} {pins : List (Addr × Obj)} {σ : St} {H H' : Hp} {s : Shared} {b : Addr} (I : Inv X pins σ H s) (hb : s.heap.objs.size ≤ b) (hn : H' b = none) : FpOk X pins H' b := by
  refine ⟨hn, Nat.ne_of_gt (Nat.lt_of_lt_of_le I.lt hb), I.nofs hb, .inr (Nat.le_trans I.sz hb), fun x c e z => ?_, fun p hp z => ?_⟩
  · obtain ⟨v, q⟩ := I.cell x c e
    exact absurd (Nat.lt_of_lt_of_le q.lt (by rw [z]; exact hb)) (Nat.lt_irrefl _)
  · exact absurd (Nat.lt_of_lt_of_le (Heap.lt_size (I.pin p hp).1) (by rw [z]; exact hb)) (Nat.lt_irrefl _)
structure Turn (P : Program) (w : World) (K : PySem.W.Frag) (tg : Expr) (J : It) (fp : List Addr) (it : Addr) (tn : Nat → Heap → Prop) : Prop where
  mem : it ∈ fp
  obj : ∀ i h, tn i h → ∀ b ∈ fp, ∃ o, h.get? b = some o ∧ ∀ v, o.data ≠ .cell v
  keep : ∀ i h h', tn i h → (∀ b ∈ fp, ∀ o, h.get? b = some o → h'.get? b = some o) → tn i h'
  item : ∀ (X : Cx), X.prog = P → X.w = w → X.K = K → X.calm = true → ∀ (i : Nat) (pins : List (Addr × Obj)) (s : Shared) (σ : St) (H : Hp) (E : Value → Shared → Prop), Inv X pins σ H s → (∀ b ∈ fp, FpOk X pins H b) → tn i s.heap → J.go i H →
    wpAny (model P w) X.A (pyNext (.ref it)) (fun r s1 => ∃ u, r = some u ∧
      wpAny (model P w) X.A (letOwnedTupleGo tg (.ref it) u) (fun _ s2 => ∃ x H', Inv X pins σ H' s2 ∧ RelV x u ∧ J.yld i H x H' ∧ tn (i + 1) s2.heap ∧ ∀ b ∈ fp, H' b = none) E s1) E s
  done : ∀ (X : Cx), X.prog = P → X.w = w → X.K = K → X.calm = true → ∀ (i : Nat) (pins : List (Addr × Obj)) (s : Shared) (σ : St) (H : Hp) (E : Value → Shared → Prop), Inv X pins σ H s → (∀ b ∈ fp, FpOk X pins H b) → tn i s.heap → J.stop i H →
    wpAny (model P w) X.A (pyNext (.ref it)) (fun r s1 => r = none ∧ Inv X pins σ H s1) E s
  self : ∀ (A : Around) (i : Nat) (s : Shared) (Q : Value → Shared → Prop) (E : Value → Shared → Prop), tn i s.heap → Q (.ref it) s → wpAny (model P w) A (pyIter (.ref it)) Q E s
abbrev TI := St → Hp → (It → Hp → Prop) → Prop
/-- an iterator has come -/
def PIE (X : Cx) (pins : List (Addr × Obj)) (σ : St) (tg : Expr) (R : It → Hp → Prop) (itv : Value) (s2 : Shared) : Prop :=
  ∃ (it : Addr) (fp : List Addr) (tn : Nat → Heap → Prop) (J : It) (H' : Hp), itv = .ref it ∧ Inv X pins σ H' s2 ∧ Turn X.prog X.w X.K tg J fp it tn ∧ tn 0 s2.heap ∧ (∀ b ∈ fp, FpOk X pins H' b) ∧ R J H'
def PI (X : Cx) (tg iter : Expr) (wi : TI) : Prop :=
  ∀ (pins : List (Addr × Obj)) (s : Shared) (σ : St) (H : Hp) (R : It → Hp → Prop), Inv X pins σ H s → wi σ H R →
    wpAny (model X.prog X.w) X.A (eval iter X.env) (fun v s1 => wpAny (model X.prog X.w) X.A (pyIter v) (PIE X pins σ tg R) X.xe s1) X.xe s

/-- the step ahead of the store is nothing for an iterator that keeps no tuple -/
theorem go_of {M : Model} {A : Around} {E : Value → Shared → Prop} {s : Shared} {tg : Expr} {it : Addr} {u : Value} {o : Obj} {n : String} {vs : Array Value} {Q : Unit → Shared → Prop} (ho : s.heap.get? it = some o) (hc : o.cls = .type n) (hd : o.data = .fields vs)
    (hn : ["enumerate", "zip", "dict_itemiterator", "dict_reverseitemiterator", "odict_iterator", "itertools.zip_longest", "itertools.pairwise"].contains n = false) (hQ : Q () s) : wpAny M A (letOwnedTupleGo tg (.ref it) u) Q E s := by
  unfold letOwnedTupleGo
  cases tg <;> first
    | exact wpAny_pure hQ
    | (cases u <;> first
        | exact wpAny_pure hQ
        | (refine wpAny_bind (wpAny_load ho ?_)
           rw [hc, hd]
           show wpAny M A (if (["enumerate", "zip", "dict_itemiterator", "dict_reverseitemiterator", "odict_iterator", "itertools.zip_longest", "itertools.pairwise"].contains n && vs[0]? == some (rawInt _)) = true then _ else _) Q E s
           rw [if_neg (by intro h; rw [hn, Bool.false_and] at h; cases h)]
           exact wpAny_pure hQ))

/-- the list at a, as it stands at each turn (a loop may append to it) -/
def Itl (K : PySem.W.Frag) (a : Addr) : It :=
  ⟨fun i H => ∃ xs x, SqL K H a xs ∧ xs[i]? = some x, fun i H x H' => H' = H ∧ ∀ xs, SqL K H a xs → xs[i]? = some x, fun i H => ∃ xs, SqL K H a xs ∧ xs.length ≤ i⟩
def Itt (K : PySem.W.Frag) (a : Addr) : It :=
  ⟨fun i H => ∃ xs x, SqT K H a xs ∧ xs[i]? = some x, fun i H x H' => H' = H ∧ ∀ xs, SqT K H a xs → xs[i]? = some x, fun i H => ∃ xs, SqT K H a xs ∧ xs.length ≤ i⟩
/-- lo, lo + 1, .. (n of them) -/
def Itr (lo : Int) (n : Nat) : It := ⟨fun i _ => i < n, fun i H x H' => H' = H ∧ x = .int (lo + i), fun i _ => n ≤ i⟩
theorem turn_list {P : Program} {w : World} {K : PySem.W.Frag} {tg : Expr} (a it : Addr) : Turn P w K tg (Itl K a) [it] it (fun i h => h.IsListIter it a i) where
  mem := by simp
  obj := fun i h st b hb => by
    have e : b = it := by simpa using hb
    subst e
    obtain ⟨o, e, c, d⟩ := st
    exact ⟨o, e, fun v z => by rw [d] at z; cases z⟩
  keep := fun i h h' st k => st.at fun o e => k it (by simp) o e
  item := by
    intro X hP hw hK hc i pins s σ H E I hf st hg
    subst hP hw hK
    obtain ⟨xs, x, hq, hx⟩ := hg
    obtain ⟨its, rv, p, hz⟩ := I.list hq
    obtain ⟨u, hu, ru⟩ := rv.get hx
    obtain ⟨f0, f1, f2, f3, f4, f5⟩ := hf it (by simp)
    refine wpAny_pyNext_list_item st p.isList (x := u) (by simpa using hu) fun h' st' sb => ?_
    have I1 : Inv X pins σ H { s with heap := h' } := I.turned (t' := s.toks) (fun b o hb e => (sb.2 b hb).trans e) f0 f1 f3 f4 f5
    obtain ⟨o, e, c, d⟩ := id st'
    exact ⟨u, rfl, go_of (s := { s with heap := h' }) e c d (by decide) ⟨x, H, I1, ru, ⟨rfl, fun ys hy => by rw [I.list_inj hy hq]; exact hx⟩, st', fun b hb => (hf b hb).1⟩⟩
  done := by
    intro X hP hw hK hc i pins s σ H E I hf st hg
    subst hP hw hK
    obtain ⟨xs, hq, hx⟩ := hg
    obtain ⟨its, rv, p, hz⟩ := I.list hq
    obtain ⟨f0, f1, f2, f3, f4, f5⟩ := hf it (by simp)
    have hl := rv.length
    exact wpAny_pyNext_list_end (I.ok.hd hc) st p.isList (by simp; omega) fun h' eb => ⟨rfl, I.turned (t' := s.toks) (fun b o hb e => eb b o hb e) f0 f1 f3 f4 f5⟩
  self := fun _ _ _ _ _ st h => wpAny_pyIter_listiter st h
theorem turn_tuple {P : Program} {w : World} {K : PySem.W.Frag} {tg : Expr} (a it : Addr) : Turn P w K tg (Itt K a) [it] it (fun i h => h.IsTupleIter it a i) where
  mem := by simp
  obj := fun i h st b hb => by
    have e : b = it := by simpa using hb
    subst e
    obtain ⟨o, e, c, d⟩ := st
    exact ⟨o, e, fun v z => by rw [d] at z; cases z⟩
  keep := fun i h h' st k => st.at fun o e => k it (by simp) o e
  item := by
    intro X hP hw hK hc i pins s σ H E I hf st hg
    subst hP hw hK
    obtain ⟨xs, x, hq, hx⟩ := hg
    obtain ⟨its, rv, p, hz⟩ := I.tuple hq
    obtain ⟨u, hu, ru⟩ := rv.get hx
    obtain ⟨f0, f1, f2, f3, f4, f5⟩ := hf it (by simp)
    refine wpAny_pyNext_tuple_item st (show s.heap.IsTuple a its.toArray from p) (x := u) (by simpa using hu) fun h' st' sb => ?_
    have I1 : Inv X pins σ H { s with heap := h' } := I.turned (t' := s.toks) (fun b o hb e => (sb.2 b hb).trans e) f0 f1 f3 f4 f5
    obtain ⟨o, e, c, d⟩ := id st'
    exact ⟨u, rfl, go_of (s := { s with heap := h' }) e c d (by decide) ⟨x, H, I1, ru, ⟨rfl, fun ys hy => by rw [I.tuple_inj hy hq]; exact hx⟩, st', fun b hb => (hf b hb).1⟩⟩
  done := by
    intro X hP hw hK hc i pins s σ H E I hf st hg
    subst hP hw hK
    obtain ⟨xs, hq, hx⟩ := hg
    obtain ⟨its, rv, p, hz⟩ := I.tuple hq
    obtain ⟨f0, f1, f2, f3, f4, f5⟩ := hf it (by simp)
    have hl := rv.length
    exact wpAny_pyNext_tuple_end (I.ok.hd hc) st (show s.heap.IsTuple a its.toArray from p) (by simp; omega) fun h' eb => ⟨rfl, I.turned (t' := s.toks) (fun b o hb e => eb b o hb e) f0 f1 f3 f4 f5⟩
  self := fun _ _ _ _ _ st h => wpAny_pyIter_tupleiter st h
theorem turn_range {P : Program} {w : World} {K : PySem.W.Frag} {tg : Expr} (it : Addr) (lo : Int) (n : Nat) : Turn P w K tg (Itr lo n) [it] it (fun i h => IsRangeIter h it (lo + (i : Nat) * 1) ((n : Int) - (i : Nat)) 1) where
  mem := by simp
  obj := fun i h st b hb => by
    have e : b = it := by simpa using hb
    subst e
    exact ⟨_, st, fun v z => by
      have z' : Data.fields _ = Data.cell v := z
      cases z'⟩
  keep := fun i h h' st k => k it (by simp) _ st
  item := by
    intro X hP hw hK hc i pins s σ H E I hf st hg
    subst hP hw hK
    obtain ⟨f0, f1, f2, f3, f4, f5⟩ := hf it (by simp)
    have W := Walks.range (prog := X.prog) (w := X.w) (I.ok.hd hc) it lo 1 n
    refine W.item i s _ _ hg st fun v h' tk hv st' kk => ?_
    obtain ⟨t, rfl⟩ := hv
    have I1 : Inv X pins σ H { s with heap := h', toks := tk } := I.turned (fun b o hb e => kk b o (by simpa using hb) e) f0 f1 f3 f4 f5
    refine ⟨_, rfl, go_of (s := { s with heap := h', toks := tk }) (n := "range_iterator") st' rfl rfl (by decide) ⟨.int (lo + i), H, I1, ⟨t, ?_⟩, ⟨rfl, rfl⟩, st', fun b hb => (hf b hb).1⟩⟩
    rw [Int.mul_one]
  done := by
    intro X hP hw hK hc i pins s σ H E I hf st hg
    subst hP hw hK
    obtain ⟨f0, f1, f2, f3, f4, f5⟩ := hf it (by simp)
    exact wpAny_pyNext_range_end (I.ok.hd hc) st (by have : n ≤ i := hg; omega) fun h' eb => ⟨rfl, I.turned (t' := s.toks) (fun b o hb e => eb b o hb e) f0 f1 f3 f4 f5⟩
  self := fun _ _ _ _ _ st h => wpAny_pyIter_rangeiter st h
end L2

namespace L2
open PySem PySem.Spec PyProof.Rows
section
variable {X : Cx} {tg : Expr}
def iList (K : PySem.W.Frag) (tl : TE) : TI := fun σ H R => tl σ H fun x H1 => ∃ a, x = .ref a ∧ (∃ xs, SqL K H1 a xs) ∧ R (Itl K a) H1
def iTup (K : PySem.W.Frag) (tl : TE) : TI := fun σ H R => tl σ H fun x H1 => ∃ a, x = .ref a ∧ (∃ xs, SqT K H1 a xs) ∧ R (Itt K a) H1
theorem pi_list {l : Expr} {tl : TE} (hl : PE X l tl) : PI X tg l (iList X.K tl) := by
  intro pins s σ H R I h
  refine thn (hl pins s σ H _ I h) fun v s1 ⟨x, H1, I1, r1, q1⟩ => ?_
  obtain ⟨a, e, ⟨xs, hq⟩, q⟩ := q1
  subst e
  cases r1
  obtain ⟨its, rv, p, hz⟩ := I1.list hq
  refine wpAny_pyIter_list p.isList ?_
  refine ⟨s1.heap.objs.size, [s1.heap.objs.size], _, _, H1, rfl, I1.kept (t' := s1.toks) fun b o e => Heap.get?_push_of_some _ e, turn_list a _, ⟨_, Heap.get?_push_size _ rfl, rfl, rfl⟩, fun b hb => ?_, q⟩
  have e : b = s1.heap.objs.size := by simpa using hb
  subst e
  exact I1.fpOk (Nat.le_refl _) (I1.hok.fresh (Nat.le_refl _))
theorem pi_tup {l : Expr} {tl : TE} (hl : PE X l tl) : PI X tg l (iTup X.K tl) := by
  intro pins s σ H R I h
  refine thn (hl pins s σ H _ I h) fun v s1 ⟨x, H1, I1, r1, q1⟩ => ?_
  obtain ⟨a, e, ⟨xs, hq⟩, q⟩ := q1
  subst e
  cases r1
  obtain ⟨its, rv, p, hz⟩ := I1.tuple hq
  refine wpAny_pyIter_tuple (show s1.heap.IsTuple a its.toArray from p) ?_
  refine ⟨s1.heap.objs.size, [s1.heap.objs.size], _, _, H1, rfl, I1.kept (t' := s1.toks) fun b o e => Heap.get?_push_of_some _ e, turn_tuple a _, ⟨_, Heap.get?_push_size _ rfl, rfl, rfl⟩, fun b hb => ?_, q⟩
  have e : b = s1.heap.objs.size := by simpa using hb
  subst e
  exact I1.fpOk (Nat.le_refl _) (I1.hok.fresh (Nat.le_refl _))
/-- a range object just made, walked -/
theorem range_it {pins : List (Addr × Obj)} {σ : St} {H : Hp} {s : Shared} {R : It → Hp → Prop} {E : Value → Shared → Prop} {lo hi : Int} {t u v : Tok} {tk : Nat} (I : Inv X pins σ H s) (h1 : -(2 ^ 62) ≤ lo) (h2 : lo < 2 ^ 62) (h3 : -(2 ^ 62) ≤ hi) (h4 : hi < 2 ^ 62)
    (q : R (Itr lo (hi - lo).toNat) H) : wpAny (model X.prog X.w) X.A (pyIter (.ref s.heap.objs.size)) (PIE X pins σ tg R) E { s with heap := s.heap.push { cls := .type "range", data := .fields #[.int lo t, .int hi u, .int 1 v] }, toks := tk } := by
  refine wpAny_pyIter_range (IsRange.new ..) (small_one h1 h2 h3 h4) ?_
  have I1 : Inv X pins σ H { s with heap := s.heap.push { cls := .type "range", data := .fields #[.int lo t, .int hi u, .int 1 v] }, toks := tk } := I.kept fun b o e => Heap.get?_push_of_some _ e
  refine ⟨(s.heap.push { cls := .type "range", data := .fields #[.int lo t, .int hi u, .int 1 v] }).objs.size, [(s.heap.push { cls := .type "range", data := .fields #[.int lo t, .int hi u, .int 1 v] }).objs.size], _, _, H, rfl,
    I1.kept (t' := tk) fun b o e => Heap.get?_push_of_some _ e, turn_range _ lo (hi - lo).toNat, ?_, fun b hb => ?_, q⟩
  · have e1 : lo + ((0 : Nat) : Int) * 1 = lo := by simp
    have e2 : (((hi - lo).toNat : Nat) : Int) - ((0 : Nat) : Int) = Builtin.Range.rangeSize lo hi 1 := by rw [rangeSize_one]; split <;> omega
    show IsRangeIter _ _ (lo + ((0 : Nat) : Int) * 1) ((((hi - lo).toNat : Nat) : Int) - ((0 : Nat) : Int)) 1
    rw [e1, e2]
    exact Heap.get?_push_size _ rfl
  · have e : b = (s.heap.push { cls := .type "range", data := .fields #[.int lo t, .int hi u, .int 1 v] }).objs.size := by simpa using hb
    subst e
    exact I1.fpOk (Nat.le_refl _) (I1.hok.fresh (Nat.le_refl _))
def iRng1 (ta : TA) : TI := fun σ H R => ta σ H fun vs H1 => ∃ j : Int, vs = [.int j] ∧ -(2 ^ 62) ≤ j ∧ j < 2 ^ 62 ∧ R (Itr 0 j.toNat) H1
def iRng2 (ta : TA) : TI := fun σ H R => ta σ H fun vs H1 => ∃ i j : Int, vs = [.int i, .int j] ∧ (-(2 ^ 62) ≤ i ∧ i < 2 ^ 62 ∧ -(2 ^ 62) ≤ j ∧ j < 2 ^ 62) ∧ R (Itr i (j - i).toNat) H1
theorem pi_range1 {a : Expr} {ta : TA} {p pos : Pos} (hg : Gl X "range") (hm : X.mg "range" = none) (ha : PA X [a] ta) (hs : starEach [a] X.env = [(false, eval a X.env)] := by rfl) : PI X tg (.Call (.Name "range" p) [a] [] pos) (iRng1 ta) := by
  intro pins s σ H R I h
  refine Call_ (ld_blt I hg hm boot_range (PyProof.Rows.callWith_type1 (thn (ha pos pins s σ H _ I h) fun us s1 ⟨vs, H1, I1, r1, q1⟩ => ?_) hs rfl))
  obtain ⟨j, e, q1, q2, q⟩ := q1
  subst e
  cases r1 with
  | cons r rr =>
    cases rr
    obtain ⟨t, rfl⟩ := r
    exact call_range_1 (range_it I1 (by omega) (by omega) q1 q2 (by simpa using q))
/-! ### for -/
/-- W: the invariant by the turn and a measure; N: what the body is to reach -/
def tFor (wi : TI) (g : TG) (tb : TS) : TS := fun D σ H => wi σ H fun J H1 => ∃ W : Nat → Nat → St → Hp → Prop, (∃ m, W 0 m σ H1) ∧ ∀ i m σ H, W i m σ H →
  (J.stop i H ∧ D.nx σ H) ∨ (J.go i H ∧ ∃ N : St → Hp → Prop, (∀ σ' H', N σ' H' → ∃ m', m' < m ∧ W (i + 1) m' σ' H') ∧ ∀ x H', J.yld i H x H' → g x σ H' fun σ2 H2 => tb { D with nx := N, ct := N, bk := D.nx } σ2 H2)
/-- the records at fp as they stand -/
def pinsAt (fp : List Addr) (h : Heap) : List (Addr × Obj) := fp.filterMap fun b => (h.get? b).map fun o => (b, o)
theorem mem_pinsAt {fp : List Addr} {h : Heap} {b : Addr} {o : Obj} (hb : b ∈ fp) (e : h.get? b = some o) : (b, o) ∈ pinsAt fp h := List.mem_filterMap.mpr ⟨b, hb, by rw [e]; rfl⟩
theorem of_pinsAt {fp : List Addr} {h : Heap} {p : Addr × Obj} (hp : p ∈ pinsAt fp h) : p.1 ∈ fp ∧ h.get? p.1 = some p.2 := by
  obtain ⟨b, hb, e⟩ := List.mem_filterMap.mp hp
  cases q : h.get? b with
  | none => rw [q] at e; cases e
  | some o =>
    rw [q] at e
    have e' : (b, o) = p := Option.some.inj e
    subst e'
    exact ⟨hb, q⟩
theorem Inv.pinned {pins : List (Addr × Obj)} {σ : St} {H : Hp} {s : Shared} {fp : List Addr} (I : Inv X pins σ H s) (hf : ∀ b ∈ fp, FpOk X pins H b) (ho : ∀ b ∈ fp, ∃ o, s.heap.get? b = some o ∧ ∀ v, o.data ≠ .cell v) : Inv X (pins ++ pinsAt fp s.heap) σ H s :=
  I.pins_of fun p hp => (List.mem_append.mp hp).elim (fun z => I.pin p (List.mem_append_right _ z)) fun z => by
    obtain ⟨hb, e⟩ := of_pinsAt z
    obtain ⟨f0, f1, f2, _⟩ := hf p.1 hb
    obtain ⟨o, e', d⟩ := ho p.1 hb
    rw [e] at e'; cases e'
    exact ⟨e, f0, f1, f2, d⟩
theorem Inv.unpinned {pins pl : List (Addr × Obj)} {σ : St} {H : Hp} {s : Shared} (I : Inv X (pins ++ pl) σ H s) : Inv X pins σ H s := I.pins_of fun p hp => I.pin p (List.mem_append_right _ (List.mem_append_left _ hp))
theorem ps_for {iter : Expr} {body : List Stmt} {wi : TI} {g : TG} {tb : TS} {pos : Pos} (hp : PassesOwn (model X.prog X.w) X.A X.env X.xe) (hc : X.calm = true) (hi : PI X tg iter wi) (hg : PG X tg g) (hb : PSs X body tb)
    (hs : ∀ x, foldedSetIterable iter X.env x = pure x := by intro _; rfl) : PS X (.For tg iter body [] pos) (tFor wi g tb) := by
  intro pins s σ H D I h
  refine wpAny_For (thn (hi pins s σ H _ I h) fun v s1 h1 => thn h1 fun itv s2 h2 => ?_) hs
  obtain ⟨it, fp, tn, J, H2, e, I2, T, st2, f2, W, ⟨m0, w0⟩, turn⟩ := h2
  subst e
  -- what stays true of the iterator's objects through the loop
  have stat : ∀ {H' : Hp}, (∀ b ∈ fp, H' b = none) → ∀ b ∈ fp, FpOk X pins H' b := fun hn b hb => ⟨hn b hb, (f2 b hb).2⟩
  refine codeAny_forLoop_any (fun n s' => ∃ i σ' H', Inv X pins σ' H' s' ∧ tn i s'.heap ∧ (∀ b ∈ fp, H' b = none) ∧ W i n σ' H') ?_ m0 ⟨0, σ, H2, I2, st2, fun b hb => (f2 b hb).1, w0⟩
  rintro n s3 ⟨i, σ3, H3, I3, st3, fr3, w3⟩
  rcases turn i n σ3 H3 w3 with ⟨stop, qn⟩ | ⟨go, N, hN, step⟩
  · refine wpAny_passesOwn hp (thn (T.done X rfl rfl rfl hc i pins s3 σ3 H3 X.xe I3 (stat fr3) st3 stop) fun r s4 ⟨hr, I4⟩ => ?_)
    subst hr
    exact wpAny_execs_nil ⟨σ3, H3, I4, qn⟩
  · refine wpAny_passesOwn hp (thn (T.item X rfl rfl rfl hc i pins s3 σ3 H3 X.xe I3 (stat fr3) st3 go) fun r s4 ⟨u, hr, h4⟩ => ?_)
    subst hr
    refine wpAny_passesOwn hp (thn h4 fun _ s5 ⟨x, H5, I5, r5, y5, st5, fr5⟩ => ?_)
    have I5' := I5.pinned (stat fr5) (T.obj _ _ st5)
    refine wpAny_passesOwn hp (thn (hg _ s5 σ3 H5 x u _ I5' r5 (step x H5 y5)) fun _ s6 ⟨σ6, H6, I6, q6⟩ => ?_)
    refine wpAny_passesOwn hp (thn (hb _ s6 σ6 H6 _ I6 q6) fun f s7 q7 => ?_)
    have again : ∀ {σ7 : St} {H7 : Hp}, Inv X (pins ++ pinsAt fp s5.heap) σ7 H7 s7 → N σ7 H7 → ∃ m, m < n ∧ ∃ i σ' H', Inv X pins σ' H' s7 ∧ tn i s7.heap ∧ (∀ b ∈ fp, H' b = none) ∧ W i m σ' H' := fun {σ7 H7} I7 n7 => by
      obtain ⟨m', hm, w7⟩ := hN σ7 H7 n7
      refine ⟨m', hm, i + 1, σ7, H7, I7.unpinned, T.keep _ _ _ st5 fun b hb o e => (I7.pin (b, o) (List.mem_append_right _ (List.mem_append_right _ (mem_pinsAt hb e)))).1, fun b hb => ?_, w7⟩
      obtain ⟨o, e, d⟩ := T.obj _ _ st5 b hb
      exact (I7.pin (b, o) (List.mem_append_right _ (List.mem_append_right _ (mem_pinsAt hb e)))).2.1
    cases f with
    | next => obtain ⟨σ7, H7, I7, n7⟩ := q7; exact again I7 n7
    | cont => obtain ⟨σ7, H7, I7, n7⟩ := q7; exact again I7 n7
    | brk => obtain ⟨σ7, H7, I7, q7⟩ := q7; exact ⟨σ7, H7, I7.unpinned, q7⟩
    | ret v => obtain ⟨x7, σ7, H7, I7, r7, q7⟩ := q7; exact ⟨x7, σ7, H7, I7.unpinned, r7, q7⟩
end

/-! ### the forms one uses -/
/-- over a list that the body leaves as it is -/
theorem for_list {K : PySem.W.Frag} {a : Addr} {xs : List V} {g : TG} {tb : TS} {D : Ends} {σ : St} {H : Hp} (Pv : Nat → St → Hp → Prop) (h0 : Pv 0 σ H) (hl : ∀ i σ H, i ≤ xs.length → Pv i σ H → SqL K H a xs)
    (hs : ∀ i x σ H, xs[i]? = some x → Pv i σ H → g x σ H fun σ2 H2 => tb { D with nx := Pv (i + 1), ct := Pv (i + 1), bk := D.nx } σ2 H2) (hd : ∀ σ H, Pv xs.length σ H → D.nx σ H) :
    ∃ W : Nat → Nat → St → Hp → Prop, (∃ m, W 0 m σ H) ∧ ∀ i m σ H, W i m σ H →
      ((Itl K a).stop i H ∧ D.nx σ H) ∨ ((Itl K a).go i H ∧ ∃ N : St → Hp → Prop, (∀ σ' H', N σ' H' → ∃ m', m' < m ∧ W (i + 1) m' σ' H') ∧ ∀ x H', (Itl K a).yld i H x H' → g x σ H' fun σ2 H2 => tb { D with nx := N, ct := N, bk := D.nx } σ2 H2) := by
  refine ⟨fun i m σ H => m = xs.length - i ∧ i ≤ xs.length ∧ Pv i σ H, ⟨xs.length, by simp, Nat.zero_le _, h0⟩, ?_⟩
  rintro i m σ H ⟨rfl, hi, p⟩
  have q := hl i σ H hi p
  by_cases hlt : i < xs.length
  · refine .inr ⟨⟨xs, xs[i], q, by simp [hlt]⟩, Pv (i + 1), fun σ' H' p' => ⟨xs.length - (i + 1), by omega, rfl, hlt, p'⟩, fun x H' y => ?_⟩
    obtain ⟨e, y⟩ := y
    subst e
    exact hs i x σ _ (y xs q) p
  · have e : i = xs.length := by omega
    subst e
    exact .inl ⟨⟨xs, q, Nat.le_refl _⟩, hd σ H p⟩
theorem for_tup {K : PySem.W.Frag} {a : Addr} {xs : List V} {g : TG} {tb : TS} {D : Ends} {σ : St} {H : Hp} (Pv : Nat → St → Hp → Prop) (h0 : Pv 0 σ H) (hl : ∀ i σ H, i ≤ xs.length → Pv i σ H → SqT K H a xs)
    (hs : ∀ i x σ H, xs[i]? = some x → Pv i σ H → g x σ H fun σ2 H2 => tb { D with nx := Pv (i + 1), ct := Pv (i + 1), bk := D.nx } σ2 H2) (hd : ∀ σ H, Pv xs.length σ H → D.nx σ H) :
    ∃ W : Nat → Nat → St → Hp → Prop, (∃ m, W 0 m σ H) ∧ ∀ i m σ H, W i m σ H →
      ((Itt K a).stop i H ∧ D.nx σ H) ∨ ((Itt K a).go i H ∧ ∃ N : St → Hp → Prop, (∀ σ' H', N σ' H' → ∃ m', m' < m ∧ W (i + 1) m' σ' H') ∧ ∀ x H', (Itt K a).yld i H x H' → g x σ H' fun σ2 H2 => tb { D with nx := N, ct := N, bk := D.nx } σ2 H2) := by
  refine ⟨fun i m σ H => m = xs.length - i ∧ i ≤ xs.length ∧ Pv i σ H, ⟨xs.length, by simp, Nat.zero_le _, h0⟩, ?_⟩
  rintro i m σ H ⟨rfl, hi, p⟩
  have q := hl i σ H hi p
  by_cases hlt : i < xs.length
  · refine .inr ⟨⟨xs, xs[i], q, by simp [hlt]⟩, Pv (i + 1), fun σ' H' p' => ⟨xs.length - (i + 1), by omega, rfl, hlt, p'⟩, fun x H' y => ?_⟩
    obtain ⟨e, y⟩ := y
    subst e
    exact hs i x σ _ (y xs q) p
  · have e : i = xs.length := by omega
    subst e
    exact .inl ⟨⟨xs, q, Nat.le_refl _⟩, hd σ H p⟩
theorem for_range {lo : Int} {n : Nat} {g : TG} {tb : TS} {D : Ends} {σ : St} {H : Hp} (Pv : Nat → St → Hp → Prop) (h0 : Pv 0 σ H)
    (hs : ∀ i σ H, i < n → Pv i σ H → g (.int (lo + i)) σ H fun σ2 H2 => tb { D with nx := Pv (i + 1), ct := Pv (i + 1), bk := D.nx } σ2 H2) (hd : ∀ σ H, Pv n σ H → D.nx σ H) :
    ∃ W : Nat → Nat → St → Hp → Prop, (∃ m, W 0 m σ H) ∧ ∀ i m σ H, W i m σ H →
      ((Itr lo n).stop i H ∧ D.nx σ H) ∨ ((Itr lo n).go i H ∧ ∃ N : St → Hp → Prop, (∀ σ' H', N σ' H' → ∃ m', m' < m ∧ W (i + 1) m' σ' H') ∧ ∀ x H', (Itr lo n).yld i H x H' → g x σ H' fun σ2 H2 => tb { D with nx := N, ct := N, bk := D.nx } σ2 H2) := by
  refine ⟨fun i m σ H => m = n - i ∧ i ≤ n ∧ Pv i σ H, ⟨n, by simp, Nat.zero_le _, h0⟩, ?_⟩
  rintro i m σ H ⟨rfl, hi, p⟩
  by_cases hlt : i < n
  · refine .inr ⟨hlt, Pv (i + 1), fun σ' H' p' => ⟨n - (i + 1), by omega, rfl, hlt, p'⟩, fun x H' y => ?_⟩
    obtain ⟨e, y⟩ := y
    subst e y
    exact hs i σ _ hlt p
  · have e : i = n := by omega
    subst e
    exact .inl ⟨Nat.le_refl _, hd σ H p⟩
end L2

namespace L2
open PySem PySem.Spec PyProof.Rows

abbrev R2 := V → V → Hp → VK → Prop
/-- a two-place operation on values: f is binaryOp op, inplaceOp op or compareOp op -/
def OpR (X : Cx) (f : Value → Value → Sem Value) (r : R2) : Prop :=
  ∀ (pins : List (Addr × Obj)) (s : Shared) (σ : St) (H : Hp) (x y : V) (v u : Value) (Q : VK), Inv X pins σ H s → RelV x v → RelV y u → r x y H Q →
    wpAny (model X.prog X.w) X.A (f v u) (EP X pins σ Q) X.xe s
/-- a one-place operation -/
def UnR (X : Cx) (f : Value → Sem Value) (r : V → Hp → VK → Prop) : Prop :=
  ∀ (pins : List (Addr × Obj)) (s : Shared) (σ : St) (H : Hp) (x : V) (v : Value) (Q : VK), Inv X pins σ H s → RelV x v → r x H Q →
    wpAny (model X.prog X.w) X.A (f v) (EP X pins σ Q) X.xe s
/-- a call of a value that is known (a builtin, a type) with values -/
def CallR (X : Cx) (f : Value) (r : List V → Hp → VK → Prop) : Prop :=
  ∀ (pins : List (Addr × Obj)) (s : Shared) (σ : St) (H : Hp) (xs : List V) (us : List Value) (Q : VK), Inv X pins σ H s → Vals xs us → r xs H Q →
    wpAny (model X.prog X.w) X.A (call f us) (EP X pins σ Q) X.xe s
/-- a value's truth -/
def TruR (X : Cx) (r : V → Hp → (Bool → Hp → Prop) → Prop) : Prop :=
  ∀ (pins : List (Addr × Obj)) (s : Shared) (σ : St) (H : Hp) (x : V) (v : Value) (Q : Bool → Hp → Prop), Inv X pins σ H s → RelV x v → r x H Q →
    wpAny (model X.prog X.w) X.A (truthy v) (TP X pins σ Q) X.xe s

def tOp (r : R2) (ta tb : TE) : TE := fun σ H Q => ta σ H fun x H1 => tb σ H1 fun y H2 => r x y H2 Q
def tUn (r : V → Hp → VK → Prop) (ta : TE) : TE := fun σ H Q => ta σ H fun x H1 => r x H1 Q
/-- ints in, under C, and a value out -/
def rI (C : Int → Int → Prop) (g : Int → Int → V) : R2 := fun x y H Q => ∃ i j, x = .int i ∧ y = .int j ∧ C i j ∧ Q (g i j) H
def rI0 (g : Int → Int → V) : R2 := fun x y H Q => ∃ i j, x = .int i ∧ y = .int j ∧ Q (g i j) H
def rU (g : Int → V) : V → Hp → VK → Prop := fun x H Q => ∃ i, x = .int i ∧ Q (g i) H

section
variable {X : Cx} {a b c : Expr} {ta tb tc : TE} {pos : Pos}

theorem binT (ha : PE X a ta) (hb : PE X b tb) {pins : List (Addr × Obj)} {s : Shared} {σ : St} {H : Hp} {R : V → V → Hp → Prop} (I : Inv X pins σ H s)
    (h : ta σ H fun x H1 => tb σ H1 fun y H2 => R x y H2) {Q : Value → Shared → Prop} {f : Value → Value → Sem Value}
    (hf : ∀ v u s2 x y H2, Inv X pins σ H2 s2 → RelV x v → RelV y u → R x y H2 → wpAny (model X.prog X.w) X.A (f v u) Q X.xe s2) :
    wpAny (model X.prog X.w) X.A (eval a X.env) (fun v s₁ => wpAny (model X.prog X.w) X.A (eval b X.env) (fun u s₂ => wpAny (model X.prog X.w) X.A (f v u) Q X.xe s₂) X.xe s₁) X.xe s := by
  refine thn (ha pins s σ H _ I h) fun v s1 ⟨x, H1, I1, r1, q1⟩ => ?_
  refine thn (hb pins s1 σ H1 _ I1 q1) fun u s2 ⟨y, H2, I2, r2, q2⟩ => ?_
  exact hf v u s2 x y H2 I2 r1 r2 q2

theorem pe_op {op : Operator} {r : R2} (ho : OpR X (binaryOp op) r) (ha : PE X a ta) (hb : PE X b tb) : PE X (.BinOp a op b pos) (tOp r ta tb) := by
  intro pins s σ H Q I h
  exact wpAny_BinOp (binT ha hb I h fun v u s2 x y H2 I2 rx ry q => ho pins s2 σ H2 x y v u Q I2 rx ry q)
theorem pe_un {op : UnaryOp} {r : V → Hp → VK → Prop} (ho : UnR X (unaryOp op) r) (ha : PE X a ta) : PE X (.UnaryOp op a pos) (tUn r ta) := by
  intro pins s σ H Q I h
  exact UnaryOp_ (thn (ha pins s σ H _ I h) fun v s1 ⟨x, H1, I1, r1, q1⟩ => ho pins s1 σ H1 x v Q I1 r1 q1)
/-! ### ints -/
theorem opI {f : Value → Value → Sem Value} {C : Int → Int → Prop} {g : Int → Int → Int}
    (rule : ∀ (i j : Int) (t u : Tok) (s : Shared) (Q : Value → Shared → Prop) (E : Value → Shared → Prop), C i j → Q (.int (g i j) s.toks) { s with toks := s.toks + 1 } → wpAny (model X.prog X.w) X.A (f (.int i t) (.int j u)) Q E s) :
    OpR X f (rI C fun i j => .int (g i j)) := by
  intro pins s σ H x y v u Q I rx ry h
  obtain ⟨i, j, rfl, rfl, hc, q⟩ := h
  obtain ⟨t, rfl⟩ := rx
  obtain ⟨t', rfl⟩ := ry
  exact rule i j t t' s _ _ hc ⟨.int (g i j), H, I.tok _, ⟨_, rfl⟩, q⟩
theorem opI0 {f : Value → Value → Sem Value} {g : Int → Int → Int}
    (rule : ∀ (i j : Int) (t u : Tok) (s : Shared) (Q : Value → Shared → Prop) (E : Value → Shared → Prop), Q (.int (g i j) s.toks) { s with toks := s.toks + 1 } → wpAny (model X.prog X.w) X.A (f (.int i t) (.int j u)) Q E s) :
    OpR X f (rI0 fun i j => .int (g i j)) := by
  intro pins s σ H x y v u Q I rx ry h
  obtain ⟨i, j, rfl, rfl, q⟩ := h
  obtain ⟨t, rfl⟩ := rx
  obtain ⟨t', rfl⟩ := ry
  exact rule i j t t' s _ _ ⟨.int (g i j), H, I.tok _, ⟨_, rfl⟩, q⟩
theorem opB0 {f : Value → Value → Sem Value} {g : Int → Int → Bool}
    (rule : ∀ (i j : Int) (t u : Tok) (s : Shared) (Q : Value → Shared → Prop) (E : Value → Shared → Prop), Q (.bool (g i j)) s → wpAny (model X.prog X.w) X.A (f (.int i t) (.int j u)) Q E s) :
    OpR X f (rI0 fun i j => .bl (g i j)) := by
  intro pins s σ H x y v u Q I rx ry h
  obtain ⟨i, j, rfl, rfl, q⟩ := h
  obtain ⟨t, rfl⟩ := rx
  obtain ⟨t', rfl⟩ := ry
  exact rule i j t t' s _ _ ⟨.bl (g i j), H, I, rfl, q⟩

def CDiv (i j : Int) : Prop := 0 < j ∧ j < 1073741824
def CDivN (i j : Int) : Prop := j ≠ 0 ∧ j.natAbs < 1073741824
def CPow (i j : Int) : Prop := 0 ≤ j ∧ j ≤ 1000000 ∧ i.natAbs < 2 ^ 64
def CMul (i j : Int) : Prop := (-(2 ^ 64) < i ∧ i < 2 ^ 64) ∨ (-(2 ^ 64) < j ∧ j < 2 ^ 64)
theorem CMul.ok {i j : Int} (h : CMul i j) : IntMulOk i j := by
  rcases h with ⟨h1, h2⟩ | ⟨h1, h2⟩
  · exact .of_left (intBits_le_64 h1 h2)
  · exact .of_right (intBits_le_64 h1 h2)
theorem op_add : OpR X (binaryOp .Add) (rI0 fun i j => .int (i + j)) := opI0 fun _ _ _ _ _ _ _ q => add_int q
theorem op_sub : OpR X (binaryOp .Sub) (rI0 fun i j => .int (i - j)) := opI0 fun _ _ _ _ _ _ _ q => sub_int q
theorem op_mul : OpR X (binaryOp .Mult) (rI CMul fun i j => .int (i * j)) := opI fun _ _ _ _ _ _ _ hc q => mul_int q hc.ok
/-- // by a positive divisor -/
theorem op_fdiv : OpR X (binaryOp .FloorDiv) (rI CDiv fun i j => .int (i / j)) := opI fun i j _ _ _ _ _ hc q => by
  have h1 : (0 : Int) < j := hc.1
  have h2 : j < 1073741824 := hc.2
  exact floordiv_int (by omega) (by rw [Int.fdiv_eq_ediv_of_nonneg i (by omega)]; exact q) (.inl (PyProof.noPylong_small (by omega)))
/-- % by a positive divisor of any size -/
theorem op_mod : OpR X (binaryOp .Mod) (rI (fun _ j => 0 < j) fun i j => .int (i % j)) := opI fun i j _ _ _ _ _ hc q => by
  have h1 : (0 : Int) < j := hc
  exact mod_int' (by omega) (by rw [Int.fmod_eq_emod_of_nonneg i (by omega)]; exact q)
theorem unI {f : Value → Sem Value} {g : Int → Int}
    (rule : ∀ (i : Int) (t : Tok) (s : Shared) (Q : Value → Shared → Prop) (E : Value → Shared → Prop), Q (.int (g i) s.toks) { s with toks := s.toks + 1 } → wpAny (model X.prog X.w) X.A (f (.int i t)) Q E s) :
    UnR X f (rU fun i => .int (g i)) := by
  intro pins s σ H x v Q I rx h
  obtain ⟨i, rfl, q⟩ := h
  obtain ⟨t, rfl⟩ := rx
  exact rule i t s _ _ ⟨.int (g i), H, I.tok _, ⟨_, rfl⟩, q⟩
theorem un_neg : UnR X (unaryOp .USub) (rU fun i => .int (-i)) := unI fun _ _ _ _ _ q => neg_int q
/-! ### bools among ints: n += (a < b) -/
end

/-! ### comparisons -/
/-- the scalars that == tells apart as data does -/
def scal : V → V → Bool
  | .non, .non => true | .non, .int _ => true | .int _, .non => true | .non, .bl _ => true | .bl _, .non => true | .non, .str _ => true | .str _, .non => true
  | .int _, .int _ => true | .bl _, .bl _ => true | .str _, .str _ => true | .byt _, .byt _ => true
  | .int _, .str _ => true | .str _, .int _ => true | .bl _, .str _ => true | .str _, .bl _ => true
  | _, _ => false
def rEq : R2 := fun x y H Q => scal x y = true ∧ Q (.bl (decide (x = y))) H
def rNe : R2 := fun x y H Q => scal x y = true ∧ Q (.bl (!decide (x = y))) H

theorem dec_int {i j : Int} : decide (V.int i = V.int j) = (i == j) := by
  rw [Bool.eq_iff_iff]
  simp
theorem dec_bl {i j : Bool} : decide (V.bl i = V.bl j) = (i == j) := by
  rw [Bool.eq_iff_iff]
  simp
theorem dec_str {i j : Str} : decide (V.str i = V.str j) = (i == j) := by
  rw [Bool.eq_iff_iff]
  simp
theorem dec_byt {i j : Array UInt8} : decide (V.byt i = V.byt j) = (i.toList == j.toList) := by
  rw [Bool.eq_iff_iff]
  cases i
  cases j
  simp

section
variable {X : Cx} {a b c : Expr} {ta tb tc : TE} {pos : Pos}
theorem fin_bl {pins : List (Addr × Obj)} {σ : St} {H : Hp} {s : Shared} {Q : VK} {k k' : Bool} (I : Inv X pins σ H s) (q : Q (.bl k) H) (e : k = k') : EP X pins σ Q (.bool k') s := by
  subst e
  exact ⟨.bl k, H, I, rfl, q⟩
theorem op_eq : OpR X (compareOp .Eq) rEq := by
  intro pins s σ H x y v u Q I rx ry h
  obtain ⟨hs, q⟩ := h
  cases x with
  | non =>
    cases rx
    cases y with
    | non => cases ry; exact PySem.EqNone.eq_none_none (fin_bl I q (by simp))
    | bl j => cases ry; exact PySem.EqNone.eq_none_bool (fin_bl I q (by simp))
    | int j => obtain ⟨t', rfl⟩ := ry; exact PySem.EqNone.eq_none_int (fin_bl I q (by simp))
    | str j => obtain ⟨t', rfl⟩ := ry; exact PySem.EqNone.eq_none_str (fin_bl I q (by simp))
    | _ => exact absurd (show false = true from hs) Bool.false_ne_true
  | bl i =>
    cases rx
    cases y with
    | non => cases ry; exact PySem.EqNone.eq_bool_none (fin_bl I q (by simp))
    | bl j => cases ry; exact eq_bool (fin_bl I q dec_bl)
    | str j => obtain ⟨t', rfl⟩ := ry; exact PySem.EqMixed.eq_bool_str (fin_bl I q (by simp))
    | _ => exact absurd (show false = true from hs) Bool.false_ne_true
  | int i =>
    obtain ⟨t, rfl⟩ := rx
    cases y with
    | non => cases ry; exact PySem.EqNone.eq_int_none (fin_bl I q (by simp))
    | int j => obtain ⟨t', rfl⟩ := ry; exact eq_int (fin_bl I q dec_int)
    | str j => obtain ⟨t', rfl⟩ := ry; exact PySem.EqMixed.eq_int_str (fin_bl I q (by simp))
    | _ => exact absurd (show false = true from hs) Bool.false_ne_true
  | str i =>
    obtain ⟨t, rfl⟩ := rx
    cases y with
    | non => cases ry; exact PySem.EqNone.eq_str_none (fin_bl I q (by simp))
    | bl j => cases ry; exact PySem.EqMixed.eq_str_bool (fin_bl I q (by simp))
    | int j => obtain ⟨t', rfl⟩ := ry; exact PySem.EqMixed.eq_str_int (fin_bl I q (by simp))
    | str j => obtain ⟨t', rfl⟩ := ry; exact eq_str (fin_bl I q dec_str)
    | _ => exact absurd (show false = true from hs) Bool.false_ne_true
  | byt i =>
    obtain ⟨t, rfl⟩ := rx
    cases y with
    | byt j => obtain ⟨t', rfl⟩ := ry; exact PySem.W.eq_bytes (fin_bl I q dec_byt)
    | _ => exact absurd (show false = true from hs) Bool.false_ne_true
  | _ => cases y <;> exact absurd (show false = true from hs) Bool.false_ne_true
theorem op_ne : OpR X (compareOp .NotEq) rNe := by
  intro pins s σ H x y v u Q I rx ry h
  obtain ⟨hs, q⟩ := h
  cases x with
  | non =>
    cases rx
    cases y with
    | non => cases ry; exact PySem.EqNone.ne_none_none (fin_bl I q (by simp))
    | bl j => cases ry; exact PySem.EqNone.ne_none_bool (fin_bl I q (by simp))
    | int j => obtain ⟨t', rfl⟩ := ry; exact PySem.EqNone.ne_none_int (fin_bl I q (by simp))
    | str j => obtain ⟨t', rfl⟩ := ry; exact PySem.EqNone.ne_none_str (fin_bl I q (by simp))
    | _ => exact absurd (show false = true from hs) Bool.false_ne_true
  | bl i =>
    cases rx
    cases y with
    | non => cases ry; exact PySem.EqNone.ne_bool_none (fin_bl I q (by simp))
    | bl j => cases ry; exact ne_bool (fin_bl I q (congrArg not dec_bl))
    | str j => obtain ⟨t', rfl⟩ := ry; exact PySem.EqMixed.ne_bool_str (fin_bl I q (by simp))
    | _ => exact absurd (show false = true from hs) Bool.false_ne_true
  | int i =>
    obtain ⟨t, rfl⟩ := rx
    cases y with
    | non => cases ry; exact PySem.EqNone.ne_int_none (fin_bl I q (by simp))
    | int j => obtain ⟨t', rfl⟩ := ry; exact ne_int (fin_bl I q (congrArg not dec_int))
    | str j => obtain ⟨t', rfl⟩ := ry; exact PySem.EqMixed.ne_int_str (fin_bl I q (by simp))
    | _ => exact absurd (show false = true from hs) Bool.false_ne_true
  | str i =>
    obtain ⟨t, rfl⟩ := rx
    cases y with
    | non => cases ry; exact PySem.EqNone.ne_str_none (fin_bl I q (by simp))
    | bl j => cases ry; exact PySem.EqMixed.ne_str_bool (fin_bl I q (by simp))
    | int j => obtain ⟨t', rfl⟩ := ry; exact PySem.EqMixed.ne_str_int (fin_bl I q (by simp))
    | str j => obtain ⟨t', rfl⟩ := ry; exact ne_str (fin_bl I q (congrArg not dec_str))
    | _ => exact absurd (show false = true from hs) Bool.false_ne_true
  | byt i =>
    obtain ⟨t, rfl⟩ := rx
    cases y with
    | byt j => obtain ⟨t', rfl⟩ := ry; exact PySem.W.ne_bytes (fin_bl I q (congrArg not dec_byt))
    | _ => exact absurd (show false = true from hs) Bool.false_ne_true
  | _ => cases y <;> exact absurd (show false = true from hs) Bool.false_ne_true

theorem op_lt : OpR X (compareOp .Lt) (rI0 fun i j => .bl (decide (i < j))) := opB0 fun _ _ _ _ _ _ _ q => lt_int q
theorem op_le : OpR X (compareOp .LtE) (rI0 fun i j => .bl (decide (i ≤ j))) := opB0 fun _ _ _ _ _ _ _ q => le_int q
theorem op_gt : OpR X (compareOp .Gt) (rI0 fun i j => .bl (decide (j < i))) := opB0 fun _ _ _ _ _ _ _ q => gt_int q
theorem op_ge : OpR X (compareOp .GtE) (rI0 fun i j => .bl (decide (j ≤ i))) := opB0 fun _ _ _ _ _ _ _ q => ge_int q
/-- is, is not of two objects that are tracked lists or instances -/
def isObj : HO → Bool
  | .lst _ => true
  | .ins _ _ _ => true
  | _ => false
theorem nomark (b : Expr) {op : CmpOp} (h : op ≠ .In := by decide) (h2 : op ≠ .NotIn := by decide) : behindInMarks op b = false := by
  have e1 : (op == CmpOp.In) = false := by cases op <;> first | rfl | exact absurd rfl h
  have e2 : (op == CmpOp.NotIn) = false := by cases op <;> first | rfl | exact absurd rfl h2
  cases b <;> simp [behindInMarks, e1, e2]
/-- a reading of a value as a test -/
def tTest (t : TE) : TT := fun σ H Q => t σ H fun x H' => ∃ k, x = .bl k ∧ Q k H'
theorem pt_cmpR {op : CmpOp} {r : R2} (ho : OpR X (compareOp op) r) (ha : PE X a ta) (hb : PE X b tb) (hm : behindInMarks op b = false) : PT X (.Compare a [op] [b] pos) (tTest (tOp r ta tb)) := by
  intro pins s σ H Q I h
  refine wpAny_isTrue_Compare1 (thn (ha pins s σ H _ I h) fun v s1 ⟨x, H1, I1, r1, q1⟩ => thn (hb pins s1 σ H1 _ I1 q1) fun u s2 ⟨y, H2, I2, r2, q2⟩ =>
    thn (ho pins s2 σ H2 x y v u _ I2 r1 r2 q2) fun c s3 ⟨z, H3, I3, r3, k, e, q3⟩ => ?_) hm
  subst e
  cases r3
  exact wpAny_truthy_bool ⟨H3, I3, q3⟩
/-- a op1 b op2 c -/
def tChain (r r' : R2) (ta tb tc : TE) : TE := fun σ H Q => ta σ H fun x H1 => tb σ H1 fun y H2 => r x y H2 fun z H3 => ∃ k, z = .bl k ∧
  (if k = true then tc σ H3 fun w' H4 => r' y w' H4 Q else Q (.bl false) H3)
/-! ### truth -/
/-- a value's truth by the abstract heap -/
def TruV (K : PySem.W.Frag) (x : V) (H : Hp) (k : Bool) : Prop :=
  match x with
  | .non => k = false
  | .bl b => k = b
  | .int i => k = (i != 0)
  | .str y => y.length ≤ sizeLine ∧ k = ((y.length : Int) != 0)
  | .byt y => y.size ≤ sizeLine ∧ k = ((y.size : Int) != 0)
  | .ref p => (∃ xs, SqL K H p xs ∧ k = !xs.isEmpty) ∨ (∃ xs, SqT K H p xs ∧ k = !xs.isEmpty) ∨ ∃ kvs, H p = some (.dK kvs) ∧ k = !kvs.isEmpty
  | _ => False
theorem isEmpty_kv {κ : Type} {kvs : List (κ × V)} {vs : List (κ × Value)} (r : KV kvs vs) : (!vs.isEmpty) = !kvs.isEmpty := by
  cases r <;> rfl
theorem isEmpty_of {xs : List V} {its : List Value} (r : Vals xs its) : (!its.toArray.isEmpty) = !xs.isEmpty := by
  cases r <;> simp
theorem line63 : (sizeLine : Nat) < 2 ^ 63 := by rw [sizeLine_eq]; decide
theorem tru_ok : TruR X (fun x H Q => ∃ k, TruV X.K x H k ∧ Q k H) := by
  intro pins s σ H x v Q I rx h
  obtain ⟨k, e, q⟩ := h
  have hl := line63
  have hs : sizeLine = 16777216 := sizeLine_eq
  cases x with
  | non =>
    cases rx
    have e' : k = false := e
    subst e'
    exact truthy_none ⟨H, I, q⟩
  | bl b =>
    cases rx
    have e' : k = b := e
    subst e'
    exact wpAny_truthy_bool ⟨H, I, q⟩
  | int i =>
    obtain ⟨t, rfl⟩ := rx
    have e' : k = (i != 0) := e
    subst e'
    exact PySem.P.truthy_int ⟨H, I, q⟩
  | str y =>
    obtain ⟨t, rfl⟩ := rx
    obtain ⟨hy, e'⟩ : y.length ≤ sizeLine ∧ k = ((y.length : Int) != 0) := e
    subst e'
    exact PySem.P.truthy_str (by omega) ⟨H, I.tok _, q⟩
  | byt y =>
    obtain ⟨t, rfl⟩ := rx
    obtain ⟨hy, e'⟩ : y.size ≤ sizeLine ∧ k = ((y.size : Int) != 0) := e
    subst e'
    exact PySem.W.truthy_bytes (by omega) ⟨H, I.tok _, q⟩
  | ref p =>
    cases rx
    have e' : (∃ xs, SqL X.K H p xs ∧ k = !xs.isEmpty) ∨ (∃ xs, SqT X.K H p xs ∧ k = !xs.isEmpty) ∨ ∃ kvs, H p = some (.dK kvs) ∧ k = !kvs.isEmpty := e
    rcases e' with ⟨xs, hx, e'⟩ | ⟨xs, hx, e'⟩ | ⟨kvs, hx, e'⟩
    · subst e'
      obtain ⟨its, r, pl, hz⟩ := I.list hx
      have hlen := r.length
      exact wpAny_truthy_list pl.isList (by simp only [List.size_toArray]; omega) ⟨H, I.tok _, by rw [isEmpty_of r]; exact q⟩
    · subst e'
      obtain ⟨its, r, pl, hz⟩ := I.tuple hx
      have hlen := r.length
      exact truthy_tuple pl (by simp only [List.size_toArray]; omega) ⟨H, I.tok _, by rw [isEmpty_of r]; exact q⟩
    · subst e'
      obtain ⟨hz, hS, vs, r, m⟩ : kvs.length ≤ sizeLine ∧ (p == sysModules) = false ∧ ∃ vs, KV kvs vs ∧ s.heap.DictOf (mixKind X.prog X.w) p vs := I.hok p _ hx
      have hlen : kvs.length = vs.length := Paired.length r
      exact wpAny_truthy_dict hS m (by omega) ⟨H, I.tok _, by rw [isEmpty_kv r]; exact q⟩
  | _ => exact (show False from e).elim
/-- any expression whose test is its value's truth (a name, a call, a subscript, a field ..: he by fun _ => rfl) -/
theorem pt_truth (ha : PE X a ta) (he : ∀ whole, isTrue a X.env whole = (do let v ← whole; standAt a.pos; holding [v] (truthy v))) :
    PT X a (fun σ H Q => ta σ H fun x H' => ∃ k, TruV X.K x H' k ∧ Q k H') := by
  intro pins s σ H Q I h
  exact isTrue_plain (thn (ha pins s σ H _ I h) fun v s1 ⟨x, H1, I1, r1, q1⟩ => tru_ok pins s1 σ H1 x v Q I1 r1 q1) (he _)

/-! ### strs and bytes -/
theorem op_add_str : OpR X (binaryOp .Add) (fun x y H Q => ∃ i j, x = .str i ∧ y = .str j ∧ i.length + j.length ≤ sizeLine ∧ Q (.str (i ++ j)) H) := by
  intro pins s σ H x y v u Q I rx ry h
  obtain ⟨i, j, rfl, rfl, hz, q⟩ := h
  obtain ⟨t, rfl⟩ := rx
  obtain ⟨t', rfl⟩ := ry
  exact add_str (fun t' tk => ⟨.str (i ++ j), H, I.tok _, ⟨_, rfl⟩, q⟩) hz
def PlainIxT (b : Expr) : Prop := ∀ o i, subscripted b false o i = operate [o, i] (getItem o i)
/-! ### scalar builtins, by CallR -/
theorem vals1 {x : V} {us : List Value} (r : Vals [x] us) : ∃ u, us = [u] ∧ RelV x u := by
  cases r with
  | cons r1 r2 => cases r2; exact ⟨_, rfl, r1⟩
theorem vals2 {x y : V} {us : List Value} (r : Vals [x, y] us) : ∃ u w', us = [u, w'] ∧ RelV x u ∧ RelV y w' := by
  cases r with
  | cons r1 r2 =>
    cases r2 with
    | cons r3 r4 => cases r4; exact ⟨_, _, rfl, r1, r3⟩
theorem call_max2 (hc : X.calm = true) : CallR X (.builtin "max") (fun xs H Q => ∃ i j, xs = [.int i, .int j] ∧ Q (.int (if j > i then j else i)) H) := by
  intro pins s σ H xs us Q I r h
  obtain ⟨i, j, rfl, q⟩ := h
  obtain ⟨u, w', rfl, ⟨t, rfl⟩, ⟨t', rfl⟩⟩ := vals2 r
  refine max_two_ints (I.ok.hd hc) fun h' tk k => ⟨_, H, I.kept k, ?_, q⟩
  by_cases hj : j > i
  · rw [if_pos hj, if_pos hj]; exact ⟨_, rfl⟩
  · rw [if_neg hj, if_neg hj]; exact ⟨_, rfl⟩
theorem call_min2 (hc : X.calm = true) : CallR X (.builtin "min") (fun xs H Q => ∃ i j, xs = [.int i, .int j] ∧ Q (.int (if j < i then j else i)) H) := by
  intro pins s σ H xs us Q I r h
  obtain ⟨i, j, rfl, q⟩ := h
  obtain ⟨u, w', rfl, ⟨t, rfl⟩, ⟨t', rfl⟩⟩ := vals2 r
  refine min_two_ints (I.ok.hd hc) fun h' tk k => ⟨_, H, I.kept k, ?_, q⟩
  by_cases hj : j < i
  · rw [if_pos hj, if_pos hj]; exact ⟨_, rfl⟩
  · rw [if_neg hj, if_neg hj]; exact ⟨_, rfl⟩
/-- len of a str, a bytes, a list, a tuple -/
def LenV (K : PySem.W.Frag) (x : V) (H : Hp) (n : Nat) : Prop :=
  match x with
  | .str y => y.length ≤ sizeLine ∧ n = y.length
  | .byt y => y.size ≤ sizeLine ∧ n = y.size
  | .ref p => (∃ xs, SqL K H p xs ∧ n = xs.length) ∨ ∃ xs, SqT K H p xs ∧ n = xs.length
  | _ => False
end
end L2

namespace L2
open PySem PySem.Spec PyProof.Rows

/-! ### an instance, its attributes a map -/
structure ObjM (h : Heap) (x dx C : Addr) (mA : Str → Option Value) : Prop where
  obj : h.get? x = some (PySem.W.instObj C dx)
  ns : h.Ns1 dx mA
  ne : dx ≠ x

theorem lookIn_ns {h : Heap} {dx : Addr} {mA : Str → Option Value} (n : h.Ns1 dx mA) : ∃ od, h.get? dx = some od ∧ ∀ name, PySem.W.lookIn name od = some (mA name) := by
  obtain ⟨o, es, ep, ho, hd, hk, _, hm⟩ := n
  refine ⟨o, ho, fun name => ?_⟩
  have e := hm name
  unfold nsFind findBy at e
  rw [← Array.find?_toList] at e
  unfold PySem.W.lookIn
  rw [hd]
  dsimp only
  split
  · rename_i y q
    rw [q] at e
    exact congrArg some e
  · rename_i q
    rw [q] at e
    have a : es.toList.any (·.refKey) = false := by
      rw [List.any_eq_false]
      intro y hy
      obtain ⟨z, t, hkey⟩ := hk y (Array.mem_toList_iff.mp hy)
      simp [DictEntry.refKey, hkey]
    have a' : ¬ es.toList.any (·.refKey) = true := by rw [a]; exact Bool.false_ne_true
    rw [if_neg a']
    exact congrArg some e

theorem ObjM.look {h : Heap} {x dx C : Addr} {mA : Str → Option Value} (I : ObjM h x dx C mA) : ∃ od, PySem.W.InstAt h x (PySem.W.instObj C dx) C (some od) ∧ ∀ name, PySem.W.lookIn name od = some (mA name) :=
  let ⟨od, ho, hl⟩ := lookIn_ns I.ns
  ⟨od, ⟨I.obj, rfl, rfl, ho⟩, hl⟩

section
variable {prog : Program} {w : World} {A : Around} {E : Value → Shared → Prop} {s : Shared} {K : PySem.W.Frag} {x dx C f : Addr} {mA : Str → Option Value} {name : Str} {v : Value}

end

/-! ### the attributes as a list of pairs -/
def putF (f : Str) (v : V) : List (Str × V) → List (Str × V)
  | [] => [(f, v)]
  | (g, x) :: r => if g = f then (g, v) :: r else (g, x) :: putF f v r
theorem RelO.some_of {v : V} {o : Option Value} (r : RelO (some v) o) : ∃ u, o = some u ∧ RelV v u := by
  cases o with
  | none => exact (show False from r).elim
  | some u => exact ⟨u, rfl, r⟩
section
variable {P : Program} {w : World} {H H' : Hp} {h h' : Heap} {a C dx : Addr} {fs fs' : List (Str × V)}
theorem ins_get (hok : HOk P w H h) (e : H a = some (.ins C dx fs)) : ∃ mA, ObjM h a dx C mA ∧ (∀ f, RelO (fs.lookup f) (mA f)) ∧ PySem.Within mA (fs.map (·.1)) ∧ fs.length ≤ 1000 ∧ H dx = some (.own a) := by
  obtain ⟨d, z, ne, ob, mA, n, r, q⟩ := (show ObjOk P w H h a (.ins C dx fs) from hok a _ e)
  exact ⟨mA, ⟨ob, n, ne⟩, r, q, z, d⟩
end

/-! ### what of the text a class must have -/
structure Cls (K : PySem.W.Frag) (C : Addr) : Prop where
  pg : PySem.W.plainGet K C Str.empty = true
  hd : PySem.W.hasDictIn K C = true
  po : PySem.W.plainOver K C = true
  sa : PySem.W.findIn K (.ref C) "__setattr__" = some (some (.builtin "object.__setattr__"))
theorem Cls.get {K : PySem.W.Frag} {C : Addr} (c : Cls K C) (f : Str) : PySem.W.plainGet K C f = true := c.pg
/-- no class of it has the name -/
def NoAttr (K : PySem.W.Frag) (C : Addr) (f : Str) : Prop := PySem.W.findIn K (.ref C) f = some none
/-- a constant of the class -/
structure Con (K : PySem.W.Frag) (C : Addr) (f : Str) (v : V) (u : Value) : Prop where
  at_ : PySem.W.findIn K (.ref C) f = some (some u)
  rel : RelV v u
  get : PySem.W.specialIn K u "__get__" = some none
  cp : PySem.W.copiedNames.contains f = false
/-- a method: a plain def of the class or of one above it -/
structure Meth (K : PySem.W.Frag) (C : Addr) (m : Str) (f : Addr) : Prop where
  at_ : PySem.W.findIn K (.ref C) m = some (some (.ref f))
  fn : PySem.W.isFn K (.ref f) = true
  kp : PySem.W.keepIn K (.ref f) = true

section
variable {X : Cx} {pins : List (Addr × Obj)} {σ : St} {H : Hp} {s : Shared} {a C dx : Addr} {fs : List (Str × V)} {f : Str} {v : V} {A : Around} {E : Value → Shared → Prop}

end

/-! ### readings and rules -/
/-- e.f, an attribute of the instance -/
def tFld (K : PySem.W.Frag) (ta : TE) (f : Str) : TE := fun σ H Q => ta σ H fun x H1 => ∃ a C dx fs v, x = .ref a ∧ H1 a = some (.ins C dx fs) ∧ Cls K C ∧ NoAttr K C f ∧ fs.lookup f = some v ∧ Q v H1
/-- e.f, a constant of the class -/
def tCon (K : PySem.W.Frag) (ta : TE) (f : Str) : TE := fun σ H Q => ta σ H fun x H1 => ∃ a C dx fs v u, x = .ref a ∧ H1 a = some (.ins C dx fs) ∧ Cls K C ∧ Con K C f v u ∧ fs.lookup f = none ∧ Q v H1
/-- e.f = value -/
def sFld (K : PySem.W.Frag) (ta tv : TE) (f : Str) : TS := fun D σ H => tv σ H fun y H1 => ta σ H1 fun x H2 => ∃ a C dx fs, x = .ref a ∧ H2 a = some (.ins C dx fs) ∧ Cls K C ∧ NoAttr K C f ∧ fs.length < 1000 ∧
  D.nx σ (upd H2 a (.ins C dx (putF f y fs)))
/-- an augmented operator on two values -/
def InOp (X : Cx) (op : Operator) (rd : V → V → Hp → VK → Prop) : Prop :=
  ∀ (pins : List (Addr × Obj)) (s : Shared) (σ : St) (H : Hp) (x y : V) (u v : Value) (Q : VK), Inv X pins σ H s → RelV x u → RelV y v → rd x y H Q → wpAny (model X.prog X.w) X.A (inplaceOp op u v) (EP X pins σ Q) X.xe s
/-- e.f op= value -/
def sFldAug (K : PySem.W.Frag) (ta tv : TE) (rd : V → V → Hp → VK → Prop) (f : Str) : TS := fun D σ H => ta σ H fun x H1 => ∃ a C dx fs v, x = .ref a ∧ H1 a = some (.ins C dx fs) ∧ Cls K C ∧ NoAttr K C f ∧ fs.lookup f = some v ∧
  tv σ H1 fun y H2 => rd v y H2 fun z H3 => ∃ dx' fs', H3 a = some (.ins C dx' fs') ∧ fs'.length < 1000 ∧ D.nx σ (upd H3 a (.ins C dx' (putF f z fs')))

section
variable {X : Cx} {o e value : Expr} {f : Str} {pos pos' tpos : Pos} {ta tv : TE}
def rAdd : V → V → Hp → VK → Prop := fun x y H Q => ∃ i j, x = .int i ∧ y = .int j ∧ Q (.int (i + j)) H
def rSub : V → V → Hp → VK → Prop := fun x y H Q => ∃ i j, x = .int i ∧ y = .int j ∧ Q (.int (i - j)) H
end

/-! ### isinstance -/
section
variable {X : Cx} {pins : List (Addr × Obj)} {σ : St} {H : Hp} {s : Shared} {A : Around} {E : Value → Shared → Prop} {Q : Value → Shared → Prop} {c : Value} {b : Bool}
/-- the type of a value, as the fragment's deciders take it; for an instance its class -/
inductive TyOf (K : PySem.W.Frag) (H : Hp) : V → Value → Prop where
  | non : TyOf K H .non (.type "NoneType")
  | bl (x : Bool) : TyOf K H (.bl x) (.type "bool")
  | int (i : Int) : TyOf K H (.int i) (.type "int")
  | str (x : Str) : TyOf K H (.str x) (.type "str")
  | flt (x : UInt64) : TyOf K H (.flt x) (.type "float")
  | lst {a : Addr} {xs : List V} (e : H a = some (.lst xs)) : TyOf K H (.ref a) (.type "list")
  | frz {a : Addr} {o : Obj} {xs : List V} (e : H a = some (.frz o (.lst xs))) : TyOf K H (.ref a) (.type "list")
  | tup {a : Addr} {xs : List V} (e : H a = some (.tup xs)) : TyOf K H (.ref a) (.type "tuple")
  | dK {a : Addr} {kvs : List (Key × V)} (e : H a = some (.dK kvs)) : TyOf K H (.ref a) (.type "dict")
  | dT {a : Addr} {kvs : List (List Key × V)} (e : H a = some (.dT kvs)) : TyOf K H (.ref a) (.type "dict")
  | ins {a C dx : Addr} {fs : List (Str × V)} (e : H a = some (.ins C dx fs)) (cl : Cls K C) (ha : PySem.W.findIn K (.ref C) "__class__" = some (some (.builtin "object.__class__")))
      (hn : PySem.W.specialIn K (.builtin "object.__class__") "__get__" = some (some (.builtin "getset_descriptor.__get__"))) (htk : PySem.W.takesIn K (.builtin "object.__class__") = some true)
      (hm : PySem.W.mroIn K C (.type "object") = some true) : TyOf K H (.ref a) (.ref C)
/-- isinstance(x, c) for one class c, a built-in or an own one: kitOne's answer -/
theorem isinst_ok {x : V} {u t : Value} (I : Inv X pins σ H s) (rx : RelV x u) (ty : TyOf X.K H x t) (e : PySem.W.kitOne X.K t c = some b) (h : ∀ tk, Q (.bool b) { s with toks := tk }) :
    wpAny (model X.prog X.w) A (call (.builtin "isinstance") [u, c]) Q E s := by
  cases ty with
  | non => cases (show u = Value.none from rx); exact PySem.W.kia_one PySem.W.kitx_none I.kIn True.intro e (fun z => nomatch z) h
  | bl y => cases (show u = Value.bool y from rx); exact PySem.W.kia_one PySem.W.kitx_bool I.kIn True.intro e (fun z => nomatch z) h
  | int i => obtain ⟨t, q⟩ := (show ∃ t, u = Value.int i t from rx); cases q; exact PySem.W.kia_one PySem.W.kitx_int I.kIn True.intro e (fun z => nomatch z) h
  | str y => obtain ⟨t, q⟩ := (show ∃ t, u = Value.str y t from rx); cases q; exact PySem.W.kia_one PySem.W.kitx_str I.kIn True.intro e (fun z => nomatch z) h
  | flt y => obtain ⟨t, q⟩ := (show ∃ t, u = Value.float y t from rx); cases q; exact PySem.W.kia_one PySem.W.kitx_float I.kIn True.intro e (fun z => nomatch z) h
  | @lst a xs ea =>
    cases (show u = Value.ref a from rx)
    obtain ⟨_, _, n, _, h1⟩ := (show ObjOk X.prog X.w H s.heap a (.lst xs) from I.hok a _ ea)
    exact PySem.W.kia_one PySem.W.kitx_list I.kIn ⟨_, h1, rfl⟩ e (fun z => nomatch z) h
  | @frz a ob xs ea =>
    cases (show u = Value.ref a from rx)
    obtain ⟨_, _, _, n, _, h1⟩ := (show ObjOk X.prog X.w H s.heap a (.frz ob (.lst xs)) from I.hok a _ ea)
    exact PySem.W.kia_one PySem.W.kitx_list I.kIn ⟨_, h1, rfl⟩ e (fun z => nomatch z) h
  | @tup a xs ea =>
    cases (show u = Value.ref a from rx)
    obtain ⟨_, _, _, p⟩ := (show ObjOk X.prog X.w H s.heap a (.tup xs) from I.hok a _ ea)
    obtain ⟨o, h1, h2, _⟩ := p
    exact PySem.W.kia_one PySem.W.kitx_tuple I.kIn ⟨o, h1, h2⟩ e (fun z => nomatch z) h
  | @dK a kvs ea =>
    cases (show u = Value.ref a from rx)
    obtain ⟨_, _, vs, _, p⟩ := (show ObjOk X.prog X.w H s.heap a (.dK kvs) from I.hok a _ ea)
    obtain ⟨o, es, ep, h1, h2, _⟩ := p
    exact PySem.W.kia_one PySem.W.kitx_dict I.kIn ⟨o, h1, h2.1⟩ e (fun z => nomatch z) h
  | @dT a kvs ea =>
    cases (show u = Value.ref a from rx)
    obtain ⟨_, _, xs, _, o, es, ep, h1, h2, _⟩ := (show ObjOk X.prog X.w H s.heap a (.dT kvs) from I.hok a _ ea)
    exact PySem.W.kia_one PySem.W.kitx_dict I.kIn ⟨o, h1, h2.1⟩ e (fun z => nomatch z) h
  | @ins a C dx fs ea cl ha hn htk hm =>
    cases (show u = Value.ref a from rx)
    obtain ⟨mA, O, _⟩ := ins_get I.hok ea
    obtain ⟨od, J, _⟩ := O.look
    exact PySem.W.kia_one (PySem.W.kitx_own (cl.get _) cl.hd ha hn htk hm) I.kIn J e (fun z => nomatch z) h
end
end L2

namespace L2
open PySem PySem.Spec PyProof.Rows

/-! ### room -/
structure Room (k : Nat) (A : Around) : Prop where
  hd : A.handled = none
  dp : A.depth + 3 * k + 5 < recursionLimit
  un : A.units + 16 * k + 200 < cLine
theorem Room.mono {j k : Nat} {A : Around} (r : Room k A) (h : j ≤ k) : Room j A := ⟨r.hd, by have := r.dp; omega, by have := r.un; omega⟩
theorem Room.deeper {k : Nat} {A : Around} (r : Room (k + 1) A) (env : Env) : Room k (A.deeper env) :=
  ⟨r.hd, by have := r.dp; show A.depth + 1 + 3 * k + 5 < _; omega, by have := r.un; show A.units + 3 + 16 * k + 200 < _; omega⟩
theorem Room.depth {k : Nat} {A : Around} (r : Room k A) : A.depth < recursionLimit := by have := r.dp; omega
theorem Room.units {k : Nat} {A : Around} (r : Room k A) : A.units + 64 < cLine := by have := r.un; omega
theorem Room.units0 {k : Nat} {A : Around} (r : Room k A) : A.units < cLine := by have := r.un; omega

/-! ### argument lists and displays -/
def tNil : TA := fun _ H Q => Q [] H
def tCons (ta : TE) (tr : TA) : TA := fun σ H Q => ta σ H fun x H1 => tr σ H1 fun xs H2 => Q (x :: xs) H2
section
variable {X : Cx} {e : Expr} {es : List Expr} {te : TE} {t : TA} {pos : Pos}
theorem pa_nil : PA X [] tNil := fun _ _ _ _ H Q I h => Calls.spliced_nil ⟨[], H, I, .nil, h⟩
theorem pa_cons (ha : PE X e te) (hr : PA X es t) (hs : starEach (e :: es) X.env = (false, eval e X.env) :: starEach es X.env := by rfl) : PA X (e :: es) (tCons te t) := by
  intro pos pins s σ H Q I h
  rw [hs]
  show wpAny _ _ (spliced ((false, eval e X.env) :: backTo pos (starEach es X.env))) _ _ s
  refine Calls.spliced_cons (thn (ha pins s σ H _ I h) fun u s1 ⟨x, H1, I1, r1, q1⟩ => ?_)
  exact thn (hr pos pins s1 σ H1 _ I1 q1) fun us s2 ⟨xs, H2, I2, r2, q2⟩ => ⟨x :: xs, H2, I2, .cons r1 r2, q2⟩

/-- a tuple, a list of written items -/
def tTup (t : TA) : TE := fun σ H Q => t σ H fun xs H1 => xs.length ≤ sizeLine ∧ ∀ p, H1 p = none → Q (.ref p) (upd H1 p (.tup xs))
def tLst (t : TA) : TE := fun σ H Q => t σ H fun xs H1 => xs.length ≤ sizeLine ∧ ∀ p, H1 p = none → Q (.ref p) (upd H1 p (.lst xs))
theorem pe_tup {x1} (h : PA X es t) : PE X (.Tuple es x1 pos) (tTup t) := by
  intro pins s σ H Q I hq
  refine wpAny_Tuple_spliced (thn (h pos pins s σ H _ I hq) fun us s1 ⟨xs, H1, I1, r, z, q⟩ => ⟨by rw [← r.length]; exact z, ?_⟩)
  have hf : H1 s1.heap.objs.size = none := I1.hok.fresh (Nat.le_refl _)
  refine ⟨.ref s1.heap.objs.size, upd H1 s1.heap.objs.size (.tup xs), I1.laid (t' := s1.toks) (fun b u e => Heap.get?_push_of_some _ e) (Nat.le_refl _) ?_, rfl, q _ hf⟩
  exact ⟨z, us, r, ⟨_, Heap.get?_push_size _ rfl, rfl, _, rfl⟩⟩
theorem pe_lst (h : PA X es t) : PE X (.List es pos) (tLst t) := by
  intro pins s σ H Q I hq
  refine wpAny_List_spliced (thn (h pos pins s σ H _ I hq) fun us s1 ⟨xs, H1, I1, r, z, q⟩ => ⟨by rw [← r.length]; exact z, ?_⟩)
  have hf : H1 s1.heap.objs.size = none := I1.hok.fresh (Nat.le_refl _)
  refine ⟨.ref s1.heap.objs.size, upd H1 s1.heap.objs.size (.lst xs), I1.laid (t' := s1.toks) (fun b u e => Heap.get?_push_of_some _ e) (Nat.le_refl _) ?_, rfl, q _ hf⟩
  exact ⟨z, us, 0, r, Heap.get?_push_size _ rfl⟩
end

/-! ### what a def promises -/
/-- a def's promise: the bound arguments in the parameters' order, the heap, the wanted end, the wanted exception -/
abbrev Sp := List V → Hp → VK → XK → Prop
/-- how an exception lies behind a call (file 08 gives it): the callers' frames, abstract heap and state ahead of the call, the wish, the exception, the state -/
abbrev CXT := List Env → Hp → Shared → XK → Value → Shared → Prop

/-- the state at a call -/
structure Env0 (P : Program) (w : World) (K : PySem.W.Frag) (mg : Str → Option Value) (base : Heap) (A : Around) (outer : List Env) (s : Shared) (H : Hp) : Prop where
  frames : A.frames = some outer
  mod : Mod K mg base
  bs : ∀ b o, base.get? b = some o → s.heap.get? b = some o ∧ H b = none
  bsz : base.objs.size ≤ s.heap.objs.size
  funs : s.heap.FunFrames base outer
  frf : ∀ b ∈ frs outer, H b = none
  hok : HOk P w H s.heap
  bare : AllBare s.gens
/-- a call's end -/
def CE (outer : List Env) (P : Program) (w : World) (H : Hp) (s : Shared) (Q : VK) (u : Value) (s' : Shared) : Prop :=
  ∃ v H', s'.os = s.os ∧ AllBare s'.gens ∧ Un (frs outer) [] H H' s.heap s'.heap ∧ HOk P w H' s'.heap ∧ RelV v u ∧ Q v H'
def CR (CX : CXT) (outer : List Env) (P : Program) (w : World) (H : Hp) (s : Shared) (Q : VK) (E : XK) (r : Result) (s' : Shared) : Prop :=
  match r with
  | .ok (.ret u) => CE outer P w H s Q u s'
  | .ok _ => False
  | .error e => CX outer H s E e s'
structure FnOk (P : Program) (w : World) (K : PySem.W.Frag) (mg : Str → Option Value) (base : Heap) (CX : CXT) (k : Nat) (f : Addr) (fd : FuncData) (ps : List Str) (sp : Sp) : Prop where
  len : ∀ vs H Q E, sp vs H Q E → vs.length = ps.length
  run : ∀ (A : Around) (outer : List Env) (s : Shared) (H : Hp) (args : Args) (us : List Value) (vs : List V) (Q : VK) (E : XK), Room k A → Env0 P w K mg base A outer s H → BindsTo s fd args (ps.zip us) → Vals vs us → sp vs H Q E →
    codeAny (model P w) A (.call (.ref f) args) (CR CX outer P w H s Q E) s
theorem FnOk.mono {P : Program} {w : World} {K : PySem.W.Frag} {mg : Str → Option Value} {base : Heap} {CX : CXT} {j k : Nat} {f : Addr} {fd : FuncData} {ps : List Str} {sp : Sp} (F : FnOk P w K mg base CX j f fd ps sp) (h : j ≤ k) :
    FnOk P w K mg base CX k f fd ps sp := ⟨F.len, fun A outer s H args us vs Q E hr => F.run A outer s H args us vs Q E (hr.mono h)⟩
section
variable {X : Cx} {pins : List (Addr × Obj)} {σ : St} {H : Hp} {s s' : Shared}
/-- from a body: what a callee wants -/
theorem Inv.env0 (I : Inv X pins σ H s) : Env0 X.prog X.w X.K X.mg X.base X.A X.stack s H :=
  ⟨I.ok.frames, I.ok.mod, I.bs, Nat.le_trans I.ok.bsz I.sz, I.stack, I.stkFree, I.hok, I.bare⟩
/-- behind a call -/
theorem Inv.after {Q : VK} {u : Value} (I : Inv X pins σ H s) (h : CE X.stack X.prog X.w H s Q u s') : EP X pins σ Q u s' := by
  obtain ⟨v, H', os, bare, un, hok, r, q⟩ := h
  obtain ⟨hh, g, d, t, os'⟩ := s'
  obtain rfl : os' = s.os := os
  exact ⟨v, H', I.call (h' := hh) (g' := g) (d' := d) (t' := t) (ch := []) un hok bare (fun b z => absurd z (by simp)), r, q⟩
end

/-! ### calls -/
/-- f(..): the written arguments, then the defaults dvs; E: what is wanted of an exception -/
def tCall (sp : Sp) (dvs : List V) (E : XK) (t : TA) : TE := fun σ H Q => t σ H fun vs H1 => sp (vs ++ dvs) H1 Q E
/-- o.m(..) of an instance of the class at C -/
def tMeth (C : Addr) (m : Str) (sp : Sp) (dvs : List V) (E : XK) (ta : TE) (t : TA) : TE := fun σ H Q => ta σ H fun x H1 => ∃ a dx fs, x = .ref a ∧ H1 a = some (.ins C dx fs) ∧ fs.lookup m = none ∧
  t σ H1 fun vs H2 => sp (x :: (vs ++ dvs)) H2 Q E
/-- C(..): a new instance and its dict, then __init__ -/
def tMake (C : Addr) (sp : Sp) (dvs : List V) (E : XK) (t : TA) : TE := fun σ H Q => t σ H fun vs H1 => ∀ x dx, H1 x = none → H1 dx = none → dx ≠ x →
  sp (.ref x :: (vs ++ dvs)) (upd (upd H1 dx (.own x)) x (.ins C dx [])) (fun v H2 => v = .non ∧ Q (.ref x) H2) E

/-- how the parameters are bound: us the positional arguments, kw the keywords' values by name, ds the defaults that fill up -/
def Binds (K : PySem.W.Frag) (fd : FuncData) (ps : List Str) (ds : List Value) : Prop :=
  ∀ (s : Shared) (us : List Value), K.In s.heap → (us ++ ds).length = ps.length → BindsTo s fd ⟨us, []⟩ (ps.zip (us ++ ds))
/-- every parameter is given -/
theorem Binds.all {K : PySem.W.Frag} {fd : FuncData} {ps : List Str} (h : ∀ us : List Value, us.length = ps.length → bindArgs fd ⟨us, []⟩ = pure (ps.zip us)) : Binds K fd ps [] := fun s us _ hl => by
  rw [List.append_nil] at hl ⊢
  exact .of_eq (h us hl)

/-- an exception of a callee reaches what this body wants of exceptions -/
def Passes (CX : CXT) (X : Cx) (E : XK) : Prop := ∀ (pins : List (Addr × Obj)) (σ : St) (H : Hp) (s : Shared) (e : Value) (s' : Shared), Inv X pins σ H s → CX X.stack H s E e s' → X.xe e s'

section
variable {X : Cx} {CX : CXT} {k : Nat} {f C : Addr} {fd : FuncData} {ps : List Str} {sp : Sp} {dvs : List V} {ds : List Value} {E : XK} {x m : Str} {p pos apos : Pos} {e o : Expr} {es : List Expr} {ta : TE} {t : TA}

/-- the callee runs -/
theorem run_fn {pins : List (Addr × Obj)} {σ : St} {H : Hp} {s : Shared} {Q : VK} {us : List Value} {vs : List V} (F : FnOk X.prog X.w X.K X.mg X.base CX k f fd ps sp) (hr : Room k X.A) (hb : Binds X.K fd ps ds) (hd : Vals dvs ds) (hx : Passes CX X E)
    (I : Inv X pins σ H s) (r : Vals vs us) (h : sp (vs ++ dvs) H Q E) : wpAny (model X.prog X.w) X.A (call (.ref f) us) (EP X pins σ Q) X.xe s := by
  have r2 : Vals (vs ++ dvs) (us ++ ds) := r.append hd
  have hl : (us ++ ds).length = ps.length := by rw [← r2.length]; exact F.len _ _ _ _ h
  refine wpAny_call (codeAny_mono (F.run X.A X.stack s H ⟨us, []⟩ (us ++ ds) (vs ++ dvs) Q E hr I.env0 (hb s us I.kIn hl) r2 h) fun r s' hq => ?_)
  cases r with
  | error e => exact hx pins σ H s e s' I hq
  | ok fl =>
    cases fl with
    | ret u => exact I.after hq
    | next => exact False.elim hq
    | brk => exact False.elim hq
    | cont => exact False.elim hq

theorem pe_call (F : FnOk X.prog X.w X.K X.mg X.base CX k f fd ps sp) (hr : Room k X.A) (hg : Gl X x) (hm : X.mg x = some (.ref f)) (hk : PySem.W.keepIn X.K (.ref f) = true) (hb : Binds X.K fd ps ds) (hd : Vals dvs ds) (hx : Passes CX X E)
    (ha : PA X (e :: es) t) (hdb : (x == ("__debug__" : Str)) = false := by decide) (he : starEach (e :: es) X.env = (false, eval e X.env) :: starEach es X.env := by rfl) (hpl : (backTo pos (starEach es X.env)).any (·.1) = false := by rfl) :
    PE X (.Call (.Name x p) (e :: es) [] pos) (tCall sp dvs E t) := by
  intro pins s σ H Q I h
  refine wpAny_Call_Name_kw (ld_glob I hg hm ?_ hdb)
  refine PySem.W.callWith_K (h₀ := X.base) I.ok.mod.kin hk (thn (ha pos pins s σ H _ I h) fun us s1 ⟨vs, H1, I1, r, q⟩ => ⟨I1.kIn, ?_⟩) he hpl
  exact run_fn F hr hb hd hx I1 r q
theorem pe_call0 (F : FnOk X.prog X.w X.K X.mg X.base CX k f fd ps sp) (hr : Room k X.A) (hg : Gl X x) (hm : X.mg x = some (.ref f)) (hk : PySem.W.keepIn X.K (.ref f) = true) (hb : Binds X.K fd ps ds) (hd : Vals dvs ds) (hx : Passes CX X E)
    (hdb : (x == ("__debug__" : Str)) = false := by decide) : PE X (.Call (.Name x p) [] [] pos) (tCall sp dvs E tNil) := by
  intro pins s σ H Q I h
  refine wpAny_Call_Name_kw (ld_glob I hg hm ?_ hdb)
  exact PySem.W.callWith_K0 I.kIn hk (run_fn (us := []) F hr hb hd hx I .nil h)

/-- what a class must have to be made -/
structure Mk (K : PySem.W.Frag) (C f : Addr) : Prop where
  makes : PySem.W.makesIn K C = true
  init : PySem.W.findIn K (.ref C) "__init__" = some (some (.ref f))
  fn : PySem.W.isFn K (.ref f) = true
  kp : PySem.W.keepIn K (.ref C) = true

end

/-! ### keywords -/
/-- the values of the keywords, from the left -/
def PK (X : Cx) (kws : List Keyword) (t : TA) : Prop :=
  ∀ (pos : Pos) (pins : List (Addr × Obj)) (s : Shared) (σ : St) (H : Hp) (Q : List V → Hp → Prop), Inv X pins σ H s → t σ H Q → wpAny (model X.prog X.w) X.A (evalAll ((backToKw pos (keywordEach kws X.env)).map (·.2))) (AP X pins σ Q) X.xe s
section
variable {X : Cx} {CX : CXT} {k : Nat} {f C : Addr} {fd : FuncData} {ps ks : List Str} {sp : Sp} {E : XK} {x m : Str} {p pos apos kpos : Pos} {e o : Expr} {es : List Expr} {kws : List Keyword} {te ta : TE} {t tk : TA} {nm : Option Str}
/-- how a call with keywords binds: g puts the positional values us and the keywords' values ws (names ks) in the parameters' order, defaults among them -/
structure KBinds (K : PySem.W.Frag) (fd : FuncData) (ps ks : List Str) (g : List Value → List Value → List Value) (gV : List V → List V → List V) : Prop where
  to : ∀ (s : Shared) (us ws : List Value), K.In s.heap → (g us ws).length = ps.length → BindsTo s fd ⟨us, ks.zip ws⟩ (ps.zip (g us ws))
  rel : ∀ {vs : List V} {us : List Value} {zs : List V} {ws : List Value}, Vals vs us → Vals zs ws → Vals (gV vs zs) (g us ws)
def tCallK (sp : Sp) (gV : List V → List V → List V) (E : XK) (t tk : TA) : TE := fun σ H Q => t σ H fun vs H1 => tk σ H1 fun zs H2 => sp (gV vs zs) H2 Q E
variable {g : List Value → List Value → List Value} {gV : List V → List V → List V}
end

/-! ### a def's body keeps its promise -/
/-- names: the parameters first -/
structure FnScope (N P : List Str) (sc : Scope) : Prop where
  kind : sc.kind = .function
  co : sc.isCoroutine = false
  gen : sc.isGenerator = false
  nd : N.Nodup
  pre : N.take P.length = P
  par : ∀ x ∈ P, sc.names.lookup x = some .local ∨ sc.names.lookup x = some .cell
  nofree : ∀ y ∈ sc.names, y.2 ≠ .free

theorem bindL_out {kindOf : Str → Option NameKind} {x : Str} : ∀ {binds : List (Str × Value)} {m : Str → Option Value}, (∀ v, (x, v) ∉ binds) → bindL kindOf binds m x = m x
  | [], _, _ => rfl
  | (n, v) :: r, m, h => by
    unfold bindL
    rw [bindL_out fun w hw => h w (List.mem_cons_of_mem _ hw)]
    split
    · have : x ≠ n := by rintro rfl; exact h v List.mem_cons_self
      simp [this]
    · rfl
theorem bindC_out {kindOf : Str → Option NameKind} {x : Str} : ∀ {binds : List (Str × Value)} {m : Str → Option Value}, (∀ v, (x, v) ∉ binds) → bindC kindOf binds m x = m x
  | [], _, _ => rfl
  | (n, v) :: r, m, h => by
    unfold bindC
    rw [bindC_out fun w hw => h w (List.mem_cons_of_mem _ hw)]
    split
    · rfl
    · have : x ≠ n := by rintro rfl; exact h v List.mem_cons_self
      simp [this]
theorem bindL_get {kindOf : Str → Option NameKind} {x : Str} {v : Value} : ∀ {P : List Str} {vs : List Value} {i : Nat} {m : Str → Option Value}, P.Nodup → P[i]? = some x → vs[i]? = some v → kindOf x = some .local →
    bindL kindOf (P.zip vs) m x = some v
  | [], _, _, _, _, h, _, _ => by simp at h
  | _ :: _, [], _, _, _, _, h, _ => by simp at h
  | p :: P, w :: vs, 0, m, nd, h1, h2, hk => by
    simp at h1 h2; subst h1; subst h2
    show bindL kindOf ((p, w) :: P.zip vs) m p = _
    unfold bindL
    rw [bindL_out fun v hv => (List.nodup_cons.mp nd).1 (List.of_mem_zip hv).1, if_pos hk]
    simp
  | p :: P, w :: vs, i + 1, m, nd, h1, h2, hk => by
    show bindL kindOf ((p, w) :: P.zip vs) m x = _
    unfold bindL
    exact bindL_get (i := i) (List.nodup_cons.mp nd).2 (by simpa using h1) (by simpa using h2) hk
theorem bindC_get {kindOf : Str → Option NameKind} {x : Str} {v : Value} : ∀ {P : List Str} {vs : List Value} {i : Nat} {m : Str → Option Value}, P.Nodup → P[i]? = some x → vs[i]? = some v → kindOf x ≠ some .local →
    bindC kindOf (P.zip vs) m x = some v
  | [], _, _, _, _, h, _, _ => by simp at h
  | _ :: _, [], _, _, _, _, h, _ => by simp at h
  | p :: P, w :: vs, 0, m, nd, h1, h2, hk => by
    simp at h1 h2; subst h1; subst h2
    show bindC kindOf ((p, w) :: P.zip vs) m p = _
    unfold bindC
    rw [bindC_out fun v hv => (List.nodup_cons.mp nd).1 (List.of_mem_zip hv).1, if_neg hk]
    simp
  | p :: P, w :: vs, i + 1, m, nd, h1, h2, hk => by
    show bindC kindOf ((p, w) :: P.zip vs) m x = _
    unfold bindC
    exact bindC_get (i := i) (List.nodup_cons.mp nd).2 (by simpa using h1) (by simpa using h2) hk

/-- the names' values at the entry -/
def start (N : List Str) (vs : List V) : St := vs.map some ++ List.replicate (N.length - vs.length) none

/-- the context of a def's body, at its entry; an exception leaves the frame, then lies as CX says -/
def cxOf (CX : CXT) (P : Program) (w : World) (K : PySem.W.Frag) (mg : Str → Option Value) (base : Heap) (N : List Str) (qual : Str) (scope : Scope) (f : Addr) (cd : Value) (A : Around) (outer : List Env) (s : Shared) (H : Hp) (E : XK) : Cx where
  prog := P
  w := w
  K := K
  mg := mg
  base := base
  A := A.deeper (envOfC qual scope s.heap.objs.size f cd)
  N := N
  s₀ := s
  H₀ := H
  env := envOfC qual scope s.heap.objs.size f cd
  outer := outer
  stack := envOfC qual scope s.heap.objs.size f cd :: outer
  ex := []
  calm := true
  fn := fun _ => true
  pn := []
  xe := fun e s' => wpAny (model P w) (A.deeper (envOfC qual scope s.heap.objs.size f cd)) (leaving (envOfC qual scope s.heap.objs.size f cd) e) (fun _ s'' => CX outer H s E e s'') (fun e' s'' => CX outer H s E e' s'') s'

theorem cell_has {sc : Scope} {n : Nat} {x : Str} (h : sc.names.lookup x = some .cell) : ∃ c, (cellsFrom n sc.names []).lookup x = some c := by
  have q := PySem.W.cellsFrom_some sc.names n [] (.inl h)
  exact Option.isSome_iff_exists.mp q

theorem inv_start {CX : CXT} {P : Program} {w : World} {K : PySem.W.Frag} {mg : Str → Option Value} {base : Heap} {N ps : List Str} {qual : Str} {scope : Scope} {f : Addr} {cd : Value} {A : Around} {outer : List Env} {s s1 : Shared} {H : Hp} {E : XK} {us : List Value} {vs : List V}
    (S : FnScope N ps scope) (hd : A.handled = none) (e0 : Env0 P w K mg base A outer s H) (hl : vs.length = ps.length) (r : Vals vs us)
    (x : InCallC s s.heap.objs.size (bindL (envOfC qual scope s.heap.objs.size f cd).kindOf (ps.zip us) fun _ => none) (cellsFrom (s.heap.objs.size + 1) scope.names []) (bindC (envOfC qual scope s.heap.objs.size f cd).kindOf (ps.zip us) fun _ => none) s1) :
    Inv (cxOf CX P w K mg base N qual scope f cd A outer s H E) [] (start N vs) H s1 := by
  have hpl : ps.length ≤ N.length := by have := congrArg List.length S.pre; rw [List.length_take] at this; omega
  obtain ⟨h1, tk, rfl, hk⟩ := x.done
  have noA : ∀ b : Addr, b ∉ (cxOf CX P w K mg base N qual scope f cd A outer s H E).ex := fun b z => absurd (show b ∈ ([] : List Addr) from z) (by simp)
  refine ⟨⟨e0.mod, S.kind, rfl, rfl, Nat.le_refl _, fun y z c h1 h2 => ?_, fun y hy => ?_, fun y c _ h => ?_, fun _ => hd, Around.frames_deeper e0.frames, .inr ⟨rfl, rfl⟩, fun b z => absurd z (noA b), e0.bs, e0.bsz, fun b _ _ => noA b, fun b z => absurd z (noA b), e0.funs, e0.frf⟩,
    rfl, e0.bare, Un.kept hk, ⟨_, x.toInCall.ns, fun i y v h1 h2 h3 => ?_⟩, fun y c h => ⟨_, x.cell y c h⟩, e0.hok.fresh (Nat.le_refl _), fun y c h => ?_, fun p hp => absurd (show p ∈ ([] : List (Addr × Obj)) from hp) (by simp), e0.hok.kept hk, ?_⟩
  · exact name_of_addr x.apart (PySem.mem_of_lookup h1) (PySem.mem_of_lookup h2)
  · have hy : scope.names.lookup y = some .cell ∨ scope.names.lookup y = some .free := hy
    rcases hy with hy | hy
    · exact cell_has hy
    · exact absurd rfl (S.nofree _ (PySem.mem_of_lookup hy))
  · exact Nat.le_of_lt (x.above y c (PySem.mem_of_lookup h))
  · have hi : i < vs.length := by
      unfold start at h2
      by_cases hi : i < vs.length
      · exact hi
      · rw [List.getElem?_append_right (by simpa using hi)] at h2
        rw [List.getElem?_replicate] at h2
        split at h2 <;> cases h2
    have ha : vs[i]? = some v := by
      unfold start at h2
      rw [List.getElem?_append_left (by simpa using hi), List.getElem?_map] at h2
      cases e : vs[i]? with
      | none => rw [e] at h2; cases h2
      | some a => rw [e] at h2; cases h2; rfl
    obtain ⟨u, hu, rv⟩ := r.get ha
    have hp : ps[i]? = some y := by
      rw [← S.pre, List.getElem?_take_of_lt (by omega)]; exact h1
    have ndP : ps.Nodup := by rw [← S.pre]; exact S.nd.sublist (List.take_sublist _ _)
    refine ⟨u, rv, ?_⟩
    rcases S.par y (List.mem_of_getElem? hp) with k | k
    · exact .inl ⟨k, bindL_get ndP hp hu k⟩
    · obtain ⟨c, e⟩ := cell_has (n := s.heap.objs.size + 1) k
      refine .inr ⟨.inl k, c, e, ?_⟩
      have q := x.cell y c e
      rw [bindC_get ndP hp hu (by show scope.names.lookup y ≠ _; rw [k]; decide)] at q
      exact q
  · exact e0.hok.fresh (Nat.le_of_lt (x.above y c (PySem.mem_of_lookup h)))
  · unfold start
    show _ = N.length
    rw [List.length_append, List.length_map, List.length_replicate]
    omega

/-- THE RULE: a def (or a method) of the text, by its body. The body's reading t is chosen for each entry; it is run at the parameters' values -/
theorem fn_of {CX : CXT} {P : Program} {w : World} {K : PySem.W.Frag} {mg : Str → Option Value} {base : Heap} {k : Nat} {f : Addr} {name qual : Str} {params : Arguments} {body : List Stmt} {scope : Scope} {dV kV doc pm cdv ct oc : Value} {an od : Option Addr}
    {osl : Array (Option Value)} {N ps : List Str} {sp : Sp} (lk : K.lookup f = some ⟨oc, od, .func (PySem.W.fnOf name qual params body scope dV kV doc pm an cdv ct), osl⟩) (hcd : PySem.W.codeIn K cdv qual = true) (S : FnScope N ps scope)
    (len : ∀ vs H Q E, sp vs H Q E → vs.length = ps.length)
    (hbody : ∀ (A : Around) (outer : List Env) (s : Shared) (H : Hp) (vs : List V) (Q : VK) (E : XK), Room k (A.deeper (envOfC qual scope s.heap.objs.size f cdv)) → sp vs H Q E →
      ∃ t, PSs (cxOf CX P w K mg base N qual scope f cdv A outer s H E) body t ∧ t { nx := fun _ H' => Q .non H', rt := Q } (start N vs) H) :
    FnOk P w K mg base CX (k + 1) f (PySem.W.fnOf name qual params body scope dV kV doc pm an cdv ct) ps sp := by
  refine ⟨len, fun A outer s H args us vs Q E hr e0 hb r hsp => ?_⟩
  have hl := len _ _ _ _ hsp
  have KX : K.In s.heap := e0.mod.kin.keeps fun b o e => (e0.bs b o e).1
  have lim : s.heap.NoLimit := e0.mod.nolimit.keeps fun b o e => (e0.bs b o e).1
  have hkind : ∀ y ∈ ps.zip us, scope.names.lookup y.1 = some .local ∨ (scope.names.lookup y.1 = some .cell ∧ ((cellsFrom (s.heap.objs.size + 1) scope.names []).lookup y.1).isSome = true) := fun ⟨n, v⟩ hy => by
    rcases S.par n (List.of_mem_zip hy).1 with q | q
    · exact .inl q
    · exact .inr ⟨q, PySem.W.cellsFrom_some _ _ _ (.inl q)⟩
  refine codeAny_call_function hr.depth (KX _ _ lk) rfl S.co S.gen rfl (PySem.W.codeRec_of KX hcd) (hb _ _ _ _ ?_)
  refine wpAny_newFunctionEnv_cells S.kind hkind fun env he s1 x => ?_
  subst he
  refine ⟨lim.keeps x.toInCall.keep, codeAny_func ?_⟩
  obtain ⟨t, ht, hq⟩ := hbody A outer s H vs Q E (hr.deeper _) hsp
  have I : Inv (cxOf CX P w K mg base N qual scope f cdv A outer s H E) [] (start N vs) H s1 := inv_start S hr.hd e0 hl r x
  refine wpAny_mono (ht [] s1 (start N vs) H _ I hq) (fun fl s' hs => ?_) fun e s' hs => hs
  have fin : ∀ {σ' : St} {H' : Hp} {v : V} {u : Value}, Inv (cxOf CX P w K mg base N qual scope f cdv A outer s H E) [] σ' H' s' → RelV v u → Q v H' → CE outer P w H s Q u s' :=
    fun {σ' H' v u} J rv q => ⟨v, H', J.os, J.bare, J.base, J.hok, rv, q⟩
  cases fl with
  | ret u =>
    obtain ⟨v, σ', H', J, rv, q⟩ := hs
    exact fin J rv q
  | next =>
    obtain ⟨σ', H', J, q⟩ := hs
    exact fin (v := V.non) (u := Value.none) J rfl q
  | brk =>
    obtain ⟨_, _, _, q⟩ := hs
    exact False.elim q
  | cont =>
    obtain ⟨_, _, _, q⟩ := hs
    exact False.elim q
end L2

namespace L2
open PySem PySem.Spec PyProof.Rows
section
variable {X : Cx} {x : Str} {p pos : Pos} {e : Expr} {es : List Expr} {t : TA} {id T : String} {r : List V → Hp → VK → Prop}

def tCB (r : List V → Hp → VK → Prop) (t : TA) : TE := fun σ H Q => t σ H fun vs H1 => r vs H1 Q
/-- f(e, ..), f a built-in function -/
theorem pe_callB (hc : CallR X (.builtin id) r) (hg : Gl X x) (hm : X.mg x = none) (hv : bootBuiltins x = some (.builtin id)) (ha : PA X (e :: es) t) (hn : x ≠ "__name__" := by decide) (hdb : (x == ("__debug__" : Str)) = false := by decide)
    (he : starEach (e :: es) X.env = (false, eval e X.env) :: starEach es X.env := by rfl) (hpl : (backTo pos (starEach es X.env)).any (·.1) = false := by rfl) : PE X (.Call (.Name x p) (e :: es) [] pos) (tCB r t) := by
  intro pins s σ H Q I h
  refine wpAny_Call_Name_kw (ld_blt I hg hm hv ?_ hn hdb)
  exact PyProof.Rows.callWith_builtin1 (thn (ha pos pins s σ H _ I h) fun us s1 ⟨vs, H1, I1, r1, q1⟩ => hc pins s1 σ H1 vs us Q I1 r1 q1) he hpl
/-- T(e, ..), T a built-in type -/
theorem pe_callTy (hc : CallR X (.type T) r) (hg : Gl X x) (hm : X.mg x = none) (hv : bootBuiltins x = some (.type T)) (ha : PA X (e :: es) t) (hn : x ≠ "__name__" := by decide) (hdb : (x == ("__debug__" : Str)) = false := by decide)
    (he : starEach (e :: es) X.env = (false, eval e X.env) :: starEach es X.env := by rfl) (hpl : (backTo pos (starEach es X.env)).any (·.1) = false := by rfl) : PE X (.Call (.Name x p) (e :: es) [] pos) (tCB r t) := by
  intro pins s σ H Q I h
  refine wpAny_Call_Name_kw (ld_blt I hg hm hv ?_ hn hdb)
  exact PyProof.Rows.callWith_type1 (thn (ha pos pins s σ H _ I h) fun us s1 ⟨vs, H1, I1, r1, q1⟩ => hc pins s1 σ H1 vs us Q I1 r1 q1) he hpl
end
end L2

namespace HT
open PySem PyProof.Rows

/-- t < u of tuples of ints -/
def lexLt : List Int → List Int → Bool
  | [], [] => false
  | [], _ :: _ => true
  | _ :: _, [] => false
  | x :: xs, y :: ys => if x = y then lexLt xs ys else decide (x < y)
section
open PySem.SeqAt
open PySem.AutoSeq1 (wpAny_loadPart')
open PySem.MeetsSeq PySem.MeetsSeq2 PySem.MeetsSeq3

end

section
variable {prog : Program} {w : World} {A : Around} {E : Value → Shared → Prop} {s : Shared}

/-! ### t[a:b], not the whole -/
/-- a slice's bound as a place among n (d where it is left out) -/
def sIx (n d : Nat) : Option Int → Nat
  | none => d
  | some v => if v < 0 then (v + (n : Int)).toNat else min v.toNat n
theorem sIx_none (n d : Nat) : sIx n d none = d := rfl
theorem sIx_nat (n d k : Nat) : sIx n d (some (k : Int)) = min k n := by
  show (if (k : Int) < 0 then ((k : Int) + (n : Int)).toNat else min (k : Int).toNat n) = min k n
  rw [if_neg (by omega), Int.toNat_natCast]
end
end HT

namespace L2
open PySem PySem.Spec PyProof.Rows

/-! ### the parts of a slice -/
abbrev TO := St → Hp → (Option Int → Hp → Prop) → Prop
/-- a slice's part (left out, or an int) -/
def PO (X : Cx) (e : Option Expr) (t : TO) : Prop :=
  ∀ (pins : List (Addr × Obj)) (s : Shared) (σ : St) (H : Hp) (Q : Option Int → Hp → Prop), Inv X pins σ H s → t σ H Q →
    wpAny (model X.prog X.w) X.A (evalPart e X.env) (fun u s' => ∃ o H', Inv X pins σ H' s' ∧ IsPart u o ∧ Q o H') X.xe s
def tNoPart : TO := fun _ H Q => Q none H
def tPart (t : TE) : TO := fun σ H Q => t σ H fun x H1 => ∃ i, x = .int i ∧ Q (some i) H1

theorem intsAre_of {ns : List Int} : ∀ {us : List Value}, Vals (ns.map V.int) us → IntsAre us ns := by
  induction ns with
  | nil => intro us r; rw [List.map_nil] at r; cases r; exact .nil
  | cons n ns ih =>
    intro us r
    rw [List.map_cons] at r
    cases r with
    | cons r1 r2 =>
      obtain ⟨t, e⟩ := r1
      subst e
      exact .cons n t (ih r2)

section
variable {X : Cx} {e : Expr} {te : TE} {lo hi : Option Expr} {tl th : TO} {pos p2 : Pos}

theorem po_none : PO X none tNoPart := by
  intro pins s σ H Q I h
  rw [evalPart_none]
  exact wpAny_pure ⟨none, H, I, .none, h⟩
theorem po_some (h : PE X e te) : PO X (some e) (tPart te) := by
  intro pins s σ H Q I hw
  rw [evalPart_some]
  refine thn (h pins s σ H _ I hw) fun u s1 ⟨x, H1, I1, r1, q1⟩ => ?_
  obtain ⟨i, rfl, q⟩ := q1
  obtain ⟨t, rfl⟩ := r1
  exact ⟨some i, H1, I1, .int i t, q⟩

/-- what a slice of a value is, by values: the slice object stands at sl -/
def SlR (X : Cx) (r : V → Option Int → Option Int → Hp → VK → Prop) : Prop :=
  ∀ (pins : List (Addr × Obj)) (s : Shared) (σ : St) (H : Hp) (x : V) (v vl vu : Value) (lo hi : Option Int) (sl : Addr) (Q : VK), Inv X pins σ H s → RelV x v → s.heap.IsSliceOf sl vl vu .none → IsPart vl lo → IsPart vu hi → r x lo hi H Q →
    ∃ T id, typeLookup (.type T) "__getitem__" = pure (some (.builtin id)) ∧ s.TypeIs v T ∧ wpAny (model X.prog X.w) X.A (getItem v (.ref sl)) (EP X pins σ Q) X.xe s
def tSl (r : V → Option Int → Option Int → Hp → VK → Prop) (te : TE) (tl th : TO) : TE := fun σ H Q => te σ H fun x H1 => tl σ H1 fun l H2 => th σ H2 fun u H3 => r x l u H3 Q
/-- a[lo:hi], any a -/
theorem pe_slice {r : V → Option Int → Option Int → Hp → VK → Prop} (hr : SlR X r) (he : PE X e te) (hl : PO X lo tl) (hu : PO X hi th) : PE X (.Subscript e (.Slice lo hi none p2) pos) (tSl r te tl th) := by
  intro pins s σ H Q I h
  refine Subscript_ (thn (he pins s σ H _ I h) fun v s1 ⟨x, H1, I1, r1, q1⟩ => ?_)
  refine wpAny_Slice (thn (hl pins s1 σ H1 _ I1 q1) fun vl s2 ⟨l, H2, I2, pl, q2⟩ => thn (hu pins s2 σ H2 _ I2 q2) fun vu s3 ⟨u, H3, I3, pu, q3⟩ => ?_)
  rw [evalPart_none]
  refine wpAny_pure ?_
  have I4 : Inv X pins σ H3 { s3 with heap := s3.heap.push { cls := .type "slice", data := .fields #[vl, vu, .none] } } := I3.kept (t' := s3.toks) fun b ob q => Heap.get?_push_of_some _ q
  obtain ⟨T, id, hT, ht, hg⟩ := hr pins { s3 with heap := s3.heap.push { cls := .type "slice", data := .fields #[vl, vu, .none] } } σ H3 x v vl vu l u s3.heap.objs.size Q I4 r1 (Heap.IsSliceOf.new ..) pl pu q3
  show wpAny (model X.prog X.w) X.A (subscriptTail e (.Slice lo hi none p2) v (.ref s3.heap.objs.size)) (EP X pins σ Q) X.xe { s3 with heap := s3.heap.push { cls := .type "slice", data := .fields #[vl, vu, .none] } }
  exact tail_any (ops := [.ref s3.heap.objs.size, v]) ht hT hg (by with_unfolding_all rfl)

/-- the items of xs[lo:hi] -/
def cutV (xs : List V) (lo hi : Option Int) : List V := (xs.drop (HT.sIx xs.length 0 lo)).take (HT.sIx xs.length xs.length hi - HT.sIx xs.length 0 lo)
theorem cutV_length (xs : List V) (lo hi : Option Int) : (cutV xs lo hi).length ≤ xs.length := by
  unfold cutV
  rw [List.length_take, List.length_drop]
  omega
/-- t[lo:hi], not the whole of it (the whole would be t itself) -/
def rSlT (K : PySem.W.Frag) : V → Option Int → Option Int → Hp → VK → Prop := fun x lo hi H Q => ∃ a xs, x = .ref a ∧ SqT K H a xs ∧
  ¬ (HT.sIx xs.length 0 lo = 0 ∧ HT.sIx xs.length xs.length hi = xs.length) ∧ ∀ p, H p = none → Q (.ref p) (upd H p (.tup (cutV xs lo hi)))
/-! ### t < u, t + u -/
def rLtT (K : PySem.W.Frag) : R2 := fun x y H Q => ∃ a b ns ms, x = .ref a ∧ y = .ref b ∧ SqT K H a (ns.map V.int) ∧ SqT K H b (ms.map V.int) ∧ Q (.bl (HT.lexLt ns ms)) H
/-- t + u, t not empty: u empty gives t itself -/
def rCatT (K : PySem.W.Frag) : R2 := fun x y H Q => ∃ a b xs ys, x = .ref a ∧ y = .ref b ∧ SqT K H a xs ∧ SqT K H b ys ∧ xs ≠ [] ∧ xs.length + ys.length ≤ sizeLine ∧
  (ys = [] → Q (.ref a) H) ∧ (ys ≠ [] → ∀ p, H p = none → Q (.ref p) (upd H p (.tup (xs ++ ys))))
end
end L2

namespace L2
open PySem PySem.Spec PyProof.Rows

/-! ### places -/
/-- the place that an index of any sign means -/
def ixN (n : Nat) (i : Int) : Option Nat := if 0 ≤ i then (if i < n then some i.toNat else none) else if -(n : Int) ≤ i then some (i + n).toNat else none
def atI {α : Type} (xs : List α) (i : Int) : Option α := (ixN xs.length i).bind fun j => xs[j]?
theorem ixN_seq {n : Nat} {i : Int} {j : Nat} (h : ixN n i = some j) : seqIndex? i n = some j ∧ j < n ∧ -(n : Int) ≤ i ∧ i < n := by
  unfold ixN at h
  by_cases h0 : 0 ≤ i
  · rw [if_pos h0] at h
    by_cases h1 : i < n
    · rw [if_pos h1] at h
      have e : i.toNat = j := Option.some.inj h
      exact ⟨by rw [seqIndex_of h0 h1, e], by omega, by omega, h1⟩
    · rw [if_neg h1] at h; cases h
  · rw [if_neg h0] at h
    by_cases h1 : -(n : Int) ≤ i
    · rw [if_pos h1] at h
      have e : (i + n).toNat = j := Option.some.inj h
      exact ⟨by rw [seqIndex_neg (by omega) h1, e], by omega, h1, by omega⟩
    · rw [if_neg h1] at h; cases h
theorem atI_get {α : Type} {xs : List α} {i : Int} {v : α} (h : atI xs i = some v) : ∃ j, seqIndex? i xs.length = some j ∧ xs[j]? = some v ∧ j < xs.length ∧ -(xs.length : Int) ≤ i ∧ i < xs.length := by
  unfold atI at h
  cases e : ixN xs.length i with
  | none => rw [e] at h; cases h
  | some j =>
    rw [e] at h
    obtain ⟨h1, h2, h3, h4⟩ := ixN_seq e
    exact ⟨j, h1, h, h2, h3, h4⟩
theorem atI_nat {α : Type} {xs : List α} {j : Nat} {v : α} (h : xs[j]? = some v) : atI xs (j : Int) = some v := by
  have hj : j < xs.length := (List.getElem?_eq_some_iff.mp h).1
  have e : ixN xs.length (j : Int) = some j := by
    unfold ixN
    rw [if_pos (by omega), if_pos (by omega)]; simp
  unfold atI; rw [e]; exact h
theorem atI_last {α : Type} (xs : List α) (v : α) : atI (xs ++ [v]) (-1) = some v := by
  have hl : (xs ++ [v]).length = xs.length + 1 := by simp
  have e : ixN (xs ++ [v]).length (-1) = some xs.length := by
    unfold ixN
    rw [hl, if_neg (by decide), if_pos (by omega)]
    congr 1
    omega
  unfold atI
  rw [e]
  show (xs ++ [v])[xs.length]? = some v
  simp

/-! ### what may be subscripted -/
/-- what stands as an index of a plain subscript -/
def PlainIx (b : Expr) : Prop := ∀ o i, subscripted b false o i = operate [o, i] (getItem o i)
/-- a subscript by values -/
def IxR (X : Cx) (r : R2) : Prop :=
  ∀ (value slice : Expr) (pins : List (Addr × Obj)) (s : Shared) (σ : St) (H : Hp) (x y : V) (v u : Value) (Q : VK), Inv X pins σ H s → RelV x v → RelV y u → r x y H Q →
    subscripted slice false v u = operate [v, u] (getItem v u) → wpAny (model X.prog X.w) X.A (subscriptTail value slice v u) (EP X pins σ Q) X.xe s
/-- a call of a builtin's method by values: the receiver, the arguments -/
def MtR (X : Cx) (id : String) (r : V → List V → Hp → VK → Prop) : Prop :=
  ∀ (pins : List (Addr × Obj)) (s : Shared) (σ : St) (H : Hp) (x : V) (xs : List V) (v : Value) (us : List Value) (Q : VK), Inv X pins σ H s → RelV x v → Vals xs us → r x xs H Q →
    wpAny (model X.prog X.w) X.A (call (.builtin id) (v :: us)) (EP X pins σ Q) X.xe s
section
variable {X : Cx} {a b : Expr} {ta tb : TE} {pos : Pos}
/-- a[b] -/
theorem pe_ix {r : R2} (hr : IxR X r) (ha : PE X a ta) (hb : PE X b tb) (hs : PlainIx b) : PE X (.Subscript a b pos) (tOp r ta tb) := by
  intro pins s σ H Q I h
  exact Subscript_ (binT ha hb I h fun v u s2 x y H2 I2 rx ry q => hr a b pins s2 σ H2 x y v u Q I2 rx ry q (hs _ _))

def rIxL (K : PySem.W.Frag) : R2 := fun x y H Q => ∃ p xs i v, x = .ref p ∧ y = .int i ∧ SqL K H p xs ∧ atI xs i = some v ∧ Q v H
def rIxT (K : PySem.W.Frag) : R2 := fun x y H Q => ∃ p xs i v, x = .ref p ∧ y = .int i ∧ SqT K H p xs ∧ atI xs i = some v ∧ Q v H
def rIxS : R2 := fun x y H Q => ∃ z i c, x = .str z ∧ y = .int i ∧ z.length ≤ sizeLine ∧ atI z.cps.toList i = some c ∧ Q (.str ⟨#[c]⟩) H
theorem ix_list : IxR X (rIxL X.K) := by
  intro value slice pins s σ H x y v u Q I rx ry h hs
  obtain ⟨p, xs, i, z, rfl, rfl, hq, he, q⟩ := h
  cases rx
  obtain ⟨t, rfl⟩ := ry
  obtain ⟨its, r, pl, hz⟩ := I.list hq
  obtain ⟨j, h1, h2, h3, h4, h5⟩ := atI_get he
  obtain ⟨w, ew, rw'⟩ := r.get h2
  have hl := r.length
  have hn := line63
  have fin : EP X pins σ Q w s := ⟨z, H, I, rw', q⟩
  by_cases h0 : 0 ≤ i
  · have hj : i.toNat = j := by
      rw [seqIndex_of h0 h5] at h1
      exact Option.some.inj h1
    exact item_listR pl.isList h0 (by omega) (by rw [hj]; simpa using ew) fin hs
  · have hj : (i + (its.toArray.size : Int)).toNat = j := by
      rw [seqIndex_neg (by omega) h4] at h1
      rw [List.size_toArray, ← hl]
      exact Option.some.inj h1
    exact subscriptTail_builtinR (x := w) pl.isList.typeIs slot_list_getitem.lookup
      (wpAny_getItem_list_neg (Q := fun r s' => r = w ∧ EP X pins σ Q r s') pl.isList (by omega) (by rw [List.size_toArray] <;> omega) (by omega) (by rw [hj]; simpa using ew) ⟨rfl, fin⟩) hs
theorem ix_tup : IxR X (rIxT X.K) := by
  intro value slice pins s σ H x y v u Q I rx ry h hs
  obtain ⟨p, xs, i, z, rfl, rfl, hq, he, q⟩ := h
  cases rx
  obtain ⟨t, rfl⟩ := ry
  obtain ⟨its, r, pl, hz⟩ := I.tuple hq
  obtain ⟨j, h1, h2, h3, h4, h5⟩ := atI_get he
  obtain ⟨w, ew, rw'⟩ := r.get h2
  have hl := r.length
  have hn := line63
  have fin : EP X pins σ Q w s := ⟨z, H, I, rw', q⟩
  exact subscriptTail_builtinR (x := w) pl.typeIs slot_tuple_getitem.lookup
    (getItem_tuple (j := j) (Q := fun r s' => r = w ∧ EP X pins σ Q r s') pl (by omega) (by omega) (by rw [List.size_toArray, ← hl]; exact h1) (by simpa using ew) ⟨rfl, fin⟩) hs
theorem ix_str : IxR X rIxS := by
  intro value slice pins s σ H x y v u Q I rx ry h hs
  obtain ⟨z, i, c, rfl, rfl, hz, he, q⟩ := h
  obtain ⟨t, rfl⟩ := rx
  obtain ⟨t', rfl⟩ := ry
  obtain ⟨j, h1, h2, h3, h4, h5⟩ := atI_get he
  have hl : z.cps.toList.length = z.length := by simp [Str.length]
  rw [hl] at h1 h4 h5
  have hn := line63
  exact tail_any (typeIs_str s z t) slot_str_getitem.lookup (getItem_str (c := c) (by
    have e1 : decide (i < -(2 ^ 63 : Int)) = false := decide_eq_false (by omega)
    have e2 : decide (i ≥ 2 ^ 63) = false := decide_eq_false (by omega)
    rw [e1, e2, Bool.or_false]) (by rw [h1]; simpa using h2) ⟨.str ⟨#[c]⟩, H, I.tok _, ⟨_, rfl⟩, q⟩) hs
/-- list, tuple or str -/
def rIx (K : PySem.W.Frag) : R2 := fun x y H Q => rIxL K x y H Q ∨ rIxT K x y H Q ∨ rIxS x y H Q
/-! ### xs[i] = v, any sign -/
/-- the list's object behind a store -/
theorem mapSeq_set (its : List Value) (n j : Nat) (u : Value) : Obj.mapSeq (·.setIfInBounds j u) { cls := .type "list", data := .seq its.toArray n } = { cls := .type "list", data := .seq (its.set j u).toArray n } := by
  simp [Obj.mapSeq]
theorem Inv.lst {pins : List (Addr × Obj)} {σ : St} {H : Hp} {s : Shared} {p : Addr} {xs : List V} (I : Inv X pins σ H s) (h : H p = some (.lst xs)) :
    ∃ (its : List Value) (n : Nat), Vals xs its ∧ s.heap.get? p = some { cls := .type "list", data := .seq its.toArray n } ∧ xs.length ≤ sizeLine := by
  obtain ⟨z, its, n, r, e⟩ := I.hok p _ h
  exact ⟨its, n, r, e, z⟩
/-- the list at p is written by an update of its object -/
theorem Inv.lstUpd {pins : List (Addr × Obj)} {σ : St} {H : Hp} {s : Shared} {p : Addr} {xs ys : List V} {its its' : List Value} {n n' : Nat} {f : Obj → Obj} (I : Inv X pins σ H s) (h : H p = some (.lst xs))
    (ho : s.heap.get? p = some { cls := .type "list", data := .seq its.toArray n }) (hf : f { cls := .type "list", data := .seq its.toArray n } = { cls := .type "list", data := .seq its'.toArray n' }) (r : Vals ys its') (hz : ys.length ≤ sizeLine) (t : Nat) :
    Inv X pins σ (upd H p (.lst ys)) { s with heap := s.heap.update p f, toks := t } := by
  have e : (s.heap.update p f).get? p = some { cls := .type "list", data := .seq its'.toArray n' } := by
    rw [Heap.get?_update_self f ho (by rw [hf] <;> rfl), hf]
  refine I.write (x := p) (e := p) (by rw [h]; trivial) (.inl rfl) (fun b u hb q => (Heap.get?_update_other _ _ (Ne.symm hb)).trans q) ⟨_, e⟩ ?_
  exact ⟨hz, its', n', r, e⟩
def rSetL : V → V → V → Hp → (Hp → Prop) → Prop := fun o i v H Q => ∃ p xs k j, o = .ref p ∧ i = .int k ∧ H p = some (.lst xs) ∧ ixN xs.length k = some j ∧ Q (upd H p (.lst (xs.set j v)))
theorem set_list : PSet X rSetL := by
  intro pins s σ H o i v ov iv u Q I ro ri rv h
  obtain ⟨p, xs, k, j, rfl, rfl, hp, hj, q⟩ := h
  cases ro
  obtain ⟨t, rfl⟩ := ri
  obtain ⟨its, n, r, ho, hz⟩ := I.lst hp
  obtain ⟨h1, h2, h3, h4⟩ := ixN_seq hj
  have hl := r.length
  have hn := line63
  have I' : Inv X pins σ (upd H p (.lst (xs.set j v))) { s with heap := s.heap.update p (Obj.mapSeq (·.setIfInBounds j u)) } :=
    I.lstUpd hp ho (mapSeq_set its n j u) (r.set rv j) (by rw [List.length_set]; exact hz) s.toks
  by_cases h0 : 0 ≤ k
  · have hk : k.toNat = j := by
      rw [seqIndex_of h0 h4] at h1
      exact Option.some.inj h1
    exact PySem.W.ki_setAt ho h0 (by omega) (by rw [List.size_toArray, ← hl]; exact h4) (by rw [hk]; exact ⟨_, I', q⟩)
  · have hk : (k + (its.toArray.size : Int)).toNat = j := by
      rw [seqIndex_neg (by omega) h3] at h1
      rw [List.size_toArray, ← hl]
      exact Option.some.inj h1
    exact PySem.W.ki_setBack ho (by omega) (by rw [List.size_toArray, ← hl]; exact h3) (by omega) (by rw [hk]; exact ⟨_, I', q⟩)

/-! ### slices -/
theorem slice_bounds (lo hi : Option Int) (n : Nat) : (sliceBounds lo hi none n).1 = ((HT.sIx n 0 lo : Nat) : Int) ∧ (sliceBounds lo hi none n).2.1 = ((HT.sIx n n hi : Nat) : Int) ∧ (sliceBounds lo hi none n).2.2 = 1 := by
  refine ⟨?_, ?_, rfl⟩
  · cases lo with
    | none => simp [sliceBounds, HT.sIx]
    | some i =>
      simp only [sliceBounds, HT.sIx, Option.getD_none, show (1 : Int) > 0 by decide, if_true]
      by_cases h : i < 0
      · simp only [h, if_true] <;> omega
      · simp only [h, if_false] <;> omega
  · cases hi with
    | none => simp [sliceBounds, HT.sIx]
    | some i =>
      simp only [sliceBounds, HT.sIx, Option.getD_none, show (1 : Int) > 0 by decide, if_true]
      by_cases h : i < 0
      · simp only [h, if_true] <;> omega
      · simp only [h, if_false] <;> omega
theorem slicePick_cut (its : List Value) (lo hi : Option Int) : slicePick its.toArray lo hi none = ((its.drop (HT.sIx its.length 0 lo)).take (HT.sIx its.length its.length hi - HT.sIx its.length 0 lo)).toArray := by
  obtain ⟨h1, h2, h3⟩ := slice_bounds lo hi its.toArray.size
  unfold slicePick
  rw [h1, h2, h3]
  simp only [sliceRange_one, pick_run, List.size_toArray] <;> rfl
/-- xs[lo:hi] of a list: a new list -/
def rSlL (K : PySem.W.Frag) : V → Option Int → Option Int → Hp → VK → Prop := fun x lo hi H Q => ∃ a xs, x = .ref a ∧ SqL K H a xs ∧ ∀ p, H p = none → Q (.ref p) (upd H p (.lst (cutV xs lo hi)))
theorem sl_list : SlR X (rSlL X.K) := by
  intro pins s σ H x v vl vu lo hi sl Q I rx hs pl pu h
  obtain ⟨a, xs, rfl, hx, q⟩ := h
  cases rx
  obtain ⟨its, r, ht, hz⟩ := I.list hx
  have hlen := r.length
  refine ⟨"list", _, slot_list_getitem.lookup, ht.isList.typeIs, ?_⟩
  refine wpAny_getItem_list_slice ht.isList hs pl pu .none (by simp) ?_ (by rw [List.size_toArray] <;> omega)
  rw [slicePick_cut, ← hlen]
  refine ⟨.ref s.heap.objs.size, _, I.laid (t' := s.toks) (o := .lst (cutV xs lo hi)) (fun b ob q => Heap.get?_push_of_some _ q) (Nat.le_refl _) ?_, rfl, q _ (I.hok.fresh (Nat.le_refl _))⟩
  exact ⟨Nat.le_trans (cutV_length xs lo hi) hz, _, 0, (r.drop (HT.sIx xs.length 0 lo)).take (HT.sIx xs.length xs.length hi - HT.sIx xs.length 0 lo), Heap.get?_push_size _ rfl⟩

/-! ### in, not in: flat items -/
def flatV : V → Bool
  | .non => true
  | .bl _ => true
  | .int _ => true
  | .str _ => true
  | _ => false
/-- == of flat values -/
def eqV : V → V → Bool
  | .non, .non => true
  | .bl a, .bl b => a == b
  | .bl a, .int b => (if a then 1 else 0) == b
  | .int a, .bl b => a == (if b then 1 else 0)
  | .int a, .int b => a == b
  | .str a, .str b => a == b
  | _, _ => false
theorem eqAt_V {A : Around} {s : Shared} {y x : V} {u v : Value} (ry : RelV y u) (rx : RelV x v) (fy : flatV y = true) (fx : flatV x = true) : SeqAt.EqAt A s u v (eqV y x) := by
  cases y with
  | non =>
    cases ry
    cases x with
    | non => cases rx; exact SeqAt.EqAt.same _
    | bl b => cases rx; exact SeqAt.EqAt.none_bool b
    | int b => obtain ⟨t, rfl⟩ := rx; exact SeqAt.EqAt.none_int b t
    | str b => obtain ⟨t, rfl⟩ := rx; exact SeqAt.EqAt.none_str b t
    | _ => exact absurd (show false = true from fx) Bool.false_ne_true
  | bl a =>
    cases ry
    cases x with
    | non => cases rx; exact SeqAt.EqAt.bool_none a
    | bl b => cases rx; exact SeqAt.EqAt.bool_bool a b
    | int b => obtain ⟨t, rfl⟩ := rx; exact SeqAt.EqAt.bool_int a b t
    | str b => obtain ⟨t, rfl⟩ := rx; exact SeqAt.EqAt.bool_str a b t
    | _ => exact absurd (show false = true from fx) Bool.false_ne_true
  | int a =>
    obtain ⟨t', rfl⟩ := ry
    cases x with
    | non => cases rx; exact SeqAt.EqAt.int_none a t'
    | bl b => cases rx; exact SeqAt.EqAt.int_bool a t' b
    | int b => obtain ⟨t, rfl⟩ := rx; exact SeqAt.EqAt.int_int a t' b t
    | str b => obtain ⟨t, rfl⟩ := rx; exact SeqAt.EqAt.int_str a t' b t
    | _ => exact absurd (show false = true from fx) Bool.false_ne_true
  | str a =>
    obtain ⟨t', rfl⟩ := ry
    cases x with
    | non => cases rx; exact SeqAt.EqAt.str_none a t'
    | bl b => cases rx; exact SeqAt.EqAt.str_bool a t' b
    | int b => obtain ⟨t, rfl⟩ := rx; exact SeqAt.EqAt.str_int a t' b t
    | str b => obtain ⟨t, rfl⟩ := rx; exact SeqAt.EqAt.str_str a t' b t
    | _ => exact absurd (show false = true from fx) Bool.false_ne_true
  | _ => exact absurd (show false = true from fy) Bool.false_ne_true
/-- the items' answers, read off the values (a value's own answer does not lean on its token) -/
def eqU (x : V) (u : Value) : Bool := match u with
  | .none => eqV .non x
  | .bool b => eqV (.bl b) x
  | .int i _ => eqV (.int i) x
  | .str z _ => eqV (.str z) x
  | _ => false
def inV (x : V) (xs : List V) : Bool := xs.any fun y => eqV y x
/-- x in a list or tuple of flat items -/
def rIn (K : PySem.W.Frag) (neg : Bool) : R2 := fun x y H Q => ∃ p xs, y = .ref p ∧ (SqL K H p xs ∨ SqT K H p xs) ∧ flatV x = true ∧ xs.all flatV = true ∧ Q (.bl (if neg then !inV x xs else inV x xs)) H
/-! ### len, list(x), tuple(x) of any list or tuple that is read -/
theorem call_len_seq : CallR X (.builtin "len") (fun xs H Q => ∃ p ys, xs = [.ref p] ∧ (SqL X.K H p ys ∨ SqT X.K H p ys) ∧ Q (.int ys.length) H) := by
  intro pins s σ H xs us Q I r h
  obtain ⟨p, ys, rfl, hq, q⟩ := h
  obtain ⟨u, rfl, rx⟩ := vals1 r
  cases rx
  have hn := line63
  rcases hq with hq | hq
  · obtain ⟨its, r', pl, hz⟩ := I.list hq
    have hlen := r'.length
    exact Calls.call_len_list pl.isList (by simp only [List.size_toArray] <;> omega) ⟨.int ys.length, H, I.tok _, ⟨s.toks + 1, by rw [List.size_toArray, hlen]⟩, q⟩
  · obtain ⟨its, r', pl, hz⟩ := I.tuple hq
    have hlen := r'.length
    exact len_tuple pl (by simp only [List.size_toArray] <;> omega) ⟨.int ys.length, H, I.tok _, ⟨s.toks + 1, by rw [List.size_toArray, hlen]⟩, q⟩
theorem call_len_str : CallR X (.builtin "len") (fun xs H Q => ∃ z, xs = [.str z] ∧ z.length ≤ sizeLine ∧ Q (.int z.length) H) := by
  intro pins s σ H xs us Q I r h
  obtain ⟨z, rfl, hz, q⟩ := h
  obtain ⟨u, rfl, t, rfl⟩ := vals1 r
  have hn := line63
  exact len_str (by omega) ⟨.int z.length, H, I.tok _, ⟨_, rfl⟩, q⟩
theorem call_list_of : CallR X (.type "list") (fun xs H Q => ∃ p ys, xs = [.ref p] ∧ (SqL X.K H p ys ∨ SqT X.K H p ys) ∧ ∀ l, H l = none → Q (.ref l) (upd H l (.lst ys))) := by
  intro pins s σ H xs us Q I r h
  obtain ⟨p, ys, rfl, hq, q⟩ := h
  obtain ⟨u, rfl, rx⟩ := vals1 r
  cases rx
  have fin : ∀ (its : List Value), Vals ys its → ys.length ≤ sizeLine → ∀ (h' : Heap) (c' : Nat), (∀ b o', s.heap.get? b = some o' → h'.get? b = some o') →
      h'.get? s.heap.objs.size = some { cls := .type "list", dict := none, data := .seq its.toArray c', slots := #[] } → EP X pins σ Q (.ref s.heap.objs.size) { s with heap := h' } := fun its r' hz h' c' kp e =>
    ⟨.ref s.heap.objs.size, _, I.laid (t' := s.toks) kp (Nat.le_refl _) (show ObjOk X.prog X.w _ h' _ (.lst ys) from ⟨hz, its, c', r', e⟩), rfl, q _ (I.hok.fresh (Nat.le_refl _))⟩
  rcases hq with hq | hq
  · obtain ⟨its, r', pl, hz⟩ := I.list hq
    have hlen := r'.length
    obtain ⟨o, ho, hc, n, hd⟩ := pl.isList
    exact call_list_seq p (.inl rfl) ho hc hd (fun h' c' kp e => fin its r' hz h' c' kp e) (by simp only [List.size_toArray] <;> omega)
  · obtain ⟨its, r', pl, hz⟩ := I.tuple hq
    have hlen := r'.length
    obtain ⟨o, ho, hc, n, hd⟩ := pl
    exact call_list_seq p (.inr rfl) ho hc hd (fun h' c' kp e => fin its r' hz h' c' kp e) (by simp only [List.size_toArray] <;> omega)
theorem call_tuple_of : CallR X (.type "tuple") (fun xs H Q => ∃ p ys, xs = [.ref p] ∧ ((SqL X.K H p ys ∧ ∀ l, H l = none → Q (.ref l) (upd H l (.tup ys))) ∨ (SqT X.K H p ys ∧ Q (.ref p) H))) := by
  intro pins s σ H xs us Q I r h
  obtain ⟨p, ys, rfl, h⟩ := h
  obtain ⟨u, rfl, rx⟩ := vals1 r
  cases rx
  rcases h with ⟨hq, q⟩ | ⟨hq, q⟩
  · obtain ⟨its, r', pl, hz⟩ := I.list hq
    have hlen := r'.length
    refine call_tuple_list pl.isList (fun h' kp => ?_) (by simp only [List.size_toArray] <;> omega)
    have I1 : Inv X pins σ H { s with heap := h' } := I.kept (t' := s.toks) kp
    have I2 : Inv X pins σ (upd H h'.objs.size (.tup ys)) { s with heap := h'.push { cls := .type "tuple", data := .seq its.toArray } } :=
      I1.laid (t' := s.toks) (fun b o e => Heap.get?_push_of_some _ e) (Nat.le_refl _) (show ObjOk X.prog X.w _ _ _ (.tup ys) from ⟨hz, its, r', IsTup.new _ _⟩)
    exact ⟨.ref h'.objs.size, _, I2, rfl, q _ (I1.hok.fresh (Nat.le_refl _))⟩
  · obtain ⟨its, r', pl, hz⟩ := I.tuple hq
    exact call_tuple_same pl ⟨.ref p, H, I, rfl, q⟩

/-! ### the call of a builtin's method: o.m(..) -/
/-- the value is of that builtin type -/
def tyV (K : PySem.W.Frag) (T : String) (x : V) (H : Hp) : Prop := match x with
  | .str _ => T = "str"
  | .int _ => T = "int"
  | .ref p => (T = "list" ∧ ∃ xs, SqL K H p xs) ∨ (T = "tuple" ∧ ∃ o, K.lookup p = some o ∧ o.cls = .type "tuple" ∧ o.dict = none) ∨
      (T = "dict" ∧ ((∃ kvs, H p = some (.dK kvs)) ∨ ∃ kvs, H p = some (.dT kvs))) ∨ (T = "set" ∧ ∃ S n, H p = some (.set S n))
  | _ => False
theorem tyV_is {pins : List (Addr × Obj)} {σ : St} {H : Hp} {s : Shared} {T : String} {x : V} {v : Value} (I : Inv X pins σ H s) (r : RelV x v) (ty : tyV X.K T x H) :
    s.TypeIs v T ∧ ∀ a, v = .ref a → ∃ ob, s.heap.get? a = some ob ∧ ob.dict = none := by
  cases x with
  | str z =>
    obtain ⟨t, rfl⟩ := r
    cases (show T = "str" from ty)
    exact ⟨typeIs_str s z t, fun _ e => nomatch e⟩
  | int i =>
    obtain ⟨t, rfl⟩ := r
    cases (show T = "int" from ty)
    exact ⟨typeIs_int s i t, fun _ e => nomatch e⟩
  | ref p =>
    cases r
    rcases ty with ⟨rfl, xs, hq⟩ | ⟨rfl, o, hk, hc, hd⟩ | ⟨rfl, hk⟩ | ⟨rfl, S, n, hk⟩
    · obtain ⟨its, _, pl, _⟩ := I.list hq
      refine ⟨pl.isList.typeIs, fun a e => ?_⟩
      cases e
      obtain ⟨o, n, e, c, hd, _⟩ := pl
      exact ⟨o, e, hd⟩
    · refine ⟨⟨o, I.kIn p o hk, hc⟩, fun a e => ?_⟩
      cases e
      exact ⟨o, I.kIn _ o hk, hd⟩
    · have z : ∃ o, s.heap.get? p = some o ∧ o.ExactDict := by
        rcases hk with ⟨kvs, hk⟩ | ⟨kvs, hk⟩
        · obtain ⟨_, _, _, _, o, _, _, e, ex, _⟩ := I.hok p _ hk
          exact ⟨o, e, ex⟩
        · obtain ⟨_, _, _, _, o, _, _, e, ex, _⟩ := I.hok p _ hk
          exact ⟨o, e, ex⟩
      obtain ⟨o, e, ex⟩ := z
      refine ⟨⟨o, e, ex.1⟩, fun a e2 => ?_⟩
      cases e2
      exact ⟨o, e, ex.2.1⟩
    · obtain ⟨o, _, _, _, e, ex, _⟩ := I.hok p _ hk
      refine ⟨⟨o, e, ex.1⟩, fun a e2 => ?_⟩
      cases e2
      exact ⟨o, e, ex.2.1⟩
  | _ => exact False.elim ty
def tBM0 (K : PySem.W.Frag) (T : String) (r : V → List V → Hp → VK → Prop) (to : TE) : TE := fun σ H Q => to σ H fun x H1 => tyV K T x H1 ∧ r x [] H1 Q
def tBM (K : PySem.W.Frag) (T : String) (r : V → List V → Hp → VK → Prop) (to : TE) (t : TA) : TE := fun σ H Q => to σ H fun x H1 => tyV K T x H1 ∧ t σ H1 fun xs H2 => r x xs H2 Q
variable {o e : Expr} {es : List Expr} {to : TE} {t : TA} {name : Str} {apos cpos : Pos} {T id : String} {r : V → List V → Hp → VK → Prop}
theorem pe_bm0 (pa : PlainAttrs T) (slot : Slot T name id) (hty : typeOf (.builtin id) = pure (.type "method_descriptor")) (hm : MtR X id r) (ho : PE X o to)
    (hbase : attributeBase o name X.env (eval o X.env) = eval o X.env := by rfl) (hline : (apos.endLine == cpos.line) = true := by rfl) : PE X (.Call (.Attribute o name apos) [] [] cpos) (tBM0 X.K T r to) := by
  intro pins s σ H Q I h
  refine wpAny_Call_method0_late hbase hline (thn (ho pins s σ H _ I h) fun v s1 ⟨x, H1, I1, r1, ty, q1⟩ => ?_)
  obtain ⟨h1, h2⟩ := tyV_is I1 r1 ty
  exact ⟨T, id, pa, slot, hty, h1, h2, Calls.callWith_builtin rfl (PySem.evalArgs_none (hm pins s1 σ H1 x [] v [] Q I1 r1 .nil q1))⟩
theorem pe_bm (pa : PlainAttrs T) (slot : Slot T name id) (hty : typeOf (.builtin id) = pure (.type "method_descriptor")) (hm : MtR X id r) (ho : PE X o to) (ha : PA X (e :: es) t)
    (hbase : attributeBase o name X.env (eval o X.env) = eval o X.env := by rfl)
    (hfew : ((backTo cpos (starEach (e :: es) X.env)).all (fun x => !x.1) && (backToKw cpos (keywordEach [] X.env)).all (fun x => x.1.isSome)
      && decide ((e :: es).length + ([] : List Keyword).length + (if ([] : List Keyword).isEmpty then 0 else 1) < 30)) = true := by rfl)
    (hline : (apos.endLine == cpos.line) = true := by rfl) (hs : starEach (e :: es) X.env = (false, eval e X.env) :: starEach es X.env := by rfl) (hplain : (backTo cpos (starEach es X.env)).any (·.1) = false := by rfl) :
    PE X (.Call (.Attribute o name apos) (e :: es) [] cpos) (tBM X.K T r to t) := by
  intro pins s σ H Q I h
  refine wpAny_Call_method_late hbase hfew hline rfl (thn (ho pins s σ H _ I h) fun v s1 ⟨x, H1, I1, r1, ty, q1⟩ => ?_)
  obtain ⟨h1, h2⟩ := tyV_is I1 r1 ty
  refine ⟨T, id, pa, slot, hty, h1, h2, ?_⟩
  have hA := ha cpos pins s1 σ H1 _ I1 q1
  rw [hs] at hA ⊢
  refine Calls.callWith_builtin (by show (false || (backTo cpos (starEach es X.env)).any (·.1)) = false; rw [hplain] <;> rfl) (Calls.evalArgs_plain ?_)
  exact thn hA fun us s2 ⟨vs, H2, I2, r2, q2⟩ => hm pins s2 σ H2 x vs v us Q I2 r1 r2 q2
/- xs.append(e), list.index on a module's tuple .. are MtR facts of 06m -/
end
end L2

namespace L2
open PySem PySem.Spec PyProof.Rows

def MtM (X : Cx) (id : String) (r : V → List V → Hp → VK → Prop) : Prop :=
  ∀ (pins : List (Addr × Obj)) (s : Shared) (σ : St) (H : Hp) (x : V) (xs : List V) (v : Value) (us : List Value) (Q : VK), Inv X pins σ H s → RelV x v → Vals xs us → r x xs H Q →
    wpAny (model X.prog X.w) X.A (call (.builtin id) (v :: us)) (EP X pins σ Q) X.xe s

/-! ### lists of values -/
theorem Vals.one : ∀ {x : V} {us : List Value}, Vals [x] us → ∃ u, us = [u] ∧ RelV x u
  | _, _, .cons r .nil => ⟨_, rfl, r⟩
theorem Vals.zero : ∀ {us : List Value}, Vals [] us → us = []
  | _, .nil => rfl
theorem Vals.dropLast {xs : List V} {us : List Value} (h : Vals xs us) : Vals xs.dropLast us.dropLast := by
  induction h with
  | nil => exact .nil
  | cons r t ih =>
    cases t with
    | nil => exact .nil
    | cons q t' => exact .cons r ih
theorem Vals.eraseIdx : ∀ {xs : List V} {us : List Value} (i : Nat), Vals xs us → Vals (xs.eraseIdx i) (us.eraseIdx i)
  | _, _, _, .nil => .nil
  | _, _, 0, .cons _ t => t
  | _, _, i + 1, .cons r t => .cons r (Vals.eraseIdx i t)
theorem Vals.reverse {xs : List V} {us : List Value} (h : Vals xs us) : Vals xs.reverse us.reverse := by
  induction h with
  | nil => exact .nil
  | cons r t ih => rw [List.reverse_cons, List.reverse_cons]; exact Vals.append ih (.cons r .nil)
theorem erase_last {α : Type} (l : List α) : l.eraseIdx (l.length - 1) = l.dropLast := by
  induction l with
  | nil => rfl
  | cons a r ih =>
    cases r with
    | nil => rfl
    | cons b r =>
      have e : (a :: b :: r).length - 1 = ((b :: r).length - 1) + 1 := by
        have h1 : (a :: b :: r).length = r.length + 2 := rfl
        have h2 : (b :: r).length = r.length + 1 := rfl
        omega
      rw [e, List.eraseIdx_cons_succ, ih]
      all_goals rfl
theorem len_erase {α : Type} : ∀ (l : List α) (i : Nat), (l.eraseIdx i).length ≤ l.length
  | [], _ => Nat.le_refl _
  | _ :: _, 0 => Nat.le_succ _
  | _ :: r, i + 1 => Nat.succ_le_succ (len_erase r i)
section
variable {X : Cx} {pins : List (Addr × Obj)} {σ : St} {H : Hp} {s : Shared} {l b : Addr} {xs ys zs : List V}

/-! ### the two steps: a tracked list is rewritten, a new list is laid -/
theorem Inv.lset {its its' : List Value} {n : Nat} {f : Array Value → Array Value} {t' : Nat} (I : Inv X pins σ H s) (hH : H l = some (.lst xs))
    (e : s.heap.get? l = some { cls := .type "list", data := .seq its.toArray n }) (hf : f its.toArray = its'.toArray) (hv : Vals ys its') (hz : ys.length ≤ sizeLine) :
    Inv X pins σ (upd H l (.lst ys)) { s with heap := s.heap.update l (Obj.mapSeq f), toks := t' } := by
  have q := PySem.IsL.update e f
  rw [hf] at q
  refine I.write (x := l) (e := l) (by rw [hH]; exact trivial) (.inl rfl) (fun b' u hb hu => (Heap.get?_update_other s.heap (Obj.mapSeq f) (Ne.symm hb)).trans hu) ⟨_, q⟩ ?_
  exact ⟨hz, its', _, hv, q⟩
theorem Inv.lnew {its : List Value} {t' : Nat} (I : Inv X pins σ H s) (hv : Vals ys its) (hz : ys.length ≤ sizeLine) :
    Inv X pins σ (upd H s.heap.objs.size (.lst ys)) { s with heap := s.heap.push { cls := .type "list", data := .seq its.toArray }, toks := t' } :=
  I.laid (fun _ _ q => Heap.get?_push_of_some _ q) (Nat.le_refl _) ⟨hz, its, 0, hv, Heap.get?_push_size _ rfl⟩
theorem Inv.fresh (I : Inv X pins σ H s) : H s.heap.objs.size = none := I.hok.fresh (Nat.le_refl _)
theorem Inv.lstM (I : Inv X pins σ H s) (hH : H l = some (.lst xs)) : xs.length ≤ sizeLine ∧ ∃ (its : List Value) (n : Nat), Vals xs its ∧ xs.length = its.length ∧ s.heap.get? l = some { cls := .type "list", data := .seq its.toArray n } := by
  obtain ⟨z, its, n, r, e⟩ := I.hok l _ hH
  exact ⟨z, its, n, r, r.length, e⟩

theorem notLongL {n : Nat} (h : n ≤ sizeLine) : Builtin.List.listTooLong n = false := by
  unfold Builtin.List.listTooLong
  exact decide_eq_false (by omega)
end

section
variable {X : Cx}

/-! ### methods -/
def rAppend : V → List V → Hp → VK → Prop := fun x vs H Q => ∃ l xs y, x = .ref l ∧ vs = [y] ∧ H l = some (.lst xs) ∧ xs.length < sizeLine ∧ Q .non (upd H l (.lst (xs ++ [y])))
theorem mt_append : MtM X "list.append" rAppend := by
  intro pins s σ H x vs v us Q I rx rv h
  obtain ⟨l, xs, y, rfl, rfl, hH, hz, q⟩ := h
  cases rx
  obtain ⟨u, rfl, ru⟩ := rv.one
  obtain ⟨z, its, n, r, hl, e⟩ := I.lstM hH
  refine call_meets F.slot_list_append ⟨_, e, rfl⟩ F.entry_list_append (F.args_list_append_2 _ _) (PySem.list_append l its.toArray n u (by rw [List.size_toArray]; omega)) ⟨e, ?_⟩
  refine ⟨.non, _, I.lset (its' := its ++ [u]) hH e (by simp) (r.append (.cons ru .nil)) ?_, rfl, q⟩
  rw [List.length_append, List.length_singleton]
  omega

def rExtend : V → List V → Hp → VK → Prop := fun x vs H Q => ∃ l b xs zs, x = .ref l ∧ vs = [.ref b] ∧ H l = some (.lst xs) ∧ H b = some (.lst zs) ∧ xs.length + zs.length ≤ sizeLine ∧ Q .non (upd H l (.lst (xs ++ zs)))
theorem mt_extend : MtM X "list.extend" rExtend := by
  intro pins s σ H x vs v us Q I rx rv h
  obtain ⟨l, b, xs, zs, rfl, rfl, hH, hB, hz, q⟩ := h
  cases rx
  obtain ⟨u, rfl, ru⟩ := rv.one
  cases ru
  obtain ⟨z, its, n, r, hl, e⟩ := I.lstM hH
  obtain ⟨z2, its2, n2, r2, hl2, e2⟩ := I.lstM hB
  have hsz : its.toArray.size + its2.toArray.size ≤ sizeLine := by rw [List.size_toArray, List.size_toArray]; omega
  have hlong : ¬ (!its.toArray.isEmpty && Builtin.List.listTooLong (its.toArray.size + its2.toArray.size)) = true := by
    rw [notLongL hsz, Bool.and_false]
    exact Bool.false_ne_true
  refine call_meets F.slot_list_extend ⟨_, e, rfl⟩ F.entry_list_extend (F.args_list_extend_2 _ _)
    (AutoSeq1.list_extend_list_list_0 l its.toArray n b its2.toArray n2 hlong (by rw [List.size_toArray]; omega) (by omega)) ⟨e, e2, ?_⟩
  refine ⟨.non, _, I.lset (its' := its ++ its2) hH e (by simp) (r.append r2) ?_, rfl, q⟩
  rw [List.length_append]
  omega

def rPop : V → List V → Hp → VK → Prop := fun x vs H Q => ∃ l xs y, x = .ref l ∧ vs = [] ∧ H l = some (.lst xs) ∧ xs[xs.length - 1]? = some y ∧ Q y (upd H l (.lst xs.dropLast))
theorem mt_pop : MtM X "list.pop" rPop := by
  intro pins s σ H x vs v us Q I rx rv h
  obtain ⟨l, xs, y, rfl, rfl, hH, hy, q⟩ := h
  cases rx
  have hus := rv.zero
  subst hus
  obtain ⟨z, its, n, r, hl, e⟩ := I.lstM hH
  obtain ⟨u, hu, ru⟩ := r.get hy
  have hy' : its.toArray[its.toArray.size - 1]? = some u := by
    show its.toArray[its.length - 1]? = some u
    rw [← Array.getElem?_toList, ← hl]
    exact hu
  refine call_meets F.slot_list_pop ⟨_, e, rfl⟩ F.entry_list_pop (F.args_list_pop_1 _) (MeetsSeq.list_pop_last l its.toArray n u hy' (by rw [List.size_toArray]; omega)) ⟨e, ?_⟩
  refine ⟨y, _, I.lset (its' := its.dropLast) hH e ?_ r.dropLast ?_, ru, q⟩
  · show its.toArray.eraseIdxIfInBounds (its.toArray.size - 1) = its.dropLast.toArray
    rw [List.size_toArray, List.eraseIdxIfInBounds_toArray, erase_last]
  · rw [List.length_dropLast]
    omega

def rPopAt : V → List V → Hp → VK → Prop := fun x vs H Q => ∃ l xs i k y, x = .ref l ∧ vs = [.int i] ∧ H l = some (.lst xs) ∧ -(2 ^ 63) ≤ i ∧ i < 2 ^ 63 ∧ seqIndex? i xs.length = some k ∧ xs[k]? = some y ∧ Q y (upd H l (.lst (xs.eraseIdx k)))
theorem mt_popAt : MtM X "list.pop" rPopAt := by
  intro pins s σ H x vs v us Q I rx rv h
  obtain ⟨l, xs, i, k, y, rfl, rfl, hH, h1, h2, hk, hy, q⟩ := h
  cases rx
  obtain ⟨u, rfl, ru⟩ := rv.one
  obtain ⟨t, rfl⟩ := ru
  obtain ⟨z, its, n, r, hl, e⟩ := I.lstM hH
  obtain ⟨w, hw, rw'⟩ := r.get hy
  refine call_meets F.slot_list_pop ⟨_, e, rfl⟩ F.entry_list_pop (F.args_list_pop_2 _ _)
    (MeetsSeq.list_pop_at l its.toArray n i t k w (fitsIndex_both h1 h2) (by rw [List.size_toArray, ← hl]; exact hk) (by rw [← Array.getElem?_toList]; exact hw) (by rw [List.size_toArray]; omega)) ⟨e, ?_⟩
  refine ⟨y, _, I.lset (its' := its.eraseIdx k) hH e ?_ (r.eraseIdx k) ?_, rw', q⟩
  · show its.toArray.eraseIdxIfInBounds k = (its.eraseIdx k).toArray
    rw [List.eraseIdxIfInBounds_toArray]
  · have := len_erase xs k
    omega

def rReverse : V → List V → Hp → VK → Prop := fun x vs H Q => ∃ l xs, x = .ref l ∧ vs = [] ∧ H l = some (.lst xs) ∧ Q .non (upd H l (.lst xs.reverse))
def rClear : V → List V → Hp → VK → Prop := fun x vs H Q => ∃ l xs, x = .ref l ∧ vs = [] ∧ H l = some (.lst xs) ∧ Q .non (upd H l (.lst []))
/-! ### list + list, list += list, list * int -/
def rCat : R2 := fun x y H Q => ∃ l b xs zs, x = .ref l ∧ y = .ref b ∧ H l = some (.lst xs) ∧ H b = some (.lst zs) ∧ xs.length + zs.length ≤ sizeLine ∧ ∀ p, H p = none → Q (.ref p) (upd H p (.lst (xs ++ zs)))
theorem op_cat : OpR X (binaryOp .Add) rCat := by
  intro pins s σ H x y v u Q I rx ry h
  obtain ⟨l, b, xs, zs, rfl, rfl, hH, hB, hz, q⟩ := h
  cases rx
  cases ry
  obtain ⟨z, its, n, r, hl, e⟩ := I.lstM hH
  obtain ⟨z2, its2, n2, r2, hl2, e2⟩ := I.lstM hB
  refine PySem.P.add_list e e2 ?_ (by rw [List.size_toArray, List.size_toArray]; omega)
  have ea : its.toArray ++ its2.toArray = (its ++ its2).toArray := by simp
  rw [ea]
  exact ⟨.ref _, _, I.lnew (t' := s.toks) (r.append r2) (by rw [List.length_append]; omega), rfl, q _ I.fresh⟩
/-- a list times an int (a negative one is nothing) -/
def rRep : R2 := fun x y H Q => ∃ l k xs, x = .ref l ∧ y = .int k ∧ H l = some (.lst xs) ∧ -(2 ^ 63) ≤ k ∧ k < 2 ^ 63 ∧ xs.length * k.toNat ≤ sizeLine ∧
  ∀ p, H p = none → Q (.ref p) (upd H p (.lst (List.replicate k.toNat xs).flatten))
/-! ### del xs[i] -/
end

/-! ### xs[a:b] = ys -/
section
variable {prog : Program} {w : World} {A : Around} {E : Value → Shared → Prop} {s : Shared}
set_option maxRecDepth 100000 in
end

section
variable {X : Cx}
end
end L2

namespace Att
open PySem PySem.W PySem.Calls PyProof.Rows

/-! ### the script -/
theorem ints_of_wellAll {P : Params} {h : Heap} : ∀ (ns : List Int) (vs : List Value), WellAll P h vs (ns.map WData.int) → IntsAre vs ns := by
  intro ns
  induction ns with
  | nil =>
    intro vs w
    rw [List.map_nil] at w
    cases w
    exact .nil
  | cons n ns ih =>
    intro vs w
    rw [List.map_cons] at w
    cases w with
    | cons a b =>
      cases a
      exact .cons _ _ (ih _ b)

theorem script_of {l : OpenLaw} {n : Nat} (hn : l.most = some n) {P : Params} {h : Heap} {args : List WData} {vals : List Value}
    (hpre : l.row.toRowW.claim.pre args = true) (hwl : WellAll P h vals args) :
    ∃ a vs ns, vals = [Value.ref a] ∧ args = [WData.list (ns.map WData.int)] ∧ h.get? a = some { cls := .type "list", data := .seq vs.toArray } ∧ IntsAre vs ns ∧ ns.length ≤ n := by
  have hsh : WShape.hasAll [] args [.list .int] = true := (pre_splitW hpre).1
  have hc : l.pre.holds [] { args := args } = true := (pre_splitW hpre).2
  obtain ⟨d, r, rfl, h1, h2⟩ := hasAllW_cons hsh
  obtain rfl := hasAllW_nil h2
  obtain ⟨xs, rfl, h3⟩ := hasW_list h1
  obtain ⟨ns, rfl⟩ := items_int h3
  have hlen : ns.length ≤ n := by
    unfold OpenLaw.pre at hc
    have h4 : (WTm.not (.lt (.lit (.int (n : Int))) (.len (.arg 0)))).holds [] { args := [.list (ns.map .int)] } = true := by
      have h4 := (holds_andW hc).1
      rw [hn] at h4
      exact h4
    have h5 := condW_of h4 (w_not (w_lt w_lit (w_len_list (w_arg rfl))))
    rw [List.length_map] at h5
    refine Nat.le_of_not_lt fun q => ?_
    have q' : (n : Int) < ((ns.length : Nat) : Int) := by omega
    first
      | (rw [decide_eq_true q'] at h5; exact absurd h5 (by decide))
      | (simp at h5; omega)
  cases hwl with
  | cons w1 w2 =>
    cases w2
    cases w1 with
    | list ho hall => exact ⟨_, _, ns, rfl, rfl, ho, ints_of_wellAll ns _ hall, hlen⟩

theorem post_true (l : OpenLaw) (args : List WData) : l.row.toRowW.claim.post args (.bool true) args = true :=
  postW_of (r := l.row.toRowW) (X := (true == true))
    (show WShape.has [] (.bool true) .bool = true by first | rfl | decide | simp [WShape.has, WShape.arms, WShape.armsAll])
    (show (WTm.eq .res (.lit (.bool true))).value [] { args := args, res := some (.bool true), after := args } = some (.bool (true == true)) from w_eq_bool (w_res rfl) w_lit) rfl

/-! ### the attachment: holds_open's last premise (the goal 'hc' behind k_head) from a wpAny of the law's body -/
/-- the same from a codeAny of the CALL (for a layer whose function contracts speak of calls) -/
theorem attach_call {l : OpenLaw} {n : Nat} {q : Program} {loose : List Str} {XP : (Str → Option Value) → Heap → Prop} {YP : World → Heap → Prop} {d : DefRec}
    (hn : l.most = some n) (hdf : d.params.defaults = [])
    (call : ∀ (w : World) (s₀ s₁ : Shared) (mg mb : Str → Option Value) (fa : Addr) (o : Obj) (pm cd doc : Value) (a : Addr) (vs : List Value) (ns : List Int),
      Ground q loose [] XP w s₀ mg mb s₁.heap → YP w s₁.heap →
      s₁.heap.get? fa = some o → o.data = .func (docDef d.name d.params d.body d.scope pm cd doc) → s₁.heap.CodeRec cd d.name → mg d.name = some (.ref fa) →
      s₁.heap.get? a = some { cls := .type "list", data := .seq vs.toArray } → IntsAre vs ns → ns.length ≤ n → s₁.gens = #[] →
      codeAny (model l.prog w) callerA (.call (.ref fa) ⟨[.ref a], []⟩) (fun r s' => r = .ok (.ret (.bool true)) ∧ OldK s₁.heap s'.heap ∧ s'.os = s₁.os ∧ AllBare s'.gens) s₁) :
    WalkO q loose XP YP l.row.toRowW d [] (fun f vs => PySem.call f vs) := by
  intro w s₀ s₁ mg mb G Y fa o pm cd doc dV kV ho hd hcd hD hmg hg args vals as hpre hlay hrd hwl hlo
  obtain rfl : dV = .none := Dflts.none hD hdf
  obtain rfl : kV = .none := Dflts.noKw hD
  obtain ⟨a, vs, ns, rfl, rfl, hobj, hints, hlen⟩ := script_of hn hpre hwl
  refine enter_call (codeAny_mono (call w s₀ s₁ mg mb fa o pm cd doc a vs ns G Y ho (fd_plain hd) hcd hmg hobj hints hlen hg) fun r s' hq => ?_)
  obtain ⟨rfl, h2, h3, h4⟩ := hq
  exact ⟨.inl ⟨.bool true, .bool true, [], rfl, fun _ => rfl, .bool true, post_true l _, fun _ => ⟨List.Pairwise.nil, fun _ hm => (nomatch hm)⟩⟩, h2, h3, h4⟩

/-! ### rules over ANY heap (no ledger) from facts about the written part K: the library's own take a ledger (News) for what they write -/
section
variable {prog : Program} {w : World} {A : Around} {E : Value → Shared → Prop} {s : Shared} {K : Frag}

/-! the whole heap as the ledger: makes every rule that writes through a ledger a rule over any heap -/
def noObjs (h : Heap) : Heap := { h with objs := #[] }
def ledger (h : Heap) (L d : Addr) : List (Addr × Obj) := (List.range h.objs.size).filterMap fun a => if a = L ∨ a = d then none else (h.get? a).map fun o => (a, o)
end
end Att

namespace L2
open PySem PySem.Spec PyProof.Rows

theorem vals_ints : ∀ {vs : List Value} {ns : List Int}, IntsAre vs ns → Vals (ns.map V.int) vs
  | _, _, .nil => .nil
  | _, _, .cons n t h => .cons ⟨t, rfl⟩ (vals_ints h)

/-- nothing is tracked but the script, known to the object (or it is an object of the module) -/
def Only (H : Hp) : Prop := ∀ b, H b = none ∨ ∃ o xs, H b = some (.frz o (.lst xs))

/-- THE HEAD: the law's promise, at the heap behind the top. F, the promise of the law's def, may use that base is part of the heap (so K.In base, base.Ns mainGlobals mg stand in Mod) -/
theorem law_call {P : Program} {w : World} {K : PySem.W.Frag} {mg mb : Str → Option Value} {CX : CXT} {k : Nat} {fa a : Addr} {fd : FuncData} {x : Str} {sp : Sp} {s₁ : Shared} {vs : List Value} {ns : List Int}
    (KX : K.In s₁.heap) (hns : s₁.heap.Ns mainGlobals mg) (hb : s₁.heap.Ns builtinsNs mb) (hbb : ∀ x : Str, x ≠ "__name__" → mb x = bootBuiltins x) (hlim : s₁.heap.NoLimit) (hg : s₁.gens = #[])
    (ha : s₁.heap.get? a = some { cls := .type "list", data := .seq vs.toArray }) (hi : IntsAre vs ns) (hl : ns.length ≤ sizeLine) (hr : Room k callerA)
    (F : ∀ base : Heap, K.In base → base.Ns mainGlobals mg → FnOk P w K mg base CX k fa fd [x] sp) (hbind : ∀ (s : Shared) (u : Value), BindsTo s fd ⟨[u], []⟩ [(x, u)])
    (hsp : ∀ H : Hp, Only H → SqL K H a (ns.map V.int) → sp [.ref a] H (fun v _ => v = .bl true) fun _ _ _ => False)
    (hCX : ∀ H e s', CX [] H s₁ (fun _ _ _ => False) e s' → False) :
    codeAny (model P w) callerA (.call (.ref fa) ⟨[.ref a], []⟩) (fun r s' => r = .ok (.ret (.bool true)) ∧ OldK s₁.heap s'.heap ∧ s'.os = s₁.os ∧ AllBare s'.gens) s₁ := by
  have rv := vals_ints hi
  have lenV := hi.length
  -- from an abstract heap in which nothing but the script may be tracked
  have core : ∀ H : Hp, Only H → SqL K H a (ns.map V.int) → HOk P w H s₁.heap → (∀ b, H b ≠ none → b = a) → (H a ≠ none → K.lookup a = none) →
      codeAny (model P w) callerA (.call (.ref fa) ⟨[.ref a], []⟩) (fun r s' => r = .ok (.ret (.bool true)) ∧ OldK s₁.heap s'.heap ∧ s'.os = s₁.os ∧ AllBare s'.gens) s₁ := by
    intro H hO hS hok hA hK
    have base_of : ∀ {b : Addr} {o : Obj}, s₁.heap.get? b = some o → H b = none → (hidT s₁.heap H).get? b = some o := fun e n => hidT_get e n
    have noA : ∀ {b : Addr} {o : Obj} {es : Array DictEntry} {ep : Nat}, s₁.heap.get? b = some o → o.data = .dict es ep → H b = none := fun {b o es ep} e d => by
      cases q : H b with
      | none => rfl
      | some u =>
        have e' : b = a := hA b (by rw [q]; simp)
        subst e'
        rw [ha] at e; cases e
        have d' : Data.seq vs.toArray _ = Data.dict es ep := d
        cases d'
    have nsK : ∀ {b : Addr} {m : Str → Option Value}, s₁.heap.Ns b m → (hidT s₁.heap H).Ns b m := fun {b m} ⟨o, es, ep, e, d, r⟩ => ⟨o, es, ep, base_of e (noA e d), d, r⟩
    have hKb : K.In (hidT s₁.heap H) := fun b o e => base_of (KX b o e) (by
      cases q : H b with
      | none => rfl
      | some u =>
        have e' : b = a := hA b (by rw [q]; simp)
        subst e'
        rw [hK (by rw [q]; simp)] at e; cases e)
    have hM : Mod K mg (hidT s₁.heap H) := ⟨hKb, nsK hns, ⟨mb, nsK hb, hbb⟩, let ⟨mc, h1, h2⟩ := hlim; ⟨mc, nsK h1, h2⟩⟩
    have e0 : Env0 P w K mg (hidT s₁.heap H) callerA [] s₁ H := ⟨rfl, hM, fun b o e => of_hidT e, Nat.le_of_eq (hidT_size _ _), trivial, fun b hb => absurd (show b ∈ ([] : List Addr) from hb) (by simp), hok, .of_eq hg⟩
    refine codeAny_mono ((F _ hKb (nsK hns)).run callerA [] s₁ H ⟨[.ref a], []⟩ [.ref a] [.ref a] _ _ hr e0 (hbind s₁ (.ref a)) (.cons rfl .nil) (hsp H hO hS)) fun r s' h => ?_
    cases r with
    | error e => exact (hCX H e s' h).elim
    | ok fl =>
      cases fl with
      | next => exact False.elim h
      | brk => exact False.elim h
      | cont => exact False.elim h
      | ret u =>
        obtain ⟨v, H', os, bare, un, hok', r', q⟩ := h
        have q' : v = .bl true := q
        subst q'
        obtain rfl : u = Value.bool true := r'
        refine ⟨rfl, OldK.of_keep fun b o e => ?_, os, bare⟩
        cases q : H b with
        | none => exact un.keep b o e q (by intro z; exact absurd (show b ∈ ([] : List Addr) from z) (by simp)) (by simp)
        | some u =>
          rcases hO b with z | ⟨ob, xs, z⟩
          · rw [q] at z; cases z
          · have z2 := un.frzs b ob _ z
            obtain ⟨e1, _⟩ := hok b _ z
            obtain ⟨e2, _⟩ := hok' b _ z2
            rw [e] at e1; cases e1
            exact e2
  cases hk : K.lookup a with
  | some o =>
    -- the script is one of the module's own objects
    have e := KX a o hk
    rw [ha] at e
    cases e
    refine core (fun _ => none) (fun _ => .inl rfl) (.inr ⟨_, vs.toArray, _, hk, rfl, rfl, rfl, by rw [List.size_toArray, lenV]; exact hl, by simpa using rv⟩) (fun b u z => by have z' : (none : Option HO) = some u := z; cases z') (fun b z => absurd rfl z) fun z => absurd rfl z
  | none =>
    refine core (fun b => if b = a then some (.frz { cls := .type "list", data := .seq vs.toArray } (.lst (ns.map V.int))) else none) (fun b => ?_) (.inl (.inr ⟨{ cls := .type "list", data := .seq vs.toArray }, if_pos rfl⟩)) (fun b u z => ?_) (fun b z => ?_) fun _ => hk
    · by_cases hb : b = a
      · exact .inr ⟨_, _, if_pos hb⟩
      · exact .inl (if_neg hb)
    · by_cases hb : b = a
      · have z' := (if_pos hb).symm.trans z
        cases z'
        subst hb
        exact ⟨ha, by rw [List.length_map]; exact hl, vs, _, rv, ha⟩
      · have z' := (if_neg hb).symm.trans z
        cases z'
    · by_cases hb : b = a
      · exact hb
      · exact absurd (if_neg hb) z
end L2

namespace L2
open PySem PySem.Spec PyProof.Rows

abbrev KOf {K : PySem.W.Frag} {h : Heap} (_ : K.In h) : PySem.W.Frag := K

/-- the goal that k_head leaves (case hc), from the law's promise. F gives the function object fd (K's own) once, then the promise over every base -/
theorem walk_of {l : PySem.W.OpenLaw} {n k : Nat} {q : Program} {loose : List Str} {XP : (Str → Option Value) → Heap → Prop} {YP : World → Heap → Prop} {d : DefRec} {K : Params → PySem.W.Frag} {CX : World → CXT} {sp : World → Sp} {x : Str}
    (hn : l.most = some n) (hn2 : n ≤ sizeLine) (hdf : d.params.defaults = []) (hr : Room k callerA)
    (hY : ∀ (w : World) (h : Heap), YP w h → (K w.params).In h)
    (F : ∀ (w : World) (mg : Str → Option Value) (fa : Addr) (h : Heap), (K w.params).In h → h.Ns mainGlobals mg → mg d.name = some (.ref fa) →
      ∃ fd : FuncData, (∀ (s : Shared) (u : Value), BindsTo s fd ⟨[u], []⟩ [(x, u)]) ∧
        ∀ base : Heap, (K w.params).In base → base.Ns mainGlobals mg → FnOk l.prog w (K w.params) mg base (CX w) k fa fd [x] (sp w))
    (hsp : ∀ (w : World) (H : Hp) (a : Addr) (ns : List Int), ns.length ≤ n → Only H → SqL (K w.params) H a (ns.map V.int) → sp w [.ref a] H (fun v _ => v = .bl true) fun _ _ _ => False)
    (hCX : ∀ (w : World) (H : Hp) (s : Shared) (e : Value) (s' : Shared), CX w [] H s (fun _ _ _ => False) e s' → False) :
    PySem.W.WalkO q loose XP YP l.row.toRowW d [] (fun f vs => PySem.call f vs) := by
  refine Att.attach_call hn hdf fun w s₀ s₁ mg mb fa o pm cd doc a vs ns G Y ho hd hcd hmg hobj hints hlen hg => ?_
  have KX := hY w _ Y
  obtain ⟨fd, hb, hF⟩ := F w mg fa _ KX G.T.g hmg
  exact law_call KX G.T.g G.T.b G.T.builtins G.T.nolimit hg hobj hints (Nat.le_trans hlen hn2) hr hF hb (fun H hO hS => hsp w H a ns hlen hO hS) fun H e s' => hCX w H s₁ e s'
/-- the same where the promise hangs on the written part alone: (sp := My.sp_law), no hole under a binder -/
theorem walk_ofK {l : PySem.W.OpenLaw} {n k : Nat} {q : Program} {loose : List Str} {XP : (Str → Option Value) → Heap → Prop} {YP : World → Heap → Prop} {d : DefRec} {K : Params → PySem.W.Frag} {CX : CXT} {sp : PySem.W.Frag → Sp} {x : Str}
    (hn : l.most = some n) (hn2 : n ≤ sizeLine) (hdf : d.params.defaults = []) (hr : Room k callerA)
    (hY : ∀ (w : World) (h : Heap), YP w h → (K w.params).In h)
    (F : ∀ (w : World) (mg : Str → Option Value) (fa : Addr) (h : Heap), (K w.params).In h → h.Ns mainGlobals mg → mg d.name = some (.ref fa) →
      ∃ fd : FuncData, (∀ (s : Shared) (u : Value), BindsTo s fd ⟨[u], []⟩ [(x, u)]) ∧
        ∀ base : Heap, (K w.params).In base → base.Ns mainGlobals mg → FnOk l.prog w (K w.params) mg base CX k fa fd [x] (sp (K w.params)))
    (hsp : ∀ (K : PySem.W.Frag) (H : Hp) (a : Addr) (ns : List Int), ns.length ≤ n → Only H → SqL K H a (ns.map V.int) → sp K [.ref a] H (fun v _ => v = .bl true) fun _ _ _ => False)
    (hCX : ∀ (H : Hp) (s : Shared) (e : Value) (s' : Shared), CX [] H s (fun _ _ _ => False) e s' → False) :
    PySem.W.WalkO q loose XP YP l.row.toRowW d [] (fun f vs => PySem.call f vs) :=
  walk_of (K := K) (CX := fun _ => CX) (sp := fun w => sp (K w.params)) hn hn2 hdf hr hY F (fun w H a ns h1 h2 h3 => hsp (K w.params) H a ns h1 h2 h3) fun _ H s e s' => hCX H s e s'
end L2

/- THE LAST THEOREM (shape; LID, My.* are yours):
   My.Adr: a structure of the addresses that your layer names (classes, functions); My.Txt K t: a structure (Prop) of the equations over K;
   My.txt_mk : {K} {implicit addresses ..} (e1 : nsIn K mainGlobals "law" = some (some (.ref f))) (e2 : K.lookup f = some ⟨oc, od, .func (fnOf "law" "law" params body scope dV kV doc pm an cdv ct), sl⟩) (e3 : codeIn K cdv "law" = true) .. : ∃ t, My.Txt K t

set_option maxRecDepth 100000 in
set_option maxHeartbeats 0 in
theorem PySem.Challenge.cw_LID_holds : PySem.Challenge.rw_LID.Holds := by
  w_on; o_law; k_head; (case hw => w_witness2)
  k_fill
  refine L2.walk_of (l := PySem.Challenge.rw_LID) (n := 63) (k := 40) (x := "script") (CX := fun w => ..) (sp := fun _ => My.sp_law) rfl (by decide) rfl ⟨rfl, by decide, by decide⟩ (fun w h Y => PySem.W.kIn_of Y) ?F ?S ?C
  case F =>
    intro w mg fa h KX G hmg
    have T : ∃ t, My.Txt (L2.KOf KX) t := by
      dsimp only [L2.KOf]                          -- K must stand as «<heap const> w.params» for k_is
      refine' My.txt_mk ?e1 ?e2 ?e3 ..
      (case e1 => PySem.W.k_is)                    -- in the order: a name -> its address -> its object -> its parts
      (case e2 => PySem.W.k_is)
      ..
    obtain ⟨t, T⟩ := T
    have e0 := hmg.symm.trans (PySem.W.mg_of KX G T.law)
    cases e0                                       -- fa is the law's own address
    exact ⟨_, fun s u => .of_eq rfl, fun base kb nb => My.law_fn T kb nb⟩     -- if «.of_eq rfl» comes too early: refine' ⟨_, ?b, fun base kb nb => My.law_fn T kb nb⟩; exact fun s u => .of_eq rfl
  case S => exact fun w H a ns hl hO hS => ..
  case C => exact ..
(the tactic k_is has no namespace: write k_is) -/

/-! SHORT WORDS over the layer: a def of the text, its body, what a loop and a test want. -/
namespace L2
open PySem PySem.Spec PyProof.Rows

/-! ### the text by places -/
/-- the j-th statement of a class's body -/
def inClass (s : Stmt) (j : Nat) : Stmt := match s with
  | .ClassDef _ _ _ body _ _ _ _ _ _ _ => body.getD j (.Pass ⟨0, 0, 0, 0⟩)
  | _ => .Pass ⟨0, 0, 0, 0⟩
def defArgs (s : Stmt) : Arguments := match s with
  | .FunctionDef _ a _ _ _ _ _ _ _ _ => a
  | _ => { posonlyargs := [], args := [], vararg := none, kwonlyargs := [], kw_defaults := [], kwarg := none, defaults := [] }
def defBody (s : Stmt) : List Stmt := match s with
  | .FunctionDef _ _ b _ _ _ _ _ _ _ => b
  | _ => []
def defScope (s : Stmt) : Scope := match s with
  | .FunctionDef _ _ _ _ _ _ sc _ _ _ => sc
  | _ => { kind := .function, names := [], isGenerator := false, isCoroutine := false }

/-! ### no exception leaves a def -/
abbrev CX0 : CXT := fun _ _ _ _ _ _ => False
abbrev E0 : XK := fun _ _ _ => False
theorem pass0 {X : Cx} : Passes CX0 X E0 := fun _ _ _ _ _ _ _ h => h.elim

/-! ### a def (or method) of the text as it stands behind the top -/
structure Fun (K : PySem.W.Frag) (x qual : Str) (st : Stmt) (f : Addr) (fd : FuncData) : Prop where
  ex : ∃ (oc : Value) (od : Option Addr) (kV doc pm : Value) (an : Option Addr) (cdv ct : Value) (osl : Array (Option Value)),
    fd = PySem.W.fnOf x qual (defArgs st) (defBody st) (defScope st) .none kV doc pm an cdv ct ∧ K.lookup f = some ⟨oc, od, .func fd, osl⟩ ∧ PySem.W.codeIn K cdv qual = true
  kp : PySem.W.keepIn K (.ref f) = true
section
variable {P : Program} {w : World} {K : PySem.W.Frag} {mg : Str → Option Value} {base : Heap}
/-- THE RULE for a def: its body as a term of rules, and the reading of that term -/
theorem Fun.ok {x qual : Str} {st : Stmt} {f : Addr} {fd : FuncData} {N ps : List Str} {k : Nat} {sp : Sp} (F : Fun K x qual st f fd) (S : FnScope N ps (defScope st)) (len : ∀ vs H Q E, sp vs H Q E → vs.length = ps.length)
    (hbody : ∀ (cdv : Value) (A : Around) (outer : List Env) (s : Shared) (H : Hp) (vs : List V) (Q : VK) (E : XK), Room k (A.deeper (envOfC qual (defScope st) s.heap.objs.size f cdv)) → sp vs H Q E →
      ∃ t, PSs (cxOf CX0 P w K mg base N qual (defScope st) f cdv A outer s H E).nox (defBody st) t ∧ t { nx := fun _ H' => Q .non H', rt := Q } (start N vs) H) : FnOk P w K mg base CX0 (k + 1) f fd ps sp := by
  obtain ⟨oc, od, kV, doc, pm, an, cdv, ct, osl, rfl, lk, hcd⟩ := F.ex
  refine fn_of lk hcd S len fun A outer s H vs Q E hr hsp => ?_
  obtain ⟨t, h, q⟩ := hbody cdv A outer s H vs Q E hr hsp
  exact ⟨t, h.nox, q⟩
/-- how its arguments bind (no defaults): h is «fun _ _ _ _ _ _ us hl => match us, hl with | [_, _], _ => rfl», one _ a parameter -/
theorem Fun.binds {x qual : Str} {st : Stmt} {f : Addr} {fd : FuncData} {ps : List Str} (F : Fun K x qual st f fd)
    (h : ∀ (kV doc pm : Value) (an : Option Addr) (cdv ct : Value) (us : List Value), us.length = ps.length → bindArgs (PySem.W.fnOf x qual (defArgs st) (defBody st) (defScope st) .none kV doc pm an cdv ct) ⟨us, []⟩ = pure (ps.zip us)) : Binds K fd ps [] := by
  obtain ⟨oc, od, kV, doc, pm, an, cdv, ct, osl, rfl, lk, hcd⟩ := F.ex
  exact .all (h kV doc pm an cdv ct)
theorem fun_mk {x qual : Str} {st : Stmt} {f : Addr} {oc : Value} {od an : Option Addr} {osl : Array (Option Value)} {kV doc pm cdv ct : Value} (l : K.lookup f = some ⟨oc, od, .func (PySem.W.fnOf x qual (defArgs st) (defBody st) (defScope st) .none kV doc pm an cdv ct), osl⟩)
    (c : PySem.W.codeIn K cdv qual = true) (k : PySem.W.keepIn K (.ref f) = true) : Fun K x qual st f (PySem.W.fnOf x qual (defArgs st) (defBody st) (defScope st) .none kV doc pm an cdv ct) := ⟨⟨oc, od, kV, doc, pm, an, cdv, ct, osl, rfl, l, c⟩, k⟩
end
theorem hu_of {A : Around} {k : Nat} (hr : Room k A) : A.units + 1 < cLine := Nat.lt_of_le_of_lt (Nat.add_le_add_left (by decide : 1 ≤ 64) _) hr.units
theorem small1000 {n : Nat} (h : n ≤ 1000) : n < sizeLine := Nat.lt_of_le_of_lt h (by decide)

/-! ### expressions in short: the name that stands in the i-th slot -/
section
variable {X : Cx}
theorem pv (i : Nat) {x : Str} {pos : Pos} (hN : X.N[i]? = some x := by rfl) (hv : Vis X.env.scope x := by first | exact Or.inl rfl | exact Or.inr (Or.inl rfl) | exact Or.inr (Or.inr rfl)) (hd : (x == ("__debug__" : Str)) = false := by decide)
    (hcd : (x == ("__classdict__" : Str)) = false := by decide) : PE X (.Name x pos) (tVar i) := pe_var hN hv hd hcd
end

/-! ### tests -/
theorem iteF {A B : Prop} (h : B) : if false = true then A else B := by
  rw [if_neg Bool.false_ne_true]
  exact h
theorem iteT {A B : Prop} (h : A) : if true = true then A else B := by
  rw [if_pos rfl]
  exact h
theorem ite2 {c A B : Prop} [Decidable c] (h1 : c → A) (h2 : ¬ c → B) : if c then A else B := by
  by_cases h : c
  · rw [if_pos h]
    exact h1 h
  · rw [if_neg h]
    exact h2 h
theorem iteNS {c A B : Prop} [Decidable c] (hc : c) (h : B) : if (!decide c) = true then A else B := by
  rw [decide_eq_true hc]
  exact iteF h

/-! ### heaps -/
/-- all that was tracked is as it was -/
def Same (H H' : Hp) : Prop := ∀ b o, H b = some o → H' b = some o
theorem Same.refl (H : Hp) : Same H H := fun _ _ h => h
theorem Same.trans {H H1 H2 : Hp} (a : Same H H1) (b : Same H1 H2) : Same H H2 := fun c o h => b c o (a c o h)
theorem Same.seq {K : PySem.W.Frag} {H H' : Hp} {a : Addr} {xs : List V} (e : Same H H') (h : SqL K H a xs) : SqL K H' a xs := by
  rcases h with (h | ⟨o, h⟩) | h
  · exact .inl (.inl (e _ _ h))
  · exact .inl (.inr ⟨o, e _ _ h⟩)
  · exact .inr h

end L2

set_option linter.all false
namespace L2
open PySem

/-- what a block closes over -/
theorem closure_of {scope : Scope} {env : Env} (h : ∀ x, (x, NameKind.free) ∈ scope.names → ∃ c, env.cells.lookup x = some c) :
    ∃ cl, closureFor scope env = pure cl ∧ (∀ x c, cl.lookup x = some c → env.cells.lookup x = some c) ∧ ∀ x, (x, NameKind.free) ∈ scope.names → ∃ c, cl.lookup x = some c := by
  have all : ∀ (ns : List (Str × NameKind)) (cs : List (Str × Addr)), (∀ x, (x, NameKind.free) ∈ ns → ∃ c, env.cells.lookup x = some c) → (∀ x c, cs.lookup x = some c → env.cells.lookup x = some c) →
      ∃ cl, (forIn ns cs (fun (q : Str × NameKind) r => if (q.2 == NameKind.free) = true then (cellOf env q.1 >>= fun a => pure (ForInStep.yield ((q.1, a) :: r))) else pure (ForInStep.yield r)) : Sem (List (Str × Addr))) = pure cl ∧
        (∀ x c, cl.lookup x = some c → env.cells.lookup x = some c) ∧ (∀ x, (x, NameKind.free) ∈ ns → ∃ c, cl.lookup x = some c) ∧ ∀ x, (∃ c, cs.lookup x = some c) → ∃ c, cl.lookup x = some c := by
    intro ns
    induction ns with
    | nil => intro cs _ hc; exact ⟨cs, rfl, hc, fun x z => absurd z (by simp), fun x z => z⟩
    | cons q r ih =>
      intro cs hn hc
      obtain ⟨x, k⟩ := q
      rw [List.forIn_cons]
      by_cases hk : k = NameKind.free
      · subst hk
        obtain ⟨c, hx⟩ := hn x List.mem_cons_self
        obtain ⟨cl, e, h1, h2, h3⟩ := ih ((x, c) :: cs) (fun y z => hn y (List.mem_cons_of_mem _ z)) (fun y d z => by
          rw [List.lookup_cons] at z
          cases q : y == x with
          | true => rw [q] at z; cases z; rw [eq_of_beq q]; exact hx
          | false => rw [q] at z; exact hc y d z)
        refine ⟨cl, ?_, h1, fun y z => ?_, fun y z => ?_⟩
        · simp only [cellOf, hx, beq_self_eq_true, if_true, pure_bind]
          exact e
        · rcases List.mem_cons.mp z with z | z
          · have : y = x := congrArg Prod.fst z
            subst this
            exact h3 y ⟨c, by simp [List.lookup_cons]⟩
          · exact h2 y z
        · obtain ⟨d, z⟩ := z
          refine h3 y ?_
          rw [List.lookup_cons]
          cases q : y == x with
          | true => exact ⟨c, rfl⟩
          | false => exact ⟨d, z⟩
      · have hb : (k == NameKind.free) = false := by simpa using hk
        obtain ⟨cl, e, h1, h2, h3⟩ := ih cs (fun y z => hn y (List.mem_cons_of_mem _ z)) hc
        refine ⟨cl, ?_, h1, fun y z => ?_, h3⟩
        · simp only [hb, Bool.false_eq_true, if_false, pure_bind]
          exact e
        · rcases List.mem_cons.mp z with z | z
          · exact absurd (congrArg Prod.snd z).symm hk
          · exact h2 y z
  obtain ⟨cl, e, h1, h2, _⟩ := all scope.names [] h (fun x c z => by simp at z)
  refine ⟨cl, ?_, h1, h2⟩
  show (forIn scope.names [] _ >>= fun cs => pure cs) = pure cl
  rw [bind_pure]
  exact e

/-- a name that is no local of the block is free in it -/
theorem relabel_free {scope : Scope} {env : Env} (hc : ∀ y ∈ scope.names, y.2 ≠ .cell) {x : Str} (h : (relabel scope env).names.lookup x = some .cell ∨ (relabel scope env).names.lookup x = some .free) : (x, NameKind.free) ∈ scope.names := by
  have all : ∀ (ns : List (Str × NameKind)), (∀ y ∈ ns, y.2 ≠ .cell) →
      ((ns.map fun (n, k) => if (k == NameKind.free && env.scope.kind == .function && env.kindOf n == some .cell) then (n, NameKind.cell) else (n, k)).lookup x = some .cell ∨
       (ns.map fun (n, k) => if (k == NameKind.free && env.scope.kind == .function && env.kindOf n == some .cell) then (n, NameKind.cell) else (n, k)).lookup x = some .free) → (x, NameKind.free) ∈ ns := by
    intro ns
    induction ns with
    | nil => intro _ z; simp at z
    | cons q r ih =>
      intro hn z
      obtain ⟨n, k⟩ := q
      have ih' := ih (fun y hy => hn y (List.mem_cons_of_mem _ hy))
      have hk := hn (n, k) List.mem_cons_self
      simp only [List.map_cons] at z
      by_cases hcd : (k == NameKind.free && env.scope.kind == .function && env.kindOf n == some .cell) = true
      · have kf : k = NameKind.free := by
          have := (Bool.and_eq_true _ _ ▸ hcd)
          simp only [Bool.and_eq_true] at hcd
          exact eq_of_beq hcd.1.1
        simp only [hcd, if_true, List.lookup_cons] at z
        cases e : x == n with
        | true => rw [eq_of_beq e, kf]; exact List.mem_cons_self
        | false => rw [e] at z; exact List.mem_cons_of_mem _ (ih' z)
      · simp only [hcd, Bool.false_eq_true, if_false, List.lookup_cons] at z
        cases e : x == n with
        | true =>
          rw [e] at z
          rcases z with z | z
          · exact absurd (Option.some.inj z) hk
          · rw [eq_of_beq e, Option.some.inj z]; exact List.mem_cons_self
        | false => rw [e] at z; exact List.mem_cons_of_mem _ (ih' z)
  exact all scope.names hc h

section
variable {prog : Program} {w : World} {A : Around} {R : Result → Shared → Prop} {s : Shared}
/-- the tests of a block -/
abbrev ifsOf (ifs : List Expr) (env : Env) : Sem Bool := forIn ifs true fun c r => if r = true then do let ok ← isTrue c env (eval c env); pure (ForInStep.yield ok) else pure (ForInStep.yield r)
/-- the block's loop, nothing raised in it -/
theorem blk_loop {elt target iter : Expr} {ifs : List Expr} {scope : Scope} {pos : Pos} {it acc : Value} {env : Env} (I : Nat → Shared → Prop)
    (turn : ∀ n s, I n s → wpAny (model prog w) A (pyNext it) (fun r s1 => match r with
      | none => R (.ok .next) s1
      | some v => wpAny (model prog w) A (letOwnedTupleGo target it v) (fun _ s2 => wpAny (model prog w) A (assign target env v) (fun _ s3 => wpAny (model prog w) A (ifsOf ifs env) (fun ok s4 =>
          if ok = true then wpAny (model prog w) A (eval elt env) (fun x s5 => wpAny (model prog w) A (call (.builtin "list.append") [acc, x]) (fun _ s6 => ∃ m, m < n ∧ I m s6) (fun _ _ => False) s5) (fun _ _ => False) s4
          else ∃ m, m < n ∧ I m s4) (fun _ _ => False) s3) (fun _ _ => False) s2) (fun _ _ => False) s1) (fun _ _ => False) s)
    (n : Nat) (h : I n s) : codeAny (model prog w) A (.compLoop (.ListComp elt [⟨target, iter, ifs, 0⟩] scope pos) 0 it acc env) R s := by
  refine codeAny_loop rfl I (fun n s hI => ?_) n h
  have core : wpAny (model prog w) A (compTurn (.ListComp elt [⟨target, iter, ifs, 0⟩] scope pos) 0 it acc env)
      (fun fin s' => match fin with | .done f => R (.ok f) s' | .again c' => c' = .compLoop (.ListComp elt [⟨target, iter, ifs, 0⟩] scope pos) 0 it acc env ∧ ∃ m, m < n ∧ I m s') (fun _ _ => False) s := by
    rw [compTurn_list]
    refine wpAny_bind (wpAny_standAt (wpAny_bind (wpAny_mono (turn n s hI) (fun r s1 h1 => ?_) fun _ _ e => e)))
    cases r with
    | none => exact wpAny_pure h1
    | some v =>
      refine wpAny_bind (wpAny_mono h1 (fun _ s2 h2 => ?_) fun _ _ e => e)
      refine wpAny_bind (wpAny_mono h2 (fun _ s3 h3 => wpAny_bind (wpAny_mono h3 (fun ok s4 h4 => ?_) fun _ _ e => e)) fun _ _ e => e)
      cases ok with
      | false => exact wpAny_pure ⟨rfl, h4⟩
      | true =>
        exact wpAny_bind (wpAny_bind (wpAny_mono h4 (fun x s5 h5 => wpAny_bind (wpAny_mono h5 (fun _ s6 h6 => wpAny_pure (wpAny_pure ⟨rfl, h6⟩)) fun _ _ e => e)) fun _ _ e => e))
  show wpAny _ A ((compTurn (.ListComp elt [⟨target, iter, ifs, 0⟩] scope pos) 0 it acc env).onRaise (fun x => do noteFrame x env; theTreesLotGoes x)) _ _ s
  exact wpAny_noted (wpAny_mono core (fun _ _ q => q) fun _ _ e => e.elim)
end
end L2

set_option linter.all false
set_option maxHeartbeats 4000000
set_option maxRecDepth 100000
namespace L2
open PySem PySem.Spec PyProof.Rows

/-! ### comprehensions -/
/-- the block's names: its own, then those that it closes over, by their places in the def -/
def capN (N : List Str) (own : List Str) (cap : List Nat) : List Str := own ++ cap.map fun j => N.getD j Str.empty
def capS (own : List Str) (cap : List Nat) (σ : St) : St := own.map (fun _ => (none : Option V)) ++ cap.map fun j => (σ[j]?).getD none
/-- σ' knows what σ knows -/
structure Wk (σ σ' : St) : Prop where
  len : σ'.length = σ.length
  val : ∀ (i : Nat) v, σ[i]? = some (some v) → σ'[i]? = some (some v)
theorem Wk.set {σ : St} {i : Nat} {x : V} (h : σ[i]? = some none) : Wk σ (σ.set i (some x)) := by
  refine ⟨by simp, fun j v e => ?_⟩
  by_cases ij : i = j
  · subst ij; rw [h] at e; cases e
  · rw [List.getElem?_set_ne ij]; exact e

structure Blk (esc : Scope) (N : List Str) (scope : Scope) (own : List Str) (cap : List Nat) : Prop where
  kind : scope.kind = .function
  nocell : ∀ y ∈ scope.names, y.2 ≠ .cell
  names : ∀ y ∈ scope.names, y.2 = .local → scope.names.lookup y.1 = some .local
  free : ∀ y ∈ scope.names, y.2 = .free → esc.names.lookup y.1 = some .cell ∨ esc.names.lookup y.1 = some .free
  capf : ∀ j ∈ cap, scope.names.lookup (N.getD j Str.empty) = some .free

abbrev Cx.blk (X : Cx) (scope : Scope) (cl : List (Str × Addr)) (C : Addr) (N' : List Str) (s2 : Shared) (H2 : Hp) (ex : List Addr) : Cx where
  prog := X.prog
  w := X.w
  K := X.K
  mg := X.mg
  base := X.base
  A := X.A
  N := N'
  s₀ := s2
  H₀ := H2
  env := compEnvC scope cl C X.env
  outer := X.stack
  stack := X.stack
  ex := ex
  fn := fun _ => false
  calm := X.calm
  pn := []
  xe := fun _ _ => False

theorem lookup_relabel_free {env : Env} : ∀ {names : List (Str × NameKind)} {x : Str}, names.lookup x = some .free →
    (names.map fun (n, k) => if (k == NameKind.free && env.scope.kind == .function && env.kindOf n == some .cell) then (n, NameKind.cell) else (n, k)).lookup x = some .cell ∨
    (names.map fun (n, k) => if (k == NameKind.free && env.scope.kind == .function && env.kindOf n == some .cell) then (n, NameKind.cell) else (n, k)).lookup x = some .free
  | [], _, h => by simp at h
  | (n, k) :: r, x, h => by
    have ih := @lookup_relabel_free env r x
    simp only [List.map_cons]
    rw [List.lookup_cons] at h
    by_cases hc : (k == NameKind.free && env.scope.kind == .function && env.kindOf n == some .cell) = true
    · simp only [hc, if_true, List.lookup_cons]
      cases e : x == n with
      | true => exact .inl rfl
      | false => rw [e] at h; exact ih h
    · simp only [hc, Bool.false_eq_true, if_false, List.lookup_cons]
      cases e : x == n with
      | true => rw [e] at h; exact .inr h
      | false => rw [e] at h; exact ih h

section
variable {X : Cx} {pins : List (Addr × Obj)} {σ : St} {H2 : Hp} {s2 : Shared} {scope : Scope} {own : List Str} {cap : List Nat} {cl : List (Str × Addr)} {fp : List Addr} {C : Addr}

theorem blk_ok (B : Blk X.env.scope X.N scope own cap) (I2 : Inv X pins σ H2 s2) (f2 : ∀ b ∈ fp, FpOk X pins H2 b) (fl : ∀ b ∈ fp, b < s2.heap.objs.size) (hC : s2.heap.objs.size ≤ C)
    (h1 : ∀ x c, cl.lookup x = some c → X.env.cells.lookup x = some c) (h2 : ∀ x, (x, NameKind.free) ∈ scope.names → ∃ c, cl.lookup x = some c) : (X.blk scope cl C (capN X.N own cap) s2 H2 fp).Ok where
  mod := I2.ok.mod
  kind := B.kind
  glob := I2.ok.glob
  blt := I2.ok.blt
  above := hC
  inj := fun x y c e1 e2 => I2.ok.inj x y c (h1 x c e1) (h1 y c e2)
  has := fun x hx => h2 x (relabel_free B.nocell hx)
  cab := fun x c hx => absurd hx Bool.false_ne_true
  hd := I2.ok.hd
  frames := I2.ok.frames
  stk := .inl rfl
  exf := fun b hb => ⟨Nat.ne_of_lt (Nat.lt_of_lt_of_le (fl b hb) hC), fun x c e => (f2 b hb).2.2.2.2.1 x c (h1 x c e)⟩
  bs := I2.bs
  bsz := Nat.le_trans I2.ok.bsz I2.sz
  noex := fun b o e hb => by
    rcases (f2 b hb).2.2.2.1 with z | z
    · exact I2.ok.noex b o e z
    · exact absurd (Nat.lt_of_lt_of_le (Heap.lt_size e) (Nat.le_trans I2.ok.bsz z)) (Nat.lt_irrefl _)
  exfs := fun b hb hz => by
    rcases List.mem_cons.mp (I2.stkSub b hz) with z | z
    · exact (f2 b hb).2.1 z
    · exact (f2 b hb).2.2.1 z
  funs := I2.stack
  frf := I2.stkFree

/-- the block begins -/
theorem blk_start {h4 : Heap} {tk : Nat} {m : Str → Option Value} {D : Addr} {o : Obj} (B : Blk X.env.scope X.N scope own cap) (I2 : Inv X pins σ H2 s2) (f2 : ∀ b ∈ fp, FpOk X pins H2 b) (fl : ∀ b ∈ fp, b < s2.heap.objs.size) (hC : s2.heap.objs.size ≤ C)
    (h1 : ∀ x c, cl.lookup x = some c → X.env.cells.lookup x = some c) (h2 : ∀ x, (x, NameKind.free) ∈ scope.names → ∃ c, cl.lookup x = some c)
    (kp : ∀ b o, s2.heap.get? b = some o → h4.get? b = some o) (hn : h4.Ns C m) (hD : h4.get? D = some o) (hDs : s2.heap.objs.size ≤ D) (hDC : D ≠ C) (hod : ∀ v, o.data ≠ .cell v) :
    Inv (X.blk scope cl C (capN X.N own cap) s2 H2 fp) [(D, o)] (capS own cap σ) H2 { s2 with heap := h4, toks := tk } where
  ok := blk_ok B I2 f2 fl hC h1 h2
  os := rfl
  bare := I2.bare
  base := Un.kept kp
  loc := by
    refine ⟨m, hn, fun i x v e1 e2 _ => ?_⟩
    have e1 : (capN X.N own cap)[i]? = some x := e1
    unfold capS at e2
    unfold capN at e1
    by_cases hi : i < own.length
    · rw [List.getElem?_append_left (by simpa using hi), List.getElem?_map] at e2
      cases q : own[i]? with
      | none => rw [q] at e2; cases e2
      | some y => rw [q] at e2; cases e2
    · rw [List.getElem?_append_right (by simpa using hi), List.getElem?_map, List.length_map] at e2
      rw [List.getElem?_append_right (by omega), List.getElem?_map] at e1
      cases q : cap[i - own.length]? with
      | none => rw [q] at e2; cases e2
      | some j =>
        rw [q] at e1 e2
        have hx : X.N.getD j Str.empty = x := Option.some.inj e1
        have hv : (σ[j]?).getD none = some v := Option.some.inj e2
        have hσ : σ[j]? = some (some v) := by
          cases z : σ[j]? with
          | none => rw [z] at hv; cases hv
          | some y => rw [z] at hv; exact congrArg some hv
        have hj : j < X.N.length := by rw [← I2.len]; exact (List.getElem?_eq_some_iff.mp hσ).1
        have hNj : X.N[j]? = some x := by
          rw [← hx, List.getD_eq_getElem?_getD, List.getElem?_eq_getElem hj]; rfl
        have hf := B.capf j (List.mem_of_getElem? q)
        rw [hx] at hf
        have hk := B.free (x, .free) (mem_of_lookup hf) rfl
        obtain ⟨m2, _, hl⟩ := I2.loc
        obtain ⟨u, r, lk⟩ := hl j x v hNj hσ (.inr hk)
        refine ⟨u, r, .inr ⟨lookup_relabel_free hf, ?_⟩⟩
        rcases lk with ⟨z, _⟩ | ⟨_, c, ec, ic⟩
        · have z' : X.env.scope.names.lookup x = some .local := z
          rcases hk with q | q <;> (rw [z'] at q; cases q)
        · obtain ⟨c', e'⟩ := h2 x (mem_of_lookup hf)
          have e'' := h1 x c' e'
          rw [ec] at e''
          cases e''
          obtain ⟨oc, hoc, hd⟩ := ic
          exact ⟨c, e', oc, kp _ _ hoc, hd⟩
  cell := fun x c e => by
    obtain ⟨v, oc, hoc, hd⟩ := I2.cell x c (h1 x c e)
    exact ⟨v, oc, kp _ _ hoc, hd⟩
  free := I2.hok.fresh hC
  freeC := fun x c e => I2.freeC x c (h1 x c e)
  pin := fun p hp => by
    have e : p = (D, o) := by simpa using hp
    subst e
    exact ⟨hD, I2.hok.fresh hDs, hDC, fun hz => by
      obtain ⟨_, q, hq, _⟩ := I2.stack.mem hz
      exact absurd (Nat.lt_of_lt_of_le (Heap.lt_size hq) hDs) (Nat.lt_irrefl _), hod⟩
  hok := I2.hok.kept kp
  len := by
    show (capS own cap σ).length = (capN X.N own cap).length
    unfold capS capN
    simp

/-- the tests of a block -/
def PIf (X : Cx) (ifs : List Expr) (t : TT) : Prop :=
  ∀ (pins : List (Addr × Obj)) (s : Shared) (σ : St) (H : Hp) (Q : Bool → Hp → Prop), Inv X pins σ H s → t σ H Q → wpAny (model X.prog X.w) X.A (ifsOf ifs X.env) (TP X pins σ Q) X.xe s
def tYes : TT := fun _ H Q => Q true H
theorem pif_nil : PIf X [] tYes := fun _ _ _ H _ I h => wpAny_tests_nil ⟨H, I, h⟩
/-- what a block is to do: W: by the turn, a measure, what was gathered, the heap -/
def tBlk (own : List Str) (cap : List Nat) (g : TG) (tt : TT) (te : TE) (σ : St) (Z : List V → Hp → Prop) (J : It) (H1 : Hp) : Prop :=
  ∃ W : Nat → Nat → List V → Hp → Prop, (∃ m, W 0 m [] H1) ∧ ∀ i m acc H2, W i m acc H2 → acc.length < sizeLine ∧
    ((J.stop i H2 ∧ Z acc H2) ∨
     (J.go i H2 ∧ ∀ x H3, J.yld i H2 x H3 → g x (capS own cap σ) H3 fun σ4 H4 => Wk (capS own cap σ) σ4 ∧ tt σ4 H4 fun b H5 =>
        if b = true then te σ4 H5 fun v H6 => ∃ m', m' < m ∧ W (i + 1) m' (acc ++ [v]) H6 else ∃ m', m' < m ∧ W (i + 1) m' acc H5))

theorem blk_run {tg elt iter : Expr} {ifs : List Expr} {pos : Pos} {g : TG} {tt : TT} {te : TE} {J : It} {it : Addr} {tn : Nat → Heap → Prop} {Z : List V → Hp → Prop} {E : Value → Shared → Prop} {RR : Value → Addr → Result → Shared → Prop}
    (hc : X.calm = true) (B : Blk X.env.scope X.N scope own cap) (I2 : Inv X pins σ H2 s2) (T : Turn X.prog X.w X.K tg J fp it tn) (st2 : tn 0 s2.heap) (f2 : ∀ b ∈ fp, FpOk X pins H2 b)
    (h1 : ∀ x c, cl.lookup x = some c → X.env.cells.lookup x = some c) (h2 : ∀ x, (x, NameKind.free) ∈ scope.names → ∃ c, cl.lookup x = some c)
    (hg : ∀ cl C s2 H2 ex, PG (X.blk scope cl C (capN X.N own cap) s2 H2 ex) tg g) (ht : ∀ cl C s2 H2 ex, PIf (X.blk scope cl C (capN X.N own cap) s2 H2 ex) ifs tt) (he : ∀ cl C s2 H2 ex, PE (X.blk scope cl C (capN X.N own cap) s2 H2 ex) elt te)
    (w : tBlk own cap g tt te σ Z J H2)
    (hRR : ∀ (D C : Addr) (acc : List V) (H' : Hp) (s' : Shared), Inv X pins σ (upd H' D (.lst acc)) s' → D ≠ C → H' D = none → H' C = none → (∃ m, s'.heap.Ns C m) →
      (∀ σ'' H'' s'' h', Inv X pins σ'' H'' s'' → H'' C = none → Heap.SameBut C s''.heap h' → Inv X pins σ'' H'' { s'' with heap := h' }) → (∀ x c, X.env.cells.lookup x = some c → c ≠ C) → C ≠ X.env.locals → Z acc H' → RR (.ref D) C (.ok .next) s') :
    wpAny (model X.prog X.w) X.A (newList []) (fun acc s3 => wpAny (model X.prog X.w) X.A (newFunctionEnv scope X.env.globals cl [] X.env.qual none .none (some X.env)) (fun cenv s4 =>
      codeAny (model X.prog X.w) X.A (.compStart (.ListComp elt [⟨tg, iter, ifs, 0⟩] scope pos) 0 (.ref it) acc { cenv with scope := relabel scope X.env }) (RR acc cenv.locals) s4) E s3) E s2 := by
  obtain ⟨W, ⟨m0, w0⟩, turn⟩ := w
  have fl : ∀ b ∈ fp, b < s2.heap.objs.size := fun b hb => by obtain ⟨o, ho, _⟩ := T.obj 0 _ st2 b hb; exact Heap.lt_size ho
  refine wpAny_newObj_type (wpAny_newFunctionEnv B.nocell (by intro y hy; simp at hy) (fun h4 hns hsb => ?_) B.kind)
  dsimp only at hns hsb ⊢
  generalize hH3 : s2.heap.push { cls := .type "list", dict := none, data := .seq ([] : List Value).toArray } = H3 at hns hsb ⊢
  have hCs : H3.objs.size = s2.heap.objs.size + 1 := by rw [← hH3, Heap.size_push]
  have hDC : s2.heap.objs.size ≠ H3.objs.size := by rw [hCs]; exact Nat.ne_of_lt (Nat.lt_succ_self _)
  have hC : s2.heap.objs.size ≤ H3.objs.size := by rw [hCs]; exact Nat.le_succ _
  have kp : ∀ b o, s2.heap.get? b = some o → h4.get? b = some o := fun b o e => hsb.extBut b o (Nat.ne_of_lt (Nat.lt_of_lt_of_le (Heap.lt_size e) hC)) (Heap.get?_push_of_some _ (hH3 ▸ Heap.get?_push_of_some _ e))
  have hD4 : h4.get? s2.heap.objs.size = some { cls := .type "list", data := .seq ([] : List Value).toArray 0 } := hsb.extBut _ _ hDC (Heap.get?_push_of_some _ (hH3 ▸ Heap.get?_push_size _ rfl))
  generalize hCe : H3.objs.size = C at hns hsb hCs hDC hC ⊢
  generalize hDe : s2.heap.objs.size = D at hD4 hDC ⊢
  have hDs : s2.heap.objs.size ≤ D := Nat.le_of_eq hDe
  have flD : ∀ b ∈ fp, b ≠ D := fun b hb z => by have := fl b hb; rw [z, hDe] at this; exact Nat.lt_irrefl _ this
  have celD : ∀ x c, cl.lookup x = some c → c ≠ D := fun x c e z => by
    obtain ⟨v, q⟩ := I2.cell x c (h1 x c e)
    have := q.lt
    rw [z, hDe] at this
    exact Nat.lt_irrefl _ this
  let Y : Cx := X.blk scope cl C (capN X.N own cap) s2 H2 fp
  have lo : ∀ (its : List Value) (ep : Nat) (v : Option Value), ({ cls := .type "list", data := .seq its.toArray ep } : Obj).data ≠ .cell v := fun its ep v z => by
    have z' : Data.seq its.toArray ep = Data.cell v := z
    cases z'
  -- what stays true of the iterator's objects
  have fpY : ∀ {H' : Hp} {its : List Value} {ep : Nat}, (∀ b ∈ fp, H' b = none) → ∀ b ∈ fp, FpOk Y [(D, ({ cls := .type "list", data := .seq its.toArray ep } : Obj))] H' b := fun {H' its ep} hn b hb => by
    refine ⟨hn b hb, Nat.ne_of_lt (Nat.lt_of_lt_of_le (fl b hb) hC), fun hz => ?_, .inl hb, fun x c e => (f2 b hb).2.2.2.2.1 x c (h1 x c e), fun p hp => ?_⟩
    · rcases List.mem_cons.mp (I2.stkSub b hz) with z | z
      · exact (f2 b hb).2.1 z
      · exact (f2 b hb).2.2.1 z
    · rcases List.mem_append.mp hp with hp | hp
      · exact absurd (show p ∈ ([] : List (Addr × Obj)) from hp) (by simp)
      · have e : p = (D, ({ cls := .type "list", data := .seq its.toArray ep } : Obj)) := by simpa using hp
        subst e
        exact Ne.symm (flD b hb)
  have loop : ∀ s4 : Shared, s4 = { s2 with heap := h4, toks := s2.toks + ([] : List (Str × Value)).length } →
      codeAny (model X.prog X.w) X.A (.compLoop (.ListComp elt [⟨tg, iter, ifs, 0⟩] scope pos) 0 (.ref it) (.ref D) (compEnvC scope cl C X.env)) (RR (.ref D) C) s4 := by
    rintro s4 rfl
    refine blk_loop (fun n s' => ∃ i acc its ep H', Inv Y [(D, ({ cls := .type "list", data := .seq its.toArray ep } : Obj))] (capS own cap σ) H' s' ∧ tn i s'.heap ∧ (∀ b ∈ fp, H' b = none) ∧ Vals acc its ∧ W i n acc H') ?_ m0
      ⟨0, [], [], 0, H2, blk_start B I2 f2 fl hC h1 h2 kp hns hD4 hDs hDC (lo [] 0), T.keep 0 _ _ st2 fun b _ o e => kp b o e, fun b hb => (f2 b hb).1, .nil, w0⟩
    rintro n s5 ⟨i, acc, its, ep, H5, I5, st5, fr5, vl, w5⟩
    obtain ⟨room, alt⟩ := turn i n acc H5 w5
    have vlen := vl.length
    rcases alt with ⟨stop, zq⟩ | ⟨go, step⟩
    · refine thn (T.done Y rfl rfl rfl hc i _ s5 _ H5 (fun _ _ => False) I5 (fpY fr5) st5 stop) fun r s6 ⟨hr, I6⟩ => ?_
      subst hr
      show RR (.ref D) C (.ok .next) s6
      have pD := I6.pin (D, ({ cls := .type "list", data := .seq its.toArray ep } : Obj)) (List.mem_append_right _ (List.mem_singleton.mpr rfl))
      have fC : H5 C = none := I6.free
      have nD : ∀ b u, H5 b = some u → b ≠ D := fun b u e z => by rw [z, pD.2.1] at e; cases e
      have bD : ∀ b o, s2.heap.get? b = some o → b ≠ D := fun b o e z => by have := Heap.lt_size e; rw [z, hDe] at this; exact Nat.lt_irrefl _ this
      have un : Un (frs X.stack) fp H2 (upd H5 D (.lst acc)) s2.heap s6.heap :=
        ⟨I6.base.keep, I6.base.slot, fun b o e n x => by rw [upd_ne (bD b o e)]; exact I6.base.free b o e n x, I6.base.there,
          fun b xs e => by have q := I6.base.tups b xs e; rw [upd_ne (nD b _ q)]; exact q, fun b o u e => by have q := I6.base.frzs b o u e; rw [upd_ne (nD b _ q)]; exact q,
          fun b ps e => by obtain ⟨mo, q⟩ := I6.base.tbls b ps e; exact ⟨mo, by rw [upd_ne (nD b _ q)]; exact q⟩⟩
      have hok : HOk X.prog X.w (upd H5 D (.lst acc)) s6.heap := fun b u e => by
        by_cases hb : b = D
        · subst hb
          rw [upd_same] at e
          cases e
          exact ⟨Nat.le_of_lt room, its, ep, vl, pD.1⟩
        · rw [upd_ne hb] at e
          exact (I6.hok b u e).stay (fun c v _ q => q) (fun c q => by rw [upd_ne (nD c _ q)]; exact q) fun c xs q => by rw [upd_ne (nD c _ q)]; exact q
      have IX : Inv X pins σ (upd H5 D (.lst acc)) s6 := I2.call' I6.os un hok I6.bare fun b hb => ⟨(f2 b hb).2.2.2.1, (f2 b hb).2.1, (f2 b hb).2.2.2.2.1, (f2 b hb).2.2.2.2.2⟩
      obtain ⟨mm, hmm, _⟩ := I6.loc
      have cC : ∀ x c, X.env.cells.lookup x = some c → c ≠ C := fun x c e z => by
        obtain ⟨v, q⟩ := I2.cell x c e
        exact absurd (Nat.lt_of_lt_of_le q.lt (by rw [z]; exact hC)) (Nat.lt_irrefl _)
      have lC : C ≠ X.env.locals := Nat.ne_of_gt (Nat.lt_of_lt_of_le I2.lt hC)
      refine hRR D C acc H5 s6 IX hDC pD.2.1 fC ⟨mm, hmm⟩ (fun σ'' H'' s'' h' J'' hn hs => ?_) cC lC zq
      exact J''.turned (t' := s''.toks) (fun b o hb e => (hs.2 b hb).trans e) hn lC (.inr (Nat.le_trans I2.sz hC)) cC fun p hp z => by
        have := Heap.lt_size (I2.pin p hp).1
        exact absurd (Nat.lt_of_lt_of_le this (by rw [z]; exact hC)) (Nat.lt_irrefl _)
    · refine thn (T.item Y rfl rfl rfl hc i _ s5 _ H5 (fun _ _ => False) I5 (fpY fr5) st5 go) fun r s6 ⟨u, hr, h6⟩ => ?_
      subst hr
      refine thn h6 fun _ s7 ⟨x, H7, I7, r7, y7, st7, fr7⟩ => ?_
      have I7' := I7.pinned (fpY fr7) (T.obj _ _ st7)
      refine thn (hg cl C s2 H2 fp _ s7 _ H7 x u _ I7' r7 (step x H7 y7)) fun _ s8 ⟨σ8, H8, I8, wk8, q8⟩ => ?_
      refine thn (ht cl C s2 H2 fp _ s8 σ8 H8 _ I8 q8) fun ok s9 ⟨H9, I9, q9⟩ => ?_
      have unpin : ∀ {its' : List Value} {ep' : Nat} {H' : Hp} {s' : Shared} {acc' : List V} {m' : Nat}, Inv Y ([(D, ({ cls := .type "list", data := .seq its'.toArray ep' } : Obj))] ++ pinsAt fp s7.heap) σ8 H' s' → Vals acc' its' → W (i + 1) m' acc' H' → m' < n →
          ∃ m, m < n ∧ ∃ i acc its ep H'', Inv Y [(D, ({ cls := .type "list", data := .seq its.toArray ep } : Obj))] (capS own cap σ) H'' s' ∧ tn i s'.heap ∧ (∀ b ∈ fp, H'' b = none) ∧ Vals acc its ∧ W i m acc H'' := fun {its' ep' H' s' acc' m'} J v' w' hm => by
        refine ⟨m', hm, i + 1, acc', its', ep', H', (J.unpinned).weak wk8.len.symm wk8.val, T.keep _ _ _ st7 fun b hb o e => (J.pin (b, o) (List.mem_append_right _ (List.mem_append_right _ (mem_pinsAt hb e)))).1, fun b hb => ?_, v', w'⟩
        obtain ⟨o, e, d⟩ := T.obj _ _ st7 b hb
        exact (J.pin (b, o) (List.mem_append_right _ (List.mem_append_right _ (mem_pinsAt hb e)))).2.1
      cases ok with
      | false =>
        rw [if_neg Bool.false_ne_true] at q9 ⊢
        obtain ⟨m', hm, w'⟩ := q9
        exact unpin I9 vl w' hm
      | true =>
        rw [if_pos rfl] at q9 ⊢
        refine thn (he cl C s2 H2 fp _ s9 σ8 H9 _ I9 q9) fun v s10 ⟨y, H10, I10, r10, m', hm, w'⟩ => ?_
        have pD := I10.pin (D, ({ cls := .type "list", data := .seq its.toArray ep } : Obj)) (List.mem_append_right _ (List.mem_append_left _ (List.mem_singleton.mpr rfl)))
        refine call_meets F.slot_list_append ⟨_, pD.1, rfl⟩ F.entry_list_append (F.args_list_append_2 _ _) (PySem.list_append D its.toArray ep v (by rw [List.size_toArray]; omega)) ⟨pD.1, ?_⟩
        have eD := PySem.IsL.update pD.1 (·.push v)
        have ea : its.toArray.push v = (its ++ [v]).toArray := by simp
        rw [ea] at eD
        generalize (if (its ++ [v]).toArray.size == its.toArray.size then ep else ep + 1) = ep2 at eD
        have pl : ∀ p ∈ pinsAt fp s7.heap, p.1 ≠ D := fun p hp => flD p.1 (of_pinsAt hp).1
        have I11 : Inv Y (pinsAt fp s7.heap) σ8 H10 s10 := I10.pins_of fun p hp => I10.pin p (List.mem_append_right _ (List.mem_append_right _ hp))
        have I12 := I11.turned (it := D) (t' := s10.toks) (h' := s10.heap.update D (Obj.mapSeq (·.push v))) (fun b o hb e => (Heap.get?_update_other _ _ (Ne.symm hb)).trans e) pD.2.1 hDC (.inr hDs) celD (fun p hp => pl p ((List.mem_append.mp hp).elim (fun z => absurd (show p ∈ ([] : List (Addr × Obj)) from z) (by simp)) id))
        have I13 := I12.pins_of (pins' := [(D, ({ cls := .type "list", data := .seq (its ++ [v]).toArray ep2 } : Obj))] ++ pinsAt fp s7.heap) fun p hp => by
          rcases List.mem_append.mp hp with hp | hp
          · have e : p = (D, ({ cls := .type "list", data := .seq (its ++ [v]).toArray ep2 } : Obj)) := by simpa using hp
            subst e
            exact ⟨eD, pD.2.1, hDC, pD.2.2.2.1, lo _ _⟩
          · exact I12.pin p (List.mem_append_right _ hp)
        exact unpin I13 (vl.append (.cons r10 .nil)) w' hm
  exact codeAny_compStart_list (loop _ rfl) (T.self _ 0 _ _ _ (T.keep 0 _ _ st2 fun b _ o e => kp b o e) (loop _ rfl))
end

section
variable {X : Cx} {tg elt iter : Expr} {ifs : List Expr} {scope : Scope} {pos : Pos} {own : List Str} {cap : List Nat} {wi : TI} {g : TG} {tt : TT} {te : TE}
theorem blk_clos {pins : List (Addr × Obj)} {σ : St} {H : Hp} {s : Shared} (B : Blk X.env.scope X.N scope own cap) (I : Inv X pins σ H s) : ∃ cl, closureFor scope X.env = pure cl ∧ (∀ x c, cl.lookup x = some c → X.env.cells.lookup x = some c) ∧ ∀ x, (x, NameKind.free) ∈ scope.names → ∃ c, cl.lookup x = some c :=
  closure_of fun x hx => I.ok.has x (B.free (x, .free) hx rfl)

/-- [e for x in it if t] -/
def tComp (wi : TI) (own : List Str) (cap : List Nat) (g : TG) (tt : TT) (te : TE) : TE := fun σ H Q => wi σ H fun J H1 => tBlk own cap g tt te σ (fun acc H2 => ∀ p, H2 p = none → Q (.ref p) (upd H2 p (.lst acc))) J H1
theorem pe_comp (B : Blk X.env.scope X.N scope own cap) (hc : X.calm = true) (hi : PI X tg iter wi) (hg : ∀ cl C s2 H2 ex, PG (X.blk scope cl C (capN X.N own cap) s2 H2 ex) tg g) (ht : ∀ cl C s2 H2 ex, PIf (X.blk scope cl C (capN X.N own cap) s2 H2 ex) ifs tt)
    (he : ∀ cl C s2 H2 ex, PE (X.blk scope cl C (capN X.N own cap) s2 H2 ex) elt te) (hs : ∀ x, foldedSetIterable iter X.env x = pure x := by intro _; rfl) : PE X (.ListComp elt [⟨tg, iter, ifs, 0⟩] scope pos) (tComp wi own cap g tt te) := by
  intro pins s σ H Q I h
  obtain ⟨cl, hcl, h1, h2⟩ := blk_clos B I
  rw [eval_ListComp]
  refine wpAny_comprehension_free (use := none) rfl hs hcl B.kind B.names (thn (hi pins s σ H _ I h) fun v s1 q1 => thn q1 fun itv s2 q2 => ?_)
  obtain ⟨it, fp, tn, J, H2, e, I2, T, st2, f2, w⟩ := q2
  subst e
  refine blk_run (RR := fun acc C => compPost (model X.prog X.w) X.A X.xe none (EP X pins σ Q) acc C) hc B I2 T st2 f2 h1 h2 hg ht he w ?_
  intro D C acc H' s' IX hDC fD fC hn tu _ _ z
  obtain ⟨m, hn⟩ := hn
  exact ⟨m, hn, fun h' hs' => ⟨.ref D, _, tu σ _ s' h' IX (by rw [upd_ne (Ne.symm hDC)]; exact fC) hs', rfl, z D fD⟩⟩
/-- x = [e for ..], stored by an exchange -/
theorem ps_setComp {i : Nat} {y : Str} {py spos : Pos} (B : Blk X.env.scope X.N scope own cap) (hc : X.calm = true) (hi : PI X tg iter wi) (hg : ∀ cl C s2 H2 ex, PG (X.blk scope cl C (capN X.N own cap) s2 H2 ex) tg g) (ht : ∀ cl C s2 H2 ex, PIf (X.blk scope cl C (capN X.N own cap) s2 H2 ex) ifs tt)
    (he : ∀ cl C s2 H2 ex, PE (X.blk scope cl C (capN X.N own cap) s2 H2 ex) elt te) (hN : X.N.Nodup) (hy : X.N[i]? = some y) (hl : X.env.scope.names.lookup y = some .local)
    (hsw : swapsWith (.ListComp elt [⟨tg, iter, ifs, 0⟩] scope pos) (some (.Name y py)) spos.line X.env = pure true := by rfl)
    (hs : ∀ x, foldedSetIterable iter X.env x = pure x := by intro _; rfl) : PS X (.Assign [.Name y py] (.ListComp elt [⟨tg, iter, ifs, 0⟩] scope pos) spos) (tAsg (tComp wi own cap g tt te) (gName i)) := by
  intro pins s σ H D0 I h
  obtain ⟨cl, hcl, h1, h2⟩ := blk_clos B I
  rw [exec_Assign_Name_used _ _ _ _ hsw]
  refine wpAny_bind (wpAny_standAt (wpAny_bind ?_))
  show wpAny _ X.A (do let _ ← comprehension (.ListComp elt [⟨tg, iter, ifs, 0⟩] scope pos) scope X.env _ (newList []) false (eval iter X.env) (some (assign (.Name y py) X.env))) _ _ s
  refine wpAny_bind (thn (Q := fun _ s' => SP X pins D0 .next s') (wpAny_comprehension_free (use := some (assign (.Name y py) X.env)) rfl hs hcl B.kind B.names (thn (hi pins s σ H _ I h) fun v s1 q1 => thn q1 fun itv s2 q2 => ?_)) fun _ s' q => wpAny_pure (wpAny_pure q))
  obtain ⟨it, fp, tn, J, H2, e, I2, T, st2, f2, w⟩ := q2
  subst e
  refine blk_run (RR := fun acc C => compPost (model X.prog X.w) X.A X.xe (some (assign (.Name y py) X.env)) (fun _ s' => SP X pins D0 .next s') acc C) hc B I2 T st2 f2 h1 h2 hg ht he w ?_
  intro D C acc H' s' IX hDC fD fC hn tu cC lC z
  obtain ⟨m, hn⟩ := hn
  show wpAny _ X.A (assign (.Name y py) X.env (.ref D)) _ _ s'
  refine wpAny_assign_Name (store_ok2 IX hN hy (.inl hl) (v := .ref D) rfl (fun s'' I'' ⟨a, sb, ha⟩ => ?_) (.inr hl))
  have aC : C ≠ a := by
    rcases ha with e | e
    · rw [e]; exact lC
    · exact Ne.symm (cC _ _ e)
  exact ⟨m, hn.sameBut sb aC, fun h' hs' => ⟨_, _, tu _ _ s'' h' I'' (by rw [upd_ne (Ne.symm hDC)]; exact fC) hs', z D fD⟩⟩
end
end L2

set_option linter.all false
set_option maxHeartbeats 4000000
set_option maxRecDepth 100000
namespace L2
open PySem PySem.Spec PyProof.Rows

section
variable {P : Program} {w : World} {H : Hp} {h : Heap} {a : Addr} {o : HO}
theorem ObjOk.there (x : ObjOk P w H h a o) : ∃ u, h.get? a = some u := by
  induction o with
  | lst xs => obtain ⟨_, _, _, _, e⟩ := x; exact ⟨_, e⟩
  | tup xs => obtain ⟨_, _, _, q, e, _⟩ := x; exact ⟨_, e⟩
  | dK kvs => obtain ⟨_, _, _, _, q, _, _, e, _⟩ := x; exact ⟨_, e⟩
  | dT kvs => obtain ⟨_, _, _, _, q, _, _, e, _⟩ := x; exact ⟨_, e⟩
  | set S n => obtain ⟨q, _, _, _, e, _⟩ := x; exact ⟨_, e⟩
  | ins C dx fs => obtain ⟨_, _, _, e, _⟩ := x; exact ⟨_, e⟩
  | own y => exact x
  | xd fs => obtain ⟨_, ⟨q, _, _, e, _⟩, _⟩ := x; exact ⟨_, e⟩
  | rng lo hi => obtain ⟨_, _, _, e⟩ := x; exact ⟨_, e⟩
  | frz ob u ih => obtain ⟨e, _⟩ := x; exact ⟨_, e⟩
  | tbl ps => exact ⟨_, (show h.get? a = some _ from x)⟩
  | met f y => exact ⟨_, (show h.get? a = some _ from x)⟩
  | ext φ => obtain ⟨_, e, _⟩ := x; exact e
end

section
variable {X : Cx} {pins : List (Addr × Obj)} {σ : St} {H : Hp} {s : Shared} {h' : Heap} {a : Addr} {o : HO} {t' : Nat}
theorem Inv.no (I : Inv X pins σ H s) (hn : s.heap.get? a = none) : H a = none := by
  cases q : H a with
  | none => rfl
  | some u =>
    obtain ⟨v, e⟩ := (I.hok a u q).there
    rw [hn] at e; cases e
/-- all is kept, one more object is tracked at a place where none stood -/
theorem Inv.gain (I : Inv X pins σ H s) (k : ∀ b u, s.heap.get? b = some u → h'.get? b = some u) (hn : s.heap.get? a = none) (new : ObjOk X.prog X.w (upd H a o) h' a o) :
    Inv X pins σ (upd H a o) { s with heap := h', toks := t' } := by
  have hf := I.no hn
  have ne : ∀ b u, H b = some u → b ≠ a := fun b u e z => by rw [z, hf] at e; cases e
  have nb : ∀ b u, s.heap.get? b = some u → b ≠ a := fun b u e z => by rw [z, hn] at e; cases e
  refine I.un ⟨fun b u e _ _ _ => k b u e, fun b u e _ _ _ => ⟨u.slots, k b u e⟩, fun b u e n _ => by rw [upd_ne (nb b u e)]; exact n, fun b u e _ => ⟨u, k b u e⟩,
    fun b xs e => by rw [upd_ne (ne b _ e)]; exact e, fun b u v e => by rw [upd_ne (ne b _ e)]; exact e, fun b ps e => ⟨#[], by rw [upd_ne (ne b _ e), e]; simp⟩⟩ fun b u e => ?_
  by_cases hb : b = a
  · subst hb; rw [upd_same] at e; cases e; exact new
  · rw [upd_ne hb] at e
    exact (I.hok b u e).stay (fun c v _ q => k c v q) (fun c q => by rw [upd_ne (ne c _ q)]; exact q) fun c xs q => by rw [upd_ne (ne c _ q)]; exact q

/-! ### numbers of any size -/
def CBig (i j : Int) : Prop := (-(2 ^ 200) < i ∧ i < 2 ^ 200) ∧ (-(2 ^ 200) < j ∧ j < 2 ^ 200)
def CDivB (i j : Int) : Prop := 0 < j ∧ j < 2 ^ 200
/-! ### built-ins over lists -/
/-- sum of a list or a tuple of ints -/
theorem call_sum (hc : X.calm = true) : CallR X (.builtin "sum") (fun xs H Q => ∃ (p : Addr) (ns : List Int), xs = [.ref p] ∧ (SqL X.K H p (ns.map V.int) ∨ SqT X.K H p (ns.map V.int)) ∧ Q (.int ns.sum) H) := by
  intro pins s σ H xs us Q I r h
  obtain ⟨p, ns, rfl, hq, q⟩ := h
  obtain ⟨u, rfl, rx⟩ := vals1 r
  cases rx
  have hh := I.ok.hd hc
  have pre : ∀ (its : List Value), IntsAre its ns → preSum (fun i => ns.getD i 0) its.toArray.size = ns.sum := fun its hi => by
    rw [preSum_getD, List.take_of_length_le (by rw [List.size_toArray, hi.length]; exact Nat.le_refl _)]
  have val : ∀ (its : List Value), IntsAre its ns → ∀ (i : Nat) (v : Value), its.toArray[i]? = some v → ∃ t, v = .int (ns.getD i 0) t := fun its hi i v e => by
    have e' : its[i]? = some v := by simpa using e
    have hil : i < its.length := (List.getElem?_eq_some_iff.mp e').1
    obtain ⟨n, t, rfl⟩ := hi.all v (List.mem_of_getElem? e')
    refine ⟨t, ?_⟩
    have q := congrArg (fun l => l[i]?) hi.nums
    simp only [List.getElem?_map, e', Option.map_some] at q
    rw [List.getD_eq_getElem?_getD, ← q]; rfl
  have fin : ∀ (o : Obj) (s' : Shared) (t' : Tok) (its : List Value), IntsAre its ns → Moved [s.heap.objs.size] (fun a b => b = a) { s with heap := s.heap.push o } s' → EP X pins σ Q (.int (preSum (fun i => ns.getD i 0) its.toArray.size) t') s' := fun o s' t' its hi hm => by
    rw [pre its hi]
    have hk : ∀ b u, s.heap.get? b = some u → s'.heap.get? b = some u := fun b u e => hm.heap b u (fun z => absurd (Heap.lt_size e) (by rw [List.mem_singleton.mp z]; exact Nat.lt_irrefl _)) (Heap.get?_push_of_some _ e)
    rw [Moved.eq_with hm]
    exact ⟨.int ns.sum, H, I.kept (t' := s'.toks) hk, ⟨t', rfl⟩, q⟩
  rcases hq with hq | hq
  · obtain ⟨its, rv, pl, _⟩ := I.list hq
    have hi := intsAre_of rv
    have hl : s.heap.IsList p its.toArray := pl.isList
    obtain ⟨ol, hol, _⟩ := id hl
    refine call_sum_walkAnyS (wpAny_pyIter_list hl ⟨s.heap.objs.size, _, _, _, _, _, _, fun i => ns.getD i 0, rfl, (Walks.list (A := X.A.in1) hh s.heap.objs.size p (Nat.ne_of_lt (Heap.lt_size hol)) its.toArray).toS, ⟨⟨_, Heap.get?_push_size _ rfl, rfl, rfl⟩, hl.at fun o e => Heap.get?_push_of_some _ e⟩, ?_, val its hi, fun s' t' hm => fin _ s' t' its hi hm⟩)
    intro b hb
    show b < (s.heap.push _).objs.size
    rw [Heap.size_push]
    rcases List.mem_cons.mp hb with e | hb
    · rw [e]; exact Nat.lt_succ_self _
    · rw [List.mem_singleton.mp hb]; exact Nat.lt_succ_of_lt (Heap.lt_size hol)
  · obtain ⟨its, rv, pl, _⟩ := I.tuple hq
    have hi := intsAre_of rv
    have hl : s.heap.IsTuple p its.toArray := pl
    obtain ⟨ol, hol, _⟩ := id hl
    refine call_sum_walkAnyS (wpAny_pyIter_tuple hl ⟨s.heap.objs.size, _, _, _, _, _, _, fun i => ns.getD i 0, rfl, (Walks.tuple (A := X.A.in1) hh s.heap.objs.size p (Nat.ne_of_lt (Heap.lt_size hol)) its.toArray).toS, ⟨⟨_, Heap.get?_push_size _ rfl, rfl, rfl⟩, hl.at fun o e => Heap.get?_push_of_some _ e⟩, ?_, val its hi, fun s' t' hm => fin _ s' t' its hi hm⟩)
    intro b hb
    show b < (s.heap.push _).objs.size
    rw [Heap.size_push]
    rcases List.mem_cons.mp hb with e | hb
    · rw [e]; exact Nat.lt_succ_self _
    · rw [List.mem_singleton.mp hb]; exact Nat.lt_succ_of_lt (Heap.lt_size hol)

theorem ints_val {ns : List Int} {its : List Value} (hi : IntsAre its ns) {i : Nat} {v : Value} (e : its.toArray[i]? = some v) : ∃ t, v = .int (ns.getD i 0) t := by
  have e' : its[i]? = some v := by simpa using e
  obtain ⟨n, t, rfl⟩ := hi.all v (List.mem_of_getElem? e')
  refine ⟨t, ?_⟩
  have q := congrArg (fun l => l[i]?) hi.nums
  simp only [List.getElem?_map, e', Option.map_some] at q
  rw [List.getD_eq_getElem?_getD, ← q]; rfl
/-- max of a list of ints -/
theorem call_maxL (hc : X.calm = true) : CallR X (.builtin "max") (fun xs H Q => ∃ (p : Addr) (ns : List Int), xs = [.ref p] ∧ SqL X.K H p (ns.map V.int) ∧ 0 < ns.length ∧ ∀ M, M ∈ ns → (∀ a ∈ ns, a ≤ M) → Q (.int M) H) := by
  intro pins s σ H xs us Q I r h
  obtain ⟨p, ns, rfl, hq, hne, q⟩ := h
  obtain ⟨u, rfl, rx⟩ := vals1 r
  cases rx
  have hh := I.ok.hd hc
  obtain ⟨its, rv, pl, _⟩ := I.list hq
  have hi := intsAre_of rv
  have hl : s.heap.IsList p its.toArray := pl.isList
  obtain ⟨ol, hol, _⟩ := id hl
  have hlen : its.length = ns.length := hi.length
  refine call_max_walk (wpAny_pyIter_list hl ⟨s.heap.objs.size, _, _, _, _, _, fun i j => decide (ns.getD i 0 > ns.getD j 0), rfl, Walks.list (A := X.A.in1) hh s.heap.objs.size p (Nat.ne_of_lt (Heap.lt_size hol)) its.toArray,
    ⟨⟨_, Heap.get?_push_size _ rfl, rfl, rfl⟩, hl.at fun o e => Heap.get?_push_of_some _ e⟩, ?_, by rw [List.size_toArray]; omega, CmpOf.ints_gt (fun i => ns.getD i 0) (fun i v e => ints_val hi e), fun v h' tk hP hk => ?_⟩)
  · intro b hb
    show b < (s.heap.push _).objs.size
    rw [Heap.size_push]
    rcases List.mem_cons.mp hb with e | hb
    · rw [e]; exact Nat.lt_succ_self _
    · rw [List.mem_singleton.mp hb]; exact Nat.lt_succ_of_lt (Heap.lt_size hol)
  · obtain ⟨h1, h2⟩ := argBest_gt (fun i => ns.getD i 0) (its.toArray.size - 1)
    rw [List.size_toArray] at h1 h2
    obtain ⟨t, rfl⟩ := ints_val hi hP
    have hm : ∀ i, i < ns.length → ns.getD i 0 ∈ ns := fun i hi' => by rw [List.getD_eq_getElem?_getD, List.getElem?_eq_getElem hi']; exact List.getElem_mem hi'
    refine ⟨.int _, H, I.kept (t' := tk) fun b u e => hk b u (fun z => absurd (Heap.lt_size e) (by rw [List.mem_singleton.mp z]; exact Nat.lt_irrefl _)) (Heap.get?_push_of_some _ e), ⟨t, rfl⟩, q _ (hm _ (by rw [List.size_toArray]; omega)) fun a ha => ?_⟩
    obtain ⟨j, hj, rfl⟩ := List.mem_iff_getElem.mp ha
    have e := h2 j (by omega)
    have ej : ns.getD j 0 = ns[j] := by rw [List.getD_eq_getElem?_getD, List.getElem?_eq_getElem hj]; rfl
    rw [ej] at e
    rw [List.size_toArray]
    exact e

/-- xs.index(k), k is there -/
def rIndex : V → List V → Hp → VK → Prop := fun x vs H Q => ∃ (l : Addr) (ns : List Int) (k : Int), x = .ref l ∧ vs = [.int k] ∧ H l = some (.lst (ns.map V.int)) ∧ k ∈ ns ∧ ns.length ≤ 1000 ∧ Q (.int (ns.idxOf k : Nat)) H
/-! ### lists compared -/
def eqVs : List V → List V → Bool
  | [], [] => true
  | x :: xs, y :: ys => eqV x y && eqVs xs ys
  | _, _ => false
theorem eqVs_len : ∀ {xs ys : List V}, xs.length ≠ ys.length → eqVs xs ys = false
  | [], [], h => absurd rfl h
  | [], _ :: _, _ => rfl
  | _ :: _, [], _ => rfl
  | x :: xs, y :: ys, h => by
    show (eqV x y && eqVs xs ys) = false
    rw [eqVs_len (xs := xs) (ys := ys) (fun z => h (by simp [z])), Bool.and_false]
theorem eqVs_all : ∀ (xs ys : List V), xs.length = ys.length → eqVs xs ys = (List.range xs.length).all fun i => eqV (xs.getD i .non) (ys.getD i .non)
  | [], [], _ => rfl
  | x :: xs, y :: ys, h => by
    show (eqV x y && eqVs xs ys) = _
    rw [List.length_cons, List.range_succ_eq_map, List.all_cons, List.all_map, eqVs_all xs ys (by simpa using h)]
    rfl
def rEqL (K : PySem.W.Frag) (neg : Bool) : R2 := fun x y H Q => ∃ p b xs ys, x = .ref p ∧ y = .ref b ∧ SqL K H p xs ∧ SqL K H b ys ∧ xs.all flatV = true ∧ ys.all flatV = true ∧ Q (.bl (if neg then !eqVs xs ys else eqVs xs ys)) H
theorem flat_at {xs : List V} (h : xs.all flatV = true) {i : Nat} (hi : i < xs.length) : flatV (xs.getD i .non) = true := by
  rw [List.getD_eq_getElem?_getD, List.getElem?_eq_getElem hi]
  exact List.all_eq_true.mp h _ (List.getElem_mem hi)
theorem rel_at {xs : List V} {its : List Value} (r : Vals xs its) {i : Nat} (hi : i < its.toArray.size) : RelV (xs.getD i .non) its.toArray[i] := by
  have hx : i < xs.length := by rw [r.length]; simpa using hi
  obtain ⟨u, hu, ru⟩ := r.get (i := i) (x := xs[i]) (List.getElem?_eq_getElem hx)
  rw [List.getElem?_eq_getElem (by simpa using hi)] at hu
  rw [List.getD_eq_getElem?_getD, List.getElem?_eq_getElem hx]
  have e : its.toArray[i] = u := by simpa using Option.some.inj hu
  rw [e]; exact ru
theorem op_neL (hu : X.A.units < cLine) : OpR X (compareOp .NotEq) (rEqL X.K true) := by
  intro pins s σ H x y v u Q I rx ry h
  obtain ⟨p, b, xs, ys, rfl, rfl, hp, hb, fx, fy, q⟩ := h
  cases rx
  cases ry
  obtain ⟨its, r1, p1, _⟩ := I.list hp
  obtain ⟨jts, r2, p2, _⟩ := I.list hb
  have l1 := r1.length
  have l2 := r2.length
  simp only [if_true] at q
  by_cases e : xs.length = ys.length
  · rw [eqVs_all _ _ e] at q
    refine SeqAt.RcNeAt.lists (e := fun i => eqV (xs.getD i .non) (ys.getD i .non)) p1.isList p2.isList (by simp only [List.size_toArray]; omega) hu (fun j h1 h2 => eqAt_V (rel_at r1 h1) (rel_at r2 h2) (flat_at fx (by simp only [List.size_toArray] at h1; omega)) (flat_at fy (by simp only [List.size_toArray] at h2; omega))) _ _ _ _ ?_
    rw [List.size_toArray, ← l1]
    exact ⟨.bl _, H, I, rfl, q⟩
  · rw [eqVs_len e] at q
    refine SeqAt.RcNeAt.lists_lengths p1.isList p2.isList (by simp only [List.size_toArray, bne_iff_ne]; omega) hu _ _ _ _ ?_
    exact ⟨.bl true, H, I, rfl, q⟩

/-! ### isinstance -/
/-- isinstance(x, T) of a built-in type -/
theorem call_isi : CallR X (.builtin "isinstance") (fun xs H Q => ∃ x T t b, xs = [x, .ty T] ∧ TyOf X.K H x t ∧ PySem.W.kitOne X.K t (.type T) = some b ∧ Q (.bl b) H) := by
  intro pins s σ H xs us Q I r h
  obtain ⟨x, T, t, b, rfl, ty, e, q⟩ := h
  obtain ⟨u, w', rfl, rx, ry⟩ := vals2 r
  cases (show w' = Value.type T from ry)
  exact isinst_ok I rx ty e fun tk => ⟨.bl b, H, I.tok tk, rfl, q⟩
def tyVals : List String → List Value := fun l => l.map Value.type
/-- range(n) as a thing -/
theorem call_rng : CallR X (.type "range") (fun xs H Q => ∃ j : Int, xs = [.int j] ∧ ∀ p, H p = none → Q (.ref p) (upd H p (.rng 0 j))) := by
  intro pins s σ H xs us Q I r h
  obtain ⟨j, rfl, q⟩ := h
  obtain ⟨u, rfl, rx⟩ := vals1 r
  obtain ⟨t, rfl⟩ := rx
  refine call_range_1 ?_
  exact ⟨.ref s.heap.objs.size, _, I.laid (o := .rng 0 j) (fun b u e => Heap.get?_push_of_some _ e) (Nat.le_refl _) ⟨_, _, _, Heap.get?_push_size _ rfl⟩, rfl, q _ (I.hok.fresh (Nat.le_refl _))⟩
end
end L2

set_option linter.all false
set_option maxHeartbeats 4000000
namespace SS
open PySem PyProof.Rows

/-- the second number of a pair -/
def K2 (xs : Array Keyed) (i : Nat) : Int := match xs[i]? with
  | some p => numOf p.2
  | none => 0
/-- up to k in order, of like keys the lesser second number ahead -/
def Up (xs : Array Keyed) (k : Nat) : Prop := ∀ i j, i < j → j < k → K xs i < K xs j ∨ (K xs i = K xs j ∧ K2 xs i < K2 xs j)
/-- the other way about -/
def Dn (xs : Array Keyed) (k : Nat) : Prop := ∀ i j, i < j → j < k → K xs j < K xs i ∨ (K xs i = K xs j ∧ K2 xs j < K2 xs i)
/-- from k on nothing was moved, and what stands ahead came from ahead -/
structure Left (xs : Array Keyed) (k : Nat) : Prop where
  same : ∀ i, k ≤ i → i < xs.size → K2 xs i = i
  ahead : ∀ i, i < k → i < xs.size → K2 xs i < k

section
variable {prog : Program} {w : World} {A : Around} {E : Value → Shared → Prop} {s : Shared} {a₀ : Array Keyed}

/-- between two turns of the falling loop: g: where the group of like keys at the end begins -/
structure Fall (xs : Array Keyed) (x g : Nat) : Prop where
  lt : g < x
  d1 : Dn xs g
  d2 : ∀ i j, i < g → g ≤ j → j < x → K xs j < K xs i
  d3 : ∀ i, g ≤ i → i < x → K xs i = K xs (x - 1) ∧ K2 xs i = i
  same : ∀ i, x ≤ i → i < xs.size → K2 xs i = i
  ahead : ∀ i, i < g → i < xs.size → K2 xs i < g

end
end SS

set_option linter.all false
set_option maxHeartbeats 4000000
set_option maxRecDepth 100000
namespace SS
open PySem PyProof.Rows

/-- n places, as ints: their values bear the places themselves -/
def Places (vs : List Value) (n : Nat) : Prop := vs.length = n ∧ ∀ (i : Nat) v, vs[i]? = some v → ∃ t, v = .int (i : Int) t
/-- what the sort by key makes of n places -/
structure Sorted (key : Nat → Int) (n : Nat) (ps : List Nat) : Prop where
  perm : ps.Perm (List.range n)
  ord : ∀ (i j p q : Nat), i < j → ps[i]? = some p → ps[j]? = some q → key p < key q ∨ (key p = key q ∧ p < q)

section
variable {keys : Array Value} {vs : List Value} {n : Nat} {key : Nat → Int} {xs : Array Keyed}
def psOf (xs : Array Keyed) : List Nat := xs.toList.map fun q => (numOf q.2).toNat
end

section
variable {prog : Program} {w : World} {A : Around} {E : Value → Shared → Prop} {s : Shared} {a f : Addr} {vs : List Value} {n e0 : Nat} {key : Nat → Int} {P : PySem.Fin → Shared → Prop}

/-- kept but at a -/
def But (a : Addr) (h h' : Heap) : Prop := ∀ b o, b ≠ a → h.get? b = some o → h'.get? b = some o

end

section
variable {prog : Program} {w : World} {A : Around} {E : Value → Shared → Prop} {s : Shared}
end
end SS

set_option linter.all false
set_option maxHeartbeats 4000000
set_option maxRecDepth 100000
namespace L2
open PySem PySem.Spec PyProof.Rows

/-- the def's table of codes at P: empty, or with the lambda's one -/
def Tb (P : Addr) (lp : Pos) (lq : Str) (H : Hp) : Prop :=
  ∃ ps, H P = some (.tbl ps) ∧ (ps = #[] ∨ ∃ c', ps = #[rawInt lp.line, rawInt lp.col, .ref c'] ∧ H c' = some (.ext fun h => h.CodeRec (.ref c') lq))
/-- all but the table is as it was -/
structure Sm (P : Addr) (lp : Pos) (lq : Str) (H H' : Hp) : Prop where
  all : ∀ b o, b ≠ P → H b = some o → H' b = some o
  tb : Tb P lp lq H → Tb P lp lq H'
section
variable {X : Cx} {pins : List (Addr × Obj)} {σ : St} {H : Hp} {s : Shared} {P c : Addr} {lp : Pos} {la : Arguments} {lb : Expr} {lsc : Scope} {own : List Str} {cap : List Nat}

/-- what is wanted behind sorted(range(n), key=lambda place: -rests[place]) -/
def SortQ (K : PySem.W.Frag) (P : Addr) (lp : Pos) (lq : Str) (i : Nat) (σ : St) (Q : VK) (vs : List V) (H' : Hp) : Prop :=
  ∃ (r : Addr) (n : Nat) (H1 : Hp) (a : Addr) (rs : List Int), vs = [.ref r] ∧ H1 r = none ∧ H' = upd H1 r (.rng 0 (n : Int)) ∧ n < 64 ∧ Tb P lp lq H1 ∧ σ[i]? = some (some (.ref a)) ∧ SqL K H1 a (rs.map V.int) ∧ a ≠ P ∧ rs.length = n ∧
    ∀ (ps : List Nat) (H2 : Hp) (l : Addr), SS.Sorted (fun p => -(rs.getD p 0)) n ps → (∀ b o, b ≠ P → H1 b = some o → H2 b = some o) → Tb P lp lq H2 → H1 l = none → H2 l = some (.lst (ps.map fun p : Nat => V.int (p : Int))) → Q (.ref l) H2
abbrev rRng : List V → Hp → VK → Prop := fun xs H Q => ∃ j : Int, xs = [.int j] ∧ ∀ p, H p = none → Q (.ref p) (upd H p (.rng 0 j))
def tSort (K : PySem.W.Frag) (P : Addr) (lp : Pos) (lq : Str) (ta : TE) (i : Nat) : TE := fun σ H Q => tCons (tCB rRng (tCons ta tNil)) tNil σ H (SortQ K P lp lq i σ Q)
end
end L2

set_option linter.all false
set_option maxHeartbeats 4000000
set_option maxRecDepth 100000
namespace L2
open PySem PySem.Spec PyProof.Rows

end L2

set_option linter.all false
set_option maxHeartbeats 4000000
set_option maxRecDepth 100000
namespace L2
open PySem PySem.Spec PyProof.Rows

section
variable {X : Cx} {tg : Expr}
/-- a list or a tuple walked -/
def iSeq (K : PySem.W.Frag) (tl : TE) : TI := fun σ H R => tl σ H fun x H1 => ∃ a, x = .ref a ∧ (((∃ xs, SqL K H1 a xs) ∧ R (Itl K a) H1) ∨ ((∃ xs, SqT K H1 a xs) ∧ R (Itt K a) H1))
theorem pi_seq {l : Expr} {tl : TE} (hl : PE X l tl) : PI X tg l (iSeq X.K tl) := by
  intro pins s σ H R I h
  refine thn (hl pins s σ H _ I h) fun v s1 ⟨x, H1, I1, r1, q1⟩ => ?_
  obtain ⟨a, e, q⟩ := q1
  subst e
  cases r1
  rcases q with ⟨⟨xs, hq⟩, q⟩ | ⟨⟨xs, hq⟩, q⟩
  · obtain ⟨its, rv, p, hz⟩ := I1.list hq
    refine wpAny_pyIter_list p.isList ?_
    refine ⟨s1.heap.objs.size, [s1.heap.objs.size], _, _, H1, rfl, I1.kept (t' := s1.toks) fun b o e => Heap.get?_push_of_some _ e, turn_list a _, ⟨_, Heap.get?_push_size _ rfl, rfl, rfl⟩, fun b hb => ?_, q⟩
    have e : b = s1.heap.objs.size := by simpa using hb
    subst e
    exact I1.fpOk (Nat.le_refl _) (I1.hok.fresh (Nat.le_refl _))
  · obtain ⟨its, rv, p, hz⟩ := I1.tuple hq
    refine wpAny_pyIter_tuple (show s1.heap.IsTuple a its.toArray from p) ?_
    refine ⟨s1.heap.objs.size, [s1.heap.objs.size], _, _, H1, rfl, I1.kept (t' := s1.toks) fun b o e => Heap.get?_push_of_some _ e, turn_tuple a _, ⟨_, Heap.get?_push_size _ rfl, rfl, rfl⟩, fun b hb => ?_, q⟩
    have e : b = s1.heap.objs.size := by simpa using hb
    subst e
    exact I1.fpOk (Nat.le_refl _) (I1.hok.fresh (Nat.le_refl _))
end

/-! ### what a block over a list, a tuple, a range comes to; one name as its target -/
section
variable {K : PySem.W.Frag} {a : Addr} {xs : List V} {y : Str} {cap : List Nat} {tt : TT} {te : TE} {σ : St} {Z : List V → Hp → Prop} {H1 : Hp}
theorem wk_one (y : Str) (cap : List Nat) (σ : St) (x : V) : Wk (capS [y] cap σ) ((capS [y] cap σ).set 0 (some x)) := Wk.set (by show (none :: _ : St)[0]? = some none; rfl)
theorem blk_list (Pv : Nat → List V → Hp → Prop) (h0 : Pv 0 [] H1) (hS : ∀ i acc H, Pv i acc H → SqL K H a xs) (hz : ∀ i acc H, Pv i acc H → acc.length < sizeLine)
    (step : ∀ i x acc H (R : List V → Hp → Prop), (∀ acc' H', Pv (i + 1) acc' H' → R acc' H') → xs[i]? = some x → Pv i acc H → tt ((capS [y] cap σ).set 0 (some x)) H fun b H5 => if b = true then te ((capS [y] cap σ).set 0 (some x)) H5 fun v H6 => R (acc ++ [v]) H6 else R acc H5)
    (hd : ∀ acc H, Pv xs.length acc H → Z acc H) : tBlk [y] cap (gName 0) tt te σ Z (Itl K a) H1 := by
  refine ⟨fun i m acc H => m = xs.length - i ∧ i ≤ xs.length ∧ Pv i acc H, ⟨_, rfl, Nat.zero_le _, h0⟩, ?_⟩
  rintro i m acc H ⟨rfl, hi, p⟩
  refine ⟨hz i acc H p, ?_⟩
  have q := hS i acc H p
  by_cases hlt : i < xs.length
  · refine .inr ⟨⟨xs, xs[i], q, List.getElem?_eq_getElem hlt⟩, fun x H3 yl => ?_⟩
    obtain ⟨e, yx⟩ := yl
    subst e
    exact ⟨wk_one y cap σ x, step i x acc H3 (fun acc' H' => ∃ m', m' < xs.length - i ∧ m' = xs.length - (i + 1) ∧ i + 1 ≤ xs.length ∧ Pv (i + 1) acc' H') (fun acc' H' p' => ⟨_, by omega, rfl, hlt, p'⟩) (yx xs q) p⟩
  · have e : i = xs.length := by omega
    subst e
    exact .inl ⟨⟨xs, q, Nat.le_refl _⟩, hd acc H p⟩
theorem blk_tup (Pv : Nat → List V → Hp → Prop) (h0 : Pv 0 [] H1) (hS : ∀ i acc H, Pv i acc H → SqT K H a xs) (hz : ∀ i acc H, Pv i acc H → acc.length < sizeLine)
    (step : ∀ i x acc H (R : List V → Hp → Prop), (∀ acc' H', Pv (i + 1) acc' H' → R acc' H') → xs[i]? = some x → Pv i acc H → tt ((capS [y] cap σ).set 0 (some x)) H fun b H5 => if b = true then te ((capS [y] cap σ).set 0 (some x)) H5 fun v H6 => R (acc ++ [v]) H6 else R acc H5)
    (hd : ∀ acc H, Pv xs.length acc H → Z acc H) : tBlk [y] cap (gName 0) tt te σ Z (Itt K a) H1 := by
  refine ⟨fun i m acc H => m = xs.length - i ∧ i ≤ xs.length ∧ Pv i acc H, ⟨_, rfl, Nat.zero_le _, h0⟩, ?_⟩
  rintro i m acc H ⟨rfl, hi, p⟩
  refine ⟨hz i acc H p, ?_⟩
  have q := hS i acc H p
  by_cases hlt : i < xs.length
  · refine .inr ⟨⟨xs, xs[i], q, List.getElem?_eq_getElem hlt⟩, fun x H3 yl => ?_⟩
    obtain ⟨e, yx⟩ := yl
    subst e
    exact ⟨wk_one y cap σ x, step i x acc H3 (fun acc' H' => ∃ m', m' < xs.length - i ∧ m' = xs.length - (i + 1) ∧ i + 1 ≤ xs.length ∧ Pv (i + 1) acc' H') (fun acc' H' p' => ⟨_, by omega, rfl, hlt, p'⟩) (yx xs q) p⟩
  · have e : i = xs.length := by omega
    subst e
    exact .inl ⟨⟨xs, q, Nat.le_refl _⟩, hd acc H p⟩
/-- each item by a function, nothing changed -/
theorem blk_map {W : Type} (f : W → V) (inj : W → V) {ws : List W} (hS : SqL K H1 a (ws.map inj) ∨ SqT K H1 a (ws.map inj)) (hz : ws.length < sizeLine)
    (he : ∀ w ∈ ws, ∀ Q : VK, Q (f w) H1 → te ((capS [y] cap σ).set 0 (some (inj w))) H1 Q) (hd : Z (ws.map f) H1) :
    ((∃ xs, SqL K H1 a xs) ∧ tBlk [y] cap (gName 0) tYes te σ Z (Itl K a) H1) ∨ ((∃ xs, SqT K H1 a xs) ∧ tBlk [y] cap (gName 0) tYes te σ Z (Itt K a) H1) := by
  have stp : ∀ i x acc H (R : List V → Hp → Prop), (∀ acc' H', (acc' = (ws.take (i + 1)).map f ∧ H' = H1) → R acc' H') → (ws.map inj)[i]? = some x → (acc = (ws.take i).map f ∧ H = H1) →
      tYes ((capS [y] cap σ).set 0 (some x)) H fun b H5 => if b = true then te ((capS [y] cap σ).set 0 (some x)) H5 fun v H6 => R (acc ++ [v]) H6 else R acc H5 := by
    rintro i x acc H R k hx ⟨rfl, rfl⟩
    rw [List.getElem?_map] at hx
    cases e : ws[i]? with
    | none => rw [e] at hx; cases hx
    | some w =>
      rw [e] at hx
      cases hx
      unfold tYes
      dsimp only
      rw [if_pos rfl]
      refine he w (List.mem_of_getElem? e) _ (k _ _ ⟨?_, rfl⟩)
      rw [List.take_add_one, e]
      simp
  have fin : ∀ acc H, (acc = (ws.take (ws.map inj).length).map f ∧ H = H1) → Z acc H := by
    rintro acc H ⟨rfl, rfl⟩
    rw [List.length_map, List.take_length]
    exact hd
  have len : ∀ (i : Nat) acc (H : Hp), (acc = (ws.take i).map f ∧ H = H1) → acc.length < sizeLine := by
    rintro i acc H ⟨rfl, _⟩
    rw [List.length_map, List.length_take]
    omega
  rcases hS with h | h
  · exact .inl ⟨⟨_, h⟩, blk_list (fun i acc H => acc = (ws.take i).map f ∧ H = H1) ⟨by simp, rfl⟩ (fun i acc H p => by rw [p.2]; exact h) len stp fin⟩
  · exact .inr ⟨⟨_, h⟩, blk_tup (fun i acc H => acc = (ws.take i).map f ∧ H = H1) ⟨by simp, rfl⟩ (fun i acc H p => by rw [p.2]; exact h) len stp fin⟩
end
end L2

set_option linter.all false
set_option maxHeartbeats 4000000
set_option maxRecDepth 100000
namespace L2
open PySem PySem.Spec PyProof.Rows
section
variable {X : Cx}
/-- two tuples of flat values compared -/
def rEqT (K : PySem.W.Frag) : R2 := fun x y H Q => ∃ p b xs ys, x = .ref p ∧ y = .ref b ∧ SqT K H p xs ∧ SqT K H b ys ∧ xs.all flatV = true ∧ ys.all flatV = true ∧ Q (.bl (eqVs xs ys)) H
/-- xs.insert(i, y), i from 0 to the length -/
def rInsert : V → List V → Hp → VK → Prop := fun x vs H Q => ∃ l xs i y, x = .ref l ∧ vs = [.int i, y] ∧ H l = some (.lst xs) ∧ 0 ≤ i ∧ i ≤ xs.length ∧ xs.length ≤ 900 ∧ Q .non (upd H l (.lst (xs.take i.toNat ++ y :: xs.drop i.toNat)))
end

section
variable {X : Cx} {K : PySem.W.Frag}
/-! the rules that name the written part, for blocks -/
theorem ix_listK (e : X.K = K) : IxR X (rIxL K) := by subst e; exact ix_list
theorem ix_tupK (e : X.K = K) : IxR X (rIxT K) := by subst e; exact ix_tup
end

/-! ### isinstance by names of types -/
def tyNames : List String := ["NoneType", "bool", "int", "str", "list", "tuple", "dict"]
def subTy (S T : String) : Bool := S == T || (S == "bool" && T == "int")
def kitAll (K : PySem.W.Frag) : Bool := tyNames.all fun S => tyNames.all fun T => PySem.W.kitOne K (.type S) (.type T) == some (subTy S T)
theorem kit_of {K : PySem.W.Frag} (h : kitAll K = true) {S T : String} (hS : tyNames.contains S = true) (hT : tyNames.contains T = true) : PySem.W.kitOne K (.type S) (.type T) = some (subTy S T) := by
  have h1 := List.all_eq_true.mp h S (by simpa using hS)
  have h2 := List.all_eq_true.mp h1 T (by simpa using hT)
  exact beq_iff_eq.mp h2
/-- v is of a type of these, by its name -/
structure Is (K : PySem.W.Frag) (H : Hp) (v : V) (S : String) : Prop where
  ty : TyOf K H v (.type S)
  mem : tyNames.contains S = true
section
variable {K : PySem.W.Frag} {H : Hp}
end
/-- a number from 0 on -/
def numV : V → Bool
  | .int i => decide (0 ≤ i)
  | _ => false
def intV : V → Bool
  | .int _ => true
  | _ => false
def blV : V → Bool
  | .bl _ => true
  | _ => false
end L2

set_option linter.all false
set_option maxHeartbeats 4000000
set_option maxRecDepth 100000
namespace HT
open PySem PyProof.Rows
section
open PySem.SeqAt
open PySem.AutoSeq1 (wpAny_loadPart')
open PySem.MeetsSeq PySem.MeetsSeq2 PySem.MeetsSeq3
end
section
variable {prog : Program} {w : World} {A : Around} {E : Value → Shared → Prop} {s : Shared}
end
end HT
namespace PySem
open Sem (wp)

section
variable {prog : Program} {w : World} {A : Around} {R : Result → Shared → Prop} {I : Addr} {fp wr : List Addr} {n : Nat} {P : Nat → Value → Prop} {St : Nat → Heap → Prop}
/-- two items compared, where the heap is as it must be -/
def CmpH (prog : Program) (w : World) (A : Around) (op : CmpOp) (OK : Heap → Prop) (P : Nat → Value → Prop) (bt : Nat → Nat → Bool) : Prop :=
  ∀ i j vi vj (s : Shared) (Q : Value → Shared → Prop) (E : Value → Shared → Prop), OK s.heap → P i vi → P j vj → Q (.bool (bt i j)) s → wpAny (model prog w) A (richCompare op vi vj) Q E s
end
section
variable {prog : Program} {w : World} {A : Around} {E : Value → Shared → Prop} {s : Shared}
end

section
variable {prog : Program} {w : World} {A : Around} {R : Result → Shared → Prop} {I : Addr} {fp wr : List Addr} {n : Nat} {P : Nat → Value → Prop} {St : Nat → Heap → Prop}
end
section
variable {prog : Program} {w : World} {A : Around} {E : Value → Shared → Prop} {s : Shared}
end

end PySem

set_option linter.all false
set_option maxHeartbeats 4000000
set_option maxRecDepth 100000
namespace L2
open PySem PySem.Spec PyProof.Rows
/-- pairs of ints, by the first, then the second -/
def ltP (a b : Int × Int) : Prop := a.1 < b.1 ∨ (a.1 = b.1 ∧ a.2 < b.2)
instance (a b : Int × Int) : Decidable (ltP a b) := inferInstanceAs (Decidable (_ ∨ _))
/-- a list of pairs -/
def PairsAt (K : PySem.W.Frag) (H : Hp) (p : Addr) (ps : List (Int × Int)) : Prop :=
  ∃ as : List Addr, SqL K H p (as.map V.ref) ∧ as.length = ps.length ∧ ∀ (i : Nat) (a : Addr) (q : Int × Int), as[i]? = some a → ps[i]? = some q → SqT K H a [.int q.1, .int q.2]
section
variable {X : Cx}
def rGtT (K : PySem.W.Frag) : R2 := fun x y H Q => ∃ a b ns ms, x = .ref a ∧ y = .ref b ∧ SqT K H a (ns.map V.int) ∧ SqT K H b (ms.map V.int) ∧ Q (.bl (HT.lexLt ms ns)) H
end
end L2

set_option linter.all false
namespace SM
/-- one more at each of these places -/
def addAt (f : List Int) (ps : List Nat) : List Int := ps.foldl (fun f p => f.set p (f.getD p 0 + 1)) f
def markAt (l : List Int) (ps : List Nat) : List Int := ps.foldl (fun l p => l.set p (-1)) l
/-- first place of the greatest -/
def idxMax (l : List Int) : Nat := l.idxOf (l.foldl max (l.headD 0))
/-- the law's own turns -/
def turns : Nat → List Int → List Int → List Int × List Int
  | 0, f, l => (f, l)
  | n + 1, f, l => turns n (f.set (idxMax l) (f.getD (idxMax l) 0 + 1)) (l.set (idxMax l) (-1))

end SM

set_option linter.all false
namespace SM
/-- the law's own share -/
def baseL (t : Int) (ws : List Int) : List Int := ws.map fun w => t * w / ws.sum
def restL (t : Int) (ws : List Int) : List Int := ws.map fun w => t * w % ws.sum
def leftN (t : Int) (ws : List Int) : Int := t - (baseL t ws).sum
def dueL (t : Int) (ws : List Int) : List Int := if ws.sum = 0 then ws.map fun _ => 0 else (turns (leftN t ws).toNat (baseL t ws) (restL t ws)).1

end SM

set_option linter.all false
set_option maxHeartbeats 1000000
namespace SM
def posS : List Int → Int
  | [] => 0
  | x :: l => (if x < 0 then 0 else x) + posS l
/-- what k turns come to -/
structure Turned (S : Int) (n : Nat) (rs f0 : List Int) (k : Nat) (f l : List Int) (U : Nat → Bool) : Prop where
  fl : f.length = rs.length
  ll : l.length = rs.length
  fv : ∀ i, i < rs.length → f.getD i 0 = f0.getD i 0 + if U i = true then 1 else 0
  lv : ∀ i, i < rs.length → l.getD i 0 = if U i = true then -1 else rs.getD i 0
  ord : ∀ i j, i < rs.length → j < rs.length → U i = true → U j = false → rs.getD j 0 < rs.getD i 0 ∨ (rs.getD i 0 = rs.getD j 0 ∧ i < j)
  pos : ∀ i, i < rs.length → U i = true → 0 < rs.getD i 0
  big : ((n : Int) - k) * S ≤ posS l
  sum : f.sum = f0.sum + k
/-- the due row: rounded down or up -/
structure Due (t : Int) (ws row : List Int) (U : Nat → Bool) : Prop where
  len : row.length = ws.length
  val : ∀ i, i < ws.length → row.getD i 0 = t * ws.getD i 0 / ws.sum + if U i = true then 1 else 0
  ord : ∀ i j, i < ws.length → j < ws.length → U i = true → U j = false → t * ws.getD j 0 % ws.sum < t * ws.getD i 0 % ws.sum ∨ (t * ws.getD i 0 % ws.sum = t * ws.getD j 0 % ws.sum ∧ i < j)
  pos : ∀ i, i < ws.length → U i = true → 0 < t * ws.getD i 0 % ws.sum
  sum : row.sum = t
end SM

set_option linter.all false
set_option maxHeartbeats 1000000
namespace SM
end SM
namespace SM
end SM
namespace SM
end SM

set_option linter.all false
set_option maxHeartbeats 4000000
set_option maxRecDepth 100000
namespace L2
open PySem
end L2
namespace L2
open PySem
/-- ints and truths -/
def IB (x : V) : Prop := (∃ i, x = .int i) ∨ ∃ b, x = .bl b
structure IBL (xs : List V) : Prop where
  n : xs.length ≤ 70
  ib : ∀ x ∈ xs, IB x
/-- a row that may be the due one: what is_share is to say of it -/
inductive RowV (H : Hp) (ds : List Int) : V → Bool → Prop where
  | lst {l : Addr} {xs : List V} (e : H l = some (.lst xs)) (h : IBL xs) : RowV H ds (.ref l) (xs.all intV && eqVs xs (ds.map V.int))
  | tup {l : Addr} {xs : List V} (e : H l = some (.tup xs)) (h : IBL xs) : RowV H ds (.ref l) false
  | non : RowV H ds .non false
  | str (x : Str) : RowV H ds (.str x) false
end L2
namespace L2
open PySem
theorem seqIx_nat {n a : Nat} (h : a < n) : seqIndex? (a : Int) n = some a := by
  unfold seqIndex?
  have h0 : ¬ ((a : Int) < 0) := by omega
  simp only [h0, if_false]
  rw [if_pos (by simp; omega)]
  simp
end L2
namespace L2
open PySem PySem.Spec PyProof.Rows
/-- a list compared with the empty one -/
theorem op_eqNil {X : Cx} (hu : X.A.units < cLine) : OpR X (compareOp .Eq) (fun x y H Q => ∃ p b xs, x = .ref p ∧ y = .ref b ∧ SqL X.K H p xs ∧ SqL X.K H b [] ∧ Q (.bl (decide (xs = []))) H) := by
  intro pins s σ H x y v u Q I rx ry h
  obtain ⟨p, b, xs, rfl, rfl, hp, hb, q⟩ := h
  cases rx
  cases ry
  obtain ⟨its, r1, p1, _⟩ := I.list hp
  obtain ⟨jts, r2, p2, _⟩ := I.list hb
  have l1 := r1.length
  have l2 := r2.length
  cases xs with
  | nil =>
    refine SeqAt.eq_listAt (e := fun _ => true) p1.isList p2.isList (by simp only [List.size_toArray]; omega) hu (fun j h1 h2 => absurd h1 (by simp only [List.size_toArray]; simp at l1; omega)) ?_
    rw [List.size_toArray]
    have e : its.length = 0 := by simpa using l1.symm
    rw [e]
    exact ⟨.bl true, H, I, rfl, q⟩
  | cons a r =>
    refine SeqAt.eq_list_lengthsAt p1.isList p2.isList ?_ hu ⟨.bl false, H, I, rfl, q⟩
    simp only [List.size_toArray, bne_iff_ne]
    simp at l1 l2
    omega
end L2

set_option linter.all false
set_option maxHeartbeats 4000000
set_option maxRecDepth 100000
namespace PySem
open Sem (wp)
/-- a list (b) or a tuple walked: its iterator at i stands at k -/
def SeqIt (h : Heap) (b : Bool) (i l : Addr) (k : Nat) (xs : Array Value) : Prop :=
  (b = true ∧ h.IsListIter i l k ∧ h.IsList l xs) ∨ (b = false ∧ h.IsTupleIter i l k ∧ h.IsTuple l xs)
section
variable {h h' : Heap} {b : Bool} {i l c : Addr} {k : Nat} {xs : Array Value}
end
section
variable {prog : Program} {w : World} {A : Around} {E : Value → Shared → Prop} {s : Shared}
/-- the zip at z, its two iterators at k -/
structure ZipSt (h : Heap) (b1 b2 : Bool) (z TI TO i1 i2 l1 l2 : Addr) (f0 : Value) (k : Nat) (xs ys : Array Value) : Prop where
  z : IsZip h z TI TO f0
  ti : IsPair h TI (.ref i1) (.ref i2)
  to : ∃ a b, IsPair h TO a b
  a : SeqIt h b1 i1 l1 k xs
  b : SeqIt h b2 i2 l2 k ys
/-- zip of a tuple and a list is made -/
abbrev zt1 (h : Heap) (l1 : Addr) : Heap := h.push { cls := .type "tuple_iterator", data := .fields #[.ref l1, .int 0 0] }
abbrev zt2 (h : Heap) (l1 l2 : Addr) : Heap := (zt1 h l1).push { cls := .type "list_iterator", data := .fields #[.ref l2, .int 0 0] }
abbrev zt3 (h : Heap) (l1 l2 : Addr) : Heap := (zt2 h l1 l2).push { cls := .type "tuple", data := .seq #[.ref h.objs.size, .ref (zt1 h l1).objs.size] }
abbrev zt4 (h : Heap) (l1 l2 : Addr) : Heap := (zt3 h l1 l2).push { cls := .type "tuple", data := .seq #[.none, .none] }
abbrev zt5 (h : Heap) (l1 l2 : Addr) : Heap := (zt4 h l1 l2).push { cls := .type "zip", data := .fields #[.none, .bool false, .bool false, .ref (zt2 h l1 l2).objs.size, .ref (zt3 h l1 l2).objs.size] }
end
end PySem

set_option linter.all false
set_option maxHeartbeats 4000000
set_option maxRecDepth 100000
namespace L2
open PySem PySem.Spec PyProof.Rows
section
variable {X : Cx} {pins : List (Addr × Obj)} {σ : St} {H : Hp} {s : Shared} {h' : Heap}
/-- untracked records of ours have turned -/
theorem Inv.turnedL {t' : Nat} {ch : List Addr} (I : Inv X pins σ H s) (k : ∀ b o, b ∉ ch → s.heap.get? b = some o → h'.get? b = some o) (hf : ∀ b ∈ ch, FpOk X pins H b) :
    Inv X pins σ H { s with heap := h', toks := t' } := by
  have nit : ∀ b u, H b = some u → b ∉ ch := fun b u e z => by rw [(hf b z).1] at e; cases e
  refine I.step (g' := s.gens) (d' := s.drawn) (ch := ch) (fun b hb => ?_) (fun b o _ _ hc e _ => k b o hc e) (fun b o _ _ hc e _ => ⟨o.slots, k b o hc e⟩) (fun _ _ _ _ n => n)
    (fun b o hc e => ⟨o, k b o hc e⟩) (fun _ _ e => e) (fun _ _ _ e => e) (fun b ps e => ⟨#[], by rw [e]; simp⟩) (fun m hm => ?_) (fun b u e => ?_) I.bare
  · obtain ⟨_, f1, _, f3, f4, f5⟩ := hf b hb
    exact ⟨f3, f1, f4, f5⟩
  · obtain ⟨o, es, ep, ho, r⟩ := hm
    exact ⟨o, es, ep, k _ o (fun z => (hf _ z).2.1 rfl) ho, r⟩
  · refine (I.hok b u e).stay (fun c v hc q => k c v ?_ q) (fun _ q => q) fun _ _ q => q
    rcases hc with z | z
    · rw [z]; exact nit b u e
    · exact nit c _ z
/-- .. and a new thing is tracked -/
theorem Inv.turnedT {t' : Nat} {ch : List Addr} {T : Addr} {o : HO} (I : Inv X pins σ H s) (k : ∀ b o, b ∉ ch → s.heap.get? b = some o → h'.get? b = some o) (hf : ∀ b ∈ ch, FpOk X pins H b)
    (hT : s.heap.objs.size ≤ T) (new : ObjOk X.prog X.w (upd H T o) h' T o) : Inv X pins σ (upd H T o) { s with heap := h', toks := t' } := by
  have fT : H T = none := I.hok.fresh hT
  have nit : ∀ b u, H b = some u → b ∉ ch := fun b u e z => by rw [(hf b z).1] at e; cases e
  have neT : ∀ b u, s.heap.get? b = some u → b ≠ T := fun b u e => Nat.ne_of_lt (Nat.lt_of_lt_of_le (Heap.lt_size e) hT)
  refine I.step (g' := s.gens) (d' := s.drawn) (ch := ch) (fun b hb => ?_) (fun b o _ _ hc e _ => k b o hc e) (fun b o _ _ hc e _ => ⟨o.slots, k b o hc e⟩) (fun b o _ e n => by rw [upd_ne (neT b o e)]; exact n)
    (fun b o hc e => ⟨o, k b o hc e⟩) (fun b xs e => by rw [upd_ne (ne_of_none e fT)]; exact e) (fun b u v e => by rw [upd_ne (ne_of_none e fT)]; exact e) (fun b ps e => ⟨#[], by rw [upd_ne (ne_of_none e fT), e]; simp⟩) (fun m hm => ?_) (fun b u e => ?_) I.bare
  · obtain ⟨_, f1, _, f3, f4, f5⟩ := hf b hb
    exact ⟨f3, f1, f4, f5⟩
  · obtain ⟨o, es, ep, ho, r⟩ := hm
    exact ⟨o, es, ep, k _ o (fun z => (hf _ z).2.1 rfl) ho, r⟩
  · by_cases hb : b = T
    · subst hb; rw [upd_same] at e; cases e; exact new
    · rw [upd_ne hb] at e
      refine (I.hok b u e).stay (fun c v hc q => k c v ?_ q) (fun c q => by rw [upd_ne (ne_of_none q fT)]; exact q) fun c xs q => by rw [upd_ne (ne_of_none q fT)]; exact q
      rcases hc with z | z
      · rw [z]; exact nit b u e
      · exact nit c _ z
end
/-- a list (true) or a tuple -/
def SqX (K : PySem.W.Frag) (b : Bool) (H : Hp) (a : Addr) (xs : List V) : Prop := (b = true ∧ SqL K H a xs) ∨ (b = false ∧ SqT K H a xs)
def ItPos (h : Heap) (b : Bool) (i l : Addr) (k : Nat) : Prop := (b = true ∧ h.IsListIter i l k) ∨ (b = false ∧ h.IsTupleIter i l k)
/-- two walked at once: a new pair each turn -/
def Itz (K : PySem.W.Frag) (b1 b2 : Bool) (a b : Addr) : It :=
  ⟨fun i H => ∃ xs ys x y, SqX K b1 H a xs ∧ SqX K b2 H b ys ∧ xs[i]? = some x ∧ ys[i]? = some y,
   fun i H v H' => ∃ T x y, v = .ref T ∧ H T = none ∧ H' = upd H T (.tup [x, y]) ∧ (∀ xs, SqX K b1 H a xs → xs[i]? = some x) ∧ (∀ ys, SqX K b2 H b ys → ys[i]? = some y),
   fun i H => ∃ xs ys, SqX K b1 H a xs ∧ SqX K b2 H b ys ∧ (xs.length ≤ i ∨ ys.length ≤ i)⟩
section
variable {X : Cx} {pins : List (Addr × Obj)} {σ : St} {H : Hp} {s : Shared}
end
section
variable {X : Cx}
def iZip (K : PySem.W.Frag) (ta : TA) : TI := fun σ H R => ta σ H fun vs H1 => ∃ (a b : Addr) (xs ys : List V) (q : Bool), vs = [.ref a, .ref b] ∧ SqX K q H1 a xs ∧ SqL K H1 b ys ∧ R (Itz K q true a b) H1
end
/-! ### blocks over anything -/
section
variable {J : It} {own : List Str} {cap : List Nat} {g : TG} {tt : TT} {te : TE} {σ : St} {Z : List V → Hp → Prop} {H1 : Hp}
theorem blk_any (n : Nat) (Pv : Nat → List V → Hp → Prop) (h0 : Pv 0 [] H1) (hz : ∀ i acc H, Pv i acc H → acc.length < sizeLine) (hgo : ∀ i acc H, i < n → Pv i acc H → J.go i H) (hst : ∀ acc H, Pv n acc H → J.stop n H)
    (step : ∀ i x acc H H3 (R : List V → Hp → Prop), (∀ acc' H', Pv (i + 1) acc' H' → R acc' H') → i < n → Pv i acc H → J.yld i H x H3 → g x (capS own cap σ) H3 fun σ4 H4 => Wk (capS own cap σ) σ4 ∧ tt σ4 H4 fun b H5 =>
      if b = true then te σ4 H5 fun v H6 => R (acc ++ [v]) H6 else R acc H5)
    (hd : ∀ acc H, Pv n acc H → Z acc H) : tBlk own cap g tt te σ Z J H1 := by
  refine ⟨fun i m acc H => m = n - i ∧ i ≤ n ∧ Pv i acc H, ⟨_, rfl, Nat.zero_le _, h0⟩, ?_⟩
  rintro i m acc H ⟨rfl, hi, p⟩
  refine ⟨hz i acc H p, ?_⟩
  by_cases hlt : i < n
  · refine .inr ⟨hgo i acc H hlt p, fun x H3 yl => ?_⟩
    exact step i x acc H H3 (fun acc' H' => ∃ m', m' < n - i ∧ m' = n - (i + 1) ∧ i + 1 ≤ n ∧ Pv (i + 1) acc' H') (fun acc' H' p' => ⟨_, by omega, rfl, hlt, p'⟩) hlt p yl
  · have e : i = n := by omega
    subst e
    exact .inl ⟨hst acc H p, hd acc H p⟩
end
/-- two names as the target -/
def g2 (K : PySem.W.Frag) : TG := gTup K 2 (gCons (gName 0) (gCons (gName 1) gNil))
section
variable {K : PySem.W.Frag} {a b : Addr} {y1 y2 : Str} {cap : List Nat} {te : TE} {σ : St} {Z : List V → Hp → Prop} {H1 : Hp} {q : Bool}
end
end L2

set_option linter.all false
set_option maxHeartbeats 4000000
set_option maxRecDepth 100000
namespace L2
open PySem PySem.Spec PyProof.Rows
/-- == of things within things -/
inductive DEq (K : PySem.W.Frag) (H : Hp) : Nat → V → V → Bool → Prop where
  | flat {n : Nat} {x y : V} (fx : flatV x = true) (fy : flatV y = true) : DEq K H n x y (eqV x y)
  | same {n : Nat} (a : Addr) : DEq K H n (.ref a) (.ref a) true
  | lst {n : Nat} {a b : Addr} {xs ys : List V} (e : Nat → Bool) (ne : a ≠ b) (ha : SqL K H a xs) (hb : SqL K H b ys) (hl : xs.length = ys.length)
      (h : ∀ i, i < xs.length → DEq K H n (xs.getD i .non) (ys.getD i .non) (e i)) : DEq K H (n + 1) (.ref a) (.ref b) ((List.range xs.length).all e)
  | lstN {n : Nat} {a b : Addr} {xs ys : List V} (ha : SqL K H a xs) (hb : SqL K H b ys) (hl : xs.length ≠ ys.length) : DEq K H (n + 1) (.ref a) (.ref b) false
section
variable {X : Cx} {pins : List (Addr × Obj)} {σ : St} {H : Hp} {s : Shared}
def rEqD (K : PySem.W.Frag) (neg : Bool) : R2 := fun x y H Q => ∃ (p b : Addr) (xs ys : List V) (n : Nat) (e : Nat → Bool), x = .ref p ∧ y = .ref b ∧ SqL K H p xs ∧ SqL K H b ys ∧ n ≤ 60 ∧
  ((xs.length = ys.length ∧ (∀ i, i < xs.length → DEq K H n (xs.getD i .non) (ys.getD i .non) (e i)) ∧ Q (.bl (if neg then !(List.range xs.length).all e else (List.range xs.length).all e)) H) ∨ (xs.length ≠ ys.length ∧ Q (.bl neg) H))
end
/-- four names as the target -/
def g4 (K : PySem.W.Frag) : TG := gTup K 4 (gCons (gName 0) (gCons (gName 1) (gCons (gName 2) (gCons (gName 3) gNil))))
section
variable {K : PySem.W.Frag} {a : Addr} {y y1 y2 y3 y4 : Str} {cap : List Nat} {te : TE} {σ : St} {Z : List V → Hp → Prop} {H1 : Hp}
end
section
variable {X : Cx} {K : PySem.W.Frag} {pos : Pos}
theorem pg_tupK {es : List Expr} {k : Nat} {t : TGs} {n : Nat} (eK : X.K = K) (hc : X.calm = true) (h : PGs X es t)
    (hn : (assignEach es X.env).length = n) (hst : (assignEach es X.env).findIdx? (·.1) = none) : PG X (.Tuple es k pos) (gTup K n t) := by
  subst eK; exact pg_tup hc h hn hst
end
end L2

set_option linter.all false
set_option maxHeartbeats 1000000
namespace FM
open SM
/-- a part: begin, least, most, weight -/
structure Pt where
  b : Int
  l : Int
  m : Int
  w : Int
  deriving DecidableEq
structure GoodPt (p : Pt) : Prop where
  l0 : 0 ≤ p.l
  lb : p.l ≤ p.b
  bm : p.b ≤ p.m
  m9 : p.m ≤ 9999
  w0 : 0 ≤ p.w
  w9 : p.w ≤ 9999
def wts (ps : List Pt) (rooms : List Int) : List Int := List.zipWith (fun p r => if 0 < r then p.w else 0) ps rooms
def given (lack : Int) (ps : List Pt) (rooms : List Int) : List Int := List.zipWith min (dueL lack (wts ps rooms)) rooms
/-- the rooms and what lacks behind k rounds -/
def st (ps : List Pt) (lack : Int) : Nat → List Int × Int
  | 0 => (ps.map fun p => p.m - p.b, lack)
  | k + 1 => (List.zipWith (· - ·) (st ps lack k).1 (given (st ps lack k).2 ps (st ps lack k).1), (st ps lack k).2 - (given (st ps lack k).2 ps (st ps lack k).1).sum)
def gv (ps : List Pt) (lack : Int) (k : Nat) : List Int := given (st ps lack k).2 ps (st ps lack k).1
structure Ends (ps : List Pt) (lack : Int) (i : Nat) : Prop where
  on : ∀ k, k < i → 0 < (st ps lack k).2 ∧ (gv ps lack k).sum ≠ 0
  off : ¬ 0 < (st ps lack i).2 ∨ (gv ps lack i).sum = 0
/-- the sizes behind k rounds -/
def szs (ps : List Pt) (rooms : List Int) : List Int := List.zipWith (fun p r => p.m - r) ps rooms
/-- what is taken -/
def above (ps : List Pt) : List Int := ps.map fun p => p.b - p.l
def taken (total : Int) (ps : List Pt) : Int := min ((ps.map fun p => p.b).sum - total) (above ps).sum
/-- the rounds and the sizes that are due -/
inductive Fill (total : Int) (ps : List Pt) : List (List Int) → List Int → Prop where
  | none (h : (ps.map fun p => p.b).sum > total) (h0 : taken total ps = 0) : Fill total ps [] (ps.map fun p => p.b)
  | less (h : (ps.map fun p => p.b).sum > total) (h0 : taken total ps ≠ 0) : Fill total ps [dueL (taken total ps) (above ps)] (List.zipWith (· - ·) (ps.map fun p => p.b) (dueL (taken total ps) (above ps)))
  | more (i : Nat) (h : ¬ (ps.map fun p => p.b).sum > total) (e : Ends ps (total - (ps.map fun p => p.b).sum) i) : Fill total ps ((List.range i).map (gv ps (total - (ps.map fun p => p.b).sum))) (szs ps (st ps (total - (ps.map fun p => p.b).sum) i).1)
/-- sizes by the rounds alone -/
def behind (sign : Int) (rows : List (List Int)) (sz : List Int) : List Int := rows.foldl (fun sz row => List.zipWith (fun s n => s + sign * n) sz row) sz
end FM


set_option linter.all false
set_option maxHeartbeats 1000000
namespace FM
open SM
section
variable {ps : List Pt} {lack : Int}
end
end FM

set_option linter.all false
set_option maxHeartbeats 4000000
set_option maxRecDepth 100000
namespace L2
open PySem PySem.Spec PyProof.Rows
/-- a list walked, with its places -/
def Ite (K : PySem.W.Frag) (a : Addr) : It :=
  ⟨fun i H => ∃ xs x, SqL K H a xs ∧ xs[i]? = some x,
   fun i H v H' => ∃ T x, v = .ref T ∧ H T = none ∧ H' = upd H T (.tup [.int i, x]) ∧ ∀ xs, SqL K H a xs → xs[i]? = some x,
   fun i H => ∃ xs, SqL K H a xs ∧ xs.length ≤ i⟩
theorem turn_enum {P : Program} {w : World} {K : PySem.W.Frag} {es : List Expr} {kk : Nat} {tp : Pos} {e it l : Addr} (hne : e ≠ it) :
    Turn P w K (.Tuple es kk tp) (Ite K l) [e, it] e (fun i h => (∃ old, IsEnum h e it i old) ∧ h.IsListIter it l i) where
  mem := by simp
  obj := by
    rintro i h ⟨⟨old, e1⟩, e2⟩ c hc
    simp only [List.mem_cons, List.not_mem_nil, or_false] at hc
    rcases hc with rfl | rfl
    · exact ⟨_, e1, fun v q => by have q' : Data.fields _ = Data.cell v := q; cases q'⟩
    · obtain ⟨o, q, c, d⟩ := e2
      exact ⟨o, q, fun v z => by rw [d] at z; cases z⟩
  keep := by
    rintro i h h' ⟨⟨old, e1⟩, e2⟩ k
    exact ⟨⟨old, k e (by simp) _ e1⟩, e2.at fun o q => k it (by simp) o q⟩
  item := by
    intro X hP hw hK hc i pins s σ H E I hf st hg
    subst hP hw hK
    obtain ⟨xs, x, hx, ex⟩ := hg
    obtain ⟨⟨old, e1⟩, e2⟩ := st
    obtain ⟨its, rx, pl, _⟩ := I.list hx
    obtain ⟨u, hu, ru⟩ := rx.get ex
    refine wpAny_pyNext_enum_item e1 e2 pl.isList (x := u) (by simpa using hu) hne fun h1 o1 i1 t1 _ kp => ?_
    refine ⟨_, rfl, wpAny_letOwnedTupleGo_enum (s := { s with heap := h1, toks := s.toks + 1 }) o1 fun h2 z2 sb => ?_⟩
    have le : e < s.heap.objs.size := Heap.lt_size e1
    have kp2 : ∀ b o, b ∉ [e, it] → s.heap.get? b = some o → h2.get? b = some o := fun b o hb q => by
      simp only [List.mem_cons, List.not_mem_nil, or_false, not_or] at hb
      exact sb.extBut _ _ hb.1 (kp b o hb.1 hb.2 q)
    have t2 := sb.extBut _ _ (Nat.ne_of_gt le) t1
    have fT : H s.heap.objs.size = none := I.hok.fresh (Nat.le_refl _)
    have IN : Inv X pins σ (upd H s.heap.objs.size (.tup [.int i, x])) { s with heap := h2, toks := s.toks + 1 } := I.turnedT (t' := s.toks + 1) (ch := [e, it]) kp2 hf (Nat.le_refl _)
      ⟨Nat.le_of_lt (small1000 (by show 2 ≤ 1000; decide)), [.int i s.toks, u], .cons ⟨_, rfl⟩ (.cons ru .nil), _, t2, rfl, _, rfl⟩
    refine ⟨.ref s.heap.objs.size, _, IN, rfl, ⟨_, x, rfl, fT, rfl, fun ys q => by rw [I.list_inj q hx]; exact ex⟩, ⟨⟨_, z2⟩, i1.extBut sb.extBut hne.symm⟩, fun b hb => ?_⟩
    have hlt : b ≠ s.heap.objs.size := by
      have ob : ∃ o, s.heap.get? b = some o := by
        simp only [List.mem_cons, List.not_mem_nil, or_false] at hb
        rcases hb with rfl | rfl
        · exact ⟨_, e1⟩
        · obtain ⟨o, q, _⟩ := e2; exact ⟨o, q⟩
      obtain ⟨o, q⟩ := ob
      exact Nat.ne_of_lt (Heap.lt_size q)
    rw [upd_ne hlt]; exact (hf b hb).1
  done := by
    intro X hP hw hK hc i pins s σ H E I hf st hg
    subst hP hw hK
    obtain ⟨xs, hx, hle⟩ := hg
    obtain ⟨⟨old, e1⟩, e2⟩ := st
    obtain ⟨its, rx, pl, _⟩ := I.list hx
    have lx := rx.length
    exact wpAny_pyNext_enum_end (I.ok.hd hc) e1 e2 pl.isList (by simp; omega) fun h' eb => ⟨rfl, I.turnedL (t' := s.toks) (ch := [e, it]) (fun b o hb q => eb b o (fun z => hb (by simp [z])) q) hf⟩
  self := fun _ _ _ _ _ st h => let ⟨_, e1⟩ := st.1; wpAny_pyIter_enum e1 h
section
variable {X : Cx}
theorem boot_enumerate : bootBuiltins "enumerate" = some (.type "enumerate") := by decide +kernel
def iEnum (K : PySem.W.Frag) (ta : TA) : TI := fun σ H R => ta σ H fun vs H1 => ∃ (a : Addr) (xs : List V), vs = [.ref a] ∧ SqL K H1 a xs ∧ R (Ite K a) H1
theorem pi_enum {a : Expr} {es : List Expr} {kk : Nat} {tp : Pos} {ta : TA} {p pos : Pos} (hg : Gl X "enumerate") (hm : X.mg "enumerate" = none) (ha : PA X [a] ta) (hs : starEach [a] X.env = [(false, eval a X.env)] := by rfl) :
    PI X (.Tuple es kk tp) (.Call (.Name "enumerate" p) [a] [] pos) (iEnum X.K ta) := by
  intro pins s σ H R I h
  refine Call_ (ld_blt I hg hm boot_enumerate (PyProof.Rows.callWith_type1 (thn (ha pos pins s σ H _ I h) fun us s1 ⟨vs, H1, I1, r1, q1⟩ => ?_) hs rfl))
  obtain ⟨a, xs, e, hx, hR⟩ := q1
  subst e
  cases r1 with
  | cons r rr =>
    cases rr
    cases r
    obtain ⟨its, rx, pl, _⟩ := I1.list hx
    refine call_enumerate_list pl.isList fun h' e1 e2 _ kp => wpAny_pyIter_enum e1 ⟨_, [s1.heap.objs.size + 1, s1.heap.objs.size], _, _, H1, rfl, I1.kept (t' := s1.toks) kp, turn_enum (Nat.succ_ne_self _), ⟨⟨_, e1⟩, e2⟩, fun c hc => ?_, hR⟩
    have hge : s1.heap.objs.size ≤ c := by
      simp only [List.mem_cons, List.not_mem_nil, or_false] at hc
      rcases hc with rfl | rfl <;> omega
    exact I1.fpOk hge (I1.hok.fresh hge)
end
/-- a loop over anything -/
theorem for_any {J : It} {g : TG} {tb : TS} {D : Ends} {σ : St} {H : Hp} (n : Nat) (Pv : Nat → St → Hp → Prop) (h0 : Pv 0 σ H) (hgo : ∀ i σ H, i < n → Pv i σ H → J.go i H) (hst : ∀ σ H, Pv n σ H → J.stop n H)
    (hs : ∀ i x σ H H', i < n → Pv i σ H → J.yld i H x H' → g x σ H' fun σ2 H2 => tb { D with nx := Pv (i + 1), ct := Pv (i + 1), bk := D.nx } σ2 H2) (hd : ∀ σ H, Pv n σ H → D.nx σ H) :
    ∃ W : Nat → Nat → St → Hp → Prop, (∃ m, W 0 m σ H) ∧ ∀ i m σ H, W i m σ H →
      (J.stop i H ∧ D.nx σ H) ∨ (J.go i H ∧ ∃ N : St → Hp → Prop, (∀ σ' H', N σ' H' → ∃ m', m' < m ∧ W (i + 1) m' σ' H') ∧ ∀ x H', J.yld i H x H' → g x σ H' fun σ2 H2 => tb { D with nx := N, ct := N, bk := D.nx } σ2 H2) := by
  refine ⟨fun i m σ H => m = n - i ∧ i ≤ n ∧ Pv i σ H, ⟨n, by simp, Nat.zero_le _, h0⟩, ?_⟩
  rintro i m σ H ⟨rfl, hi, p⟩
  by_cases hlt : i < n
  · exact .inr ⟨hgo i σ H hlt p, Pv (i + 1), fun σ' H' p' => ⟨n - (i + 1), by omega, rfl, hlt, p'⟩, fun x H' y => hs i x σ H H' hlt p y⟩
  · have e : i = n := by omega
    subst e
    exact .inl ⟨hst σ H p, hd σ H p⟩
end L2

set_option linter.all false
namespace L2
open PySem PySem.W PyProof.Rows
/-- an exception that flies behind a call, up to the callers' frames: B holds all that was known, and all that is told -/
def CXW (P : Program) (w : World) : CXT := fun outer H s E e s' => ∃ (a C : Addr) (a0 : Value) (H' : Hp) (B : Heap), e = .ref a ∧ s'.os = s.os ∧ AllBare s'.gens ∧ Un (frs outer) [] H H' s.heap s'.heap ∧ HOk P w H' s'.heap ∧
  Heap.FlyingW B outer a (.ref C) a0 s'.heap ∧ (∀ b o, s.heap.get? b = some o → H b = none → b ∉ frs outer → B.get? b = some o) ∧ (∀ b u o, H' b = some u → s'.heap.get? b = some o → B.get? b = some o) ∧
  (∀ b o, s.heap.get? b = some o → b ∉ frs outer → ∃ o', B.get? b = some o') ∧ E (.ref C) none H'
section
variable {P : Program} {w : World} {K : PySem.W.Frag} {mg : Str → Option Value} {base : Heap} {N : List Str} {qual : Str} {scope : Scope} {f : Addr} {cd : Value} {A : Around} {outer : List Env} {s : Shared} {H : Hp} {E : XK}
end
end L2

set_option linter.all false
namespace L2
open PySem PySem.W PyProof.Rows
/-- what this body wants of an exception that it makes -/
def RaisesTo (X : Cx) (E : XK) : Prop := ∀ (pins : List (Addr × Obj)) (σ : St) (H1 : Hp) (s1 : Shared) (a C : Addr) (args : List Value) (h1 : Heap), Inv X pins σ H1 s1 → Heap.MadeExcOf s1.heap h1 a (.ref C) args → E (.ref C) none H1 → X.xe (.ref a) { s1 with heap := h1 }
/-- raise C(..), C an own exception -/
def tRaise (E : XK) (C : Addr) (ta : TA) : TS := fun _ σ H => ta σ H fun _ H1 => E (.ref C) none H1
end L2

set_option linter.all false
namespace L2
open PySem PySem.W PyProof.Rows
section
variable {X : Cx} {pins : List (Addr × Obj)} {σ : St} {H H' H1 : Hp} {s s' s1 : Shared}
/-- an exception object -/
abbrev excO (a C : Addr) : HO := .ext fun h => ∃ oe ws, h.get? a = some oe ∧ oe.cls = .ref C ∧ oe.data = .fields ws
end
end L2

set_option linter.all false
namespace L2
open PySem PySem.W PyProof.Rows
section
variable {M : Model} {A : Around} {E : Value → Shared → Prop}
variable {nm q : Str} {C N : Addr} {bs bm : List Value} {hdct : Bool} {sn : List Str} {sub : List Value} {ab : Bool} {col : Option Bool} {dd : Option Addr} {k0 k1 k2 k3 k5 : Option Value} {newId : String}
variable {nm' q' : Str} {C0 N' : Addr} {bs' bm0 : List Value} {hdct' : Bool} {sn' : List Str} {sub' : List Value} {ab' : Bool} {col' : Option Bool} {dd' : Option Addr} {j0 j1 j2 j3 j5 : Option Value} {newId' : String}
end
section
variable {X : Cx} {pins : List (Addr × Obj)} {σ : St} {H : Hp} {s : Shared}
/-- the context of a suite that handles the exception at a -/
abbrev Cx.held (X : Cx) (a : Addr) : Cx := { X with A := X.A.mark (some (.ref a)), calm := false, xe := fun _ _ => False }
end
end L2

set_option linter.all false
set_option maxRecDepth 100000
namespace L2
open PySem PySem.W PyProof.Rows
/-- the class at C is the one at C0 or below it -/
def belowIn (K : Frag) (C C0 : Addr) : Bool := match K.lookup C with
  | some ⟨_, _, .cls cd, _⟩ => cd.mro.contains (.ref C0)
  | _ => false
/-- try: f(..) except C0 as the i-th name: .. -/
def tTry (sp : Sp) (K : Frag) (C0 : Addr) (i : Nat) (t : TA) (ts : TS) : TS := fun D σ H => t σ H fun vs H1 => sp vs H1 (fun _ H2 => D.nx σ H2) fun cls _ H2 => ∃ C bm nid, cls = .ref C ∧ excIn K C bm nid = true ∧ belowIn K C C0 = true ∧
  ∀ a, H2 a = none → ts { nx := fun σ' H' => D.nx (σ'.set i none) H', rt := D.rt, bk := fun σ' H' => D.bk (σ'.set i none) H', ct := fun σ' H' => D.ct (σ'.set i none) H' } (σ.set i (some (.ref a))) (upd H2 a (excO a C))
section
variable {X : Cx} {k : Nat} {f : Addr} {fd : FuncData} {ps : List Str} {sp : Sp} {x c n : Str} {p cpos epos np hpos pos : Pos} {e : Expr} {es : List Expr} {b₀ : Stmt} {suite : List Stmt} {t : TA} {ts : TS} {i : Nat} {C0 : Addr} {bmB : List Value} {newId : String}
end
end L2

set_option linter.all false
set_option maxRecDepth 100000
namespace L2
open PySem PySem.W PySem.Spec PySem.Calls PyProof.Rows
section
variable {prog : Program} {w : World} {A : Around} {E : Value → Shared → Prop} {h : Heap} {g : Array GenState} {d : Drawn} {t : Nat} {os : OsState} {K : Frag} {a C : Addr} {o : Obj}
/-- what the fragment tells of an own exception class, for isinstance -/
structure ExcIsi (K : Frag) (C : Addr) : Prop where
  obj : mroIn K C (.type "object") = some true
  base : mroIn K C (.type "BaseException") = some true
  cls : findIn K (.ref C) "__class__" = some (some (.builtin "object.__class__"))
  ga : findIn K (.ref C) "__getattribute__" = some (some (.builtin "BaseException.__getattribute__"))
  no : findIn K (.ref C) "__getattr__" = some none
end
end L2

set_option linter.all false
set_option maxRecDepth 100000
namespace L2
open PySem PySem.W PySem.Spec PySem.Calls PyProof.Rows
section
variable {X : Cx}
end
end L2

set_option linter.all false
set_option maxRecDepth 100000
namespace L2
open PySem PySem.W PySem.Spec PySem.Calls PyProof.Rows
/-- room, though an exception is being handled -/
structure RoomU (k : Nat) (A : Around) : Prop where
  dp : A.depth + 3 * k + 5 < recursionLimit
  un : A.units + 16 * k + 200 < cLine
/-- a def that may be called from a suite that handles an exception -/
structure FnOkU (P : Program) (w : World) (K : PySem.W.Frag) (mg : Str → Option Value) (base : Heap) (k : Nat) (f : Addr) (fd : FuncData) (ps : List Str) (sp : Sp) : Prop where
  len : ∀ vs H Q E, sp vs H Q E → vs.length = ps.length
  run : ∀ (A : Around) (outer : List Env) (s : Shared) (H : Hp) (args : Args) (us : List Value) (vs : List V) (Q : VK) (E : XK), RoomU k A → Env0 P w K mg base A outer s H → BindsTo s fd args (ps.zip us) → Vals vs us → sp vs H Q E →
    codeAny (model P w) A (.call (.ref f) args) (CR CX0 outer P w H s Q E) s
/-- the body's context -/
abbrev cxU (P : Program) (w : World) (K : PySem.W.Frag) (mg : Str → Option Value) (base : Heap) (N : List Str) (qual : Str) (scope : Scope) (f : Addr) (cd : Value) (A : Around) (outer : List Env) (s : Shared) (H : Hp) : Cx :=
  { cxOf CX0 P w K mg base N qual scope f cd A outer s H E0 with calm := false, xe := fun _ _ => False }
end L2

set_option linter.all false
set_option maxRecDepth 100000
namespace L2
open PySem PySem.W PySem.Spec PySem.Calls PyProof.Rows
abbrev bmVE : List Value := [.type "ValueError", .type "Exception", .type "BaseException", .type "object"]
/-- the classes at cs stand below the one at pe, each beside the others -/
def clsAll (K : Frag) (pe : Addr) (cs : List Addr) : Bool := decide cs.Nodup && excIn K pe bmVE "ValueError.__new__" && cs.all fun c => excIn K c bmVE "ValueError.__new__" && belowIn K c pe && (mroIn K c (.type "object") == some true) && (mroIn K c (.type "BaseException") == some true) &&
  (findIn K (.ref c) "__class__" == some (some (.builtin "object.__class__"))) && (findIn K (.ref c) "__getattribute__" == some (some (.builtin "BaseException.__getattribute__"))) && (findIn K (.ref c) "__getattr__" == some none) &&
  (kitOne K (.ref c) (.type "ValueError") == some true) && cs.all fun c' => kitOne K (.ref c) (.ref c') == some (c == c')
structure ClsAt (K : Frag) (pe : Addr) (cs : List Addr) (c : Addr) : Prop where
  exc : excIn K c bmVE "ValueError.__new__" = true
  below : belowIn K c pe = true
  isi : ExcIsi K c
  ve : kitOne K (.ref c) (.type "ValueError") = some true
  each : ∀ c' ∈ cs, kitOne K (.ref c) (.ref c') = some (c == c')
end L2

set_option linter.all false
set_option maxRecDepth 100000
namespace L2
open PySem PySem.W PySem.Spec PySem.Calls PyProof.Rows
/-- {i: v}, two whole numbers -/
def tD1 (i v : Int) : TE := fun _ H Q => ∀ a, H a = none → Q (.ref a) (upd H a (.dK [(.inl i, .int v)]))
end L2

set_option linter.all false
set_option maxHeartbeats 4000000
set_option maxRecDepth 100000
namespace L2
open PySem PySem.W PySem.Spec PySem.Calls PyProof.Rows
section
variable {X : Cx}
/-- != of two tuples of like lengths -/
def rNeT (K : PySem.W.Frag) : R2 := fun x y H Q => ∃ (p b : Addr) (xs ys : List V) (n : Nat) (e : Nat → Bool), x = .ref p ∧ y = .ref b ∧ SqT K H p xs ∧ SqT K H b ys ∧ n ≤ 60 ∧
  xs.length = ys.length ∧ (∀ i, i < xs.length → DEq K H n (xs.getD i .non) (ys.getD i .non) (e i)) ∧ Q (.bl (!(List.range xs.length).all e)) H
/-- a dict of one pair with itself -/
def rNeK : R2 := fun x y H Q => ∃ (p : Addr) (k v : Int), x = .ref p ∧ y = .ref p ∧ H p = some (.dK [(.inl k, .int v)]) ∧ Q (.bl false) H
end
end L2

set_option linter.all false
set_option maxHeartbeats 4000000
set_option maxRecDepth 100000
namespace L2
open PySem PySem.W PySem.Spec PySem.Calls PyProof.Rows
/-- {} -/
def tD0 : TE := fun _ H Q => ∀ a, H a = none → Q (.ref a) (upd H a (.dK []))
theorem pe_dict0 {X : Cx} {pos : Pos} : PE X (.Dict [] [] pos) tD0 := by
  intro pins s σ H Q I h
  refine wpAny_Dict_empty ?_
  refine ⟨.ref s.heap.objs.size, upd H s.heap.objs.size (.dK []), I.laid (t' := s.toks) (fun b u e => Heap.get?_push_of_some _ e) (Nat.le_refl _) ?_, rfl, h _ (I.hok.fresh (Nat.le_refl _))⟩
  refine ⟨by show 0 ≤ sizeLine; decide, beq_eq_false_iff_ne.mpr (Ne.symm (Nat.ne_of_lt (Nat.lt_trans (show sysModules < mainGlobals by decide) (let ⟨_, _, _, e, _⟩ := I.mod.glob.keeps I.bk; Heap.lt_size e)))), [], .nil, Heap.DictOf.new s.heap⟩
/-- an empty dict with itself -/
def rNeK0 : R2 := fun x y H Q => ∃ (p : Addr), x = .ref p ∧ y = .ref p ∧ H p = some (.dK []) ∧ Q (.bl false) H
end L2

-- CHANGE: your row's module here, as the last of these rows
set_option Elab.async false
set_option linter.all false
set_option maxRecDepth 100000
/-! THE HAND LAYER, for ints, bools, texts, own classes, DICTS (int and text keys), calls, loops. Paste it whole ahead of your own text; what your proof does not reach may be deleted. -/
namespace L2
open PySem PySem.Spec PyProof.Rows

end L2

namespace L2
open PySem PySem.Spec PyProof.Rows

section
variable (P : Program) (w : World)
end

section
variable {P : Program} {w : World} {H H' : Hp} {h h' : Heap} {a : Addr} {o : HO}
end

section
variable {P : Program} {w : World} {H : Hp} {h h' : Heap} {x e : Addr} {o' : HO}
end

section
variable {fs fs' ex ex' : List Addr} {H H1 H2 : Hp} {h h1 h2 h' : Heap} {a x e : Addr} {o : HO}
end

end L2

namespace L2
open PySem PySem.Spec PyProof.Rows

section
variable {X : Cx} {pins : List (Addr × Obj)} {σ : List (Option V)} {H H' : Hp} {s : Shared} {h' : Heap}

end

end L2

namespace L2
open PySem PySem.Spec PyProof.Rows
section
variable {X : Cx}

variable {a b : Expr} {ta tb : TE} {pos : Pos}
/-! ### and, or, not -/
variable {tA tB' : TT} {rest : List Expr}
end
end L2

namespace L2
open PySem PySem.Spec PyProof.Rows

section
variable {X : Cx} {pins : List (Addr × Obj)} {σ : St} {H : Hp} {s : Shared} {a : Addr} {xs ys : List V}
end

section
variable {X : Cx} {pins : List (Addr × Obj)} {σ : St} {H : Hp} {s : Shared} {E : Value → Shared → Prop}
end

/-! ### blocks and small statements -/
section
variable {X : Cx} {st : Stmt} {rest : List Stmt} {t u : TS} {e : Expr} {te : TE} {pos : Pos}
end

section
variable {X : Cx} {pos : Pos}
end

/-! ### while -/
section
variable {X : Cx} {pos : Pos}
end

end L2

namespace L2
open PySem PySem.Spec PyProof.Rows
section
variable {X : Cx} {tg : Expr}
end

end L2

namespace L2
open PySem PySem.Spec PyProof.Rows

section
variable {X : Cx} {a b c : Expr} {ta tb tc : TE} {pos : Pos}

end

section
variable {X : Cx} {a b c : Expr} {ta tb tc : TE} {pos : Pos}
end
end L2

namespace L2
open PySem PySem.Spec PyProof.Rows

section
variable {prog : Program} {w : World} {A : Around} {E : Value → Shared → Prop} {s : Shared} {K : PySem.W.Frag} {x dx C f : Addr} {mA : Str → Option Value} {name : Str} {v : Value}

end

section
variable {P : Program} {w : World} {H H' : Hp} {h h' : Heap} {a C dx : Addr} {fs fs' : List (Str × V)}
end

section
variable {X : Cx} {pins : List (Addr × Obj)} {σ : St} {H : Hp} {s : Shared} {a C dx : Addr} {fs : List (Str × V)} {f : Str} {v : V} {A : Around} {E : Value → Shared → Prop}

end

section
variable {X : Cx} {o e value : Expr} {f : Str} {pos pos' tpos : Pos} {ta tv : TE}
end

/-! ### isinstance -/
section
variable {X : Cx} {pins : List (Addr × Obj)} {σ : St} {H : Hp} {s : Shared} {A : Around} {E : Value → Shared → Prop} {Q : Value → Shared → Prop} {c : Value} {b : Bool}
end
end L2

namespace L2
open PySem PySem.Spec PyProof.Rows

section
variable {X : Cx} {e : Expr} {es : List Expr} {te : TE} {t : TA} {pos : Pos}
end

section
variable {X : Cx} {pins : List (Addr × Obj)} {σ : St} {H : Hp} {s s' : Shared}
end

section
variable {X : Cx} {CX : CXT} {k : Nat} {f C : Addr} {fd : FuncData} {ps : List Str} {sp : Sp} {dvs : List V} {ds : List Value} {E : XK} {x m : Str} {p pos apos : Pos} {e o : Expr} {es : List Expr} {ta : TE} {t : TA}

end

section
variable {X : Cx} {CX : CXT} {k : Nat} {f C : Addr} {fd : FuncData} {ps ks : List Str} {sp : Sp} {E : XK} {x m : Str} {p pos apos kpos : Pos} {e o : Expr} {es : List Expr} {kws : List Keyword} {te ta : TE} {t tk : TA} {nm : Option Str}
variable {g : List Value → List Value → List Value} {gV : List V → List V → List V}
end

end L2

namespace L2
open PySem PySem.Spec PyProof.Rows
section
variable {X : Cx} {x : Str} {p pos : Pos} {e : Expr} {es : List Expr} {t : TA} {id T : String} {r : List V → Hp → VK → Prop}

end
end L2

namespace L2
open PySem PySem.Spec PyProof.Rows

/-! ### lists of pairs as tables -/
section
variable {κ : Type} [DecidableEq κ]
def valV (kvs : List (κ × V)) (k : κ) : Option V := (kvs.find? fun kv => decide (kv.1 = k)).map (·.2)
/-- in its place, or at the end -/
def putK (kvs : List (κ × V)) (k : κ) (v : V) : List (κ × V) :=
  if (kvs.any fun kv => decide (kv.1 = k)) = true then kvs.map (fun kv => if kv.1 = k then (kv.1, v) else kv) else kvs ++ [(k, v)]
def dropK (kvs : List (κ × V)) (k : κ) : List (κ × V) := kvs.filter fun kv => decide (kv.1 ≠ k)

theorem valV_pos {p : κ × V} {r : List (κ × V)} {k : κ} (e : p.1 = k) : valV (p :: r) k = some p.2 := by simp [valV, List.find?_cons, e]
theorem valV_neg {p : κ × V} {r : List (κ × V)} {k : κ} (e : ¬ p.1 = k) : valV (p :: r) k = valV r k := by simp [valV, List.find?_cons, e]
theorem valV_any (k : κ) : ∀ kvs : List (κ × V), (kvs.any fun kv => decide (kv.1 = k)) = (valV kvs k).isSome
  | [] => rfl
  | p :: r => by
    rw [List.any_cons]
    by_cases e : p.1 = k
    · simp only [valV_pos e, decide_eq_true e, Bool.true_or, Option.isSome_some]
    · rw [valV_neg e, decide_eq_false e, Bool.false_or]; exact valV_any k r
theorem length_putK (kvs : List (κ × V)) (k : κ) (v : V) : (putK kvs k v).length ≤ kvs.length + 1 := by
  unfold putK
  split
  · rw [List.length_map]; omega
  · rw [List.length_append, List.length_cons, List.length_nil]; omega
theorem putK_new {kvs : List (κ × V)} {k : κ} (v : V) (h : valV kvs k = none) : putK kvs k v = kvs ++ [(k, v)] := by
  unfold putK
  rw [valV_any, h]
  exact if_neg (by decide)

theorem RelO.isSome_eq {o : Option V} {u : Option Value} (r : RelO o u) : o.isSome = u.isSome := by
  cases o with
  | none => cases u with
    | none => rfl
    | some _ => exact (show False from r).elim
  | some _ => cases u with
    | none => exact (show False from r).elim
    | some _ => rfl
/-- raw tables of the same keys -/
theorem KV.val {kvs : List (κ × V)} {vs : List (κ × Value)} (r : KV kvs vs) (k : κ) : RelO (valV kvs k) (valueAt vs k) := by
  unfold KV at r
  induction r with
  | nil => exact True.intro
  | @cons p q ps qs h t ih =>
    obtain ⟨h1, h2⟩ := h
    by_cases e : p.1 = k
    · have e' : q.1 = k := h1.symm.trans e
      have b : valueAt (q :: qs) k = some q.2 := by simp [valueAt, List.find?_cons, e']
      rw [valV_pos e, b]; exact h2
    · have e' : ¬ q.1 = k := fun z => e (h1.trans z)
      have b : valueAt (q :: qs) k = valueAt qs k := by simp [valueAt, List.find?_cons, e']
      rw [valV_neg e, b]; exact ih
theorem KV.any {kvs : List (κ × V)} {vs : List (κ × Value)} (r : KV kvs vs) (k : κ) : (kvs.any fun kv => decide (kv.1 = k)) = vs.any fun kv => decide (kv.1 = k) := by
  unfold KV at r
  induction r with
  | nil => rfl
  | cons h t ih => rw [List.any_cons, List.any_cons, ih, h.1]
theorem KV.repl {kvs : List (κ × V)} {vs : List (κ × Value)} (r : KV kvs vs) (k : κ) {y : V} {u : Value} (ry : RelV y u) :
    KV (kvs.map fun kv => if kv.1 = k then (kv.1, y) else kv) (vs.map fun kv => if kv.1 = k then (kv.1, u) else kv) := by
  unfold KV at r ⊢
  induction r with
  | nil => exact .nil
  | @cons p q ps qs h t ih =>
    rw [List.map_cons, List.map_cons]
    refine .cons ?_ ih
    obtain ⟨h1, h2⟩ := h
    by_cases e : p.1 = k
    · rw [if_pos e, if_pos (h1.symm.trans e)]; exact ⟨h1, ry⟩
    · rw [if_neg e, if_neg (fun z => e (h1.trans z))]; exact ⟨h1, h2⟩
theorem KV.put {kvs : List (κ × V)} {vs : List (κ × Value)} (r : KV kvs vs) (k : κ) {y : V} {u : Value} (ry : RelV y u) : KV (putK kvs k y) (stored vs k u) := by
  unfold putK stored
  rw [r.any k]
  by_cases e : (vs.any fun kv => decide (kv.1 = k)) = true
  · rw [if_pos e, if_pos e]; exact r.repl k ry
  · rw [if_neg e, if_neg e]; exact Paired.snoc r ⟨rfl, ry⟩
theorem KV.length {kvs : List (κ × V)} {vs : List (κ × Value)} (r : KV kvs vs) : kvs.length = vs.length := Paired.length r
end


/-! ### a tracked dict, its keys ints and texts or tuples of these -/
theorem kV_is {P : Program} {w : World} {k : Key} {u : Value} (r : RelV (kV k) u) : (mixKind P w).is k u = true := by
  cases k with
  | inl i => obtain ⟨t, e⟩ := (show ∃ t, u = Value.int i t from r); subst e; exact mixKind_int P w i t
  | inr x => obtain ⟨t, e⟩ := (show ∃ t, u = Value.str x t from r); subst e; exact mixKind_str P w x t
theorem items_are {P : Program} {w : World} : ∀ {ks : List Key} {us : List Value}, Vals (ks.map kV) us → ItemsAre (mixKind P w) ks us
  | [], _, r => by rw [List.map_nil] at r; cases r; exact .nil
  | k :: ks, _, r => by
    rw [List.map_cons] at r
    cases r with
    | cons h t => exact .cons (kV_is h) (items_are t)

/-- raw entries of a dict with tuple keys -/
abbrev KT (H : Hp) : List (List Key × V) → List (List Key × Addr × Value) → Prop := Paired fun p q => p.1 = q.1 ∧ H q.2.1 = some (.tup (p.1.map kV)) ∧ RelV p.2 q.2.2
theorem KT.val {H : Hp} {kvs : List (List Key × V)} {xs : List (List Key × Addr × Value)} (r : KT H kvs xs) (k : List Key) : RelO (valV kvs k) ((atKey xs k).map (·.2)) := by
  induction r with
  | nil => exact True.intro
  | @cons p q ps qs h t ih =>
    obtain ⟨h1, _, h2⟩ := h
    by_cases e : p.1 = k
    · have e' : q.1 = k := h1.symm.trans e
      have b : atKey (q :: qs) k = some q.2 := by simp [atKey, List.find?_cons, e']
      rw [valV_pos e, b]; exact h2
    · have e' : ¬ q.1 = k := fun z => e (h1.trans z)
      have b : atKey (q :: qs) k = atKey qs k := by simp [atKey, List.find?_cons, e']
      rw [valV_neg e, b]; exact ih
theorem KT.repl {H : Hp} {kvs : List (List Key × V)} {xs : List (List Key × Addr × Value)} (r : KT H kvs xs) (k : List Key) {y : V} {u : Value} (ry : RelV y u) :
    KT H (kvs.map fun kv => if kv.1 = k then (kv.1, y) else kv) (xs.map (putAt k u)) := by
  induction r with
  | nil => exact .nil
  | @cons p q ps qs h t ih =>
    rw [List.map_cons, List.map_cons]
    refine .cons ?_ ih
    obtain ⟨h1, h2, h3⟩ := h
    unfold putAt
    by_cases e : p.1 = k
    · rw [if_pos e, if_pos (h1.symm.trans e)]; exact ⟨h1, h2, ry⟩
    · rw [if_neg e, if_neg (fun z => e (h1.trans z))]; exact ⟨h1, h2, h3⟩
theorem KT.put {H : Hp} {kvs : List (List Key × V)} {xs : List (List Key × Addr × Value)} (r : KT H kvs xs) (k : List Key) {b : Addr} {y : V} {u : Value} (hb : H b = some (.tup (k.map kV))) (ry : RelV y u) :
    KT H (putK kvs k y) (storedH xs k b u) := by
  have e : (kvs.any fun kv => decide (kv.1 = k)) = (atKey xs k).isSome := by
    rw [valV_any, (r.val k).isSome_eq, Option.isSome_map]
  unfold putK storedH
  rw [e]
  by_cases q : (atKey xs k).isSome = true
  · rw [if_pos q, if_pos q]; exact r.repl k ry
  · rw [if_neg q, if_neg q]; exact Paired.snoc r ⟨rfl, hb, ry⟩
theorem KT.keeps {H H' : Hp} {kvs : List (List Key × V)} {xs : List (List Key × Addr × Value)} (r : KT H kvs xs) (ht : ∀ b ys, H b = some (.tup ys) → H' b = some (.tup ys)) : KT H' kvs xs :=
  Paired.mapP r fun _ _ z => ⟨z.1, ht _ _ z.2.1, z.2.2⟩

section
variable {P : Program} {w : World} {H : Hp} {h : Heap} {a : Addr}
theorem rd_of {u : HO} (ok : HOk P w H h) (e : Rd H a u) : ObjOk P w H h a u := e.ok ok
theorem dk_rd {kvs : List (Key × V)} (ok : HOk P w H h) (e : Rd H a (.dK kvs)) : kvs.length ≤ sizeLine ∧ (a == sysModules) = false ∧ ∃ vs, KV kvs vs ∧ h.DictOf (mixKind P w) a vs :=
  show ObjOk P w H h a (.dK kvs) from rd_of ok e
theorem dk_of {kvs : List (Key × V)} (ok : HOk P w H h) (e : H a = some (.dK kvs)) : kvs.length ≤ sizeLine ∧ (a == sysModules) = false ∧ ∃ vs, KV kvs vs ∧ h.DictOf (mixKind P w) a vs := dk_rd ok (.inl e)
/-- a tracked tuple of ints and texts is a key -/
theorem key_of {ks : List Key} (ok : HOk P w H h) (e : H a = some (.tup (ks.map kV))) : (tupleKind (mixKind P w)).is h ks a := by
  obtain ⟨_, its, r, o, h1, h2, n, h3⟩ := (show ObjOk P w H h a (.tup (ks.map kV)) from ok a _ e)
  exact ⟨o, its.toArray, n, h1, h2, h3, by simpa using items_are r⟩
theorem dt_rd {kvs : List (List Key × V)} (ok : HOk P w H h) (e : Rd H a (.dT kvs)) : kvs.length ≤ sizeLine ∧ (a == sysModules) = false ∧
    ∃ xs, KT H kvs xs ∧ h.DictOfH (tupleKind (mixKind P w)) a xs := by
  obtain ⟨z, y, xs, r, o, es, ep, h1, h2, h3, h4, h5⟩ := (show ObjOk P w H h a (.dT kvs) from rd_of ok e)
  refine ⟨z, y, xs, r, o, es, ep, h1, h2, h3, h4, fun x hx => ?_, h5⟩
  have all : ∀ {l : List (List Key × V)} {m : List (List Key × Addr × Value)}, KT H l m → ∀ x ∈ m, (tupleKind (mixKind P w)).is h x.1 x.2.1 := by
    intro l m q
    induction q with
    | nil => intro x hx; exact nomatch hx
    | @cons p q ps qs hq t ih =>
      intro x hx
      rcases List.mem_cons.mp hx with e | hx
      · subst e
        exact key_of ok (by rw [← hq.1]; exact hq.2.1)
      · exact ih x hx
  exact all r x hx
theorem dt_of {kvs : List (List Key × V)} (ok : HOk P w H h) (e : H a = some (.dT kvs)) : kvs.length ≤ sizeLine ∧ (a == sysModules) = false ∧
    ∃ xs, KT H kvs xs ∧ h.DictOfH (tupleKind (mixKind P w)) a xs := dt_rd ok (.inl e)
end

/-- what the dict at a holds at the key y -/
def DGet (H : Hp) (a : Addr) (y : V) (r : Option V) : Prop :=
  (∃ kvs k, Rd H a (.dK kvs) ∧ y = kV k ∧ r = valV kvs k) ∨ ∃ kvs k b, Rd H a (.dT kvs) ∧ y = .ref b ∧ H b = some (.tup (k.map kV)) ∧ r = valV kvs k
/-- the heap behind a[y] = v -/
def DPut (H : Hp) (a : Addr) (y v : V) (H' : Hp) : Prop :=
  (∃ kvs k, H a = some (.dK kvs) ∧ y = kV k ∧ kvs.length < sizeLine ∧ H' = upd H a (.dK (putK kvs k v))) ∨
  ∃ kvs k b, H a = some (.dT kvs) ∧ y = .ref b ∧ H b = some (.tup (k.map kV)) ∧ kvs.length < sizeLine ∧ H' = upd H a (.dT (putK kvs k v))
theorem DGet.k {H : Hp} {a : Addr} {kvs : List (Key × V)} {k : Key} (e : H a = some (.dK kvs)) : DGet H a (kV k) (valV kvs k) := .inl ⟨kvs, k, .inl e, rfl, rfl⟩
theorem DPut.k {H : Hp} {a : Addr} {kvs : List (Key × V)} {k : Key} {v : V} (e : H a = some (.dK kvs)) (hl : kvs.length < sizeLine) : DPut H a (kV k) v (upd H a (.dK (putK kvs k v))) := .inl ⟨kvs, k, e, rfl, hl, rfl⟩
section
variable {X : Cx} {pins : List (Addr × Obj)} {σ : St} {H : Hp} {s : Shared} {a : Addr} {y v : V} {u r : Value} {o : Option V} {A : Around} {E : Value → Shared → Prop}

theorem Inv.big (I : Inv X pins σ H s) : sysModules < s.heap.objs.size := by
  have h : mainGlobals < s.heap.objs.size := (I.mod.glob.keeps I.bk).lt
  exact Nat.lt_trans (by decide) h

/-- d[y], there -/
theorem d_getItem {Q : Value → Shared → Prop} (hu : A.units + 1 < cLine) (I : Inv X pins σ H s) (g : DGet H a y (some v)) (ry : RelV y u) (h : ∀ w' s', Inv X pins σ H s' → RelV v w' → Q w' s') :
    wpAny (model X.prog X.w) A (getItem (.ref a) u) Q E s := by
  rcases g with ⟨kvs, k, e, ey, l⟩ | ⟨kvs, k, b, e, ey, eb, l⟩
  · subst ey
    obtain ⟨z, hd, vs, rel, dd⟩ := dk_rd I.hok e
    obtain ⟨w', hw, rw'⟩ := RelO.some_of (v := v) (o := valueAt vs k) (by rw [l]; exact rel.val k)
    exact wpAny_getItem_of (kV_is ry) dd.mapOf hw (h w' _ (I.tok _) rw')
  · subst ey
    cases (show u = Value.ref b from ry)
    obtain ⟨z, hd, xs, rel, dd⟩ := dt_rd I.hok e
    obtain ⟨w', hw, rw'⟩ := RelO.some_of (v := v) (o := (atKey xs k).map (·.2)) (by rw [l]; exact rel.val k)
    obtain ⟨p, hp, hp2⟩ := Option.map_eq_some_iff.mp hw
    refine wpAny_getItem_heap (tupleKind_room_in1 hu) (key_of I.hok eb) dd hp ?_
    rw [hp2]
    exact h w' _ (I.tok _) rw'
/-- a dict's object is replaced -/
theorem d_write {h' : Heap} {t' : Nat} {ob : HO} (I : Inv X pins σ H s) (mu : Mut (H a)) (hs : Heap.SameBut a s.heap h') (he : ∃ q, h'.get? a = some q) (new : ObjOk X.prog X.w (upd H a ob) h' a ob) :
    Inv X pins σ (upd H a ob) { s with heap := h', toks := t' } :=
  I.write (x := a) (e := a) mu (.inl rfl) (fun b q hb z => (hs.2 b hb).trans z) he new
theorem dk_new {P : Program} {w : World} {H' : Hp} {h' : Heap} {kvs : List (Key × V)} {vs : List (Key × Value)} (z : kvs.length ≤ sizeLine) (hd : (a == sysModules) = false) (rel : KV kvs vs) (dd : h'.DictOf (mixKind P w) a vs) :
    ObjOk P w H' h' a (.dK kvs) := ⟨z, hd, vs, rel, dd⟩
/-- d[y] = v -/
theorem d_setItem {H' : Hp} {Q : Unit → Shared → Prop} (hu : A.units + 1 < cLine) (I : Inv X pins σ H s) (g : DPut H a y v H') (ry : RelV y u) (rv : RelV v r) (h : ∀ s', Inv X pins σ H' s' → Q () s') :
    wpAny (model X.prog X.w) A (setItem (.ref a) u r) Q E s := by
  rcases g with ⟨kvs, k, e, ey, l, eH⟩ | ⟨kvs, k, b, e, ey, eb, l, eH⟩
  · subst ey eH
    obtain ⟨z, hd, vs, rel, dd⟩ := dk_of I.hok e
    have hz : vs.length ≤ sizeLine := by rw [← rel.length]; exact z
    have hl : (putK kvs k v).length ≤ sizeLine := by have := length_putK kvs k v; omega
    refine wpAny_setItem_pairs (hsz := hz) (kV_is ry) dd fun h' dd' hs => h _ ?_
    have he : ∃ q, h'.get? a = some q := let ⟨q, _, _, hq, _⟩ := dd'; ⟨q, hq⟩
    exact d_write I (by rw [e]; exact True.intro) hs he (dk_new hl hd (rel.put k rv) dd')
  · subst ey eH
    cases (show u = Value.ref b from ry)
    obtain ⟨z, hd, xs, rel, dd⟩ := dt_of I.hok e
    have hz : xs.length ≤ sizeLine := by rw [← Paired.length rel]; exact z
    have hl : (putK kvs k v).length ≤ sizeLine := by have := length_putK kvs k v; omega
    refine wpAny_setItem_heap (hsz := hz) (tupleKind_room_in1 hu) (key_of I.hok eb) dd fun h' dd' hs => h _ ?_
    obtain ⟨q, es, ep, hq, h2, h3, h4, _, h5⟩ := dd'
    refine d_write I (by rw [e]; exact True.intro) hs ⟨q, hq⟩ ⟨hl, hd, _, (rel.put k eb rv).keeps fun c ys ec => ?_, q, es, ep, hq, h2, h3, h4, h5⟩
    rw [upd_ne (ne_of ec e (fun z => nomatch z))]
    exact ec
end

section
variable {X : Cx} {pins : List (Addr × Obj)} {σ : St} {H : Hp} {s : Shared} {a : Addr} {kvs : List (Key × V)} {k : Key} {u : Value} {A : Around} {E : Value → Shared → Prop}
end


/-! ### readings and rules -/
/-- the element of a subscription, not a slice -/
def NoSl (i : Expr) : Prop := ∀ ov iv, subscripted i false ov iv = operate [ov, iv] (getItem ov iv)
theorem subD_of {prog : Program} {w : World} {A : Around} {E : Value → Shared → Prop} {s : Shared} {env : Env} {value slice : Expr} {pos : Pos} {T id : String} {Q : Value → Shared → Prop}
    (hl : typeLookup (.type T) "__getitem__" = pure (some (.builtin id))) (hs : NoSl slice)
    (h : wpAny (model prog w) A (eval value env) (fun o s₁ => wpAny (model prog w) A (eval slice env) (fun i s₂ => s₂.TypeIs o T ∧ wpAny (model prog w) A (getItem o i) Q E s₂) E s₁) E s) :
    wpAny (model prog w) A (eval (.Subscript value slice pos) env) Q E s := by
  refine Subscript_ (wpAny_mono h (fun o s₁ h₁ => wpAny_mono h₁ (fun i s₂ h₂ => ?_) fun _ _ x => x) fun _ _ x => x)
  obtain ⟨hT, h₂⟩ := h₂
  unfold subscriptTail
  refine wpAny_bind ?_
  rw [getitemInPython_of_ne hT.not_modules]
  refine wpAny_bind (wpAny_specialOf hT hl ?_)
  have fin : wpAny (model prog w) A (subscripted slice false o i) (fun r s₃ => wpAny (model prog w) A (letTemporaryGo value o r >>= fun _ => pure r) Q E s₃) E s₂ := by
    rw [hs o i]
    exact wpAny_operating (wpAny_mono h₂ (fun r s₃ h₃ => wpAny_bind (wpAny_letTemporaryGo (wpAny_pure h₃))) fun _ _ x => x)
  first
    | exact wpAny_pure (wpAny_bind fin)
    | exact wpAny_bind (wpAny_pure (wpAny_bind fin))
    | exact wpAny_bind fin

theorem dict_typeIs {X : Cx} {pins : List (Addr × Obj)} {σ : St} {H : Hp} {s : Shared} {a : Addr} {y : V} {o : Option V} (I : Inv X pins σ H s) (g : DGet H a y o) : s.TypeIs (.ref a) "dict" := by
  rcases g with ⟨kvs, k, e, _, _⟩ | ⟨kvs, k, b, e, _, _, _⟩
  · obtain ⟨_, _, vs, _, dd⟩ := dk_rd I.hok e
    exact dd.typeIs
  · obtain ⟨_, _, xs, _, dd⟩ := dt_rd I.hok e
    exact dd.typeIs
/-- d[y] -/
def tDGet (td ty : TE) : TE := fun σ H Q => td σ H fun x H1 => ty σ H1 fun y H2 => ∃ a v, x = .ref a ∧ DGet H2 a y (some v) ∧ Q v H2
/-- y in d, y not in d -/
def tDIn (ty td : TE) : TE := fun σ H Q => ty σ H fun y H1 => td σ H1 fun x H2 => ∃ a o, x = .ref a ∧ DGet H2 a y o ∧ Q (.bl o.isSome) H2
def tDNotIn (ty td : TE) : TE := fun σ H Q => ty σ H fun y H1 => td σ H1 fun x H2 => ∃ a o, x = .ref a ∧ DGet H2 a y o ∧ Q (.bl (!o.isSome)) H2
/-- d[y] = v -/
def sDPut (td ty tv : TE) : TS := fun D σ H => tv σ H fun v H1 => td σ H1 fun x H2 => ty σ H2 fun y H3 => ∃ a H4, x = .ref a ∧ DPut H3 a y v H4 ∧ D.nx σ H4
/-- d[y] op= v -/
def sDAug (td ty tv : TE) (rd : V → V → Hp → VK → Prop) : TS := fun D σ H => td σ H fun x H1 => ty σ H1 fun y H2 => ∃ a v, x = .ref a ∧ DGet H2 a y (some v) ∧
  tv σ H2 fun y2 H3 => rd v y2 H3 fun z H4 => ∃ H5, DPut H4 a y z H5 ∧ D.nx σ H5
/-- del d[y] -/
def sDDel (td ty : TE) : TS := fun D σ H => td σ H fun x H1 => ty σ H1 fun y H2 => ∃ a kvs k, x = .ref a ∧ H2 a = some (.dK kvs) ∧ y = kV k ∧ (valV kvs k).isSome = true ∧ D.nx σ (upd H2 a (.dK (dropK kvs k)))

section
variable {X : Cx} {o i e value : Expr} {pos pos' tpos : Pos} {td ty tv : TE}
theorem pe_dget (hu : X.A.units + 1 < cLine) (ho : PE X o td) (hi : PE X i ty) (hs : NoSl i) : PE X (.Subscript o i pos) (tDGet td ty) := by
  intro pins s σ H Q I h
  refine subD_of PySem.F.slot_dict_getitem.lookup hs (thn (ho pins s σ H _ I h) fun u s1 ⟨x, H1, I1, rx, q1⟩ => thn (hi pins s1 σ H1 _ I1 q1) fun iv s2 ⟨y, H2, I2, ry, a, v, ex, g, q2⟩ => ?_)
  subst ex
  obtain rfl : u = Value.ref a := rx
  exact ⟨dict_typeIs I2 g, d_getItem hu I2 g ry fun w' s3 I3 rw' => ⟨v, H2, I3, rw', q2⟩⟩
theorem ps_dput (hu : X.A.units + 1 < cLine) (ho : PE X o td) (hi : PE X i ty) (hv : PE X value tv) (hs : swapsWith value (some (.Subscript o i pos')) pos.line X.env = pure false) :
    PS X (.Assign [.Subscript o i pos'] value pos) (sDPut td ty tv) := by
  intro pins s σ H D I h
  refine wpAny_Assign_Subscript (thn (hv pins s σ H _ I h) fun r s1 ⟨v, H1, I1, rv, q1⟩ => thn (ho pins s1 σ H1 _ I1 q1) fun u s2 ⟨x, H2, I2, rx, q2⟩ => thn (hi pins s2 σ H2 _ I2 q2) fun iv s3 ⟨y, H3, I3, ry, a, H4, ex, g, q3⟩ => ?_) hs
  subst ex
  obtain rfl : u = Value.ref a := rx
  exact d_setItem hu I3 g ry rv fun s4 I4 => ⟨σ, H4, I4, q3⟩
end


/-! ### displays -/
/-- {}, to be a dict of the kind that is wanted -/
def tDNewK : TE := fun _ H Q => ∀ p, H p = none → Q (.ref p) (upd H p (.dK []))
def tDNewT : TE := fun _ H Q => ∀ p, H p = none → Q (.ref p) (upd H p (.dT []))
section
variable {X : Cx} {pos : Pos}
end

/-- the pairs of a display, from the left -/
def tPairs : List (TE × TE) → St → Hp → (List (V × V) → Hp → Prop) → Prop
  | [], _, H, Q => Q [] H
  | (tk, tv) :: r, σ, H, Q => tk σ H fun x H1 => tv σ H1 fun y H2 => tPairs r σ H2 fun ps H3 => Q ((x, y) :: ps) H3
abbrev VV : List (V × V) → List (Value × Value) → Prop := Paired fun p q => RelV p.1 q.1 ∧ RelV p.2 q.2
def PPs (X : Cx) (pos : Pos) (keys : List (Option Expr)) (values : List Expr) (trs : List (TE × TE)) : Prop :=
  ∀ (pins : List (Addr × Obj)) (s : Shared) (σ : St) (H : Hp) (Q : List (V × V) → Hp → Prop), Inv X pins σ H s → tPairs trs σ H Q →
    wpAny (model X.prog X.w) X.A (evalPairs (pairTrees keys values X.env pos)) (fun vs s' => ∃ ps H', Inv X pins σ H' s' ∧ VV ps vs ∧ Q ps H') X.xe s
def mergeK (kvs more : List (Key × V)) : List (Key × V) := more.foldl (fun acc kv => putK acc kv.1 kv.2) kvs
theorem KV.merge : ∀ {more : List (Key × V)} {rs : List (Key × Value)} {kvs : List (Key × V)} {vs : List (Key × Value)}, KV more rs → KV kvs vs → KV (mergeK kvs more) (merged vs rs) := by
  intro more rs kvs vs r
  unfold KV at r
  induction r generalizing kvs vs with
  | nil => intro q; exact q
  | @cons p q ps qs h t ih =>
    intro r0
    have e : KV (putK kvs p.1 p.2) (stored vs q.1 q.2) := by
      have := r0.put p.1 h.2
      rw [← h.1]; exact this
    exact ih e
theorem length_mergeK : ∀ (more kvs : List (Key × V)), (mergeK kvs more).length ≤ kvs.length + more.length
  | [], kvs => by show kvs.length ≤ kvs.length + 0; omega
  | p :: r, kvs => by
    have h1 := length_mergeK r (putK kvs p.1 p.2)
    have h2 := length_putK kvs p.1 p.2
    show (mergeK (putK kvs p.1 p.2) r).length ≤ _
    rw [List.length_cons]; omega
/-- {k: v, ..} with keys ints and texts; the new dict stands empty while the pairs are made -/
def tDisp (trs : List (TE × TE)) : TE := fun σ H Q => ∀ p, H p = none → tPairs trs σ (upd H p (.dK [])) fun ps H2 => H2 p = some (.dK []) ∧ ∃ kvs : List (Key × V), ps = kvs.map (fun kv => (kV kv.1, kv.2)) ∧ kvs.length ≤ 15 ∧ Q (.ref p) (upd H2 p (.dK (mergeK [] kvs)))
/-! ### methods -/
/-- a method call o.m(e) of a built-in, with one argument: what must be seen of the text -/
structure M1 (X : Cx) (o : Expr) (m : Str) (apos : Pos) (e : Expr) (cpos : Pos) : Prop where
  base : attributeBase o m X.env (eval o X.env) = eval o X.env
  few : ((backTo cpos (starEach [e] X.env)).all (fun x => !x.1) && (backToKw cpos (keywordEach [] X.env)).all (fun x => x.1.isSome)
    && decide (([e] : List Expr).length + ([] : List Keyword).length + (if ([] : List Keyword).isEmpty then 0 else 1) < 30)) = true
  line : (apos.endLine == cpos.line) = true
  trees : backTo cpos (starEach [e] X.env) = [(false, eval e X.env)]
structure M2 (X : Cx) (o : Expr) (m : Str) (apos : Pos) (e f : Expr) (cpos : Pos) : Prop where
  base : attributeBase o m X.env (eval o X.env) = eval o X.env
  few : ((backTo cpos (starEach [e, f] X.env)).all (fun x => !x.1) && (backToKw cpos (keywordEach [] X.env)).all (fun x => x.1.isSome)
    && decide (([e, f] : List Expr).length + ([] : List Keyword).length + (if ([] : List Keyword).isEmpty then 0 else 1) < 30)) = true
  line : (apos.endLine == cpos.line) = true
  trees : backTo cpos (starEach [e, f] X.env) = [(false, eval e X.env), (false, eval f X.env)]

/-- a is a dict, whatever its keys -/
def IsD (H : Hp) (a : Addr) : Prop := (∃ kvs, Rd H a (.dK kvs)) ∨ ∃ kvs, Rd H a (.dT kvs)
section
variable {X : Cx} {pins : List (Addr × Obj)} {σ : St} {H : Hp} {s : Shared} {a : Addr} {y d : V} {u r : Value} {o : Option V} {A : Around} {E : Value → Shared → Prop}
end

def tDGet1 (td ty : TE) : TE := fun σ H Q => td σ H fun x H1 => ∃ a, x = .ref a ∧ IsD H1 a ∧ ty σ H1 fun y H2 => ∃ o, DGet H2 a y o ∧ Q (o.getD .non) H2
def tDGet2 (td ty tx : TE) : TE := fun σ H Q => td σ H fun x H1 => ∃ a, x = .ref a ∧ IsD H1 a ∧ ty σ H1 fun y H2 => tx σ H2 fun z H3 => ∃ o, DGet H3 a y o ∧ Q (o.getD z) H3
/-- d.pop(k): there; d.pop(k, x): there or not -/
def tDPop1 (td ty : TE) : TE := fun σ H Q => td σ H fun x H1 => ∃ a, x = .ref a ∧ IsD H1 a ∧ ty σ H1 fun y H2 => ∃ kvs k v, H2 a = some (.dK kvs) ∧ y = kV k ∧ valV kvs k = some v ∧ Q v (upd H2 a (.dK (dropK kvs k)))
def tDPop2 (td ty tx : TE) : TE := fun σ H Q => td σ H fun x H1 => ∃ a, x = .ref a ∧ IsD H1 a ∧ ty σ H1 fun y H2 => tx σ H2 fun z H3 => ∃ kvs k, H3 a = some (.dK kvs) ∧ y = kV k ∧
  (∀ v, valV kvs k = some v → Q v (upd H3 a (.dK (dropK kvs k)))) ∧ (valV kvs k = none → Q z H3)
section
variable {X : Cx} {o e f : Expr} {apos cpos : Pos} {td ty tx : TE}
end

/-! ### dict(d): a copy -/
section
variable {X : Cx} {pins : List (Addr × Obj)} {σ : St} {H : Hp} {s : Shared} {a : Addr} {kvs : List (Key × V)} {A : Around} {E : Value → Shared → Prop}
theorem d_copyOf {Q : Value → Shared → Prop} (I : Inv X pins σ H s) (e : Rd H a (.dK kvs)) (h : ∀ p s', H p = none → Inv X pins σ (upd H p (.dK kvs)) s' → Q (.ref p) s') : wpAny (model X.prog X.w) A (call (.type "dict") [.ref a]) Q E s := by
  obtain ⟨z, hd, vs, rel, dd⟩ := dk_rd I.hok e
  refine kt_call_dict hd dd (by rw [← rel.length]; exact z) fun h' dd' hs => ?_
  refine h _ _ (I.hok.fresh (Nat.le_refl _)) (I.laid (a := s.heap.objs.size) (o := .dK kvs) (t' := s.toks) (fun b q hq => ?_) (Nat.le_refl _) (dk_new z (beq_eq_false_iff_ne.mpr (Ne.symm (Nat.ne_of_lt I.big))) rel dd'))
  exact (hs.2 b (Nat.ne_of_lt (Heap.lt_size hq))).trans (Heap.get?_push_of_some _ hq)
end


section
variable {X : Cx} {pins : List (Addr × Obj)} {σ : St} {H : Hp} {s : Shared} {a : Addr} {y : V} {u : Value} {A : Around} {E : Value → Shared → Prop}
end
end L2

namespace Att
open PySem PySem.W PySem.Calls PyProof.Rows

/-! ### rules over ANY heap (no ledger) from facts about the written part K: the library's own take a ledger (News) for what they write -/
section
variable {prog : Program} {w : World} {A : Around} {E : Value → Shared → Prop} {s : Shared} {K : Frag}

end
end Att

namespace L2
open PySem PySem.Spec PyProof.Rows

end L2

namespace L2
open PySem PySem.Spec PyProof.Rows

end L2

/-! SHORT WORDS over the layer: a def of the text, its body, what a loop and a test want. -/
namespace L2
open PySem PySem.Spec PyProof.Rows

section
variable {P : Program} {w : World} {K : PySem.W.Frag} {mg : Str → Option Value} {base : Heap}
end
/-! ### expressions in short: the name that stands in the i-th slot -/
section
variable {X : Cx}
end

/-! ### a dict's pairs: keys that differ -/
section
variable {κ : Type} [DecidableEq κ]
theorem valV_in {kvs : List (κ × V)} {k : κ} {v : V} (h : valV kvs k = some v) : k ∈ kvs.map (·.1) := by
  have q : (kvs.any fun kv => decide (kv.1 = k)) = true := by
    rw [valV_any, h]
    all_goals rfl
  obtain ⟨p, hp, e⟩ := List.any_eq_true.mp q
  exact List.mem_map.mpr ⟨p, hp, of_decide_eq_true e⟩
end
end L2


set_option linter.all false
set_option maxHeartbeats 4000000
set_option maxRecDepth 100000
namespace L2
open PySem PySem.W PySem.Spec PySem.Calls PyProof.Rows
/-- a value that is alike to itself, wherever it lies -/
def plainV : V → Bool
  | .byt _ => false
  | .flt _ => false
  | _ => true
theorem eqAt_self {A : Around} {s : Shared} {x : V} {u v : Value} (h : plainV x = true) (ru : RelV x u) (rv : RelV x v) : SeqAt.EqAt A s u v true := by
  cases x with
  | non => cases ru; cases rv; exact SeqAt.EqAt.same _
  | bl b => cases ru; cases rv; exact SeqAt.EqAt.same _
  | int i =>
    obtain ⟨t, rfl⟩ := ru; obtain ⟨t', rfl⟩ := rv
    have := SeqAt.EqAt.int_int (A := A) (s := s) i t i t'
    rwa [beq_self_eq_true] at this
  | str x =>
    obtain ⟨t, rfl⟩ := ru; obtain ⟨t', rfl⟩ := rv
    have := SeqAt.EqAt.str_str (A := A) (s := s) x t x t'
    rwa [beq_self_eq_true] at this
  | ref a => cases ru; cases rv; exact SeqAt.EqAt.same _
  | ty n => cases ru; cases rv; exact SeqAt.EqAt.same _
  | byt b => cases h
  | flt b => cases h
theorem valV_of {κ : Type} [DecidableEq κ] : ∀ {kvs : List (κ × V)}, (kvs.map (·.1)).Nodup → ∀ kv ∈ kvs, valV kvs kv.1 = some kv.2
  | [], _, kv, h => nomatch h
  | p :: r, nd, kv, h => by
    rcases List.mem_cons.mp h with rfl | h
    · exact valV_pos rfl
    · have nd' := List.nodup_cons.mp nd
      have ne : ¬ p.1 = kv.1 := fun e => nd'.1 (by rw [show (fun x : κ × V => x.1) p = kv.1 from e]; exact List.mem_map.mpr ⟨kv, h, rfl⟩)
      rw [valV_neg ne]
      exact valV_of nd'.2 kv h
section
variable {X : Cx}
/-- two dicts of the same pairs -/
def rSame (neg : Bool) : R2 := fun x y H Q => ∃ (p b : Addr) (kvs : List (Key × V)), x = .ref p ∧ y = .ref b ∧ H p = some (.dK kvs) ∧ H b = some (.dK kvs) ∧ (kvs.map (·.1)).Nodup ∧
  (∀ kv ∈ kvs, plainV kv.2 = true) ∧ Q (.bl (!neg)) H
/-- dict(d): a copy -/
theorem call_dict : CallR X (.type "dict") (fun xs H Q => ∃ a kvs, xs = [V.ref a] ∧ H a = some (.dK kvs) ∧ ∀ p, H p = none → Q (.ref p) (upd H p (.dK kvs))) := by
  intro pins s σ H xs us Q I r h
  obtain ⟨a, kvs, rfl, ha, q⟩ := h
  obtain ⟨u, rfl, ru⟩ := vals1 r
  cases ru
  exact d_copyOf I (.inl ha) fun p s' hp I' => ⟨.ref p, _, I', rfl, q p hp⟩
end
end L2

set_option linter.all false
set_option maxHeartbeats 4000000
set_option maxRecDepth 100000
namespace L2
open PySem PySem.Spec PyProof.Rows
/-- the signs of a text, each a text -/
def signs (z : Str) : List V := z.cps.toList.map fun c => V.str ⟨#[c]⟩
/-- a text walked, with its places -/
def Its (z : Str) : It :=
  ⟨fun i _ => i < z.cps.size,
   fun i H v H' => ∃ T c, v = .ref T ∧ H T = none ∧ H' = upd H T (.tup [.int i, .str ⟨#[c]⟩]) ∧ z.cps[i]? = some c,
   fun i _ => z.cps.size ≤ i⟩
section
variable {X : Cx}
def iEnumS (ta : TA) : TI := fun σ H R => ta σ H fun vs H1 => ∃ z : Str, vs = [.str z] ∧ R (Its z) H1
theorem strs_of : ∀ {ts : List Str} {its : List Value}, Vals (ts.map V.str) its → ∃ l : List (Str × Tok), strValues l = its ∧ l.map (·.1) = ts
  | [], _, .nil => ⟨[], rfl, rfl⟩
  | x :: ts, _, .cons ⟨t, e⟩ r => by
    obtain ⟨l, h1, h2⟩ := strs_of r
    exact ⟨(x, t) :: l, by rw [← h1, e]; rfl, by rw [← h2]; rfl⟩
theorem joinOk_of {sep : Str} {ts : List Str} (h : (ts.map (·.length)).sum + ts.length * sep.length ≤ 1000) : JoinOk sep ts = true := by
  unfold JoinOk Builtin.Str.tooLong
  rw [StrLaws.joinTotal]
  simp only [Bool.not_eq_true', decide_eq_false_iff_not, gt_iff_lt, Nat.not_lt]
  exact Nat.le_of_lt (small1000 h)
/-- sep.join(texts) -/
def rJoin (K : PySem.W.Frag) : V → List V → Hp → VK → Prop := fun x vs H Q => ∃ (sep : Str) (p : Addr) (ts : List Str), x = .str sep ∧ vs = [.ref p] ∧ SqL K H p (ts.map V.str) ∧ (ts.map (·.length)).sum + ts.length * sep.length ≤ 1000 ∧ Q (.str (Str.join sep ts)) H
theorem mt_join : MtM X "str.join" (rJoin X.K) := by
  intro pins s σ H x vs v us Q I rx rv h
  obtain ⟨sep, p, ts, rfl, rfl, hp, hz, q⟩ := h
  obtain ⟨t, rfl⟩ := rx
  obtain ⟨u, rfl, ru⟩ := rv.one
  cases ru
  obtain ⟨its, r, pl, _⟩ := I.list hp
  obtain ⟨l, e1, e2⟩ := strs_of r
  rw [← e1] at pl
  refine SC.join pl.isList e2 (joinOk_of hz) fun t' k => ⟨.str (Str.join sep ts), H, I.tok _, ⟨t', ?_⟩, q⟩
  show Value.str (Builtin.Str.glued sep ts) t' = _
  rw [StrLaws.glued_eq_join]
/-- a piece of a text -/
def rSlS : V → Option Int → Option Int → Hp → VK → Prop := fun x lo hi H Q => ∃ (z : Str) (a b : Nat), x = .str z ∧ ((lo = none ∧ a = 0) ∨ lo = some (a : Int)) ∧ ((hi = none ∧ b = z.length) ∨ hi = some (b : Int)) ∧ a ≤ b ∧ b ≤ z.length ∧ z.length ≤ 1000 ∧
  Q (.str ⟨((z.cps.toList.drop a).take (b - a)).toArray⟩) H
theorem slice_plain {z : Str} {lo hi : Option Int} {a b : Nat} (hlo : (lo = none ∧ a = 0) ∨ lo = some (a : Int)) (hhi : (hi = none ∧ b = z.length) ∨ hi = some (b : Int)) (hab : a ≤ b) (hb : b ≤ z.length) :
    Txt.slice z lo hi = ⟨((z.cps.toList.drop a).take (b - a)).toArray⟩ := by
  have e : Builtin.Str.strSliceIndices lo hi 1 z.length = Builtin.Str.strSliceIndices (some (a : Int)) (some (b : Int)) 1 z.length := by
    have e2 : Builtin.Str.strSliceIndices lo hi 1 z.length = Builtin.Str.strSliceIndices (some (a : Int)) hi 1 z.length := by
      rcases hlo with ⟨rfl, rfl⟩ | rfl
      · rw [StrLaws.sliceIdx_none_lo]; rfl
      · rfl
    rw [e2]
    rcases hhi with ⟨rfl, rfl⟩ | rfl
    · rw [StrLaws.sliceIdx_none_hi]
    · rfl
  unfold Txt.slice
  rw [e]
  split
  · rename_i h
    rw [StrLaws.strSliceIndices_plain hab hb] at h
    have hl : b - a = z.length := by simpa using h
    have ea : a = 0 := by omega
    have eb : b = z.cps.toList.length := by rw [Array.length_toList]; show b = z.length; omega
    subst ea
    rw [eb, List.drop_zero, Nat.sub_zero, List.take_length]
  · rw [StrLaws.sliced_plain z hab hb]
theorem sl_str : SlR X rSlS := by
  intro pins s σ H x v vl vu lo hi sl Q I rx hs pl pu h
  obtain ⟨z, a, b, rfl, hlo, hhi, hab, hb, hz, q⟩ := h
  obtain ⟨t, rfl⟩ := rx
  obtain ⟨l, rfl, el⟩ : ∃ l : Option (Int × Tok), vl = partValue l ∧ l.map (·.1) = lo := by
    cases pl with
    | none => exact ⟨none, rfl, rfl⟩
    | int i t => exact ⟨some (i, t), rfl, rfl⟩
  obtain ⟨u, rfl, eu⟩ : ∃ l : Option (Int × Tok), vu = partValue l ∧ l.map (·.1) = hi := by
    cases pu with
    | none => exact ⟨none, rfl, rfl⟩
    | int i t => exact ⟨some (i, t), rfl, rfl⟩
  refine ⟨"str", _, F.slot_str_getitem.lookup, typeIs_str _ _ _, wpAny_getItem_str_slice (l := l) (u := u) (st := none) hs rfl ?_⟩
  unfold sliceMade slicePicked
  rw [el, eu]
  have hS : ∀ y : Str, y = Txt.slice z lo hi → y.length ≤ sizeLine ∧ ∀ t' k, EP X pins σ Q (.str y t') { s with toks := k } := fun y ey => by
    refine ⟨by rw [ey]; exact Nat.le_trans (Txt.slice_le z lo hi) (Nat.le_of_lt (small1000 hz)), fun t' k => ?_⟩
    rw [ey, slice_plain hlo hhi hab hb]
    exact ⟨.str ⟨((z.cps.toList.drop a).take (b - a)).toArray⟩, H, I.tok _, ⟨_, rfl⟩, q⟩
  exact post_val_or_str (hS _ rfl)
/-- two lists of like tuples -/
def rNeTs (K : PySem.W.Frag) : R2 := fun x y H Q => ∃ (p b : Addr) (ts : List (Addr × Addr × List V)), x = .ref p ∧ y = .ref b ∧ SqL K H p (ts.map fun t => V.ref t.1) ∧ SqL K H b (ts.map fun t => V.ref t.2.1) ∧
  (∀ t ∈ ts, SqT K H t.1 t.2.2 ∧ SqT K H t.2.1 t.2.2 ∧ t.2.2.all plainV = true) ∧ Q (.bl false) H
end
end L2

set_option linter.all false
set_option maxHeartbeats 4000000
set_option maxRecDepth 100000
namespace L2
open PySem PySem.W PySem.Spec PySem.Calls PyProof.Rows
/-- alike, whatever lies where -/
inductive Alk (K : PySem.W.Frag) (H : Hp) : V → V → Prop
  | same {x : V} (h : plainV x = true) : Alk K H x x
  | tup {a b : Addr} {xs : List V} (ha : SqT K H a xs) (hb : SqT K H b xs) (h : xs.all plainV = true) : Alk K H (.ref a) (.ref b)
  | lst {a b : Addr} {xs : List V} (ha : SqL K H a xs) (hb : SqL K H b xs) (h : xs.all plainV = true) : Alk K H (.ref a) (.ref b)
section
variable {X : Cx} {pins : List (Addr × Obj)} {σ : St} {H : Hp} {s : Shared}
theorem plain_at {xs : List V} (h : xs.all plainV = true) {k : Nat} (hk : k < xs.length) : plainV (xs.getD k .non) = true := by
  rw [List.getD_eq_getElem?_getD, List.getElem?_eq_getElem hk]
  exact List.all_eq_true.mp h _ (List.getElem_mem hk)
theorem alk_at (I : Inv X pins σ H s) {x y : V} (d : Alk X.K H x y) {A : Around} {u v : Value} (rx : RelV x u) (ry : RelV y v) (hu : A.units + 2 < cLine) : SeqAt.EqAt A s u v true := by
  cases d with
  | same h => exact eqAt_self h rx ry
  | @tup a b xs ha hb h =>
    cases rx
    cases ry
    by_cases ne : a = b
    · rw [ne]; exact SeqAt.EqAt.same _
    obtain ⟨as, ra, pa, _⟩ := I.tuple ha
    obtain ⟨bs, rb, pb, _⟩ := I.tuple hb
    have la := ra.length
    have lb := rb.length
    have rc := SeqAt.RcAt.tuples (A := A) (e := fun _ => true) pa pb (by omega) (fun k g1 g2 => eqAt_self (x := xs.getD k .non) (plain_at h (by simp only [List.size_toArray] at g1; omega)) (rel_at ra g1) (rel_at rb g2))
    have ee : (List.all (List.range (min as.toArray.size bs.toArray.size)) (fun _ => true) && as.toArray.size == bs.toArray.size) = true := by
      simp only [List.size_toArray]
      rw [← la, ← lb]
      simp
    rw [ee] at rc
    exact SeqAt.EqAt.of_refs ne rc
  | @lst a b xs ha hb h =>
    cases rx
    cases ry
    by_cases ne : a = b
    · rw [ne]; exact SeqAt.EqAt.same _
    obtain ⟨as, ra, pa, _⟩ := I.list ha
    obtain ⟨bs, rb, pb, _⟩ := I.list hb
    have la := ra.length
    have lb := rb.length
    have rc := SeqAt.RcAt.lists (A := A) (e := fun _ => true) pa.isList pb.isList (by simp only [List.size_toArray]; omega) (by omega) (fun k g1 g2 => eqAt_self (x := xs.getD k .non) (plain_at h (by simp only [List.size_toArray] at g1; omega)) (rel_at ra g1) (rel_at rb g2))
    have ee : (List.all (List.range as.toArray.size) (fun _ => true)) = true := by simp
    rw [ee] at rc
    exact SeqAt.EqAt.of_refs ne rc
/-- two lists of like things -/
def rAlk (K : PySem.W.Frag) (neg : Bool) : R2 := fun x y H Q => ∃ (p b : Addr) (xs ys : List V), x = .ref p ∧ y = .ref b ∧ SqL K H p xs ∧ SqL K H b ys ∧ xs.length = ys.length ∧
  (∀ i, i < xs.length → Alk K H (xs.getD i .non) (ys.getD i .non)) ∧ Q (.bl (!neg)) H
end
end L2
namespace L2
open PySem PyProof.Rows
/-- the two ways of an if that both go on -/
theorem seq_joinI {t u : TS} {D : Ends} {σ : St} {H : Hp} (R : St → Hp → Prop) (h1 : ∀ N : St → Hp → Prop, (∀ σ' H', R σ' H' → N σ' H') → t { D with nx := N } σ H) (h2 : ∀ σ' H', R σ' H' → u D σ' H') : tSeq t u D σ H := h1 (u D) h2
end L2

/-! words, joined by one blank -/
set_option linter.all false
namespace WM
open PySem
def jn : List (List Nat) → List Nat
  | [] => []
  | [x] => x
  | x :: y :: r => x ++ 32 :: jn (y :: r)
abbrev bl : Str := Str.ofString " "
theorem bl_cps : bl = ⟨#[32]⟩ := by decide +kernel
abbrev J (ws : List Str) : Str := Str.join bl ws
def ls (z : Str) : List Nat := z.cps.toList
/-- a word -/
structure Wo (w : Str) : Prop where
  n0 : 1 ≤ w.length
  n1 : w.length ≤ 20
  nb : 32 ∉ ls w
/-- rows of words, as broken by a width -/
structure Brk (wide : Int) (gs : List (List Str)) : Prop where
  ne : ∀ g ∈ gs, g ≠ []
  fit : ∀ g ∈ gs, 2 ≤ g.length → ((J g).length : Int) ≤ wide
  full : ∀ (k : Nat) (g h : List Str) (w : Str), gs[k]? = some g → gs[k + 1]? = some h → h.head? = some w → wide < ((J g).length : Int) + 1 + (w.length : Int)
end WM

set_option linter.all false
set_option maxHeartbeats 4000000
set_option maxRecDepth 100000
namespace L2
open PySem PySem.Spec PySem.Calls PyProof.Rows
open Builtin Builtin.Str
section
variable {X : Cx}
theorem strVals {l : List (Str × Tok)} {ts : List Str} (h : l.map (·.1) = ts) : Vals (ts.map V.str) (strValues l) := by
  subst h
  induction l with
  | nil => exact .nil
  | cons p l ih => exact .cons ⟨_, rfl⟩ ih
/-- text.split(sep) -/
def rSplit : V → List V → Hp → VK → Prop := fun x vs H Q => ∃ (z sep : Str), x = .str z ∧ vs = [.str sep] ∧ (sep.length == 0) = false ∧ z.length ≤ 500 ∧ (Txt.split z sep).length ≤ 900 ∧ ∀ l, H l = none → Q (.ref l) (upd H l (.lst ((Txt.split z sep).map V.str)))
theorem mt_split : MtM X "str.split" rSplit := by
  intro pins s σ H x vs v us Q I rx rv h
  obtain ⟨x, y, rfl, rfl, hy, hz, hn, q⟩ := h
  obtain ⟨t, rfl⟩ := rx
  obtain ⟨u0, rfl, ru⟩ := rv.one
  obtain ⟨u, rfl⟩ := ru
  have fin : ∀ (l : List (Str × Tok)) (k : Nat), l.map (·.1) = Txt.split x y → EP X pins σ Q (.ref s.heap.objs.size) { s with toks := k, heap := s.heap.push { cls := .type "list", data := .seq (strValues l).toArray } } := fun l k e => by
    refine ⟨.ref s.heap.objs.size, _, I.laid (t' := k) (o := .lst ((Txt.split x y).map V.str)) (fun b ob q => Heap.get?_push_of_some _ q) (Nat.le_refl _) ?_, rfl, q _ (I.hok.fresh (Nat.le_refl _))⟩
    exact ⟨by rw [List.length_map]; exact Nat.le_of_lt (small1000 (by omega)), _, 0, strVals e, Heap.get?_push_size _ rfl⟩
  have hsz : x.length ≤ sizeLine := Nat.le_of_lt (small1000 (by omega))
  cases h1 : (decide (x.length < y.length) || decide (strKind x < strKind y))
  · cases hf : (occurrences x y 0 x.length (x.length + 1)).isEmpty
    · have hs2 : (partsBetween x (occurrences x y 0 x.length (x.length + 1)) y.length).length ≤ sizeLine := by
        have e : Txt.split x y = partsBetween x (occurrences x y 0 x.length (x.length + 1)) y.length := (if_neg (ne_true_of_eq_false h1)).trans (if_neg (ne_true_of_eq_false hf))
        rw [← e]; exact Nat.le_of_lt (small1000 (by omega))
      refine call_meets F.slot_str_split (typeIs_str _ _ _) F.entry_str_split (F.args_str_split_2 _ _) (meets_str_split_sep x y t u h1 hy hf hsz hs2) ?_
      show wants _ _ _ { s with toks := _, heap := s.heap.push { cls := .type "list", data := .seq (strsFrom s.toks (partsBetween x (occurrences x y 0 x.length (x.length + 1)) y.length)).toArray } }
      rw [strsFrom_eq]
      exact fin (numbered s.toks _) _ ((numbered_texts _ _).trans ((if_neg (ne_true_of_eq_false h1)).trans (if_neg (ne_true_of_eq_false hf))).symm)
    · exact call_meets F.slot_str_split (typeIs_str _ _ _) F.entry_str_split (F.args_str_split_2 _ _) (meets_str_split_not_found x y t u h1 hy hf)
        (fin [(x, t)] _ ((if_neg (ne_true_of_eq_false h1)).trans (if_pos hf)).symm)
  · exact call_meets F.slot_str_split (typeIs_str _ _ _) F.entry_str_split (F.args_str_split_2 _ _) (meets_str_split_cannot_occur x y t u h1)
      (fin [(x, t)] _ (if_pos h1).symm)
end
end L2

set_option linter.all false
set_option maxHeartbeats 4000000
set_option maxRecDepth 100000
namespace L2
open PySem PySem.Spec PyProof.Rows
/-- a text, n times -/
def repS (z : Str) (n : Nat) : Str := ⟨(List.replicate n z.cps.toList).flatten.toArray⟩
section
variable {X : Cx}
end
end L2
namespace L2
open PySem PyProof.Rows
end L2

set_option linter.all false
set_option maxHeartbeats 4000000
set_option maxRecDepth 100000
namespace PySem
open Sem (wp)
namespace F
theorem owner_rev : Manifest.owners.lookup (String.ofList ['d', 'e', 's', 'r', 'e', 'v', 'e', 'r'].reverse) = some Manifest.sig_reversed := by kernel_rfl
theorem slot_rev_next : Slot "reversed" "__next__" "reversed.__next__" :=
  .of (owner := "reversed") (n := "__next__") (by rw [typeLookup_type, builtinLookup_eq_fast]; kernel_rfl) (by decide +kernel) (by decide +kernel) (by decide +kernel)
    (by first | exact .inl (by decide +kernel) | exact .inr (by decide +kernel)) (by rw [isSubtype_type]; kernel_rfl)
theorem entry_rev_next : entryFor table "reversed.__next__" = some Builtin.«reversed.__next__» := entryFor_of_tree (by kernel_rfl)
theorem args_rev_next_1 (a : Value) : argsOk "reversed.__next__" ⟨[a], []⟩ := by
  unfold argsOk; rw [signature?_of (id := "reversed.__next__") (n := ['_', '_', 't', 'x', 'e', 'n', '_', '_']) (o := ['d', 'e', 's', 'r', 'e', 'v', 'e', 'r']) (by kernel_rfl) owner_rev]; kernel_rfl
theorem slot_rev_iter : Slot "reversed" "__iter__" "reversed.__iter__" :=
  .of (owner := "reversed") (n := "__iter__") (by rw [typeLookup_type, builtinLookup_eq_fast]; kernel_rfl) (by decide +kernel) (by decide +kernel) (by decide +kernel)
    (by first | exact .inl (by decide +kernel) | exact .inr (by decide +kernel)) (by rw [isSubtype_type]; kernel_rfl)
theorem args_rev_iter_1 (a : Value) : argsOk "reversed.__iter__" ⟨[a], []⟩ := by
  unfold argsOk; rw [signature?_of (id := "reversed.__iter__") (n := ['_', '_', 'r', 'e', 't', 'i', '_', '_']) (o := ['d', 'e', 's', 'r', 'e', 'v', 'e', 'r']) (by kernel_rfl) owner_rev]; kernel_rfl
theorem entry_rev_iter : entryFor table "reversed.__iter__" = some Builtin.«dict_keyiterator.__iter__» :=
  entryFor_alias (id' := "dict_keyiterator.__iter__") (by kernel_rfl) (by first | rfl | decide +kernel | (unfold String.splitOn; simp +decide [String.splitOnAux])) (by decide +kernel) (by kernel_rfl)
theorem slot_rev_hint : Slot "reversed" "__length_hint__" "reversed.__length_hint__" :=
  .of (owner := "reversed") (n := "__length_hint__") (by rw [typeLookup_type, builtinLookup_eq_fast]; kernel_rfl) (by decide +kernel) (by decide +kernel) (by decide +kernel)
    (by first | exact .inl (by decide +kernel) | exact .inr (by decide +kernel)) (by rw [isSubtype_type]; kernel_rfl)
theorem entry_rev_hint : entryFor table "reversed.__length_hint__" = some Builtin.«reversed.__length_hint__» := entryFor_of_tree (by kernel_rfl)
theorem args_rev_hint_1 (a : Value) : argsOk "reversed.__length_hint__" ⟨[a], []⟩ := by
  unfold argsOk; rw [signature?_of (id := "reversed.__length_hint__") (n := ['_', '_', 't', 'n', 'i', 'h', '_', 'h', 't', 'g', 'n', 'e', 'l', '_', '_']) (o := ['d', 'e', 's', 'r', 'e', 'v', 'e', 'r']) (by kernel_rfl) owner_rev]; kernel_rfl
theorem slot_rev_init : Slot "reversed" "__init__" "object.__init__" :=
  .of (owner := "object") (n := "__init__") (by rw [typeLookup_type, builtinLookup_eq_fast]; kernel_rfl) (by decide +kernel) (by decide +kernel) (by decide +kernel)
    (by first | exact .inl (by decide +kernel) | exact .inr (by decide +kernel)) (by rw [isSubtype_type]; kernel_rfl)
theorem rv_mro : mroOf (.type "reversed") = pure [.type "reversed", .type "object"] := by rw [mroOf_type]; kernel_rfl
theorem rv_new : typeLookup (.type "reversed") "__new__" = pure (some (.builtin "reversed.__new__")) := by rw [typeLookup_type, builtinLookup_eq_fast]; kernel_rfl
theorem rv_made : Bind.madeBy (.type "reversed") = pure (some "reversed.__new__") := madeBy_type rv_mro rv_new (by decide +kernel)
theorem rv_typeCall (a : Value) : checkTypeCall "reversed" ⟨[a], []⟩ = pure () := by kernel_rfl
theorem rv_newCall (a : Value) : checkBuiltinCall "reversed.__new__" ⟨[.type "reversed", a], []⟩ = pure () := by kernel_rfl
theorem rv_entry_new : entryFor table "reversed.__new__" = some Builtin.«reversed.__new__» := entryFor_of_tree (by kernel_rfl)
theorem rv_sub : isSubtype (.type "reversed") (.type "reversed") = pure true := by rw [isSubtype_type]; kernel_rfl
theorem called_rev : TypeCalled "reversed" "reversed.__new__" "object.__init__" :=
  ⟨by decide +kernel, by decide +kernel, ⟨_, _, rv_mro⟩, rv_made, by decide +kernel, by rw [isSubtype_type]; kernel_rfl, slot_rev_init⟩
theorem nolen_rev : typeLookup (.type "reversed") "__len__" = pure none := by rw [typeLookup_type, builtinLookup_eq_fast]; kernel_rfl
theorem norev_tuple : typeLookup (.type "tuple") "__reversed__" = pure none := by rw [typeLookup_type, builtinLookup_eq_fast]; kernel_rfl
end F
end PySem

set_option linter.all false
set_option maxHeartbeats 4000000
set_option maxRecDepth 100000
namespace PySem
open Sem (wp)
def revO (t : Addr) (i : Int) : Obj := { cls := .type "reversed", data := .fields #[.ref t, rawInt i] }
def Heap.IsRev (h : Heap) (a t : Addr) (i : Int) : Prop := ∃ o, h.get? a = some o ∧ o.cls = .type "reversed" ∧ o.data = .fields #[.ref t, rawInt i]
section
variable {prog : Program} {w : World} {A : Around} {E : Value → Shared → Prop} {s : Shared}
theorem Heap.IsRev.typeIs {a t : Addr} {i : Int} (x : s.heap.IsRev a t i) : s.TypeIs (.ref a) "reversed" := let ⟨o, ho, hc, _⟩ := x; ⟨o, ho, hc⟩
theorem Heap.IsRev.at {h h' : Heap} {a t : Addr} {i : Int} (x : h.IsRev a t i) (e : ∀ o, h.get? a = some o → h'.get? a = some o) : h'.IsRev a t i := let ⟨o, ho, r⟩ := x; ⟨o, e _ ho, r⟩
theorem rv_newClass (a : Value) : Builtin.SmallTypes.newClass "reversed" ⟨[.type "reversed", a], []⟩ = pure (.type "reversed", [a]) := by
  unfold Builtin.SmallTypes.newClass
  simp only [isType, F.rv_sub, pure_bind, Bool.not_true, Bool.false_eq_true, if_false]
theorem rv_meets (t : Addr) (items : Array Value) (hfit : (items.size : Int) < 2 ^ 63) :
    Meets (Builtin.«reversed.__new__» ⟨[.type "reversed", .ref t], []⟩) (fun _ R s => PyProof.Rows.IsTup s.heap t items ∧ ∀ tk, R (.ok (.ret (.ref s.heap.objs.size))) { s with heap := s.heap.push (revO t ((items.size : Int) - 1)), toks := tk }) := fun prog w A R s h => by
  obtain ⟨ht, h⟩ := h
  unfold Builtin.«reversed.__new__»
  refine wpAny_bind (wpAny_of_eq (rv_newClass _) ?_)
  try dsimp only
  refine wpAny_bind (wpAny_of_eq (a := ()) (by first | rfl | kernel_rfl) ?_)
  refine wpAny_bind (wpAny_of_eq (a := ()) (by first | rfl | kernel_rfl) ?_)
  try dsimp only
  refine wpAny_bind (wpAny_specialOf ht.typeIs F.norev_tuple ?_)
  try dsimp only
  refine wpAny_bind ?_
  show wpAny _ _ (isInstance (Value.ref t) (.type "dict") >>= _) _ _ _
  refine wpAny_bind (wpAny_isInstance (b := false) ht.typeIs F.sub_tuple_dict ?_)
  rw [if_neg (by decide)]
  refine wpAny_bind (wpAny_specialOf ht.typeIs PyProof.Rows.slot_tuple_getitem.lookup ?_)
  dsimp only
  rw [if_pos (by decide)]
  refine wpAny_pure ?_
  rw [if_neg (by decide)]
  refine wpAny_bind (PyProof.Rows.len_tuple ht hfit ?_)
  refine wpAny_bind (m := asInt? _) (wpAny_pure ?_)
  dsimp only
  unfold Builtin.SmallTypes.newRecord
  refine wpAny_bind (wpAny_newObj_type (data := .fields #[.ref t, rawInt ((items.size : Int) - 1)]) ?_)
  exact wpAny_pure (h _)
theorem call_rev_tuple {t : Addr} {items : Array Value} {Q : Value → Shared → Prop} (ht : PyProof.Rows.IsTup s.heap t items) (hfit : (items.size : Int) < 2 ^ 63)
    (h : ∀ tk, Q (.ref s.heap.objs.size) { s with heap := s.heap.push (revO t ((items.size : Int) - 1)), toks := tk }) : wpAny (model prog w) A (call (.type "reversed") [.ref t]) Q E s :=
  callType_new F.called_rev (by decide) (F.rv_typeCall _) (F.rv_newCall _) (fun obj => F.args_object_init_2 obj _) F.rv_entry_new (rv_meets t items hfit) ⟨ht, fun tk => ⟨⟨_, Heap.get?_push_size _ rfl, rfl⟩, h tk⟩⟩
theorem rv_next {it t : Addr} {i : Nat} {items : Array Value} {x : Value} {Q : Option Value → Shared → Prop} (hit : s.heap.IsRev it t (i : Int)) (ht : PyProof.Rows.IsTup s.heap t items) (hi : (i : Int) < 2 ^ 63) (hx : items[i]? = some x)
    (hQ : ∀ h' tk, h'.IsRev it t ((i : Int) - 1) → Heap.SameBut it s.heap h' → Q (some x) { s with heap := h', toks := tk }) : wpAny (model prog w) A (pyNext (.ref it)) Q E s := by
  obtain ⟨o, ho, hc, hd⟩ := id hit
  unfold pyNext
  refine wpAny_bind (wpAny_attempt (wpAny_callSpecial?_slot (name := Str.ofString "__next__") hit.typeIs F.slot_rev_next (wpAny_call_entry F.slot_rev_next hit.typeIs F.entry_rev_next ?_ (F.args_rev_next_1 _))))
  unfold Builtin.«reversed.__next__»
  refine wpAny_bind (wpAny_of_eq (a := (Value.ref it, [])) rfl ?_)
  try dsimp only
  refine wpAny_bind (wpAny_field ho hd (x := .ref t) rfl ?_)
  refine wpAny_bind (wpAny_field ho hd (x := rawInt (i : Int)) rfl ?_)
  show wpAny _ _ (if (i : Int) < 0 then _ else _) _ _ s
  rw [if_neg (by omega)]
  refine wpAny_bind (wpAny_specialOf ht.typeIs PyProof.Rows.slot_tuple_getitem.lookup ?_)
  rw [if_neg (by simp)]
  refine wpAny_bind (wpAny_mkInt ?_)
  have hsz : i < items.size := (Array.getElem?_eq_some_iff.mp hx).1
  refine wpAny_bind (wpAny_attempt (PyProof.Rows.getItem_tuple (s := { s with toks := s.toks + 1 }) (j := i) ht (by omega) hi ?_ hx ?_))
  · unfold seqIndex?
    have e : (if (i : Int) < 0 then (i : Int) + (items.size : Int) else (i : Int)) = (i : Int) := if_neg (by omega)
    simp [hsz, e]
  · dsimp only
    refine wpAny_bind (wpAny_field ho hd (x := rawInt (i : Int)) rfl ?_)
    dsimp only [rawInt]
    refine wpAny_bind (wpAny_setField ho hd (by simp) ?_)
    refine wpAny_pure ⟨x, rfl, wpAny_pure (hQ _ _ ?_ (Heap.SameBut.update ..))⟩
    exact ⟨_, Heap.get?_update_self _ ho (Obj.isFreed_of_fields (Obj.data_mapFields hd _)), (Obj.cls_mapFields ..).trans hc, by
      rw [Obj.data_mapFields hd]; simp [rawInt]⟩
theorem rv_end {it t : Addr} {Q : Option Value → Shared → Prop} (hh : A.handled = none) (hit : s.heap.IsRev it t (-1))
    (hQ : ∀ h', Heap.ExtBut it s.heap h' → Q none { s with heap := h' }) : wpAny (model prog w) A (pyNext (.ref it)) Q E s := by
  obtain ⟨o, ho, hc, hd⟩ := id hit
  unfold pyNext
  refine wpAny_bind (wpAny_attempt (wpAny_callSpecial?_slot (name := Str.ofString "__next__") hit.typeIs F.slot_rev_next (wpAny_call_entry F.slot_rev_next hit.typeIs F.entry_rev_next ?_ (F.args_rev_next_1 _))))
  unfold Builtin.«reversed.__next__»
  refine wpAny_bind (wpAny_of_eq (a := (Value.ref it, [])) rfl ?_)
  try dsimp only
  refine wpAny_bind (wpAny_field ho hd (x := .ref t) rfl ?_)
  refine wpAny_bind (wpAny_field ho hd (x := rawInt (-1)) rfl ?_)
  show wpAny _ _ (if (-1 : Int) < 0 then _ else _) _ _ s
  rw [if_pos (by decide)]
  refine wpAny_bind (wpAny_rule ?_)
  refine wpAny_bind ?_
  show wpAny _ _ (setField (Value.ref it) 1 (rawInt (-1)) >>= fun _ => setField (Value.ref it) 0 .none) _ _ _
  refine wpAny_bind (wpAny_setField ho hd (by simp) ?_)
  refine wpAny_setField (Heap.get?_update_self _ ho (Obj.isFreed_of_fields (Obj.data_mapFields hd _))) (Obj.data_mapFields hd _) (by simp) ?_
  show wpAny _ _ (Builtin.SmallTypes.stopIteration >>= _) _ _ _
  refine wpAny_bind ?_
  show wpAny _ _ (newExc (.type "StopIteration") [] >>= _) _ _ _
  refine wpAny_bind ?_
  simp only [newExc, newTuple]
  refine wpAny_bind (wpAny_newObj_type ?_ (by size_fits))
  refine wpAny_bind (m := firstArgMember _ _) (wpAny_of_eq (a := Value.none) (by first | rfl | (simp only [firstArgMember]; rfl)) ?_)
  refine wpAny_newObj_type ?_ (by size_fits)
  simp only [raiseNew]
  refine wpAny_bind (wpAny_handled ?_)
  first | rw [show A.in1.handled = none from hh] | rw [hh]
  refine wpAny_bind (wpAny_pure (wpAny_throw ?_))
  refine wpAny_bind (wpAny_isInstance (T := "StopIteration") (b := true) ⟨_, Heap.get?_push_size _ rfl, rfl⟩ isSubtype_stop ?_)
  rw [if_pos rfl]
  have e1 : Heap.ExtBut it s.heap (s.heap.update it (Obj.mapFields fun x => x.setIfInBounds 1 (rawInt (-1)))) := (Heap.SameBut.update ..).extBut
  have e2 : Heap.ExtBut it (s.heap.update it (Obj.mapFields fun x => x.setIfInBounds 1 (rawInt (-1)))) ((s.heap.update it (Obj.mapFields fun x => x.setIfInBounds 1 (rawInt (-1)))).update it (Obj.mapFields fun x => x.setIfInBounds 0 Value.none)) := (Heap.SameBut.update ..).extBut
  exact wpAny_pure (hQ _ (((e1.trans e2).push _).push _))
theorem rv_iter {it t : Addr} {i : Int} {Q : Value → Shared → Prop} (hit : s.heap.IsRev it t i) (h : Q (.ref it) s) : wpAny (model prog w) A (pyIter (.ref it)) Q E s := by
  refine wpAny_pyIter_slot hit.typeIs F.slot_rev_iter (wpAny_call_entry F.slot_rev_iter hit.typeIs F.entry_rev_iter ?_ (F.args_rev_iter_1 _))
  show wpAny _ _ (ret (.ref it)) _ _ s
  exact wpAny_pure ⟨_, rfl, "reversed", _, hit.typeIs, F.slot_rev_next.lookup, h⟩
theorem Walks.tupRev {prog : Program} {w : World} {A : Around} (hh : A.handled = none) (I t : Addr) (hne : t ≠ I) (items : Array Value) (hfit : (items.size : Int) < 2 ^ 63) :
    Walks prog w A I [I, t] [I] items.size (fun i v => items[items.size - 1 - i]? = some v) (fun i h => i ≤ items.size ∧ h.IsRev I t ((items.size : Int) - 1 - (i : Int)) ∧ PyProof.Rows.IsTup h t items) where
  sub := fun b hb => by simp at hb; simp [hb]
  frame := fun _ _ _ x hk => ⟨x.1, x.2.1.at fun o e => hk I (by simp) o e, let ⟨o, ho, r⟩ := x.2.2; ⟨o, hk t (by simp) o ho, r⟩⟩
  item := fun i s Q E hi x hQ => by
    have e : (items.size : Int) - 1 - (i : Int) = ((items.size - 1 - i : Nat) : Int) := by omega
    have hit := x.2.1
    rw [e] at hit
    have hx : items[items.size - 1 - i]? = some (items[items.size - 1 - i]'(by omega)) := Array.getElem?_eq_getElem (by omega)
    refine rv_next hit x.2.2 (by omega) hx fun h' tk hit' hs' => ?_
    have e2 : ((items.size - 1 - i : Nat) : Int) - 1 = (items.size : Int) - 1 - ((i + 1 : Nat) : Int) := by omega
    rw [e2] at hit'
    exact hQ _ h' tk hx ⟨hi, hit', let ⟨o, ho, r⟩ := x.2.2; ⟨o, (hs'.2 t hne).trans ho, r⟩⟩ fun b o hb eo => hs'.extBut b o (fun h => hb (by simp [h])) eo
  done := fun s Q E x hQ => by
    have e : (items.size : Int) - 1 - (items.size : Int) = -1 := by omega
    have hit := x.2.1
    rw [e] at hit
    exact rv_end hh hit fun h' he' => hQ h' s.toks fun b o hb eo => he' b o (fun h => hb (by simp [h])) eo
  self := fun _ _ _ _ x hQ => rv_iter x.2.1 hQ
/-- how many are to come -/
theorem rv_hint {I t : Addr} {items : Array Value} {Q : Value → Shared → Prop} (hfit : (items.size : Int) < 2 ^ 63) (hit : s.heap.IsRev I t ((items.size : Int) - 1)) (ht : PyProof.Rows.IsTup s.heap t items)
    (h : ∀ u tk, s.toks ≤ tk → Q (.int (items.size : Int) u) { s with toks := tk }) : wpAny (model prog w) A (call (.builtin "reversed.__length_hint__") [.ref I]) Q E s := by
  obtain ⟨o, ho, hc, hd⟩ := id hit
  refine wpAny_call_entry F.slot_rev_hint hit.typeIs F.entry_rev_hint ?_ (F.args_rev_hint_1 _)
  unfold Builtin.«reversed.__length_hint__»
  refine wpAny_bind (wpAny_of_eq (a := Value.ref I) rfl ?_)
  refine wpAny_bind (wpAny_field ho hd (x := .ref t) rfl ?_)
  rw [if_neg (show ¬ ((Value.ref t == Value.none) = true) from Bool.false_ne_true)]
  refine wpAny_bind (PyProof.Rows.len_tuple ht hfit ?_)
  refine wpAny_bind (m := asInt? _) (wpAny_pure ?_)
  dsimp only
  refine wpAny_bind (wpAny_field (s := { s with toks := s.toks + 1 + 1 }) ho hd (x := rawInt ((items.size : Int) - 1)) rfl ?_)
  dsimp only [rawInt]
  rw [if_neg (by omega)]
  refine wpAny_bind (wpAny_mkInt (wpAny_pure ⟨_, rfl, ?_⟩))
  rw [show (items.size : Int) - 1 + 1 = (items.size : Int) by omega]
  exact h _ _ (Nat.le_succ_of_le (Nat.le_succ_of_le (Nat.le_succ _)))
end
section
variable {prog : Program} {w : World} {A : Around} {s : Shared} {R : Result → Shared → Prop}
theorem rv_extend (hh : A.handled = none) {I t S : Addr} {items : Array Value} {res : Value} {c₀ : Nat} (hfit : (items.size : Int) < 2 ^ 63) (hn : items.size ≤ sizeLine) (hit : s.heap.IsRev I t ((items.size : Int) - 1)) (ht : PyProof.Rows.IsTup s.heap t items) (h1 : S ≠ I) (h2 : S ≠ t) (h3 : t ≠ I)
    (hS : s.heap.get? S = some { cls := .type "list", data := .seq #[] c₀ })
    (hR : ∀ s' acc' c', Moved [S, I] (fun a b => b = a) s s' → s'.heap.get? S = some { cls := .type "list", dict := none, data := .seq acc' c', slots := #[] } → ItemsOf (fun i v => items[items.size - 1 - i]? = some v) acc' items.size → R (.ok (.ret res)) s') :
    wpAny (model prog w) A.in1 (Builtin.List.listExtendWith (.ref S) (.ref I) res)
      (fun fin s' => match fin with | .done f => R (.ok f) s' | .again c' => c'.quiet = true ∧ codeAny (model prog w) A c' R s') (fun e s' => R (.error e) s') s := by
  have W := (Walks.tupRev (prog := prog) (w := w) (A := A.in1) hh I t h3 items hfit).toS
  have hSf : S ∉ [I, t] := by simp [h1, h2]
  unfold Builtin.List.listExtendWith
  refine wpAny_bind (wpAny_typeOf hit.typeIs ?_)
  have z1 : Builtin.List.listSameRef (.ref S) (.ref I) = false := by simp [Builtin.List.listSameRef, h1]
  have z2 : (Value.type "reversed" == Value.type "list") = false := by decide
  have z3 : (Value.type "reversed" == Value.type "tuple") = false := by decide
  simp only [z1, z2, z3, Bool.or_false, Bool.false_eq_true, if_false]
  refine wpAny_bind (rv_iter hit ?_)
  refine wpAny_bind (wpAny_holding ?_)
  unfold Builtin.List.listLengthHint
  refine wpAny_bind (wpAny_specialOf hit.typeIs F.nolen_rev ?_)
  show wpAny _ A.in1 (specialOf (Value.ref I) (Str.ofString "__length_hint__") >>= _) _ _ _
  refine wpAny_bind (wpAny_specialOf hit.typeIs F.slot_rev_hint.lookup ?_)
  (generalize hid : ("reversed.__length_hint__" : String) = id0; (fail_if_success (clear hid id0)); wp_delta; rw [show splitId id0 = some ("reversed", "__length_hint__") from by subst hid; decide +kernel]; subst hid)
  refine wpAny_bind (wpAny_isInstance (b := true) hit.typeIs F.rv_sub ?_)
  rw [if_neg (by decide)]
  dsimp only
  rw [if_neg (by decide +kernel)]
  refine wpAny_bind (wpAny_rule ?_)
  refine wpAny_bind (wpAny_of_eq (F.slot_rev_hint.bind _) ?_)
  show wpAny _ A.in1 (Sem.attempt (call (Value.builtin "reversed.__length_hint__") [Value.ref I]) >>= _) _ _ _
  refine wpAny_bind (wpAny_attempt (rv_hint hfit hit ht fun u tk htk => ?_))
  show wpAny _ A.in1 (asInt? (Value.int (items.size : Int) u) >>= _) _ _ _
  have ea : asInt? (Value.int (items.size : Int) u) = pure (some (items.size : Int)) := rfl
  rw [ea, pure_bind]
  dsimp only
  have hf : Builtin.List.listFitsIndex (items.size : Int) = true := by
    unfold Builtin.List.listFitsIndex
    rw [Bool.and_eq_true]
    exact ⟨decide_eq_true (by omega), decide_eq_true hfit⟩
  have hl : Builtin.List.listTooLong (items.size : Int).toNat = false := by
    unfold Builtin.List.listTooLong
    rw [Int.toNat_natCast]
    exact decide_eq_false (Nat.not_lt.mpr hn)
  rw [hf, hl]
  rw [if_neg (show ¬ ((!true) = true) by decide), if_neg (show ¬ ((items.size : Int) < 0) by omega), if_neg Bool.false_ne_true]
  refine wpAny_pure ?_
  have fin : ∀ (h' : Heap) (c1 : Nat), (∀ b o, b ≠ S → s.heap.get? b = some o → h'.get? b = some o) → h'.get? S = some { cls := .type "list", data := .seq #[] c1 } →
      wpAny (model prog w) A.in1 (again (.builtin "list.extend.loop" ⟨[.ref S, .ref I, res], []⟩))
        (fun fin s' => match fin with | .done f => R (.ok f) s' | .again c' => c'.quiet = true ∧ codeAny (model prog w) A c' R s') (fun e s' => R (.error e) s') { s with heap := h', toks := tk } := fun h' c1 oth hS3 => by
    have hst : (0 : Nat) ≤ items.size ∧ s.heap.IsRev I t ((items.size : Int) - 1 - ((0 : Nat) : Int)) ∧ PyProof.Rows.IsTup s.heap t items := ⟨Nat.zero_le _, by rw [show (items.size : Int) - 1 - ((0 : Nat) : Int) = (items.size : Int) - 1 by omega]; exact hit, ht⟩
    refine wpAny_pure ⟨plainId_quiet F.plain_extend_loop _, codeAny_extend_loopS W hn _ hSf _ items.size 0 _ _ _ rfl (Nat.zero_le _)
      (W.frame 0 s h' tk hst htk fun b hb o e => oth b o (fun h => hSf (h ▸ hb)) e) hS3 (ItemsOf.nil _) fun s' acc' c' hm hS' hacc => ?_⟩
    have m0 : Moved [S, I] (fun a b => b = a) s { s with heap := h', toks := tk } := (Moved.refl (wr := [S, I]) (G := fun a b => b = a) fun _ => rfl).then_heap htk fun b o hb e => oth b o (fun h => hb (by rw [h]; exact List.mem_cons_self)) e
    exact hR s' acc' c' (Moved.trans W.gtrans m0 hm) hS' hacc
  by_cases hz : items.size = 0
  · rw [if_neg (by rw [hz]; decide)]
    exact fin s.heap _ (fun _ _ _ e => e) hS
  · have hb : ((items.size : Int) != 0) = true := by simp; exact fun e => hz (by rw [e]; rfl)
    rw [hb, Bool.true_or, if_pos rfl]
    refine wpAny_bind (wpAny_rule ?_)
    refine wpAny_bind ?_
    show wpAny _ A.in1 (updateSeq S (·.push .none) >>= fun _ => updateSeq S (·.pop)) _ _ _
    refine wpAny_bind (wpAny_updateSeq (hz := Nat.zero_le _) (_hz' := Nat.succ_le_succ (Nat.zero_le _)) hS rfl ?_)
    have hS₂ := Heap.get?_update_self (Obj.mapSeq (·.push Value.none)) hS rfl
    refine wpAny_updateSeq (hz := Nat.le_trans (show (1 : Nat) ≤ 1000 by decide) (show 1000 ≤ sizeLine by decide)) (_hz' := Nat.zero_le _) hS₂ rfl ?_
    have hS₃ := Heap.get?_update_self (Obj.mapSeq (·.pop)) hS₂ rfl
    exact fin _ _ (fun b o hb e => (Heap.get?_update_other _ _ (Ne.symm hb)).trans ((Heap.get?_update_other _ _ (Ne.symm hb)).trans e)) hS₃
theorem rv_init (hh : A.handled = none) {I t S : Addr} {items : Array Value} (hfit : (items.size : Int) < 2 ^ 63) (hn : items.size ≤ sizeLine) (hit : s.heap.IsRev I t ((items.size : Int) - 1)) (ht : PyProof.Rows.IsTup s.heap t items) (h1 : S ≠ I) (h2 : S ≠ t) (h3 : t ≠ I)
    (hS : s.heap.get? S = some { cls := .type "list", data := .seq #[] })
    (hR : ∀ s' acc' c', Moved [S, I] (fun a b => b = a) s s' → s'.heap.get? S = some { cls := .type "list", dict := none, data := .seq acc' c', slots := #[] } → ItemsOf (fun i v => items[items.size - 1 - i]? = some v) acc' items.size → R (.ok (.ret .none)) s') :
    wpAny (model prog w) A.in1 (Builtin.«list.__init__» ⟨[.ref S, .ref I], []⟩)
      (fun fin s' => match fin with | .done f => R (.ok f) s' | .again c' => c'.quiet = true ∧ codeAny (model prog w) A c' R s') (fun e s' => R (.error e) s') s := by
  have W := (Walks.tupRev (prog := prog) (w := w) (A := A.in1) hh I t h3 items hfit).toS
  show wpAny _ A.in1 (do let old ← Builtin.List.listItems (.ref S); Builtin.List.listUpdate (.ref S) (fun _ => #[]); letGo old.toList.reverse; Builtin.List.listExtendWith (.ref S) (.ref I) .none) _ _ s
  refine wpAny_bind ?_
  unfold Builtin.List.listItems
  refine wpAny_bind (wpAny_seqItems hS rfl (wpAny_pure ?_))
  show wpAny _ A.in1 (updateSeq S (fun _ => #[]) >>= fun _ => letGo (#[] : Array Value).toList.reverse >>= fun _ => Builtin.List.listExtendWith (.ref S) (.ref I) .none) _ _ s
  refine wpAny_bind (wpAny_updateSeq (hz := Nat.zero_le _) (_hz' := Nat.zero_le _) hS rfl ?_)
  have hS₂ := Heap.get?_update_self (Obj.mapSeq (fun _ => (#[] : Array Value))) hS rfl
  have oth : ∀ b o, b ≠ S → s.heap.get? b = some o → (s.heap.update S (Obj.mapSeq (fun _ => (#[] : Array Value)))).get? b = some o :=
    fun b o hb e => (Heap.get?_update_other _ _ (Ne.symm hb)).trans e
  refine wpAny_bind (wpAny_letGo ?_)
  refine rv_extend hh hfit hn (hit.at fun o e => oth I o (Ne.symm h1) e) (let ⟨o, ho, r⟩ := ht; ⟨o, oth t o (Ne.symm h2) ho, r⟩) h1 h2 h3 hS₂ fun s' acc' c' hm hS' hacc => ?_
  have m0 : Moved [S, I] (fun a b => b = a) s { s with heap := s.heap.update S (Obj.mapSeq (fun _ => (#[] : Array Value))) } := (Moved.refl (wr := [S, I]) (G := fun a b => b = a) fun _ => rfl).then_heap (Nat.le_refl _) fun b o hb e => oth b o (fun h => hb (by rw [h]; exact List.mem_cons_self)) e
  exact hR s' acc' c' (Moved.trans W.gtrans m0 hm) hS' hacc
end
section
variable {prog : Program} {w : World} {A : Around} {E : Value → Shared → Prop} {s : Shared}
theorem rv_list (hh : A.handled = none) {I t : Addr} {items : Array Value} {Q : Value → Shared → Prop} (hfit : (items.size : Int) < 2 ^ 63) (hn : items.size ≤ sizeLine) (hit : s.heap.IsRev I t ((items.size : Int) - 1)) (ht : PyProof.Rows.IsTup s.heap t items) (h3 : t ≠ I)
    (hQ : ∀ s' c', Moved [s.heap.objs.size, I] (fun a b => b = a) { s with heap := s.heap.push { cls := .type "list", data := .seq #[] } } s' →
      s'.heap.get? s.heap.objs.size = some { cls := .type "list", dict := none, data := .seq items.reverse c', slots := #[] } → Q (.ref s.heap.objs.size) s') :
    wpAny (model prog w) A (call (.type "list") [.ref I]) Q E s := by
  have lI : I < s.heap.objs.size := let ⟨o, ho, _⟩ := hit; Heap.lt_size ho
  have lt : t < s.heap.objs.size := ht.lt
  refine callType_codes (Q₁ := fun obj s₁ => obj = .ref s.heap.objs.size ∧ s₁ = { s with heap := s.heap.push { cls := .type "list", data := .seq #[] } }) F.called_list (F.typeCall_list_1 _) F.entry_list_init
    (code_list_new _ ⟨rfl, rfl⟩) fun obj s₁ h₁ => ?_
  obtain ⟨rfl, rfl⟩ := h₁
  have hS : (s.heap.push { cls := .type "list", data := .seq #[] }).get? s.heap.objs.size = some { cls := .type "list", data := .seq #[] } := Heap.get?_push_size _ rfl
  refine ⟨⟨_, hS, rfl⟩, F.args_list_init_2 _ _, rv_init (A := A.in1) hh hfit hn (hit.at fun o e => Heap.get?_push_of_some _ e) (ht.push _) (Nat.ne_of_gt lI) (Nat.ne_of_gt lt) h3 hS fun s' acc' c' hm hS' hacc => ?_⟩
  refine ⟨rfl, hQ s' c' hm ?_⟩
  have e : acc' = items.reverse := by
    apply Array.ext (by rw [hacc.1, Array.size_reverse])
    intro i h1 h2
    have h4 := hacc.2 i acc'[i] (Array.getElem?_eq_getElem h1)
    rw [Array.getElem_reverse]
    rw [hacc.1] at h1
    exact (Option.some.inj ((Array.getElem?_eq_getElem (by omega)).symm.trans h4)).symm
  rw [← e]; exact hS'
end
end PySem

set_option linter.all false
set_option maxHeartbeats 4000000
set_option maxRecDepth 100000
namespace L2
open PySem PySem.W PySem.Spec PyProof.Rows
section
variable {X : Cx} {K : PySem.W.Frag}
end
/-- each of these classes is below that one, as isinstance sees it -/
def clsUp (K : Frag) (pe : Addr) (cs : List Addr) : Bool := cs.all fun c => kitOne K (.ref c) (.ref pe) == some true && belowIn K c c
/-- try: the j-th name(..) except C0 as the i-th name: .. -/
def tTryV (j : Nat) (f : Addr) (sp : Sp) (K : Frag) (C0 : Addr) (i : Nat) (t : TA) (ts : TS) : TS := fun D σ H => σ[j]? = some (some (.ref f)) ∧ tTry sp K C0 i t ts D σ H
section
variable {X : Cx} {k j : Nat} {f : Addr} {fd : FuncData} {ps : List Str} {sp : Sp} {x c n : Str} {p cpos epos np hpos pos : Pos} {e : Expr} {es : List Expr} {b₀ : Stmt} {suite : List Stmt} {t : TA} {ts : TS} {i : Nat} {C0 : Addr} {bmB : List Value} {newId : String}
end
/-- list(reversed(t)), t a tuple -/
theorem pe_listRev {X : Cx} {e : Expr} {t : TE} {p1 p2 pos2 pos : Pos} (hg1 : Gl X "list") (n1 : X.mg "list" = none) (b1 : bootBuiltins "list" = some (.type "list")) (hg2 : Gl X "reversed") (n2 : X.mg "reversed" = none) (b2 : bootBuiltins "reversed" = some (.type "reversed")) (he : PE X e t) (hc : X.calm = true := by rfl)
    (hs : starEach [e] X.env = [(false, eval e X.env)] := by rfl) :
    PE X (.Call (.Name "list" p1) [.Call (.Name "reversed" p2) [e] [] pos2] [] pos) (fun σ H Q => t σ H fun x H1 => ∃ p ys, x = .ref p ∧ SqT X.K H1 p ys ∧ ∀ l, H1 l = none → Q (.ref l) (upd H1 l (.lst ys.reverse))) := by
  intro pins s σ H Q I h
  refine wpAny_Call_Name_kw (ld_blt I hg1 n1 b1 ?_)
  refine PyProof.Rows.callWith_type1 ?_ rfl rfl
  show wpAny _ _ (spliced ((false, eval (.Call (.Name "reversed" p2) [e] [] pos2) X.env) :: backTo pos (starEach [] X.env))) _ _ s
  refine Calls.spliced_cons ?_
  refine wpAny_Call_Name_kw (ld_blt I hg2 n2 b2 ?_)
  refine PyProof.Rows.callWith_type1 ?_ hs rfl
  rw [hs]
  show wpAny _ _ (spliced ((false, eval e X.env) :: backTo pos2 (starEach [] X.env))) _ _ s
  refine Calls.spliced_cons (thn (he pins s σ H _ I h) fun u s1 ⟨x, H1, I1, r1, p, ys, ex, hq, q⟩ => ?_)
  subst ex
  cases r1
  refine Calls.spliced_nil ?_
  obtain ⟨its, rv, pl, hz⟩ := I1.tuple hq
  have hlen := rv.length
  have hn := line63
  have hfit : ((its.toArray.size : Nat) : Int) < 2 ^ 63 := by simp only [List.size_toArray] <;> omega
  have hsz : its.toArray.size ≤ sizeLine := by simp only [List.size_toArray] <;> omega
  refine call_rev_tuple pl hfit fun tk => ?_
  refine Calls.spliced_nil ?_
  have lp : p < s1.heap.objs.size := pl.lt
  refine rv_list (s := { s1 with heap := s1.heap.push (revO p (((its.toArray.size : Nat) : Int) - 1)), toks := tk }) (I1.ok.hd hc) hfit hsz ⟨_, Heap.get?_push_size _ rfl, rfl, rfl⟩ (pl.push _) (Nat.ne_of_lt lp) fun s' c' hm hS' => ?_
  have e1 : (s1.heap.push (revO p (((its.toArray.size : Nat) : Int) - 1))).objs.size = s1.heap.objs.size + 1 := Heap.size_push ..
  dsimp only at hS' hm ⊢
  rw [e1] at hS' hm ⊢
  obtain ⟨h5, g5, d5, t5, o5⟩ := s'
  obtain ⟨k1, k2, k3, k4, k5⟩ := hm
  dsimp only at k1 k2 k3 k4 hS' ⊢
  subst k2 k3 k4
  have kp : ∀ b o, s1.heap.get? b = some o → h5.get? b = some o := fun b o eb => k1 b o (fun hm => by
    have lt := Heap.lt_size eb
    rcases List.mem_cons.mp hm with e | hm
    · rw [e] at lt; exact absurd lt (Nat.not_lt.mpr (Nat.le_succ _))
    · rw [List.mem_singleton.mp hm] at lt; exact Nat.lt_irrefl _ lt) (Heap.get?_push_of_some _ (Heap.get?_push_of_some _ eb))
  refine ⟨.ref (s1.heap.objs.size + 1), _, I1.laid (t' := t5) kp (Nat.le_succ _) (show ObjOk X.prog X.w _ h5 _ (.lst ys.reverse) from ⟨by rw [List.length_reverse]; omega, its.reverse, c', Vals.reverse rv, ?_⟩), rfl, q _ (I1.hok.fresh (Nat.le_succ _))⟩
  rw [hS']
  simp
end L2

set_option linter.all false
set_option maxHeartbeats 4000000
set_option maxRecDepth 100000
namespace PySem
open PyProof.Rows
/-- the texts that were met, each once -/
def metS : List Str → List Str
  | [] => []
  | x :: l => if l.contains x then metS l else x :: metS l
/-- one more -/
def stepS (σ : List Str) (v : Str) : List Str := if σ.any (· == v) then σ else σ ++ [v]
def firstS (val : Nat → Str) (n : Nat) : List Str := ((List.range n).map val).foldl stepS []
section
variable {prog : Program} {w : World} {A : Around} {R : Result → Shared → Prop} {I : Addr} {fp wr : List Addr} {G : Array GenState → Array GenState → Prop} {n : Nat} {P : Nat → Value → Prop} {St : Nat → Shared → Prop}
end
end PySem

set_option linter.all false
set_option maxHeartbeats 4000000
set_option maxRecDepth 100000
namespace PySem
open PyProof.Rows
namespace F
end F
section
variable {prog : Program} {w : World} {A : Around} {E : Value → Shared → Prop} {s : Shared}
abbrev setO (led : Bool) : Obj := { cls := .type "set", dict := none, data := .set #[] 0 (.fresh 0 0 led) }
end
end PySem

set_option linter.all false
set_option maxHeartbeats 4000000
set_option maxRecDepth 100000
namespace L2
open PySem PySem.W PySem.Spec PyProof.Rows
/-- how many of the texts are unlike -/
def manyS (ns : List Str) : Nat := (firstS (fun i => ns.getD i Str.empty) ns.length).length
end L2

set_option linter.all false
set_option maxHeartbeats 4000000
set_option maxRecDepth 100000
namespace L2
open PySem PySem.W PySem.Spec PyProof.Rows
/-- a text walked sign by sign -/
def Itc (z : Str) : It :=
  ⟨fun i _ => i < z.cps.size, fun i H v H' => H' = H ∧ ∃ c, v = .str ⟨#[c]⟩ ∧ z.cps[i]? = some c, fun i _ => z.cps.size ≤ i⟩
section
variable {X : Cx} {tg : Expr}
def iStrC (tl : TE) : TI := fun σ H R => tl σ H fun x H1 => ∃ z : Str, x = .str z ∧ R (Itc z) H1
end
section
variable {z : Str} {y : Str} {cap : List Nat} {tt : TT} {te : TE} {σ : St} {Z : List V → Hp → Prop} {H1 : Hp}
end
/-- a tuple of texts, as the text's own part shows it -/
def tupIn (K : Frag) (a : Addr) (ss : List Str) : Bool := match K.lookup a with
  | some ⟨.type "tuple", _, .seq its _, _⟩ => decide (its.size ≤ 1000) && (its.toList.map fun v => match v with | .str x _ => some x | _ => none) == ss.map some
  | _ => false
end L2

set_option linter.all false
set_option maxHeartbeats 4000000
set_option maxRecDepth 100000
namespace L2
open PySem PySem.W PyProof.Rows
/-- try: return f(..) is None except C0 as the i-th name: .. -/
def tTryR (sp : Sp) (K : Frag) (C0 : Addr) (i : Nat) (t : TA) (ts : TS) : TS := fun D σ H => t σ H fun vs H1 => sp vs H1 (fun v H2 => D.rt (.bl (decide (v = .non))) H2) fun cls _ H2 => ∃ C bm nid, cls = .ref C ∧ excIn K C bm nid = true ∧ belowIn K C C0 = true ∧
  ∀ a, H2 a = none → ts { nx := fun σ' H' => D.nx (σ'.set i none) H', rt := D.rt, bk := fun σ' H' => D.bk (σ'.set i none) H', ct := fun σ' H' => D.ct (σ'.set i none) H' } (σ.set i (some (.ref a))) (upd H2 a (excO a C))
section
variable {X : Cx} {k : Nat} {f : Addr} {fd : FuncData} {ps : List Str} {sp : Sp} {x c n : Str} {p cpos epos np hpos pos rpos kp : Pos} {kc : _} {e : Expr} {es : List Expr} {b₀ : Stmt} {suite : List Stmt} {t : TA} {ts : TS} {i : Nat} {C0 : Addr} {bmB : List Value} {newId : String}
end
end L2

set_option linter.all false
set_option maxHeartbeats 4000000
set_option maxRecDepth 100000
namespace L2
open PySem PySem.W PySem.Spec PyProof.Rows
/-- t + u of tuples, empty ones too -/
def rCatE (K : PySem.W.Frag) : R2 := fun x y H Q => ∃ a b xs ys, x = .ref a ∧ y = .ref b ∧ SqT K H a xs ∧ SqT K H b ys ∧ xs.length + ys.length ≤ sizeLine ∧ (xs = [] → Q (.ref b) H) ∧ (xs ≠ [] → ys = [] → Q (.ref a) H) ∧ (xs ≠ [] → ys ≠ [] → ∀ p, H p = none → Q (.ref p) (upd H p (.tup (xs ++ ys))))
section
variable {X : Cx}
end
end L2

set_option linter.all false
set_option maxHeartbeats 4000000
set_option maxRecDepth 100000
namespace L2
open PySem PySem.W PySem.Spec PySem.Calls PyProof.Rows
open Builtin Builtin.Str
section
variable {X : Cx}
/-- text.split(sep), a long text -/
def rSplitB : V → List V → Hp → VK → Prop := fun x vs H Q => ∃ (z sep : Str), x = .str z ∧ vs = [.str sep] ∧ (sep.length == 0) = false ∧ z.length ≤ 100000 ∧ (Txt.split z sep).length ≤ 900 ∧ ∀ l, H l = none → Q (.ref l) (upd H l (.lst ((Txt.split z sep).map V.str)))
/-- text.partition(sep) -/
def rPart : V → List V → Hp → VK → Prop := fun x vs H Q => ∃ (z sep : Str), x = .str z ∧ vs = [.str sep] ∧ (sep.length == 0) = false ∧ z.length ≤ 100000 ∧ ∀ p, H p = none → Q (.ref p) (upd H p (.tup [.str (Txt.partition z sep).1, .str (Txt.partition z sep).2.1, .str (Txt.partition z sep).2.2]))
/-- text.lstrip(signs) -/
def rLstrip : V → List V → Hp → VK → Prop := fun x vs H Q => ∃ (z y : Str), x = .str z ∧ vs = [.str y] ∧ z.length ≤ 100000 ∧ Q (.str (Txt.lstripChars z y)) H
/-- sep.join(texts), long ones -/
def rJoinB (K : PySem.W.Frag) : V → List V → Hp → VK → Prop := fun x vs H Q => ∃ (sep : Str) (p : Addr) (ts : List Str), x = .str sep ∧ vs = [.ref p] ∧ SqL K H p (ts.map V.str) ∧ (ts.map (·.length)).sum + ts.length * sep.length ≤ 100000 ∧ Q (.str (Str.join sep ts)) H
end
/-- a list walked from behind -/
def Itv (K : PySem.W.Frag) (a : Addr) (xs : List V) : It :=
  ⟨fun i H => SqL K H a xs ∧ i < xs.length, fun i H v H' => H' = H ∧ xs.reverse[i]? = some v, fun i H => xs.length ≤ i⟩
theorem turn_rev {P : Program} {w : World} {K : PySem.W.Frag} {tg : Expr} (l : Addr) (xs : List V) (it : Addr) : Turn P w K tg (Itv K l xs) [it] it (fun i h => i ≤ xs.length ∧ h.IsRevIter it l ((xs.length : Int) - 1 - (i : Int))) where
  mem := by simp
  obj := fun i h st b hb => by
    have e : b = it := by simpa using hb
    subst e
    obtain ⟨_, o, e, c, d⟩ := st
    exact ⟨o, e, fun v z => by rw [d] at z; cases z⟩
  keep := fun i h h' st k => ⟨st.1, st.2.at fun o e => k it (by simp) o e⟩
  item := by
    intro X hP hw hK hc i pins s σ H E I hf st hg
    subst hP hw hK
    obtain ⟨hx, hi⟩ := hg
    obtain ⟨f0, f1, f2, f3, f4, f5⟩ := hf it (by simp)
    obtain ⟨its, rx, pl, _⟩ := I.list hx
    have lx := rx.length
    have e : (xs.length : Int) - 1 - (i : Int) = ((xs.length - 1 - i : Nat) : Int) := by omega
    have hit := st.2
    rw [e] at hit
    have ex : xs[xs.length - 1 - i]? = some (xs[xs.length - 1 - i]'(by omega)) := List.getElem?_eq_getElem (by omega)
    obtain ⟨u, hu, ru⟩ := rx.get ex
    refine wpAny_pyNext_rev_item hit pl.isList (x := u) (by simpa using hu) fun h' hit' sb => ?_
    have I1 : Inv X pins σ H { s with heap := h', toks := s.toks } := I.turned (t' := s.toks) (fun b o hb e => sb.extBut b o (by simpa using hb) e) f0 f1 f3 f4 f5
    have e2 : ((xs.length - 1 - i : Nat) : Int) - 1 = (xs.length : Int) - 1 - ((i + 1 : Nat) : Int) := by omega
    rw [e2] at hit'
    obtain ⟨o, eo, cl, d⟩ := id hit'
    refine ⟨_, rfl, go_of (s := { s with heap := h' }) eo cl d (by decide) ⟨_, H, I1, ru, ⟨rfl, ?_⟩, ⟨hi, hit'⟩, fun b hb => (hf b hb).1⟩⟩
    rw [List.getElem?_reverse hi]; exact ex
  done := by
    intro X hP hw hK hc i pins s σ H E I hf st hg
    subst hP hw hK
    obtain ⟨f0, f1, f2, f3, f4, f5⟩ := hf it (by simp)
    have hg' : xs.length ≤ i := hg
    have e : i = xs.length := Nat.le_antisymm st.1 hg'
    subst e
    have hit := st.2
    rw [show (xs.length : Int) - 1 - (xs.length : Int) = -1 by omega] at hit
    exact wpAny_pyNext_rev_end (I.ok.hd hc) hit fun h' eb => ⟨rfl, I.turned (t' := s.toks) (fun b o hb e => eb b o (by simpa using hb) e) f0 f1 f3 f4 f5⟩
  self := fun A i s Q E st h => wpAny_pyIter_revIter st.2 h
section
variable {X : Cx} {tg : Expr}
theorem boot_reversed : bootBuiltins "reversed" = some (.type "reversed") := by decide +kernel
def iRev (K : PySem.W.Frag) (ta : TA) : TI := fun σ H R => ta σ H fun vs H1 => ∃ (a : Addr) (xs : List V), vs = [.ref a] ∧ SqL K H1 a xs ∧ R (Itv K a xs) H1
theorem pi_rev {a : Expr} {ta : TA} {p pos : Pos} (hg : Gl X "reversed") (hm : X.mg "reversed" = none) (ha : PA X [a] ta) (hs : starEach [a] X.env = [(false, eval a X.env)] := by rfl) :
    PI X tg (.Call (.Name "reversed" p) [a] [] pos) (iRev X.K ta) := by
  intro pins s σ H R I h
  refine Call_ (ld_blt I hg hm boot_reversed (PyProof.Rows.callWith_type1 (thn (ha pos pins s σ H _ I h) fun us s1 ⟨vs, H1, I1, r1, q1⟩ => ?_) hs rfl))
  obtain ⟨a, xs, e, hx, hR⟩ := q1
  subst e
  cases r1 with
  | cons r rr =>
    cases rr
    cases r
    obtain ⟨its, rx, pl, _⟩ := I1.list hx
    have lx := rx.length
    refine call_reversed_list pl.isList ?_
    have hit : (s1.heap.push (revObj a ((its.toArray.size : Int) - 1))).IsRevIter s1.heap.objs.size a ((xs.length : Int) - 1 - ((0 : Nat) : Int)) := ⟨_, Heap.get?_push_size _ rfl, rfl, by
      show Data.fields _ = _
      rw [show (its.toArray.size : Int) - 1 = (xs.length : Int) - 1 - ((0 : Nat) : Int) by simp only [List.size_toArray]; omega]⟩
    refine wpAny_pyIter_revIter hit ⟨_, [s1.heap.objs.size], _, _, H1, rfl, I1.kept (t' := s1.toks) (fun b o e => Heap.get?_push_of_some _ e), turn_rev a xs _, ⟨Nat.zero_le _, hit⟩, fun c hc => ?_, hR⟩
    have e : c = s1.heap.objs.size := by simpa using hc
    subst e
    exact I1.fpOk (Nat.le_refl _) (I1.hok.fresh (Nat.le_refl _))
end
/-- a loop over a list from behind -/
theorem for_rev {K : PySem.W.Frag} {a : Addr} {xs : List V} {g : TG} {tb : TS} {D : Ends} {σ : St} {H : Hp} (Pv : Nat → St → Hp → Prop) (h0 : Pv 0 σ H) (hl : ∀ i σ H, i < xs.length → Pv i σ H → SqL K H a xs)
    (hs : ∀ i x σ H, xs.reverse[i]? = some x → Pv i σ H → g x σ H fun σ2 H2 => tb { D with nx := Pv (i + 1), ct := Pv (i + 1), bk := D.nx } σ2 H2) (hd : ∀ σ H, Pv xs.length σ H → D.nx σ H) :
    ∃ W : Nat → Nat → St → Hp → Prop, (∃ m, W 0 m σ H) ∧ ∀ i m σ H, W i m σ H →
      ((Itv K a xs).stop i H ∧ D.nx σ H) ∨ ((Itv K a xs).go i H ∧ ∃ N : St → Hp → Prop, (∀ σ' H', N σ' H' → ∃ m', m' < m ∧ W (i + 1) m' σ' H') ∧ ∀ x H', (Itv K a xs).yld i H x H' → g x σ H' fun σ2 H2 => tb { D with nx := N, ct := N, bk := D.nx } σ2 H2) :=
  for_any xs.length Pv h0 (fun i σ H hi p => ⟨hl i σ H hi p, hi⟩) (fun σ H p => Nat.le_refl _) (fun i x σ H H' hi p y => by
    obtain ⟨e, y⟩ := y
    subst e
    exact hs i x σ _ y p) hd
end L2

set_option linter.all false
set_option maxHeartbeats 4000000
set_option maxRecDepth 100000
namespace PySem
open Sem (wp)
namespace F
theorem lk_list_keys : typeLookup (.type "list") "keys" = pure none := am_miss_of_fast (by kernel_rfl)
theorem lk_list_getattr : typeLookup (.type "list") "__getattr__" = pure none := am_miss_of_fast (by kernel_rfl)
theorem entry_update_loop : entryFor table "dict.update.loop" = some Builtin.«dict.update.loop» := entryFor_of_tree (by kernel_rfl)
theorem plain_update_loop : plainId "dict.update.loop" = true := by decide +kernel
end F
section
variable {prog : Program} {w : World} {A : Around} {E : Value → Shared → Prop}
theorem keys_entry {a : Addr} {items : Array Value} {n : Nat} {h : Heap} {g : Array GenState} {d : Drawn} {t : Nat} {os : OsState} {tk : Tok} {Q : Fin → Shared → Prop} (hx : h.get? a = some { cls := .type "list", data := .seq items n }) (hh : A.handled = none)
    (hq : ∀ h' tk' e, Heap.NewAttrErr h h' e (.ref a) "keys" → E (.ref e) ⟨h', g, d, tk', os⟩) :
    wpAny (model prog w) A (Builtin.«object.__getattribute__» ⟨[.ref a, .str "keys" tk], []⟩) Q E ⟨h, g, d, t, os⟩ := by
  have hT : (⟨h, g, d, t, os⟩ : Shared).TypeIs (.ref a) "list" := ⟨_, hx, rfl⟩
  have f4 := F.lk_list_keys
  have f5 := F.lk_list_getattr
  unfold Builtin.«object.__getattribute__»
  repeat (any_goals (first | assumption | wp_step))
  exact wpAny_raiseAttrError hh hq (attrMsg_fits (by decide +kernel) (by decide +kernel))
theorem keys_by {a : Addr} {items : Array Value} {n : Nat} {h : Heap} {g : Array GenState} {d : Drawn} {t : Nat} {os : OsState} {tk : Tok} {Q : Value → Shared → Prop} (hx : h.get? a = some { cls := .type "list", data := .seq items n }) (hh : A.handled = none)
    (hq : ∀ h' tk' e, Heap.NewAttrErr h h' e (.ref a) "keys" → E (.ref e) ⟨h', g, d, tk', os⟩) :
    wpAny (model prog w) A (getAttrBy (.ref a) (.str "keys" tk) false) Q E ⟨h, g, d, t, os⟩ := by
  have hT : (⟨h, g, d, t, os⟩ : Shared).TypeIs (.ref a) "list" := ⟨_, hx, rfl⟩
  have f1 := sub_AttributeError
  have f2 := F.slot_list_getattribute.lookup
  have f3 := F.slot_list_getattribute.bind (.ref a)
  have f5 := F.lk_list_getattr
  repeat (any_goals (first | assumption | wp_step))
  refine codeAny_call_builtin F.slot_list_getattribute.plain F.entry_list_ga (F.slot_list_getattribute.check _ _ _ _ _ _ _ _ hT (F.args_list_getattribute_2 _ _) (keys_entry hx hh fun h' tk' e x => ?_))
  obtain ⟨t', u', he⟩ := x.there
  show wpAny _ _ (getattributeRaised _ _ _ _ _ _ _) _ _ _
  unfold getattributeRaised
  repeat (any_goals (first | assumption | wp_step))
  exact hq _ _ _ x
theorem keys_none {s : Shared} {a : Addr} {items : Array Value} {n : Nat} {Q : Option Value → Shared → Prop} (hx : s.heap.get? a = some { cls := .type "list", data := .seq items n }) (hh : A.handled = none)
    (hq : ∀ h' tk, (∀ b ob, s.heap.get? b = some ob → h'.get? b = some ob) → Q none { s with heap := h', toks := tk }) : wpAny (model prog w) A (getAttr? (.ref a) "keys") Q E s := by
  obtain ⟨h, g, d, t, os⟩ := s
  have f1 := sub_AttributeError
  unfold getAttr? getAttrBy?
  refine wpAny_bind (wpAny_mkText (wpAny_bind (wpAny_attempt (keys_by hx hh fun h' tk' e x => ?_))))
  obtain ⟨t', u', he⟩ := x.there
  dsimp only
  refine wpAny_bind (wpAny_isInstance (T := "AttributeError") (b := true) ⟨_, he, rfl⟩ sub_AttributeError ?_)
  rw [if_pos rfl]
  exact wpAny_pure (hq _ _ x.keeps)
/-- the loop over pairs -/
theorem pairs_loop {K : Type} [DecidableEq K] {knd : KeyKind prog w K} (hh : A.handled = none) {d it l : Addr} {items : Array Value} (ps : List (K × Value)) (hn : items.size = ps.length) (hsz : ps.length ≤ 10000) (h1 : d ≠ it) (h2 : d ≠ l) (h3 : it ≠ l) {R : Result → Shared → Prop} :
    ∀ (m i : Nat) (s : Shared) (kvs : List (K × Value)), i + m = ps.length → kvs.length ≤ i → s.heap.IsListIter it l i → s.heap.IsList l items → s.heap.DictOf knd d kvs →
      (∀ (j : Nat) (p : K × Value), ps[j]? = some p → ∃ T key, items[j]? = some (.ref T) ∧ T ≠ d ∧ T ≠ it ∧ (∃ o n, s.heap.get? T = some o ∧ o.cls = .type "tuple" ∧ o.data = .seq #[key, p.2] n) ∧ knd.is p.1 key = true) →
      (∀ h' tk, h'.DictOf knd d (merged kvs (ps.drop i)) → (∀ b ob, b ≠ d → b ≠ it → s.heap.get? b = some ob → h'.get? b = some ob) → R (.ok (.ret .none)) { s with heap := h', toks := tk }) →
      codeAny (model prog w) A (.builtin "dict.update.loop" ⟨[.ref d, .ref it, rawInt (i : Int), .none], []⟩) R s := by
  intro m
  induction m with
  | zero =>
    intro i s kvs hi hk hit hl hd hp hR
    have ei : i = ps.length := by omega
    refine codeAny_builtin F.entry_update_loop ?_
    rw [Around.under_plainId F.plain_update_loop _]
    show wpAny _ A.in1 (pyNext (.ref it) >>= _) _ _ s
    refine wpAny_bind (wpAny_pyNext_list_end hh hit hl (by rw [Array.getElem?_eq_none (by omega)]) fun h' eb => ?_)
    show wpAny _ _ (Builtin.Dict.addKeywords d [] >>= fun _ => ret .none) _ _ _
    refine wpAny_bind (wpAny_pure (wpAny_pure ?_))
    refine hR h' s.toks ?_ fun b ob b1 b2 e => eb b ob b2 e
    rw [List.drop_eq_nil_of_le (by omega)]
    exact hd.extBut eb h1
  | succ m ih =>
    intro i s kvs hi hk hit hl hd hp hR
    have hlt : i < ps.length := by omega
    obtain ⟨T, key, hT, t1, t2, ⟨ot, nt, hg, hgc, hgd⟩, hkey⟩ := hp i ps[i] (List.getElem?_eq_getElem hlt)
    refine codeAny_builtin F.entry_update_loop ?_
    rw [Around.under_plainId F.plain_update_loop _]
    show wpAny _ A.in1 (pyNext (.ref it) >>= _) _ _ s
    refine wpAny_bind (wpAny_pyNext_list_item hit hl hT fun h' hit' sb => ?_)
    have hg' : h'.get? T = some ot := (sb.2 T t2).trans hg
    have hd' : h'.DictOf knd d kvs := hd.sameBut sb h1
    refine wpAny_bind (wpAny_holding (wpAny_bind ?_))
    refine wpAny_tryCatch ?_
    unfold Builtin.Dict.pairItems
    refine wpAny_bind (wpAny_typeOf (s := { s with heap := h' }) (T := "tuple") ⟨_, hg', hgc⟩ ?_)
    rw [if_pos (by decide)]
    refine wpAny_bind (wpAny_seqItems (s := { s with heap := h' }) hg' hgd (wpAny_pure ?_))
    show wpAny _ _ (holding [key, ps[i].2] (dictSet d key ps[i].2)) _ _ _
    refine wpAny_holding (wpAny_dictSet_pairs (s := { s with heap := h' }) hkey hd' (fun hz hd2 sb2 => ?_) (Nat.le_trans (show kvs.length ≤ 10000 by omega) (by decide)))
    refine wpAny_pure ⟨plainId_quiet F.plain_update_loop _, ?_⟩
    have ei : rawInt ((i : Int) + 1) = rawInt ((i + 1 : Nat) : Int) := by rw [Int.natCast_add]; rfl
    rw [ei]
    refine ih (i + 1) _ (stored kvs ps[i].1 ps[i].2) (by omega) ?_ ?_ ?_ hd2 ?_ ?_
    · unfold stored
      split
      · rw [List.length_map]; omega
      · rw [List.length_append]; simp; omega
    · exact hit'.at fun o e => (sb2.2 it h1.symm).trans e
    · exact hl.at fun o e => (sb2.2 l h2.symm).trans ((sb.2 l h3.symm).trans e)
    · intro j q hq
      obtain ⟨T', key', a1, a2, a3, ⟨o', n', a4, a6, a7⟩, a5⟩ := hp j q hq
      exact ⟨T', key', a1, a2, a3, ⟨o', n', (sb2.2 T' a2).trans ((sb.2 T' a3).trans a4), a6, a7⟩, a5⟩
    · intro h3' tk hd3 kp
      refine hR h3' tk ?_ fun b ob b1 b2 e => kp b ob b1 b2 ((sb2.2 b b1).trans ((sb.2 b b2).trans e))
      rw [List.drop_eq_getElem_cons hlt]
      exact hd3
/-- dict(list of pairs) -/
theorem call_dict_pairs {K : Type} [DecidableEq K] {knd : KeyKind prog w K} {s : Shared} (hh : A.handled = none) {l : Addr} {items : Array Value} {nl : Nat} (ps : List (K × Value)) (hn : items.size = ps.length) (hsz : ps.length ≤ 10000) {Q : Value → Shared → Prop}
    (hl : s.heap.get? l = some { cls := .type "list", data := .seq items nl })
    (hp : ∀ (j : Nat) (p : K × Value), ps[j]? = some p → ∃ T key, items[j]? = some (.ref T) ∧ (∃ o n, s.heap.get? T = some o ∧ o.cls = .type "tuple" ∧ o.data = .seq #[key, p.2] n) ∧ knd.is p.1 key = true)
    (hq : ∀ h' tk, h'.DictOf knd s.heap.objs.size (merged [] ps) → (∀ b ob, s.heap.get? b = some ob → h'.get? b = some ob) → Q (.ref s.heap.objs.size) { s with heap := h', toks := tk }) :
    wpAny (model prog w) A (call (.type "dict") [.ref l]) Q E s := by
  refine callType_codes (Q₁ := fun obj s₁ => obj = .ref s.heap.objs.size ∧ s₁ = { s with heap := s.heap.push { cls := .type "dict", data := .dict #[] } }) F.kt_called_dict (F.kt_typeCall_dict_1 _) F.entry_dict_init (kt_code_dict_new _ ⟨rfl, rfl⟩) ?_
  rintro obj s₁ ⟨rfl, rfl⟩
  have hnew : (s.heap.push { cls := .type "dict", data := .dict #[] }).DictOf knd s.heap.objs.size [] := Heap.DictOf.new s.heap
  have hl' : (s.heap.push { cls := .type "dict", data := .dict #[] }).get? l = some { cls := .type "list", data := .seq items nl } := Heap.get?_push_of_some _ hl
  have lt := Heap.lt_size hl
  refine ⟨hnew.typeIs, F.args_dict_init_2 _ _, ?_⟩
  unfold Builtin.«dict.__init__»
  refine wpAny_bind ?_
  unfold Builtin.Dict.selfAndRest
  refine wpAny_bind (wpAny_notOrdered_dict hnew.typeIs ?_)
  show wpAny _ _ (pure (s.heap.objs.size, [Value.ref l])) _ _ _
  refine wpAny_pure ?_
  show wpAny _ _ (Builtin.Dict.updateFrom "dict.__init__" s.heap.objs.size (.ref l) [] .none) _ _ _
  unfold Builtin.Dict.updateFrom
  refine wpAny_bind (wpAny_typeOf (T := "list") ⟨_, hl', rfl⟩ ?_)
  rw [if_pos (by decide)]
  refine wpAny_bind (keys_none (s := { s with heap := s.heap.push { cls := .type "dict", data := .dict #[] } }) hl' hh fun h1 tk1 kp1 => ?_)
  dsimp only [Option.isNone]
  rw [if_pos rfl]
  refine wpAny_bind (wpAny_rule ?_)
  have hl1 : h1.get? l = some { cls := .type "list", data := .seq items nl } := kp1 _ _ hl'
  have li : h1.IsList l items := ⟨_, hl1, rfl, _, rfl⟩
  refine wpAny_bind (wpAny_pyIter_list (s := { s with heap := h1, toks := tk1 }) li ?_)
  have sz1 : s.heap.objs.size < h1.objs.size := by
    obtain ⟨o, es, ep, ho, _⟩ := hnew
    exact Heap.lt_size (kp1 _ _ ho)
  have d1 : h1.DictOf knd s.heap.objs.size [] := by
    obtain ⟨o, es, ep, ho, r⟩ := hnew
    exact ⟨o, es, ep, kp1 _ _ ho, r⟩
  refine wpAny_pure ⟨plainId_quiet F.plain_update_loop _, pairs_loop (A := A.in1) (knd := knd) (l := l) (items := items) hh ps hn hsz (Nat.ne_of_lt sz1) (Nat.ne_of_gt lt) (Nat.ne_of_gt (Heap.lt_size hl1)) ps.length 0 _ [] (by omega) (Nat.le_refl _) ⟨_, Heap.get?_push_size _ rfl, rfl, rfl⟩ (li.push _) (d1.push _) (fun j p hj => ?_) (fun h' tk hd kp => ?_)⟩
  · obtain ⟨T, key, a1, ⟨o, n, a2, a4, a5⟩, a3⟩ := hp j p hj
    have ltT := Heap.lt_size a2
    exact ⟨T, key, a1, Nat.ne_of_lt ltT, Nat.ne_of_lt (Nat.lt_trans ltT sz1), ⟨o, n, Heap.get?_push_of_some _ (kp1 _ _ (Heap.get?_push_of_some _ a2)), a4, a5⟩, a3⟩
  · rw [List.drop_zero] at hd
    refine ⟨rfl, hq h' tk hd fun b ob e => ?_⟩
    have ltb := Heap.lt_size e
    exact kp b ob (Nat.ne_of_lt ltb) (Nat.ne_of_lt (Nat.lt_trans ltb sz1)) (Heap.get?_push_of_some _ (kp1 _ _ (Heap.get?_push_of_some _ e)))
end
end PySem

set_option linter.all false
set_option maxHeartbeats 4000000
set_option maxRecDepth 100000
namespace L2
open PySem PySem.W PySem.Spec PySem.Calls PyProof.Rows
/-- the pairs of a list of tuples -/
inductive PrsAt (H : Hp) : List Addr → List (Key × V) → Prop where
  | nil : PrsAt H [] []
  | cons {t : Addr} {ts : List Addr} {kv : Key × V} {kvs : List (Key × V)} (h : H t = some (.tup [kV kv.1, kv.2])) (r : PrsAt H ts kvs) : PrsAt H (t :: ts) (kv :: kvs)
theorem PrsAt.len {H : Hp} {ts : List Addr} {kvs : List (Key × V)} (h : PrsAt H ts kvs) : ts.length = kvs.length := by
  induction h with
  | nil => rfl
  | cons _ _ ih => rw [List.length_cons, List.length_cons, ih]
theorem PrsAt.same {H H' : Hp} {ts : List Addr} {kvs : List (Key × V)} (h : PrsAt H ts kvs) (s : ∀ b xs, H b = some (.tup xs) → H' b = some (.tup xs)) : PrsAt H' ts kvs := by
  induction h with
  | nil => exact .nil
  | cons e _ ih => exact .cons (s _ _ e) ih
theorem PrsAt.append {H : Hp} {ts ts' : List Addr} {kvs kvs' : List (Key × V)} (h : PrsAt H ts kvs) (g : PrsAt H ts' kvs') : PrsAt H (ts ++ ts') (kvs ++ kvs') := by
  induction h with
  | nil => exact g
  | cons e _ ih => exact .cons e ih
section
variable {X : Cx}
theorem prs_vals {P : Program} {w : World} {H : Hp} {h : Heap} (ok : HOk P w H h) : ∀ {ts : List Addr} {kvs : List (Key × V)}, PrsAt H ts kvs → ∃ ps : List (Key × Value), KV kvs ps ∧ ∀ (j : Nat) (p : Key × Value), ps[j]? = some p → ∃ T key, (ts.map fun t => Value.ref t)[j]? = some (.ref T) ∧ (∃ o n, h.get? T = some o ∧ o.cls = .type "tuple" ∧ o.data = .seq #[key, p.2] n) ∧ (mixKind P w).is p.1 key = true := by
  intro ts kvs x
  induction x with
  | nil => exact ⟨[], .nil, fun j p e => by cases e⟩
  | @cons t ts kv kvs e _ ih =>
    obtain ⟨ps, h1, h2⟩ := ih
    obtain ⟨z, its, r, o, e1, e2, n, e3⟩ := ok t _ e
    cases r with
    | cons r0 r =>
    cases r with
    | cons r1 r =>
    cases r
    refine ⟨(kv.1, _) :: ps, .cons ⟨rfl, r1⟩ h1, fun j p hj => ?_⟩
    cases j with
    | zero => cases hj; exact ⟨t, _, rfl, ⟨o, n, e1, e2, e3⟩, kV_is r0⟩
    | succ j => exact h2 j p (by simpa using hj)
/-- dict(list of pairs) -/
theorem call_dictP (hc : X.calm = true) : CallR X (.type "dict") (fun xs H Q => ∃ (l : Addr) (ts : List Addr) (kvs : List (Key × V)), xs = [V.ref l] ∧ H l = some (.lst (ts.map V.ref)) ∧ PrsAt H ts kvs ∧ kvs.length ≤ 1000 ∧ ∀ p, H p = none → Q (.ref p) (upd H p (.dK (mergeK [] kvs)))) := by
  intro pins s σ H xs us Q I r h
  obtain ⟨l, ts, kvs, rfl, hl, hp, hz, q⟩ := h
  obtain ⟨u, rfl, ru⟩ := vals1 r
  cases ru
  obtain ⟨z, its, n, rv, e⟩ := I.hok l _ hl
  obtain ⟨ps, rel, hps⟩ := prs_vals I.hok hp
  have eits : its = ts.map fun t => Value.ref t := by
    clear hp hps hl e z q
    have : ∀ {ts : List Addr} {its : List Value}, Vals (ts.map V.ref) its → its = ts.map fun t => Value.ref t := by
      intro ts
      induction ts with
      | nil => intro its h; cases h; rfl
      | cons t ts ih => intro its h; cases h with
        | cons a b => cases a; rw [ih b]; rfl
    exact this rv
  have lr := rel.length
  have lt := hp.len
  refine call_dict_pairs (knd := mixKind X.prog X.w) (I.ok.hd hc) ps (by rw [eits]; simp; omega) (by omega) e (fun j p hj => ?_) fun h' tk hd kp => ?_
  · obtain ⟨T, key, a1, a2, a3⟩ := hps j p hj
    exact ⟨T, key, by rw [eits]; simpa using a1, a2, a3⟩
  · refine ⟨.ref s.heap.objs.size, _, I.laid (a := s.heap.objs.size) (o := .dK (mergeK [] kvs)) (t' := tk) kp (Nat.le_refl _) (dk_new ?_ (beq_eq_false_iff_ne.mpr (Ne.symm (Nat.ne_of_lt I.big))) (KV.merge rel .nil) hd), rfl, q _ (I.hok.fresh (Nat.le_refl _))⟩
    exact Nat.le_trans (length_mergeK kvs []) (Nat.le_of_lt (small1000 (by simp; omega)))
/-- keys that are unlike: the pairs as they are -/
theorem mergeK_app : ∀ (more kvs : List (Key × V)), ((kvs ++ more).map (·.1)).Nodup → mergeK kvs more = kvs ++ more
  | [], kvs, _ => by show kvs = kvs ++ []; simp
  | kv :: more, kvs, h => by
    have h1 : valV kvs kv.1 = none := by
      cases e : valV kvs kv.1 with
      | none => rfl
      | some v =>
        exfalso
        have := valV_in e
        rw [List.map_append, List.nodup_append] at h
        exact h.2.2 _ this _ (List.mem_cons_self ..) rfl
    show mergeK (putK kvs kv.1 kv.2) more = _
    rw [putK_new _ h1, mergeK_app more (kvs ++ [(kv.1, kv.2)]) (by rw [List.append_assoc]; exact h), List.append_assoc]; rfl
theorem mergeK_nd {kvs : List (Key × V)} (h : (kvs.map (·.1)).Nodup) : mergeK [] kvs = kvs := mergeK_app kvs [] h
end
end L2

set_option linter.all false
set_option maxHeartbeats 4000000
set_option maxRecDepth 100000
namespace PySem
open PySem.W
theorem mxd_args (a d : Value) : argsOk "max" ⟨[a], [(Str.ofString "default", d)]⟩ := by unfold argsOk; kernel_rfl
section
variable {prog : Program} {w : World} {A : Around} {E : Value → Shared → Prop}
/-- the best so far -/
def MxSt (items : Array Value) (ns : List Int) (sl : Addr) (i : Nat) (h : Heap) : Prop :=
  ∃ c, (i = 0 ∧ h.get? sl = some { cls := .type "list", data := .seq #[] c }) ∨
    ∃ b vb, items[b]? = some vb ∧ b < i ∧ (∀ j, j < i → ns.getD j 0 ≤ ns.getD b 0) ∧ h.get? sl = some { cls := .type "list", data := .seq #[vb, vb] c }
theorem mxd_loop (hh : A.handled = none) {it l sl : Addr} {items : Array Value} (ns : List Int) (dv : Value) (hi : ∀ (j : Nat) (v : Value), items[j]? = some v → ∃ t, v = .int (ns.getD j 0) t) (hn : items.size = ns.length) (n1 : sl ≠ it) (n2 : sl ≠ l) (n3 : it ≠ l) {R : Result → Shared → Prop} :
    ∀ (m i : Nat) (s : Shared), i + m = ns.length → s.heap.IsListIter it l i → s.heap.IsList l items → MxSt items ns sl i s.heap →
      (∀ h', (∀ b o, b ≠ sl → b ≠ it → s.heap.get? b = some o → h'.get? b = some o) → (ns = [] → R (.ok (.ret dv)) { s with heap := h' }) ∧ (∀ b vb, items[b]? = some vb → (∀ j, j < ns.length → ns.getD j 0 ≤ ns.getD b 0) → R (.ok (.ret vb)) { s with heap := h' })) →
      codeAny (model prog w) A (.builtin "max.loop" ⟨[.ref it, .none, .ref sl], [(Str.ofString "default", dv)]⟩) R s := by
  have hcmp : CmpOf prog w A.in1 .Gt (fun i v => ∃ t, v = Value.int (ns.getD i 0) t) (fun i j => decide (ns.getD i 0 > ns.getD j 0)) := CmpOf.ints_gt (fun i => ns.getD i 0) fun i v e => e
  have enm : (toString "max" ++ toString ".loop" : String) = "max.loop" := by decide
  intro m
  induction m with
  | zero =>
    intro i s hm hit hl ⟨c, hS⟩ hR
    refine codeAny_builtin F.entry_max_loop ?_
    rw [Around.under_plainId F.plain_max_loop _]
    rcases hS with ⟨i0, hS⟩ | ⟨b, vb, hb, hbi, hbest, hS⟩
    · show wpAny _ A.in1 (seqItems? (.ref sl) >>= _) _ _ s
      refine wpAny_bind (wpAny_seqItems hS rfl ?_)
      show wpAny _ A.in1 (tryCatch (pyNext (.ref it)) _ >>= _) _ _ s
      refine wpAny_bind (wpAny_tryCatch (wpAny_pyNext_list_end hh hit hl (Array.getElem?_eq_none (by omega)) fun h' eb => ?_))
      refine wpAny_bind (wpAny_rule (wpAny_pure ?_))
      exact (hR h' fun b o _ b2 e => eb b o b2 e).1 (List.length_eq_zero_iff.mp (by omega))
    · show wpAny _ A.in1 (seqItems? (.ref sl) >>= _) _ _ s
      refine wpAny_bind (wpAny_seqItems hS rfl ?_)
      show wpAny _ A.in1 (tryCatch (pyNext (.ref it)) _ >>= _) _ _ s
      refine wpAny_bind (wpAny_tryCatch (wpAny_pyNext_list_end hh hit hl (Array.getElem?_eq_none (by omega)) fun h' eb => ?_))
      have hS' : h'.get? sl = some { cls := .type "list", data := .seq #[vb, vb] c } := eb _ _ n1 hS
      show wpAny _ A.in1 (updateSeq sl (fun _ => #[]) >>= _) _ _ _
      refine wpAny_bind ?_
      refine wpAny_updateSeq (hz := by show 2 ≤ sizeLine; decide) (_hz' := Nat.zero_le _) hS' rfl (wpAny_bind (wpAny_letGo (wpAny_pure ?_)))
      refine (hR _ fun b o b1 b2 e => (Heap.get?_update_other _ _ (Ne.symm b1)).trans (eb b o b2 e)).2 b vb hb fun j hj => hbest j (by omega)
  | succ m ih =>
    intro i s hm hit hl ⟨c, hS⟩ hR
    have hlt : i < items.size := by omega
    obtain ⟨v, hv⟩ : ∃ v, items[i]? = some v := ⟨_, Array.getElem?_eq_getElem hlt⟩
    refine codeAny_builtin F.entry_max_loop ?_
    rw [Around.under_plainId F.plain_max_loop _]
    rcases hS with ⟨i0, hS⟩ | ⟨b, vb, hb, hbi, hbest, hS⟩
    · show wpAny _ A.in1 (seqItems? (.ref sl) >>= _) _ _ s
      refine wpAny_bind (wpAny_seqItems hS rfl ?_)
      show wpAny _ A.in1 (tryCatch (pyNext (.ref it)) _ >>= _) _ _ s
      refine wpAny_bind (wpAny_tryCatch (wpAny_pyNext_list_item hit hl hv fun h' hit' sb => ?_))
      have hS' : h'.get? sl = some { cls := .type "list", data := .seq #[] c } := (sb.2 sl n1).trans hS
      show wpAny _ A.in1 (updateSeq sl (fun _ => #[v, v]) >>= _) _ _ _
      refine wpAny_bind ?_
      refine wpAny_updateSeq (hz := Nat.zero_le _) (_hz' := by show 2 ≤ sizeLine + 1; decide) hS' rfl ?_
      rw [enm]
      refine wpAny_pure ⟨plainId_quiet F.plain_max_loop _, ih (i + 1) _ (by omega) ?_ ?_ ⟨_, .inr ⟨i, v, hv, Nat.lt_succ_self _, fun j hj => ?_, Heap.get?_update_self _ hS' rfl⟩⟩ fun h2 kp => hR h2 fun b o b1 b2 e => kp b o b1 b2 ((Heap.get?_update_other _ _ (Ne.symm b1)).trans ((sb.2 b b2).trans e))⟩
      · exact hit'.at fun o e => (Heap.get?_update_other _ _ n1).trans e
      · exact hl.at fun o e => (Heap.get?_update_other _ _ n2).trans ((sb.2 l n3.symm).trans e)
      · have : j = i := by omega
        rw [this]; exact Int.le_refl _
    · show wpAny _ A.in1 (seqItems? (.ref sl) >>= _) _ _ s
      refine wpAny_bind (wpAny_seqItems hS rfl ?_)
      show wpAny _ A.in1 (tryCatch (pyNext (.ref it)) _ >>= _) _ _ s
      refine wpAny_bind (wpAny_tryCatch (wpAny_pyNext_list_item hit hl hv fun h' hit' sb => ?_))
      have hS' : h'.get? sl = some { cls := .type "list", data := .seq #[vb, vb] c } := (sb.2 sl n1).trans hS
      show wpAny _ A.in1 (tryCatch (holding [v, v] (richCompare .Gt v vb >>= _)) _ >>= _) _ _ { s with heap := h' }
      refine wpAny_bind (wpAny_tryCatch (wpAny_holding (wpAny_bind (hcmp i b v vb _ _ _ (hi i v hv) (hi b vb hb) ?_))))
      refine wpAny_bind (wpAny_holding (wpAny_truthy_bool ?_))
      refine wpAny_bind (wpAny_letGo (wpAny_pure ?_))
      by_cases hc : ns.getD i 0 > ns.getD b 0
      · rw [if_pos (show (fun i j => decide (ns.getD i 0 > ns.getD j 0)) i b = true from decide_eq_true hc)]
        refine wpAny_bind ?_
        refine wpAny_updateSeq (hz := by show 2 ≤ sizeLine; decide) (_hz' := by show 2 ≤ sizeLine + 1; decide) hS' rfl (wpAny_bind (wpAny_letGo ?_))
        rw [enm]
        refine wpAny_pure ⟨plainId_quiet F.plain_max_loop _, ih (i + 1) _ (by omega) ?_ ?_ ⟨_, .inr ⟨i, v, hv, Nat.lt_succ_self _, fun j hj => ?_, Heap.get?_update_self _ hS' rfl⟩⟩ fun h2 kp => hR h2 fun b o b1 b2 e => kp b o b1 b2 ((Heap.get?_update_other _ _ (Ne.symm b1)).trans ((sb.2 b b2).trans e))⟩
        · exact hit'.at fun o e => (Heap.get?_update_other _ _ n1).trans e
        · exact hl.at fun o e => (Heap.get?_update_other _ _ n2).trans ((sb.2 l n3.symm).trans e)
        · rcases Nat.lt_or_ge j i with h | h
          · have := hbest j h; omega
          · have : j = i := by omega
            rw [this]; exact Int.le_refl _
      · rw [if_neg (show ¬ (fun i j => decide (ns.getD i 0 > ns.getD j 0)) i b = true from fun z => hc (of_decide_eq_true z))]
        refine wpAny_bind (wpAny_letGo ?_)
        rw [enm]
        refine wpAny_pure ⟨plainId_quiet F.plain_max_loop _, ih (i + 1) _ (by omega) hit' (hl.at fun o e => (sb.2 l n3.symm).trans e) ⟨c, .inr ⟨b, vb, hb, by omega, fun j hj => ?_, hS'⟩⟩ fun h2 kp => hR h2 fun b o b1 b2 e => kp b o b1 b2 ((sb.2 b b2).trans e)⟩
        rcases Nat.lt_or_ge j i with h | h
        · exact hbest j h
        · have : j = i := by omega
          rw [this]; omega
theorem call_max_default (hh : A.handled = none) {s : Shared} {l : Addr} {items : Array Value} (ns : List Int) (dv : Value) (hi : ∀ (j : Nat) (v : Value), items[j]? = some v → ∃ t, v = .int (ns.getD j 0) t) (hn : items.size = ns.length) (hl : s.heap.IsList l items) {Q : Value → Shared → Prop}
    (hq : ∀ h', (∀ b o, s.heap.get? b = some o → h'.get? b = some o) → (ns = [] → Q dv { s with heap := h' }) ∧ (∀ b vb, items[b]? = some vb → (∀ j, j < ns.length → ns.getD j 0 ≤ ns.getD b 0) → Q vb { s with heap := h' })) :
    wpAny (model prog w) A (call (.builtin "max") [.ref l] [(Str.ofString "default", dv)]) Q E s := by
  have enm : (toString "max" ++ toString ".loop" : String) = "max.loop" := by decide
  obtain ⟨ol, hol, _⟩ := id hl
  have lt := Heap.lt_size hol
  refine PyProof.Rows.kmb_tree PySem.F.kind_max PySem.F.plain_max PySem.F.entry_max (mxd_args _ _) ?_
  show wpAny _ A.in1 (Builtin.Builtins.bindParams "max" ["key", "default"] 0 ⟨[], [(Str.ofString "default", dv)]⟩ >>= _) _ _ s
  refine wpAny_bind (wpAny_of_eq (show Builtin.Builtins.bindParams "max" ["key", "default"] 0 ⟨[], [(Str.ofString "default", dv)]⟩ = pure [none, some dv] from rfl) ?_)
  refine wpAny_bind (wpAny_pure (wpAny_bind (wpAny_pyIter_list hl ?_)))
  refine wpAny_bind (wpAny_newList ?_ (Nat.zero_le _))
  rw [enm]
  have es : (s.heap.push { cls := .type "list_iterator", data := .fields #[.ref l, .int 0 0] }).objs.size = s.heap.objs.size + 1 := Heap.size_push ..
  refine wpAny_pure ⟨plainId_quiet F.plain_max_loop _, mxd_loop (items := items) (l := l) hh ns dv hi hn ?_ ?_ (Nat.ne_of_gt lt) ns.length 0 _ (by omega) ⟨_, Heap.get?_push_of_some _ (Heap.get?_push_size _ rfl), rfl, rfl⟩ ((hl.push _).push _) ⟨_, .inl ⟨rfl, Heap.get?_push_size _ rfl⟩⟩ fun h' kp => ?_⟩
  · rw [es]; exact Nat.succ_ne_self _
  · rw [es]; exact Nat.ne_of_gt (Nat.lt_succ_of_lt lt)
  · refine hq h' fun b o e => ?_
    have lb := Heap.lt_size e
    exact kp b o (by rw [es]; exact Nat.ne_of_lt (Nat.lt_succ_of_lt lb)) (Nat.ne_of_lt lb) (Heap.get?_push_of_some _ (Heap.get?_push_of_some _ e))
end
end PySem

set_option linter.all false
set_option maxHeartbeats 4000000
set_option maxRecDepth 100000
namespace L2
open PySem PySem.Spec PySem.Calls PyProof.Rows
section
variable {X : Cx}
theorem boot_max : bootBuiltins "max" = some (.builtin "max") := by decide +kernel
/-- max(numbers, default=a number) -/
def tMaxD (K : PySem.W.Frag) (te td : TE) : TE := fun σ H Q => tCons te tNil σ H fun vs H1 => td σ H1 fun y H2 => ∃ (l : Addr) (ns : List Int), vs = [.ref l] ∧ SqL K H2 l (ns.map V.int) ∧ (ns = [] → Q y H2) ∧ (∀ M, M ∈ ns → (∀ a ∈ ns, a ≤ M) → Q (.int M) H2)
theorem pe_maxD {e d : Expr} {te td : TE} {p pos kpos : Pos} (hg : Gl X "max") (hm : X.mg "max" = none) (he : PE X e te) (hd : PE X d td) (hc : X.calm = true := by rfl) (hs : starEach [e] X.env = (false, eval e X.env) :: starEach [] X.env := by rfl) :
    PE X (.Call (.Name "max" p) [e] [⟨some "default", d, kpos⟩] pos) (tMaxD X.K te td) := by
  intro pins s σ H Q I h
  refine wpAny_Call_Name_kw (ld_blt I hg hm boot_max ?_)
  have pA : PA X [e] (tCons te tNil) := pa_cons he pa_nil hs
  refine callWith_kw (he := by rw [hs]; rfl) (hplain := by rw [hs]; rfl) (thn (pA pos pins s σ H _ I h) fun us s1 q1 => ?_)
  obtain ⟨vs, H1, I1, r1, q⟩ := q1
  show wpAny _ _ (evalAll [do let v ← eval d X.env; standAt pos; pure v]) _ _ s1
  refine wpAny_evalAll_cons (wpAny_bind (thn (hd pins s1 σ H1 _ I1 q) fun vd s2 ⟨y, H2, I2, ry, l, ns, ex, hl, q0, q1⟩ => wpAny_bind (wpAny_standAt (wpAny_pure ?_))))
  refine wpAny_evalAll_nil ?_
  subst ex
  obtain ⟨ux, rfl, rx⟩ := vals1 r1
  cases rx
  show wpAny _ _ (call (.builtin "max") [.ref l] [(Str.ofString "default", vd)]) _ _ s2
  obtain ⟨its, rv, pl, _⟩ := I2.list hl
  have hi := intsAre_of rv
  have hlen : its.length = ns.length := hi.length
  refine call_max_default (I2.ok.hd hc) ns vd (fun j v e => ints_val hi (by simpa using e)) (by simpa using hlen) pl.isList fun h' kp => ⟨fun e0 => ?_, fun b vb hb hbest => ?_⟩
  · exact ⟨y, H2, I2.kept (t' := s2.toks) kp, ry, q0 e0⟩
  · obtain ⟨t, rfl⟩ := ints_val hi (i := b) (v := vb) (by simpa using hb)
    have hb' : b < ns.length := by have := (List.getElem?_eq_some_iff.mp (show its[b]? = some _ by simpa using hb)).1; omega
    refine ⟨.int (ns.getD b 0), H2, I2.kept (t' := s2.toks) kp, ⟨_, rfl⟩, q1 _ ?_ fun a ha => ?_⟩
    · rw [List.getD_eq_getElem?_getD, List.getElem?_eq_getElem hb']; exact List.getElem_mem hb'
    · obtain ⟨j, hj, rfl⟩ := List.mem_iff_getElem.mp ha
      have := hbest j hj
      rwa [List.getD_eq_getElem?_getD, List.getElem?_eq_getElem hj] at this
end
end L2

set_option linter.all false
set_option maxHeartbeats 4000000
set_option maxRecDepth 100000
namespace L2
open PySem PySem.Spec PySem.Calls PyProof.Rows
section
variable {X : Cx} {pins : List (Addr × Obj)} {σ : St} {H : Hp} {s : Shared} {d : Addr} {kvs : List (Key × V)} {o : Obj}
/-- an expression behind which a walked dict is let go -/
def tThaw (H0 : Hp) (t : TE) : TE := fun σ H Q => t σ H fun v H' => ∃ d o kvs, H' d = some (.frz o (.dK kvs)) ∧ (∀ o u, H0 d ≠ some (.frz o u)) ∧ Q v (upd H' d (.dK kvs))
end
/-- the keys of a dict, walked -/
def Itk (d : Addr) (o : Obj) (kvs : List (Key × V)) : It :=
  ⟨fun i H => H d = some (.frz o (.dK kvs)) ∧ i < kvs.length, fun i H v H' => H' = H ∧ ∃ kv, kvs[i]? = some kv ∧ v = kV kv.1, fun i H => H d = some (.frz o (.dK kvs)) ∧ kvs.length ≤ i⟩
section
variable {X : Cx} {tg : Expr}
def iKeys (tl : TE) : TI := fun σ H R => tl σ H fun x H1 => ∃ d kvs, x = .ref d ∧ H1 d = some (.dK kvs) ∧ ∀ o, R (Itk d o kvs) (upd H1 d (.frz o (.dK kvs)))
end
section
variable {y : Str} {cap : List Nat} {tt : TT} {te : TE} {σ : St} {Z : List V → Hp → Prop} {H1 : Hp} {d : Addr} {o : Obj} {kvs : List (Key × V)}
end
end L2

set_option linter.all false
set_option maxHeartbeats 4000000
set_option maxRecDepth 100000
namespace PySem
end PySem
namespace L2
open PySem PySem.Spec PySem.Calls PyProof.Rows
/-- the pairs of a dict, walked -/
def Iti (d : Addr) (o : Obj) (kvs : List (Key × V)) : It :=
  ⟨fun i H => H d = some (.frz o (.dK kvs)) ∧ i < kvs.length, fun i H v H' => ∃ T kv, v = .ref T ∧ H T = none ∧ H' = upd H T (.tup [kV kv.1, kv.2]) ∧ kvs[i]? = some kv, fun i H => H d = some (.frz o (.dK kvs)) ∧ kvs.length ≤ i⟩
section
variable {X : Cx}
def iItems (tl : TE) : TI := fun σ H R => tl σ H fun x H1 => ∃ d kvs, x = .ref d ∧ H1 d = some (.dK kvs) ∧ ∀ o, R (Iti d o kvs) (upd H1 d (.frz o (.dK kvs)))
end
end L2

set_option linter.all false
set_option maxHeartbeats 4000000
set_option maxRecDepth 100000
namespace PySem.W
open PySem PySem.Calls PyProof.Rows PyProof.V PySem.Spec
section
variable {prog : Program} {w : World} {K : Type} [DecidableEq K] {knd : KeyKind prog w K} {A : Around} {E : Value → Shared → Prop} {s : Shared}
/-- these two are alike, here -/
def EqW (prog : Program) (w : World) (A : Around) (s : Shared) (u v : Value) : Prop := ∀ (E : Value → Shared → Prop) (Q : Bool → Shared → Prop), Q true s → wpAny (model prog w) A (eqBool u v) Q E s
theorem same_true {nm : String} {a b : Addr} {ka kb : List (K × Value)} {Q : Bool → Shared → Prop} (ha : (a == sysModules) = false) (hb : (b == sysModules) = false) (da : s.heap.DictOf knd a ka) (db : s.heap.DictOf knd b kb) (hlen : ka.length = kb.length)
    (hit : ∀ p ∈ ka, ∃ y, valueAt kb p.1 = some y ∧ EqW prog w A s p.2 y) (h : Q true s) : wpAny (model prog w) A (Builtin.Dict.samePairs nm a b) Q E s := by
  obtain ⟨o1, e1, ep1, g1, _, d1, k1, p1, _⟩ := da
  obtain ⟨o2, e2, ep2, g2, _, d2, k2, p2, _⟩ := db
  have l1 : ka.length = e1.size := by rw [← p1.length]; exact Array.length_toList
  have l2 : kb.length = e2.size := by rw [← p2.length]; exact Array.length_toList
  have hs : e1.size = e2.size := by omega
  have look : ∀ k, findBy knd.is e2 k = valueAt kb k := fun k => by
    rw [← p2.find k]
    clear l2 p2 k2 d2 g2 hs
    obtain ⟨l⟩ := e2
    simp [findBy]
  unfold Builtin.Dict.samePairs Builtin.Dict.showsAll
  rw [if_neg (show ¬ (a == sysModules) = true from by rw [ha]; decide), if_neg (show ¬ (b == sysModules) = true from by rw [hb]; decide)]
  refine wpAny_bind (wpAny_pure (wpAny_bind (wpAny_pure (wpAny_bind (wpAny_dictEntries g1 d1 ?_)))))
  dsimp only
  refine wpAny_bind (wpAny_dictEntries g2 d2 ?_)
  rw [if_neg (by rw [hs]; simp)]
  refine wpAny_bind (wpAny_dictEpoch g1 d1 (wpAny_bind ?_))
  rw [Std.Legacy.Range.forIn_eq_forIn_range']
  simp only [Std.Legacy.Range.size, Nat.sub_zero, Nat.add_sub_cancel, Nat.div_one]
  refine wpAny_forIn_list _ (fun rest q s' => s' = s ∧ q = (none, ()) ∧ ∃ i, rest = List.range' i (e1.size - i) ∧ i ≤ e1.size) _ ?_ ?_ _ _ ⟨rfl, rfl, 0, by simp, Nat.zero_le _⟩
  · rintro j rest q s' ⟨rfl, rfl, i, hr, hi⟩
    have hlt : i < e1.size := by
      rcases Nat.lt_or_ge i e1.size with z | z
      · exact z
      · rw [Nat.sub_eq_zero_of_le z] at hr; cases hr
    rw [show e1.size - i = (e1.size - (i + 1)) + 1 by omega, List.range'_succ] at hr
    injection hr with hj hrest
    subst hj
    refine wpAny_bind (wpAny_dictEntries g1 d1 ?_)
    rw [Array.getElem?_eq_getElem hlt]
    have hlt' : j < ka.length := by omega
    obtain ⟨hkey, hval⟩ := p1.get? (i := j) (e := e1[j]) (k := ka[j].1) (v := ka[j].2) (by rw [Array.getElem?_toList]; exact Array.getElem?_eq_getElem hlt) (List.getElem?_eq_getElem hlt')
    obtain ⟨k', hk', hh⟩ := k1 e1[j] (Array.getElem_mem hlt)
    rw [knd.inj _ _ _ hk' hkey] at hh
    obtain ⟨y, hy, heq⟩ := hit ka[j] (List.getElem_mem hlt')
    show wpAny _ _ (holding [e1[j].key, e1[j].val] _ >>= _) _ _ _
    rw [hh]
    refine wpAny_bind (wpAny_holding (wpAny_bind (wpAny_dictFind_of hkey g2 d2 k2 ?_)))
    cases hj : e2.findIdx? fun e => knd.is ka[j].1 e.key with
    | none =>
      have : valueAt kb ka[j].1 = none := by rw [← look, findBy_of_findIdx?, hj]
      rw [this] at hy; cases hy
    | some m =>
      obtain ⟨hm, _, _⟩ := Array.findIdx?_eq_some_iff_getElem.mp hj
      have hv : valueAt kb ka[j].1 = some e2[m].val := by
        rw [← look, findBy_of_findIdx?, hj]
        simp [Array.getElem?_eq_getElem hm]
      refine wpAny_bind (wpAny_dictEntries g2 d2 ?_)
      rw [Array.getElem?_eq_getElem hm]
      have ey : e2[m].val = y := Option.some.inj (hv.symm.trans hy)
      rw [← ey, ← hval] at heq
      refine wpAny_holding (heq _ _ ?_)
      show wpAny _ _ (if (!true) = true then _ else _) _ _ _
      rw [if_neg (show ¬ (!true) = true by decide)]
      refine wpAny_bind (wpAny_dictEpoch g1 d1 ?_)
      rw [if_neg (by simp)]
      exact wpAny_pure ⟨rfl, rfl, j + 1, hrest, hlt⟩
  · rintro q s' ⟨rfl, rfl, i, hr, hi⟩
    exact wpAny_pure h
/-- == of dicts that are alike -/
theorem rc_true {a b : Addr} {ka kb : List (K × Value)} {Q : Value → Shared → Prop} (ha : (a == sysModules) = false) (hb : (b == sysModules) = false) (da : s.heap.DictOf knd a ka) (db : s.heap.DictOf knd b kb) (hu : A.units < cLine) (hlen : ka.length = kb.length)
    (hit : ∀ p ∈ ka, ∃ y, valueAt kb p.1 = some y ∧ EqW prog w A.in1 s p.2 y) (h : Q (.bool true) s) : wpAny (model prog w) A (compareOp .Eq (.ref a) (.ref b)) Q E s := by
  refine wpAny_richCompare_same_room (op := .Eq) da.typeIs db.typeIs PySem.F.slot_dict_eq (wpAny_call_entry PySem.F.slot_dict_eq da.typeIs PySem.F.entry_dict_eq ?_ (PySem.F.args_dict_eq_2 _ _)) hu
  have two : ∀ {Q0 : Value × Value → Shared → Prop}, Q0 (.ref a, .ref b) s → wpAny (model prog w) A.in1 (Builtin.Dict.dictSlotArgs "__eq__" ⟨[.ref a, .ref b], []⟩) Q0 E s := fun {Q0} h0 => by
    unfold Builtin.Dict.dictSlotArgs; exact wpAny_bind (wpAny_notOrdered_dict da.typeIs (wpAny_pure h0))
  refine wpAny_bind (two (wpAny_bind (wpAny_isInstance (T := "dict") db.typeIs PySem.F.sub_dict_dict ?_)))
  simp only [Bool.not_true, Bool.false_eq_true, if_false]
  refine wpAny_bind (wpAny_pure (wpAny_bind (wpAny_pure (wpAny_bind (same_true ha hb da db hlen hit (wpAny_pure ⟨_, rfl, fun x => (nomatch x), h⟩))))))
/-- two dicts as things in another -/
theorem eqw_dicts {a b : Addr} {ka kb : List (K × Value)} (ha : (a == sysModules) = false) (hb : (b == sysModules) = false) (da : s.heap.DictOf knd a ka) (db : s.heap.DictOf knd b kb) (hu : A.units < cLine) (hlen : ka.length = kb.length)
    (hit : ∀ p ∈ ka, ∃ y, valueAt kb p.1 = some y ∧ EqW prog w A.in1 s p.2 y) : EqW prog w A s (.ref a) (.ref b) := fun E Q hq => by
  unfold eqBool
  refine wpAny_holding ?_
  refine wpAny_ite_split (fun hab => wpAny_bind (wpAny_rule (wpAny_pure hq))) (fun _ => ?_)
  exact wpAny_bind (show wpAny _ _ (compareOp .Eq (.ref a) (.ref b)) _ _ _ from rc_true ha hb da db hu hlen hit (wpAny_truthy_bool hq))
end
end PySem.W

set_option linter.all false
set_option maxHeartbeats 4000000
set_option maxRecDepth 100000
namespace L2
open PySem PySem.Spec PySem.Calls PyProof.Rows PySem.W
/-- alike, or dicts of things that are alike -/
inductive AlkD (K : PySem.W.Frag) (H : Hp) : V → V → Prop
  | alk {x y : V} (h : Alk K H x y) : AlkD K H x y
  | dic {a b : Addr} {kvs kvs' : List (Key × V)} (ha : H a = some (.dK kvs)) (hb : H b = some (.dK kvs')) (hl : kvs.length = kvs'.length) (h : ∀ kv ∈ kvs, ∃ v', valV kvs' kv.1 = some v' ∧ Alk K H kv.2 v') : AlkD K H (.ref a) (.ref b)
section
variable {X : Cx} {pins : List (Addr × Obj)} {σ : St} {H : Hp} {s : Shared}
theorem KV.mem {κ : Type} {kvs : List (κ × V)} {vs : List (κ × Value)} (r : KV kvs vs) {p : κ × Value} (hp : p ∈ vs) : ∃ kv ∈ kvs, kv.1 = p.1 ∧ RelV kv.2 p.2 := by
  induction r with
  | nil => cases hp
  | @cons a b l m h _ ih =>
    rcases List.mem_cons.mp hp with rfl | hp
    · exact ⟨a, List.mem_cons_self .., h.1, h.2⟩
    · obtain ⟨kv, h1, h2⟩ := ih hp
      exact ⟨kv, List.mem_cons_of_mem _ h1, h2⟩
theorem KV.find {kvs : List (Key × V)} {vs : List (Key × Value)} (r : KV kvs vs) {k : Key} {v : V} (h : valV kvs k = some v) : ∃ y, valueAt vs k = some y ∧ RelV v y := by
  have e := r.val k
  rw [h] at e
  cases ev : valueAt vs k with
  | none => rw [ev] at e; exact absurd e (by intro z; cases z)
  | some y => rw [ev] at e; exact ⟨y, rfl, e⟩
theorem eqw_alk (I : Inv X pins σ H s) {x y : V} (d : Alk X.K H x y) {A : Around} {u v : Value} (rx : RelV x u) (ry : RelV y v) (hu : A.units + 2 < cLine) : PySem.W.EqW X.prog X.w A s u v := fun E Q hq => alk_at I d rx ry hu X.prog X.w E Q hq
theorem eqw_alkD (I : Inv X pins σ H s) {x y : V} (d : AlkD X.K H x y) {A : Around} {u v : Value} (rx : RelV x u) (ry : RelV y v) (hu : A.units + 8 < cLine) : PySem.W.EqW X.prog X.w A s u v := by
  cases d with
  | alk h => exact eqw_alk I h rx ry (by omega)
  | dic ha hb hl h =>
    cases rx
    cases ry
    obtain ⟨_, h1, va, ra, da⟩ := dk_of I.hok ha
    obtain ⟨_, h2, vb, rb, db⟩ := dk_of I.hok hb
    refine PySem.W.eqw_dicts h1 h2 da db (by omega) (by rw [← ra.length, ← rb.length]; exact hl) fun p hp => ?_
    obtain ⟨kv, hk, e1, e2⟩ := ra.mem hp
    obtain ⟨v', ev, hv⟩ := h kv hk
    obtain ⟨y, hy, ry⟩ := rb.find ev
    exact ⟨y, by rw [← e1]; exact hy, eqw_alk I hv e2 ry (by show A.units + 1 + 2 < cLine; omega)⟩
/-- two dicts that are alike -/
def rDD (K : PySem.W.Frag) (neg : Bool) : R2 := fun x y H Q => ∃ (p b : Addr) (kvs kvs' : List (Key × V)), x = .ref p ∧ y = .ref b ∧ H p = some (.dK kvs) ∧ H b = some (.dK kvs') ∧ kvs.length = kvs'.length ∧ (∀ kv ∈ kvs, ∃ v', valV kvs' kv.1 = some v' ∧ AlkD K H kv.2 v') ∧ Q (.bl (!neg)) H
end
end L2

set_option linter.all false
set_option maxHeartbeats 4000000
set_option maxRecDepth 100000
namespace L2
open PySem PySem.Spec PySem.Calls PyProof.Rows
section
variable {K : PySem.W.Frag} {H1 : Hp} {a : Addr} {y1 y2 : Str} {cap : List Nat} {σ : St} {te : TE} {Z : List V → Hp → Prop}
theorem wk_twoP (y1 y2 : Str) (cap : List Nat) (σ : St) (x1 x2 : V) : Wk (capS [y1, y2] cap σ) (((capS [y1, y2] cap σ).set 0 (some x1)).set 1 (some x2)) := by
  refine ⟨by simp, fun i v e => ?_⟩
  match i with
  | 0 => cases e
  | 1 => cases e
  | i + 2 => exact e
/-- pairs, each by a function; nothing changed -/
theorem blk_pairs {α : Type} (adr : α → Addr) (v1 v2 : α → V) (f : α → V) {xs : List α} (hS : SqL K H1 a (xs.map fun x => V.ref (adr x)) ∨ SqT K H1 a (xs.map fun x => V.ref (adr x))) (hz : xs.length < sizeLine)
    (ht : ∀ x ∈ xs, SqT K H1 (adr x) [v1 x, v2 x])
    (he : ∀ x ∈ xs, ∀ Q : VK, Q (f x) H1 → te (((capS [y1, y2] cap σ).set 0 (some (v1 x))).set 1 (some (v2 x))) H1 Q) (hd : Z (xs.map f) H1) :
    ((∃ xs, SqL K H1 a xs) ∧ tBlk [y1, y2] cap (g2 K) tYes te σ Z (Itl K a) H1) ∨ ((∃ xs, SqT K H1 a xs) ∧ tBlk [y1, y2] cap (g2 K) tYes te σ Z (Itt K a) H1) := by
  have stp : ∀ (i : Nat) (x : V) (acc : List V) (H : Hp) (R : List V → Hp → Prop), (∀ acc' H', (acc' = (xs.take (i + 1)).map f ∧ H' = H1) → R acc' H') → i < xs.length → (acc = (xs.take i).map f ∧ H = H1) → (xs.map fun x => V.ref (adr x))[i]? = some x →
      g2 K x (capS [y1, y2] cap σ) H fun σ4 H4 => Wk (capS [y1, y2] cap σ) σ4 ∧ tYes σ4 H4 fun b H5 => if b = true then te σ4 H5 fun v H6 => R (acc ++ [v]) H6 else R acc H5 := by
    rintro i x acc H R k hi ⟨rfl, rfl⟩ hx
    rw [List.getElem?_map, List.getElem?_eq_getElem hi] at hx
    cases hx
    have hm : xs[i] ∈ xs := List.getElem_mem hi
    refine ⟨_, _, rfl, ht _ hm, rfl, _, _, rfl, _, _, rfl, rfl, wk_twoP y1 y2 cap σ _ _, ?_⟩
    unfold tYes
    dsimp only
    rw [if_pos rfl]
    refine he _ hm _ (k _ _ ⟨?_, rfl⟩)
    rw [List.take_add_one, List.getElem?_eq_getElem hi, List.map_append]; rfl
  have len : ∀ (i : Nat) acc (H : Hp), (acc = (xs.take i).map f ∧ H = H1) → acc.length < sizeLine := by
    rintro i acc H ⟨rfl, _⟩
    rw [List.length_map, List.length_take]; omega
  have fin : ∀ acc H, (acc = (xs.take xs.length).map f ∧ H = H1) → Z acc H := by
    rintro acc H ⟨rfl, rfl⟩
    rw [List.take_length]; exact hd
  have at_ : ∀ i (hi : i < xs.length), (xs.map fun x => V.ref (adr x))[i]? = some (V.ref (adr (xs[i]'hi))) := fun i hi => by rw [List.getElem?_map, List.getElem?_eq_getElem hi]; rfl
  rcases hS with h | h
  · refine .inl ⟨⟨_, h⟩, blk_any xs.length (fun i acc H => acc = (xs.take i).map f ∧ H = H1) ⟨by simp, rfl⟩ len (fun i acc H hi p => ⟨xs.map fun x => V.ref (adr x), _, p.2 ▸ h, at_ i hi⟩) (fun acc H p => ⟨xs.map fun x => V.ref (adr x), p.2 ▸ h, by rw [List.length_map]; exact Nat.le_refl _⟩) (fun i x acc H H3 R k hi p yl => ?_) fin⟩
    obtain ⟨e, yx⟩ := yl
    subst e
    exact stp i x acc _ R k hi p (yx _ (p.2 ▸ h))
  · refine .inr ⟨⟨_, h⟩, blk_any xs.length (fun i acc H => acc = (xs.take i).map f ∧ H = H1) ⟨by simp, rfl⟩ len (fun i acc H hi p => ⟨xs.map fun x => V.ref (adr x), _, p.2 ▸ h, at_ i hi⟩) (fun acc H p => ⟨xs.map fun x => V.ref (adr x), p.2 ▸ h, by rw [List.length_map]; exact Nat.le_refl _⟩) (fun i x acc H H3 R k hi p yl => ?_) fin⟩
    obtain ⟨e, yx⟩ := yl
    subst e
    exact stp i x acc _ R k hi p (yx _ (p.2 ▸ h))
end
end L2

set_option linter.all false
set_option maxHeartbeats 4000000
set_option maxRecDepth 100000
namespace L2
open PySem PySem.W PySem.Spec PySem.Calls PyProof.Rows
/-- a written dict's entries, and what they say -/
def DcP (w : World) : List DictEntry → List (Key × V) → Prop
  | [], [] => True
  | e :: es, kv :: r => (∃ x t, kv.1 = .inr x ∧ e.key = .str x t ∧ e.hash = hashStr w x) ∧ RelV kv.2 e.val ∧ DcP w es r
  | _, _ => False
/-- a written dict in the head's fragment -/
def DcIn (w : World) (K : Frag) (a : Addr) (kvs : List (Key × V)) : Prop :=
  (a == sysModules) = false ∧ kvs.length ≤ 1000 ∧ ∃ es ep, K.lookup a = some ⟨.type "dict", none, .dict es ep, #[]⟩ ∧ DcP w es.toList kvs
theorem DcIn.mk {w : World} {K : Frag} {a : Addr} {kvs : List (Key × V)} {es : Array DictEntry} {ep : Nat} (z : (a == sysModules) = false) (h : K.lookup a = some ⟨.type "dict", none, .dict es ep, #[]⟩) (l : kvs.length ≤ 1000) (p : DcP w es.toList kvs) : DcIn w K a kvs := ⟨z, l, es, ep, h, p⟩
theorem DcP.keys {P : Program} {w : World} : ∀ {es : List DictEntry} {kvs : List (Key × V)}, DcP w es kvs → ∃ vs, KV kvs vs ∧ (∀ e ∈ es, ∃ k, (mixKind P w).is k e.key = true ∧ e.hash = (mixKind P w).hash k) ∧ Pairs (mixKind P w) es vs ∧ vs.map (·.1) = kvs.map (·.1)
  | [], [], _ => ⟨[], .nil, fun _ h => (nomatch h), .nil, rfl⟩
  | [], _ :: _, h => h.elim
  | _ :: _, [], h => h.elim
  | e :: es, kv :: r, h => by
    obtain ⟨⟨x, t, h1, h2, h3⟩, h4, h5⟩ := h
    obtain ⟨vs, a1, a2, a3, a4⟩ := DcP.keys (P := P) h5
    have hk : (mixKind P w).is (.inr x) e.key = true := by rw [h2]; exact mixKind_str P w x t
    refine ⟨(.inr x, e.val) :: vs, .cons ⟨h1, h4⟩ a1, fun e' he => ?_, .cons hk rfl a3, by rw [List.map_cons, List.map_cons, a4, h1]⟩
    rcases List.mem_cons.mp he with rfl | he
    · exact ⟨.inr x, hk, h3⟩
    · exact a2 e' he
theorem DcIn.of {P : Program} {w : World} {K : Frag} {a : Addr} {kvs : List (Key × V)} {h : Heap} (d : DcIn w K a kvs) (nd : (kvs.map (·.1)).Nodup) (kin : K.In h) : kvs.length ≤ sizeLine ∧ (a == sysModules) = false ∧ ∃ vs, KV kvs vs ∧ h.DictOf (mixKind P w) a vs := by
  obtain ⟨z, l, es, ep, e, p⟩ := d
  obtain ⟨vs, a1, a2, a3, a4⟩ := DcP.keys (P := P) p
  refine ⟨Nat.le_of_lt (small1000 l), z, vs, a1, _, es, ep, kin _ _ e, ⟨rfl, rfl, rfl⟩, rfl, fun e' he => a2 e' (Array.mem_toList_iff.mpr he), a3, ?_⟩
  rw [a4]; exact nd
section
variable {X : Cx}
/-- dict(d), d written at the top -/
theorem call_dictC : CallR X (.type "dict") (fun xs H Q => ∃ a kvs, xs = [V.ref a] ∧ DcIn X.w X.K a kvs ∧ (kvs.map (·.1)).Nodup ∧ ∀ p, H p = none → Q (.ref p) (upd H p (.dK kvs))) := by
  intro pins s σ H xs us Q I r h
  obtain ⟨a, kvs, rfl, ha, nd, q⟩ := h
  obtain ⟨u, rfl, ru⟩ := vals1 r
  cases ru
  obtain ⟨z, hd, vs, rel, dd⟩ := ha.of (P := X.prog) nd I.kIn
  refine kt_call_dict hd dd (by rw [← rel.length]; exact z) fun h' dd' hs => ?_
  refine ⟨.ref _, _, I.laid (a := s.heap.objs.size) (o := .dK kvs) (t' := s.toks) (fun b q hq => ?_) (Nat.le_refl _) (dk_new z (beq_eq_false_iff_ne.mpr (Ne.symm (Nat.ne_of_lt I.big))) rel dd'), rfl, q _ (I.hok.fresh (Nat.le_refl _))⟩
  exact (hs.2 b (Nat.ne_of_lt (Heap.lt_size hq))).trans (Heap.get?_push_of_some _ hq)
end
end L2

set_option linter.all false
set_option maxHeartbeats 4000000
set_option maxRecDepth 100000
namespace KP
open PySem L2
/-! the text by places -/
def top (i : Nat) : Stmt := PySem.Challenge.pw_panehouse_k40_natural_heights.main.body.getD i (.Pass ⟨0, 0, 0, 0⟩)
abbrev s_boxes_of : Stmt := top 1
abbrev s_kid_names : Stmt := top 2
abbrev s_limited : Stmt := top 4
abbrev s_broken : Stmt := top 5
abbrev s_inside_of : Stmt := top 7
abbrev s_gaps_of : Stmt := top 8
abbrev s_limited_wide : Stmt := top 9
abbrev s_words_needs : Stmt := top 10
abbrev s_kids_needs : Stmt := top 11
abbrev s_need_of : Stmt := top 12
abbrev s_needs_of : Stmt := top 13
abbrev s_asked_wide : Stmt := top 14
abbrev s_limited_high : Stmt := top 16
abbrev s_naturals_in : Stmt := top 17
abbrev s_tallest : Stmt := top 18
abbrev s_natural_lines : Stmt := top 19
abbrev s_inner_high : Stmt := top 20
abbrev s_natural_of : Stmt := top 21
abbrev s_part_in_row : Stmt := top 23
abbrev s_part_in_flow : Stmt := top 24
abbrev s_parts_in : Stmt := top 25
abbrev s_flow_lines : Stmt := top 26
abbrev s_lines_of : Stmt := top 27
abbrev s_plain_shape : Stmt := top 30
abbrev s_l_cell : Stmt := top 32
abbrev s_l_mix : Stmt := top 33
abbrev s_l_whole : Stmt := top 34
abbrev s_l_names : Stmt := top 35
abbrev s_l_words : Stmt := top 36
abbrev s_l_box : Stmt := top 37
abbrev s_l_doc : Stmt := top 38
abbrev s_l_size : Stmt := top 39
abbrev s_l_shape : Stmt := top 40
abbrev s_l_all : Stmt := top 41
abbrev s_l_shapes : Stmt := top 42
abbrev s_l_limited : Stmt := top 43
abbrev s_l_inside : Stmt := top 44
abbrev s_l_line_naturals : Stmt := top 45
abbrev s_l_natural : Stmt := top 46
abbrev s_law : Stmt := top 47
-- boxes_of: 0=doc 1=boxes 2=waiting 3=box
abbrev N_boxes_of : List Str := ["doc", "boxes", "waiting", "box"]
abbrev P_boxes_of : List Str := ["doc"]
theorem sc_boxes_of : FnScope N_boxes_of P_boxes_of (defScope s_boxes_of) := ⟨rfl, rfl, rfl, by decide +kernel, rfl, by decide +kernel, by decide +kernel⟩
-- kid_names: 0=box
abbrev N_kid_names : List Str := ["box"]
abbrev P_kid_names : List Str := ["box"]
theorem sc_kid_names : FnScope N_kid_names P_kid_names (defScope s_kid_names) := ⟨rfl, rfl, rfl, by decide +kernel, rfl, by decide +kernel, by decide +kernel⟩
-- limited: 0=n 1=least 2=most
abbrev N_limited : List Str := ["n", "least", "most"]
abbrev P_limited : List Str := ["n", "least", "most"]
theorem sc_limited : FnScope N_limited P_limited (defScope s_limited) := ⟨rfl, rfl, rfl, by decide +kernel, rfl, by decide +kernel, by decide +kernel⟩
-- broken: 0=text 1=wide 2=rows 3=word
abbrev N_broken : List Str := ["text", "wide", "rows", "word"]
abbrev P_broken : List Str := ["text", "wide"]
theorem sc_broken : FnScope N_broken P_broken (defScope s_broken) := ⟨rfl, rfl, rfl, by decide +kernel, rfl, by decide +kernel, by decide +kernel⟩
-- inside_of: 0=shape 1=size
abbrev N_inside_of : List Str := ["shape", "size"]
abbrev P_inside_of : List Str := ["shape", "size"]
theorem sc_inside_of : FnScope N_inside_of P_inside_of (defScope s_inside_of) := ⟨rfl, rfl, rfl, by decide +kernel, rfl, by decide +kernel, by decide +kernel⟩
-- gaps_of: 0=shape 1=many
abbrev N_gaps_of : List Str := ["shape", "many"]
abbrev P_gaps_of : List Str := ["shape", "many"]
theorem sc_gaps_of : FnScope N_gaps_of P_gaps_of (defScope s_gaps_of) := ⟨rfl, rfl, rfl, by decide +kernel, rfl, by decide +kernel, by decide +kernel⟩
-- limited_wide: 0=shape 1=wide
abbrev N_limited_wide : List Str := ["shape", "wide"]
abbrev P_limited_wide : List Str := ["shape", "wide"]
theorem sc_limited_wide : FnScope N_limited_wide P_limited_wide (defScope s_limited_wide) := ⟨rfl, rfl, rfl, by decide +kernel, rfl, by decide +kernel, by decide +kernel⟩
-- words_needs: 0=text
abbrev N_words_needs : List Str := ["text"]
abbrev P_words_needs : List Str := ["text"]
theorem sc_words_needs : FnScope N_words_needs P_words_needs (defScope s_words_needs) := ⟨rfl, rfl, rfl, by decide +kernel, rfl, by decide +kernel, by decide +kernel⟩
-- kids_needs: 0=box 1=shape 2=pairs 3=leasts 4=holds 5=gaps 6=many
abbrev N_kids_needs : List Str := ["box", "shape", "pairs", "leasts", "holds", "gaps", "many"]
abbrev P_kids_needs : List Str := ["box", "shape", "pairs"]
theorem sc_kids_needs : FnScope N_kids_needs P_kids_needs (defScope s_kids_needs) := ⟨rfl, rfl, rfl, by decide +kernel, rfl, by decide +kernel, by decide +kernel⟩
-- need_of: 0=box 1=shapes 2=needs 3=shape 4=inner 5=sizes
abbrev N_need_of : List Str := ["box", "shapes", "needs", "shape", "inner", "sizes"]
abbrev P_need_of : List Str := ["box", "shapes", "needs"]
theorem sc_need_of : FnScope N_need_of P_need_of (defScope s_need_of) := ⟨rfl, rfl, rfl, by decide +kernel, rfl, by decide +kernel, by decide +kernel⟩
-- needs_of: 0=doc 1=shapes 2=boxes 3=needs 4=box
abbrev N_needs_of : List Str := ["doc", "shapes", "boxes", "needs", "box"]
abbrev P_needs_of : List Str := ["doc", "shapes"]
theorem sc_needs_of : FnScope N_needs_of P_needs_of (defScope s_needs_of) := ⟨rfl, rfl, rfl, by decide +kernel, rfl, by decide +kernel, by decide +kernel⟩
-- asked_wide: 0=shape 1=needs 2=wide 3=asked
abbrev N_asked_wide : List Str := ["shape", "needs", "wide", "asked"]
abbrev P_asked_wide : List Str := ["shape", "needs", "wide"]
theorem sc_asked_wide : FnScope N_asked_wide P_asked_wide (defScope s_asked_wide) := ⟨rfl, rfl, rfl, by decide +kernel, rfl, by decide +kernel, by decide +kernel⟩
-- limited_high: 0=shape 1=high
abbrev N_limited_high : List Str := ["shape", "high"]
abbrev P_limited_high : List Str := ["shape", "high"]
theorem sc_limited_high : FnScope N_limited_high P_limited_high (defScope s_limited_high) := ⟨rfl, rfl, rfl, by decide +kernel, rfl, by decide +kernel, by decide +kernel⟩
-- naturals_in: 0=box 1=naturals
abbrev N_naturals_in : List Str := ["box", "naturals"]
abbrev P_naturals_in : List Str := ["box", "naturals"]
theorem sc_naturals_in : FnScope N_naturals_in P_naturals_in (defScope s_naturals_in) := ⟨rfl, rfl, rfl, by decide +kernel, rfl, by decide +kernel, by decide +kernel⟩
-- tallest: 0=sizes 1=line
abbrev N_tallest : List Str := ["sizes", "line"]
abbrev P_tallest : List Str := ["sizes", "line"]
theorem sc_tallest : FnScope N_tallest P_tallest (defScope s_tallest) := ⟨rfl, rfl, rfl, by decide +kernel, rfl, by decide +kernel, by decide +kernel⟩
-- natural_lines: 0=box 1=naturals 2=lines 3=sizes
abbrev N_natural_lines : List Str := ["box", "naturals", "lines", "sizes"]
abbrev P_natural_lines : List Str := ["box", "naturals", "lines"]
theorem sc_natural_lines : FnScope N_natural_lines P_natural_lines (defScope s_natural_lines) := ⟨rfl, rfl, rfl, by decide +kernel, rfl, by decide +kernel, by decide +kernel⟩
-- inner_high: 0=box 1=shape 2=naturals 3=lines 4=wide
abbrev N_inner_high : List Str := ["box", "shape", "naturals", "lines", "wide"]
abbrev P_inner_high : List Str := ["box", "shape", "naturals", "lines", "wide"]
theorem sc_inner_high : FnScope N_inner_high P_inner_high (defScope s_inner_high) := ⟨rfl, rfl, rfl, by decide +kernel, rfl, by decide +kernel, by decide +kernel⟩
-- natural_of: 0=box 1=shapes 2=naturals 3=lines 4=wide 5=shape 6=size
abbrev N_natural_of : List Str := ["box", "shapes", "naturals", "lines", "wide", "shape", "size"]
abbrev P_natural_of : List Str := ["box", "shapes", "naturals", "lines", "wide"]
theorem sc_natural_of : FnScope N_natural_of P_natural_of (defScope s_natural_of) := ⟨rfl, rfl, rfl, by decide +kernel, rfl, by decide +kernel, by decide +kernel⟩
-- part_in_row: 0=shape 1=need 2=asked 3=least 4=hold 5=size
abbrev N_part_in_row : List Str := ["shape", "need", "asked", "least", "hold", "size"]
abbrev P_part_in_row : List Str := ["shape", "need"]
theorem sc_part_in_row : FnScope N_part_in_row P_part_in_row (defScope s_part_in_row) := ⟨rfl, rfl, rfl, by decide +kernel, rfl, by decide +kernel, by decide +kernel⟩
-- part_in_flow: 0=shape 1=need 2=inside 3=begin
abbrev N_part_in_flow : List Str := ["shape", "need", "inside", "begin"]
abbrev P_part_in_flow : List Str := ["shape", "need", "inside"]
theorem sc_part_in_flow : FnScope N_part_in_flow P_part_in_flow (defScope s_part_in_flow) := ⟨rfl, rfl, rfl, by decide +kernel, rfl, by decide +kernel, by decide +kernel⟩
-- parts_in: 0=box 1=shapes 2=needs 3=wide 4=names 5=inside
abbrev N_parts_in : List Str := ["box", "shapes", "needs", "wide", "names", "inside"]
abbrev P_parts_in : List Str := ["box", "shapes", "needs", "wide"]
theorem sc_parts_in : FnScope N_parts_in P_parts_in (defScope s_parts_in) := ⟨rfl, rfl, rfl, by decide +kernel, rfl, by decide +kernel, by decide +kernel⟩
-- flow_lines: 0=begins 1=gap 2=inside 3=lines 4=end 5=place 6=begin
abbrev N_flow_lines : List Str := ["begins", "gap", "inside", "lines", "end", "place", "begin"]
abbrev P_flow_lines : List Str := ["begins", "gap", "inside"]
theorem sc_flow_lines : FnScope N_flow_lines P_flow_lines (defScope s_flow_lines) := ⟨rfl, rfl, rfl, by decide +kernel, rfl, by decide +kernel, by decide +kernel⟩
-- lines_of: 0=box 1=shapes 2=needs 3=wide 4=many 5=places 6=shape 7=begins
abbrev N_lines_of : List Str := ["box", "shapes", "needs", "wide", "many", "places", "shape", "begins"]
abbrev P_lines_of : List Str := ["box", "shapes", "needs", "wide"]
theorem sc_lines_of : FnScope N_lines_of P_lines_of (defScope s_lines_of) := ⟨rfl, rfl, rfl, by decide +kernel, rfl, by decide +kernel, by decide +kernel⟩
-- plain_shape: 
abbrev N_plain_shape : List Str := []
abbrev P_plain_shape : List Str := []
theorem sc_plain_shape : FnScope N_plain_shape P_plain_shape (defScope s_plain_shape) := ⟨rfl, rfl, rfl, by decide +kernel, rfl, by decide +kernel, by decide +kernel⟩
-- _law_cell: 0=_law_script 1=_law_k
abbrev N_l_cell : List Str := ["_law_script", "_law_k"]
abbrev P_l_cell : List Str := ["_law_script", "_law_k"]
theorem sc_l_cell : FnScope N_l_cell P_l_cell (defScope s_l_cell) := ⟨rfl, rfl, rfl, by decide +kernel, rfl, by decide +kernel, by decide +kernel⟩
-- _law_mix: 0=_law_state 1=_law_cell_here
abbrev N_l_mix : List Str := ["_law_state", "_law_cell_here"]
abbrev P_l_mix : List Str := ["_law_state", "_law_cell_here"]
theorem sc_l_mix : FnScope N_l_mix P_l_mix (defScope s_l_mix) := ⟨rfl, rfl, rfl, by decide +kernel, rfl, by decide +kernel, by decide +kernel⟩
-- _law_whole: 0=_law_found
abbrev N_l_whole : List Str := ["_law_found"]
abbrev P_l_whole : List Str := ["_law_found"]
theorem sc_l_whole : FnScope N_l_whole P_l_whole (defScope s_l_whole) := ⟨rfl, rfl, rfl, by decide +kernel, rfl, by decide +kernel, by decide +kernel⟩
-- _law_names: 0=_law_state 1=_law_many 2=_law_signs 3=_law_size_here 4=_law_base 5=_law_k 6=_law_at 7=_law_first 8=_law_found 9=_law_name
abbrev N_l_names : List Str := ["_law_state", "_law_many", "_law_signs", "_law_size_here", "_law_base", "_law_k", "_law_at", "_law_first", "_law_found", "_law_name"]
abbrev P_l_names : List Str := ["_law_state", "_law_many"]
theorem sc_l_names : FnScope N_l_names P_l_names (defScope s_l_names) := ⟨rfl, rfl, rfl, by decide +kernel, rfl, by decide +kernel, by decide +kernel⟩
-- _law_words: 0=_law_state 1=_law_signs 2=_law_found 3=_law_k 4=_law_word 5=_law_turn
abbrev N_l_words : List Str := ["_law_state", "_law_signs", "_law_found", "_law_k", "_law_word", "_law_turn"]
abbrev P_l_words : List Str := ["_law_state"]
theorem sc_l_words : FnScope N_l_words P_l_words (defScope s_l_words) := ⟨rfl, rfl, rfl, by decide +kernel, rfl, by decide +kernel, by decide +kernel⟩
-- _law_box: 0=_law_state 1=_law_names_here 2=_law_deep 3=_law_name 4=_law_way 5=_law_kind 6=_law_kids 7=_law_k 8=_law_more
abbrev N_l_box : List Str := ["_law_state", "_law_names_here", "_law_deep", "_law_name", "_law_way", "_law_kind", "_law_kids", "_law_k", "_law_more"]
abbrev P_l_box : List Str := ["_law_state", "_law_names_here", "_law_deep"]
theorem sc_l_box : FnScope N_l_box P_l_box (defScope s_l_box) := ⟨rfl, rfl, rfl, by decide +kernel, rfl, by decide +kernel, by decide +kernel⟩
-- _law_doc: 0=_law_state 1=_law_many 2=_law_names_here 3=_law_root 4=_law_kind 5=_law_kids 6=_law_k 7=_law_more
abbrev N_l_doc : List Str := ["_law_state", "_law_many", "_law_names_here", "_law_root", "_law_kind", "_law_kids", "_law_k", "_law_more"]
abbrev P_l_doc : List Str := ["_law_state", "_law_many"]
theorem sc_l_doc : FnScope N_l_doc P_l_doc (defScope s_l_doc) := ⟨rfl, rfl, rfl, by decide +kernel, rfl, by decide +kernel, by decide +kernel⟩
-- _law_size: 0=_law_state 1=_law_way
abbrev N_l_size : List Str := ["_law_state", "_law_way"]
abbrev P_l_size : List Str := ["_law_state"]
theorem sc_l_size : FnScope N_l_size P_l_size (defScope s_l_size) := ⟨rfl, rfl, rfl, by decide +kernel, rfl, by decide +kernel, by decide +kernel⟩
-- _law_shape: 0=_law_state 1=_law_found 2=_law_way
abbrev N_l_shape : List Str := ["_law_state", "_law_found", "_law_way"]
abbrev P_l_shape : List Str := ["_law_state"]
theorem sc_l_shape : FnScope N_l_shape P_l_shape (defScope s_l_shape) := ⟨rfl, rfl, rfl, by decide +kernel, rfl, by decide +kernel, by decide +kernel⟩
-- _law_all: 0=_law_box_here 1=_law_found 2=_law_kid
abbrev N_l_all : List Str := ["_law_box_here", "_law_found", "_law_kid"]
abbrev P_l_all : List Str := ["_law_box_here"]
theorem sc_l_all : FnScope N_l_all P_l_all (defScope s_l_all) := ⟨rfl, rfl, rfl, by decide +kernel, rfl, by decide +kernel, by decide +kernel⟩
-- _law_shapes: 0=_law_state 1=_law_doc_here
abbrev N_l_shapes : List Str := ["_law_state", "_law_doc_here"]
abbrev P_l_shapes : List Str := ["_law_state", "_law_doc_here"]
theorem sc_l_shapes : FnScope N_l_shapes P_l_shapes (defScope s_l_shapes) := ⟨rfl, rfl, rfl, by decide +kernel, rfl, by decide +kernel, by decide +kernel⟩
-- _law_limited: 0=_law_number 1=_law_least 2=_law_most
abbrev N_l_limited : List Str := ["_law_number", "_law_least", "_law_most"]
abbrev P_l_limited : List Str := ["_law_number", "_law_least", "_law_most"]
theorem sc_l_limited : FnScope N_l_limited P_l_limited (defScope s_l_limited) := ⟨rfl, rfl, rfl, by decide +kernel, rfl, by decide +kernel, by decide +kernel⟩
-- _law_inside: 0=_law_number 1=_law_shape_here
abbrev N_l_inside : List Str := ["_law_number", "_law_shape_here"]
abbrev P_l_inside : List Str := ["_law_number", "_law_shape_here"]
theorem sc_l_inside : FnScope N_l_inside P_l_inside (defScope s_l_inside) := ⟨rfl, rfl, rfl, by decide +kernel, rfl, by decide +kernel, by decide +kernel⟩
-- _law_line_naturals: 0=_law_box_here 1=_law_naturals 2=_law_lines
abbrev N_l_line_naturals : List Str := ["_law_box_here", "_law_naturals", "_law_lines"]
abbrev P_l_line_naturals : List Str := ["_law_box_here", "_law_naturals", "_law_lines"]
theorem sc_l_line_naturals : FnScope N_l_line_naturals P_l_line_naturals (defScope s_l_line_naturals) := ⟨rfl, rfl, rfl, by decide +kernel, rfl, by decide +kernel, by decide +kernel⟩
-- _law_natural: 0=_law_box_here 1=_law_shape_here 2=_law_naturals 3=_law_lines 4=_law_wide 5=_law_inner 6=_law_number
abbrev N_l_natural : List Str := ["_law_box_here", "_law_shape_here", "_law_naturals", "_law_lines", "_law_wide", "_law_inner", "_law_number"]
abbrev P_l_natural : List Str := ["_law_box_here", "_law_shape_here", "_law_naturals", "_law_lines", "_law_wide"]
theorem sc_l_natural : FnScope N_l_natural P_l_natural (defScope s_l_natural) := ⟨rfl, rfl, rfl, by decide +kernel, rfl, by decide +kernel, by decide +kernel⟩
-- law: 0=_law_script 1=_law_state 2=_law_doc_here 3=_law_shapes_here 4=_law_needs 5=_law_boxes 6=_law_box_here 7=_law_wide 8=_law_lines 9=_law_naturals 10=_law_handed 11=_law_due 12=_law_turn 13=_law_found
abbrev N_law : List Str := ["_law_script", "_law_state", "_law_doc_here", "_law_shapes_here", "_law_needs", "_law_boxes", "_law_box_here", "_law_wide", "_law_lines", "_law_naturals", "_law_handed", "_law_due", "_law_turn", "_law_found"]
abbrev P_law : List Str := ["_law_script"]
theorem sc_law : FnScope N_law P_law (defScope s_law) := ⟨rfl, rfl, rfl, by decide +kernel, rfl, by decide +kernel, by decide +kernel⟩
/-- the addresses of the defs, as the top has made them -/
structure Adr where
  wd : World
  f_boxes_of : Addr
  d_boxes_of : FuncData
  f_kid_names : Addr
  d_kid_names : FuncData
  f_limited : Addr
  d_limited : FuncData
  f_broken : Addr
  d_broken : FuncData
  f_inside_of : Addr
  d_inside_of : FuncData
  f_gaps_of : Addr
  d_gaps_of : FuncData
  f_limited_wide : Addr
  d_limited_wide : FuncData
  f_words_needs : Addr
  d_words_needs : FuncData
  f_kids_needs : Addr
  d_kids_needs : FuncData
  f_need_of : Addr
  d_need_of : FuncData
  f_needs_of : Addr
  d_needs_of : FuncData
  f_asked_wide : Addr
  d_asked_wide : FuncData
  f_limited_high : Addr
  d_limited_high : FuncData
  f_naturals_in : Addr
  d_naturals_in : FuncData
  f_tallest : Addr
  d_tallest : FuncData
  f_natural_lines : Addr
  d_natural_lines : FuncData
  f_inner_high : Addr
  d_inner_high : FuncData
  f_natural_of : Addr
  d_natural_of : FuncData
  f_part_in_row : Addr
  d_part_in_row : FuncData
  f_part_in_flow : Addr
  d_part_in_flow : FuncData
  f_parts_in : Addr
  d_parts_in : FuncData
  f_flow_lines : Addr
  d_flow_lines : FuncData
  f_lines_of : Addr
  d_lines_of : FuncData
  f_plain_shape : Addr
  d_plain_shape : FuncData
  f_l_cell : Addr
  d_l_cell : FuncData
  f_l_mix : Addr
  d_l_mix : FuncData
  f_l_whole : Addr
  d_l_whole : FuncData
  f_l_names : Addr
  d_l_names : FuncData
  f_l_words : Addr
  d_l_words : FuncData
  f_l_box : Addr
  d_l_box : FuncData
  f_l_doc : Addr
  d_l_doc : FuncData
  f_l_size : Addr
  d_l_size : FuncData
  f_l_shape : Addr
  d_l_shape : FuncData
  f_l_all : Addr
  d_l_all : FuncData
  f_l_shapes : Addr
  d_l_shapes : FuncData
  f_l_limited : Addr
  d_l_limited : FuncData
  f_l_inside : Addr
  d_l_inside : FuncData
  f_l_line_naturals : Addr
  d_l_line_naturals : FuncData
  f_l_natural : Addr
  d_l_natural : FuncData
  f_law : Addr
  d_law : FuncData
structure Txt (K : PySem.W.Frag) (mg : Str → Option Value) (A : Adr) : Prop where
  F_boxes_of : Fun K "boxes_of" "boxes_of" s_boxes_of A.f_boxes_of A.d_boxes_of
  b_boxes_of : Binds K A.d_boxes_of P_boxes_of []
  m_boxes_of : mg "boxes_of" = some (.ref A.f_boxes_of)
  F_kid_names : Fun K "kid_names" "kid_names" s_kid_names A.f_kid_names A.d_kid_names
  b_kid_names : Binds K A.d_kid_names P_kid_names []
  m_kid_names : mg "kid_names" = some (.ref A.f_kid_names)
  F_limited : Fun K "limited" "limited" s_limited A.f_limited A.d_limited
  b_limited : Binds K A.d_limited P_limited []
  m_limited : mg "limited" = some (.ref A.f_limited)
  F_broken : Fun K "broken" "broken" s_broken A.f_broken A.d_broken
  b_broken : Binds K A.d_broken P_broken []
  m_broken : mg "broken" = some (.ref A.f_broken)
  F_inside_of : Fun K "inside_of" "inside_of" s_inside_of A.f_inside_of A.d_inside_of
  b_inside_of : Binds K A.d_inside_of P_inside_of []
  m_inside_of : mg "inside_of" = some (.ref A.f_inside_of)
  F_gaps_of : Fun K "gaps_of" "gaps_of" s_gaps_of A.f_gaps_of A.d_gaps_of
  b_gaps_of : Binds K A.d_gaps_of P_gaps_of []
  m_gaps_of : mg "gaps_of" = some (.ref A.f_gaps_of)
  F_limited_wide : Fun K "limited_wide" "limited_wide" s_limited_wide A.f_limited_wide A.d_limited_wide
  b_limited_wide : Binds K A.d_limited_wide P_limited_wide []
  m_limited_wide : mg "limited_wide" = some (.ref A.f_limited_wide)
  F_words_needs : Fun K "words_needs" "words_needs" s_words_needs A.f_words_needs A.d_words_needs
  b_words_needs : Binds K A.d_words_needs P_words_needs []
  m_words_needs : mg "words_needs" = some (.ref A.f_words_needs)
  F_kids_needs : Fun K "kids_needs" "kids_needs" s_kids_needs A.f_kids_needs A.d_kids_needs
  b_kids_needs : Binds K A.d_kids_needs P_kids_needs []
  m_kids_needs : mg "kids_needs" = some (.ref A.f_kids_needs)
  F_need_of : Fun K "need_of" "need_of" s_need_of A.f_need_of A.d_need_of
  b_need_of : Binds K A.d_need_of P_need_of []
  m_need_of : mg "need_of" = some (.ref A.f_need_of)
  F_needs_of : Fun K "needs_of" "needs_of" s_needs_of A.f_needs_of A.d_needs_of
  b_needs_of : Binds K A.d_needs_of P_needs_of []
  m_needs_of : mg "needs_of" = some (.ref A.f_needs_of)
  F_asked_wide : Fun K "asked_wide" "asked_wide" s_asked_wide A.f_asked_wide A.d_asked_wide
  b_asked_wide : Binds K A.d_asked_wide P_asked_wide []
  m_asked_wide : mg "asked_wide" = some (.ref A.f_asked_wide)
  F_limited_high : Fun K "limited_high" "limited_high" s_limited_high A.f_limited_high A.d_limited_high
  b_limited_high : Binds K A.d_limited_high P_limited_high []
  m_limited_high : mg "limited_high" = some (.ref A.f_limited_high)
  F_naturals_in : Fun K "naturals_in" "naturals_in" s_naturals_in A.f_naturals_in A.d_naturals_in
  b_naturals_in : Binds K A.d_naturals_in P_naturals_in []
  m_naturals_in : mg "naturals_in" = some (.ref A.f_naturals_in)
  F_tallest : Fun K "tallest" "tallest" s_tallest A.f_tallest A.d_tallest
  b_tallest : Binds K A.d_tallest P_tallest []
  m_tallest : mg "tallest" = some (.ref A.f_tallest)
  F_natural_lines : Fun K "natural_lines" "natural_lines" s_natural_lines A.f_natural_lines A.d_natural_lines
  b_natural_lines : Binds K A.d_natural_lines P_natural_lines []
  m_natural_lines : mg "natural_lines" = some (.ref A.f_natural_lines)
  F_inner_high : Fun K "inner_high" "inner_high" s_inner_high A.f_inner_high A.d_inner_high
  b_inner_high : Binds K A.d_inner_high P_inner_high []
  m_inner_high : mg "inner_high" = some (.ref A.f_inner_high)
  F_natural_of : Fun K "natural_of" "natural_of" s_natural_of A.f_natural_of A.d_natural_of
  b_natural_of : Binds K A.d_natural_of P_natural_of []
  m_natural_of : mg "natural_of" = some (.ref A.f_natural_of)
  F_part_in_row : Fun K "part_in_row" "part_in_row" s_part_in_row A.f_part_in_row A.d_part_in_row
  b_part_in_row : Binds K A.d_part_in_row P_part_in_row []
  m_part_in_row : mg "part_in_row" = some (.ref A.f_part_in_row)
  F_part_in_flow : Fun K "part_in_flow" "part_in_flow" s_part_in_flow A.f_part_in_flow A.d_part_in_flow
  b_part_in_flow : Binds K A.d_part_in_flow P_part_in_flow []
  m_part_in_flow : mg "part_in_flow" = some (.ref A.f_part_in_flow)
  F_parts_in : Fun K "parts_in" "parts_in" s_parts_in A.f_parts_in A.d_parts_in
  b_parts_in : Binds K A.d_parts_in P_parts_in []
  m_parts_in : mg "parts_in" = some (.ref A.f_parts_in)
  F_flow_lines : Fun K "flow_lines" "flow_lines" s_flow_lines A.f_flow_lines A.d_flow_lines
  b_flow_lines : Binds K A.d_flow_lines P_flow_lines []
  m_flow_lines : mg "flow_lines" = some (.ref A.f_flow_lines)
  F_lines_of : Fun K "lines_of" "lines_of" s_lines_of A.f_lines_of A.d_lines_of
  b_lines_of : Binds K A.d_lines_of P_lines_of []
  m_lines_of : mg "lines_of" = some (.ref A.f_lines_of)
  F_plain_shape : Fun K "plain_shape" "plain_shape" s_plain_shape A.f_plain_shape A.d_plain_shape
  b_plain_shape : Binds K A.d_plain_shape P_plain_shape []
  m_plain_shape : mg "plain_shape" = some (.ref A.f_plain_shape)
  F_l_cell : Fun K "_law_cell" "_law_cell" s_l_cell A.f_l_cell A.d_l_cell
  b_l_cell : Binds K A.d_l_cell P_l_cell []
  m_l_cell : mg "_law_cell" = some (.ref A.f_l_cell)
  F_l_mix : Fun K "_law_mix" "_law_mix" s_l_mix A.f_l_mix A.d_l_mix
  b_l_mix : Binds K A.d_l_mix P_l_mix []
  m_l_mix : mg "_law_mix" = some (.ref A.f_l_mix)
  F_l_whole : Fun K "_law_whole" "_law_whole" s_l_whole A.f_l_whole A.d_l_whole
  b_l_whole : Binds K A.d_l_whole P_l_whole []
  m_l_whole : mg "_law_whole" = some (.ref A.f_l_whole)
  F_l_names : Fun K "_law_names" "_law_names" s_l_names A.f_l_names A.d_l_names
  b_l_names : Binds K A.d_l_names P_l_names []
  m_l_names : mg "_law_names" = some (.ref A.f_l_names)
  F_l_words : Fun K "_law_words" "_law_words" s_l_words A.f_l_words A.d_l_words
  b_l_words : Binds K A.d_l_words P_l_words []
  m_l_words : mg "_law_words" = some (.ref A.f_l_words)
  F_l_box : Fun K "_law_box" "_law_box" s_l_box A.f_l_box A.d_l_box
  b_l_box : Binds K A.d_l_box P_l_box []
  m_l_box : mg "_law_box" = some (.ref A.f_l_box)
  F_l_doc : Fun K "_law_doc" "_law_doc" s_l_doc A.f_l_doc A.d_l_doc
  b_l_doc : Binds K A.d_l_doc P_l_doc []
  m_l_doc : mg "_law_doc" = some (.ref A.f_l_doc)
  F_l_size : Fun K "_law_size" "_law_size" s_l_size A.f_l_size A.d_l_size
  b_l_size : Binds K A.d_l_size P_l_size []
  m_l_size : mg "_law_size" = some (.ref A.f_l_size)
  F_l_shape : Fun K "_law_shape" "_law_shape" s_l_shape A.f_l_shape A.d_l_shape
  b_l_shape : Binds K A.d_l_shape P_l_shape []
  m_l_shape : mg "_law_shape" = some (.ref A.f_l_shape)
  F_l_all : Fun K "_law_all" "_law_all" s_l_all A.f_l_all A.d_l_all
  b_l_all : Binds K A.d_l_all P_l_all []
  m_l_all : mg "_law_all" = some (.ref A.f_l_all)
  F_l_shapes : Fun K "_law_shapes" "_law_shapes" s_l_shapes A.f_l_shapes A.d_l_shapes
  b_l_shapes : Binds K A.d_l_shapes P_l_shapes []
  m_l_shapes : mg "_law_shapes" = some (.ref A.f_l_shapes)
  F_l_limited : Fun K "_law_limited" "_law_limited" s_l_limited A.f_l_limited A.d_l_limited
  b_l_limited : Binds K A.d_l_limited P_l_limited []
  m_l_limited : mg "_law_limited" = some (.ref A.f_l_limited)
  F_l_inside : Fun K "_law_inside" "_law_inside" s_l_inside A.f_l_inside A.d_l_inside
  b_l_inside : Binds K A.d_l_inside P_l_inside []
  m_l_inside : mg "_law_inside" = some (.ref A.f_l_inside)
  F_l_line_naturals : Fun K "_law_line_naturals" "_law_line_naturals" s_l_line_naturals A.f_l_line_naturals A.d_l_line_naturals
  b_l_line_naturals : Binds K A.d_l_line_naturals P_l_line_naturals []
  m_l_line_naturals : mg "_law_line_naturals" = some (.ref A.f_l_line_naturals)
  F_l_natural : Fun K "_law_natural" "_law_natural" s_l_natural A.f_l_natural A.d_l_natural
  b_l_natural : Binds K A.d_l_natural P_l_natural []
  m_l_natural : mg "_law_natural" = some (.ref A.f_l_natural)
  F_law : Fun K "law" "law" s_law A.f_law A.d_law
  b_law : Binds K A.d_law P_law []
  m_law : mg "law" = some (.ref A.f_law)
  g_PLAIN : ∃ a x_PLAIN0 x_PLAIN1 : Addr, mg "PLAIN" = some (.ref a) ∧ DcIn A.wd K a [(Sum.inr "wide", .ref x_PLAIN0), (Sum.inr "high", .ref x_PLAIN1), (Sum.inr "leastw", .int 0), (Sum.inr "mostw", .int 400), (Sum.inr "leasth", .int 0), (Sum.inr "mosth", .int 400), (Sum.inr "pad", .int 0), (Sum.inr "gap", .int 0), (Sum.inr "over", .bl false), (Sum.inr "able", .bl false), (Sum.inr "fill", .str ""), (Sum.inr "ink", .str "as")]
  n_bool : mg "bool" = none
  n_dict : mg "dict" = none
  n_enumerate : mg "enumerate" = none
  n_int : mg "int" = none
  n_isinstance : mg "isinstance" = none
  n_len : mg "len" = none
  n_list : mg "list" = none
  n_max : mg "max" = none
  n_min : mg "min" = none
  n_range : mg "range" = none
  n_reversed : mg "reversed" = none
  n_sum : mg "sum" = none
  n_tuple : mg "tuple" = none
  kit : kitAll K = true
end KP

set_option linter.all false
set_option maxHeartbeats 4000000
set_option maxRecDepth 100000
namespace KP
open PySem L2 PyProof.Rows

theorem b_isinstance : bootBuiltins "isinstance" = some (.builtin "isinstance") := by decide +kernel
theorem b_int : bootBuiltins "int" = some (.type "int") := by decide +kernel
theorem b_bool : bootBuiltins "bool" = some (.type "bool") := by decide +kernel
theorem b_list : bootBuiltins "list" = some (.type "list") := by decide +kernel
theorem b_tuple : bootBuiltins "tuple" = some (.type "tuple") := by decide +kernel
theorem b_sum : bootBuiltins "sum" = some (.builtin "sum") := by decide +kernel
theorem b_max : bootBuiltins "max" = some (.builtin "max") := by decide +kernel
theorem b_min : bootBuiltins "min" = some (.builtin "min") := by decide +kernel
theorem b_len : bootBuiltins "len" = some (.builtin "len") := by decide +kernel

/-- a list or a tuple of ints, tracked -/
def WT (H : Hp) (p : Addr) (ws : List Int) : Prop := H p = some (.lst (ws.map V.int)) ∨ H p = some (.tup (ws.map V.int))
theorem same_upd {H : Hp} {p : Addr} (h : H p = none) (o : HO) : Same H (upd H p o) := fun b u q => by rw [upd_ne (ne_of_none q h)]; exact q
theorem small {n : Nat} (h : n ≤ 1000) : n ≤ sizeLine := Nat.le_of_lt (small1000 h)
theorem atI_int {xs : List Int} {j : Nat} (h : j < xs.length) : atI (xs.map V.int) (j : Int) = some (.int (xs.getD j 0)) := by
  refine atI_nat ?_
  rw [List.getElem?_map, List.getElem?_eq_getElem h, List.getD_eq_getElem?_getD, List.getElem?_eq_getElem h]; rfl
theorem cut_take (xs : List V) (n : Int) (h0 : 0 ≤ n) : cutV xs none (some n) = xs.take n.toNat := by
  obtain ⟨k, rfl⟩ := Int.eq_ofNat_of_zero_le h0
  unfold cutV
  rw [HT.sIx_none, HT.sIx_nat, Nat.sub_zero, List.drop_zero]
  by_cases h : k ≤ xs.length
  · rw [Nat.min_eq_left h]; simp
  · rw [Nat.min_eq_right (by omega), List.take_length, List.take_of_length_le (by simp; omega)]

theorem atI_mem {xs : List V} {i : Int} (h0 : 0 ≤ i) (h : i < xs.length) : ∃ v, atI xs i = some v ∧ v ∈ xs := by
  obtain ⟨k, rfl⟩ := Int.eq_ofNat_of_zero_le h0
  have hk : k < xs.length := by omega
  exact ⟨xs[k], atI_nat (List.getElem?_eq_getElem hk), List.getElem_mem hk⟩

section
variable {P : Program} {w : World} {K : PySem.W.Frag} {mg : Str → Option Value} {base : Heap} {A : Adr}

def spCell (K : PySem.W.Frag) : Sp := fun vs H Q _ => ∃ (a : Addr) (ns : List Int) (k : Int), vs = [.ref a, .int k] ∧ SqL K H a (ns.map V.int) ∧ ns.length ≤ 63 ∧ 0 ≤ k ∧ ∀ v : Int, Q (.int v) H
theorem ok_cell (T : Txt K mg A) : FnOk P w K mg base CX0 1 A.f_l_cell A.d_l_cell P_l_cell (spCell K) := by
  refine T.F_l_cell.ok sc_l_cell (fun vs H Q E h => ?_) (fun cdv B outer s H vs Q E hr h => ?_)
  · obtain ⟨a, ns, k, rfl, _⟩ := h; rfl
  obtain ⟨a, ns, k, rfl, hS, hn, h0, q⟩ := h
  refine ⟨_, pss_cons (ps_if (pt_cmpR op_lt (pv 1) (pe_callB call_len_seq rfl T.n_len b_len (pa_cons (pv 0) pa_nil)) (nomark _)) (pss_one (ps_ret (pe_ix ix_list (pv 0) (pv 1) (fun _ _ => rfl)))) pss_nil) (pss_one (ps_ret pe_int)), ?_⟩
  refine ⟨_, rfl, _, rfl, a, _, rfl, .inl hS, _, _, rfl, rfl, _, rfl, ite2 (fun c => ?_) (fun c => ?_)⟩
  · have c' : k < (((ns.map V.int).length : Nat) : Int) := of_decide_eq_true c
    rw [List.length_map] at c'
    obtain ⟨j, rfl⟩ := Int.eq_ofNat_of_zero_le h0
    exact ⟨_, rfl, _, rfl, a, _, _, _, rfl, rfl, hS, atI_int (by omega), q _⟩
  · exact q 0

/-- the law's state: a list of one number -/
def St (st : Addr) (H : Hp) : Prop := ∃ s : Int, H st = some (.lst [.int s]) ∧ 0 ≤ s ∧ s < 2147483648
/-- all but the state is as it was -/
structure Ms (st : Addr) (H H' : Hp) : Prop where
  keep : ∀ b o, b ≠ st → H b = some o → H' b = some o
  st : St st H'
theorem Ms.trans {st : Addr} {H H1 H2 : Hp} (a : Ms st H H1) (b : Ms st H1 H2) : Ms st H H2 := ⟨fun c o n h => b.keep c o n (a.keep c o n h), b.st⟩
theorem Ms.of {st : Addr} {H H' : Hp} (h : St st H) (e : Same H H') : Ms st H H' := ⟨fun b o _ q => e b o q, let ⟨s, a, b⟩ := h; ⟨s, e _ _ a, b⟩⟩
theorem Ms.grow {st : Addr} {H H1 H2 : Hp} (a : Ms st H H1) (e : Same H1 H2) : Ms st H H2 := a.trans (.of a.st e)
/-- the script: not the state, or of the written part -/
def Off (K : PySem.W.Frag) (a st : Addr) (xs : List V) : Prop := a ≠ st ∨ ∀ H : Hp, SqL K H a xs
theorem Off.of {H : Hp} {a st : Addr} {xs : List V} (h : SqL K H a xs) (e : H st = none) : Off K a st xs := by
  rcases h with (h | ⟨o, h⟩) | h
  · exact .inl fun z => by rw [z, e] at h; cases h
  · exact .inl fun z => by rw [z, e] at h; cases h
  · exact .inr fun _ => .inr h
theorem Ms.seq {st : Addr} {H H' : Hp} {a : Addr} {xs : List V} (m : Ms st H H') (n : Off K a st xs) (h : SqL K H a xs) : SqL K H' a xs := by
  rcases n with n | n
  · rcases h with (h | ⟨o, h⟩) | h
    · exact .inl (.inl (m.keep _ _ n h))
    · exact .inl (.inr ⟨o, m.keep _ _ n h⟩)
    · exact .inr h
  · exact n _
theorem Ms.free {st : Addr} {H H' : Hp} (m : Ms st H H') (hs : St st H) {l : Addr} (h : H' l = none) : H l = none := by
  cases q : H l with
  | none => rfl
  | some o =>
    by_cases e : l = st
    · obtain ⟨s, a, _⟩ := m.st
      rw [e, a] at h; cases h
    · rw [m.keep l o e q] at h; cases h

def spMix : Sp := fun vs H Q _ => ∃ (p : Addr) (c : Int), vs = [.ref p, .int c] ∧ St p H ∧ ∀ (r : Int) (H' : Hp), 0 ≤ r → r < 2147483648 → Ms p H H' → (∀ b, H b = none → H' b = none) → Q (.int r) H'
theorem ok_mix (T : Txt K mg A) : FnOk P w K mg base CX0 1 A.f_l_mix A.d_l_mix P_l_mix spMix := by
  refine T.F_l_mix.ok sc_l_mix (fun vs H Q E h => ?_) (fun cdv B outer s H vs Q E hr h => ?_)
  · obtain ⟨p, c, rfl, _⟩ := h; rfl
  obtain ⟨p, c, rfl, ⟨s0, hp, h0, h1⟩, q⟩ := h
  refine ⟨_, pss_cons (ps_asg (pe_op op_mod (pe_op op_add (pe_op op_add (pe_op op_mul (pe_ix ix_list (pv 0) pe_int (fun _ _ => rfl)) pe_int) (pe_op op_mul (pv 1) pe_int)) pe_int) pe_int) (pg_sub (pv 0) pe_int set_list))
    (pss_one (ps_ret (pe_op op_fdiv (pe_op op_mod (pe_op op_mul (pe_ix ix_list (pv 0) pe_int (fun _ _ => rfl)) (pe_ix ix_list (pv 0) pe_int (fun _ _ => rfl))) pe_int) pe_int))), ?_⟩
  refine ⟨_, rfl, p, _, _, _, rfl, rfl, .of hp, rfl, _, _, rfl, rfl, .inl ⟨by omega, by omega⟩, _, rfl, _, _, rfl, rfl, .inr ⟨by decide, by decide⟩, _, _, rfl, rfl, _, _, rfl, rfl, _, _, rfl, rfl, (by show (0 : Int) < 2147483647; decide), ?_⟩
  refine ⟨_, rfl, p, _, _, 0, rfl, rfl, hp, rfl, ?_⟩
  generalize hs1 : (s0 * 48271 + c * 16807 + 11) % 2147483647 = s1
  have b0 : 0 ≤ s1 := by rw [← hs1]; exact Int.emod_nonneg _ (by decide)
  have b1 : s1 < 2147483647 := by rw [← hs1]; exact Int.emod_lt_of_pos _ (by decide)
  refine ⟨_, rfl, p, _, _, _, rfl, rfl, .of upd_same, rfl, _, rfl, p, _, _, _, rfl, rfl, .of upd_same, rfl, _, _, rfl, rfl, .inl ⟨by omega, by omega⟩, _, _, rfl, rfl, (by show (0 : Int) < 2147483647; decide), _, _, rfl, rfl, ⟨by decide, by decide⟩, ?_⟩
  generalize hz : s1 * s1 % 2147483647 = z
  have c0 : 0 ≤ z := by rw [← hz]; exact Int.emod_nonneg _ (by decide)
  have c1 : z < 2147483647 := by rw [← hz]; exact Int.emod_lt_of_pos _ (by decide)
  refine q _ _ (by omega) (by omega) ⟨fun b o n e => by rw [upd_ne n]; exact e, ⟨s1, by rw [upd_same]; show some (HO.lst [V.int ((s0 * 48271 + c * 16807 + 11) % 2147483647)]) = _; rw [hs1], b0, by omega⟩⟩ fun b e => ?_
  rw [upd_ne (fun z => by rw [z, hp] at e; cases e)]; exact e
end
end KP

set_option linter.all false
set_option maxHeartbeats 4000000
set_option maxRecDepth 100000
namespace KP
open PySem L2 PyProof.Rows
section
variable {P : Program} {w : World} {K : PySem.W.Frag} {mg : Str → Option Value} {base : Heap} {A : Adr}
theorem St.ne {st : Addr} {H : Hp} (h : St st H) {l : Addr} (e : H l = none) : l ≠ st := fun z => by obtain ⟨s, a, _⟩ := h; rw [z, a] at e; cases e
theorem Ms.set {st : Addr} {H H' : Hp} (m : Ms st H H') {l : Addr} (o : HO) (e : H l = none) (n : l ≠ st) : Ms st H (upd H' l o) :=
  ⟨fun b u hb q => by rw [upd_ne (ne_of_none q e)]; exact m.keep b u hb q, let ⟨s, a, b⟩ := m.st; ⟨s, by rw [upd_ne n.symm]; exact a, b⟩⟩
theorem Ms.new {st : Addr} {H H' : Hp} (m : Ms st H H') {l : Addr} (o : HO) (e : H' l = none) : Ms st H (upd H' l o) := m.grow (same_upd e o)
theorem St.mk' {H : Hp} {st : Addr} (c : Int) : St st (upd H st (.lst [.int (1 + c % 2147483646)])) :=
  ⟨1 + c % 2147483646, upd_same, by have := Int.emod_nonneg c (show (2147483646 : Int) ≠ 0 by decide); omega, by have := Int.emod_lt_of_pos c (show (0 : Int) < 2147483646 by decide); omega⟩
theorem ix_any {H : Hp} {p : Addr} {xs : List V} {i : Int} {Q : VK} (hS : SqL K H p xs) (h0 : 0 ≤ i) (h1 : i < xs.length) (hq : ∀ v ∈ xs, Q v H) : rIxL K (.ref p) (.int i) H Q := by
  obtain ⟨v, hv, hm⟩ := atI_mem h0 h1
  exact ⟨p, xs, i, v, rfl, rfl, hS, hv, hq v hm⟩
theorem seqIx_natE {n a : Nat} {i : Int} (e : i = (a : Int)) (h : a < n) : seqIndex? i n = some a := by subst e; exact seqIx_nat h
end
end KP

set_option linter.all false
set_option maxHeartbeats 4000000
set_option maxRecDepth 100000
namespace KP
open PySem L2 PyProof.Rows
section
variable {P : Program} {w : World} {K : PySem.W.Frag} {mg : Str → Option Value} {base : Heap} {A : Adr}
def lim (n a b : Int) : Int := if (if b < n then b else n) > a then (if b < n then b else n) else a
theorem dget_s {H : Hp} {a : Addr} {kvs : List (Key × V)} {x : Str} {v : V} (hd : H a = some (.dK kvs)) (e : valV kvs (.inr x) = some v) : DGet H a (.str x) (some v) := by
  rw [← e]; exact DGet.k (k := .inr x) hd
theorem dput_s {H : Hp} {a : Addr} {kvs : List (Key × V)} {x : Str} {v : V} (hd : H a = some (.dK kvs)) (hl : kvs.length < 1000) : DPut H a (.str x) v (upd H a (.dK (putK kvs (.inr x) v))) :=
  DPut.k (k := .inr x) hd (small1000 (Nat.le_of_lt hl))
def spWhole : Sp := fun vs H Q _ => ∃ i : Int, vs = [.int i] ∧ Q (.bl true) H
theorem ok_whole (T : Txt K mg A) : FnOk P w K mg base CX0 1 A.f_l_whole A.d_l_whole P_l_whole spWhole := by
  refine T.F_l_whole.ok sc_l_whole (fun vs H Q E h => ?_) (fun cdv B outer s H vs Q E hr h => ?_)
  · obtain ⟨i, rfl, _⟩ := h; rfl
  obtain ⟨i, rfl, q⟩ := h
  refine ⟨_, pss_one (ps_ret (pe_and (pe_callB call_isi rfl T.n_isinstance b_isinstance (pa_cons (pv 0) (pa_cons (pe_bltn rfl T.n_int b_int (v := .ty "int") rfl) pa_nil))) (pe_one (pe_not (pe_callB call_isi rfl T.n_isinstance b_isinstance (pa_cons (pv 0) (pa_cons (pe_bltn rfl T.n_bool b_bool (v := .ty "bool") rfl) pa_nil))))))), ?_⟩
  refine ⟨_, rfl, _, "int", _, true, rfl, .int i, ?_, _, rfl, ?_⟩
  · unfold PySem.W.kitOne; rfl
  exact iteT ⟨_, rfl, _, "bool", _, false, rfl, .int i, kit_of T.kit (S := "int") (T := "bool") rfl rfl, _, rfl, q⟩
def spLim : Sp := fun vs H Q _ => ∃ n a b : Int, vs = [.int n, .int a, .int b] ∧ Q (.int (lim n a b)) H
theorem ok_limited (T : Txt K mg A) : FnOk P w K mg base CX0 1 A.f_limited A.d_limited P_limited spLim := by
  refine T.F_limited.ok sc_limited (fun vs H Q E h => ?_) (fun cdv B outer s H vs Q E hr h => ?_)
  · obtain ⟨n, a, b, rfl, _⟩ := h; rfl
  obtain ⟨n, a, b, rfl, q⟩ := h
  refine ⟨_, pss_one (ps_ret (pe_callB (call_max2 rfl) rfl T.n_max b_max (pa_cons (pv 1) (pa_cons (pe_callB (call_min2 rfl) rfl T.n_min b_min (pa_cons (pv 0) (pa_cons (pv 2) pa_nil))) pa_nil)))), ?_⟩
  exact ⟨_, rfl, _, rfl, _, rfl, _, _, rfl, _, _, rfl, q⟩
structure Bnd (kvs : List (Key × V)) (a b : Int) : Prop where
  nn : 0 ≤ a
  lo : valV kvs (.inr "leastw") = some (.int a)
  hi : valV kvs (.inr "mostw") = some (.int b)
def spLimW : Sp := fun vs H Q _ => ∃ (d : Addr) (kvs : List (Key × V)) (n a b : Int), vs = [.ref d, .int n] ∧ H d = some (.dK kvs) ∧ Bnd kvs a b ∧ Q (.int (lim n a b)) H
theorem ok_limited_wide (T : Txt K mg A) : FnOk P w K mg base CX0 2 A.f_limited_wide A.d_limited_wide P_limited_wide spLimW := by
  have G_limited : FnOk P w K mg base CX0 1 A.f_limited A.d_limited P_limited spLim := ok_limited T
  refine T.F_limited_wide.ok sc_limited_wide (fun vs H Q E h => ?_) (fun cdv B outer s H vs Q E hr h => ?_)
  · obtain ⟨d, kvs, n, a, b, rfl, _⟩ := h; rfl
  obtain ⟨d, kvs, n, a, b, rfl, hd, bd, q⟩ := h
  refine ⟨_, pss_one (ps_ret (pe_call G_limited hr rfl T.m_limited T.F_limited.kp T.b_limited .nil pass0 (pa_cons (pv 1) (pa_cons (pe_dget (hu_of hr) (pv 0) pe_str (fun _ _ => rfl)) (pa_cons (pe_dget (hu_of hr) (pv 0) pe_str (fun _ _ => rfl)) pa_nil))))), ?_⟩
  exact ⟨_, rfl, _, rfl, d, _, rfl, dget_s hd bd.lo, _, rfl, d, _, rfl, dget_s hd bd.hi, n, a, b, rfl, q⟩
/-- what stands under wide -/
inductive Way where
  | hold | fixed (n : Int) | share (n : Int)
def Way.vs : Way → List V
  | .hold => [.str "hold"]
  | .fixed n => [.str "fixed", .int n]
  | .share n => [.str "share", .int n]
structure Shp (H : Hp) (d : Addr) (kvs : List (Key × V)) (t : Addr) (y : Way) (a b : Int) : Prop where
  ad : H d = some (.dK kvs)
  wide : valV kvs (.inr "wide") = some (.ref t)
  tup : H t = some (.tup y.vs)
  bd : Bnd kvs a b
theorem sHF : ¬ (V.str "hold" = V.str "fixed") := by decide +kernel
theorem sHS : ¬ (V.str "hold" = V.str "share") := by decide +kernel
theorem sSF : ¬ (V.str "share" = V.str "fixed") := by decide +kernel
theorem iteN {c A B : Prop} [Decidable c] (hc : ¬ c) (h : B) : if decide c = true then A else B := by rw [decide_eq_false hc]; exact iteF h
theorem iteY {c A B : Prop} [Decidable c] (hc : c) (h : A) : if decide c = true then A else B := by rw [decide_eq_true hc]; exact iteT h
theorem ok_l_limited (T : Txt K mg A) : FnOk P w K mg base CX0 1 A.f_l_limited A.d_l_limited P_l_limited spLim := by
  refine T.F_l_limited.ok sc_l_limited (fun vs H Q E h => ?_) (fun cdv B outer s H vs Q E hr h => ?_)
  · obtain ⟨n, a, b, rfl, _⟩ := h; rfl
  obtain ⟨n, a, b, rfl, q⟩ := h
  refine ⟨_, pss_one (ps_ret (pe_callB (call_max2 rfl) rfl T.n_max b_max (pa_cons (pv 1) (pa_cons (pe_callB (call_min2 rfl) rfl T.n_min b_min (pa_cons (pv 0) (pa_cons (pv 2) pa_nil))) pa_nil)))), ?_⟩
  exact ⟨_, rfl, _, rfl, _, rfl, _, _, rfl, _, _, rfl, q⟩
end
end KP

set_option linter.all false
set_option maxHeartbeats 4000000
set_option maxRecDepth 100000
namespace KP
open PySem L2 PyProof.Rows
open WM (bl)
theorem atNm {xs : List Nat} {i : Int} (h0 : 0 ≤ i) (h : i < xs.length) : ∃ c, atI xs i = some c ∧ c ∈ xs := by
  obtain ⟨k, rfl⟩ := Int.eq_ofNat_of_zero_le h0
  have hk : k < xs.length := by omega
  exact ⟨xs[k], atI_nat (List.getElem?_eq_getElem hk), List.getElem_mem hk⟩
abbrev sgN : Str := Str.ofString "abcdefghijklmnopqrstuvwxyz0123456789"
theorem sgN_len : sgN.cps.toList.length = 36 := by decide +kernel
theorem sgN_nd : ∀ p q : Fin 36, sgN.cps.toList.getD p.val 0 = sgN.cps.toList.getD q.val 0 → p = q := by decide +kernel
abbrev sgn62 : Str := Str.ofString "abcdefghijklmnopqrstuvwxyzABCDEFGHIJKLMNOPQRSTUVWXYZ0123456789"
theorem bl1 : bl.length = 1 := by rw [WM.bl_cps]; rfl
/-- which sign the k-th name has -/
def naJ (f : Int) (k : Nat) : Nat := ((f + (0 + (k : Int))) % 26).toNat
theorem naJ_in (f : Int) (k : Nat) : (f + (0 + (k : Int))) % 26 = (naJ f k : Int) ∧ naJ f k < 26 := by
  have h0 := Int.emod_nonneg (f + (0 + (k : Int))) (show (26 : Int) ≠ 0 by decide)
  have h1 := Int.emod_lt_of_pos (f + (0 + (k : Int))) (show (0 : Int) < 26 by decide)
  unfold naJ; omega
/-- the k-th name: a sign put into a text -/
def na (b : Str) (p : Nat) (f : Int) (k : Nat) : Str := ⟨((b.cps.toList.drop 0).take (p - 0)).toArray⟩ ++ ⟨#[sgN.cps.toList.getD (naJ f k) 0]⟩ ++ ⟨((b.cps.toList.drop p).take (b.length - p)).toArray⟩
theorem na_list (b : Str) (p : Nat) (f : Int) (k : Nat) : (na b p f k).cps.toList = (b.cps.toList.drop 0).take (p - 0) ++ sgN.cps.toList.getD (naJ f k) 0 :: (b.cps.toList.drop p).take (b.length - p) := by
  unfold na
  show (_ ++ _ : Array Nat).toList = _
  rw [Array.toList_append]
  show (_ ++ _ : Array Nat).toList ++ _ = _
  rw [Array.toList_append, List.append_assoc]; rfl
theorem na_len {b : Str} {p : Nat} {f : Int} {k : Nat} : (na b p f k).length ≤ b.length + 1 := by
  have e : (na b p f k).length = (na b p f k).cps.toList.length := (Array.length_toList).symm
  have h : b.cps.toList.length = b.length := Array.length_toList
  rw [e, na_list, List.length_append, List.length_cons, List.length_take, List.length_take, List.length_drop, List.length_drop]
  omega
theorem na_inj {b : Str} {p : Nat} {f : Int} {i j : Nat} (hi : i < 26) (hj : j < 26) (e : na b p f i = na b p f j) : i = j := by
  have e2 : (na b p f i).cps.toList = (na b p f j).cps.toList := by rw [e]
  rw [na_list, na_list] at e2
  have e3 := List.append_cancel_left e2
  injection e3 with e4 _
  obtain ⟨a1, a2⟩ := naJ_in f i
  obtain ⟨b1, b2⟩ := naJ_in f j
  have e5 := congrArg Fin.val (sgN_nd ⟨naJ f i, by omega⟩ ⟨naJ f j, by omega⟩ e4)
  dsimp only at e5
  have e6 : (f + (0 + (i : Int))) % 26 = (f + (0 + (j : Int))) % 26 := by rw [a1, b1, e5]
  omega
theorem na_nd (b : Str) (p : Nat) (f : Int) : ∀ n : Nat, n ≤ 26 → ((List.range n).map (na b p f)).Nodup := by
  intro n hn
  refine List.pairwise_map.mpr (List.Pairwise.imp_of_mem (fun {i j} hi hj hne e => ?_) (List.nodup_range (n := n)))
  exact hne (na_inj (by have := List.mem_range.mp hi; omega) (by have := List.mem_range.mp hj; omega) e)
/-- a test that ends in one of two ways, each proved once -/
theorem if_join {c : TT} {t u : TS} {D : Ends} {σ : L2.St} {H : Hp} (J : Bool → Hp → Prop) (h1 : ∀ k : Bool → Hp → Prop, (∀ b H', J b H' → k b H') → c σ H k) (ht : ∀ H', J true H' → t D σ H') (hu : ∀ H', J false H' → u D σ H') : tIfS c t u D σ H :=
  h1 _ fun b H' j => by
    cases b with
    | true => exact iteT (ht H' j)
    | false => exact iteF (hu H' j)
theorem seq_if {c : TT} {t u r : TS} {D : Ends} {σ : L2.St} {H : Hp} (J : Bool → Hp → Prop) (h1 : ∀ k : Bool → Hp → Prop, (∀ b H', J b H' → k b H') → c σ H k) (ht : ∀ H', J true H' → t { D with nx := r D } σ H') (hu : ∀ H', J false H' → u { D with nx := r D } σ H') : tSeq (tIfS c t u) r D σ H := if_join (D := { D with nx := r D }) J h1 ht hu
/-- all but two objects is as it was -/
def Kp (st d : Addr) (H H' : Hp) : Prop := ∀ b o, b ≠ st → b ≠ d → H b = some o → H' b = some o
theorem Kp.refl (st d : Addr) (H : Hp) : Kp st d H H := fun _ _ _ _ h => h
theorem Kp.trans {st d : Addr} {H H1 H2 : Hp} (a : Kp st d H H1) (b : Kp st d H1 H2) : Kp st d H H2 := fun c o n m h => b c o n m (a c o n m h)
theorem Kp.ms {st d : Addr} {H H' : Hp} (m : Ms st H H') : Kp st d H H' := fun b o n _ h => m.keep b o n h
theorem Kp.same {st d : Addr} {H H' : Hp} (m : Same H H') : Kp st d H H' := fun b o _ _ h => m b o h
theorem Kp.upd {st d : Addr} {H : Hp} (o' : HO) : Kp st d H (upd H d o') := fun b o _ n h => by rw [upd_ne n]; exact h
/-- a dict in the making -/
structure Bld (st d : Addr) (H H' : Hp) (kvs : List (Key × V)) (n : Nat) : Prop where
  ms : Ms st H H'
  ad : H' d = some (.dK kvs)
  nd : (kvs.map (·.1)).Nodup
  pl : ∀ kv ∈ kvs, plainV kv.2 = true
  len : kvs.length ≤ n
end KP

set_option linter.all false
set_option maxHeartbeats 4000000
set_option maxRecDepth 100000
namespace KP
open PySem L2 PyProof.Rows
open WM (bl)
section
variable {P : Program} {w : World} {K : PySem.W.Frag} {mg : Str → Option Value} {base : Heap} {A : Adr}
def spNamesK : Sp := fun vs H Q _ => ∃ (st : Addr) (n : Nat), vs = [.ref st, .int n] ∧ St st H ∧ n ≤ 26 ∧ ∀ (l : Addr) (ns : List Str) (H' : Hp), H l = none → Ms st H H' → H' l = some (.lst (ns.map V.str)) → ns.length = n → ns.Nodup → (∀ x ∈ ns, x.length ≤ 8) → Q (.ref l) H'

seal PE PS PSs PA PT PI PG in
theorem ok_names (T : Txt K mg A) : FnOk P w K mg base CX0 2 A.f_l_names A.d_l_names P_l_names spNamesK := by
  have G_l_mix : FnOk P w K mg base CX0 1 A.f_l_mix A.d_l_mix P_l_mix spMix := ok_mix T
  refine T.F_l_names.ok sc_l_names (fun vs H Q E h => ?_) (fun cdv B outer s H vs Q E hr h => ?_)
  · obtain ⟨st, n, rfl, _⟩ := h; rfl
  obtain ⟨st, n, rfl, hst, hn, q⟩ := h
  refine ⟨_, @pss_cons _ _ _ _ _ (ps_set (i := 2) sc_l_names.nd rfl (Or.inl rfl) pe_str)
    (@pss_cons _ _ _ _ _ (ps_set (i := 3) sc_l_names.nd rfl (Or.inl rfl) (pe_op op_mod (pe_call G_l_mix hr rfl T.m_l_mix T.F_l_mix.kp T.b_l_mix .nil pass0 (pa_cons (pv 0) (pa_cons pe_int pa_nil))) pe_int))
    (@pss_cons _ _ _ _ _ (ps_set (i := 4) sc_l_names.nd rfl (Or.inl rfl) (pe_ix ix_str (pv 2) (pe_op op_mod (pe_call G_l_mix hr rfl T.m_l_mix T.F_l_mix.kp T.b_l_mix .nil pass0 (pa_cons (pv 0) (pa_cons pe_int pa_nil))) pe_int) (fun _ _ => rfl)))
    (@pss_cons _ _ _ _ _ (ps_for PassesOwn.never rfl (pi_range1 rfl T.n_range (pa_cons (pv 3) pa_nil)) (pg_name (i := 5) sc_l_names.nd rfl (Or.inl rfl)) (pss_one (ps_set (i := 4) sc_l_names.nd rfl (Or.inl rfl) (pe_op op_add_str (pv 4) (pe_ix ix_str (pv 2) (pe_op op_mod (pe_call G_l_mix hr rfl T.m_l_mix T.F_l_mix.kp T.b_l_mix .nil pass0 (pa_cons (pv 0) (pa_cons pe_int pa_nil))) pe_int) (fun _ _ => rfl))))))
    (@pss_cons _ _ _ _ _ (ps_set (i := 4) sc_l_names.nd rfl (Or.inl rfl) (pe_slice sl_str (pv 4) po_none (po_some (pv 3))))
    (@pss_cons _ _ _ _ _ (ps_set (i := 6) sc_l_names.nd rfl (Or.inl rfl) (pe_op op_mod (pe_call G_l_mix hr rfl T.m_l_mix T.F_l_mix.kp T.b_l_mix .nil pass0 (pa_cons (pv 0) (pa_cons pe_int pa_nil))) (pe_op op_add (pv 3) pe_int)))
    (@pss_cons _ _ _ _ _ (ps_set (i := 7) sc_l_names.nd rfl (Or.inl rfl) (pe_op op_mod (pe_call G_l_mix hr rfl T.m_l_mix T.F_l_mix.kp T.b_l_mix .nil pass0 (pa_cons (pv 0) (pa_cons pe_int pa_nil))) pe_int))
    (@pss_cons _ _ _ _ _ (ps_set (i := 8) sc_l_names.nd rfl (Or.inl rfl) (pe_lst pa_nil))
    (@pss_cons _ _ _ _ _ (ps_for PassesOwn.never rfl (pi_range1 rfl T.n_range (pa_cons (pv 1) pa_nil)) (pg_name (i := 5) sc_l_names.nd rfl (Or.inl rfl)) (@pss_cons _ _ _ _ _ (ps_set (i := 9) sc_l_names.nd rfl (Or.inl rfl) (pe_op op_add_str (pe_op op_add_str (pe_slice sl_str (pv 4) po_none (po_some (pv 6))) (pe_ix ix_str (pv 2) (pe_op op_mod (pe_op op_add (pv 7) (pv 5)) pe_int) (fun _ _ => rfl))) (pe_slice sl_str (pv 4) (po_some (pv 6)) po_none)))
    (@pss_cons _ _ _ _ _ (ps_if (pt_cmpR op_ge (pv 5) pe_int (nomark _)) (pss_one (ps_set (i := 9) sc_l_names.nd rfl (Or.inl rfl) (pe_op op_add_str (pv 9) pe_str))) pss_nil)
    (pss_one (ps_expr (pe_bm PySem.F.plainAttrs_list PySem.F.slot_list_append PySem.F.type_list_append mt_append (pv 8) (pa_cons (pv 9) pa_nil)))))))
    (pss_one (ps_ret (pv 8))))))))))), ?_⟩
  refine ⟨_, rfl, st, 0, rfl, hst, fun r H1 r0 r1 m1 f1 => ⟨_, _, rfl, rfl, (by show (0:Int) < 7; decide), ?_⟩⟩
  dsimp only [gName]
  have z0 := Int.emod_nonneg r (show (7:Int) ≠ 0 by decide)
  have z1 := Int.emod_lt_of_pos r (show (0:Int) < 7 by decide)
  generalize hsz : r % 7 = sz at z0 z1 ⊢
  show tSeq _ _ _ _ _
  refine ⟨_, rfl, _, rfl, st, 0, rfl, m1.st, fun r2 H2 _ _ m2 _ => ⟨_, _, rfl, rfl, (by show (0:Int) < 26; decide), ?_⟩⟩
  obtain ⟨c0, hc0, _⟩ := atNm (xs := sgN.cps.toList) (Int.emod_nonneg r2 (show (26:Int) ≠ 0 by decide)) (by rw [sgN_len]; have := Int.emod_lt_of_pos r2 (show (0:Int) < 26 by decide); omega)
  refine ⟨sgN, _, c0, rfl, rfl, (by decide +kernel), hc0, ?_⟩
  refine ⟨_, rfl, _, rfl, by omega, by omega, for_range (n := sz.toNat) (fun i σ H' => ∃ (b : Str) (v5 : Option V), σ = [some (.ref st), some (.int n), some (.str sgN), some (.int sz), some (.str b), v5, none, none, none, none] ∧ Ms st H H' ∧ b.length = i + 1)
    ⟨_, none, rfl, m1.trans m2, rfl⟩ ?_ ?_⟩
  · rintro i σ H3 hi ⟨b, v4, rfl, m3, lb⟩
    refine ⟨_, rfl, _, rfl, _, rfl, st, 0, rfl, m3.st, fun rc H5 _ _ m5 _ => ⟨_, _, rfl, rfl, (by show (0:Int) < 36; decide), ?_⟩⟩
    obtain ⟨c, hc, _⟩ := atNm (xs := sgN.cps.toList) (Int.emod_nonneg rc (show (36:Int) ≠ 0 by decide)) (by rw [sgN_len]; exact Int.emod_lt_of_pos rc (show (0:Int) < 36 by decide))
    refine ⟨sgN, _, c, rfl, rfl, (by decide +kernel), hc, _, _, rfl, rfl, small (by show b.length + 1 ≤ 1000; omega), ?_⟩
    exact ⟨b ++ ⟨#[c]⟩, _, rfl, m3.trans m5, by rw [Str.length_append, lb]; rfl⟩
  rintro σ H3 ⟨b0, v5, rfl, m3, lb0⟩
  have hl0 : b0.cps.toList.length = b0.length := Array.length_toList
  refine ⟨_, rfl, _, rfl, _, rfl, b0, 0, sz.toNat, rfl, .inl ⟨rfl, rfl⟩, .inr (congrArg some (Int.toNat_of_nonneg z0).symm), Nat.zero_le _, by omega, by omega, ?_⟩
  have lb : (⟨((b0.cps.toList.drop 0).take (sz.toNat - 0)).toArray⟩ : Str).length = sz.toNat := by
    show ((b0.cps.toList.drop 0).take (sz.toNat - 0)).toArray.size = _
    rw [List.size_toArray, List.length_take, List.length_drop]; omega
  dsimp only [gName]
  generalize (⟨((b0.cps.toList.drop 0).take (sz.toNat - 0)).toArray⟩ : Str) = b at lb ⊢
  show tSeq _ _ _ _ _
  refine ⟨_, rfl, st, 0, rfl, m3.st, fun r4 H4 _ _ m4 _ => ⟨_, rfl, _, _, rfl, rfl, _, _, rfl, rfl, (by show (0:Int) < sz + 1; omega), ?_⟩⟩
  have p0 := Int.emod_nonneg r4 (show sz + 1 ≠ 0 by omega)
  have p1 := Int.emod_lt_of_pos r4 (show (0:Int) < sz + 1 by omega)
  obtain ⟨p, hp⟩ := Int.eq_ofNat_of_zero_le p0
  rw [hp] at p1
  clear p0
  refine ⟨_, rfl, st, 0, rfl, m4.st, fun r5 H5 _ _ m5 _ => ⟨_, _, rfl, rfl, (by show (0:Int) < 26; decide), ?_⟩⟩
  have m6 := (m3.trans m4).trans m5
  refine ⟨small (by simp), fun l hl => ?_⟩
  have fl := m6.free hst hl
  have nl : l ≠ st := hst.ne fl
  refine ⟨_, rfl, _, rfl, by omega, by omega, for_range (n := ((n : Nat) : Int).toNat) (fun i σ H' => ∃ v5 v9 : Option V, σ = [some (.ref st), some (.int n), some (.str sgN), some (.int sz), some (.str b), v5, some (.int (r4 % (sz + 1))), some (.int (r5 % 26)), some (.ref l), v9] ∧ Ms st H H' ∧ H' l = some (.lst (((List.range i).map (na b p (r5 % 26))).map V.str)) ∧ i ≤ n)
    ⟨_, none, rfl, m6.new _ hl, upd_same, Nat.zero_le _⟩ ?_ ?_⟩
  · rintro i σ H7 hi ⟨v5, v9, rfl, m7, e7, _⟩
    have hi' : i < n := by omega
    obtain ⟨j1, j2⟩ := naJ_in (r5 % 26) i
    have hl : b.cps.toList.length = b.length := Array.length_toList
    refine ⟨_, rfl, _, rfl, _, rfl, b, 0, p, rfl, .inl ⟨rfl, rfl⟩, .inr (congrArg some hp), Nat.zero_le _, by omega, by omega, _, rfl, _, rfl, _, rfl, _, _, rfl, rfl, _, _, rfl, rfl, (by show (0:Int) < 26; decide), sgN, _, sgN.cps.toList.getD (naJ (r5 % 26) i) 0, rfl, rfl, (by decide +kernel), ?_, ?_⟩
    · rw [j1]
      refine atI_nat ?_
      have h := sgN_len
      rw [List.getD_eq_getElem?_getD, List.getElem?_eq_getElem (by omega)]; rfl
    refine ⟨_, _, rfl, rfl, ?_, _, rfl, _, rfl, _, rfl, b, p, b.length, rfl, .inr (congrArg some hp), .inl ⟨rfl, rfl⟩, by omega, Nat.le_refl _, by omega, _, _, rfl, rfl, ?_, ?_⟩
    · show ((b.cps.toList.drop 0).take (p - 0)).toArray.size + 1 ≤ sizeLine
      rw [List.size_toArray, List.length_take]; exact small (by omega)
    · rw [Str.length_append]
      show ((b.cps.toList.drop 0).take (p - 0)).toArray.size + 1 + ((b.cps.toList.drop p).take (b.length - p)).toArray.size ≤ sizeLine
      rw [List.size_toArray, List.size_toArray, List.length_take, List.length_take]; exact small (by omega)
    refine ⟨_, rfl, _, _, rfl, rfl, _, rfl, ite2 (fun c => ?_) (fun c => ?_)⟩
    · have : (26 : Int) ≤ 0 + (i : Int) := of_decide_eq_true c
      omega
    refine ⟨_, rfl, .inl ⟨rfl, _, .of e7⟩, _, rfl, l, _, _, rfl, rfl, e7, by rw [List.length_map, List.length_map, List.length_range]; exact small1000 (by omega), ?_⟩
    refine ⟨_, _, rfl, m7.set _ fl nl, ?_, hi'⟩
    rw [upd_same, List.range_succ, List.map_append, List.map_append]; rfl
  · rintro σ H7 ⟨v5, v9, rfl, m7, e7, _⟩
    refine ⟨_, rfl, q l ((List.range n).map (na b p (r5 % 26))) _ fl m7 e7 (by rw [List.length_map, List.length_range]) (na_nd _ _ _ _ (by omega)) fun x hx => ?_⟩
    obtain ⟨k, _, rfl⟩ := List.mem_map.mp hx
    have := na_len (b := b) (p := p) (f := r5 % 26) (k := k)
    omega
abbrev sgW : Str := Str.ofString "abcdefghijklmnopqrstuvwxyzABCXYZ0189"
theorem sgW_len : sgW.cps.toList.length = 36 := by decide +kernel
def spText80 : Sp := fun vs H Q _ => ∃ st : Addr, vs = [.ref st] ∧ St st H ∧ ∀ (z : Str) (H' : Hp), Ms st H H' → z.length ≤ 80 → Q (.str z) H'
seal PE PS PSs PA PT PI PG in
theorem ok_words (T : Txt K mg A) : FnOk P w K mg base CX0 2 A.f_l_words A.d_l_words P_l_words spText80 := by
  have G_l_mix : FnOk P w K mg base CX0 1 A.f_l_mix A.d_l_mix P_l_mix spMix := ok_mix T
  refine T.F_l_words.ok sc_l_words (fun vs H Q E h => ?_) (fun cdv B outer s H vs Q E hr h => ?_)
  · obtain ⟨st, rfl, _⟩ := h; rfl
  obtain ⟨st, rfl, hst, q⟩ := h
  refine ⟨_, @pss_cons _ _ _ _ _ (ps_set (i := 1) sc_l_words.nd rfl (Or.inl rfl) pe_str)
    (@pss_cons _ _ _ _ _ (ps_set (i := 2) sc_l_words.nd rfl (Or.inl rfl) (pe_lst pa_nil))
    (@pss_cons _ _ _ _ _ (ps_for PassesOwn.never rfl (pi_range1 rfl T.n_range (pa_cons (pe_op op_mod (pe_call G_l_mix hr rfl T.m_l_mix T.F_l_mix.kp T.b_l_mix .nil pass0 (pa_cons (pv 0) (pa_cons pe_int pa_nil))) pe_int) pa_nil)) (pg_name (i := 3) sc_l_words.nd rfl (Or.inl rfl)) (@pss_cons _ _ _ _ _ (ps_set (i := 4) sc_l_words.nd rfl (Or.inl rfl) pe_str)
    (@pss_cons _ _ _ _ _ (ps_for PassesOwn.never rfl (pi_range1 rfl T.n_range (pa_cons (pe_op op_add pe_int (pe_op op_mod (pe_call G_l_mix hr rfl T.m_l_mix T.F_l_mix.kp T.b_l_mix .nil pass0 (pa_cons (pv 0) (pa_cons pe_int pa_nil))) (pe_ix ix_list (pe_lst (pa_cons pe_int (pa_cons pe_int (pa_cons pe_int (pa_cons pe_int pa_nil))))) (pe_op op_mod (pe_call G_l_mix hr rfl T.m_l_mix T.F_l_mix.kp T.b_l_mix .nil pass0 (pa_cons (pv 0) (pa_cons pe_int pa_nil))) pe_int) (fun _ _ => rfl)))) pa_nil)) (pg_name (i := 5) sc_l_words.nd rfl (Or.inl rfl)) (pss_one (ps_set (i := 4) sc_l_words.nd rfl (Or.inl rfl) (pe_op op_add_str (pv 4) (pe_ix ix_str (pv 1) (pe_op op_mod (pe_call G_l_mix hr rfl T.m_l_mix T.F_l_mix.kp T.b_l_mix .nil pass0 (pa_cons (pv 0) (pa_cons pe_int pa_nil))) pe_int) (fun _ _ => rfl))))))
    (pss_one (ps_expr (pe_bm PySem.F.plainAttrs_list PySem.F.slot_list_append PySem.F.type_list_append mt_append (pv 2) (pa_cons (pv 4) pa_nil)))))))
    (pss_one (ps_ret (pe_bm PySem.F.plainAttrs_str PySem.F.slot_str_join PySem.F.type_str_join mt_join pe_str (pa_cons (pv 2) pa_nil)))))), ?_⟩
  refine ⟨small (by simp), fun l hl => ?_⟩
  have nl : l ≠ st := hst.ne hl
  have m0 : Ms st H (upd H l (.lst [])) := .of hst (same_upd hl _)
  refine ⟨_, rfl, st, 0, rfl, m0.st, fun r H1 r0 r1 m1 f1 => ⟨_, _, rfl, rfl, (by show (0:Int) < 6; decide), _, rfl, by omega, by omega, for_range (n := (r % 6).toNat) (fun i σ H' => ∃ (ws : List Str) (v3 v4 v5 : Option V), σ = [some (.ref st), some (.str sgW), some (.ref l), v3, v4, v5] ∧ Ms st H H' ∧ H' l = some (.lst (ws.map V.str)) ∧ ws.length = i ∧ ∀ w ∈ ws, w.length ≤ 9)
    ⟨[], none, none, none, rfl, m0.trans m1, m1.keep _ _ nl upd_same, rfl, fun w h => (nomatch h)⟩ ?_ ?_⟩⟩
  · rintro i σ Hs hi ⟨ws, v3, v4, v5, rfl, M0, e0, lw, hw⟩
    refine ⟨_, rfl, st, 0, rfl, M0.st, fun ra H2 _ _ m2 _ => ⟨small (by simp), fun l2 hl2 => ⟨_, rfl, st, 0, rfl, (m2.grow (same_upd hl2 _)).st, fun rb H3 _ _ m3 _ => ⟨_, _, rfl, rfl, (by show (0:Int) < 4; decide), ?_⟩⟩⟩⟩
    have nl2 : l2 ≠ st := m2.st.ne hl2
    have M3 : Ms st Hs H3 := (m2.grow (same_upd hl2 _)).trans m3
    refine ix_any (.of (m3.keep _ _ nl2 upd_same)) (Int.emod_nonneg rb (show (4:Int) ≠ 0 by decide)) (by simpa using Int.emod_lt_of_pos rb (show (0:Int) < 4 by decide)) fun v hv => ?_
    obtain ⟨m, rfl, hm, hm9⟩ : ∃ m : Int, v = .int m ∧ 0 < m ∧ m ≤ 9 := by
      have : v = .int 4 ∨ v = .int 9 := by simpa using hv
      rcases this with rfl | rfl <;> exact ⟨_, rfl, by decide, by decide⟩
    have a0 := Int.emod_nonneg ra (show m ≠ 0 by omega)
    have a1 := Int.emod_lt_of_pos ra hm
    refine ⟨_, _, rfl, rfl, hm, _, _, rfl, rfl, _, rfl, by omega, by omega, for_range (n := (1 + ra % m).toNat) (fun j σ H' => ∃ (wd : Str) (v5 : Option V), σ = [some (.ref st), some (.str sgW), some (.ref l), some (.int (0 + (i : Int))), some (.str wd), v5] ∧ Ms st Hs H' ∧ wd.length = j)
      ⟨_, v5, rfl, M3, (by decide +kernel)⟩ ?_ ?_⟩
    · rintro j σ H4 hj ⟨wd, v5, rfl, M4, lw⟩
      refine ⟨_, rfl, _, rfl, _, rfl, st, 0, rfl, M4.st, fun rc H5 _ _ m5 _ => ⟨_, _, rfl, rfl, (by show (0:Int) < 36; decide), ?_⟩⟩
      obtain ⟨c, hc, hcm⟩ := atNm (xs := sgW.cps.toList) (Int.emod_nonneg rc (show (36:Int) ≠ 0 by decide)) (by rw [sgW_len]; exact Int.emod_lt_of_pos rc (show (0:Int) < 36 by decide))
      refine ⟨_, _, c, rfl, rfl, (by decide +kernel), hc, _, _, rfl, rfl, small (by show wd.length + 1 ≤ 1000; omega), ?_⟩
      exact ⟨wd ++ ⟨#[c]⟩, _, rfl, M4.trans m5, by rw [Str.length_append, lw]; rfl⟩
    · rintro σ H4 ⟨wd, v5, rfl, M4, lwd⟩
      have e4 := M4.keep _ _ nl e0
      refine ⟨_, rfl, .inl ⟨rfl, _, .of e4⟩, _, rfl, l, _, _, rfl, rfl, e4, by rw [List.length_map]; exact small1000 (by omega), ?_⟩
      refine ⟨ws ++ [wd], _, _, _, rfl, (M0.trans M4).set _ hl nl, by rw [upd_same, List.map_append]; rfl, by rw [List.length_append, lw]; rfl, fun x hx => ?_⟩
      rcases List.mem_append.mp hx with hx | hx
      · exact hw x hx
      · rw [List.mem_singleton.mp hx]; omega
  · rintro σ Hs ⟨ws, v3, v4, v5, rfl, M0, e0, lw, hw⟩
    have h3 : (ws.map (·.length)).sum ≤ ws.length * 9 := by
      have h2 : ∀ (l : List Str), (∀ w ∈ l, w.length ≤ 9) → (l.map (·.length)).sum ≤ l.length * 9 := fun l => by
        induction l with
        | nil => intro _; simp
        | cons w l ih =>
          intro h
          have := ih fun z hz => h z (List.mem_cons_of_mem _ hz)
          have h1 := h w (List.mem_cons_self ..)
          rw [List.map_cons, List.sum_cons, List.length_cons, Nat.succ_mul]; omega
      exact h2 ws hw
    have hlen : (WM.J ws).length ≤ 80 := by
      have h1 := StrLaws.join_length_le bl ws
      rw [bl1] at h1
      have e : (WM.J ws).length = (Str.join bl ws).length := rfl
      omega
    refine ⟨rfl, _, rfl, bl, l, ws, rfl, rfl, .of e0, ?_, q _ _ M0 hlen⟩
    rw [bl1]; omega
end
end KP

set_option linter.all false
set_option maxHeartbeats 4000000
set_option maxRecDepth 100000
namespace KP
open PySem L2 PyProof.Rows
/-- a box with its address -/
inductive Bt where
  | mk (a : Addr) (k n : Str) (m : V) (ks : List Bt)
namespace Bt
def a : Bt → Addr | .mk a _ _ _ _ => a
def k : Bt → Str | .mk _ k _ _ _ => k
def n : Bt → Str | .mk _ _ n _ _ => n
def m : Bt → V | .mk _ _ _ m _ => m
def ks : Bt → List Bt | .mk _ _ _ _ ks => ks
end Bt
mutual
/-- all boxes, each ahead of its kids -/
def pre : Bt → List Bt
  | .mk a k n m ks => .mk a k n m ks :: preL ks
def preL : List Bt → List Bt
  | [] => []
  | b :: r => pre b ++ preL r
end
mutual
def dp : Bt → Nat
  | .mk _ _ _ _ ks => dpL ks + 1
def dpL : List Bt → Nat
  | [] => 0
  | b :: r => max (dp b) (dpL r)
end
theorem pre_eq (t : Bt) : pre t = t :: preL t.ks := by cases t; rw [pre]; rfl
theorem dp_eq (t : Bt) : dp t = dpL t.ks + 1 := by cases t; rw [dp]; rfl
theorem preL_cons (b : Bt) (r : List Bt) : preL (b :: r) = pre b ++ preL r := by rw [preL]
theorem preL_nil : preL [] = [] := by rw [preL]
theorem preL_app (l r : List Bt) : preL (l ++ r) = preL l ++ preL r := by
  induction l with
  | nil => rw [preL_nil]; rfl
  | cons b l ih => rw [List.cons_append, preL_cons, preL_cons, ih, List.append_assoc]
theorem preL_snoc (l : List Bt) (b : Bt) : preL (l ++ [b]) = preL l ++ pre b := by rw [preL_app, preL_cons, preL_nil, List.append_nil]
theorem dp_kid {t b : Bt} (h : b ∈ t.ks) : dp b < dp t := by
  rw [dp_eq t]
  have : ∀ l : List Bt, b ∈ l → dp b ≤ dpL l := by
    intro l
    induction l with
    | nil => intro h; cases h
    | cons x r ih =>
      intro h
      rw [dpL]
      rcases List.mem_cons.mp h with rfl | h
      · exact Nat.le_max_left _ _
      · exact Nat.le_trans (ih h) (Nat.le_max_right _ _)
  exact Nat.lt_succ_of_le (this _ h)
theorem dpL_le {l : List Bt} {d : Nat} (h : ∀ b ∈ l, dp b ≤ d) : dpL l ≤ d := by
  induction l with
  | nil => rw [dpL]; exact Nat.zero_le _
  | cons x r ih => rw [dpL]; exact Nat.max_le.mpr ⟨h x (List.mem_cons_self ..), ih fun b hb => h b (List.mem_cons_of_mem _ hb)⟩
theorem self_pre (t : Bt) : t ∈ pre t := by rw [pre_eq]; exact List.mem_cons_self ..
theorem mem_preL {l : List Bt} {c : Bt} : c ∈ preL l ↔ ∃ b ∈ l, c ∈ pre b := by
  induction l with
  | nil => rw [preL_nil]; simp
  | cons x r ih => rw [preL_cons, List.mem_append, ih]; simp
theorem kid_pre {t b : Bt} (h : b ∈ t.ks) : b ∈ preL t.ks := mem_preL.mpr ⟨b, h, self_pre b⟩
theorem pre_trans : ∀ (d : Nat) {t b c : Bt}, dp t ≤ d → b ∈ pre t → c ∈ pre b → c ∈ pre t
  | 0, t, _, _, h, _, _ => by rw [dp_eq] at h; omega
  | d + 1, t, b, c, h, hb, hc => by
    rw [pre_eq] at hb ⊢
    rcases List.mem_cons.mp hb with rfl | hb
    · rw [← pre_eq]; exact hc
    · obtain ⟨x, hx, hbx⟩ := mem_preL.mp hb
      exact List.mem_cons_of_mem _ (mem_preL.mpr ⟨x, hx, pre_trans d (by have := dp_kid hx; omega) hbx hc⟩)
/-- kids come later -/
def Later : List Bt → Prop
  | [] => True
  | b :: s => (∀ c ∈ b.ks, c ∈ s) ∧ Later s
theorem Later.app : ∀ {l r : List Bt}, Later l → Later r → Later (l ++ r)
  | [], _, _, h => h
  | _ :: _, _, h, h2 => ⟨fun c hc => List.mem_append_left _ (h.1 c hc), Later.app h.2 h2⟩
theorem later_pre : ∀ (d : Nat) (t : Bt), dp t ≤ d → Later (pre t)
  | 0, t, h => by rw [dp_eq] at h; omega
  | d + 1, t, h => by
    rw [pre_eq]
    refine ⟨fun c hc => kid_pre hc, ?_⟩
    have : ∀ l : List Bt, (∀ b ∈ l, b ∈ t.ks) → Later (preL l) := by
      intro l
      induction l with
      | nil => intro _; rw [preL_nil]; trivial
      | cons x r ih =>
        intro hl
        rw [preL_cons]
        exact (later_pre d x (by have := dp_kid (hl x (List.mem_cons_self ..)); omega)).app (ih fun b hb => hl b (List.mem_cons_of_mem _ hb))
    exact this _ fun _ h => h
theorem Later.drop : ∀ {l : List Bt} (i : Nat) {b : Bt}, Later l → l[i]? = some b → ∀ c ∈ b.ks, c ∈ l.drop (i + 1)
  | [], i, b, _, h => by simp at h
  | x :: s, 0, b, h, e => by cases e; exact h.1
  | x :: s, i + 1, b, h, e => Later.drop (l := s) i h.2 e
/-- what a box has in its more -/
structure Mo (b : Bt) : Prop where
  wd : b.k = "words" → ∃ z : Str, b.m = .str z ∧ z.length ≤ 80
  gr : b.k = "grid" → ∃ i : Int, b.m = .int i ∧ 1 ≤ i ∧ i ≤ 9
/-- a box in the heap -/
structure Nd (H : Hp) (b : Bt) : Prop where
  ex : ∃ tg kt, H b.a = some (.tup [.str b.k, .str b.n, .ref tg, b.m, .ref kt]) ∧ H kt = some (.tup (b.ks.map fun c => V.ref c.a))
  mo : Mo b
theorem Nd.same {H H' : Hp} {b : Bt} (h : Nd H b) (s : Same H H') : Nd H' b := by
  obtain ⟨tg, kt, e1, e2⟩ := h.ex
  exact ⟨⟨tg, kt, s _ _ e1, s _ _ e2⟩, h.mo⟩
/-- tuples stay -/
def Tups (H H' : Hp) : Prop := ∀ b vs, H b = some (.tup vs) → H' b = some (.tup vs)
theorem Tups.of {H H' : Hp} (s : Same H H') : Tups H H' := fun b vs e => s b _ e
theorem Tups.trans {H H1 H2 : Hp} (a : Tups H H1) (b : Tups H1 H2) : Tups H H2 := fun c vs e => b c vs (a c vs e)
theorem Tups.ms {st : Addr} {H H' : Hp} (hs : St st H) (m : Ms st H H') : Tups H H' := fun b vs e => m.keep b _ (fun z => by obtain ⟨s, a, _⟩ := hs; rw [z, a] at e; cases e) e
theorem Tups.upd {H : Hp} {a : Addr} {o o' : HO} (h : H a = some o) (ho : ∀ vs, o ≠ .tup vs) : Tups H (upd H a o') := fun b vs e => by
  rw [upd_ne (fun z => by rw [z, h] at e; injection e with e; exact ho vs e)]; exact e
theorem Nd.tups {H H' : Hp} {b : Bt} (h : Nd H b) (s : Tups H H') : Nd H' b := by
  obtain ⟨tg, kt, e1, e2⟩ := h.ex
  exact ⟨⟨tg, kt, s _ _ e1, s _ _ e2⟩, h.mo⟩
def BtAt (H : Hp) (t : Bt) : Prop := ∀ b ∈ pre t, Nd H b
theorem BtAt.tups {H H' : Hp} {t : Bt} (h : BtAt H t) (s : Tups H H') : BtAt H' t := fun b hb => (h b hb).tups s
theorem BtAt.same {H H' : Hp} {t : Bt} (h : BtAt H t) (s : Same H H') : BtAt H' t := h.tups (.of s)
theorem BtAt.self {H : Hp} {t : Bt} (h : BtAt H t) : Nd H t := h t (self_pre t)
theorem BtAt.sub {H : Hp} {t b : Bt} (h : BtAt H t) (hb : b ∈ pre t) : BtAt H b := fun c hc => h c (pre_trans _ (Nat.le_refl _) hb hc)
theorem BtAt.kid {H : Hp} {t b : Bt} (h : BtAt H t) (hb : b ∈ t.ks) : BtAt H b := h.sub (by rw [pre_eq]; exact List.mem_cons_of_mem _ (kid_pre hb))
theorem BtAt.mk {H : Hp} {t : Bt} (h : Nd H t) (k : ∀ b ∈ t.ks, BtAt H b) : BtAt H t := fun b hb => by
  rw [pre_eq] at hb
  rcases List.mem_cons.mp hb with rfl | hb
  · exact h
  · obtain ⟨x, hx, hbx⟩ := mem_preL.mp hb
    exact k x hx b hbx
theorem ks_len {t : Bt} : t.ks.length < (pre t).length := by
  have : ∀ l : List Bt, l.length ≤ (preL l).length := by
    intro l
    induction l with
    | nil => simp
    | cons x r ih => rw [preL_cons, List.length_append, pre_eq, List.length_cons, List.length_cons]; omega
  rw [pre_eq, List.length_cons]
  exact Nat.lt_succ_of_le (this _)
end KP

set_option linter.all false
set_option maxHeartbeats 4000000
set_option maxRecDepth 100000
namespace KP
open PySem L2 PyProof.Rows
/-- all but the state and the list of names is as it was -/
structure Bs (st nl : Addr) (H H' : Hp) (rest : List Str) : Prop where
  kp : Kp st nl H H'
  st : St st H'
  nl : H' nl = some (.lst (rest.map V.str))
theorem Bs.ne {st nl : Addr} {H H' : Hp} {rest : List Str} (b : Bs st nl H H' rest) : nl ≠ st := fun z => by
  obtain ⟨s, e, _⟩ := b.st
  have h := b.nl
  rw [z, e] at h
  cases rest with
  | nil => cases h
  | cons x r => injection h with h; injection h with h; rw [List.map_cons] at h; injection h with h; cases h
theorem Bs.grow {st nl : Addr} {H H' H'' : Hp} {rest : List Str} (b : Bs st nl H H' rest) (s : Same H' H'') : Bs st nl H H'' rest :=
  ⟨b.kp.trans (.same s), let ⟨x, a, c⟩ := b.st; ⟨x, s _ _ a, c⟩, s _ _ b.nl⟩
theorem Bs.step {st nl : Addr} {H H' H'' : Hp} {rest : List Str} (b : Bs st nl H H' rest) (m : Ms st H' H'') : Bs st nl H H'' rest :=
  ⟨b.kp.trans (.ms m), m.st, m.keep _ _ b.ne b.nl⟩
theorem Bs.trans {st nl : Addr} {H H' H'' : Hp} {rest r2 : List Str} (b : Bs st nl H H' rest) (c : Bs st nl H' H'' r2) : Bs st nl H H'' r2 := ⟨b.kp.trans c.kp, c.st, c.nl⟩
theorem Bs.free {st nl : Addr} {H H' : Hp} {rest : List Str} (b : Bs st nl H H' rest) {l : Addr} (h : H' l = none) : H l = none ∧ l ≠ st ∧ l ≠ nl := by
  have h1 : l ≠ st := b.st.ne h
  have h2 : l ≠ nl := fun z => by rw [z, b.nl] at h; cases h
  refine ⟨?_, h1, h2⟩
  cases q : H l with
  | none => rfl
  | some o => rw [b.kp l o h1 h2 q] at h; cases h
theorem Bs.set {st nl : Addr} {H H' : Hp} {rest : List Str} (b : Bs st nl H H' rest) {l : Addr} (o : HO) (h : H l = none) (h1 : l ≠ st) (h2 : l ≠ nl) : Bs st nl H (upd H' l o) rest :=
  ⟨fun c u n m e => by rw [upd_ne (ne_of_none e h)]; exact b.kp c u n m e, let ⟨x, a, c⟩ := b.st; ⟨x, by rw [upd_ne h1.symm]; exact a, c⟩, by rw [upd_ne h2.symm]; exact b.nl⟩
theorem Bs.tups {st nl : Addr} {H H' H'' : Hp} {rest : List Str} (b : Bs st nl H H' rest) (k : Kp st nl H' H'') : Tups H' H'' := fun c vs e =>
  k c _ (fun z => by obtain ⟨s, a, _⟩ := b.st; rw [z, a] at e; cases e) (fun z => by have a := b.nl; rw [← z, e] at a; cases a) e
theorem seq_setC {v : V} {i : Nat} {u : TS} {D : Ends} {σ : L2.St} {H : Hp} (h : u D (σ.set i (some v)) H) : tSeq (tAsg (tC v) (gName i)) u D σ H := h
theorem gW : (Str.ofString "words" : Str) ≠ "grid" := by decide +kernel
theorem gB : (Str.ofString "blank" : Str) ≠ "grid" := by decide +kernel
theorem wB : (Str.ofString "blank" : Str) ≠ "words" := by decide +kernel
theorem flat_strs (l : List Str) : (l.map V.str).all flatV = true := List.all_eq_true.mpr fun x hx => by obtain ⟨y, _, rfl⟩ := List.mem_map.mp hx; rfl
theorem eqVs_nil (l : List Str) : eqVs (l.map V.str) [] = l.isEmpty := by cases l <;> rfl
def knd7 : List V := [.str "row", .str "flow", .str "column", .str "grid", .str "pile", .str "row", .str "column"]
def knd6 : List V := [.str "row", .str "flow", .str "column", .str "grid", .str "pile", .str "column"]
theorem kNW : (Str.ofString "row" : Str) ≠ "words" ∧ (Str.ofString "flow" : Str) ≠ "words" ∧ (Str.ofString "column" : Str) ≠ "words" ∧ (Str.ofString "grid" : Str) ≠ "words" ∧ (Str.ofString "pile" : Str) ≠ "words" := by decide +kernel
section
variable {P : Program} {w : World} {K : PySem.W.Frag} {mg : Str → Option Value} {base : Heap} {A : Adr}
def spBoxD (n : Nat) : Sp := fun vs H Q _ => ∃ (st nl : Addr) (ns : List Str) (d : Int), vs = [.ref st, .ref nl, .int d] ∧ Bs st nl H H ns ∧ ns ≠ [] ∧ ns.length ≤ 12 ∧ 0 ≤ d ∧ d + 1 ≤ n ∧
  ∀ (t : Bt) (rest : List Str) (H' : Hp), Bs st nl H H' rest → ns = (pre t).map Bt.n ++ rest → BtAt H' t → dp t ≤ n → Q (.ref t.a) H'
seal PE PS PSs PA PT PI PG in
theorem boxd_step (T : Txt K mg A) (n : Nat) (G_l_box : FnOk P w K mg base CX0 (n + 2) A.f_l_box A.d_l_box P_l_box (spBoxD n)) : FnOk P w K mg base CX0 (n + 1 + 2) A.f_l_box A.d_l_box P_l_box (spBoxD (n + 1)) := by
  have G_l_mix : FnOk P w K mg base CX0 (n + 2) A.f_l_mix A.d_l_mix P_l_mix spMix := (ok_mix T).mono (by omega)
  have G_l_words : FnOk P w K mg base CX0 (n + 2) A.f_l_words A.d_l_words P_l_words spText80 := (ok_words T).mono (by omega)
  refine T.F_l_box.ok sc_l_box (fun vs H Q E h => ?_) (fun cdv B outer s H vs Q E hr h => ?_)
  · obtain ⟨st, nl, ns, d, rfl, _⟩ := h; rfl
  obtain ⟨st, nl, ns, d, rfl, b0, hne, hn, d0, dn, q⟩ := h
  refine ⟨_, @pss_cons _ _ _ _ _ (ps_set (i := 3) sc_l_box.nd rfl (Or.inl rfl) (pe_bm PySem.F.plainAttrs_list PySem.F.slot_list_pop PySem.F.type_list_pop mt_popAt (pv 1) (pa_cons pe_int pa_nil)))
    (@pss_cons _ _ _ _ _ (ps_set (i := 4) sc_l_box.nd rfl (Or.inl rfl) (pe_op op_mod (pe_call G_l_mix hr rfl T.m_l_mix T.F_l_mix.kp T.b_l_mix .nil pass0 (pa_cons (pv 0) (pa_cons pe_int pa_nil))) pe_int))
    (@pss_cons _ _ _ _ _ (ps_if (PW.pt (pw_or (pt_cmpR op_eq (pv 2) pe_int (nomark _)) (pw_or (pt_cmpR op_lt (pv 4) pe_int (nomark _)) (pw_or1 (pt_cmpR (op_eqNil hr.units0) (pv 1) (pe_lst pa_nil) (nomark _)))))) (@pss_cons _ _ _ _ _ (ps_if (pt_cmpR op_eq (pe_op op_mod (pv 4) pe_int) pe_int (nomark _)) (pss_one (ps_ret (pe_tup (pa_cons pe_str (pa_cons (pv 3) (pa_cons (pe_tup pa_nil) (pa_cons pe_non (pa_cons (pe_tup pa_nil) pa_nil)))))))) pss_nil)
    (pss_one (ps_ret (pe_tup (pa_cons pe_str (pa_cons (pv 3) (pa_cons (pe_tup pa_nil) (pa_cons (pe_call G_l_words hr rfl T.m_l_words T.F_l_words.kp T.b_l_words .nil pass0 (pa_cons (pv 0) pa_nil)) (pa_cons (pe_tup pa_nil) pa_nil))))))))) pss_nil)
    (@pss_cons _ _ _ _ _ (ps_set (i := 5) sc_l_box.nd rfl (Or.inl rfl) (pe_ix ix_list (pe_lst (pa_cons pe_str (pa_cons pe_str (pa_cons pe_str (pa_cons pe_str (pa_cons pe_str (pa_cons pe_str (pa_cons pe_str pa_nil)))))))) (pe_op op_sub (pv 4) pe_int) (fun _ _ => rfl)))
    (@pss_cons _ _ _ _ _ (ps_set (i := 6) sc_l_box.nd rfl (Or.inl rfl) (pe_lst pa_nil))
    (@pss_cons _ _ _ _ _ (ps_for PassesOwn.never rfl (pi_range1 rfl T.n_range (pa_cons (pe_op op_mod (pe_call G_l_mix hr rfl T.m_l_mix T.F_l_mix.kp T.b_l_mix .nil pass0 (pa_cons (pv 0) (pa_cons pe_int pa_nil))) pe_int) pa_nil)) (pg_name (i := 7) sc_l_box.nd rfl (Or.inl rfl)) (pss_one (ps_if (pt_cmpR (op_neL hr.units0) (pv 1) (pe_lst pa_nil) (nomark _)) (pss_one (ps_expr (pe_bm PySem.F.plainAttrs_list PySem.F.slot_list_append PySem.F.type_list_append mt_append (pv 6) (pa_cons (pe_call G_l_box hr rfl T.m_l_box T.F_l_box.kp T.b_l_box .nil pass0 (pa_cons (pv 0) (pa_cons (pv 1) (pa_cons (pe_op op_sub (pv 2) pe_int) pa_nil)))) pa_nil)))) pss_nil)))
    (@pss_cons _ _ _ _ _ (ps_set (i := 8) sc_l_box.nd rfl (Or.inl rfl) (pe_ifExp (pt_cmpR op_eq (pv 5) pe_str (nomark _)) (pe_op op_add pe_int (pe_op op_mod (pe_call G_l_mix hr rfl T.m_l_mix T.F_l_mix.kp T.b_l_mix .nil pass0 (pa_cons (pv 0) (pa_cons pe_int pa_nil))) pe_int)) pe_non))
    (pss_one (ps_ret (pe_tup (pa_cons (pv 5) (pa_cons (pv 3) (pa_cons (pe_tup pa_nil) (pa_cons (pv 8) (pa_cons (pe_callTy call_tuple_of rfl T.n_tuple b_tuple (pa_cons (pv 6) pa_nil)) pa_nil)))))))))))))), ?_⟩
  cases ns with
  | nil => exact absurd rfl hne
  | cons x r =>
  refine ⟨_, rfl, .inl ⟨rfl, _, .of b0.nl⟩, nl, _, 0, 0, .str x, rfl, rfl, b0.nl, by decide, by decide, seqIx_natE (a := 0) rfl (by simp), rfl, ?_⟩
  have b1 : Bs st nl H (upd H nl (.lst (r.map V.str))) r := ⟨.upd _, let ⟨s, a, c⟩ := b0.st; ⟨s, by rw [upd_ne b0.ne.symm]; exact a, c⟩, upd_same⟩
  show tSeq _ _ _ [some (.ref st), some (.ref nl), some (.int d), some (.str x), none, none, none, none, none] (upd H nl (.lst (r.map V.str)))
  generalize upd H nl (.lst (r.map V.str)) = H1 at b1 ⊢
  rw [List.length_cons] at hn
  refine ⟨_, rfl, st, 0, rfl, b1.st, fun ra H2 ra0 ra1 m2 _ => ⟨_, _, rfl, rfl, (by show (0:Int) < 11; decide), ?_⟩⟩
  have a0 := Int.emod_nonneg ra (show (11:Int) ≠ 0 by decide)
  have a1 := Int.emod_lt_of_pos ra (show (0:Int) < 11 by decide)
  have b2 := b1.step m2
  dsimp only [gName]
  show tSeq _ _ _ [some (.ref st), some (.ref nl), some (.int d), some (.str x), some (.int (ra % 11)), none, none, none, none] H2
  generalize hwy : ra % 11 = wy at a0 a1 ⊢
  clear m2 b1 b0 hwy ra0 ra1 ra
  refine seq_if (fun b H' => Bs st nl H H' r ∧ (b = false → d ≠ 0 ∧ 4 ≤ wy)) (fun k hk => ?_) (fun H3 ⟨b3, _⟩ => ?_) (fun H3 ⟨b3, hc⟩ => ?_)
  · refine ⟨_, rfl, rfl, _, rfl, ite2 (fun c => hk _ _ ⟨b2, fun z => nomatch z⟩) (fun c => ?_)⟩
    refine ⟨_, rfl, _, _, rfl, rfl, _, rfl, ite2 (fun c2 => hk _ _ ⟨b2, fun z => nomatch z⟩) (fun c2 => ?_)⟩
    refine ⟨_, rfl, small (by simp), fun e0 he0 => ⟨nl, e0, _, rfl, rfl, .of (same_upd he0 _ _ _ b2.nl), .of upd_same, _, rfl, hk _ _ ⟨b2.grow (same_upd he0 _), fun _ => ⟨fun z => c (decide_eq_true (by rw [z])), ?_⟩⟩⟩⟩
    have : ¬ wy < 4 := fun z => c2 (decide_eq_true z)
    omega
  · refine ⟨_, rfl, _, _, rfl, rfl, (by show (0:Int) < 4; decide), rfl, _, rfl, ite2 (fun c => ?_) (fun c => ?_)⟩
    · refine ⟨_, rfl, small (by simp), fun t1 ht1 => ⟨small (by simp), fun t2 ht2 => ⟨small (by simp), fun t3 ht3 => ?_⟩⟩⟩
      have b4 := b3.grow ((same_upd ht1 (.tup [])).trans ((same_upd ht2 (.tup [])).trans (same_upd ht3 (.tup [.str "blank", .str x, .ref t1, .non, .ref t2]))))
      refine q (.mk t3 "blank" x .non []) r _ b4 (by rw [pre_eq]; show _ = x :: (List.map _ (preL [])) ++ r; rw [preL_nil]; rfl) (.mk ⟨⟨t1, t2, upd_same, same_upd ht3 _ _ _ upd_same⟩, fun e => absurd e wB, fun e => absurd e gB⟩ fun b h => nomatch h) ?_
      rw [dp_eq]; show dpL [] + 1 ≤ n + 1; rw [dpL]; omega
    · refine ⟨_, rfl, small (by simp), fun t1 ht1 => ⟨_, rfl, st, rfl, (b3.grow (same_upd ht1 _)).st, fun z H4 m4 lz => ⟨small (by simp), fun t2 ht2 => ⟨small (by simp), fun t3 ht3 => ?_⟩⟩⟩⟩
      have b4 := ((b3.grow (same_upd ht1 _)).step m4).grow ((same_upd ht2 (.tup [])).trans (same_upd ht3 (.tup [.str "words", .str x, .ref t1, .str z, .ref t2])))
      refine q (.mk t3 "words" x (.str z) []) r _ b4 (by rw [pre_eq]; show _ = x :: (List.map _ (preL [])) ++ r; rw [preL_nil]; rfl) (.mk ⟨⟨t1, t2, upd_same, same_upd ht3 _ _ _ upd_same⟩, fun _ => ⟨z, rfl, lz⟩, fun e => absurd e gW⟩ fun b h => nomatch h) ?_
      rw [dp_eq]; show dpL [] + 1 ≤ n + 1; rw [dpL]; omega
  obtain ⟨dz, w4⟩ := hc rfl
  clear b2 hc
  dsimp only [tNext]
  refine ⟨small (by simp), fun l1 hl1 => ⟨_, rfl, _, _, rfl, rfl, ix_any (.of upd_same) (by omega) (by show wy - 4 < 7; omega) fun v hv => ?_⟩⟩
  obtain ⟨kd, rfl, nw⟩ : ∃ kd : Str, v = .str kd ∧ kd ≠ "words" := by
    have : v = .str "row" ∨ v = .str "flow" ∨ v = .str "column" ∨ v = .str "grid" ∨ v = .str "pile" ∨ v = .str "row" ∨ v = .str "column" := by simpa using hv
    rcases this with rfl | rfl | rfl | rfl | rfl | rfl | rfl
    · exact ⟨_, rfl, kNW.1⟩
    · exact ⟨_, rfl, kNW.2.1⟩
    · exact ⟨_, rfl, kNW.2.2.1⟩
    · exact ⟨_, rfl, kNW.2.2.2.1⟩
    · exact ⟨_, rfl, kNW.2.2.2.2⟩
    · exact ⟨_, rfl, kNW.1⟩
    · exact ⟨_, rfl, kNW.2.2.1⟩
  clear hv
  have b4 := b3.grow (same_upd hl1 (.lst [.str "row", .str "flow", .str "column", .str "grid", .str "pile", .str "row", .str "column"]))
  dsimp only [gName]
  generalize upd H3 l1 (.lst [.str "row", .str "flow", .str "column", .str "grid", .str "pile", .str "row", .str "column"]) = H4 at b4 ⊢
  clear b3 hl1
  show tSeq _ _ _ _ _
  refine ⟨small (by simp), fun kl hkl => ?_⟩
  obtain ⟨f0, f1, f2⟩ := b4.free hkl
  refine ⟨_, rfl, st, 0, rfl, (b4.grow (same_upd hkl _)).st, fun ra H5 ra0 ra1 m5 _ => ⟨_, _, rfl, rfl, (by show (0:Int) < 5; decide), ?_⟩⟩
  have b5 := (b4.grow (same_upd hkl (.lst []))).step m5
  have e5 : H5 kl = some (.lst []) := m5.keep _ _ f1 upd_same
  have c0 := Int.emod_nonneg ra (show (5:Int) ≠ 0 by decide)
  have c1 := Int.emod_lt_of_pos ra (show (0:Int) < 5 by decide)
  refine ⟨_, rfl, by omega, by omega, for_range (n := (ra % 5).toNat) (fun i σ H' => ∃ (kids : List Bt) (rest : List Str) (v7 : Option V), σ = [some (.ref st), some (.ref nl), some (.int d), some (.str x), some (.int wy), some (.str kd), some (.ref kl), v7, none] ∧ Bs st nl H H' rest ∧ H' kl = some (.lst (kids.map fun c => V.ref c.a)) ∧ r = (preL kids).map Bt.n ++ rest ∧ (∀ c ∈ kids, BtAt H' c ∧ dp c ≤ n) ∧ kids.length ≤ i)
    ⟨[], r, none, rfl, b5, e5, by rw [preL_nil]; rfl, fun c h => (nomatch h), Nat.le_refl _⟩ ?_ ?_⟩
  · rintro i σ H3 hi ⟨kids, rest, v7, rfl, b3, e3, er, hk, lk⟩
    refine ⟨_, rfl, small (by simp), fun e0 he0 => ⟨nl, e0, _, _, rfl, rfl, .of (same_upd he0 _ _ _ b3.nl), .of upd_same, flat_strs _, rfl, _, rfl, ?_⟩⟩
    have b3' := b3.grow (same_upd he0 (.lst []))
    have e3' := same_upd he0 (.lst []) _ _ e3
    have hk' : ∀ c ∈ kids, BtAt (upd H3 e0 (.lst [])) c ∧ dp c ≤ n := fun c hc => ⟨(hk c hc).1.same (same_upd he0 _), (hk c hc).2⟩
    generalize upd H3 e0 (.lst []) = H3' at b3' e3' hk' ⊢
    clear he0 b3 e3 hk
    rw [eqVs_nil]
    cases rest with
    | nil => exact iteF ⟨kids, [], _, rfl, b3', e3', er, hk', by omega⟩
    | cons y rr =>
      refine iteT ?_
      have lr := congrArg List.length er
      rw [List.length_append] at lr
      refine ⟨_, rfl, .inl ⟨rfl, _, .of e3'⟩, _, rfl, _, rfl, _, rfl, _, _, rfl, rfl, st, nl, y :: rr, d - 1, rfl, ⟨.refl _ _ _, b3'.st, b3'.nl⟩, (fun z => nomatch z), by omega, by omega, by omega, fun t rest2 H4 b4 en bt dt => ?_⟩
      have e4 := b4.kp _ _ f1 f2 e3'
      refine ⟨kl, _, _, rfl, rfl, e4, by rw [List.length_map]; exact small1000 (by omega), ?_⟩
      have tp : Tups H3' (upd H4 kl (.lst (kids.map (fun c => V.ref c.a) ++ [V.ref t.a]))) := (b3'.tups b4.kp).trans (.upd e4 fun vs z => nomatch z)
      refine ⟨kids ++ [t], rest2, _, rfl, (b3'.trans b4).set _ f0 f1 f2, by rw [upd_same, List.map_append]; rfl, by rw [er, en, preL_snoc, List.map_append, List.append_assoc], fun c hc => ?_, by rw [List.length_append, List.length_singleton]; omega⟩
      rcases List.mem_append.mp hc with hc | hc
      · exact ⟨(hk' c hc).1.tups tp, (hk' c hc).2⟩
      · rw [List.mem_singleton.mp hc]
        exact ⟨bt.tups (.upd e4 fun vs z => nomatch z), dt⟩
  rintro σ H3 ⟨kids, rest, v7, rfl, b3, e3, er, hk, lk⟩
  dsimp only
  refine seq_joinI (fun σ' H' => ∃ mo : V, σ' = [some (.ref st), some (.ref nl), some (.int d), some (.str x), some (.int wy), some (.str kd), some (.ref kl), v7, some mo] ∧ Bs st nl H H' rest ∧ Kp st nl H3 H' ∧ (kd = "grid" → ∃ i : Int, mo = .int i ∧ 1 ≤ i ∧ i ≤ 9)) (fun N hN => ?_) ?_
  · refine ⟨_, rfl, rfl, _, rfl, ite2 (fun c => ?_) (fun c => ?_)⟩
    · refine ⟨_, rfl, st, 0, rfl, b3.st, fun ra H4 ra0 ra1 m4 _ => ⟨_, _, rfl, rfl, (by show (0:Int) < 3; decide), ?_⟩⟩
      have a0 := Int.emod_nonneg ra (show (3:Int) ≠ 0 by decide)
      have a1 := Int.emod_lt_of_pos ra (show (0:Int) < 3 by decide)
      refine ⟨_, _, rfl, rfl, hN _ _ ⟨_, rfl, b3.step m4, .ms m4, fun _ => ⟨_, rfl, by omega, by omega⟩⟩⟩
    · exact hN _ _ ⟨_, rfl, b3, .refl _ _ _, fun e => absurd (decide_eq_true (by rw [e])) c⟩
  rintro σ' H4 ⟨mo, rfl, b4, k4, hg⟩
  have e4 := k4 _ _ f1 f2 e3
  refine ⟨_, rfl, _, rfl, small (by simp), fun t1 ht1 => ⟨_, rfl, _, rfl, kl, _, rfl, .inl ⟨.of (same_upd ht1 _ _ _ e4), fun t2 ht2 => ⟨small (by simp), fun t3 ht3 => ?_⟩⟩⟩⟩
  have s5 := (same_upd ht1 (.tup [])).trans ((same_upd ht2 (.tup (kids.map fun c => V.ref c.a))).trans (same_upd ht3 (.tup [.str kd, .str x, .ref t1, mo, .ref t2])))
  refine q (.mk t3 kd x mo kids) rest _ (b4.grow s5) (by rw [pre_eq]; show x :: r = x :: ((preL kids).map Bt.n) ++ rest; rw [er]; rfl) (.mk ⟨⟨t1, t2, upd_same, same_upd ht3 _ _ _ upd_same⟩, fun e => absurd e nw, hg⟩ fun c hc => (hk c hc).1.tups ((b3.tups k4).trans (.of s5))) ?_
  rw [dp_eq]; show dpL kids + 1 ≤ n + 1
  have := dpL_le fun c hc => (hk c hc).2
  omega
theorem ok_boxd (T : Txt K mg A) : ∀ n, FnOk P w K mg base CX0 (n + 2) A.f_l_box A.d_l_box P_l_box (spBoxD n)
  | 0 => ⟨fun vs H Q E h => by obtain ⟨_, _, _, d, _, _, _, _, h1, h2, _⟩ := h; omega, fun _ _ _ _ _ _ vs Q E _ _ _ _ h => by obtain ⟨_, _, _, d, _, _, _, _, h1, h2, _⟩ := h; omega⟩
  | n + 1 => boxd_step T n (ok_boxd T n)
end
end KP

set_option linter.all false
set_option maxHeartbeats 4000000
set_option maxRecDepth 100000
namespace KP
open PySem L2 PyProof.Rows
abbrev nmsT (t : Bt) : List Str := (pre t).map Bt.n
section
variable {P : Program} {w : World} {K : PySem.W.Frag} {mg : Str → Option Value} {base : Heap} {A : Adr}
def spDoc : Sp := fun vs H Q _ => ∃ (st : Addr) (m : Nat), vs = [.ref st, .int m] ∧ St st H ∧ 1 ≤ m ∧ m ≤ 12 ∧
  ∀ (t : Bt) (H' : Hp), Ms st H H' → BtAt H' t → dp t ≤ 5 → (pre t).length ≤ 12 → (nmsT t).Nodup → (∀ x ∈ nmsT t, x.length ≤ 8) → Q (.ref t.a) H'
seal PE PS PSs PA PT PI PG in
theorem ok_doc (T : Txt K mg A) : FnOk P w K mg base CX0 7 A.f_l_doc A.d_l_doc P_l_doc spDoc := by
  have G_l_mix : FnOk P w K mg base CX0 6 A.f_l_mix A.d_l_mix P_l_mix spMix := (ok_mix T).mono (by omega)
  have G_l_names : FnOk P w K mg base CX0 6 A.f_l_names A.d_l_names P_l_names spNamesK := (ok_names T).mono (by omega)
  have G_l_box : FnOk P w K mg base CX0 6 A.f_l_box A.d_l_box P_l_box (spBoxD 4) := ok_boxd T 4
  refine T.F_l_doc.ok sc_l_doc (fun vs H Q E h => ?_) (fun cdv B outer s H vs Q E hr h => ?_)
  · obtain ⟨st, m, rfl, _⟩ := h; rfl
  obtain ⟨st, m, rfl, hst, m1, m12, q⟩ := h
  refine ⟨_, @pss_cons _ _ _ _ _ (ps_set (i := 2) sc_l_doc.nd rfl (Or.inl rfl) (pe_call G_l_names hr rfl T.m_l_names T.F_l_names.kp T.b_l_names .nil pass0 (pa_cons (pv 0) (pa_cons (pv 1) pa_nil))))
    (@pss_cons _ _ _ _ _ (ps_set (i := 3) sc_l_doc.nd rfl (Or.inl rfl) (pe_bm PySem.F.plainAttrs_list PySem.F.slot_list_pop PySem.F.type_list_pop mt_popAt (pv 2) (pa_cons pe_int pa_nil)))
    (@pss_cons _ _ _ _ _ (ps_set (i := 4) sc_l_doc.nd rfl (Or.inl rfl) (pe_ix ix_list (pe_lst (pa_cons pe_str (pa_cons pe_str (pa_cons pe_str (pa_cons pe_str (pa_cons pe_str (pa_cons pe_str pa_nil))))))) (pe_op op_mod (pe_call G_l_mix hr rfl T.m_l_mix T.F_l_mix.kp T.b_l_mix .nil pass0 (pa_cons (pv 0) (pa_cons pe_int pa_nil))) pe_int) (fun _ _ => rfl)))
    (@pss_cons _ _ _ _ _ (ps_set (i := 5) sc_l_doc.nd rfl (Or.inl rfl) (pe_lst pa_nil))
    (@pss_cons _ _ _ _ _ (ps_for PassesOwn.never rfl (pi_range1 rfl T.n_range (pa_cons (pe_op op_add pe_int (pe_op op_mod (pe_call G_l_mix hr rfl T.m_l_mix T.F_l_mix.kp T.b_l_mix .nil pass0 (pa_cons (pv 0) (pa_cons pe_int pa_nil))) pe_int)) pa_nil)) (pg_name (i := 6) sc_l_doc.nd rfl (Or.inl rfl)) (pss_one (ps_if (pt_cmpR (op_neL hr.units0) (pv 2) (pe_lst pa_nil) (nomark _)) (pss_one (ps_expr (pe_bm PySem.F.plainAttrs_list PySem.F.slot_list_append PySem.F.type_list_append mt_append (pv 5) (pa_cons (pe_call G_l_box hr rfl T.m_l_box T.F_l_box.kp T.b_l_box .nil pass0 (pa_cons (pv 0) (pa_cons (pv 2) (pa_cons pe_int pa_nil)))) pa_nil)))) pss_nil)))
    (@pss_cons _ _ _ _ _ (ps_set (i := 7) sc_l_doc.nd rfl (Or.inl rfl) (pe_ifExp (pt_cmpR op_eq (pv 4) pe_str (nomark _)) (pe_op op_add pe_int (pe_op op_mod (pe_call G_l_mix hr rfl T.m_l_mix T.F_l_mix.kp T.b_l_mix .nil pass0 (pa_cons (pv 0) (pa_cons pe_int pa_nil))) pe_int)) pe_non))
    (pss_one (ps_ret (pe_tup (pa_cons (pv 4) (pa_cons (pv 3) (pa_cons (pe_tup pa_nil) (pa_cons (pv 7) (pa_cons (pe_callTy call_tuple_of rfl T.n_tuple b_tuple (pa_cons (pv 5) pa_nil)) pa_nil))))))))))))), ?_⟩
  refine ⟨_, rfl, _, rfl, st, m, rfl, hst, by omega, fun nl ns H0 fnl ms0 enl hnl hnd h8 => ?_⟩
  have nns : nl ≠ st := hst.ne fnl
  have b0 : Bs st nl H0 H0 ns := ⟨.refl _ _ _, ms0.st, enl⟩
  cases ns with
  | nil => exfalso; simp at hnl; omega
  | cons x r =>
  have hn := hnl
  rw [List.length_cons] at hn
  refine ⟨_, rfl, .inl ⟨rfl, _, .of b0.nl⟩, nl, _, 0, 0, .str x, rfl, rfl, b0.nl, by decide, by decide, seqIx_natE (a := 0) rfl (by simp), rfl, ?_⟩
  have b1 : Bs st nl H0 (upd H0 nl (.lst (r.map V.str))) r := ⟨.upd _, let ⟨s, a, c⟩ := b0.st; ⟨s, by rw [upd_ne b0.ne.symm]; exact a, c⟩, upd_same⟩
  dsimp only [gName]
  show tSeq _ _ _ [some (.ref st), some (.int m), some (.ref nl), some (.str x), none, none, none, none] (upd H0 nl (.lst (r.map V.str)))
  generalize upd H0 nl (.lst (r.map V.str)) = H1 at b1 ⊢
  refine ⟨small (by simp), fun l1 hl1 => ⟨_, rfl, st, 0, rfl, (b1.grow (same_upd hl1 _)).st, fun ra H2 ra0 ra1 m2 _ => ⟨_, _, rfl, rfl, (by show (0:Int) < 6; decide), ?_⟩⟩⟩
  have b4 := (b1.grow (same_upd hl1 _)).step m2
  refine ix_any (.of (m2.keep _ _ ((b1.free hl1).2.1) upd_same)) (Int.emod_nonneg ra (show (6:Int) ≠ 0 by decide)) (by simpa using Int.emod_lt_of_pos ra (show (0:Int) < 6 by decide)) fun v hv => ?_
  obtain ⟨kd, rfl, nw⟩ : ∃ kd : Str, v = .str kd ∧ kd ≠ "words" := by
    have : v = .str "row" ∨ v = .str "flow" ∨ v = .str "column" ∨ v = .str "grid" ∨ v = .str "pile" ∨ v = .str "column" := by simpa using hv
    rcases this with rfl | rfl | rfl | rfl | rfl | rfl
    · exact ⟨_, rfl, kNW.1⟩
    · exact ⟨_, rfl, kNW.2.1⟩
    · exact ⟨_, rfl, kNW.2.2.1⟩
    · exact ⟨_, rfl, kNW.2.2.2.1⟩
    · exact ⟨_, rfl, kNW.2.2.2.2⟩
    · exact ⟨_, rfl, kNW.2.2.1⟩
  clear hv hl1 m2 b1 b0
  dsimp only [gName]
  show tSeq _ _ _ _ _
  refine ⟨small (by simp), fun kl hkl => ?_⟩
  obtain ⟨f0, f1, f2⟩ := b4.free hkl
  refine ⟨_, rfl, st, 0, rfl, (b4.grow (same_upd hkl _)).st, fun ra H5 ra0 ra1 m5 _ => ⟨_, _, rfl, rfl, (by show (0:Int) < 4; decide), _, _, rfl, rfl, ?_⟩⟩
  have b5 := (b4.grow (same_upd hkl (.lst []))).step m5
  have e5 : H5 kl = some (.lst []) := m5.keep _ _ f1 upd_same
  have c0 := Int.emod_nonneg ra (show (4:Int) ≠ 0 by decide)
  have c1 := Int.emod_lt_of_pos ra (show (0:Int) < 4 by decide)
  refine ⟨_, rfl, by omega, by omega, for_range (n := (1 + ra % 4).toNat) (fun i σ H' => ∃ (kids : List Bt) (rest : List Str) (v6 : Option V), σ = [some (.ref st), some (.int m), some (.ref nl), some (.str x), some (.str kd), some (.ref kl), v6, none] ∧ Bs st nl H0 H' rest ∧ H' kl = some (.lst (kids.map fun c => V.ref c.a)) ∧ r = (preL kids).map Bt.n ++ rest ∧ (∀ c ∈ kids, BtAt H' c ∧ dp c ≤ 4) ∧ kids.length ≤ i)
    ⟨[], r, none, rfl, b5, e5, by rw [preL_nil]; rfl, fun c h => (nomatch h), Nat.le_refl _⟩ ?_ ?_⟩
  · rintro i σ H3 hi ⟨kids, rest, v6, rfl, b3, e3, er, hk, lk⟩
    refine ⟨_, rfl, small (by simp), fun e0 he0 => ⟨nl, e0, _, _, rfl, rfl, .of (same_upd he0 _ _ _ b3.nl), .of upd_same, flat_strs _, rfl, _, rfl, ?_⟩⟩
    have b3' := b3.grow (same_upd he0 (.lst []))
    have e3' := same_upd he0 (.lst []) _ _ e3
    have hk' : ∀ c ∈ kids, BtAt (upd H3 e0 (.lst [])) c ∧ dp c ≤ 4 := fun c hc => ⟨(hk c hc).1.same (same_upd he0 _), (hk c hc).2⟩
    generalize upd H3 e0 (.lst []) = H3' at b3' e3' hk' ⊢
    clear he0 b3 e3 hk
    rw [eqVs_nil]
    cases rest with
    | nil => exact iteF ⟨kids, [], _, rfl, b3', e3', er, hk', by omega⟩
    | cons y rr =>
      refine iteT ?_
      have lr := congrArg List.length er
      rw [List.length_append] at lr
      refine ⟨_, rfl, .inl ⟨rfl, _, .of e3'⟩, _, rfl, _, rfl, st, nl, y :: rr, 3, rfl, ⟨.refl _ _ _, b3'.st, b3'.nl⟩, (fun z => nomatch z), by omega, by omega, by omega, fun t rest2 H4 b4 en bt dt => ?_⟩
      have e4 := b4.kp _ _ f1 f2 e3'
      refine ⟨kl, _, _, rfl, rfl, e4, by rw [List.length_map]; exact small1000 (by omega), ?_⟩
      have tp : Tups H3' (upd H4 kl (.lst (kids.map (fun c => V.ref c.a) ++ [V.ref t.a]))) := (b3'.tups b4.kp).trans (.upd e4 fun vs z => nomatch z)
      refine ⟨kids ++ [t], rest2, _, rfl, (b3'.trans b4).set _ f0 f1 f2, by rw [upd_same, List.map_append]; rfl, by rw [er, en, preL_snoc, List.map_append, List.append_assoc], fun c hc => ?_, by rw [List.length_append, List.length_singleton]; omega⟩
      rcases List.mem_append.mp hc with hc | hc
      · exact ⟨(hk' c hc).1.tups tp, (hk' c hc).2⟩
      · rw [List.mem_singleton.mp hc]
        exact ⟨bt.tups (.upd e4 fun vs z => nomatch z), dt⟩
  rintro σ H3 ⟨kids, rest, v6, rfl, b3, e3, er, hk, lk⟩
  dsimp only
  refine seq_joinI (fun σ' H' => ∃ mo : V, σ' = [some (.ref st), some (.int m), some (.ref nl), some (.str x), some (.str kd), some (.ref kl), v6, some mo] ∧ Bs st nl H0 H' rest ∧ Kp st nl H3 H' ∧ (kd = "grid" → ∃ i : Int, mo = .int i ∧ 1 ≤ i ∧ i ≤ 9)) (fun N hN => ?_) ?_
  · refine ⟨_, rfl, rfl, _, rfl, ite2 (fun c => ?_) (fun c => ?_)⟩
    · refine ⟨_, rfl, st, 0, rfl, b3.st, fun ra H4 ra0 ra1 m4 _ => ⟨_, _, rfl, rfl, (by show (0:Int) < 4; decide), ?_⟩⟩
      have a0 := Int.emod_nonneg ra (show (4:Int) ≠ 0 by decide)
      have a1 := Int.emod_lt_of_pos ra (show (0:Int) < 4 by decide)
      refine ⟨_, _, rfl, rfl, hN _ _ ⟨_, rfl, b3.step m4, .ms m4, fun _ => ⟨_, rfl, by omega, by omega⟩⟩⟩
    · exact hN _ _ ⟨_, rfl, b3, .refl _ _ _, fun e => absurd (decide_eq_true (by rw [e])) c⟩
  rintro σ' H4 ⟨mo, rfl, b4, k4, hg⟩
  have e4 := k4 _ _ f1 f2 e3
  refine ⟨_, rfl, _, rfl, small (by simp), fun t1 ht1 => ⟨_, rfl, _, rfl, kl, _, rfl, .inl ⟨.of (same_upd ht1 _ _ _ e4), fun t2 ht2 => ⟨small (by simp), fun t3 ht3 => ?_⟩⟩⟩⟩
  have s5 := (same_upd ht1 (.tup [])).trans ((same_upd ht2 (.tup (kids.map fun c => V.ref c.a))).trans (same_upd ht3 (.tup [.str kd, .str x, .ref t1, mo, .ref t2])))
  have b6 := b4.grow s5
  have en : nmsT (.mk t3 kd x mo kids) = x :: (preL kids).map Bt.n := by unfold nmsT; rw [pre_eq]; rfl
  have ea : x :: r = nmsT (.mk t3 kd x mo kids) ++ rest := by rw [en, er]; rfl
  have la := congrArg List.length ea
  rw [List.length_append, List.length_map] at la
  refine q (.mk t3 kd x mo kids) _ ⟨fun b o hb e => b6.kp b o hb (fun z => by rw [z, fnl] at e; cases e) (ms0.keep b o hb e), b6.st⟩ (.mk ⟨⟨t1, t2, upd_same, same_upd ht3 _ _ _ upd_same⟩, fun e => absurd e nw, hg⟩ fun c hc => (hk c hc).1.tups ((b3.tups k4).trans (.of s5))) ?_ (by omega) ?_ fun y hy => h8 y (by rw [ea]; exact List.mem_append_left _ hy)
  · rw [dp_eq]; show dpL kids + 1 ≤ 5
    have := dpL_le fun c hc => (hk c hc).2
    omega
  · rw [ea] at hnd
    exact (List.nodup_append.mp hnd).1
end
end KP

set_option linter.all false
set_option maxHeartbeats 4000000
set_option maxRecDepth 100000
namespace KP
open PySem L2 PyProof.Rows
theorem b_reversed : bootBuiltins "reversed" = some (.type "reversed") := by decide +kernel
theorem b_dict : bootBuiltins "dict" = some (.type "dict") := by decide +kernel
theorem ite_no {b : Bool} {A B : Prop} (hc : b = false) (h : B) : if b = true then A else B := by rw [hc]; exact iteF h
theorem ite_yes {b : Bool} {A B : Prop} (hc : b = true) (h : A) : if b = true then A else B := by rw [hc]; exact iteT h
/-- the boxes' addresses -/
abbrev rfs (l : List Bt) : List V := l.map fun c => V.ref c.a
theorem rfs_at {l : List Bt} {i : Nat} {x : V} (h : (rfs l)[i]? = some x) : ∃ c, l[i]? = some c ∧ x = .ref c.a := by
  rw [List.getElem?_map] at h
  cases e : l[i]? with
  | none => rw [e] at h; cases h
  | some c => rw [e] at h; cases h; exact ⟨c, rfl, rfl⟩
theorem take_snoc {α : Type} {l : List α} {i : Nat} {c : α} (h : l[i]? = some c) : l.take (i + 1) = l.take i ++ [c] := by rw [List.take_add_one, h]; rfl
theorem preL_take {l : List Bt} {i : Nat} : (preL (l.take i)).length ≤ (preL l).length := by
  have : preL l = preL (l.take i) ++ preL (l.drop i) := by rw [← preL_app, List.take_append_drop]
  rw [this, List.length_append]; omega
section
variable {P : Program} {w : World} {K : PySem.W.Frag} {mg : Str → Option Value} {base : Heap} {A : Adr}
def spAll (n : Nat) : Sp := fun vs H Q _ => ∃ t : Bt, vs = [.ref t.a] ∧ BtAt H t ∧ dp t ≤ n ∧ (pre t).length ≤ 40 ∧
  ∀ (l : Addr) (H' : Hp), H l = none → Same H H' → H' l = some (.lst (rfs (pre t))) → Q (.ref l) H'
seal PE PS PSs PA PT PI PG in
theorem all_step (T : Txt K mg A) (n : Nat) (G_l_all : FnOk P w K mg base CX0 n A.f_l_all A.d_l_all P_l_all (spAll n)) : FnOk P w K mg base CX0 (n + 1) A.f_l_all A.d_l_all P_l_all (spAll (n + 1)) := by
  refine T.F_l_all.ok sc_l_all (fun vs H Q E h => ?_) (fun cdv B outer s H vs Q E hr h => ?_)
  · obtain ⟨t, rfl, _⟩ := h; rfl
  obtain ⟨t, rfl, bt, hd, h40, q⟩ := h
  refine ⟨_, @pss_cons _ _ _ _ _ (ps_set (i := 1) sc_l_all.nd rfl (Or.inl rfl) (pe_lst (pa_cons (pv 0) pa_nil)))
    (@pss_cons _ _ _ _ _ (ps_for PassesOwn.never rfl (pi_tup (pe_ix ix_tup (pv 0) pe_int (fun _ _ => rfl))) (pg_name (i := 2) sc_l_all.nd rfl (Or.inl rfl)) (pss_one (ps_set (i := 1) sc_l_all.nd rfl (Or.inl rfl) (pe_op op_cat (pv 1) (pe_call G_l_all hr rfl T.m_l_all T.F_l_all.kp T.b_l_all .nil pass0 (pa_cons (pv 2) pa_nil))))))
    (pss_one (ps_ret (pv 1)))), ?_⟩
  obtain ⟨tg, kt, e1, e2⟩ := bt.self.ex
  refine ⟨_, rfl, small (by simp), fun l hl => ?_⟩
  have s0 := same_upd hl (.lst [V.ref t.a])
  have e0 : upd H l (.lst [V.ref t.a]) l = some (.lst [V.ref t.a]) := upd_same
  generalize upd H l (.lst [V.ref t.a]) = H0 at s0 e0 ⊢
  have h40' := h40
  rw [pre_eq, List.length_cons] at h40'
  refine ⟨_, rfl, t.a, _, _, _, rfl, rfl, .of (s0 _ _ e1), rfl, kt, rfl, ⟨_, .of (s0 _ _ e2)⟩, for_tup (K := K) (a := kt) (xs := rfs t.ks) (fun i σ H' => ∃ (l : Addr) (v2 : Option V), σ = [some (.ref t.a), some (.ref l), v2] ∧ Same H H' ∧ H l = none ∧ H' l = some (.lst (rfs (t :: preL (t.ks.take i)))))
    ⟨l, none, rfl, s0, hl, by rw [List.take_zero, preL_nil]; exact e0⟩ (fun i σ H' _ ⟨_, _, _, s1, _⟩ => .of (s1 _ _ e2)) ?_ ?_⟩
  · rintro i x σ H1 hx ⟨l1, v2, rfl, s1, f1, e3⟩
    obtain ⟨c, hc, rfl⟩ := rfs_at hx
    have hcm := List.mem_of_getElem? hc
    have lt : (preL (t.ks.take (i + 1))).length ≤ (preL t.ks).length := preL_take
    rw [take_snoc hc, preL_snoc, List.length_append] at lt
    refine ⟨_, rfl, _, rfl, c, rfl, (bt.kid hcm).same s1, by have := dp_kid hcm; omega, by omega, fun l2 H2 f2 s2 e4 => ?_⟩
    refine ⟨l1, l2, _, _, rfl, rfl, s2 _ _ e3, e4, by rw [List.length_map, List.length_map, List.length_cons]; exact small (by omega), fun p hp => ⟨p, _, rfl, s1.trans (s2.trans (same_upd hp _)), ?_, ?_⟩⟩
    · cases e : H p with
      | none => rfl
      | some o => rw [s2 _ _ (s1 _ _ e)] at hp; cases hp
    · rw [upd_same, take_snoc hc, preL_snoc, ← List.map_append, List.cons_append]
  · rintro σ H1 ⟨l1, v2, rfl, s1, f1, e3⟩
    refine ⟨_, rfl, q l1 H1 f1 s1 ?_⟩
    rw [e3, List.take_of_length_le (by rw [List.length_map]; exact Nat.le_refl _), pre_eq]
theorem ok_all (T : Txt K mg A) : ∀ n, FnOk P w K mg base CX0 n A.f_l_all A.d_l_all P_l_all (spAll n)
  | 0 => ⟨fun vs H Q E h => by obtain ⟨t, _, _, h1, _⟩ := h; rw [dp_eq] at h1; omega, fun _ _ _ _ _ _ vs Q E _ _ _ _ h => by obtain ⟨t, _, _, h1, _⟩ := h; rw [dp_eq] at h1; omega⟩
  | n + 1 => all_step T n (ok_all T n)
theorem last_map {α : Type} (f : α → V) (l : List α) (a : α) : ((l ++ [a]).map f)[((l ++ [a]).map f).length - 1]? = some (f a) := by
  simp
theorem preL_len (l : List Bt) : l.length ≤ (preL l).length := by
  induction l with
  | nil => simp
  | cons x r ih => rw [preL_cons, List.length_append, pre_eq, List.length_cons, List.length_cons]; omega
def spBoxesT : Sp := fun vs H Q _ => ∃ t : Bt, vs = [.ref t.a] ∧ BtAt H t ∧ (pre t).length ≤ 40 ∧
  ∀ (l : Addr) (H' : Hp), H l = none → Same H H' → H' l = some (.lst (rfs (pre t))) → Q (.ref l) H'
seal PE PS PSs PA PT PI PG in
theorem ok_boxes_of (T : Txt K mg A) : FnOk P w K mg base CX0 1 A.f_boxes_of A.d_boxes_of P_boxes_of spBoxesT := by
  refine T.F_boxes_of.ok sc_boxes_of (fun vs H Q E h => ?_) (fun cdv B outer s H vs Q E hr h => ?_)
  · obtain ⟨t, rfl, _⟩ := h; rfl
  obtain ⟨t, rfl, bt, h40, q⟩ := h
  refine ⟨_, @pss_cons _ _ _ _ _ (ps_set (i := 1) sc_boxes_of.nd rfl (Or.inl rfl) (pe_lst pa_nil))
    (@pss_cons _ _ _ _ _ (ps_set (i := 2) sc_boxes_of.nd rfl (Or.inl rfl) (pe_lst (pa_cons (pv 0) pa_nil)))
    (@pss_cons _ _ _ _ _ (ps_while PassesOwn.never (pt_truth (pv 2) (fun _ => rfl)) (@pss_cons _ _ _ _ _ (ps_set (i := 3) sc_boxes_of.nd rfl (Or.inl rfl) (pe_bm0 PySem.F.plainAttrs_list PySem.F.slot_list_pop PySem.F.type_list_pop mt_pop (pv 2)))
    (@pss_cons _ _ _ _ _ (ps_expr (pe_bm PySem.F.plainAttrs_list PySem.F.slot_list_append PySem.F.type_list_append mt_append (pv 1) (pa_cons (pv 3) pa_nil)))
    (pss_one (ps_expr (pe_bm PySem.F.plainAttrs_list PySem.F.slot_list_extend PySem.F.type_list_extend mt_extend (pv 2) (pa_cons (pe_listRev rfl T.n_list b_list rfl T.n_reversed b_reversed (pe_ix ix_tup (pv 3) pe_int (fun _ _ => rfl))) pa_nil)))))))
    (pss_one (ps_ret (pv 1))))), ?_⟩
  refine ⟨small (by simp), fun l1 hl1 => ⟨_, rfl, small (by simp), fun l2 hl2 => ?_⟩⟩
  have s1 := same_upd hl1 (.lst [])
  have s2 := same_upd hl2 (.lst [V.ref t.a])
  have n12 : l1 ≠ l2 := fun e => by rw [← e, upd_same] at hl2; cases hl2
  have hl2' : H l2 = none := by rw [upd_ne n12.symm] at hl2; exact hl2
  refine ⟨fun m σ H1 => ∃ (ds zs : List Bt) (v3 : Option V), σ = [some (.ref t.a), some (.ref l1), some (.ref l2), v3] ∧ Same H H1 ∧ H1 l1 = some (.lst (rfs ds)) ∧ H1 l2 = some (.lst (rfs zs.reverse)) ∧
      ds ++ preL zs = pre t ∧ m = (preL zs).length,
    ⟨_, [], [t], none, rfl, s1.trans s2, by rw [upd_ne n12, upd_same]; rfl, upd_same, by rw [preL_cons, preL_nil]; simp, rfl⟩, ?_⟩
  rintro m σ H1 ⟨ds, zs, v3, rfl, s3, e1, e2, eo, rfl⟩
  cases zs with
  | nil =>
    refine ⟨_, rfl, _, .inl ⟨_, .of e2, rfl⟩, ite_no (by simp) ?_⟩
    refine ⟨_, rfl, q l1 H1 hl1 s3 ?_⟩
    rw [e1, ← eo, preL_nil, List.append_nil]
  | cons b zs =>
    refine ⟨_, rfl, _, .inl ⟨_, .of e2, rfl⟩, ite_yes (by simp) ?_⟩
    refine ⟨fun σ' H' => _, fun σ' H' h => h, ?_⟩
    have hb : b ∈ pre t := by rw [← eo, preL_cons, pre_eq b]; simp
    obtain ⟨tg, kt, b1, b3⟩ := (bt b hb).ex
    have er : rfs (b :: zs).reverse = (zs.reverse ++ [b]).map fun c => V.ref c.a := by rw [List.reverse_cons]
    rw [er] at e2
    have len1 := congrArg List.length eo
    rw [List.length_append, preL_cons, List.length_append, pre_eq b, List.length_cons] at len1
    have len2 := preL_len zs
    have len3 := preL_len b.ks
    have n40 : 100 ≤ sizeLine := by decide
    refine ⟨_, rfl, .inl ⟨rfl, _, .of e2⟩, l2, _, _, rfl, rfl, e2, last_map _ _ _, ?_⟩
    have ed : ((zs.reverse ++ [b]).map fun c => V.ref c.a).dropLast = rfs zs.reverse := by rw [List.map_append]; exact List.dropLast_concat
    rw [ed]
    have k1 : upd H1 l2 (.lst (rfs zs.reverse)) l1 = some (.lst (rfs ds)) := by rw [upd_ne n12]; exact e1
    refine ⟨_, rfl, .inl ⟨rfl, _, .of k1⟩, _, rfl, l1, _, _, rfl, rfl, k1, by rw [List.length_map]; omega, ?_⟩
    have k2 : upd (upd H1 l2 (.lst (rfs zs.reverse))) l1 (.lst (rfs ds ++ [V.ref b.a])) l2 = some (.lst (rfs zs.reverse)) := by rw [upd_ne n12.symm, upd_same]
    have k3 : upd (upd H1 l2 (.lst (rfs zs.reverse))) l1 (.lst (rfs ds ++ [V.ref b.a])) l1 = some (.lst (rfs ds ++ [V.ref b.a])) := upd_same
    have s4 : Same H (upd (upd H1 l2 (.lst (rfs zs.reverse))) l1 (.lst (rfs ds ++ [V.ref b.a]))) := fun b u e => by
      rw [upd_ne (ne_of_none e hl1), upd_ne (ne_of_none e hl2')]; exact s3 _ _ e
    generalize upd (upd H1 l2 (.lst (rfs zs.reverse))) l1 (.lst (rfs ds ++ [V.ref b.a])) = H2 at k2 k3 s4 ⊢
    refine ⟨_, rfl, .inl ⟨rfl, _, .of k2⟩, _, rfl, b.a, _, _, _, rfl, rfl, .of (s4 _ _ b1), rfl, kt, rfs b.ks, rfl, .of (s4 _ _ b3), fun l3 hl3 => ?_⟩
    have n3 : l3 ≠ l2 := fun e => by rw [e, k2] at hl3; cases hl3
    have n4 : l3 ≠ l1 := fun e => by rw [e, k3] at hl3; cases hl3
    have s5 := same_upd hl3 (.lst (rfs b.ks).reverse)
    refine ⟨l2, l3, _, _, rfl, rfl, s5 _ _ k2, upd_same, by simp only [List.length_map, List.length_reverse]; omega, ?_⟩
    refine ⟨_, ?_, ds ++ [b], b.ks ++ zs, some (.ref b.a), rfl, fun b u e => by rw [upd_ne (ne_of_none e hl2')]; exact s5 _ _ (s4 _ _ e), ?_, ?_, ?_, rfl⟩
    · rw [preL_app, preL_cons, pre_eq b, List.length_append, List.length_append, List.length_cons]; omega
    · rw [upd_ne n12, s5 _ _ k3]; show _ = some (HO.lst (List.map _ (ds ++ [b]))); rw [List.map_append]; rfl
    · rw [upd_same, ← List.map_reverse, ← List.map_append, ← List.reverse_append]
    · rw [← eo, preL_cons, preL_app, pre_eq b]; simp
end
end KP

set_option linter.all false
set_option maxHeartbeats 4000000
set_option maxRecDepth 100000
namespace KP
open PySem L2 PyProof.Rows
/-- a shape's dict -/
def shK (t th : Addr) (lo hi loh hih pad gap : Int) : List (Key × V) := [(.inr "wide", .ref t), (.inr "high", .ref th), (.inr "leastw", .int lo), (.inr "mostw", .int hi), (.inr "leasth", .int loh), (.inr "mosth", .int hih), (.inr "pad", .int pad), (.inr "gap", .int gap), (.inr "over", .bl false), (.inr "able", .bl false), (.inr "fill", .str ""), (.inr "ink", .str "as")]
section
variable {t th t' : Addr} {lo hi loh hih pad gap x : Int}
theorem put_wide : putK (shK t th lo hi loh hih pad gap) (.inr "wide") (.ref t') = shK t' th lo hi loh hih pad gap := by kernel_rfl
theorem put_high : putK (shK t th lo hi loh hih pad gap) (.inr "high") (.ref t') = shK t t' lo hi loh hih pad gap := by kernel_rfl
theorem put_leastw : putK (shK t th lo hi loh hih pad gap) (.inr "leastw") (.int x) = shK t th x hi loh hih pad gap := by kernel_rfl
theorem put_mostw : putK (shK t th lo hi loh hih pad gap) (.inr "mostw") (.int x) = shK t th lo x loh hih pad gap := by kernel_rfl
theorem put_leasth : putK (shK t th lo hi loh hih pad gap) (.inr "leasth") (.int x) = shK t th lo hi x hih pad gap := by kernel_rfl
theorem put_mosth : putK (shK t th lo hi loh hih pad gap) (.inr "mosth") (.int x) = shK t th lo hi loh x pad gap := by kernel_rfl
theorem put_pad : putK (shK t th lo hi loh hih pad gap) (.inr "pad") (.int x) = shK t th lo hi loh hih x gap := by kernel_rfl
theorem put_gap : putK (shK t th lo hi loh hih pad gap) (.inr "gap") (.int x) = shK t th lo hi loh hih pad x := by kernel_rfl
theorem val_wide : valV (shK t th lo hi loh hih pad gap) (.inr "wide") = some (.ref t) := by kernel_rfl
theorem val_high : valV (shK t th lo hi loh hih pad gap) (.inr "high") = some (.ref th) := by kernel_rfl
theorem val_leastw : valV (shK t th lo hi loh hih pad gap) (.inr "leastw") = some (.int lo) := by kernel_rfl
theorem val_mostw : valV (shK t th lo hi loh hih pad gap) (.inr "mostw") = some (.int hi) := by kernel_rfl
theorem val_leasth : valV (shK t th lo hi loh hih pad gap) (.inr "leasth") = some (.int loh) := by kernel_rfl
theorem val_mosth : valV (shK t th lo hi loh hih pad gap) (.inr "mosth") = some (.int hih) := by kernel_rfl
theorem val_pad : valV (shK t th lo hi loh hih pad gap) (.inr "pad") = some (.int pad) := by kernel_rfl
theorem val_gap : valV (shK t th lo hi loh hih pad gap) (.inr "gap") = some (.int gap) := by kernel_rfl
theorem nd_shK : ((shK t th lo hi loh hih pad gap).map (·.1)).Nodup := by
  have e : (shK t th lo hi loh hih pad gap).map (·.1) = (shK 0 0 0 0 0 0 0 0).map (·.1) := rfl
  rw [e]; decide +kernel
theorem len_shK : (shK t th lo hi loh hih pad gap).length = 12 := rfl
end
/-- a way that may be drawn -/
def Way.Ok : Way → Prop
  | .hold => True
  | .fixed n => 0 ≤ n ∧ n ≤ 12
  | .share n => 1 ≤ n ∧ n ≤ 3
/-- a shape: its dict, the tuples of its width and height, and what they say -/
structure Sh where
  d : Addr
  t : Addr
  th : Addr
  y : Way
  yh : Way
  lo : Int
  hi : Int
  loh : Int
  hih : Int
  pad : Int
  gap : Int
def Sh.kvs (s : Sh) : List (Key × V) := shK s.t s.th s.lo s.hi s.loh s.hih s.pad s.gap
structure ShOk (s : Sh) : Prop where
  y : s.y.Ok
  yh : s.yh.Ok
  lo : 0 ≤ s.lo ∧ s.lo ≤ 8
  hi : 0 ≤ s.hi ∧ s.hi ≤ 400
  loh : 0 ≤ s.loh ∧ s.loh ≤ 3
  hih : 0 ≤ s.hih ∧ s.hih ≤ 400
  pad : 0 ≤ s.pad ∧ s.pad ≤ 3
  gap : 0 ≤ s.gap ∧ s.gap ≤ 3
structure ShAt (H : Hp) (s : Sh) : Prop where
  ad : H s.d = some (.dK s.kvs)
  tw : H s.t = some (.tup s.y.vs)
  tall : H s.th = some (.tup s.yh.vs)
  ok : ShOk s
theorem ShAt.shp {H : Hp} {s : Sh} (h : ShAt H s) : Shp H s.d s.kvs s.t s.y s.lo s.hi := ⟨h.ad, val_wide, h.tw, h.ok.lo.1, val_leastw, val_mostw⟩
theorem ShAt.pad {H : Hp} {s : Sh} (h : ShAt H s) : valV s.kvs (.inr "pad") = some (.int s.pad) := val_pad
theorem ShAt.gap {H : Hp} {s : Sh} (h : ShAt H s) : valV s.kvs (.inr "gap") = some (.int s.gap) := val_gap
section
variable {P : Program} {w : World} {K : PySem.W.Frag} {mg : Str → Option Value} {base : Heap} {A : Adr}
def spSize : Sp := fun vs H Q _ => ∃ st : Addr, vs = [.ref st] ∧ St st H ∧ ∀ (t : Addr) (y : Way) (H' : Hp), Ms st H H' → H t = none → H' t = some (.tup y.vs) → y.Ok → Q (.ref t) H'
seal PE PS PSs PA PT PI PG in
theorem ok_size (T : Txt K mg A) : FnOk P w K mg base CX0 2 A.f_l_size A.d_l_size P_l_size spSize := by
  have G_l_mix : FnOk P w K mg base CX0 1 A.f_l_mix A.d_l_mix P_l_mix spMix := ok_mix T
  refine T.F_l_size.ok sc_l_size (fun vs H Q E h => ?_) (fun cdv B outer s H vs Q E hr h => ?_)
  · obtain ⟨st, rfl, _⟩ := h; rfl
  obtain ⟨st, rfl, hst, q⟩ := h
  refine ⟨_, @pss_cons _ _ _ _ _ (ps_set (i := 1) sc_l_size.nd rfl (Or.inl rfl) (pe_op op_mod (pe_call G_l_mix hr rfl T.m_l_mix T.F_l_mix.kp T.b_l_mix .nil pass0 (pa_cons (pv 0) (pa_cons pe_int pa_nil))) pe_int))
    (@pss_cons _ _ _ _ _ (ps_if (pt_cmpR op_lt (pv 1) pe_int (nomark _)) (pss_one (ps_ret (pe_ix ix_list (pe_lst (pa_cons (pe_tup (pa_cons pe_str pa_nil)) (pa_cons (pe_tup (pa_cons pe_str (pa_cons (pe_op op_add pe_int (pe_op op_mod (pe_call G_l_mix hr rfl T.m_l_mix T.F_l_mix.kp T.b_l_mix .nil pass0 (pa_cons (pv 0) (pa_cons pe_int pa_nil))) pe_int)) pa_nil))) (pa_cons (pe_tup (pa_cons pe_str (pa_cons pe_int pa_nil))) pa_nil)))) (pv 1) (fun _ _ => rfl)))) pss_nil)
    (@pss_cons _ _ _ _ _ (ps_if (pt_cmpR op_eq (pv 1) pe_int (nomark _)) (pss_one (ps_ret (pe_tup (pa_cons pe_str (pa_cons (pe_op op_mod (pe_call G_l_mix hr rfl T.m_l_mix T.F_l_mix.kp T.b_l_mix .nil pass0 (pa_cons (pv 0) (pa_cons pe_int pa_nil))) pe_int) pa_nil))))) pss_nil)
    (pss_one (ps_ret (pe_tup (pa_cons pe_str pa_nil)))))), ?_⟩
  refine ⟨_, rfl, st, 0, rfl, hst, fun r H1 r0 r1 m1 f1 => ⟨_, _, rfl, rfl, (by show (0:Int) < 6; decide), ?_⟩⟩
  dsimp only [gName]
  have z0 := Int.emod_nonneg r (show (6:Int) ≠ 0 by decide)
  have z1 := Int.emod_lt_of_pos r (show (0:Int) < 6 by decide)
  generalize hsz : r % 6 = wy at z0 z1 ⊢
  show tSeq _ _ _ _ _
  refine ⟨_, rfl, _, _, rfl, rfl, _, rfl, ite2 (fun c => ?_) (fun c => ?_)⟩
  · have c' : wy < 3 := of_decide_eq_true c
    refine ⟨small (by simp), fun t1 ht1 => ⟨_, rfl, st, 0, rfl, (m1.grow (same_upd ht1 _)).st, fun r2 H2 _ _ m2 _ => ⟨_, _, rfl, rfl, (by show (0:Int) < 3; decide), _, _, rfl, rfl, small (by simp), fun t2 ht2 => ⟨small (by simp), fun t3 ht3 => ⟨small (by simp), fun l hl => ⟨_, rfl, ?_⟩⟩⟩⟩⟩⟩
    have n1 : t1 ≠ st := m1.st.ne ht1
    have M2 := (m1.grow (same_upd ht1 (.tup [.str "hold"]))).trans m2
    have s2 := same_upd ht2 (.tup [.str "share", .int (1 + r2 % 3)])
    have s3 := same_upd ht3 (.tup [.str "share", .int 1])
    have s4 := same_upd hl (.lst [.ref t1, .ref t2, .ref t3])
    have M4 := M2.grow (s2.trans (s3.trans s4))
    have b0 := Int.emod_nonneg r2 (show (3:Int) ≠ 0 by decide)
    have b1 := Int.emod_lt_of_pos r2 (show (0:Int) < 3 by decide)
    refine ix_any (.of upd_same) z0 (by show wy < 3; exact c') fun v hv => ?_
    have : v = .ref t1 ∨ v = .ref t2 ∨ v = .ref t3 := by simpa using hv
    rcases this with rfl | rfl | rfl
    · exact q t1 .hold _ M4 (m1.free hst ht1) (s4 _ _ (s3 _ _ (s2 _ _ (m2.keep _ _ n1 upd_same)))) trivial
    · exact q t2 (.share (1 + r2 % 3)) _ M4 (M2.free hst ht2) (s4 _ _ (s3 _ _ upd_same)) ⟨by omega, by omega⟩
    · exact q t3 (.share 1) _ M4 ((M2.grow s2).free hst ht3) (s4 _ _ upd_same) ⟨by decide, by decide⟩
  refine ⟨_, rfl, rfl, _, rfl, ite2 (fun c => ?_) (fun c => ?_)⟩
  · refine ⟨_, rfl, st, 0, rfl, m1.st, fun r2 H2 _ _ m2 _ => ⟨_, _, rfl, rfl, (by show (0:Int) < 13; decide), small (by simp), fun t1 ht1 => ?_⟩⟩
    have b0 := Int.emod_nonneg r2 (show (13:Int) ≠ 0 by decide)
    have b1 := Int.emod_lt_of_pos r2 (show (0:Int) < 13 by decide)
    exact q t1 (.fixed (r2 % 13)) _ ((m1.trans m2).new _ ht1) ((m1.trans m2).free hst ht1) upd_same ⟨b0, by omega⟩
  · refine ⟨small (by simp), fun t1 ht1 => ?_⟩
    exact q t1 .hold _ (m1.new _ ht1) (m1.free hst ht1) upd_same trivial
def spPlain : Sp := fun vs H Q _ => vs = [] ∧ ∀ (d x y : Addr), H d = none → Q (.ref d) (upd H d (.dK (shK x y 0 400 0 400 0 0)))
theorem ok_plain_shape (T : Txt K mg A) (hw : A.wd = w) : FnOk P w K mg base CX0 1 A.f_plain_shape A.d_plain_shape P_plain_shape spPlain := by
  refine T.F_plain_shape.ok sc_plain_shape (fun vs H Q E h => ?_) (fun cdv B outer s H vs Q E hr h => ?_)
  · obtain ⟨rfl, _⟩ := h; rfl
  obtain ⟨rfl, q⟩ := h
  obtain ⟨a_PLAIN, x, y, hg_PLAIN, dc⟩ := T.g_PLAIN
  rw [hw] at dc
  refine ⟨_, pss_one (ps_ret (pe_callTy call_dictC rfl T.n_dict b_dict (pa_cons (pe_glob rfl hg_PLAIN (v := .ref a_PLAIN) rfl) pa_nil))), ?_⟩
  exact ⟨a_PLAIN, _, rfl, dc, nd_shK (t := x) (th := y) (lo := 0) (hi := 400) (loh := 0) (hih := 400) (pad := 0) (gap := 0), fun p hp => q p x y hp⟩
def spShape : Sp := fun vs H Q _ => ∃ st : Addr, vs = [.ref st] ∧ St st H ∧ ∀ (s : Sh) (H' : Hp), Ms st H H' → H s.d = none → ShAt H' s → Q (.ref s.d) H'
/-- a shape in the making -/
structure Mk (st d : Addr) (H H' : Hp) (t th : Addr) (lo hi loh hih pad gap : Int) (y yh : Way) : Prop where
  ms : Ms st H H'
  ad : H' d = some (.dK (shK t th lo hi loh hih pad gap))
  tw : H' t = some (.tup y.vs)
  tall : H' th = some (.tup yh.vs)
section
variable {st d : Addr} {H H' H'' : Hp} {t th : Addr} {lo hi loh hih pad gap : Int} {y yh : Way}
theorem Mk.ne (m : Mk st d H H' t th lo hi loh hih pad gap y yh) : d ≠ st := fun z => by
  obtain ⟨s, e, _⟩ := m.ms.st
  have := m.ad
  rw [z, e] at this; cases this
theorem Mk.step (m : Mk st d H H' t th lo hi loh hih pad gap y yh) (k : Ms st H' H'') : Mk st d H H'' t th lo hi loh hih pad gap y yh :=
  ⟨m.ms.trans k, k.keep _ _ m.ne m.ad, Tups.ms m.ms.st k _ _ m.tw, Tups.ms m.ms.st k _ _ m.tall⟩
theorem Mk.grow (m : Mk st d H H' t th lo hi loh hih pad gap y yh) (k : Same H' H'') : Mk st d H H'' t th lo hi loh hih pad gap y yh :=
  ⟨m.ms.grow k, k _ _ m.ad, k _ _ m.tw, k _ _ m.tall⟩
theorem Mk.put {lo' hi' loh' hih' pad' gap' : Int} (m : Mk st d H H' t th lo hi loh hih pad gap y yh) (hd : H d = none) : Mk st d H (upd H' d (.dK (shK t th lo' hi' loh' hih' pad' gap'))) t th lo' hi' loh' hih' pad' gap' y yh :=
  have tp : Tups H' (upd H' d (.dK (shK t th lo' hi' loh' hih' pad' gap'))) := .upd m.ad fun vs z => nomatch z
  ⟨m.ms.set _ hd m.ne, upd_same, tp _ _ m.tw, tp _ _ m.tall⟩
end
seal PE PS PSs PA PT PI PG in
theorem ok_shape (T : Txt K mg A) (hw : A.wd = w) : FnOk P w K mg base CX0 3 A.f_l_shape A.d_l_shape P_l_shape spShape := by
  have G_l_mix : FnOk P w K mg base CX0 2 A.f_l_mix A.d_l_mix P_l_mix spMix := (ok_mix T).mono (by omega)
  have G_l_size : FnOk P w K mg base CX0 2 A.f_l_size A.d_l_size P_l_size spSize := ok_size T
  have G_plain_shape : FnOk P w K mg base CX0 2 A.f_plain_shape A.d_plain_shape P_plain_shape spPlain := (ok_plain_shape T hw).mono (by omega)
  refine T.F_l_shape.ok sc_l_shape (fun vs H Q E h => ?_) (fun cdv B outer s H vs Q E hr h => ?_)
  · obtain ⟨st, rfl, _⟩ := h; rfl
  obtain ⟨st, rfl, hst, q⟩ := h
  refine ⟨_, @pss_cons _ _ _ _ _ (ps_set (i := 1) sc_l_shape.nd rfl (Or.inl rfl) (pe_call0 G_plain_shape hr rfl T.m_plain_shape T.F_plain_shape.kp T.b_plain_shape .nil pass0))
    (@pss_cons _ _ _ _ _ (ps_dput (hu_of hr) (pv 1) pe_str (pe_call G_l_size hr rfl T.m_l_size T.F_l_size.kp T.b_l_size .nil pass0 (pa_cons (pv 0) pa_nil)) rfl)
    (@pss_cons _ _ _ _ _ (ps_dput (hu_of hr) (pv 1) pe_str (pe_call G_l_size hr rfl T.m_l_size T.F_l_size.kp T.b_l_size .nil pass0 (pa_cons (pv 0) pa_nil)) rfl)
    (@pss_cons _ _ _ _ _ (ps_set (i := 2) sc_l_shape.nd rfl (Or.inl rfl) (pe_call G_l_mix hr rfl T.m_l_mix T.F_l_mix.kp T.b_l_mix .nil pass0 (pa_cons (pv 0) (pa_cons pe_int pa_nil))))
    (@pss_cons _ _ _ _ _ (ps_if (pt_cmpR op_eq (pe_op op_mod (pv 2) pe_int) pe_int (nomark _)) (@pss_cons _ _ _ _ _ (ps_dput (hu_of hr) (pv 1) pe_str (pe_op op_mod (pe_op op_fdiv (pv 2) pe_int) pe_int) rfl)
    (pss_one (ps_dput (hu_of hr) (pv 1) pe_str (pe_op op_mod (pe_op op_fdiv (pv 2) pe_int) pe_int) rfl))) pss_nil)
    (@pss_cons _ _ _ _ _ (ps_if (pt_cmpR op_eq (pe_op op_mod (pv 2) pe_int) pe_int (nomark _)) (@pss_cons _ _ _ _ _ (ps_dput (hu_of hr) (pv 1) pe_str (pe_op op_mod (pe_op op_fdiv (pv 2) pe_int) pe_int) rfl)
    (pss_one (ps_dput (hu_of hr) (pv 1) pe_str (pe_op op_mod (pe_op op_fdiv (pv 2) pe_int) pe_int) rfl))) pss_nil)
    (@pss_cons _ _ _ _ _ (ps_dput (hu_of hr) (pv 1) pe_str (pe_ix ix_list (pe_lst (pa_cons pe_int (pa_cons pe_int (pa_cons pe_int (pa_cons (pe_op op_mod (pe_op op_fdiv (pv 2) pe_int) pe_int) pa_nil))))) (pe_op op_mod (pe_op op_fdiv (pv 2) pe_int) pe_int) (fun _ _ => rfl)) rfl)
    (@pss_cons _ _ _ _ _ (ps_dput (hu_of hr) (pv 1) pe_str (pe_ix ix_list (pe_lst (pa_cons pe_int (pa_cons pe_int (pa_cons pe_int (pa_cons (pe_op op_mod (pe_op op_fdiv (pv 2) pe_int) pe_int) pa_nil))))) (pe_op op_mod (pe_op op_fdiv (pv 2) pe_int) pe_int) (fun _ _ => rfl)) rfl)
    (pss_one (ps_ret (pv 1)))))))))), ?_⟩
  refine ⟨rfl, fun d x0 y0 hd => ?_⟩
  have nds : d ≠ st := hst.ne hd
  have m0 : Ms st H (upd H d (.dK (shK x0 y0 0 400 0 400 0 0))) := .new (.of hst (fun _ _ h => h)) _ hd
  have e0 : upd H d (.dK (shK x0 y0 0 400 0 400 0 0)) d = _ := upd_same
  generalize upd H d (.dK (shK x0 y0 0 400 0 400 0 0)) = H0 at m0 e0 ⊢
  refine ⟨_, rfl, st, rfl, m0.st, fun t y H1 m1 f1 e1 oy => ⟨_, rfl, d, _, rfl, dput_s (m1.keep _ _ nds e0) (by rw [len_shK]; decide), ?_⟩⟩
  rw [put_wide]
  have d1 := m1.keep _ _ nds e0
  have t1 : Tups H1 (upd H1 d (.dK (shK t y0 0 400 0 400 0 0))) := .upd d1 fun vs z => nomatch z
  have M1 := (m0.trans m1).set (.dK (shK t y0 0 400 0 400 0 0)) hd nds
  have e1' := t1 _ _ e1
  have d1' : upd H1 d (.dK (shK t y0 0 400 0 400 0 0)) d = _ := upd_same
  generalize upd H1 d (.dK (shK t y0 0 400 0 400 0 0)) = H2 at M1 e1' d1' ⊢
  refine ⟨_, rfl, st, rfl, M1.st, fun th yh H3 m3 f3 e3 oyh => ⟨_, rfl, d, _, rfl, dput_s (m3.keep _ _ nds d1') (by rw [len_shK]; decide), ?_⟩⟩
  rw [put_high]
  have d3 := m3.keep _ _ nds d1'
  have t3 : Tups H3 (upd H3 d (.dK (shK t th 0 400 0 400 0 0))) := .upd d3 fun vs z => nomatch z
  have K1 : Mk st d H (upd H3 d (.dK (shK t th 0 400 0 400 0 0))) t th 0 400 0 400 0 0 y yh := ⟨(M1.trans m3).set _ hd nds, upd_same, t3 _ _ (Tups.ms M1.st m3 _ _ e1'), t3 _ _ e3⟩
  generalize upd H3 d (.dK (shK t th 0 400 0 400 0 0)) = H4 at K1 ⊢
  clear t3 d3 d1' M1 e1' t1 d1 e0 m0
  refine ⟨_, rfl, st, 0, rfl, K1.ms.st, fun wy H5 w0 w1 m5 _ => ?_⟩
  have K2 := K1.step m5
  dsimp only [gName]
  show tSeq _ _ _ _ _
  refine seq_joinI (fun σ' H' => ∃ lo loh : Int, σ' = [some (.ref st), some (.ref d), some (.int wy)] ∧ Mk st d H H' t th lo 400 loh 400 0 0 y yh ∧ (0 ≤ lo ∧ lo ≤ 8) ∧ 0 ≤ loh ∧ loh ≤ 3) (fun N hN => ?_) ?_
  · refine ⟨_, rfl, _, _, rfl, rfl, (by show (0:Int) < 4; decide), rfl, _, rfl, ite2 (fun c => ?_) (fun c => hN _ _ ⟨0, 0, rfl, K2, ⟨by decide, by decide⟩, by decide, by decide⟩)⟩
    refine ⟨_, rfl, _, _, rfl, rfl, ⟨by decide, by decide⟩, _, _, rfl, rfl, (by show (0:Int) < 9; decide), _, rfl, d, _, rfl, dput_s K2.ad (by rw [len_shK]; decide), ?_⟩
    rw [put_leastw]
    have K3 := K2.put (lo' := wy / 4 % 9) (hi' := 400) (loh' := 0) (hih' := 400) (pad' := 0) (gap' := 0) hd
    generalize upd H5 d (.dK (shK t th (wy / 4 % 9) 400 0 400 0 0)) = H6 at K3 ⊢
    refine ⟨_, rfl, _, _, rfl, rfl, ⟨by decide, by decide⟩, _, _, rfl, rfl, (by show (0:Int) < 4; decide), _, rfl, d, _, rfl, dput_s K3.ad (by rw [len_shK]; decide), ?_⟩
    rw [put_leasth]
    exact hN _ _ ⟨_, _, rfl, K3.put hd, ⟨by omega, by omega⟩, by omega, by omega⟩
  clear K2 K1
  rintro σ' H6 ⟨lo, loh, rfl, K2, bl, blh⟩
  refine seq_joinI (fun σ' H' => ∃ hi hih : Int, σ' = [some (.ref st), some (.ref d), some (.int wy)] ∧ Mk st d H H' t th lo hi loh hih 0 0 y yh ∧ (0 ≤ hi ∧ hi ≤ 400) ∧ 0 ≤ hih ∧ hih ≤ 400) (fun N hN => ?_) ?_
  · refine ⟨_, rfl, _, _, rfl, rfl, (by show (0:Int) < 5; decide), rfl, _, rfl, ite2 (fun c => ?_) (fun c => hN _ _ ⟨400, 400, rfl, K2, ⟨by decide, by decide⟩, by decide, by decide⟩)⟩
    refine ⟨_, rfl, _, _, rfl, rfl, ⟨by decide, by decide⟩, _, _, rfl, rfl, (by show (0:Int) < 12; decide), _, rfl, d, _, rfl, dput_s K2.ad (by rw [len_shK]; decide), ?_⟩
    rw [put_mostw]
    have K3 := K2.put (lo' := lo) (hi' := wy / 5 % 12) (loh' := loh) (hih' := 400) (pad' := 0) (gap' := 0) hd
    generalize upd H6 d (.dK (shK t th lo (wy / 5 % 12) loh 400 0 0)) = H7 at K3 ⊢
    refine ⟨_, rfl, _, _, rfl, rfl, ⟨by decide, by decide⟩, _, _, rfl, rfl, (by show (0:Int) < 5; decide), _, rfl, d, _, rfl, dput_s K3.ad (by rw [len_shK]; decide), ?_⟩
    rw [put_mosth]
    exact hN _ _ ⟨_, _, rfl, K3.put hd, ⟨by omega, by omega⟩, by omega, by omega⟩
  clear K2
  rintro σ' H7 ⟨hi, hih, rfl, K2, bh, bhh⟩
  have four : ∀ (v : V) (a : Int), 0 ≤ a → a ≤ 3 → v ∈ [V.int 0, V.int 0, V.int 1, V.int a] → ∃ i : Int, v = .int i ∧ 0 ≤ i ∧ i ≤ 3 := fun v a a0 a3 hv => by
    have : v = .int 0 ∨ v = .int 1 ∨ v = .int a := by simpa using hv
    rcases this with rfl | rfl | rfl
    · exact ⟨_, rfl, by decide, by decide⟩
    · exact ⟨_, rfl, by decide, by decide⟩
    · exact ⟨_, rfl, a0, a3⟩
  refine ⟨_, rfl, _, _, rfl, rfl, ⟨by decide, by decide⟩, _, _, rfl, rfl, (by show (0:Int) < 4; decide), small (by simp), fun l1 hl1 => ⟨_, rfl, _, _, rfl, rfl, ⟨by decide, by decide⟩, _, _, rfl, rfl, (by show (0:Int) < 4; decide), ix_any (.of upd_same) (by omega) (by show wy / 28 % 4 < 4; omega) fun v hv => ?_⟩⟩
  obtain ⟨pad, rfl, bp⟩ := four v _ (by omega) (by omega) hv
  have K3 := K2.grow (same_upd hl1 (.lst [.int 0, .int 0, .int 1, .int (wy / 7 % 4)]))
  refine ⟨_, rfl, d, _, rfl, dput_s K3.ad (by rw [len_shK]; decide), ?_⟩
  rw [put_pad]
  have K4 := K3.put (lo' := lo) (hi' := hi) (loh' := loh) (hih' := hih) (pad' := pad) (gap' := 0) hd
  generalize upd (upd H7 l1 (.lst [.int 0, .int 0, .int 1, .int (wy / 7 % 4)])) d (.dK (shK t th lo hi loh hih pad 0)) = H8 at K4 ⊢
  refine ⟨_, rfl, _, _, rfl, rfl, ⟨by decide, by decide⟩, _, _, rfl, rfl, (by show (0:Int) < 4; decide), small (by simp), fun l2 hl2 => ⟨_, rfl, _, _, rfl, rfl, ⟨by decide, by decide⟩, _, _, rfl, rfl, (by show (0:Int) < 4; decide), ix_any (.of upd_same) (by omega) (by show wy / 44 % 4 < 4; omega) fun v hv => ?_⟩⟩
  obtain ⟨gap, rfl, bg⟩ := four v _ (by omega) (by omega) hv
  have K5 := K4.grow (same_upd hl2 (.lst [.int 0, .int 0, .int 1, .int (wy / 11 % 4)]))
  refine ⟨_, rfl, d, _, rfl, dput_s K5.ad (by rw [len_shK]; decide), ?_⟩
  rw [put_gap]
  have K6 := K5.put (lo' := lo) (hi' := hi) (loh' := loh) (hih' := hih) (pad' := pad) (gap' := gap) hd
  exact ⟨_, rfl, q ⟨d, t, th, y, yh, lo, hi, loh, hih, pad, gap⟩ _ K6.ms hd ⟨K6.ad, K6.tw, K6.tall, oy, oyh, bl, bh, blh, bhh, bp, bg⟩⟩
end
end KP

set_option linter.all false
set_option maxHeartbeats 4000000
set_option maxRecDepth 100000
namespace KP
open PySem L2 PyProof.Rows
theorem ShAt.keep {H H' : Hp} {s : Sh} (h : ShAt H s) (k : ∀ b o, b = s.d ∨ b = s.t ∨ b = s.th → H b = some o → H' b = some o) : ShAt H' s :=
  ⟨k _ _ (.inl rfl) h.ad, k _ _ (.inr (.inl rfl)) h.tw, k _ _ (.inr (.inr rfl)) h.tall, h.ok⟩
theorem ShAt.same {H H' : Hp} {s : Sh} (h : ShAt H s) (k : Same H H') : ShAt H' s := h.keep fun b o _ e => k b o e
theorem ShAt.ms {st : Addr} {H H' : Hp} {s : Sh} (h : ShAt H s) (hs : St st H) (m : Ms st H H') : ShAt H' s := h.keep fun b o hb e => m.keep b o (fun z => by
  obtain ⟨x, a, _⟩ := hs
  rw [z] at hb
  rcases hb with hb | hb | hb
  · have := h.ad; rw [← hb, a] at this; cases this
  · have := h.tw; rw [← hb, a] at this; cases this
  · have := h.tall; rw [← hb, a] at this; cases this) e
/-- the shapes by their names -/
structure Shs (H : Hp) (sd : Addr) (ns : List Str) (f : Str → Sh) : Prop where
  ad : H sd = some (.dK (ns.map fun n => (Sum.inr n, V.ref (f n).d)))
  at_ : ∀ n ∈ ns, ShAt H (f n)
  inj : ∀ m ∈ ns, ∀ n ∈ ns, (f m).d = (f n).d → m = n
  ne : ∀ n ∈ ns, (f n).d ≠ sd
theorem val_map {α : Type} {ns : List Str} {g : Str → V} {n : Str} (h : n ∈ ns) : valV (ns.map fun n => ((Sum.inr n : Key), g n)) (.inr n) = some (g n) := by
  induction ns with
  | nil => cases h
  | cons x r ih =>
    by_cases e : x = n
    · subst e
      rw [List.map_cons]; unfold valV; simp
    · have h' : n ∈ r := by
        rcases List.mem_cons.mp h with h | h
        · exact absurd h.symm e
        · exact h
      have := ih h'
      rw [List.map_cons]
      unfold valV at this ⊢
      rw [List.find?_cons]
      have ne : decide ((Sum.inr x : Key) = Sum.inr n) = false := decide_eq_false fun z => e (by injection z)
      simp only [ne]
      exact this
theorem val_map_none {ns : List Str} {g : Str → V} {n : Str} (h : n ∉ ns) : valV (ns.map fun n => ((Sum.inr n : Key), g n)) (.inr n) = none := by
  induction ns with
  | nil => rfl
  | cons x r ih =>
    have := ih fun z => h (List.mem_cons_of_mem _ z)
    rw [List.map_cons]
    unfold valV at this ⊢
    rw [List.find?_cons]
    have ne : decide ((Sum.inr x : Key) = Sum.inr n) = false := decide_eq_false fun z => h (by injection z with z; rw [z]; exact List.mem_cons_self ..)
    simp only [ne]
    exact this
theorem put_new {ns : List Str} {g g' : Str → V} {n : Str} (h : n ∉ ns) (e : ∀ m ∈ ns, g' m = g m) : putK (ns.map fun n => ((Sum.inr n : Key), g n)) (.inr n) (g' n) = (ns ++ [n]).map fun n => ((Sum.inr n : Key), g' n) := by
  unfold putK
  have a : ((ns.map fun n => ((Sum.inr n : Key), g n)).any fun kv => decide (kv.1 = Sum.inr n)) = false := by rw [valV_any, val_map_none h]; rfl
  rw [if_neg (by rw [a]; simp), List.map_append]
  congr 1
  exact List.map_congr_left fun m hm => by rw [e m hm]
theorem Shs.get {H : Hp} {sd : Addr} {ns : List Str} {f : Str → Sh} (h : Shs H sd ns f) {n : Str} (hn : n ∈ ns) : DGet H sd (.str n) (some (.ref (f n).d)) := dget_s h.ad (val_map (α := Unit) hn)
theorem Shs.same {H H' : Hp} {sd : Addr} {ns : List Str} {f : Str → Sh} (h : Shs H sd ns f) (k : Same H H') : Shs H' sd ns f := ⟨k _ _ h.ad, fun n hn => (h.at_ n hn).same k, h.inj, h.ne⟩
theorem Shs.ms {st : Addr} {H H' : Hp} {sd : Addr} {ns : List Str} {f : Str → Sh} (h : Shs H sd ns f) (hs : St st H) (m : Ms st H H') : Shs H' sd ns f :=
  ⟨m.keep _ _ (fun z => by obtain ⟨x, a, _⟩ := hs; have := h.ad; rw [z, a] at this; cases this) h.ad, fun n hn => (h.at_ n hn).ms hs m, h.inj, h.ne⟩
/-- a dict from names to refs -/
abbrev dN (ns : List Str) (g : Str → Addr) : List (Key × V) := ns.map fun n => (Sum.inr n, V.ref (g n))
theorem dN_nd {ns : List Str} {g : Str → Addr} (h : ns.Nodup) : ((dN ns g).map (·.1)).Nodup := by
  rw [List.map_map]
  exact List.pairwise_map.mpr (List.Pairwise.imp (fun h z => h (by injection z)) h)
theorem new_at {l : List Str} (hnd : l.Nodup) {i : Nat} {n : Str} (h : l[i]? = some n) : n ∉ l.take i := fun z => by
  obtain ⟨j, hj⟩ := List.mem_iff_getElem?.mp z
  have hji : j < i := by
    rcases Nat.lt_or_ge j i with h | h
    · exact h
    · rw [List.getElem?_eq_none (by rw [List.length_take]; omega)] at hj; cases hj
  rw [List.getElem?_take, if_pos hji] at hj
  have l1 : j < l.length := (List.getElem?_eq_some_iff.mp hj).1
  have := (List.getElem?_inj l1 hnd).mp (hj.trans h.symm)
  omega
section
variable {P : Program} {w : World} {K : PySem.W.Frag} {mg : Str → Option Value} {base : Heap} {A : Adr}
def spShapes (n : Nat) : Sp := fun vs H Q _ => ∃ (st : Addr) (t : Bt), vs = [.ref st, .ref t.a] ∧ St st H ∧ BtAt H t ∧ dp t ≤ n ∧ (pre t).length ≤ 40 ∧ (nmsT t).Nodup ∧
  ∀ (sd : Addr) (f : Str → Sh) (H' : Hp), Ms st H H' → H sd = none → Shs H' sd (nmsT t) f → (∀ n ∈ nmsT t, H (f n).d = none) → Q (.ref sd) H'
abbrev sc_l_shapes_0 : Scope := (match defBody s_l_shapes with | (.Return (some (.Call _ ((.ListComp _ _ sc _) :: _) _ _)) _) :: _ => sc | _ => defScope s_l_shapes)
theorem blk_l_shapes_0 : Blk (defScope s_l_shapes) N_l_shapes sc_l_shapes_0 ["_law_box_here"] [0] := ⟨rfl, by decide +kernel, by decide +kernel, by decide +kernel, by decide +kernel⟩
theorem nd_l_shapes_0 : (capN N_l_shapes ["_law_box_here"] [0]).Nodup := by decide +kernel
seal PE PS PSs PA PT PI PG in
theorem ok_shapes (T : Txt K mg A) (hw : A.wd = w) (n : Nat) : FnOk P w K mg base CX0 (n + 4) A.f_l_shapes A.d_l_shapes P_l_shapes (spShapes n) := by
  have G_l_all : FnOk P w K mg base CX0 (n + 3) A.f_l_all A.d_l_all P_l_all (spAll n) := (ok_all T n).mono (by omega)
  have G_l_shape : FnOk P w K mg base CX0 (n + 3) A.f_l_shape A.d_l_shape P_l_shape spShape := (ok_shape T hw).mono (by omega)
  refine T.F_l_shapes.ok sc_l_shapes (fun vs H Q E h => ?_) (fun cdv B outer s H vs Q E hr h => ?_)
  · obtain ⟨st, t, rfl, _⟩ := h; rfl
  obtain ⟨st, t, rfl, hst, bt, hd, h40, hnd, q⟩ := h
  refine ⟨_, pss_one (ps_ret (pe_callTy (call_dictP rfl) rfl T.n_dict b_dict (pa_cons (pe_comp blk_l_shapes_0 rfl (pi_seq (pe_call G_l_all hr rfl T.m_l_all T.F_l_all.kp T.b_l_all .nil pass0 (pa_cons (pv 1) pa_nil))) (fun _ _ _ _ _ => pg_name (i := 0) nd_l_shapes_0 rfl (.inl rfl)) (fun _ _ _ _ _ => pif_nil) (fun _ _ _ _ _ => pe_tup (pa_cons (pe_ix (ix_tupK (K := K) rfl) (pv 0) pe_int (fun _ _ => rfl)) (pa_cons (pe_call G_l_shape hr rfl T.m_l_shape T.F_l_shape.kp T.b_l_shape .nil pass0 (pa_cons (pv 1) pa_nil)) pa_nil)))) pa_nil))), ?_⟩
  refine ⟨_, rfl, t, rfl, bt, hd, h40, fun l H1 f1 s1 e1 => ⟨l, rfl, .inl ⟨⟨_, .of e1⟩, ?_⟩⟩⟩
  have nls : l ≠ st := hst.ne f1
  have m1 : Ms st H H1 := .of hst s1
  have ll : (rfs (pre t)).length = (pre t).length := List.length_map _
  refine blk_list (xs := rfs (pre t)) (fun i acc H' => ∃ (ts : List Addr) (f : Str → Sh), acc = ts.map V.ref ∧ ts.length = i ∧ i ≤ 40 ∧ Ms st H H' ∧ H' l = some (.lst (rfs (pre t))) ∧ PrsAt H' ts (dN ((nmsT t).take i) fun n => (f n).d) ∧ (∀ n ∈ (nmsT t).take i, ShAt H' (f n) ∧ H (f n).d = none) ∧ ∀ m ∈ (nmsT t).take i, ∀ n ∈ (nmsT t).take i, (f m).d = (f n).d → m = n)
    ⟨[], fun _ => ⟨0, 0, 0, .hold, .hold, 0, 0, 0, 0, 0, 0⟩, rfl, rfl, Nat.zero_le _, m1, e1, .nil, fun n h => (by simp at h), fun n h => (by simp at h)⟩ (fun i acc H' ⟨_, _, _, _, _, _, e, _⟩ => .of e) (fun i acc H' ⟨_, _, ea, el, hi, _⟩ => ?_) (fun i x acc H' R k hx z => ?_) fun acc H' z => ?_
  · rw [ea, List.length_map, el]; exact small1000 (by omega)
  · obtain ⟨ts, f, rfl, el, hi, m2, e2, pr, hf, hin⟩ := z
    obtain ⟨c, hc, rfl⟩ := rfs_at hx
    have hcm := List.mem_of_getElem? hc
    have hcn : (nmsT t)[i]? = some c.n := by rw [List.getElem?_map, hc]; rfl
    have hnew := new_at hnd hcn
    have bc := (bt c hcm).tups (.ms hst m2)
    obtain ⟨tg, kt, b1, b2⟩ := bc.ex
    dsimp only [tYes]; rw [if_pos rfl]
    refine ⟨_, rfl, c.a, _, _, _, rfl, rfl, .of b1, rfl, _, rfl, st, rfl, m2.st, fun sh H3 m3 fd hs => ⟨small (by simp), fun tt ht => k _ _ ?_⟩⟩
    let f' : Str → Sh := fun n => if n = c.n then sh else f n
    have fe : f' c.n = sh := if_pos rfl
    have fo : ∀ m ∈ (nmsT t).take i, f' m = f m := fun m hm => if_neg fun z => hnew (by rw [← z]; exact hm)
    have s4 := same_upd ht (.tup [.str c.n, .ref sh.d])
    have old : ∀ n ∈ (nmsT t).take i, (f n).d ≠ sh.d := fun n hn z => by
      have := (hf n hn).1.ad
      rw [z, fd] at this; cases this
    have ed : dN ((nmsT t).take (i + 1)) (fun n => (f' n).d) = dN ((nmsT t).take i) (fun n => (f n).d) ++ [(Sum.inr c.n, V.ref sh.d)] := by
      rw [take_snoc hcn, dN, List.map_append, List.map_congr_left fun m hm => by rw [fo m hm]]
      show _ ++ [(_, V.ref (f' c.n).d)] = _
      rw [fe]
    refine ⟨ts ++ [tt], f', by rw [List.map_append]; rfl, by rw [List.length_append, el]; rfl, ?_, (m2.trans m3).grow s4, s4 _ _ (m3.keep _ _ nls e2), ?_, ?_, ?_⟩
    · have := (List.getElem?_eq_some_iff.mp hc).1; omega
    · rw [ed]
      exact (pr.same fun b xs e => s4 _ _ (Tups.ms m2.st m3 _ _ e)).append (.cons upd_same .nil)
    · intro n hn
      rw [take_snoc hcn] at hn
      rcases List.mem_append.mp hn with hn | hn
      · rw [fo n hn]; exact ⟨((hf n hn).1.ms m2.st m3).same s4, (hf n hn).2⟩
      · rw [List.mem_singleton.mp hn, fe]; exact ⟨hs.same s4, m2.free hst fd⟩
    · intro m hm n hn e
      rw [take_snoc hcn] at hm hn
      rcases List.mem_append.mp hm with hm | hm
      · rcases List.mem_append.mp hn with hn | hn
        · rw [fo m hm, fo n hn] at e; exact hin m hm n hn e
        · rw [List.mem_singleton.mp hn, fo m hm, fe] at e; exact absurd e (old m hm)
      · rcases List.mem_append.mp hn with hn | hn
        · rw [List.mem_singleton.mp hm, fo n hn, fe] at e; exact absurd e.symm (old n hn)
        · rw [List.mem_singleton.mp hm, List.mem_singleton.mp hn]
  · obtain ⟨ts, f, rfl, el, hi, m2, e2, pr, hf, hin⟩ := z
    rw [ll, List.take_of_length_le (by rw [List.length_map]; exact Nat.le_refl _)] at pr hf hin
    intro l4 hl4
    have s4 := same_upd hl4 (.lst (ts.map V.ref))
    refine ⟨l4, ts, _, rfl, upd_same, pr.same fun b xs e => s4 _ _ e, by rw [List.length_map, List.length_map]; omega, fun p hp4 => ?_⟩
    have em : mergeK [] (dN (nmsT t) fun n => (f n).d) = dN (nmsT t) fun n => (f n).d := mergeK_nd (dN_nd hnd)
    rw [em]
    have s5 := same_upd hp4 (.dK (dN (nmsT t) fun n => (f n).d))
    refine q p f _ (m2.grow (s4.trans s5)) ((m2.grow s4).free hst hp4) ⟨upd_same, fun n hn => (hf n hn).1.same (s4.trans s5), hin, fun n hn z => ?_⟩ fun n hn => (hf n hn).2
    have := s4 _ _ (hf n hn).1.ad
    rw [z, hp4] at this; cases this
end
end KP

set_option linter.all false
set_option maxHeartbeats 4000000
set_option maxRecDepth 100000
namespace KP
open PySem L2 PyProof.Rows
open WM (bl)
/-- the greatest, 0 of none -/
def mx0 (l : List Int) : Int := l.max?.getD 0
theorem mx0_eq {l : List Int} {M : Int} (h : M ∈ l) (hb : ∀ a ∈ l, a ≤ M) : mx0 l = M := by
  unfold mx0
  rw [List.max?_eq_some_iff.mpr ⟨h, hb⟩]; rfl
def gapN (g n : Int) : Int := g * (if n - 1 > 0 then n - 1 else 0)
def wmx (z : Str) : Int := mx0 ((Txt.split z bl).map fun w => (w.length : Int))
def more1 : V → Int
  | .int i => i
  | _ => 1
def wdsP : V → Int × Int
  | .str z => (wmx z, z.length)
  | _ => (0, 0)
abbrev fs (ps : List (Int × Int)) : List Int := ps.map fun p => p.1
abbrev sn (ps : List (Int × Int)) : List Int := ps.map fun p => p.2
/-- what is in a box, across -/
def nIn (k : Str) (m : V) (g : Int) (ps : List (Int × Int)) : Int × Int :=
  if k = "words" then wdsP m
  else if k = "row" then ((fs ps).sum + gapN g ps.length, (sn ps).sum + gapN g ps.length)
  else if k = "flow" then (mx0 (fs ps), (sn ps).sum + gapN g ps.length)
  else if k = "grid" then (more1 m * mx0 (fs ps) + gapN g (more1 m), more1 m * mx0 (sn ps) + gapN g (more1 m))
  else (1 * mx0 (fs ps) + gapN g 1, 1 * mx0 (sn ps) + gapN g 1)
def szI (s : Sh) (x : Int) : Int := match s.y with
  | .fixed n => n
  | _ => x + 2 * s.pad
def sz (s : Sh) (x : Int) : Int := lim (szI s x) s.lo s.hi
def ndP (s : Sh) (k : Str) (m : V) (ps : List (Int × Int)) : Int × Int := (sz s (nIn k m s.gap ps).1, sz s (nIn k m s.gap ps).2)
mutual
/-- what a box needs -/
def N (f : Str → Sh) : Bt → Int × Int
  | .mk _ k n m ks => ndP (f n) k m (NL f ks)
def NL (f : Str → Sh) : List Bt → List (Int × Int)
  | [] => []
  | b :: r => N f b :: NL f r
end
theorem NL_eq (f : Str → Sh) (l : List Bt) : NL f l = l.map (N f) := by
  induction l with
  | nil => rw [NL]; rfl
  | cons b r ih => rw [NL, ih]; rfl
theorem N_eq (f : Str → Sh) (t : Bt) : N f t = ndP (f t.n) t.k t.m (t.ks.map (N f)) := by
  cases t; rw [N, NL_eq]; rfl
theorem J_len_eq : ∀ {xs : List Str}, xs ≠ [] → (WM.J xs).length + 1 = (xs.map (·.length)).sum + xs.length
  | [], h => absurd rfl h
  | [x], _ => by show x.length + 1 = _; simp
  | x :: y :: r, _ => by
    have ih := J_len_eq (xs := y :: r) (by simp)
    show (x ++ bl ++ WM.J (y :: r)).length + 1 = _
    rw [Str.length_append, Str.length_append, bl1, List.map_cons, List.sum_cons, List.length_cons]
    omega
theorem split_ne (z : Str) : Txt.split z bl ≠ [] := fun e => by have := PyProof.Rows.split_pos z bl; rw [e] at this; exact absurd this (by decide)
theorem split_len (z : Str) : (Txt.split z bl).length ≤ z.length + 1 := by
  have h1 := StrLaws.join_split z bl
  have h2 := J_len_eq (split_ne z)
  have h3 : (WM.J (Txt.split z bl)).length = z.length := by
    have : WM.J (Txt.split z bl) = z := h1
    rw [this]
  omega
end KP

set_option linter.all false
set_option maxHeartbeats 4000000
set_option maxRecDepth 100000
namespace KP
open PySem L2 PyProof.Rows
open WM (bl)
section
variable {P : Program} {w : World} {K : PySem.W.Frag} {mg : Str → Option Value} {base : Heap} {A : Adr}
def spGaps : Sp := fun vs H Q _ => ∃ (s : Sh) (n : Int), vs = [.ref s.d, .int n] ∧ ShAt H s ∧ n ≤ 1000 ∧ Q (.int (gapN s.gap n)) H
theorem ok_gaps_of (T : Txt K mg A) : FnOk P w K mg base CX0 1 A.f_gaps_of A.d_gaps_of P_gaps_of spGaps := by
  refine T.F_gaps_of.ok sc_gaps_of (fun vs H Q E h => ?_) (fun cdv B outer s H vs Q E hr h => ?_)
  · obtain ⟨s, n, rfl, _⟩ := h; rfl
  obtain ⟨sh, n, rfl, hs, hn, q⟩ := h
  refine ⟨_, pss_one (ps_ret (pe_op op_mul (pe_dget (hu_of hr) (pv 0) pe_str (fun _ _ => rfl)) (pe_callB (call_max2 rfl) rfl T.n_max b_max (pa_cons pe_int (pa_cons (pe_op op_sub (pv 1) pe_int) pa_nil))))), ?_⟩
  refine ⟨_, rfl, sh.d, _, rfl, dget_s hs.shp.ad hs.gap, _, rfl, _, _, rfl, rfl, 0, _, rfl, _, _, rfl, rfl, .inr ⟨?_, ?_⟩, q⟩
  · split <;> omega
  · split <;> omega
def spWordsN : Sp := fun vs H Q _ => ∃ z : Str, vs = [.str z] ∧ z.length ≤ 80 ∧ ∀ (a : Addr) (H' : Hp), H a = none → Same H H' → H' a = some (.tup [.int (wmx z), .int z.length]) → Q (.ref a) H'
abbrev sc_words_needs_0 : Scope := (match defBody s_words_needs with | (.Return (some (.Tuple ((.Call _ ((.ListComp _ _ sc _) :: _) _ _) :: _) _ _)) _) :: _ => sc | _ => defScope s_words_needs)
theorem blk_words_needs_0 : Blk (defScope s_words_needs) N_words_needs sc_words_needs_0 ["word"] [] := ⟨rfl, by decide +kernel, by decide +kernel, by decide +kernel, by decide +kernel⟩
theorem nd_words_needs_0 : (capN N_words_needs ["word"] []).Nodup := by decide +kernel
seal PE PS PSs PA PT PI PG in
theorem ok_words_needs (T : Txt K mg A) : FnOk P w K mg base CX0 1 A.f_words_needs A.d_words_needs P_words_needs spWordsN := by
  refine T.F_words_needs.ok sc_words_needs (fun vs H Q E h => ?_) (fun cdv B outer s H vs Q E hr h => ?_)
  · obtain ⟨z, rfl, _⟩ := h; rfl
  obtain ⟨z, rfl, hz, q⟩ := h
  refine ⟨_, pss_one (ps_ret (pe_tup (pa_cons (pe_callB (call_maxL rfl) rfl T.n_max b_max (pa_cons (pe_comp blk_words_needs_0 rfl (pi_seq (pe_bm PySem.F.plainAttrs_str PySem.F.slot_str_split PySem.F.type_str_split mt_split (pv 0) (pa_cons pe_str pa_nil))) (fun _ _ _ _ _ => pg_name (i := 0) nd_words_needs_0 rfl (.inl rfl)) (fun _ _ _ _ _ => pif_nil) (fun _ _ _ _ _ => pe_callB call_len_str rfl T.n_len b_len (pa_cons (pv 0) pa_nil))) pa_nil)) (pa_cons (pe_callB call_len_str rfl T.n_len b_len (pa_cons (pv 0) pa_nil)) pa_nil)))), ?_⟩
  have hl := split_len z
  refine ⟨_, rfl, rfl, z, bl, rfl, rfl, (by rw [bl1]; rfl), by omega, by omega, fun sl hsl => ⟨sl, rfl, blk_map (fun w : Str => V.int w.length) V.str (.inl (.of upd_same)) (small1000 (by omega)) (fun x hx Q hQ => ?_) fun al hal => ?_⟩⟩
  · refine ⟨_, rfl, x, rfl, small ?_, hQ⟩
    have : ∀ l : List Str, x ∈ l → x.length ≤ (l.map (·.length)).sum := by
      intro l
      induction l with
      | nil => intro h; cases h
      | cons y r ih =>
        intro h
        rw [List.map_cons, List.sum_cons]
        rcases List.mem_cons.mp h with rfl | h
        · omega
        · have := ih h; omega
    have h1 := this _ hx
    have h2 := J_len_eq (split_ne z)
    have h3 : (WM.J (Txt.split z bl)).length = z.length := by
      have : WM.J (Txt.split z bl) = z := StrLaws.join_split z bl
      rw [this]
    have h4 := List.length_pos_iff.mpr (split_ne z)
    omega
  have s1 := same_upd hsl (.lst ((Txt.split z bl).map V.str))
  have s2 := same_upd hal (.lst ((Txt.split z bl).map fun w : Str => V.int w.length))
  refine ⟨al, (Txt.split z bl).map (fun w => (w.length : Int)), rfl, .of (by rw [upd_same, List.map_map]; rfl), by rw [List.length_map]; exact List.length_pos_iff.mpr (split_ne z), fun M hM hb => ?_⟩
  have eM : wmx z = M := mx0_eq hM hb
  refine ⟨_, rfl, z, rfl, small (by omega), small (by simp), fun t ht => q t _ ?_ (s1.trans (s2.trans (same_upd ht _))) (by rw [upd_same, eM])⟩
  cases e : H t with
  | none => rfl
  | some o => rw [s2 _ _ (s1 _ _ e)] at ht; cases ht
/-- pairs of numbers in the heap -/
abbrev Pr : Type := Addr × Int × Int
abbrev PrAt (H : Hp) (p : Pr) : Prop := H p.1 = some (.tup [.int p.2.1, .int p.2.2])
abbrev prs (ps : List Pr) : List (Int × Int) := ps.map fun p => p.2
def spKids : Sp := fun vs H Q _ => ∃ (b : Bt) (s : Sh) (pl : Addr) (ps : List Pr), vs = [.ref b.a, .ref s.d, .ref pl] ∧ Nd H b ∧ ShAt H s ∧ H pl = some (.lst (ps.map fun p => V.ref p.1)) ∧ (∀ p ∈ ps, PrAt H p) ∧ ps.length ≤ 40 ∧ b.k ≠ "words" ∧
  ∀ (a : Addr) (H' : Hp), H a = none → Same H H' → H' a = some (.tup [.int (nIn b.k b.m s.gap (prs ps)).1, .int (nIn b.k b.m s.gap (prs ps)).2]) → Q (.ref a) H'
abbrev sc_kids_needs_0 : Scope := (match defBody s_kids_needs with | (.Assign _ (.ListComp _ _ sc _) _) :: _ => sc | _ => defScope s_kids_needs)
theorem blk_kids_needs_0 : Blk (defScope s_kids_needs) N_kids_needs sc_kids_needs_0 ["least", "hold"] [] := ⟨rfl, by decide +kernel, by decide +kernel, by decide +kernel, by decide +kernel⟩
theorem nd_kids_needs_0 : (capN N_kids_needs ["least", "hold"] []).Nodup := by decide +kernel
abbrev sc_kids_needs_1 : Scope := (match defBody s_kids_needs with | _ :: (.Assign _ (.ListComp _ _ sc _) _) :: _ => sc | _ => defScope s_kids_needs)
theorem blk_kids_needs_1 : Blk (defScope s_kids_needs) N_kids_needs sc_kids_needs_1 ["least", "hold"] [] := ⟨rfl, by decide +kernel, by decide +kernel, by decide +kernel, by decide +kernel⟩
theorem nd_kids_needs_1 : (capN N_kids_needs ["least", "hold"] []).Nodup := by decide +kernel
seal PE PS PSs PA PT PI PG in
theorem ok_kids_needs (T : Txt K mg A) : FnOk P w K mg base CX0 2 A.f_kids_needs A.d_kids_needs P_kids_needs spKids := by
  have G_gaps_of : FnOk P w K mg base CX0 1 A.f_gaps_of A.d_gaps_of P_gaps_of spGaps := ok_gaps_of T
  refine T.F_kids_needs.ok sc_kids_needs (fun vs H Q E h => ?_) (fun cdv B outer s H vs Q E hr h => ?_)
  · obtain ⟨b, s, pl, ps, rfl, _⟩ := h; rfl
  obtain ⟨b, sh, pl, ps, rfl, hb, hs, hp, hpa, h40, nw, q⟩ := h
  refine ⟨_, @pss_cons _ _ _ _ _ (ps_setComp (i := 3) blk_kids_needs_0 rfl (pi_seq (pv 2)) (fun _ _ _ _ _ => pg_tupK (K := K) (n := 2) rfl rfl (pgs_cons (pg_name (i := 0) nd_kids_needs_0 rfl (.inl rfl)) (pgs_cons (pg_name (i := 1) nd_kids_needs_0 rfl (.inl rfl)) pgs_nil)) rfl rfl) (fun _ _ _ _ _ => pif_nil) (fun _ _ _ _ _ => pv 0) sc_kids_needs.nd rfl rfl)
    (@pss_cons _ _ _ _ _ (ps_setComp (i := 4) blk_kids_needs_1 rfl (pi_seq (pv 2)) (fun _ _ _ _ _ => pg_tupK (K := K) (n := 2) rfl rfl (pgs_cons (pg_name (i := 0) nd_kids_needs_1 rfl (.inl rfl)) (pgs_cons (pg_name (i := 1) nd_kids_needs_1 rfl (.inl rfl)) pgs_nil)) rfl rfl) (fun _ _ _ _ _ => pif_nil) (fun _ _ _ _ _ => pv 1) sc_kids_needs.nd rfl rfl)
    (@pss_cons _ _ _ _ _ (ps_set (i := 5) sc_kids_needs.nd rfl (Or.inl rfl) (pe_call G_gaps_of hr rfl T.m_gaps_of T.F_gaps_of.kp T.b_gaps_of .nil pass0 (pa_cons (pv 1) (pa_cons (pe_callB call_len_seq rfl T.n_len b_len (pa_cons (pv 2) pa_nil)) pa_nil))))
    (@pss_cons _ _ _ _ _ (ps_if (pt_cmpR op_eq (pe_ix ix_tup (pv 0) pe_int (fun _ _ => rfl)) pe_str (nomark _)) (pss_one (ps_ret (pe_tup (pa_cons (pe_op op_add (pe_callB (call_sum rfl) rfl T.n_sum b_sum (pa_cons (pv 3) pa_nil)) (pv 5)) (pa_cons (pe_op op_add (pe_callB (call_sum rfl) rfl T.n_sum b_sum (pa_cons (pv 4) pa_nil)) (pv 5)) pa_nil))))) pss_nil)
    (@pss_cons _ _ _ _ _ (ps_if (pt_cmpR op_eq (pe_ix ix_tup (pv 0) pe_int (fun _ _ => rfl)) pe_str (nomark _)) (pss_one (ps_ret (pe_tup (pa_cons (pe_maxD rfl T.n_max (pv 3) pe_int) (pa_cons (pe_op op_add (pe_callB (call_sum rfl) rfl T.n_sum b_sum (pa_cons (pv 4) pa_nil)) (pv 5)) pa_nil))))) pss_nil)
    (@pss_cons _ _ _ _ _ (ps_set (i := 6) sc_kids_needs.nd rfl (Or.inl rfl) pe_int)
    (@pss_cons _ _ _ _ _ (ps_if (pt_cmpR op_eq (pe_ix ix_tup (pv 0) pe_int (fun _ _ => rfl)) pe_str (nomark _)) (pss_one (ps_set (i := 6) sc_kids_needs.nd rfl (Or.inl rfl) (pe_ix ix_tup (pv 0) pe_int (fun _ _ => rfl)))) pss_nil)
    (@pss_cons _ _ _ _ _ (ps_set (i := 5) sc_kids_needs.nd rfl (Or.inl rfl) (pe_call G_gaps_of hr rfl T.m_gaps_of T.F_gaps_of.kp T.b_gaps_of .nil pass0 (pa_cons (pv 1) (pa_cons (pv 6) pa_nil))))
    (pss_one (ps_ret (pe_tup (pa_cons (pe_op op_add (pe_op op_mul (pv 6) (pe_maxD rfl T.n_max (pv 3) pe_int)) (pv 5)) (pa_cons (pe_op op_add (pe_op op_mul (pv 6) (pe_maxD rfl T.n_max (pv 4) pe_int)) (pv 5)) pa_nil)))))))))))), ?_⟩
  obtain ⟨tg, kt, b1, b2⟩ := hb.ex
  refine ⟨_, rfl, pl, rfl, blk_pairs (fun p : Pr => p.1) (fun p => .int p.2.1) (fun p => .int p.2.2) (fun p => .int p.2.1) (.inl (.of hp)) (small1000 (by omega)) (fun p h => .of (hpa p h)) (fun p h Q hQ => ⟨_, rfl, hQ⟩) fun l1 hl1 => ?_⟩
  have s1 := same_upd hl1 (.lst (ps.map fun p => V.int p.2.1))
  have e1 : upd H l1 (.lst (ps.map fun p => V.int p.2.1)) l1 = some (.lst ((fs (prs ps)).map V.int)) := by rw [upd_same, List.map_map, List.map_map]; rfl
  generalize upd H l1 (.lst (ps.map fun p => V.int p.2.1)) = H1 at s1 e1 ⊢
  refine ⟨_, rfl, pl, rfl, blk_pairs (fun p : Pr => p.1) (fun p => .int p.2.1) (fun p => .int p.2.2) (fun p => .int p.2.2) (.inl (.of (s1 _ _ hp))) (small1000 (by omega)) (fun p h => .of (s1 _ _ (hpa p h))) (fun p h Q hQ => ⟨_, rfl, hQ⟩) fun l2 hl2 => ?_⟩
  have s2 := same_upd hl2 (.lst (ps.map fun p => V.int p.2.2))
  have e2 : upd H1 l2 (.lst (ps.map fun p => V.int p.2.2)) l2 = some (.lst ((sn (prs ps)).map V.int)) := by rw [upd_same, List.map_map, List.map_map]; rfl
  have e1' := s2 _ _ e1
  have s3 := s1.trans s2
  generalize upd H1 l2 (.lst (ps.map fun p => V.int p.2.2)) = H2 at s3 e1' e2 ⊢
  clear s1 s2 e1 hl1 hl2
  have lp : (prs ps).length = ps.length := List.length_map _
  have fr : ∀ (a : Addr), H2 a = none → H a = none := fun a h => by
    cases e : H a with
    | none => rfl
    | some o => rw [s3 _ _ e] at h; cases h
  refine ⟨_, rfl, _, rfl, pl, _, rfl, .inl (.of (s3 _ _ hp)), sh, _, rfl, hs.same s3, by rw [List.length_map]; omega, ?_⟩
  rw [List.length_map]
  have b1' := s3 _ _ b1
  refine ⟨_, rfl, b.a, _, _, _, rfl, rfl, .of b1', rfl, rfl, _, rfl, ite2 (fun c => ?_) (fun c => ?_)⟩
  · have ek : b.k = "row" := by have e := of_decide_eq_true c; injection e
    have en : nIn b.k b.m sh.gap (prs ps) = ((fs (prs ps)).sum + gapN sh.gap ps.length, (sn (prs ps)).sum + gapN sh.gap ps.length) := by unfold nIn; rw [if_neg nw, if_pos ek, lp]
    refine ⟨_, rfl, l1, _, rfl, .inl (.of e1'), _, rfl, _, _, rfl, rfl, _, rfl, l2, _, rfl, .inl (.of e2), _, rfl, _, _, rfl, rfl, small (by simp), fun t ht => q t _ (fr t ht) (s3.trans (same_upd ht _)) (by rw [upd_same, en])⟩
  have nr : b.k ≠ "row" := fun e => c (decide_eq_true (by rw [e]))
  clear c
  refine ⟨_, rfl, b.a, _, _, _, rfl, rfl, .of b1', rfl, rfl, _, rfl, ite2 (fun c => ?_) (fun c => ?_)⟩
  · have ek : b.k = "flow" := by have e := of_decide_eq_true c; injection e
    have en : nIn b.k b.m sh.gap (prs ps) = (mx0 (fs (prs ps)), (sn (prs ps)).sum + gapN sh.gap ps.length) := by unfold nIn; rw [if_neg nw, if_neg nr, if_pos ek, lp]
    refine ⟨_, rfl, l1, fs (prs ps), rfl, .of e1', fun e0 => ?_, fun M hM hb => ?_⟩
    · exact ⟨_, rfl, l2, _, rfl, .inl (.of e2), _, rfl, _, _, rfl, rfl, small (by simp), fun t ht => q t _ (fr t ht) (s3.trans (same_upd ht _)) (by rw [upd_same, en, e0]; rfl)⟩
    · exact ⟨_, rfl, l2, _, rfl, .inl (.of e2), _, rfl, _, _, rfl, rfl, small (by simp), fun t ht => q t _ (fr t ht) (s3.trans (same_upd ht _)) (by rw [upd_same, en, mx0_eq hM hb])⟩
  have nf : b.k ≠ "flow" := fun e => c (decide_eq_true (by rw [e]))
  clear c
  dsimp only [tNext]
  refine seq_setC ?_
  refine seq_joinI (fun σ' H' => ∃ m : Int, σ' = [some (.ref b.a), some (.ref sh.d), some (.ref pl), some (.ref l1), some (.ref l2), some (.int (gapN sh.gap ps.length)), some (.int m)] ∧ H' = H2 ∧ 1 ≤ m ∧ m ≤ 9 ∧ nIn b.k b.m sh.gap (prs ps) = (m * mx0 (fs (prs ps)) + gapN sh.gap m, m * mx0 (sn (prs ps)) + gapN sh.gap m)) (fun N hN => ?_) ?_
  · refine ⟨_, rfl, b.a, _, _, _, rfl, rfl, .of b1', rfl, rfl, _, rfl, ite2 (fun c => ?_) (fun c => ?_)⟩
    · have ek : b.k = "grid" := by have e := of_decide_eq_true c; injection e
      obtain ⟨i, ei, i1, i9⟩ := hb.mo.gr ek
      refine ⟨_, rfl, b.a, _, _, _, rfl, rfl, .of b1', rfl, hN _ _ ⟨i, by rw [ei]; rfl, rfl, i1, i9, ?_⟩⟩
      unfold nIn; rw [if_neg nw, if_neg nr, if_neg nf, if_pos ek, ei]; rfl
    · have ng : b.k ≠ "grid" := fun e => c (decide_eq_true (by rw [e]))
      refine hN _ _ ⟨1, rfl, rfl, by decide, by decide, ?_⟩
      unfold nIn; rw [if_neg nw, if_neg nr, if_neg nf, if_neg ng]
  rintro σ' H' ⟨m, rfl, rfl, m1, m9, en⟩
  refine ⟨_, rfl, _, rfl, sh, m, rfl, hs.same s3, by omega, ?_⟩
  have cm : ∀ j : Int, CMul m j := fun j => .inl ⟨by omega, by omega⟩
  have two : ∀ M : Int, mx0 (fs (prs ps)) = M → (∀ t, H' t = none → sn (prs ps) = [] → Q (.ref t) (upd H' t (.tup [.int (m * M + gapN sh.gap m), .int (m * 0 + gapN sh.gap m)]))) ∧ (∀ t, H' t = none → ∀ M', M' ∈ sn (prs ps) → (∀ a ∈ sn (prs ps), a ≤ M') → Q (.ref t) (upd H' t (.tup [.int (m * M + gapN sh.gap m), .int (m * M' + gapN sh.gap m)]))) := fun M eM =>
    ⟨fun t ht e0 => q t _ (fr t ht) (s3.trans (same_upd ht _)) (by rw [upd_same, en, e0, eM]; rfl), fun t ht M' hM' hb' => q t _ (fr t ht) (s3.trans (same_upd ht _)) (by rw [upd_same, en, eM, mx0_eq hM' hb'])⟩
  refine ⟨_, rfl, _, rfl, l1, fs (prs ps), rfl, .of e1', fun e0 => ?_, fun M hM hb => ?_⟩
  · obtain ⟨t1, t2⟩ := two 0 (by rw [e0]; rfl)
    refine ⟨_, _, rfl, rfl, cm _, _, rfl, _, _, rfl, rfl, _, rfl, _, rfl, l2, sn (prs ps), rfl, .of e2, fun e0 => ?_, fun M' hM' hb' => ?_⟩
    · exact ⟨_, _, rfl, rfl, cm _, _, rfl, _, _, rfl, rfl, small (by simp), fun t ht => t1 t ht e0⟩
    · exact ⟨_, _, rfl, rfl, cm _, _, rfl, _, _, rfl, rfl, small (by simp), fun t ht => t2 t ht M' hM' hb'⟩
  · obtain ⟨t1, t2⟩ := two M (mx0_eq hM hb)
    refine ⟨_, _, rfl, rfl, cm _, _, rfl, _, _, rfl, rfl, _, rfl, _, rfl, l2, sn (prs ps), rfl, .of e2, fun e0 => ?_, fun M' hM' hb' => ?_⟩
    · exact ⟨_, _, rfl, rfl, cm _, _, rfl, _, _, rfl, rfl, small (by simp), fun t ht => t1 t ht e0⟩
    · exact ⟨_, _, rfl, rfl, cm _, _, rfl, _, _, rfl, rfl, small (by simp), fun t ht => t2 t ht M' hM' hb'⟩
end
end KP

set_option linter.all false
set_option maxHeartbeats 4000000
set_option maxRecDepth 100000
namespace KP
open PySem L2 PyProof.Rows
section
variable {P : Program} {w : World} {K : PySem.W.Frag} {mg : Str → Option Value} {base : Heap} {A : Adr}
/-- the needs of the kids are in the dict -/
structure Kn (H : Hp) (f : Str → Sh) (b : Bt) (kvs : List (Key × V)) (g : Str → Addr) : Prop where
  nd : ∀ c ∈ b.ks, Nd H c
  val : ∀ c ∈ b.ks, valV kvs (.inr c.n) = some (.ref (g c.n))
  pr : ∀ c ∈ b.ks, PrAt H (g c.n, N f c)
def spNeedOf : Sp := fun vs H Q _ => ∃ (b : Bt) (sd nd : Addr) (ns : List Str) (f : Str → Sh) (kvs : List (Key × V)) (g : Str → Addr), vs = [.ref b.a, .ref sd, .ref nd] ∧ Nd H b ∧ Shs H sd ns f ∧ b.n ∈ ns ∧ H nd = some (.dK kvs) ∧ Kn H f b kvs g ∧ b.ks.length ≤ 40 ∧
  ∀ (a : Addr) (H' : Hp), H a = none → Same H H' → H' a = some (.tup [.int (N f b).1, .int (N f b).2]) → Q (.ref a) H'
abbrev sc_need_of_0 : Scope := (match defBody s_need_of with | _ :: (.If _ _ ((.Assign _ (.Call _ (_ :: _ :: (.ListComp _ _ sc _) :: _) _ _) _) :: _) _) :: _ => sc | _ => defScope s_need_of)
theorem blk_need_of_0 : Blk (defScope s_need_of) N_need_of sc_need_of_0 ["kid"] [2] := ⟨rfl, by decide +kernel, by decide +kernel, by decide +kernel, by decide +kernel⟩
theorem nd_need_of_0 : (capN N_need_of ["kid"] [2]).Nodup := by decide +kernel
abbrev sc_need_of_1 : Scope := (match defBody s_need_of with | _ :: _ :: (.Assign _ (.ListComp _ _ sc _) _) :: _ => sc | _ => defScope s_need_of)
theorem blk_need_of_1 : Blk (defScope s_need_of) N_need_of sc_need_of_1 ["size"] [3] := ⟨rfl, by decide +kernel, by decide +kernel, by decide +kernel, by decide +kernel⟩
theorem nd_need_of_1 : (capN N_need_of ["size"] [3]).Nodup := by decide +kernel
abbrev sc_need_of_2 : Scope := (match defBody s_need_of with | _ :: _ :: _ :: (.If _ ((.Assign _ (.ListComp _ _ sc _) _) :: _) _ _) :: _ => sc | _ => defScope s_need_of)
theorem blk_need_of_2 : Blk (defScope s_need_of) N_need_of sc_need_of_2 ["size"] [3] := ⟨rfl, by decide +kernel, by decide +kernel, by decide +kernel, by decide +kernel⟩
theorem nd_need_of_2 : (capN N_need_of ["size"] [3]).Nodup := by decide +kernel
abbrev sc_need_of_3 : Scope := (match defBody s_need_of with | _ :: _ :: _ :: _ :: (.Return (some (.Call _ ((.ListComp _ _ sc _) :: _) _ _)) _) :: _ => sc | _ => defScope s_need_of)
theorem blk_need_of_3 : Blk (defScope s_need_of) N_need_of sc_need_of_3 ["size"] [3] := ⟨rfl, by decide +kernel, by decide +kernel, by decide +kernel, by decide +kernel⟩
theorem nd_need_of_3 : (capN N_need_of ["size"] [3]).Nodup := by decide +kernel
seal PE PS PSs PA PT PI PG in
theorem ok_need_of (T : Txt K mg A) : FnOk P w K mg base CX0 3 A.f_need_of A.d_need_of P_need_of spNeedOf := by
  have G_words_needs : FnOk P w K mg base CX0 2 A.f_words_needs A.d_words_needs P_words_needs spWordsN := (ok_words_needs T).mono (by omega)
  have G_kids_needs : FnOk P w K mg base CX0 2 A.f_kids_needs A.d_kids_needs P_kids_needs spKids := ok_kids_needs T
  have G_limited_wide : FnOk P w K mg base CX0 2 A.f_limited_wide A.d_limited_wide P_limited_wide spLimW := ok_limited_wide T
  refine T.F_need_of.ok sc_need_of (fun vs H Q E h => ?_) (fun cdv B outer s H vs Q E hr h => ?_)
  · obtain ⟨b, sd, nd, ns, f, kvs, g, rfl, _⟩ := h; rfl
  obtain ⟨b, sd, nd, ns, f, kvs, g, rfl, hb, S, hn, hnd, kn, h40, q⟩ := h
  refine ⟨_, @pss_cons _ _ _ _ _ (ps_set (i := 3) sc_need_of.nd rfl (Or.inr rfl) (pe_dget (hu_of hr) (pv 1) (pe_ix ix_tup (pv 0) pe_int (fun _ _ => rfl)) (fun _ _ => rfl)))
    (@pss_cons _ _ _ _ _ (ps_if (pt_cmpR op_eq (pe_ix ix_tup (pv 0) pe_int (fun _ _ => rfl)) pe_str (nomark _)) (pss_one (ps_set (i := 4) sc_need_of.nd rfl (Or.inl rfl) (pe_call G_words_needs hr rfl T.m_words_needs T.F_words_needs.kp T.b_words_needs .nil pass0 (pa_cons (pe_ix ix_tup (pv 0) pe_int (fun _ _ => rfl)) pa_nil)))) (pss_one (ps_set (i := 4) sc_need_of.nd rfl (Or.inl rfl) (pe_call G_kids_needs hr rfl T.m_kids_needs T.F_kids_needs.kp T.b_kids_needs .nil pass0 (pa_cons (pv 0) (pa_cons (pv 3) (pa_cons (pe_comp blk_need_of_0 rfl (pi_seq (pe_ix ix_tup (pv 0) pe_int (fun _ _ => rfl))) (fun _ _ _ _ _ => pg_name (i := 0) nd_need_of_0 rfl (.inl rfl)) (fun _ _ _ _ _ => pif_nil) (fun _ _ _ _ _ => pe_dget (hu_of hr) (pv 1) (pe_ix (ix_tupK (K := K) rfl) (pv 0) pe_int (fun _ _ => rfl)) (fun _ _ => rfl))) pa_nil)))))))
    (@pss_cons _ _ _ _ _ (ps_setComp (i := 5) blk_need_of_1 rfl (pi_seq (pv 4)) (fun _ _ _ _ _ => pg_name (i := 0) nd_need_of_1 rfl (.inl rfl)) (fun _ _ _ _ _ => pif_nil) (fun _ _ _ _ _ => pe_op op_add (pv 0) (pe_op op_mul pe_int (pe_dget (hu_of hr) (pv 1) pe_str (fun _ _ => rfl)))) sc_need_of.nd rfl rfl)
    (@pss_cons _ _ _ _ _ (ps_if (pt_cmpR op_eq (pe_ix ix_tup (pe_dget (hu_of hr) (pv 3) pe_str (fun _ _ => rfl)) pe_int (fun _ _ => rfl)) pe_str (nomark _)) (pss_one (ps_setComp (i := 5) blk_need_of_2 rfl (pi_seq (pv 4)) (fun _ _ _ _ _ => pg_name (i := 0) nd_need_of_2 rfl (.inl rfl)) (fun _ _ _ _ _ => pif_nil) (fun _ _ _ _ _ => pe_ix (ix_tupK (K := K) rfl) (pe_dget (hu_of hr) (pv 1) pe_str (fun _ _ => rfl)) pe_int (fun _ _ => rfl)) sc_need_of.nd rfl rfl)) pss_nil)
    (pss_one (ps_ret (pe_callTy call_tuple_of rfl T.n_tuple b_tuple (pa_cons (pe_comp blk_need_of_3 rfl (pi_seq (pv 5)) (fun _ _ _ _ _ => pg_name (i := 0) nd_need_of_3 rfl (.inl rfl)) (fun _ _ _ _ _ => pif_nil) (fun _ _ _ _ _ => pe_call G_limited_wide hr rfl T.m_limited_wide T.F_limited_wide.kp T.b_limited_wide .nil pass0 (pa_cons (pv 1) (pa_cons (pv 0) pa_nil)))) pa_nil))))))), ?_⟩
  obtain ⟨tg, kt, b1, b2⟩ := hb.ex
  have hs := S.at_ _ hn
  have hg := S.get hn
  rw [N_eq] at q
  generalize f b.n = sh at hs hg q
  refine ⟨_, rfl, _, rfl, b.a, _, _, _, rfl, rfl, .of b1, rfl, sd, _, rfl, hg, ?_⟩
  dsimp only [gName]
  show tSeq _ _ _ _ _
  refine seq_joinI (fun σ' H' => ∃ (l : Addr) (x y : Int), σ' = [some (.ref b.a), some (.ref sd), some (.ref nd), some (.ref sh.d), some (.ref l), none] ∧ Same H H' ∧ H' l = some (.tup ([x, y].map V.int)) ∧ nIn b.k b.m sh.gap (b.ks.map (N f)) = (x, y)) (fun N' hN => ?_) ?_
  · refine ⟨_, rfl, b.a, _, _, _, rfl, rfl, .of b1, rfl, rfl, _, rfl, ite2 (fun c => ?_) (fun c => ?_)⟩
    · have ek : b.k = "words" := by have e := of_decide_eq_true c; injection e
      obtain ⟨z, ez, lz⟩ := hb.mo.wd ek
      refine ⟨_, rfl, b.a, _, _, _, rfl, rfl, .of b1, rfl, z, by rw [ez]; rfl, lz, fun a H1 fa s1 e1 => hN _ _ ⟨a, wmx z, z.length, rfl, s1, e1, ?_⟩⟩
      unfold nIn; rw [if_pos ek, ez]; rfl
    · have nw : b.k ≠ "words" := fun e => c (decide_eq_true (by rw [e]))
      refine ⟨_, rfl, _, rfl, _, rfl, b.a, _, _, _, rfl, rfl, .of b1, rfl, kt, rfl, blk_map (fun c : Bt => V.ref (g c.n)) (fun c => V.ref c.a) (.inr (.of b2)) (small1000 (by omega)) (fun c hc Q hQ => ?_) fun l hl => ?_⟩
      · obtain ⟨tg', kt', c1, c2⟩ := (kn.nd c hc).ex
        exact ⟨_, rfl, _, rfl, c.a, _, _, _, rfl, rfl, .of c1, rfl, nd, _, rfl, dget_s hnd (kn.val c hc), hQ⟩
      · have s1 := same_upd hl (.lst (b.ks.map fun c => V.ref (g c.n)))
        refine ⟨b, sh, l, b.ks.map (fun c => (g c.n, N f c)), rfl, hb.same s1, hs.same s1, by rw [upd_same, List.map_map]; rfl, fun p hp => ?_, by rw [List.length_map]; exact h40, nw, fun a H2 fa s2 e2 => hN _ _ ⟨a, _, _, rfl, s1.trans s2, e2, ?_⟩⟩
        · obtain ⟨c, hc, rfl⟩ := List.mem_map.mp hp
          exact s1 _ _ (kn.pr c hc)
        · rw [prs, List.map_map]; rfl
  rintro σ' H1 ⟨l, x, y, rfl, s1, e1, en⟩
  unfold ndP at q
  rw [en] at q
  have hs1 := hs.same s1
  refine ⟨_, rfl, l, rfl, blk_map (fun v : Int => V.int (v + 2 * sh.pad)) V.int (.inr (.of e1)) (small1000 (by simp)) (fun v _ Q hQ => ?_) fun l2 hl2 => ?_⟩
  · exact ⟨_, rfl, _, rfl, sh.d, _, rfl, dget_s hs1.shp.ad hs1.pad, _, _, rfl, rfl, .inl ⟨by decide, by decide⟩, _, _, rfl, rfl, hQ⟩
  have s2 := same_upd hl2 (.lst ([x, y].map fun v : Int => V.int (v + 2 * sh.pad)))
  have e2 : upd H1 l2 (.lst ([x, y].map fun v : Int => V.int (v + 2 * sh.pad))) l2 = some (.lst ([x + 2 * sh.pad, y + 2 * sh.pad].map V.int)) := upd_same
  generalize upd H1 l2 (.lst ([x, y].map fun v : Int => V.int (v + 2 * sh.pad))) = H2 at s2 e2 ⊢
  have hs2 := hs1.same s2
  dsimp only
  show tSeq _ _ _ _ _
  refine seq_joinI (fun σ' H' => ∃ l2 : Addr, σ' = [some (.ref b.a), some (.ref sd), some (.ref nd), some (.ref sh.d), some (.ref l), some (.ref l2)] ∧ Same H H' ∧ H' l2 = some (.lst ([szI sh x, szI sh y].map V.int))) (fun N' hN => ?_) ?_
  · have hold : (∀ n, sh.y ≠ .fixed n) → N' _ _ := fun h => hN _ _ ⟨l2, rfl, s1.trans s2, by
      rw [e2]; unfold szI
      cases e : sh.y with
      | fixed n => exact absurd e (h n)
      | hold => rfl
      | share n => rfl⟩
    have tup := hs2.shp.tup
    cases ey : sh.y with
    | hold =>
      rw [ey] at tup
      refine ⟨_, rfl, sh.d, _, rfl, dget_s hs2.shp.ad hs2.shp.wide, sh.t, _, _, _, rfl, rfl, .of tup, rfl, rfl, _, rfl, iteN sHF (hold fun n z => by rw [ey] at z; cases z)⟩
    | share n =>
      rw [ey] at tup
      refine ⟨_, rfl, sh.d, _, rfl, dget_s hs2.shp.ad hs2.shp.wide, sh.t, _, _, _, rfl, rfl, .of tup, rfl, rfl, _, rfl, iteN sSF (hold fun n z => by rw [ey] at z; cases z)⟩
    | fixed n =>
      rw [ey] at tup
      refine ⟨_, rfl, sh.d, _, rfl, dget_s hs2.shp.ad hs2.shp.wide, sh.t, _, _, _, rfl, rfl, .of tup, rfl, rfl, _, rfl, iteY rfl ?_⟩
      refine ⟨_, rfl, l, rfl, blk_map (fun v : Int => V.int n) V.int (.inr (.of (s2 _ _ e1))) (small1000 (by simp)) (fun v _ Q hQ => ?_) fun l3 hl3 => ?_⟩
      · exact ⟨_, rfl, sh.d, _, rfl, dget_s hs2.shp.ad hs2.shp.wide, sh.t, _, _, _, rfl, rfl, .of tup, rfl, hQ⟩
      · refine hN _ _ ⟨l3, rfl, (s1.trans s2).trans (same_upd hl3 _), ?_⟩
        rw [upd_same]; unfold szI; rw [ey]; rfl
  rintro σ' H3 ⟨l3, rfl, s3, e3⟩
  have hs3 := hs.same s3
  refine ⟨_, rfl, l3, rfl, blk_map (fun v : Int => V.int (lim v sh.lo sh.hi)) V.int (.inl (.of e3)) (small1000 (by simp)) (fun v _ Q hQ => ?_) fun l4 hl4 => ?_⟩
  · exact ⟨_, rfl, _, rfl, sh.d, _, v, sh.lo, sh.hi, rfl, hs3.shp.ad, hs3.shp.bd, hQ⟩
  · have s4 := same_upd hl4 (.lst ([szI sh x, szI sh y].map fun v : Int => V.int (lim v sh.lo sh.hi)))
    refine ⟨l4, _, rfl, .inl ⟨.of upd_same, fun t ht => q t _ ?_ (s3.trans (s4.trans (same_upd ht _))) upd_same⟩⟩
    cases e : H t with
    | none => rfl
    | some o => rw [s4 _ _ (s3 _ _ e)] at ht; cases ht
end
end KP

set_option linter.all false
set_option maxHeartbeats 4000000
set_option maxRecDepth 100000
namespace KP
open PySem L2 PyProof.Rows
theorem later_rev {l : List Bt} (hl : Later l) {i : Nat} {b : Bt} (h : l.reverse[i]? = some b) : ∀ c ∈ b.ks, c ∈ l.reverse.take i := by
  have hi : i < l.length := by have := (List.getElem?_eq_some_iff.mp h).1; rwa [List.length_reverse] at this
  rw [List.getElem?_reverse hi] at h
  intro c hc
  have := hl.drop _ h c hc
  rw [List.take_reverse, List.mem_reverse]
  have e : l.length - i = l.length - 1 - i + 1 := by omega
  rw [e]; exact this
theorem ks_le {t b : Bt} (h : b ∈ pre t) : b.ks.length ≤ (pre t).length := by
  have : ∀ (d : Nat) (t : Bt), dp t ≤ d → b ∈ pre t → (pre b).length ≤ (pre t).length := by
    intro d
    induction d with
    | zero => intro t h; rw [dp_eq] at h; omega
    | succ d ih =>
      intro t hd hb
      rw [pre_eq t] at hb
      rcases List.mem_cons.mp hb with rfl | hb
      · exact Nat.le_refl _
      · obtain ⟨x, hx, hbx⟩ := mem_preL.mp hb
        have h1 := ih x (by have := dp_kid hx; omega) hbx
        obtain ⟨l, r, e⟩ := List.append_of_mem hx
        rw [pre_eq t, e, preL_app, preL_cons, List.length_cons, List.length_append, List.length_append]
        omega
  exact Nat.le_trans (Nat.le_of_lt ks_len) (this _ t (Nat.le_refl _) h)
section
variable {P : Program} {w : World} {K : PySem.W.Frag} {mg : Str → Option Value} {base : Heap} {A : Adr}
def spNeedsOf : Sp := fun vs H Q _ => ∃ (t : Bt) (sd : Addr) (ns : List Str) (f : Str → Sh), vs = [.ref t.a, .ref sd] ∧ BtAt H t ∧ Shs H sd ns f ∧ (∀ b ∈ pre t, b.n ∈ ns) ∧ (pre t).length ≤ 40 ∧ (nmsT t).Nodup ∧
  ∀ (a : Addr) (g : Str → Addr) (H' : Hp), H a = none → Same H H' → H' a = some (.dK (dN (nmsT t) g)) → (∀ b ∈ pre t, PrAt H' (g b.n, N f b)) → Q (.ref a) H'
abbrev sc_needs_of_0 : Scope := (match defBody s_needs_of with | _ :: _ :: _ :: (.Return (some (.Call _ ((.ListComp _ _ sc _) :: _) _ _)) _) :: _ => sc | _ => defScope s_needs_of)
theorem blk_needs_of_0 : Blk (defScope s_needs_of) N_needs_of sc_needs_of_0 ["box"] [3] := ⟨rfl, by decide +kernel, by decide +kernel, by decide +kernel, by decide +kernel⟩
theorem nd_needs_of_0 : (capN N_needs_of ["box"] [3]).Nodup := by decide +kernel
seal PE PS PSs PA PT PI PG in
theorem ok_needs_of (T : Txt K mg A) : FnOk P w K mg base CX0 4 A.f_needs_of A.d_needs_of P_needs_of spNeedsOf := by
  have G_boxes_of : FnOk P w K mg base CX0 3 A.f_boxes_of A.d_boxes_of P_boxes_of spBoxesT := (ok_boxes_of T).mono (by omega)
  have G_need_of : FnOk P w K mg base CX0 3 A.f_need_of A.d_need_of P_need_of spNeedOf := ok_need_of T
  refine T.F_needs_of.ok sc_needs_of (fun vs H Q E h => ?_) (fun cdv B outer s H vs Q E hr h => ?_)
  · obtain ⟨t, sd, ns, f, rfl, _⟩ := h; rfl
  obtain ⟨t, sd, ns, f, rfl, bt, S, hns, h40, hnd, q⟩ := h
  refine ⟨_, @pss_cons _ _ _ _ _ (ps_set (i := 2) sc_needs_of.nd rfl (Or.inl rfl) (pe_call G_boxes_of hr rfl T.m_boxes_of T.F_boxes_of.kp T.b_boxes_of .nil pass0 (pa_cons (pv 0) pa_nil)))
    (@pss_cons _ _ _ _ _ (ps_set (i := 3) sc_needs_of.nd rfl (Or.inr rfl) pe_dict0)
    (@pss_cons _ _ _ _ _ (ps_for PassesOwn.never rfl (pi_rev rfl T.n_reversed (pa_cons (pv 2) pa_nil)) (pg_name (i := 4) sc_needs_of.nd rfl (Or.inl rfl)) (pss_one (ps_dput (hu_of hr) (pv 3) (pe_ix ix_tup (pv 4) pe_int (fun _ _ => rfl)) (pe_call G_need_of hr rfl T.m_need_of T.F_need_of.kp T.b_need_of .nil pass0 (pa_cons (pv 4) (pa_cons (pv 1) (pa_cons (pv 3) pa_nil)))) rfl)))
    (pss_one (ps_ret (pe_callTy (call_dictP rfl) rfl T.n_dict b_dict (pa_cons (pe_comp blk_needs_of_0 rfl (pi_seq (pv 2)) (fun _ _ _ _ _ => pg_name (i := 0) nd_needs_of_0 rfl (.inl rfl)) (fun _ _ _ _ _ => pif_nil) (fun _ _ _ _ _ => pe_tup (pa_cons (pe_ix (ix_tupK (K := K) rfl) (pv 0) pe_int (fun _ _ => rfl)) (pa_cons (pe_dget (hu_of hr) (pv 1) (pe_ix (ix_tupK (K := K) rfl) (pv 0) pe_int (fun _ _ => rfl)) (fun _ _ => rfl)) pa_nil)))) pa_nil)))))), ?_⟩
  refine ⟨_, rfl, t, rfl, bt, h40, fun l H1 fl s1 e1 => fun nd hdd => ?_⟩
  have s2 := s1.trans (same_upd hdd (.dK []))
  have fnd : H nd = none := by
    cases e : H nd with
    | none => rfl
    | some o => rw [s1 _ _ e] at hdd; cases hdd
  have nld : l ≠ nd := fun z => by rw [← z, e1] at hdd; cases hdd
  have lat := later_pre _ t (Nat.le_refl _)
  have hndr : (nmsT t).reverse.Nodup := List.pairwise_reverse.mpr (hnd.imp fun h => h.symm)
  have ll : (rfs (pre t)).length = (pre t).length := List.length_map _
  refine ⟨_, rfl, l, _, rfl, .of (same_upd hdd _ _ _ e1), for_rev (K := K) (a := l) (xs := rfs (pre t)) (fun i σ H' => ∃ (g : Str → Addr) (v4 : Option V), σ = [some (.ref t.a), some (.ref sd), some (.ref l), some (.ref nd), v4] ∧ Same H H' ∧ H' l = some (.lst (rfs (pre t))) ∧ H' nd = some (.dK (dN ((nmsT t).reverse.take i) g)) ∧ ∀ b ∈ (pre t).reverse.take i, PrAt H' (g b.n, N f b))
    ⟨fun _ => 0, none, rfl, s2, same_upd hdd _ _ _ e1, upd_same, fun b h => (by simp at h)⟩ (fun i σ H' _ ⟨_, _, _, _, e, _⟩ => .of e) ?_ ?_⟩
  · rintro i x σ H2 hx ⟨g, v4, rfl, s2, e2, e3, hp⟩
    rw [← List.map_reverse] at hx
    obtain ⟨b, hb, rfl⟩ := rfs_at hx
    have hbm : b ∈ pre t := List.mem_reverse.mp (List.mem_of_getElem? hb)
    have hbn : (nmsT t).reverse[i]? = some b.n := by rw [← List.map_reverse, List.getElem?_map, hb]; rfl
    have hnew := new_at hndr hbn
    have kids := later_rev lat hb
    have kn : ∀ c ∈ b.ks, c.n ∈ (nmsT t).reverse.take i := fun c hc => by
      rw [← List.map_reverse, ← List.map_take]; exact List.mem_map.mpr ⟨c, kids c hc, rfl⟩
    have bt2 := bt.same s2
    have lk : b.ks.length ≤ 40 := Nat.le_trans (ks_le hbm) h40
    refine ⟨_, rfl, _, rfl, _, rfl, b, sd, nd, ns, f, _, g, rfl, bt2 b hbm, S.same s2, hns b hbm, e3, ⟨fun c hc => bt2 c (pre_trans _ (Nat.le_refl _) hbm (by rw [pre_eq]; exact List.mem_cons_of_mem _ (kid_pre hc))), fun c hc => val_map (α := Unit) (g := fun n => V.ref (g n)) (kn c hc), fun c hc => hp c (kids c hc)⟩, lk, fun a H3 fa s3 e4 => ?_⟩
    obtain ⟨tg, kt, b1, b2⟩ := ((bt2 b hbm).same s3).ex
    have na : a ≠ nd := fun z => by rw [z, e3] at fa; cases fa
    refine ⟨_, rfl, _, rfl, b.a, _, _, _, rfl, rfl, .of b1, rfl, nd, _, rfl, dput_s (s3 _ _ e3) (by rw [List.length_map, List.length_take, List.length_reverse, List.length_map]; omega), ?_⟩
    let g' : Str → Addr := fun n => if n = b.n then a else g n
    have ge : g' b.n = a := if_pos rfl
    have go : ∀ m ∈ (nmsT t).reverse.take i, g' m = g m := fun m hm => if_neg fun z => hnew (by rw [← z]; exact hm)
    have ep : putK (dN ((nmsT t).reverse.take i) g) (.inr b.n) (.ref a) = dN ((nmsT t).reverse.take (i + 1)) g' := by
      rw [take_snoc hbn]
      have := put_new (g := fun n => V.ref (g n)) (g' := fun n => V.ref (g' n)) hnew fun m hm => by show V.ref (g' m) = _; rw [go m hm]
      rw [ge] at this
      exact this
    rw [ep]
    have tp : Tups H3 (upd H3 nd (.dK (dN ((nmsT t).reverse.take (i + 1)) g'))) := .upd (s3 _ _ e3) fun vs z => nomatch z
    refine ⟨g', _, rfl, fun c u e => by rw [upd_ne (ne_of_none e fnd)]; exact s3 _ _ (s2 _ _ e), by rw [upd_ne nld]; exact s3 _ _ e2, upd_same, fun c hc => ?_⟩
    rw [take_snoc hb] at hc
    rcases List.mem_append.mp hc with hc | hc
    · have hcn : c.n ∈ (nmsT t).reverse.take i := by rw [← List.map_reverse, ← List.map_take]; exact List.mem_map.mpr ⟨c, hc, rfl⟩
      rw [go _ hcn]; exact tp _ _ (s3 _ _ (hp c hc))
    · rw [List.mem_singleton.mp hc, ge]; exact tp _ _ e4
  rintro σ H2 ⟨g, v4, rfl, s2, e2, e3, hp⟩
  rw [ll, List.take_of_length_le (by rw [List.length_reverse, List.length_map]; exact Nat.le_refl _)] at e3
  rw [ll, List.take_of_length_le (by rw [List.length_reverse]; exact Nat.le_refl _)] at hp
  have hp' : ∀ b ∈ pre t, PrAt H2 (g b.n, N f b) := fun b hb => hp b (List.mem_reverse.mpr hb)
  have bt2 := bt.same s2
  refine ⟨_, rfl, l, rfl, .inl ⟨⟨_, .of e2⟩, blk_list (xs := rfs (pre t)) (fun i acc H' => ∃ ts : List Addr, acc = ts.map V.ref ∧ ts.length = i ∧ i ≤ 40 ∧ Same H2 H' ∧ PrsAt H' ts (dN ((nmsT t).take i) g)) ⟨[], rfl, rfl, Nat.zero_le _, .refl _, .nil⟩ (fun i acc H' ⟨_, _, _, _, s, _⟩ => .of (s _ _ e2)) (fun i acc H' ⟨_, ea, el, hi, _⟩ => ?_) (fun i x acc H' R k hx z => ?_) fun acc H' z => ?_⟩⟩
  · rw [ea, List.length_map, el]; exact small1000 (by omega)
  · obtain ⟨ts, rfl, el, hi, s3, pr⟩ := z
    obtain ⟨b, hb, rfl⟩ := rfs_at hx
    have hbm := List.mem_of_getElem? hb
    have hbn : (nmsT t)[i]? = some b.n := by rw [List.getElem?_map, hb]; rfl
    obtain ⟨tg, kt, b1, b2⟩ := ((bt2 b hbm).same s3).ex
    dsimp only [tYes]; rw [if_pos rfl]
    refine ⟨_, rfl, b.a, _, _, _, rfl, rfl, .of b1, rfl, _, rfl, _, rfl, b.a, _, _, _, rfl, rfl, .of b1, rfl, nd, _, rfl, dget_s (s3 _ _ e3) (val_map (α := Unit) (g := fun n => V.ref (g n)) (List.mem_reverse.mpr (List.mem_map.mpr ⟨b, hbm, rfl⟩))), small (by simp), fun tt ht => k _ _ ⟨ts ++ [tt], by rw [List.map_append]; rfl, by rw [List.length_append, el]; rfl, ?_, s3.trans (same_upd ht _), ?_⟩⟩
    · have := (List.getElem?_eq_some_iff.mp hb).1; omega
    · rw [take_snoc hbn, dN, List.map_append]
      exact (pr.same fun b xs e => same_upd ht _ _ _ e).append (.cons upd_same .nil)
  · obtain ⟨ts, rfl, el, hi, s3, pr⟩ := z
    rw [ll, List.take_of_length_le (by rw [List.length_map]; exact Nat.le_refl _)] at pr
    intro l4 hl4
    have s4 := same_upd hl4 (.lst (ts.map V.ref))
    refine ⟨l4, ts, _, rfl, upd_same, pr.same fun b xs e => s4 _ _ e, by rw [List.length_map, List.length_map]; omega, fun p hp4 => ?_⟩
    have s5 := same_upd hp4 (.dK (mergeK [] (dN (nmsT t) g)))
    have hk : ((dN (nmsT t) g).map (·.1)).Nodup := by
      rw [List.map_map]
      exact List.pairwise_map.mpr (List.Pairwise.imp (fun h z => h (by injection z)) hnd)
    have em : mergeK [] (dN (nmsT t) g) = dN (nmsT t) g := mergeK_nd hk
    rw [em] at s5 ⊢
    refine q p g _ ?_ (s2.trans (s3.trans (s4.trans s5))) upd_same fun b hb => s5 _ _ (s4 _ _ (s3 _ _ (hp' b hb)))
    cases e : H p with
    | none => rfl
    | some o => rw [s4 _ _ (s3 _ _ (s2 _ _ e))] at hp4; cases hp4
end
end KP

set_option linter.all false
set_option maxHeartbeats 4000000
set_option maxRecDepth 100000
namespace L2
open PySem PySem.W PySem.Spec PySem.Calls PyProof.Rows
section
variable {X : Cx}
/-- list(range(n)) -/
theorem call_listRng (hc : X.calm = true) : CallR X (.type "list") (fun xs H Q => ∃ (r : Addr) (n : Nat), xs = [V.ref r] ∧ H r = some (.rng 0 (n : Int)) ∧ n ≤ 1000 ∧ ∀ l, H l = none → Q (.ref l) (upd H l (.lst ((List.range n).map fun i : Nat => V.int (i : Int))))) := by
  intro pins s σ H xs us Q I r h
  obtain ⟨a, n, rfl, ha, hn, q⟩ := h
  obtain ⟨u, rfl, ru⟩ := vals1 r
  cases ru
  obtain ⟨t, u, v, hr⟩ := (show ObjOk X.prog X.w H s.heap a (.rng 0 (n : Int)) from I.hok a _ ha)
  refine call_list_range (n := n) (I.ok.hd hc) hr (small_one (by omega) (by omega) (by omega) (by omega)) (by rw [rangeSize_one]; split <;> omega) (by omega) fun h' tk acc c hk hD hI => ?_
  have hi : IntsAre acc.toList (rangeKs 0 n) := kll_ints _ _ _ (by rw [Array.length_toList]; exact hI.1) fun j v hj => by
    have := hI.2 j v (by rw [← hj, Array.getElem?_toList])
    exact this
  have hv := vals_ints hi
  have e : (rangeKs 0 n).map V.int = (List.range n).map fun i : Nat => V.int (i : Int) := by
    unfold rangeKs
    rw [List.map_map]
    refine List.map_congr_left fun i _ => ?_
    show V.int (0 + (i : Int)) = _
    rw [Int.zero_add]
  rw [e] at hv
  have hz : ((List.range n).map fun i : Nat => V.int (i : Int)).length ≤ sizeLine := by
    rw [List.length_map, List.length_range]; exact Nat.le_of_lt (small1000 hn)
  have hf : s.heap.get? s.heap.objs.size = none := Heap.get?_none_of_le (Nat.le_refl _)
  have I3 : Inv X pins σ (upd H s.heap.objs.size (.lst ((List.range n).map fun i : Nat => V.int (i : Int)))) { s with heap := h', toks := tk } :=
    I.gain hk hf ⟨hz, acc.toList, c, hv, by simpa using hD⟩
  exact ⟨.ref _, _, I3, rfl, q _ (I.no hf)⟩
/-- lo, lo + st, .. (n of them) -/
def Itr3 (lo st : Int) (n : Nat) : It := ⟨fun i _ => i < n, fun i H x H' => H' = H ∧ x = .int (lo + i * st), fun i _ => n ≤ i⟩
theorem turn_range3 {P : Program} {w : World} {K : PySem.W.Frag} {tg : Expr} (it : Addr) (lo st : Int) (n : Nat) : Turn P w K tg (Itr3 lo st n) [it] it (fun i h => IsRangeIter h it (lo + (i : Nat) * st) ((n : Int) - (i : Nat)) st) where
  mem := by simp
  obj := fun i h st b hb => by
    have e : b = it := by simpa using hb
    subst e
    exact ⟨_, st, fun v z => by
      have z' : Data.fields _ = Data.cell v := z
      cases z'⟩
  keep := fun i h h' st k => k it (by simp) _ st
  item := by
    intro X hP hw hK hc i pins s σ H E I hf sti hg
    subst hP hw hK
    obtain ⟨f0, f1, f2, f3, f4, f5⟩ := hf it (by simp)
    have W := Walks.range (prog := X.prog) (w := X.w) (I.ok.hd hc) it lo st n
    refine W.item i s _ _ hg sti fun v h' tk hv st' kk => ?_
    obtain ⟨t, rfl⟩ := hv
    have I1 : Inv X pins σ H { s with heap := h', toks := tk } := I.turned (fun b o hb e => kk b o (by simpa using hb) e) f0 f1 f3 f4 f5
    exact ⟨_, rfl, go_of (s := { s with heap := h', toks := tk }) (n := "range_iterator") st' rfl rfl (by decide) ⟨.int (lo + i * st), H, I1, ⟨t, rfl⟩, ⟨rfl, rfl⟩, st', fun b hb => (hf b hb).1⟩⟩
  done := by
    intro X hP hw hK hc i pins s σ H E I hf sti hg
    subst hP hw hK
    obtain ⟨f0, f1, f2, f3, f4, f5⟩ := hf it (by simp)
    exact wpAny_pyNext_range_end (I.ok.hd hc) sti (by have : n ≤ i := hg; omega) fun h' eb => ⟨rfl, I.turned (t' := s.toks) (fun b o hb e => eb b o hb e) f0 f1 f3 f4 f5⟩
  self := fun _ _ _ _ _ st h => wpAny_pyIter_rangeiter st h
def cnt3 (i j c : Int) : Nat := (Builtin.Range.rangeSize i j c).toNat
theorem size3 {i j c : Int} (hc : 0 < c) (hij : i ≤ j) : 0 ≤ Builtin.Range.rangeSize i j c := by
  unfold Builtin.Range.rangeSize
  rw [if_pos hc]
  split
  · have : 0 ≤ (j - i - 1) / c := Int.ediv_nonneg (by omega) (by omega)
    omega
  · omega
theorem small_three {i j c : Int} (h0 : 0 ≤ i) (hij : i ≤ j) (hj : j ≤ 1000) (hc : 0 < c) (hc' : c ≤ 1000) : Builtin.Range.small i j c = true := by
  have h1 := size3 hc hij
  have h2 : Builtin.Range.rangeSize i j c ≤ 1001 := by
    unfold Builtin.Range.rangeSize
    rw [if_pos hc]
    split
    · have : (j - i - 1) / c ≤ j - i - 1 := Int.ediv_le_self _ (by omega)
      omega
    · omega
  unfold Builtin.Range.small
  generalize Builtin.Range.rangeSize i j c = z at h1 h2 ⊢
  simp only [Builtin.Range.rangeFitsLong, Bool.and_eq_true, Bool.or_eq_true, decide_eq_true_eq, beq_iff_eq]
  refine ⟨⟨⟨⟨⟨by omega, by omega⟩, by omega, by omega⟩, by omega, by omega⟩, by omega, by omega⟩, .inr ?_⟩
  rw [if_pos hc, decide_eq_true (by omega), decide_eq_true (by omega)]; rfl
variable {tg : Expr}
def iRng3 (ta : TA) : TI := fun σ H R => ta σ H fun vs H1 => ∃ i j c : Int, vs = [.int i, .int j, .int c] ∧ (0 ≤ i ∧ i ≤ j ∧ j ≤ 1000 ∧ 0 < c ∧ c ≤ 1000) ∧ R (Itr3 i c (cnt3 i j c)) H1
theorem pi_range3 {a b d : Expr} {ta : TA} {p pos : Pos} (hg : Gl X "range") (hm : X.mg "range" = none) (ha : PA X [a, b, d] ta) (hs : starEach [a, b, d] X.env = [(false, eval a X.env), (false, eval b X.env), (false, eval d X.env)] := by rfl) (hs2 : starEach [b, d] X.env = [(false, eval b X.env), (false, eval d X.env)] := by rfl) :
    PI X tg (.Call (.Name "range" p) [a, b, d] [] pos) (iRng3 ta) := by
  intro pins s σ H R I h
  refine Call_ (ld_blt I hg hm boot_range (PyProof.Rows.callWith_type1 (thn (ha pos pins s σ H _ I h) fun us s1 ⟨vs, H1, I1, r1, q1⟩ => ?_) (by rw [hs, hs2]) (by rw [hs2]; rfl)))
  obtain ⟨i, j, c, e, ⟨q1, q2, q3, q4, q5⟩, q⟩ := q1
  subst e
  cases r1 with
  | cons r rr =>
    cases rr with
    | cons r' rr =>
      cases rr with
      | cons r'' rr =>
        cases rr
        obtain ⟨t, rfl⟩ := r
        obtain ⟨t', rfl⟩ := r'
        obtain ⟨t'', rfl⟩ := r''
        refine call_range_3 (by omega) ?_ (Or.inl (PyProof.noPylong_small (by omega)))
        refine wpAny_pyIter_range (IsRange.new ..) (small_three q1 q2 q3 q4 q5) ?_
        have I2 : Inv X pins σ H1 { s1 with heap := s1.heap.push { cls := .type "range", data := .fields #[.int i t, .int j t', .int c t''] }, toks := s1.toks } := I1.kept fun b o e => Heap.get?_push_of_some _ e
        refine ⟨(s1.heap.push { cls := .type "range", data := .fields #[.int i t, .int j t', .int c t''] }).objs.size, [(s1.heap.push { cls := .type "range", data := .fields #[.int i t, .int j t', .int c t''] }).objs.size], _, _, H1, rfl,
          I2.kept (t' := s1.toks) fun b o e => Heap.get?_push_of_some _ e, turn_range3 _ i c (cnt3 i j c), ?_, fun b hb => ?_, q⟩
        · have e1 : i + ((0 : Nat) : Int) * c = i := by simp
          have e2 : ((cnt3 i j c : Nat) : Int) - ((0 : Nat) : Int) = Builtin.Range.rangeSize i j c := by
            unfold cnt3
            have := size3 q4 q2
            omega
          show IsRangeIter _ _ (i + ((0 : Nat) : Int) * c) (((cnt3 i j c : Nat) : Int) - ((0 : Nat) : Int)) c
          rw [e1, e2]
          exact Heap.get?_push_size _ rfl
        · have e : b = (s1.heap.push { cls := .type "range", data := .fields #[.int i t, .int j t', .int c t''] }).objs.size := by simpa using hb
          subst e
          exact I2.fpOk (Nat.le_refl _) (I2.hok.fresh (Nat.le_refl _))
end
end L2

set_option linter.all false
set_option maxHeartbeats 4000000
set_option maxRecDepth 100000
namespace KP
open PySem L2 PyProof.Rows
/-- the inside of a box so wide -/
def insd (s : Sh) (n : Int) : Int := if n - 2 * s.pad > 0 then n - 2 * s.pad else 0
def asked (y : Way) (x0 x1 n a b : Int) : Int := match y with
  | .hold => lim (if (if n < x1 then n else x1) > x0 then (if n < x1 then n else x1) else x0) a b
  | .fixed k => lim k a b
  | .share _ => lim n a b
/-- a part: begin, least, most, weight -/
abbrev Pt := Int × Int × Int × Int
def ptV (x : Pt) : List V := [.int x.1, .int x.2.1, .int x.2.2.1, .int x.2.2.2]
def pR (s : Sh) (p : Int × Int) : Pt := match s.y with
  | .hold => (p.2, p.1, p.2, 0)
  | .fixed n => (lim n s.lo s.hi, lim n s.lo s.hi, lim n s.lo s.hi, 0)
  | .share m => (p.1, p.1, if s.hi > p.1 then s.hi else p.1, m)
def pF (s : Sh) (p : Int × Int) (ins : Int) : Pt := match s.y with
  | .hold => (asked .hold p.1 p.2 ins s.lo s.hi, p.1, asked .hold p.1 p.2 ins s.lo s.hi, 0)
  | _ => pR s p
def partOf (f : Str → Sh) (nv : Str → Int × Int) (b : Bt) (wide : Int) (c : Bt) : Pt :=
  if b.k = "row" then pR (f c.n) (nv c.n) else pF (f c.n) (nv c.n) (insd (f b.n) wide)
section
variable {P : Program} {w : World} {K : PySem.W.Frag} {mg : Str → Option Value} {base : Heap} {A : Adr}
def spInside : Sp := fun vs H Q _ => ∃ (s : Sh) (n : Int), vs = [.ref s.d, .int n] ∧ ShAt H s ∧ Q (.int (insd s n)) H
theorem ok_inside_of (T : Txt K mg A) : FnOk P w K mg base CX0 1 A.f_inside_of A.d_inside_of P_inside_of spInside := by
  refine T.F_inside_of.ok sc_inside_of (fun vs H Q E h => ?_) (fun cdv B outer s H vs Q E hr h => ?_)
  · obtain ⟨s, n, rfl, _⟩ := h; rfl
  obtain ⟨sh, n, rfl, hs, q⟩ := h
  refine ⟨_, pss_one (ps_ret (pe_callB (call_max2 rfl) rfl T.n_max b_max (pa_cons pe_int (pa_cons (pe_op op_sub (pv 1) (pe_op op_mul pe_int (pe_dget (hu_of hr) (pv 0) pe_str (fun _ _ => rfl)))) pa_nil)))), ?_⟩
  exact ⟨_, rfl, _, rfl, sh.d, _, rfl, dget_s hs.shp.ad hs.pad, _, _, rfl, rfl, .inl ⟨by decide, by decide⟩, _, _, rfl, rfl, 0, _, rfl, q⟩
def spKidNames : Sp := fun vs H Q _ => ∃ b : Bt, vs = [.ref b.a] ∧ Nd H b ∧ (∀ c ∈ b.ks, Nd H c) ∧ b.ks.length ≤ 40 ∧ ∀ l, H l = none → Q (.ref l) (upd H l (.lst (b.ks.map fun c => V.str c.n)))
abbrev sc_kid_names_0 : Scope := (match defBody s_kid_names with | (.Return (some (.ListComp _ _ sc _)) _) :: _ => sc | _ => defScope s_kid_names)
theorem blk_kid_names_0 : Blk (defScope s_kid_names) N_kid_names sc_kid_names_0 ["kid"] [] := ⟨rfl, by decide +kernel, by decide +kernel, by decide +kernel, by decide +kernel⟩
theorem nd_kid_names_0 : (capN N_kid_names ["kid"] []).Nodup := by decide +kernel
seal PE PS PSs PA PT PI PG in
theorem ok_kid_names (T : Txt K mg A) : FnOk P w K mg base CX0 1 A.f_kid_names A.d_kid_names P_kid_names spKidNames := by
  refine T.F_kid_names.ok sc_kid_names (fun vs H Q E h => ?_) (fun cdv B outer s H vs Q E hr h => ?_)
  · obtain ⟨b, rfl, _⟩ := h; rfl
  obtain ⟨b, rfl, hb, hk, h40, q⟩ := h
  refine ⟨_, pss_one (ps_ret (pe_comp blk_kid_names_0 rfl (pi_seq (pe_ix ix_tup (pv 0) pe_int (fun _ _ => rfl))) (fun _ _ _ _ _ => pg_name (i := 0) nd_kid_names_0 rfl (.inl rfl)) (fun _ _ _ _ _ => pif_nil) (fun _ _ _ _ _ => pe_ix (ix_tupK (K := K) rfl) (pv 0) pe_int (fun _ _ => rfl)))), ?_⟩
  obtain ⟨tg, kt, b1, b2⟩ := hb.ex
  refine ⟨_, rfl, b.a, _, _, _, rfl, rfl, .of b1, rfl, kt, rfl, blk_map (fun c : Bt => V.str c.n) (fun c => V.ref c.a) (.inr (.of b2)) (small1000 (by omega)) (fun c hc Q hQ => ?_) fun l hl => q l hl⟩
  obtain ⟨tg', kt', c1, c2⟩ := (hk c hc).ex
  exact ⟨_, rfl, c.a, _, _, _, rfl, rfl, .of c1, rfl, hQ⟩
def spAsked : Sp := fun vs H Q _ => ∃ (s : Sh) (nd : Addr) (x0 x1 n : Int), vs = [.ref s.d, .ref nd, .int n] ∧ ShAt H s ∧ H nd = some (.tup [.int x0, .int x1]) ∧ Q (.int (asked s.y x0 x1 n s.lo s.hi)) H
theorem ok_asked_wide (T : Txt K mg A) : FnOk P w K mg base CX0 3 A.f_asked_wide A.d_asked_wide P_asked_wide spAsked := by
  have G_limited_wide : FnOk P w K mg base CX0 2 A.f_limited_wide A.d_limited_wide P_limited_wide spLimW := ok_limited_wide T
  refine T.F_asked_wide.ok sc_asked_wide (fun vs H Q E h => ?_) (fun cdv B outer s H vs Q E hr h => ?_)
  · obtain ⟨s, nd, x0, x1, n, rfl, _⟩ := h; rfl
  obtain ⟨s, nd, x0, x1, n, rfl, hs, hn, q⟩ := h
  refine ⟨_, @pss_cons _ _ _ _ _ (ps_set (i := 3) sc_asked_wide.nd rfl (Or.inl rfl) (pe_dget (hu_of hr) (pv 0) pe_str (fun _ _ => rfl)))
    (@pss_cons _ _ _ _ _ (ps_if (pt_cmpR op_eq (pe_ix ix_tup (pv 3) pe_int (fun _ _ => rfl)) pe_str (nomark _)) (pss_one (ps_ret (pe_call G_limited_wide hr rfl T.m_limited_wide T.F_limited_wide.kp T.b_limited_wide .nil pass0 (pa_cons (pv 0) (pa_cons (pe_ix ix_tup (pv 3) pe_int (fun _ _ => rfl)) pa_nil))))) pss_nil)
    (@pss_cons _ _ _ _ _ (ps_if (pt_cmpR op_eq (pe_ix ix_tup (pv 3) pe_int (fun _ _ => rfl)) pe_str (nomark _)) (pss_one (ps_ret (pe_call G_limited_wide hr rfl T.m_limited_wide T.F_limited_wide.kp T.b_limited_wide .nil pass0 (pa_cons (pv 0) (pa_cons (pv 2) pa_nil))))) pss_nil)
    (pss_one (ps_ret (pe_call G_limited_wide hr rfl T.m_limited_wide T.F_limited_wide.kp T.b_limited_wide .nil pass0 (pa_cons (pv 0) (pa_cons (pe_callB (call_max2 rfl) rfl T.n_max b_max (pa_cons (pe_ix ix_tup (pv 1) pe_int (fun _ _ => rfl)) (pa_cons (pe_callB (call_min2 rfl) rfl T.n_min b_min (pa_cons (pe_ix ix_tup (pv 1) pe_int (fun _ _ => rfl)) (pa_cons (pv 2) pa_nil))) pa_nil))) pa_nil))))))), ?_⟩
  have sh := hs.shp
  refine ⟨_, rfl, s.d, _, rfl, dget_s sh.ad sh.wide, ?_⟩
  have ht := sh.tup
  cases ey : s.y with
  | hold =>
    rw [ey] at ht q
    refine ⟨_, rfl, s.t, _, _, _, rfl, rfl, .of ht, rfl, rfl, _, rfl, iteN sHF ⟨_, rfl, s.t, _, _, _, rfl, rfl, .of ht, rfl, rfl, _, rfl, iteN sHS ?_⟩⟩
    exact ⟨_, rfl, _, rfl, nd, _, _, _, rfl, rfl, .of hn, rfl, _, rfl, nd, _, _, _, rfl, rfl, .of hn, rfl, _, rfl, _, _, rfl, _, _, rfl, s.d, _, _, s.lo, s.hi, rfl, sh.ad, sh.bd, q⟩
  | fixed k =>
    rw [ey] at ht q
    refine ⟨_, rfl, s.t, _, _, _, rfl, rfl, .of ht, rfl, rfl, _, rfl, iteY rfl ?_⟩
    exact ⟨_, rfl, _, rfl, s.t, _, _, _, rfl, rfl, .of ht, rfl, s.d, _, k, s.lo, s.hi, rfl, sh.ad, sh.bd, q⟩
  | share k =>
    rw [ey] at ht q
    refine ⟨_, rfl, s.t, _, _, _, rfl, rfl, .of ht, rfl, rfl, _, rfl, iteN sSF ⟨_, rfl, s.t, _, _, _, rfl, rfl, .of ht, rfl, rfl, _, rfl, iteY rfl ?_⟩⟩
    exact ⟨_, rfl, _, rfl, s.d, _, n, s.lo, s.hi, rfl, sh.ad, sh.bd, q⟩
def spPartRow : Sp := fun vs H Q _ => ∃ (s : Sh) (nd : Addr) (p : Int × Int), vs = [.ref s.d, .ref nd] ∧ ShAt H s ∧ PrAt H (nd, p) ∧ ∀ a, H a = none → Q (.ref a) (upd H a (.tup (ptV (pR s p))))
seal PE PS PSs PA PT PI PG in
theorem ok_part_in_row (T : Txt K mg A) : FnOk P w K mg base CX0 3 A.f_part_in_row A.d_part_in_row P_part_in_row spPartRow := by
  have G_limited_wide : FnOk P w K mg base CX0 2 A.f_limited_wide A.d_limited_wide P_limited_wide spLimW := ok_limited_wide T
  refine T.F_part_in_row.ok sc_part_in_row (fun vs H Q E h => ?_) (fun cdv B outer s H vs Q E hr h => ?_)
  · obtain ⟨s, nd, p, rfl, _⟩ := h; rfl
  obtain ⟨s, nd, p, rfl, hs, hn, q⟩ := h
  refine ⟨_, @pss_cons _ _ _ _ _ (ps_set (i := 2) sc_part_in_row.nd rfl (Or.inl rfl) (pe_dget (hu_of hr) (pv 0) pe_str (fun _ _ => rfl)))
    (@pss_cons _ _ _ _ _ (ps_set (i := 3) sc_part_in_row.nd rfl (Or.inl rfl) (pe_ix ix_tup (pv 1) pe_int (fun _ _ => rfl)))
    (@pss_cons _ _ _ _ _ (ps_set (i := 4) sc_part_in_row.nd rfl (Or.inl rfl) (pe_ix ix_tup (pv 1) pe_int (fun _ _ => rfl)))
    (@pss_cons _ _ _ _ _ (ps_if (pt_cmpR op_eq (pe_ix ix_tup (pv 2) pe_int (fun _ _ => rfl)) pe_str (nomark _)) (@pss_cons _ _ _ _ _ (ps_set (i := 5) sc_part_in_row.nd rfl (Or.inl rfl) (pe_call G_limited_wide hr rfl T.m_limited_wide T.F_limited_wide.kp T.b_limited_wide .nil pass0 (pa_cons (pv 0) (pa_cons (pe_ix ix_tup (pv 2) pe_int (fun _ _ => rfl)) pa_nil))))
    (pss_one (ps_ret (pe_tup (pa_cons (pv 5) (pa_cons (pv 5) (pa_cons (pv 5) (pa_cons pe_int pa_nil)))))))) pss_nil)
    (@pss_cons _ _ _ _ _ (ps_if (pt_cmpR op_eq (pe_ix ix_tup (pv 2) pe_int (fun _ _ => rfl)) pe_str (nomark _)) (pss_one (ps_ret (pe_tup (pa_cons (pv 3) (pa_cons (pv 3) (pa_cons (pe_callB (call_max2 rfl) rfl T.n_max b_max (pa_cons (pv 3) (pa_cons (pe_dget (hu_of hr) (pv 0) pe_str (fun _ _ => rfl)) pa_nil))) (pa_cons (pe_ix ix_tup (pv 2) pe_int (fun _ _ => rfl)) pa_nil))))))) pss_nil)
    (pss_one (ps_ret (pe_tup (pa_cons (pv 4) (pa_cons (pv 3) (pa_cons (pv 4) (pa_cons pe_int pa_nil))))))))))), ?_⟩
  have sh := hs.shp
  have ht := sh.tup
  refine ⟨_, rfl, s.d, _, rfl, dget_s sh.ad sh.wide, _, rfl, nd, _, _, _, rfl, rfl, .of hn, rfl, _, rfl, nd, _, _, _, rfl, rfl, .of hn, rfl, ?_⟩
  dsimp only [gName]
  show tSeq _ _ _ _ _
  unfold pR at q
  cases ey : s.y with
  | hold =>
    rw [ey] at ht q
    refine ⟨_, rfl, s.t, _, _, _, rfl, rfl, .of ht, rfl, rfl, _, rfl, iteN sHF ⟨_, rfl, s.t, _, _, _, rfl, rfl, .of ht, rfl, rfl, _, rfl, iteN sHS ?_⟩⟩
    exact ⟨_, rfl, _, rfl, _, rfl, small (by simp), fun a ha => q a ha⟩
  | fixed k =>
    rw [ey] at ht q
    refine ⟨_, rfl, s.t, _, _, _, rfl, rfl, .of ht, rfl, rfl, _, rfl, iteY rfl ?_⟩
    refine ⟨_, rfl, _, rfl, s.t, _, _, _, rfl, rfl, .of ht, rfl, s.d, _, k, s.lo, s.hi, rfl, sh.ad, sh.bd, ?_⟩
    exact ⟨_, rfl, _, rfl, _, rfl, small (by simp), fun a ha => q a ha⟩
  | share k =>
    rw [ey] at ht q
    refine ⟨_, rfl, s.t, _, _, _, rfl, rfl, .of ht, rfl, rfl, _, rfl, iteN sSF ⟨_, rfl, s.t, _, _, _, rfl, rfl, .of ht, rfl, rfl, _, rfl, iteY rfl ?_⟩⟩
    exact ⟨_, rfl, _, rfl, _, rfl, _, rfl, s.d, _, rfl, dget_s sh.ad sh.bd.hi, _, _, rfl, _, rfl, s.t, _, _, _, rfl, rfl, .of ht, rfl, small (by simp), fun a ha => q a ha⟩
def spPartFlow : Sp := fun vs H Q _ => ∃ (s : Sh) (nd : Addr) (p : Int × Int) (ins : Int), vs = [.ref s.d, .ref nd, .int ins] ∧ ShAt H s ∧ PrAt H (nd, p) ∧ ∀ a, H a = none → Q (.ref a) (upd H a (.tup (ptV (pF s p ins))))
seal PE PS PSs PA PT PI PG in
theorem ok_part_in_flow (T : Txt K mg A) : FnOk P w K mg base CX0 4 A.f_part_in_flow A.d_part_in_flow P_part_in_flow spPartFlow := by
  have G_part_in_row : FnOk P w K mg base CX0 3 A.f_part_in_row A.d_part_in_row P_part_in_row spPartRow := ok_part_in_row T
  have G_asked_wide : FnOk P w K mg base CX0 3 A.f_asked_wide A.d_asked_wide P_asked_wide spAsked := ok_asked_wide T
  refine T.F_part_in_flow.ok sc_part_in_flow (fun vs H Q E h => ?_) (fun cdv B outer s H vs Q E hr h => ?_)
  · obtain ⟨s, nd, p, ins, rfl, _⟩ := h; rfl
  obtain ⟨s, nd, p, ins, rfl, hs, hn, q⟩ := h
  refine ⟨_, @pss_cons _ _ _ _ _ (ps_if (pt_cmpR op_ne (pe_ix ix_tup (pe_dget (hu_of hr) (pv 0) pe_str (fun _ _ => rfl)) pe_int (fun _ _ => rfl)) pe_str (nomark _)) (pss_one (ps_ret (pe_call G_part_in_row hr rfl T.m_part_in_row T.F_part_in_row.kp T.b_part_in_row .nil pass0 (pa_cons (pv 0) (pa_cons (pv 1) pa_nil))))) pss_nil)
    (@pss_cons _ _ _ _ _ (ps_set (i := 3) sc_part_in_flow.nd rfl (Or.inl rfl) (pe_call G_asked_wide hr rfl T.m_asked_wide T.F_asked_wide.kp T.b_asked_wide .nil pass0 (pa_cons (pv 0) (pa_cons (pv 1) (pa_cons (pv 2) pa_nil)))))
    (pss_one (ps_ret (pe_tup (pa_cons (pv 3) (pa_cons (pe_ix ix_tup (pv 1) pe_int (fun _ _ => rfl)) (pa_cons (pv 3) (pa_cons pe_int pa_nil)))))))), ?_⟩
  have sh := hs.shp
  have ht := sh.tup
  unfold pF at q
  cases ey : s.y with
  | hold =>
    rw [ey] at ht q
    refine ⟨_, rfl, s.d, _, rfl, dget_s sh.ad sh.wide, s.t, _, _, _, rfl, rfl, .of ht, rfl, rfl, _, rfl, iteF ?_⟩
    refine ⟨_, rfl, _, rfl, _, rfl, s, nd, p.1, p.2, ins, rfl, hs, hn, ?_⟩
    rw [ey]
    exact ⟨_, rfl, _, rfl, nd, _, _, _, rfl, rfl, .of hn, rfl, _, rfl, small (by simp), fun a ha => q a ha⟩
  | fixed k =>
    rw [ey] at ht q
    refine ⟨_, rfl, s.d, _, rfl, dget_s sh.ad sh.wide, s.t, _, _, _, rfl, rfl, .of ht, rfl, rfl, _, rfl, iteT ?_⟩
    exact ⟨_, rfl, _, rfl, s, nd, p, rfl, hs, hn, fun a ha => q a ha⟩
  | share k =>
    rw [ey] at ht q
    refine ⟨_, rfl, s.d, _, rfl, dget_s sh.ad sh.wide, s.t, _, _, _, rfl, rfl, .of ht, rfl, rfl, _, rfl, iteT ?_⟩
    exact ⟨_, rfl, _, rfl, s, nd, p, rfl, hs, hn, fun a ha => q a ha⟩
end
end KP

set_option linter.all false
set_option maxHeartbeats 4000000
set_option maxRecDepth 100000
namespace KP
open PySem L2 PyProof.Rows
theorem sl_listK {X : Cx} {K : PySem.W.Frag} (e : X.K = K) : SlR X (rSlL K) := by subst e; exact sl_list
/-- the needs of a box's kids are told in a dict -/
structure Kd (H : Hp) (nd : Addr) (nms : List Str) (g : Str → Addr) (nv : Str → Int × Int) (b : Bt) : Prop where
  ad : H nd = some (.dK (dN nms g))
  mem : ∀ c ∈ b.ks, c.n ∈ nms
  pr : ∀ c ∈ b.ks, PrAt H (g c.n, nv c.n)
theorem Kd.same {H H' : Hp} {nd : Addr} {nms : List Str} {g : Str → Addr} {nv : Str → Int × Int} {b : Bt} (h : Kd H nd nms g nv b) (s : Same H H') : Kd H' nd nms g nv b := ⟨s _ _ h.ad, h.mem, fun c hc => s _ _ (h.pr c hc)⟩
theorem Kd.get {H : Hp} {nd : Addr} {nms : List Str} {g : Str → Addr} {nv : Str → Int × Int} {b c : Bt} (h : Kd H nd nms g nv b) (hc : c ∈ b.ks) : DGet H nd (.str c.n) (some (.ref (g c.n))) := dget_s h.ad (val_map (α := Unit) (g := fun n => V.ref (g n)) (h.mem c hc))
/-- a box, its kids, the shapes of all of these -/
structure Bk (H : Hp) (sd : Addr) (ns : List Str) (f : Str → Sh) (b : Bt) : Prop where
  nd : Nd H b
  kid : ∀ c ∈ b.ks, Nd H c
  sh : Shs H sd ns f
  own : b.n ∈ ns
  mem : ∀ c ∈ b.ks, c.n ∈ ns
  len : b.ks.length ≤ 40
theorem Bk.same {H H' : Hp} {sd : Addr} {ns : List Str} {f : Str → Sh} {b : Bt} (h : Bk H sd ns f b) (s : Same H H') : Bk H' sd ns f b := ⟨h.nd.same s, fun c hc => (h.kid c hc).same s, h.sh.same s, h.own, h.mem, h.len⟩
abbrev PtAt (H : Hp) (p : Addr × Pt) : Prop := H p.1 = some (.tup (ptV p.2))
section
variable {P : Program} {w : World} {K : PySem.W.Frag} {mg : Str → Option Value} {base : Heap} {A : Adr}
def spPartsIn : Sp := fun vs H Q _ => ∃ (b : Bt) (sd nd : Addr) (ns nms : List Str) (f : Str → Sh) (g : Str → Addr) (nv : Str → Int × Int) (wide : Int), vs = [.ref b.a, .ref sd, .ref nd, .int wide] ∧ Bk H sd ns f b ∧ Kd H nd nms g nv b ∧
  ∀ (l : Addr) (ps : List (Addr × Pt)) (H' : Hp), H l = none → Same H H' → H' l = some (.lst (ps.map fun p => V.ref p.1)) → (∀ p ∈ ps, PtAt H' p) → ps.map (·.2) = b.ks.map (partOf f nv b wide) → Q (.ref l) H'
abbrev sc_parts_in_0 : Scope := (match defBody s_parts_in with | _ :: (.If _ ((.Return (some (.ListComp _ _ sc _)) _) :: _) _ _) :: _ => sc | _ => defScope s_parts_in)
theorem blk_parts_in_0 : Blk (defScope s_parts_in) N_parts_in sc_parts_in_0 ["name"] [1, 2] := ⟨rfl, by decide +kernel, by decide +kernel, by decide +kernel, by decide +kernel⟩
theorem nd_parts_in_0 : (capN N_parts_in ["name"] [1, 2]).Nodup := by decide +kernel
abbrev sc_parts_in_1 : Scope := (match defBody s_parts_in with | _ :: _ :: _ :: (.Return (some (.ListComp _ _ sc _)) _) :: _ => sc | _ => defScope s_parts_in)
theorem blk_parts_in_1 : Blk (defScope s_parts_in) N_parts_in sc_parts_in_1 ["name"] [1, 2, 5] := ⟨rfl, by decide +kernel, by decide +kernel, by decide +kernel, by decide +kernel⟩
theorem nd_parts_in_1 : (capN N_parts_in ["name"] [1, 2, 5]).Nodup := by decide +kernel
seal PE PS PSs PA PT PI PG in
theorem ok_parts_in (T : Txt K mg A) : FnOk P w K mg base CX0 5 A.f_parts_in A.d_parts_in P_parts_in spPartsIn := by
  have G_part_in_row : FnOk P w K mg base CX0 4 A.f_part_in_row A.d_part_in_row P_part_in_row spPartRow := (ok_part_in_row T).mono (by omega)
  have G_part_in_flow : FnOk P w K mg base CX0 4 A.f_part_in_flow A.d_part_in_flow P_part_in_flow spPartFlow := ok_part_in_flow T
  have G_inside_of : FnOk P w K mg base CX0 4 A.f_inside_of A.d_inside_of P_inside_of spInside := (ok_inside_of T).mono (by omega)
  have G_kid_names : FnOk P w K mg base CX0 4 A.f_kid_names A.d_kid_names P_kid_names spKidNames := (ok_kid_names T).mono (by omega)
  refine T.F_parts_in.ok sc_parts_in (fun vs H Q E h => ?_) (fun cdv B outer s H vs Q E hr h => ?_)
  · obtain ⟨b, sd, nd, ns, nms, f, g, nv, wide, rfl, _⟩ := h; rfl
  obtain ⟨b, sd, nd, ns, nms, f, g, nv, wide, rfl, bk, kd, q⟩ := h
  refine ⟨_, @pss_cons _ _ _ _ _ (ps_set (i := 4) sc_parts_in.nd rfl (Or.inl rfl) (pe_call G_kid_names hr rfl T.m_kid_names T.F_kid_names.kp T.b_kid_names .nil pass0 (pa_cons (pv 0) pa_nil)))
    (@pss_cons _ _ _ _ _ (ps_if (pt_cmpR op_eq (pe_ix ix_tup (pv 0) pe_int (fun _ _ => rfl)) pe_str (nomark _)) (pss_one (ps_ret (pe_comp blk_parts_in_0 rfl (pi_seq (pv 4)) (fun _ _ _ _ _ => pg_name (i := 0) nd_parts_in_0 rfl (.inl rfl)) (fun _ _ _ _ _ => pif_nil) (fun _ _ _ _ _ => pe_call G_part_in_row hr rfl T.m_part_in_row T.F_part_in_row.kp T.b_part_in_row .nil pass0 (pa_cons (pe_dget (hu_of hr) (pv 1) (pv 0) (fun _ _ => rfl)) (pa_cons (pe_dget (hu_of hr) (pv 2) (pv 0) (fun _ _ => rfl)) pa_nil)))))) pss_nil)
    (@pss_cons _ _ _ _ _ (ps_set (i := 5) sc_parts_in.nd rfl (Or.inr rfl) (pe_call G_inside_of hr rfl T.m_inside_of T.F_inside_of.kp T.b_inside_of .nil pass0 (pa_cons (pe_dget (hu_of hr) (pv 1) (pe_ix ix_tup (pv 0) pe_int (fun _ _ => rfl)) (fun _ _ => rfl)) (pa_cons (pv 3) pa_nil))))
    (pss_one (ps_ret (pe_comp blk_parts_in_1 rfl (pi_seq (pv 4)) (fun _ _ _ _ _ => pg_name (i := 0) nd_parts_in_1 rfl (.inl rfl)) (fun _ _ _ _ _ => pif_nil) (fun _ _ _ _ _ => pe_call G_part_in_flow hr rfl T.m_part_in_flow T.F_part_in_flow.kp T.b_part_in_flow .nil pass0 (pa_cons (pe_dget (hu_of hr) (pv 1) (pv 0) (fun _ _ => rfl)) (pa_cons (pe_dget (hu_of hr) (pv 2) (pv 0) (fun _ _ => rfl)) (pa_cons (pv 3) pa_nil))))))))), ?_⟩
  refine ⟨_, rfl, b, rfl, bk.nd, bk.kid, bk.len, fun nl hnl => ?_⟩
  have s0 := same_upd hnl (.lst (b.ks.map fun c => V.str c.n))
  have e0 : upd H nl (.lst (b.ks.map fun c => V.str c.n)) nl = some (.lst (b.ks.map fun c => V.str c.n)) := upd_same
  generalize upd H nl (.lst (b.ks.map fun c => V.str c.n)) = H0 at s0 e0 ⊢
  have bk0 := bk.same s0
  have kd0 := kd.same s0
  have hl := bk.len
  obtain ⟨tg, kt, b1, b2⟩ := bk0.nd.ex
  have at_ : ∀ {i : Nat} {x : V}, (b.ks.map fun c => V.str c.n)[i]? = some x → ∃ c, b.ks[i]? = some c ∧ x = .str c.n := fun {i x} h => by
    rw [List.getElem?_map] at h
    cases e : b.ks[i]? with
    | none => rw [e] at h; cases h
    | some c => rw [e] at h; cases h; exact ⟨c, rfl, rfl⟩
  have ll : (b.ks.map fun c => V.str c.n).length = b.ks.length := List.length_map _
  have fr : ∀ (H' : Hp) (a : Addr), Same H H' → H' a = none → H a = none := fun H' a s h => by
    cases e : H a with
    | none => rfl
    | some o => rw [s _ _ e] at h; cases h
  have snoc : ∀ (ps : List (Addr × Pt)) (i : Nat) (c : Bt) (a : Addr) (H2 : Hp), b.ks[i]? = some c → H2 a = none → Same H H2 → (∀ p ∈ ps, PtAt H2 p) → ps.map (·.2) = (b.ks.take i).map (partOf f nv b wide) → H2 nl = some (.lst (b.ks.map fun c => V.str c.n)) → ps.length = i →
      ∃ ps' : List (Addr × Pt), ps.map (fun p => V.ref p.1) ++ [V.ref a] = ps'.map (fun p => V.ref p.1) ∧ ps'.length = i + 1 ∧ i + 1 ≤ 40 ∧ Same H (upd H2 a (.tup (ptV (partOf f nv b wide c)))) ∧ upd H2 a (.tup (ptV (partOf f nv b wide c))) nl = some (.lst (b.ks.map fun c => V.str c.n)) ∧ (∀ p ∈ ps', PtAt (upd H2 a (.tup (ptV (partOf f nv b wide c)))) p) ∧ ps'.map (·.2) = (b.ks.take (i + 1)).map (partOf f nv b wide) := by
    intro ps i c a H2 hc ha s2 hp em en el
    have s3 := same_upd ha (.tup (ptV (partOf f nv b wide c)))
    refine ⟨ps ++ [(a, partOf f nv b wide c)], by rw [List.map_append]; rfl, by rw [List.length_append, el]; rfl, by have := (List.getElem?_eq_some_iff.mp hc).1; omega, s2.trans s3, s3 _ _ en, fun p h => ?_, by rw [List.map_append, em, take_snoc hc, List.map_append]; rfl⟩
    rcases List.mem_append.mp h with h | h
    · exact s3 _ _ (hp p h)
    · rw [List.mem_singleton.mp h]; exact upd_same
  refine ⟨_, rfl, b.a, _, _, _, rfl, rfl, .of b1, rfl, rfl, _, rfl, ite2 (fun c => ?_) (fun c => ?_)⟩
  · have ek : b.k = "row" := by have e := of_decide_eq_true c; injection e
    have ep : ∀ c, partOf f nv b wide c = pR (f c.n) (nv c.n) := fun c => by unfold partOf; rw [if_pos ek]
    refine ⟨_, rfl, nl, rfl, .inl ⟨⟨_, .of e0⟩, blk_list (xs := b.ks.map fun c => V.str c.n) (fun i acc H' => ∃ ps : List (Addr × Pt), acc = ps.map (fun p => V.ref p.1) ∧ ps.length = i ∧ i ≤ 40 ∧ Same H H' ∧ H' nl = some (.lst (b.ks.map fun c => V.str c.n)) ∧ (∀ p ∈ ps, PtAt H' p) ∧ ps.map (·.2) = (b.ks.take i).map (partOf f nv b wide))
      ⟨[], rfl, rfl, Nat.zero_le _, s0, e0, fun p h => (nomatch h), rfl⟩ (fun i acc H' ⟨_, _, _, _, _, e, _⟩ => .of e) (fun i acc H' ⟨_, ea, el, hi, _⟩ => ?_) (fun i x acc H' R k hx z => ?_) fun acc H' z => ?_⟩⟩
    · rw [ea, List.length_map, el]; exact small1000 (by omega)
    · obtain ⟨ps, rfl, el, hi, s2, en, hp, em⟩ := z
      obtain ⟨c, hc, rfl⟩ := at_ hx
      have hcm := List.mem_of_getElem? hc
      dsimp only [tYes]; rw [if_pos rfl]
      refine ⟨_, rfl, _, rfl, sd, _, rfl, (bk.sh.same s2).get (bk.mem c hcm), _, rfl, _, rfl, nd, _, rfl, (kd.same s2).get hcm, f c.n, g c.n, nv c.n, rfl, (bk.sh.same s2).at_ _ (bk.mem c hcm), s2 _ _ (kd.pr c hcm), fun a ha => ?_⟩
      rw [← ep c]
      exact k _ _ (snoc ps i c a H' hc ha s2 hp em en el)
    · obtain ⟨ps, rfl, el, hi, s2, en, hp, em⟩ := z
      rw [ll, List.take_length] at em
      intro l hlf
      have s3 := same_upd hlf (.lst (ps.map fun p => V.ref p.1))
      exact q l ps _ (fr _ _ s2 hlf) (s2.trans s3) upd_same (fun p h => s3 _ _ (hp p h)) em
  · have nr : b.k ≠ "row" := fun e => c (decide_eq_true (by rw [e]))
    have ep : ∀ c, partOf f nv b wide c = pF (f c.n) (nv c.n) (insd (f b.n) wide) := fun c => by unfold partOf; rw [if_neg nr]
    dsimp only [tNext]
    refine ⟨_, rfl, _, rfl, b.a, _, _, _, rfl, rfl, .of b1, rfl, sd, _, rfl, bk0.sh.get bk.own, _, rfl, f b.n, wide, rfl, bk0.sh.at_ _ bk.own, ?_⟩
    dsimp only [gName]
    refine ⟨_, rfl, nl, rfl, .inl ⟨⟨_, .of e0⟩, blk_list (xs := b.ks.map fun c => V.str c.n) (fun i acc H' => ∃ ps : List (Addr × Pt), acc = ps.map (fun p => V.ref p.1) ∧ ps.length = i ∧ i ≤ 40 ∧ Same H H' ∧ H' nl = some (.lst (b.ks.map fun c => V.str c.n)) ∧ (∀ p ∈ ps, PtAt H' p) ∧ ps.map (·.2) = (b.ks.take i).map (partOf f nv b wide))
      ⟨[], rfl, rfl, Nat.zero_le _, s0, e0, fun p h => (nomatch h), rfl⟩ (fun i acc H' ⟨_, _, _, _, _, e, _⟩ => .of e) (fun i acc H' ⟨_, ea, el, hi, _⟩ => ?_) (fun i x acc H' R k hx z => ?_) fun acc H' z => ?_⟩⟩
    · rw [ea, List.length_map, el]; exact small1000 (by omega)
    · obtain ⟨ps, rfl, el, hi, s2, en, hp, em⟩ := z
      obtain ⟨c, hc, rfl⟩ := at_ hx
      have hcm := List.mem_of_getElem? hc
      dsimp only [tYes]; rw [if_pos rfl]
      refine ⟨_, rfl, _, rfl, sd, _, rfl, (bk.sh.same s2).get (bk.mem c hcm), _, rfl, _, rfl, nd, _, rfl, (kd.same s2).get hcm, _, rfl, f c.n, g c.n, nv c.n, insd (f b.n) wide, rfl, (bk.sh.same s2).at_ _ (bk.mem c hcm), s2 _ _ (kd.pr c hcm), fun a ha => ?_⟩
      rw [← ep c]
      exact k _ _ (snoc ps i c a H' hc ha s2 hp em en el)
    · obtain ⟨ps, rfl, el, hi, s2, en, hp, em⟩ := z
      rw [ll, List.take_length] at em
      intro l hlf
      have s3 := same_upd hlf (.lst (ps.map fun p => V.ref p.1))
      exact q l ps _ (fr _ _ s2 hlf) (s2.trans s3) upd_same (fun p h => s3 _ _ (hp p h)) em
end
end KP

set_option linter.all false
set_option maxHeartbeats 4000000
set_option maxRecDepth 100000
namespace KP
open PySem L2 PyProof.Rows
abbrev nV (l : List Nat) : List V := l.map fun i : Nat => V.int (i : Int)
/-- a flow's lines: the lines so far, where the last one ends, the next place -/
def fstep (g ins : Int) (s : List (List Nat) × Int × Nat) (b : Int) : List (List Nat) × Int × Nat :=
  if s.1 = [] ∨ s.2.1 + g + b > ins then (s.1 ++ [[s.2.2]], b, s.2.2 + 1) else (s.1.dropLast ++ [s.1.getLastD [] ++ [s.2.2]], s.2.1 + g + b, s.2.2 + 1)
def flwS (g ins : Int) (bs : List Int) : List (List Nat) × Int × Nat := bs.foldl (fstep g ins) ([], 0, 0)
def flw (g ins : Int) (bs : List Int) : List (List Nat) := (flwS g ins bs).1
theorem flwS_snoc (g ins : Int) (bs : List Int) (b : Int) : flwS g ins (bs ++ [b]) = fstep g ins (flwS g ins bs) b := by unfold flwS; rw [List.foldl_append]; rfl
theorem flwS_cnt (g ins : Int) (bs : List Int) : (flwS g ins bs).2.2 = bs.length := by
  have : ∀ (l : List Int) (s : List (List Nat) × Int × Nat), (l.foldl (fstep g ins) s).2.2 = s.2.2 + l.length := fun l => by
    induction l with
    | nil => intro s; rfl
    | cons x r ih =>
      intro s
      rw [List.foldl_cons, ih, List.length_cons]
      have : (fstep g ins s x).2.2 = s.2.2 + 1 := by unfold fstep; split <;> rfl
      omega
  have := this bs ([], 0, 0)
  unfold flwS; rw [this]; simp
/-- lists of places in the heap, new ones all -/
structure Lis (H H' : Hp) (ls : List (Addr × List Nat)) : Prop where
  same : Same H H'
  at_ : ∀ p ∈ ls, H' p.1 = some (.lst (nV p.2))
  frs : ∀ p ∈ ls, H p.1 = none
  nd : (ls.map (·.1)).Nodup
/-- and a list of these -/
structure Lns (H H' : Hp) (la : Addr) (ls : List (Addr × List Nat)) : Prop where
  lis : Lis H H' ls
  ad : H' la = some (.lst (ls.map fun p => V.ref p.1))
  fr : H la = none
  new : la ∉ ls.map (·.1)
theorem same_none {H H' : Hp} {a : Addr} (s : Same H H') (h : H' a = none) : H a = none := by
  cases e : H a with
  | none => rfl
  | some o => rw [s _ _ e] at h; cases h
theorem Lis.nil {H H' : Hp} (s : Same H H') : Lis H H' [] := ⟨s, fun p h => (nomatch h), fun p h => (nomatch h), List.nodup_nil⟩
theorem Lis.grow {H H' H'' : Hp} {ls : List (Addr × List Nat)} (h : Lis H H' ls) (s : Same H' H'') : Lis H H'' ls := ⟨h.same.trans s, fun p hp => s _ _ (h.at_ p hp), h.frs, h.nd⟩
theorem Lis.not {H H' : Hp} {ls : List (Addr × List Nat)} (h : Lis H H' ls) {a : Addr} (ha : H' a = none) : a ∉ ls.map (·.1) := fun z => by
  obtain ⟨p, hp, e⟩ := List.mem_map.mp z
  have := h.at_ p hp
  rw [show p.1 = a from e, ha] at this; cases this
theorem Lis.snoc {H H' : Hp} {ls : List (Addr × List Nat)} (h : Lis H H' ls) {a : Addr} (xs : List Nat) (ha : H' a = none) : Lis H (upd H' a (.lst (nV xs))) (ls ++ [(a, xs)]) := by
  have s := same_upd ha (.lst (nV xs))
  refine ⟨h.same.trans s, fun p hp => ?_, fun p hp => ?_, ?_⟩
  · rcases List.mem_append.mp hp with hp | hp
    · exact s _ _ (h.at_ p hp)
    · rw [List.mem_singleton.mp hp]; exact upd_same
  · rcases List.mem_append.mp hp with hp | hp
    · exact h.frs p hp
    · rw [List.mem_singleton.mp hp]; exact same_none h.same ha
  · rw [List.map_append]
    refine List.nodup_append.mpr ⟨h.nd, by simp, fun a' h1 b' h2 => ?_⟩
    have : b' = a := by simpa using h2
    rw [this]
    exact fun z => h.not ha (by rw [← z]; exact h1)
theorem Lis.lns {H H' : Hp} {ls : List (Addr × List Nat)} (h : Lis H H' ls) {l : Addr} (hl : H' l = none) : Lns H (upd H' l (.lst (ls.map fun p => V.ref p.1))) l ls := ⟨h.grow (same_upd hl _), upd_same, same_none h.same hl, h.not hl⟩
theorem Lns.grow {H H' H'' : Hp} {la : Addr} {ls : List (Addr × List Nat)} (h : Lns H H' la ls) (s : Same H' H'') : Lns H H'' la ls := ⟨h.lis.grow s, s _ _ h.ad, h.fr, h.new⟩
/-- an empty line more -/
theorem Lns.push {H H' : Hp} {la : Addr} {ls : List (Addr × List Nat)} (h : Lns H H' la ls) {a : Addr} (ha : H' a = none) : Lns H (upd (upd H' a (.lst [])) la (.lst (ls.map (fun p => V.ref p.1) ++ [V.ref a]))) la (ls ++ [(a, [])]) := by
  have nla : a ≠ la := fun z => by rw [z, h.ad] at ha; cases ha
  have k := h.lis.snoc [] ha
  have nn : la ∉ (ls ++ [(a, ([] : List Nat))]).map (·.1) := fun z => by
    rw [List.map_append] at z
    rcases List.mem_append.mp z with z | z
    · exact h.new z
    · have : la = a := by simpa using z
      exact nla this.symm
  refine ⟨⟨fun b o e => by rw [upd_ne (ne_of_none e h.fr)]; exact k.same b o e, fun p hp => ?_, k.frs, k.nd⟩, by rw [upd_same, List.map_append]; rfl, h.fr, nn⟩
  rw [upd_ne (fun z => nn (by rw [← z]; exact List.mem_map.mpr ⟨p, hp, rfl⟩))]
  exact k.at_ p hp
/-- a place more in the last line -/
theorem Lns.app {H H' : Hp} {la a : Addr} {ls : List (Addr × List Nat)} {xs : List Nat} (h : Lns H H' la (ls ++ [(a, xs)])) (i : Nat) : Lns H (upd H' a (.lst (nV (xs ++ [i])))) la (ls ++ [(a, xs ++ [i])]) := by
  have hm : (a, xs) ∈ ls ++ [(a, xs)] := List.mem_append_right _ (by simp)
  have e1 : (ls ++ [(a, xs ++ [i])]).map (·.1) = (ls ++ [(a, xs)]).map (·.1) := by rw [List.map_append, List.map_append]; rfl
  have e2 : (ls ++ [(a, xs ++ [i])]).map (fun p => V.ref p.1) = (ls ++ [(a, xs)]).map fun p => V.ref p.1 := by rw [List.map_append, List.map_append]; rfl
  have nla : la ≠ a := fun z => h.new (by rw [z]; exact List.mem_map.mpr ⟨_, hm, rfl⟩)
  refine ⟨⟨fun b o e => by rw [upd_ne (ne_of_none e (h.lis.frs _ hm))]; exact h.lis.same b o e, fun p hp => ?_, fun p hp => ?_, by rw [e1]; exact h.lis.nd⟩, by rw [upd_ne nla, e2]; exact h.ad, h.fr, by rw [e1]; exact h.new⟩
  · rcases List.mem_append.mp hp with hp | hp
    · have nd := h.lis.nd
      rw [List.map_append] at nd
      have := (List.nodup_append.mp nd).2.2 p.1 (List.mem_map.mpr ⟨p, hp, rfl⟩) a (by simp)
      rw [upd_ne this]; exact h.lis.at_ p (List.mem_append_left _ hp)
    · rw [List.mem_singleton.mp hp]; exact upd_same
  · rcases List.mem_append.mp hp with hp | hp
    · exact h.lis.frs p (List.mem_append_left _ hp)
    · rw [List.mem_singleton.mp hp]; exact h.lis.frs (a, xs) hm
section
variable {P : Program} {w : World} {K : PySem.W.Frag} {mg : Str → Option Value} {base : Heap} {A : Adr}
def spFlow : Sp := fun vs H Q _ => ∃ (bl : Addr) (bs : List Int) (g ins : Int), vs = [.ref bl, .int g, .int ins] ∧ H bl = some (.lst (bs.map V.int)) ∧ bs.length ≤ 40 ∧
  ∀ (la : Addr) (ls : List (Addr × List Nat)) (H' : Hp), Lns H H' la ls → ls.map (·.2) = flw g ins bs → Q (.ref la) H'
seal PE PS PSs PA PT PI PG in
theorem ok_flow_lines (T : Txt K mg A) : FnOk P w K mg base CX0 1 A.f_flow_lines A.d_flow_lines P_flow_lines spFlow := by
  refine T.F_flow_lines.ok sc_flow_lines (fun vs H Q E h => ?_) (fun cdv B outer s H vs Q E hr h => ?_)
  · obtain ⟨bl, bs, g, ins, rfl, _⟩ := h; rfl
  obtain ⟨bl, bs, g, ins, rfl, hb, h40, q⟩ := h
  refine ⟨_, @pss_cons _ _ _ _ _ (ps_set (i := 3) sc_flow_lines.nd rfl (Or.inl rfl) (pe_lst pa_nil))
    (@pss_cons _ _ _ _ _ (ps_set (i := 4) sc_flow_lines.nd rfl (Or.inl rfl) pe_int)
    (@pss_cons _ _ _ _ _ (ps_for PassesOwn.never rfl (pi_enum rfl T.n_enumerate (pa_cons (pv 0) pa_nil)) (pg_tup rfl (pgs_cons (pg_name (i := 5) sc_flow_lines.nd rfl (Or.inl rfl)) (pgs_cons (pg_name (i := 6) sc_flow_lines.nd rfl (Or.inl rfl)) pgs_nil))) (@pss_cons _ _ _ _ _ (ps_set (i := 4) sc_flow_lines.nd rfl (Or.inl rfl) (pe_op op_add (pe_op op_add (pv 4) (pv 1)) (pv 6)))
    (@pss_cons _ _ _ _ _ (ps_if (PW.pt (pw_or (pt_not (pt_truth (pv 3) (fun _ => rfl))) (pw_or1 (pt_cmpR op_gt (pv 4) (pv 2) (nomark _))))) (@pss_cons _ _ _ _ _ (ps_expr (pe_bm PySem.F.plainAttrs_list PySem.F.slot_list_append PySem.F.type_list_append mt_append (pv 3) (pa_cons (pe_lst pa_nil) pa_nil)))
    (pss_one (ps_set (i := 4) sc_flow_lines.nd rfl (Or.inl rfl) (pv 6)))) pss_nil)
    (pss_one (ps_expr (pe_bm PySem.F.plainAttrs_list PySem.F.slot_list_append PySem.F.type_list_append mt_append (pe_ix ix_list (pv 3) (pe_un un_neg pe_int) (fun _ _ => rfl)) (pa_cons (pv 5) pa_nil)))))))
    (pss_one (ps_ret (pv 3))))), ?_⟩
  refine ⟨small (by simp), fun la hla => ?_⟩
  have L0 : Lns H (upd H la (.lst [])) la [] := (Lis.nil (.refl _)).lns hla
  generalize upd H la (.lst []) = H0 at L0 ⊢
  refine ⟨_, rfl, bl, _, rfl, .of (L0.lis.same _ _ hb), for_any bs.length (fun i σ H' => ∃ (ls : List (Addr × List Nat)) (e : Int) (v5 v6 : Option V), σ = [some (.ref bl), some (.int g), some (.int ins), some (.ref la), some (.int e), v5, v6] ∧ Lns H H' la ls ∧ flwS g ins (bs.take i) = (ls.map (·.2), e, i) ∧ ls.length ≤ i ∧ ∀ p ∈ ls, p.2.length ≤ i)
    ⟨[], 0, none, none, rfl, L0, rfl, Nat.le_refl _, fun p h => (nomatch h)⟩ ?_ ?_ ?_ ?_⟩
  · rintro i σ H' hi ⟨ls, e, v5, v6, rfl, L, _⟩
    exact ⟨_, _, .of (L.lis.same _ _ hb), List.getElem?_eq_getElem (by rw [List.length_map]; exact hi)⟩
  · rintro σ H' ⟨ls, e, v5, v6, rfl, L, _⟩
    exact ⟨_, .of (L.lis.same _ _ hb), by rw [List.length_map]; exact Nat.le_refl _⟩
  · rintro i x σ H1 H' hi ⟨ls, e, v5, v6, rfl, L, ef, hll, hlp⟩ ⟨tt, y, rfl, ht, rfl, hy⟩
    have hy' := hy _ (.of (L.lis.same _ _ hb))
    rw [List.getElem?_map, List.getElem?_eq_getElem hi] at hy'
    have hbi : bs[i]? = some bs[i] := List.getElem?_eq_getElem hi
    generalize bs[i] = b at hy' hbi
    cases hy'
    have L1 := L.grow (same_upd ht (.tup [.int i, .int b]))
    refine ⟨tt, _, rfl, .of upd_same, rfl, _, _, rfl, _, _, rfl, rfl, ?_⟩
    generalize upd H1 tt (.tup [.int i, .int b]) = H2 at L1 ⊢
    refine ⟨_, rfl, _, rfl, _, _, rfl, rfl, _, rfl, _, _, rfl, rfl, ?_⟩
    dsimp only [gName]
    show tSeq _ _ _ [some (.ref bl), some (.int g), some (.int ins), some (.ref la), some (.int (e + g + b)), some (.int i), some (.int b)] H2
    have st : flwS g ins (bs.take (i + 1)) = fstep g ins (ls.map (·.2), e, i) b := by rw [take_snoc hbi, flwS_snoc, ef]
    refine seq_joinI (fun σ' H' => ∃ (l0 : List (Addr × List Nat)) (a : Addr) (xs : List Nat) (e2 : Int), σ' = [some (.ref bl), some (.int g), some (.int ins), some (.ref la), some (.int e2), some (.int i), some (.int b)] ∧ Lns H H' la (l0 ++ [(a, xs)]) ∧ fstep g ins (ls.map (·.2), e, i) b = ((l0.map (·.2)) ++ [xs ++ [i]], e2, i + 1) ∧ l0.length ≤ i ∧ xs.length ≤ i ∧ ∀ p ∈ l0, p.2.length ≤ i) (fun N hN => ?_) ?_
    · refine if_join (fun c H' => H' = H2 ∧ (c = true → ls.map (·.2) = [] ∨ e + g + b > ins) ∧ (c = false → ¬ (ls.map (·.2) = [] ∨ e + g + b > ins))) (fun k hk => ?_) ?_ ?_
      · cases ls with
        | nil => exact ⟨_, rfl, false, .inl ⟨_, .of L1.ad, rfl⟩, iteT (hk _ _ ⟨rfl, fun _ => .inl rfl, fun z => nomatch z⟩)⟩
        | cons p r =>
          refine ⟨_, rfl, true, .inl ⟨_, .of L1.ad, rfl⟩, iteF ⟨_, rfl, _, rfl, _, _, rfl, rfl, _, rfl, hk _ _ ⟨rfl, fun z => .inr (of_decide_eq_true z), fun z w => ?_⟩⟩⟩
          rcases w with w | w
          · exact nomatch w
          · exact absurd w (of_decide_eq_false z)
      · rintro _ ⟨rfl, hc, _⟩
        refine ⟨_, rfl, .inl ⟨rfl, _, .of L1.ad⟩, small (by simp), fun a ha => ⟨la, _, _, rfl, rfl, same_upd ha _ _ _ L1.ad, by rw [List.length_map]; exact small1000 (by omega), ⟨_, rfl, hN _ _ ⟨ls, a, [], b, rfl, L1.push ha, ?_, hll, Nat.zero_le _, hlp⟩⟩⟩⟩
        unfold fstep; rw [if_pos (hc rfl)]; rfl
      · rintro _ ⟨rfl, _, hc⟩
        have hc' := hc rfl
        rcases List.eq_nil_or_concat ls with eg | ⟨l0, p, eg⟩
        · exact absurd (.inl (by rw [eg]; rfl)) hc'
        · rw [List.concat_eq_append] at eg
          obtain ⟨a, xs⟩ := p
          rw [eg] at L1 hll
          refine hN _ _ ⟨l0, a, xs, e + g + b, rfl, L1, ?_, by rw [List.length_append] at hll; omega, hlp (a, xs) (by rw [eg]; simp), fun p hp => hlp p (by rw [eg]; exact List.mem_append_left _ hp)⟩
          unfold fstep; rw [if_neg hc', eg, List.map_append]
          show (((l0.map (·.2)) ++ [xs]).dropLast ++ [((l0.map (·.2)) ++ [xs]).getLastD [] ++ [i]], _, _) = _
          rw [List.dropLast_concat, List.getLastD_concat]
    rintro σ' H3 ⟨l0, a, xs, e2, rfl, L3, es, h0, hx, hp0⟩
    have ha := L3.lis.at_ (a, xs) (List.mem_append_right _ (by simp))
    have hd := L3.ad
    rw [List.map_append] at hd
    refine ⟨_, rfl, _, rfl, la, _, _, _, rfl, rfl, .of hd, atI_last _ _, .inl ⟨rfl, _, .of ha⟩, _, rfl, a, _, _, rfl, rfl, ha, by rw [List.length_map]; exact small1000 (by show xs.length ≤ 1000; omega), ?_⟩
    have L4 := L3.app i
    refine ⟨l0 ++ [(a, xs ++ [i])], e2, _, _, rfl, ?_, by rw [st, es, List.map_append]; rfl, by rw [List.length_append]; simp; omega, fun p hp => ?_⟩
    rotate_left
    · rcases List.mem_append.mp hp with hp | hp
      · have := hp0 p hp; omega
      · rw [List.mem_singleton.mp hp]; show (xs ++ [i]).length ≤ i + 1; rw [List.length_append]; simp; omega
    have en : nV xs ++ [V.int i] = nV (xs ++ [i]) := by unfold nV; rw [List.map_append]; rfl
    rw [en]; exact L4
  · rintro σ H' ⟨ls, e, v5, v6, rfl, L, ef, _⟩
    rw [List.take_length] at ef
    exact ⟨_, rfl, q la ls H' L (by unfold flw; rw [ef])⟩
end
end KP

set_option linter.all false
set_option maxHeartbeats 4000000
set_option maxRecDepth 100000
namespace KP
open PySem L2 PyProof.Rows
theorem b_range : bootBuiltins "range" = some (.type "range") := by decide +kernel
def chunk (n lo g : Nat) : List Nat := ((List.range n).drop (min lo n)).take (min (lo + g) n - min lo n)
theorem chunk_cut (n lo g : Nat) : cutV (nV (List.range n)) (some (lo : Int)) (some ((lo + g : Nat) : Int)) = nV (chunk n lo g) := by
  unfold cutV chunk nV
  rw [HT.sIx_nat, HT.sIx_nat, List.map_take, List.map_drop, List.length_map, List.length_range]
/-- a box's lines -/
def lnsOf (f : Str → Sh) (nv : Str → Int × Int) (b : Bt) (wide : Int) : List (List Nat) :=
  if b.ks.length = 0 then []
  else if b.k = "column" then (List.range b.ks.length).map fun i => [i]
  else if b.k = "grid" then (List.range (cnt3 0 b.ks.length (more1 b.m))).map fun j => chunk b.ks.length (j * (more1 b.m).toNat) (more1 b.m).toNat
  else if b.k = "flow" then flw (f b.n).gap (insd (f b.n) wide) (b.ks.map fun c => (partOf f nv b wide c).1)
  else [List.range b.ks.length]
theorem Lis.back {H H1 H' : Hp} {ls : List (Addr × List Nat)} (h : Lis H1 H' ls) (s : Same H H1) : Lis H H' ls := ⟨s.trans h.same, h.at_, fun p hp => same_none s (h.frs p hp), h.nd⟩
theorem Lns.back {H H1 H' : Hp} {la : Addr} {ls : List (Addr × List Nat)} (h : Lns H1 H' la ls) (s : Same H H1) : Lns H H' la ls := ⟨h.lis.back s, h.ad, same_none s h.fr, h.new⟩
theorem cnt3_le {n : Nat} {g : Int} (hg : 1 ≤ g) : cnt3 0 n g ≤ n := by
  unfold cnt3 Builtin.Range.rangeSize
  rw [if_pos (by omega)]
  split
  · have : ((n : Int) - 0 - 1) / g ≤ (n : Int) - 0 - 1 := Int.ediv_le_self _ (by omega)
    omega
  · omega
section
variable {P : Program} {w : World} {K : PySem.W.Frag} {mg : Str → Option Value} {base : Heap} {A : Adr}
def spLines : Sp := fun vs H Q _ => ∃ (b : Bt) (sd nd : Addr) (ns nms : List Str) (f : Str → Sh) (g : Str → Addr) (nv : Str → Int × Int) (wide : Int), vs = [.ref b.a, .ref sd, .ref nd, .int wide] ∧ Bk H sd ns f b ∧ Kd H nd nms g nv b ∧
  ∀ (la : Addr) (ls : List (Addr × List Nat)) (H' : Hp), Lns H H' la ls → ls.map (·.2) = lnsOf f nv b wide → Q (.ref la) H'
abbrev sc_lines_of_0 : Scope := (match defBody s_lines_of with | _ :: _ :: _ :: (.If _ ((.Return (some (.ListComp _ _ sc _)) _) :: _) _ _) :: _ => sc | _ => defScope s_lines_of)
theorem blk_lines_of_0 : Blk (defScope s_lines_of) N_lines_of sc_lines_of_0 ["place"] [] := ⟨rfl, by decide +kernel, by decide +kernel, by decide +kernel, by decide +kernel⟩
theorem nd_lines_of_0 : (capN N_lines_of ["place"] []).Nodup := by decide +kernel
abbrev sc_lines_of_1 : Scope := (match defBody s_lines_of with | _ :: _ :: _ :: _ :: (.If _ ((.Return (some (.ListComp _ _ sc _)) _) :: _) _ _) :: _ => sc | _ => defScope s_lines_of)
theorem blk_lines_of_1 : Blk (defScope s_lines_of) N_lines_of sc_lines_of_1 ["at"] [0, 5] := ⟨rfl, by decide +kernel, by decide +kernel, by decide +kernel, by decide +kernel⟩
theorem nd_lines_of_1 : (capN N_lines_of ["at"] [0, 5]).Nodup := by decide +kernel
abbrev sc_lines_of_2 : Scope := (match defBody s_lines_of with | _ :: _ :: _ :: _ :: _ :: (.If _ (_ :: (.Assign _ (.ListComp _ _ sc _) _) :: _) _ _) :: _ => sc | _ => defScope s_lines_of)
theorem blk_lines_of_2 : Blk (defScope s_lines_of) N_lines_of sc_lines_of_2 ["part"] [] := ⟨rfl, by decide +kernel, by decide +kernel, by decide +kernel, by decide +kernel⟩
theorem nd_lines_of_2 : (capN N_lines_of ["part"] []).Nodup := by decide +kernel
seal PE PS PSs PA PT PI PG in
theorem ok_lines_of (T : Txt K mg A) : FnOk P w K mg base CX0 6 A.f_lines_of A.d_lines_of P_lines_of spLines := by
  have G_parts_in : FnOk P w K mg base CX0 5 A.f_parts_in A.d_parts_in P_parts_in spPartsIn := ok_parts_in T
  have G_flow_lines : FnOk P w K mg base CX0 5 A.f_flow_lines A.d_flow_lines P_flow_lines spFlow := (ok_flow_lines T).mono (by omega)
  have G_inside_of : FnOk P w K mg base CX0 5 A.f_inside_of A.d_inside_of P_inside_of spInside := (ok_inside_of T).mono (by omega)
  refine T.F_lines_of.ok sc_lines_of (fun vs H Q E h => ?_) (fun cdv B outer s H vs Q E hr h => ?_)
  · obtain ⟨b, sd, nd, ns, nms, f, g, nv, wide, rfl, _⟩ := h; rfl
  obtain ⟨b, sd, nd, ns, nms, f, g, nv, wide, rfl, bk, kd, q⟩ := h
  refine ⟨_, @pss_cons _ _ _ _ _ (ps_set (i := 4) sc_lines_of.nd rfl (Or.inl rfl) (pe_callB call_len_seq rfl T.n_len b_len (pa_cons (pe_ix ix_tup (pv 0) pe_int (fun _ _ => rfl)) pa_nil)))
    (@pss_cons _ _ _ _ _ (ps_set (i := 5) sc_lines_of.nd rfl (Or.inr rfl) (pe_callTy (call_listRng rfl) rfl T.n_list b_list (pa_cons (pe_callTy call_rng rfl T.n_range b_range (pa_cons (pv 4) pa_nil)) pa_nil)))
    (@pss_cons _ _ _ _ _ (ps_if (pt_cmpR op_eq (pv 4) pe_int (nomark _)) (pss_one (ps_ret (pe_lst pa_nil))) pss_nil)
    (@pss_cons _ _ _ _ _ (ps_if (pt_cmpR op_eq (pe_ix ix_tup (pv 0) pe_int (fun _ _ => rfl)) pe_str (nomark _)) (pss_one (ps_ret (pe_comp blk_lines_of_0 rfl (pi_seq (pv 5)) (fun _ _ _ _ _ => pg_name (i := 0) nd_lines_of_0 rfl (.inl rfl)) (fun _ _ _ _ _ => pif_nil) (fun _ _ _ _ _ => pe_lst (pa_cons (pv 0) pa_nil))))) pss_nil)
    (@pss_cons _ _ _ _ _ (ps_if (pt_cmpR op_eq (pe_ix ix_tup (pv 0) pe_int (fun _ _ => rfl)) pe_str (nomark _)) (pss_one (ps_ret (pe_comp blk_lines_of_1 rfl (pi_range3 rfl T.n_range (pa_cons pe_int (pa_cons (pv 4) (pa_cons (pe_ix ix_tup (pv 0) pe_int (fun _ _ => rfl)) pa_nil)))) (fun _ _ _ _ _ => pg_name (i := 0) nd_lines_of_1 rfl (.inl rfl)) (fun _ _ _ _ _ => pif_nil) (fun _ _ _ _ _ => pe_slice (sl_listK (K := K) rfl) (pv 2) (po_some (pv 0)) (po_some (pe_op op_add (pv 0) (pe_ix (ix_tupK (K := K) rfl) (pv 1) pe_int (fun _ _ => rfl)))))))) pss_nil)
    (@pss_cons _ _ _ _ _ (ps_if (pt_cmpR op_eq (pe_ix ix_tup (pv 0) pe_int (fun _ _ => rfl)) pe_str (nomark _)) (@pss_cons _ _ _ _ _ (ps_set (i := 6) sc_lines_of.nd rfl (Or.inl rfl) (pe_dget (hu_of hr) (pv 1) (pe_ix ix_tup (pv 0) pe_int (fun _ _ => rfl)) (fun _ _ => rfl)))
    (@pss_cons _ _ _ _ _ (ps_setComp (i := 7) blk_lines_of_2 rfl (pi_seq (pe_call G_parts_in hr rfl T.m_parts_in T.F_parts_in.kp T.b_parts_in .nil pass0 (pa_cons (pv 0) (pa_cons (pv 1) (pa_cons (pv 2) (pa_cons (pv 3) pa_nil)))))) (fun _ _ _ _ _ => pg_name (i := 0) nd_lines_of_2 rfl (.inl rfl)) (fun _ _ _ _ _ => pif_nil) (fun _ _ _ _ _ => pe_ix (ix_tupK (K := K) rfl) (pv 0) pe_int (fun _ _ => rfl)) sc_lines_of.nd rfl rfl)
    (pss_one (ps_ret (pe_call G_flow_lines hr rfl T.m_flow_lines T.F_flow_lines.kp T.b_flow_lines .nil pass0 (pa_cons (pv 7) (pa_cons (pe_dget (hu_of hr) (pv 6) pe_str (fun _ _ => rfl)) (pa_cons (pe_call G_inside_of hr rfl T.m_inside_of T.F_inside_of.kp T.b_inside_of .nil pass0 (pa_cons (pv 6) (pa_cons (pv 3) pa_nil))) pa_nil)))))))) pss_nil)
    (pss_one (ps_ret (pe_lst (pa_cons (pv 5) pa_nil))))))))), ?_⟩
  obtain ⟨tg, kt, b1, b2⟩ := bk.nd.ex
  have h40 := bk.len
  refine ⟨_, rfl, b.a, _, _, _, rfl, rfl, .of b1, rfl, kt, _, rfl, .inr (.of b2), ?_⟩
  rw [List.length_map]
  generalize hn : b.ks.length = n at h40 ⊢
  dsimp only [gName]
  show tSeq _ _ _ _ _
  refine ⟨_, rfl, _, rfl, fun r hr0 => ⟨r, n, rfl, upd_same, by omega, fun pl hpl => ?_⟩⟩
  have s1 := (same_upd hr0 (.rng 0 (n : Int))).trans (same_upd hpl (.lst (nV (List.range n))))
  have e1 : upd (upd H r (.rng 0 (n : Int))) pl (.lst (nV (List.range n))) pl = some (.lst (nV (List.range n))) := upd_same
  have fpl : H pl = none := same_none (same_upd hr0 (.rng 0 (n : Int))) hpl
  dsimp only [gName]
  generalize upd (upd H r (.rng 0 (n : Int))) pl (.lst (nV (List.range n))) = H1 at s1 e1 ⊢
  show tSeq _ _ _ [some (.ref b.a), some (.ref sd), some (.ref nd), some (.int wide), some (.int n), some (.ref pl), none, none] H1
  have b1' := s1 _ _ b1
  unfold lnsOf at q
  rw [hn] at q
  refine ⟨_, rfl, rfl, _, rfl, ite2 (fun c => ?_) (fun c => ?_)⟩
  · have n0 : n = 0 := by have e := of_decide_eq_true c; injection e with e; omega
    rw [if_pos n0] at q
    exact ⟨small (by simp), fun l hl => q l [] _ ((Lis.nil s1).lns hl) rfl⟩
  have n0 : ¬ n = 0 := fun e => c (decide_eq_true (by rw [e]; rfl))
  rw [if_neg n0] at q
  clear c
  refine ⟨_, rfl, b.a, _, _, _, rfl, rfl, .of b1', rfl, rfl, _, rfl, ite2 (fun c => ?_) (fun c => ?_)⟩
  · have ek : b.k = "column" := by have e := of_decide_eq_true c; injection e
    rw [if_pos ek] at q
    refine ⟨_, rfl, pl, rfl, .inl ⟨⟨_, .of e1⟩, blk_list (xs := nV (List.range n)) (fun i acc H' => ∃ ls : List (Addr × List Nat), acc = ls.map (fun p => V.ref p.1) ∧ Lis H H' ls ∧ ls.map (·.2) = (List.range i).map (fun i => [i]) ∧ i ≤ n ∧ H' pl = some (.lst (nV (List.range n))))
      ⟨[], rfl, .nil s1, rfl, Nat.zero_le _, e1⟩ (fun i acc H' ⟨_, _, _, _, _, e⟩ => .of e) (fun i acc H' ⟨ls, ea, _, el, hi, _⟩ => ?_) (fun i x acc H' R k hx z => ?_) fun acc H' z => ?_⟩⟩
    · have := congrArg List.length el
      rw [List.length_map, List.length_map, List.length_range] at this
      rw [ea, List.length_map, this]; exact small1000 (by omega)
    · obtain ⟨ls, rfl, L, el, hi, ep⟩ := z
      have hin : i < n := by
        have := (List.getElem?_eq_some_iff.mp hx).1
        rwa [List.length_map, List.length_range] at this
      have ex : x = .int i := by rw [List.getElem?_map, List.getElem?_range hin] at hx; cases hx; rfl
      subst ex
      dsimp only [tYes]; rw [if_pos rfl]
      refine ⟨_, rfl, small (by simp), fun a ha => k _ _ ⟨ls ++ [(a, [i])], by rw [List.map_append]; rfl, L.snoc [i] ha, by rw [List.map_append, el, List.range_succ, List.map_append]; rfl, hin, same_upd ha _ _ _ ep⟩⟩
    · obtain ⟨ls, rfl, L, el, hi, ep⟩ := z
      rw [List.length_map, List.length_range] at el
      exact fun l hl => q l ls _ (L.lns hl) el
  have nc : b.k ≠ "column" := fun e => c (decide_eq_true (by rw [e]))
  rw [if_neg nc] at q
  clear c
  dsimp only [tNext]
  refine ⟨_, rfl, b.a, _, _, _, rfl, rfl, .of b1', rfl, rfl, _, rfl, ite2 (fun c => ?_) (fun c => ?_)⟩
  · have ek : b.k = "grid" := by have e := of_decide_eq_true c; injection e
    rw [if_pos ek] at q
    obtain ⟨i, ei, i1, i9⟩ := bk.nd.mo.gr ek
    have em : more1 b.m = i := by rw [ei]; rfl
    rw [em] at q
    obtain ⟨gn, rfl⟩ := Int.eq_ofNat_of_zero_le (show 0 ≤ i by omega)
    rw [Int.toNat_natCast] at q
    rw [ei] at b1'
    have hc := cnt3_le (n := n) i1
    refine ⟨_, rfl, _, rfl, b.a, _, _, _, rfl, rfl, .of b1', rfl, 0, n, gn, rfl, ⟨by omega, by omega, by omega, by omega, by omega⟩, ?_⟩
    refine blk_any (cnt3 0 n gn) (fun j acc H' => ∃ ls : List (Addr × List Nat), acc = ls.map (fun p => V.ref p.1) ∧ Lis H H' ls ∧ ls.map (·.2) = (List.range j).map (fun j => chunk n (j * gn) gn) ∧ j ≤ n ∧ H' pl = some (.lst (nV (List.range n))) ∧ Same H1 H')
      ⟨[], rfl, .nil s1, rfl, Nat.zero_le _, e1, .refl _⟩ (fun i acc H' ⟨ls, ea, _, el, hi, _⟩ => ?_) (fun i acc H' hi _ => hi) (fun acc H' _ => Nat.le_refl _) (fun j x acc H' H3 R k hj z yl => ?_) fun acc H' z => ?_
    · have := congrArg List.length el
      rw [List.length_map, List.length_map, List.length_range] at this
      rw [ea, List.length_map, this]; exact small1000 (by omega)
    · obtain ⟨ls, rfl, L, el, hi, ep, s2⟩ := z
      obtain ⟨rfl, rfl⟩ := yl
      refine ⟨wk_one _ _ _ _, ?_⟩
      dsimp only [tYes]; rw [if_pos rfl]
      have e3 : (0 + (j : Int) * (gn : Int)) = ((j * gn : Nat) : Int) := by rw [Int.zero_add, Int.natCast_mul]
      refine ⟨_, rfl, _, rfl, _, rfl, _, rfl, _, rfl, b.a, _, _, _, rfl, rfl, .of (s2 _ _ b1'), rfl, _, _, rfl, rfl, _, rfl, pl, _, rfl, .of ep, fun p hp => ?_⟩
      have e4 : cutV (nV (List.range n)) (some (0 + (j : Int) * (gn : Int))) (some (0 + (j : Int) * (gn : Int) + (gn : Int))) = nV (chunk n (j * gn) gn) := by
        rw [← chunk_cut, e3, Int.natCast_add]
      rw [e4]
      exact k _ _ ⟨ls ++ [(p, chunk n (j * gn) gn)], by rw [List.map_append]; rfl, L.snoc _ hp, by rw [List.map_append, el, List.range_succ, List.map_append]; rfl, by omega, same_upd hp _ _ _ ep, s2.trans (same_upd hp _)⟩
    · obtain ⟨ls, rfl, L, el, hi, ep, s2⟩ := z
      exact fun l hl => q l ls _ (L.lns hl) el
  have ng : b.k ≠ "grid" := fun e => c (decide_eq_true (by rw [e]))
  rw [if_neg ng] at q
  clear c
  dsimp only [tNext]
  have bk1 := bk.same s1
  have kd1 := kd.same s1
  refine ⟨_, rfl, b.a, _, _, _, rfl, rfl, .of b1', rfl, rfl, _, rfl, ite2 (fun c => ?_) (fun c => ?_)⟩
  · have ek : b.k = "flow" := by have e := of_decide_eq_true c; injection e
    rw [if_pos ek] at q
    have hs := bk1.sh.at_ _ bk.own
    refine ⟨_, rfl, _, rfl, b.a, _, _, _, rfl, rfl, .of b1', rfl, sd, _, rfl, bk1.sh.get bk.own, ?_⟩
    dsimp only [gName]
    refine ⟨_, rfl, _, rfl, _, rfl, _, rfl, b, sd, nd, ns, nms, f, g, nv, wide, rfl, bk1, kd1, fun l ps H2 fl s2 e2 hp em => ⟨l, rfl, blk_map (fun p : Addr × Pt => V.int p.2.1) (fun p => V.ref p.1) (.inl (.of e2)) (small1000 ?_) (fun p h Q hQ => ⟨_, rfl, p.1, _, _, _, rfl, rfl, .of (hp p h), rfl, hQ⟩) fun l2 hl2 => ?_⟩⟩
    · have := congrArg List.length em
      rw [List.length_map, List.length_map] at this; omega
    have s3 := same_upd hl2 (.lst (ps.map fun p => V.int p.2.1))
    have eb : ps.map (fun p => V.int p.2.1) = (b.ks.map fun c => (partOf f nv b wide c).1).map V.int := by
      have e5 : ps.map (fun p => V.int p.2.1) = (ps.map (·.2)).map fun x : Pt => V.int x.1 := by rw [List.map_map]; rfl
      rw [e5, em, List.map_map, List.map_map]; rfl
    have s13 := s1.trans (s2.trans s3)
    have hs3 := hs.same (s2.trans s3)
    refine ⟨_, rfl, _, rfl, (f b.n).d, _, rfl, dget_s hs3.shp.ad hs3.gap, _, rfl, _, rfl, f b.n, wide, rfl, hs3, l2, b.ks.map (fun c => (partOf f nv b wide c).1), (f b.n).gap, insd (f b.n) wide, rfl, by rw [upd_same, eb], by rw [List.length_map]; omega, fun la ls H' L el => q la ls H' (L.back s13) el⟩
  have nf : b.k ≠ "flow" := fun e => c (decide_eq_true (by rw [e]))
  rw [if_neg nf] at q
  dsimp only [tNext]
  refine ⟨_, rfl, small (by simp), fun l hl => ?_⟩
  have L1 : Lis H H1 [(pl, List.range n)] := ⟨s1, fun p hp => by rw [List.mem_singleton.mp hp]; exact e1, fun p hp => by rw [List.mem_singleton.mp hp]; exact fpl, by simp⟩
  exact q l [(pl, List.range n)] _ (L1.lns hl) rfl
end
end KP

set_option linter.all false
set_option maxHeartbeats 4000000
set_option maxRecDepth 100000
namespace L2
open PySem PySem.W PySem.Spec PySem.Calls PyProof.Rows
theorem mem_look {x : Str} {k : NameKind} : ∀ {names : List (Str × NameKind)}, names.lookup x = some k → (x, k) ∈ names
  | [], h => by simp at h
  | (n, k') :: r, h => by
    rw [List.lookup_cons] at h
    cases e : x == n with
    | true => rw [e] at h; cases h; rw [eq_of_beq e]; exact List.mem_cons_self ..
    | false => rw [e] at h; exact List.mem_cons_of_mem _ (mem_look h)
/-- a block within a block -/
theorem Blk.re {sc sc' : Scope} {N own : List Str} {cap : List Nat} {env : Env} (B : Blk sc N sc' own cap) (nc : ∀ y ∈ sc.names, y.2 ≠ .cell) : Blk (relabel sc env) N sc' own cap where
  kind := B.kind
  nocell := B.nocell
  names := B.names
  free := fun y hy e => by
    rcases B.free y hy e with h | h
    · exact absurd rfl (nc _ (mem_look h))
    · exact lookup_relabel_free h
  capf := B.capf
section
variable {X : Cx} {tg : Expr} {K : PySem.W.Frag}
theorem pi_seqK (e : X.K = K) {l : Expr} {tl : TE} (hl : PE X l tl) : PI X tg l (iSeq K tl) := by subst e; exact pi_seq hl
theorem call_maxLK (e : X.K = K) (hc : X.calm = true) : CallR X (.builtin "max") (fun xs H Q => ∃ (p : Addr) (ns : List Int), xs = [.ref p] ∧ SqL K H p (ns.map V.int) ∧ 0 < ns.length ∧ ∀ M, M ∈ ns → (∀ a ∈ ns, a ≤ M) → Q (.int M) H) := by subst e; exact call_maxL hc
end
end L2

set_option linter.all false
set_option maxHeartbeats 4000000
set_option maxRecDepth 100000
namespace KP
open PySem L2 PyProof.Rows
open WM (bl)
/-- the rows that a text is broken into -/
def bstep (wide : Int) (rows : List Str) (w : Str) : List Str := match rows.getLast? with
  | some r => if (r.length : Int) + 1 + (w.length : Int) ≤ wide then rows.dropLast ++ [r ++ bl ++ w] else rows ++ [w]
  | none => rows ++ [w]
def brk (z : Str) (wide : Int) : List Str := if V.str z = V.str (Str.ofString "") then [] else (Txt.split z bl).foldl (bstep wide) []
def wsum (l : List Str) : Nat := (l.map fun w => w.length + 1).sum
theorem wsum_snoc (l : List Str) (w : Str) : wsum (l ++ [w]) = wsum l + w.length + 1 := by unfold wsum; rw [List.map_append, List.sum_append]; simp; omega
theorem wsum_take (l : List Str) (i : Nat) : wsum (l.take i) ≤ wsum l := by
  have : wsum l = wsum (l.take i) + wsum (l.drop i) := by
    unfold wsum
    rw [← List.sum_append, ← List.map_append, List.take_append_drop]
  omega
theorem wsum_split (z : Str) : wsum (Txt.split z bl) = z.length + 1 := by
  have h2 := J_len_eq (split_ne z)
  have h3 : (WM.J (Txt.split z bl)).length = z.length := by
    have : WM.J (Txt.split z bl) = z := StrLaws.join_split z bl
    rw [this]
  have : ∀ l : List Str, wsum l = (l.map (·.length)).sum + l.length := fun l => by
    induction l with
    | nil => rfl
    | cons x r ih => unfold wsum at ih ⊢; rw [List.map_cons, List.sum_cons, ih, List.map_cons, List.sum_cons, List.length_cons]; omega
  rw [this]; omega
theorem same_set {H H' : Hp} {l : Addr} (s : Same H H') (h : H l = none) (o : HO) : Same H (upd H' l o) := fun b u e => by rw [upd_ne (ne_of_none e h)]; exact s b u e
section
variable {P : Program} {w : World} {K : PySem.W.Frag} {mg : Str → Option Value} {base : Heap} {A : Adr}
def spBrk : Sp := fun vs H Q _ => ∃ (z : Str) (wide : Int), vs = [.str z, .int wide] ∧ z.length ≤ 80 ∧
  ∀ (l : Addr) (H' : Hp), Same H H' → H l = none → H' l = some (.lst ((brk z wide).map V.str)) → (brk z wide).length ≤ 81 → Q (.ref l) H'
seal PE PS PSs PA PT PI PG in
theorem ok_broken (T : Txt K mg A) : FnOk P w K mg base CX0 1 A.f_broken A.d_broken P_broken spBrk := by
  refine T.F_broken.ok sc_broken (fun vs H Q E h => ?_) (fun cdv B outer s H vs Q E hr h => ?_)
  · obtain ⟨z, wide, rfl, _⟩ := h; rfl
  obtain ⟨z, wide, rfl, hz, q⟩ := h
  refine ⟨_, @pss_cons _ _ _ _ _ (ps_set (i := 2) sc_broken.nd rfl (Or.inl rfl) (pe_lst pa_nil))
    (@pss_cons _ _ _ _ _ (ps_if (pt_cmpR op_eq (pv 0) pe_str (nomark _)) (pss_one (ps_ret (pv 2))) pss_nil)
    (@pss_cons _ _ _ _ _ (ps_for PassesOwn.never rfl (pi_list (pe_bm PySem.F.plainAttrs_str PySem.F.slot_str_split PySem.F.type_str_split mt_split (pv 0) (pa_cons pe_str pa_nil))) (pg_name (i := 3) sc_broken.nd rfl (Or.inl rfl)) (pss_one (ps_if (PW.pt (pw_and (pt_truth (pv 2) (fun _ => rfl)) (pw_and1 (pt_cmpR op_le (pe_op op_add (pe_op op_add (pe_callB call_len_str rfl T.n_len b_len (pa_cons (pe_ix ix_list (pv 2) (pe_un un_neg pe_int) (fun _ _ => rfl)) pa_nil)) pe_int) (pe_callB call_len_str rfl T.n_len b_len (pa_cons (pv 3) pa_nil))) (pv 1) (nomark _))))) (pss_one (ps_asg (pe_op op_add_str (pe_op op_add_str (pe_ix ix_list (pv 2) (pe_un un_neg pe_int) (fun _ _ => rfl)) pe_str) (pv 3)) (pg_sub (pv 2) (pe_un un_neg pe_int) set_list))) (pss_one (ps_expr (pe_bm PySem.F.plainAttrs_list PySem.F.slot_list_append PySem.F.type_list_append mt_append (pv 2) (pa_cons (pv 3) pa_nil)))))))
    (pss_one (ps_ret (pv 2))))), ?_⟩
  refine ⟨small (by simp), fun rl hrl => ?_⟩
  have k1 := same_upd hrl (.lst [])
  have e1 : upd H rl (.lst []) rl = some (.lst []) := upd_same
  generalize upd H rl (.lst []) = H1 at k1 e1 ⊢
  unfold brk at q
  refine ⟨_, rfl, rfl, _, rfl, ite2 (fun c => ?_) (fun c => ?_)⟩
  · have c' := of_decide_eq_true c
    rw [if_pos c'] at q
    exact ⟨_, rfl, q rl H1 k1 hrl e1 (by decide)⟩
  have c' : ¬ V.str z = V.str (Str.ofString "") := fun e => c (decide_eq_true e)
  rw [if_neg c'] at q
  have hsl := split_len z
  have hws := wsum_split z
  refine ⟨_, rfl, rfl, z, bl, rfl, rfl, (by rw [bl1]; rfl), by omega, by omega, fun sl hsl0 => ?_⟩
  generalize Txt.split z bl = ws at hsl hws q hsl0 ⊢
  have k2 := same_upd hsl0 (.lst (ws.map V.str))
  have nsl : sl ≠ rl := fun z => by rw [z, e1] at hsl0; cases hsl0
  refine ⟨sl, rfl, ⟨_, .of upd_same⟩, for_list (K := K) (a := sl) (xs := ws.map V.str)
    (fun i σ H' => ∃ (v3 : Option V), σ = [some (.str z), some (.int wide), some (.ref rl), v3] ∧ Same H H' ∧ H' rl = some (.lst (((ws.take i).foldl (bstep wide) []).map V.str)) ∧ H' sl = some (.lst (ws.map V.str)) ∧ ((ws.take i).foldl (bstep wide) []).length ≤ i ∧ ∀ r ∈ (ws.take i).foldl (bstep wide) [], r.length ≤ wsum (ws.take i))
    ⟨none, rfl, k1.trans k2, k2 _ _ e1, upd_same, Nat.le_refl _, fun r h => (by simp at h)⟩ (fun i σ H' _ ⟨_, _, _, _, e, _⟩ => .of e) ?_ ?_⟩
  · rintro i x σ H2 hx ⟨v3, rfl, s2, e2, esl, hlen, hrow⟩
    rw [List.getElem?_map] at hx
    cases ei : ws[i]? with
    | none => rw [ei] at hx; cases hx
    | some wd =>
      rw [ei] at hx
      cases hx
      have etk := take_snoc ei
      have h1 := wsum_take ws i
      have h2 := wsum_take ws (i + 1)
      have h3 : wsum (ws.take (i + 1)) = wsum (ws.take i) + wd.length + 1 := by rw [etk, wsum_snoc]
      have hil : i < ws.length := (List.getElem?_eq_some_iff.mp ei).1
      have efo : (ws.take (i + 1)).foldl (bstep wide) [] = bstep wide ((ws.take i).foldl (bstep wide) []) wd := by rw [etk, List.foldl_append]; rfl
      rw [efo]
      generalize (ws.take i).foldl (bstep wide) [] = rows at e2 hlen hrow ⊢
      have app : ∀ (H' : Hp), Same H H' → H' rl = some (.lst ((rows ++ [wd]).map V.str)) → H' sl = some (.lst (ws.map V.str)) → bstep wide rows wd = rows ++ [wd] → ∃ (v3' : Option V), [some (V.str z), some (.int wide), some (.ref rl), some (.str wd)] = [some (.str z), some (.int wide), some (.ref rl), v3'] ∧ Same H H' ∧ H' rl = some (.lst ((bstep wide rows wd).map V.str)) ∧ H' sl = some (.lst (ws.map V.str)) ∧ (bstep wide rows wd).length ≤ i + 1 ∧ ∀ r ∈ bstep wide rows wd, r.length ≤ wsum (ws.take (i + 1)) := by
        intro H' a1 a2 a3 a4
        rw [a4]
        refine ⟨_, rfl, a1, a2, a3, by rw [List.length_append]; simp; omega, fun r hr => ?_⟩
        rcases List.mem_append.mp hr with hr | hr
        · have := hrow r hr; omega
        · rw [List.mem_singleton.mp hr]; omega
      rcases List.eq_nil_or_concat rows with eg | ⟨r0, r, eg⟩
      · subst eg
        refine ⟨_, rfl, false, .inl ⟨_, .of e2, rfl⟩, iteF ?_⟩
        refine ⟨_, rfl, .inl ⟨rfl, _, .of e2⟩, _, rfl, rl, _, _, rfl, rfl, e2, (by show 0 < sizeLine; decide), ?_⟩
        exact app _ (same_set s2 hrl _) (by rw [upd_same]; rfl) (by rw [upd_ne nsl]; exact esl) rfl
      · rw [List.concat_eq_append] at eg
        subst eg
        have hr := hrow r (by simp)
        have e2' := e2
        rw [List.map_append] at e2'
        rw [List.length_append] at hlen
        have hl0 : r0.length + 1 ≤ i := by simpa using hlen
        have egl : (r0 ++ [r]).getLast? = some r := by simp
        refine ⟨_, rfl, true, .inl ⟨_, .of e2', by simp⟩, iteT ?_⟩
        refine ⟨_, rfl, _, rfl, rl, _, _, _, rfl, rfl, .of e2', atI_last _ _, r, rfl, Nat.le_of_lt (small1000 (by omega)), _, _, rfl, rfl, _, rfl, wd, rfl, Nat.le_of_lt (small1000 (by omega)), _, _, rfl, rfl, _, rfl, _, _, rfl, rfl, _, rfl, ite2 (fun c2 => ?_) (fun c2 => ?_)⟩
        · have c2' : (r.length : Int) + 1 + (wd.length : Int) ≤ wide := of_decide_eq_true c2
          have eb : bstep wide (r0 ++ [r]) wd = r0 ++ [r ++ bl ++ wd] := by
            unfold bstep; rw [egl]; dsimp only; rw [if_pos c2', List.dropLast_concat]
          have lr : (r ++ bl ++ wd).length = r.length + 1 + wd.length := by rw [Str.length_append, Str.length_append, bl1]
          refine ⟨_, rfl, _, rfl, rl, _, _, _, rfl, rfl, .of e2', atI_last _ _, _, _, rfl, rfl, ?_, _, rfl, _, _, rfl, rfl, ?_, _, rfl, _, rfl, rl, _, _, r0.length, rfl, rfl, e2', ?_, ?_⟩
          · show r.length + bl.length ≤ sizeLine
            rw [bl1]; exact Nat.le_of_lt (small1000 (by omega))
          · show (r ++ bl).length + wd.length ≤ sizeLine
            rw [Str.length_append, bl1]; exact Nat.le_of_lt (small1000 (by omega))
          · have : (r0.map V.str ++ [V.str r]).length = r0.length + 1 := by simp
            show ixN (r0.map V.str ++ [V.str r]).length _ = _
            rw [this]
            unfold ixN
            rw [if_neg (by omega), if_pos (by omega)]
            congr 1
            omega
          · rw [eb]
            have es : (r0.map V.str ++ [V.str r]).set r0.length (.str (r ++ bl ++ wd)) = (r0 ++ [r ++ bl ++ wd]).map V.str := by
              rw [List.map_append, List.set_append_right _ _ (by rw [List.length_map]; exact Nat.le_refl _), List.length_map, Nat.sub_self]; rfl
            refine ⟨_, rfl, same_set s2 hrl _, ?_, by rw [upd_ne nsl]; exact esl, by rw [List.length_append]; simp; omega, fun r' hr' => ?_⟩
            · rw [upd_same]; exact congrArg (fun x => some (HO.lst x)) es
            · rcases List.mem_append.mp hr' with hr' | hr'
              · have := hrow r' (List.mem_append_left _ hr'); omega
              · rw [List.mem_singleton.mp hr', lr]; omega
        · have c2' : ¬ (r.length : Int) + 1 + (wd.length : Int) ≤ wide := fun z => c2 (decide_eq_true z)
          have eb : bstep wide (r0 ++ [r]) wd = r0 ++ [r] ++ [wd] := by
            unfold bstep; rw [egl]; dsimp only; rw [if_neg c2']
          refine ⟨_, rfl, .inl ⟨rfl, _, .of e2⟩, _, rfl, rl, _, _, rfl, rfl, e2, by rw [List.length_map, List.length_append]; exact small1000 (by simp; omega), ?_⟩
          exact app _ (same_set s2 hrl _) (by rw [upd_same, List.map_append (l₁ := r0 ++ [r])]; rfl) (by rw [upd_ne nsl]; exact esl) eb
  · rintro σ H2 ⟨v3, rfl, s2, e2, esl, hlen, _⟩
    rw [List.length_map, List.take_length] at e2 hlen
    exact ⟨_, rfl, q rl H2 s2 hrl e2 (by omega)⟩
/-- the natural heights of a box's kids are told in a dict -/
structure Nt (H : Hp) (nt : Addr) (nms : List Str) (hv : Str → Int) (b : Bt) : Prop where
  ad : H nt = some (.dK (nms.map fun n => (Sum.inr n, V.int (hv n))))
  mem : ∀ c ∈ b.ks, c.n ∈ nms
theorem Nt.same {H H' : Hp} {nt : Addr} {nms : List Str} {hv : Str → Int} {b : Bt} (h : Nt H nt nms hv b) (s : Same H H') : Nt H' nt nms hv b := ⟨s _ _ h.ad, h.mem⟩
theorem Nt.get {H : Hp} {nt : Addr} {nms : List Str} {hv : Str → Int} {b c : Bt} (h : Nt H nt nms hv b) (hc : c ∈ b.ks) : DGet H nt (.str c.n) (some (.int (hv c.n))) := dget_s h.ad (val_map (α := Unit) (g := fun n => V.int (hv n)) (h.mem c hc))
/-- a box with its kids -/
structure Bx (H : Hp) (b : Bt) : Prop where
  nd : Nd H b
  kid : ∀ c ∈ b.ks, Nd H c
  len : b.ks.length ≤ 40
theorem Bx.same {H H' : Hp} {b : Bt} (h : Bx H b) (s : Same H H') : Bx H' b := ⟨h.nd.same s, fun c hc => (h.kid c hc).same s, h.len⟩
abbrev hks (hv : Str → Int) (b : Bt) : List Int := b.ks.map fun c => hv c.n
def spNatIn : Sp := fun vs H Q _ => ∃ (b : Bt) (nt : Addr) (nms : List Str) (hv : Str → Int), vs = [.ref b.a, .ref nt] ∧ Bx H b ∧ Nt H nt nms hv b ∧ ∀ l, H l = none → Q (.ref l) (upd H l (.lst ((hks hv b).map V.int)))
abbrev sc_naturals_in_0 : Scope := (match defBody s_naturals_in with | (.Return (some (.ListComp _ _ sc _)) _) :: _ => sc | _ => defScope s_naturals_in)
theorem blk_naturals_in_0 : Blk (defScope s_naturals_in) N_naturals_in sc_naturals_in_0 ["kid"] [1] := ⟨rfl, by decide +kernel, by decide +kernel, by decide +kernel, by decide +kernel⟩
theorem nd_naturals_in_0 : (capN N_naturals_in ["kid"] [1]).Nodup := by decide +kernel
seal PE PS PSs PA PT PI PG in
theorem ok_naturals_in (T : Txt K mg A) : FnOk P w K mg base CX0 1 A.f_naturals_in A.d_naturals_in P_naturals_in spNatIn := by
  refine T.F_naturals_in.ok sc_naturals_in (fun vs H Q E h => ?_) (fun cdv B outer s H vs Q E hr h => ?_)
  · obtain ⟨b, nt, nms, hv, rfl, _⟩ := h; rfl
  obtain ⟨b, nt, nms, hv, rfl, bx, ht, q⟩ := h
  refine ⟨_, pss_one (ps_ret (pe_comp blk_naturals_in_0 rfl (pi_seq (pe_ix ix_tup (pv 0) pe_int (fun _ _ => rfl))) (fun _ _ _ _ _ => pg_name (i := 0) nd_naturals_in_0 rfl (.inl rfl)) (fun _ _ _ _ _ => pif_nil) (fun _ _ _ _ _ => pe_dget (hu_of hr) (pv 1) (pe_ix (ix_tupK (K := K) rfl) (pv 0) pe_int (fun _ _ => rfl)) (fun _ _ => rfl)))), ?_⟩
  obtain ⟨tg, kt, b1, b2⟩ := bx.nd.ex
  have h40 := bx.len
  refine ⟨_, rfl, b.a, _, _, _, rfl, rfl, .of b1, rfl, kt, rfl, blk_map (fun c : Bt => V.int (hv c.n)) (fun c => V.ref c.a) (.inr (.of b2)) (small1000 (by omega)) (fun c hc Q hQ => ?_) fun l hl => ?_⟩
  · obtain ⟨tg', kt', c1, c2⟩ := (bx.kid c hc).ex
    exact ⟨_, rfl, _, rfl, c.a, _, _, _, rfl, rfl, .of c1, rfl, nt, _, rfl, ht.get hc, hQ⟩
  · have := q l hl
    rw [List.map_map] at this
    exact this
/-- the tallest in a line -/
def tl (hs : List Int) (xs : List Nat) : Int := mx0 (xs.map fun i => hs.getD i 0)
def spTallest : Sp := fun vs H Q _ => ∃ (sl ll : Addr) (hs : List Int) (xs : List Nat), vs = [.ref sl, .ref ll] ∧ H sl = some (.lst (hs.map V.int)) ∧ H ll = some (.lst (nV xs)) ∧ (∀ i ∈ xs, i < hs.length) ∧ xs.length ≤ 40 ∧ ∀ H', Same H H' → Q (.int (tl hs xs)) H'
abbrev sc_tallest_0 : Scope := (match defBody s_tallest with | (.Return (some (.Call _ ((.ListComp _ _ sc _) :: _) _ _)) _) :: _ => sc | _ => defScope s_tallest)
theorem blk_tallest_0 : Blk (defScope s_tallest) N_tallest sc_tallest_0 ["place"] [0] := ⟨rfl, by decide +kernel, by decide +kernel, by decide +kernel, by decide +kernel⟩
theorem nd_tallest_0 : (capN N_tallest ["place"] [0]).Nodup := by decide +kernel
seal PE PS PSs PA PT PI PG in
theorem ok_tallest (T : Txt K mg A) : FnOk P w K mg base CX0 1 A.f_tallest A.d_tallest P_tallest spTallest := by
  refine T.F_tallest.ok sc_tallest (fun vs H Q E h => ?_) (fun cdv B outer s H vs Q E hr h => ?_)
  · obtain ⟨sl, ll, hs, xs, rfl, _⟩ := h; rfl
  obtain ⟨sl, ll, hs, xs, rfl, h1, h2, hlt, h40, q⟩ := h
  refine ⟨_, pss_one (ps_ret (pe_maxD rfl T.n_max (pe_comp blk_tallest_0 rfl (pi_seq (pv 1)) (fun _ _ _ _ _ => pg_name (i := 0) nd_tallest_0 rfl (.inl rfl)) (fun _ _ _ _ _ => pif_nil) (fun _ _ _ _ _ => pe_ix (ix_listK (K := K) rfl) (pv 1) (pv 0) (fun _ _ => rfl))) pe_int)), ?_⟩
  refine ⟨_, rfl, ll, rfl, blk_map (fun i : Nat => V.int (hs.getD i 0)) (fun i : Nat => V.int (i : Int)) (.inl (.of h2)) (small1000 (by omega)) (fun i hi Q hQ => ?_) fun l hl => ?_⟩
  · exact ⟨_, rfl, _, rfl, sl, _, _, _, rfl, rfl, .of h1, atI_int (hlt i hi), hQ⟩
  · have s1 := same_upd hl (.lst (xs.map fun i : Nat => V.int (hs.getD i 0)))
    refine ⟨l, xs.map (fun i => hs.getD i 0), rfl, .of (by rw [upd_same, List.map_map]; rfl), fun e0 => ?_, fun M hM hb => ?_⟩
    · have := q _ s1
      unfold tl at this
      rw [e0] at this
      exact this
    · have := q _ s1
      unfold tl at this
      rw [mx0_eq hM hb] at this
      exact this
end
end KP

set_option linter.all false
set_option maxHeartbeats 4000000
set_option maxRecDepth 100000
namespace KP
open PySem L2 PyProof.Rows
/-- lines in the heap, of places below n -/
structure Lv (H : Hp) (la : Addr) (ls : List (Addr × List Nat)) (n : Nat) : Prop where
  ad : H la = some (.lst (ls.map fun p => V.ref p.1))
  at_ : ∀ p ∈ ls, H p.1 = some (.lst (nV p.2))
  lt : ∀ p ∈ ls, ∀ i ∈ p.2, i < n
  few : ∀ p ∈ ls, p.2.length ≤ 40
  len : ls.length ≤ 40
theorem Lv.same {H H' : Hp} {la : Addr} {ls : List (Addr × List Nat)} {n : Nat} (h : Lv H la ls n) (s : Same H H') : Lv H' la ls n := ⟨s _ _ h.ad, fun p hp => s _ _ (h.at_ p hp), h.lt, h.few, h.len⟩
abbrev Ln (ls : List (Addr × List Nat)) : List (List Nat) := ls.map (·.2)
def strOf : V → Str
  | .str z => z
  | _ => ""
def inH (s : Sh) (b : Bt) (hv : Str → Int) (L : List (List Nat)) (wide : Int) : Int :=
  if b.k = "words" then ((brk (strOf b.m) (insd s wide)).length : Int)
  else if b.k = "pile" then mx0 (hks hv b)
  else (L.map (tl (hks hv b))).sum + gapN s.gap L.length
def szH (s : Sh) (x : Int) : Int := match s.yh with
  | .fixed n => n
  | _ => x + 2 * s.pad
def natV (s : Sh) (b : Bt) (hv : Str → Int) (L : List (List Nat)) (wide : Int) : Int := lim (szH s (inH s b hv L wide)) s.loh s.hih
section
variable {P : Program} {w : World} {K : PySem.W.Frag} {mg : Str → Option Value} {base : Heap} {A : Adr}
def spNatLines : Sp := fun vs H Q _ => ∃ (b : Bt) (nt la : Addr) (nms : List Str) (hv : Str → Int) (ls : List (Addr × List Nat)), vs = [.ref b.a, .ref nt, .ref la] ∧ Bx H b ∧ Nt H nt nms hv b ∧ Lv H la ls b.ks.length ∧
  ∀ (l : Addr) (H' : Hp), Same H H' → H l = none → H' l = some (.lst (((Ln ls).map (tl (hks hv b))).map V.int)) → Q (.ref l) H'
abbrev sc_natural_lines_0 : Scope := (match defBody s_natural_lines with | _ :: (.Return (some (.ListComp _ _ sc _)) _) :: _ => sc | _ => defScope s_natural_lines)
theorem blk_natural_lines_0 : Blk (defScope s_natural_lines) N_natural_lines sc_natural_lines_0 ["line"] [3] := ⟨rfl, by decide +kernel, by decide +kernel, by decide +kernel, by decide +kernel⟩
theorem nd_natural_lines_0 : (capN N_natural_lines ["line"] [3]).Nodup := by decide +kernel
seal PE PS PSs PA PT PI PG in
theorem ok_natural_lines (T : Txt K mg A) : FnOk P w K mg base CX0 2 A.f_natural_lines A.d_natural_lines P_natural_lines spNatLines := by
  have G_naturals_in : FnOk P w K mg base CX0 1 A.f_naturals_in A.d_naturals_in P_naturals_in spNatIn := ok_naturals_in T
  have G_tallest : FnOk P w K mg base CX0 1 A.f_tallest A.d_tallest P_tallest spTallest := ok_tallest T
  refine T.F_natural_lines.ok sc_natural_lines (fun vs H Q E h => ?_) (fun cdv B outer s H vs Q E hr h => ?_)
  · obtain ⟨b, nt, la, nms, hv, ls, rfl, _⟩ := h; rfl
  obtain ⟨b, nt, la, nms, hv, ls, rfl, bx, ht, lv, q⟩ := h
  refine ⟨_, @pss_cons _ _ _ _ _ (ps_set (i := 3) sc_natural_lines.nd rfl (Or.inr rfl) (pe_call G_naturals_in hr rfl T.m_naturals_in T.F_naturals_in.kp T.b_naturals_in .nil pass0 (pa_cons (pv 0) (pa_cons (pv 1) pa_nil))))
    (pss_one (ps_ret (pe_comp blk_natural_lines_0 rfl (pi_seq (pv 2)) (fun _ _ _ _ _ => pg_name (i := 0) nd_natural_lines_0 rfl (.inl rfl)) (fun _ _ _ _ _ => pif_nil) (fun _ _ _ _ _ => pe_call G_tallest hr rfl T.m_tallest T.F_tallest.kp T.b_tallest .nil pass0 (pa_cons (pv 1) (pa_cons (pv 0) pa_nil)))))), ?_⟩
  refine ⟨_, rfl, _, rfl, b, nt, nms, hv, rfl, bx, ht, fun sl hsl => ?_⟩
  have s1 := same_upd hsl (.lst ((hks hv b).map V.int))
  have e1 : upd H sl (.lst ((hks hv b).map V.int)) sl = _ := upd_same
  dsimp only [gName]
  generalize upd H sl (.lst ((hks hv b).map V.int)) = H1 at s1 e1 ⊢
  have lh : (hks hv b).length = b.ks.length := List.length_map _
  have hll := lv.len
  refine ⟨_, rfl, la, rfl, .inl ⟨⟨_, .of (s1 _ _ lv.ad)⟩, blk_list (xs := ls.map fun p => V.ref p.1) (fun i acc H' => acc = ((Ln (ls.take i)).map (tl (hks hv b))).map V.int ∧ Same H1 H')
    ⟨rfl, .refl _⟩ (fun i acc H' ⟨_, s⟩ => .of (s _ _ (s1 _ _ lv.ad))) (fun i acc H' ⟨ea, _⟩ => ?_) (fun i x acc H' R k hx z => ?_) fun acc H' z => ?_⟩⟩
  · rw [ea, List.length_map, List.length_map, List.length_map, List.length_take]; exact small1000 (by omega)
  · obtain ⟨rfl, s2⟩ := z
    rw [List.getElem?_map] at hx
    cases ei : ls[i]? with
    | none => rw [ei] at hx; cases hx
    | some p =>
      rw [ei] at hx
      cases hx
      have hp := List.mem_of_getElem? ei
      dsimp only [tYes]; rw [if_pos rfl]
      refine ⟨_, rfl, _, rfl, sl, p.1, hks hv b, p.2, rfl, s2 _ _ e1, s2 _ _ (s1 _ _ (lv.at_ p hp)), fun j hj => by rw [lh]; exact lv.lt p hp j hj, lv.few p hp, fun H2 s3 => k _ _ ⟨?_, s2.trans s3⟩⟩
      rw [take_snoc ei]; unfold Ln; rw [List.map_append, List.map_append, List.map_append]; rfl
  · obtain ⟨rfl, s2⟩ := z
    rw [List.length_map, List.take_length]
    intro l hl
    exact q l _ (s1.trans (s2.trans (same_upd hl _))) (same_none (s1.trans s2) hl) upd_same
def spInner : Sp := fun vs H Q _ => ∃ (b : Bt) (s : Sh) (nt la : Addr) (nms : List Str) (hv : Str → Int) (ls : List (Addr × List Nat)) (wide : Int), vs = [.ref b.a, .ref s.d, .ref nt, .ref la, .int wide] ∧ Bx H b ∧ ShAt H s ∧ Nt H nt nms hv b ∧ Lv H la ls b.ks.length ∧
  ∀ H', Same H H' → Q (.int (inH s b hv (Ln ls) wide)) H'
seal PE PS PSs PA PT PI PG in
theorem ok_inner_high (T : Txt K mg A) : FnOk P w K mg base CX0 3 A.f_inner_high A.d_inner_high P_inner_high spInner := by
  have G_naturals_in : FnOk P w K mg base CX0 2 A.f_naturals_in A.d_naturals_in P_naturals_in spNatIn := (ok_naturals_in T).mono (by omega)
  have G_natural_lines : FnOk P w K mg base CX0 2 A.f_natural_lines A.d_natural_lines P_natural_lines spNatLines := ok_natural_lines T
  have G_broken : FnOk P w K mg base CX0 2 A.f_broken A.d_broken P_broken spBrk := (ok_broken T).mono (by omega)
  have G_inside_of : FnOk P w K mg base CX0 2 A.f_inside_of A.d_inside_of P_inside_of spInside := (ok_inside_of T).mono (by omega)
  have G_gaps_of : FnOk P w K mg base CX0 2 A.f_gaps_of A.d_gaps_of P_gaps_of spGaps := (ok_gaps_of T).mono (by omega)
  refine T.F_inner_high.ok sc_inner_high (fun vs H Q E h => ?_) (fun cdv B outer s H vs Q E hr h => ?_)
  · obtain ⟨b, s, nt, la, nms, hv, ls, wide, rfl, _⟩ := h; rfl
  obtain ⟨b, sh, nt, la, nms, hv, ls, wide, rfl, bx, hs, ht, lv, q⟩ := h
  refine ⟨_, @pss_cons _ _ _ _ _ (ps_if (pt_cmpR op_eq (pe_ix ix_tup (pv 0) pe_int (fun _ _ => rfl)) pe_str (nomark _)) (pss_one (ps_ret (pe_callB call_len_seq rfl T.n_len b_len (pa_cons (pe_call G_broken hr rfl T.m_broken T.F_broken.kp T.b_broken .nil pass0 (pa_cons (pe_ix ix_tup (pv 0) pe_int (fun _ _ => rfl)) (pa_cons (pe_call G_inside_of hr rfl T.m_inside_of T.F_inside_of.kp T.b_inside_of .nil pass0 (pa_cons (pv 1) (pa_cons (pv 4) pa_nil))) pa_nil))) pa_nil)))) pss_nil)
    (@pss_cons _ _ _ _ _ (ps_if (pt_cmpR op_eq (pe_ix ix_tup (pv 0) pe_int (fun _ _ => rfl)) pe_str (nomark _)) (pss_one (ps_ret (pe_maxD rfl T.n_max (pe_call G_naturals_in hr rfl T.m_naturals_in T.F_naturals_in.kp T.b_naturals_in .nil pass0 (pa_cons (pv 0) (pa_cons (pv 2) pa_nil))) pe_int))) pss_nil)
    (pss_one (ps_ret (pe_op op_add (pe_callB (call_sum rfl) rfl T.n_sum b_sum (pa_cons (pe_call G_natural_lines hr rfl T.m_natural_lines T.F_natural_lines.kp T.b_natural_lines .nil pass0 (pa_cons (pv 0) (pa_cons (pv 2) (pa_cons (pv 3) pa_nil)))) pa_nil)) (pe_call G_gaps_of hr rfl T.m_gaps_of T.F_gaps_of.kp T.b_gaps_of .nil pass0 (pa_cons (pv 1) (pa_cons (pe_callB call_len_seq rfl T.n_len b_len (pa_cons (pv 3) pa_nil)) pa_nil))))))), ?_⟩
  obtain ⟨tg, kt, b1, b2⟩ := bx.nd.ex
  unfold inH at q
  refine ⟨_, rfl, b.a, _, _, _, rfl, rfl, .of b1, rfl, rfl, _, rfl, ite2 (fun c => ?_) (fun c => ?_)⟩
  · have ek : b.k = "words" := by have e := of_decide_eq_true c; injection e
    rw [if_pos ek] at q
    obtain ⟨z, ez, lz⟩ := bx.nd.mo.wd ek
    rw [ez] at b1 q
    refine ⟨_, rfl, b.a, _, _, _, rfl, rfl, .of b1, rfl, _, rfl, _, rfl, sh, wide, rfl, hs, z, _, rfl, lz, fun l H' s1 fl el hl => ⟨l, _, rfl, .inl (.of el), ?_⟩⟩
    rw [List.length_map]
    exact q H' s1
  have nw : b.k ≠ "words" := fun e => c (decide_eq_true (by rw [e]))
  rw [if_neg nw] at q
  clear c
  refine ⟨_, rfl, b.a, _, _, _, rfl, rfl, .of b1, rfl, rfl, _, rfl, ite2 (fun c => ?_) (fun c => ?_)⟩
  · have ek : b.k = "pile" := by have e := of_decide_eq_true c; injection e
    rw [if_pos ek] at q
    refine ⟨_, rfl, _, rfl, b, nt, nms, hv, rfl, bx, ht, fun l hl => ?_⟩
    have s1 := same_upd hl (.lst ((hks hv b).map V.int))
    refine ⟨l, hks hv b, rfl, .of upd_same, fun e0 => ?_, fun M hM hb => ?_⟩
    · have z : mx0 (hks hv b) = 0 := by rw [e0]; rfl
      rw [z] at q
      exact q _ s1
    · rw [mx0_eq hM hb] at q
      exact q _ s1
  have np : b.k ≠ "pile" := fun e => c (decide_eq_true (by rw [e]))
  rw [if_neg np] at q
  dsimp only [tNext]
  refine ⟨_, rfl, _, rfl, _, rfl, b, nt, la, nms, hv, ls, rfl, bx, ht, lv, fun l H' s1 fl el => ⟨l, _, rfl, .inl (.of el), _, rfl, _, rfl, la, _, rfl, .inl (.of (s1 _ _ lv.ad)), sh, _, rfl, hs.same s1, ?_, _, _, rfl, rfl, ?_⟩⟩
  · rw [List.length_map]; have := lv.len; omega
  · have := q H' s1
    rw [List.length_map] at this ⊢
    exact this
def spLimH : Sp := fun vs H Q _ => ∃ (s : Sh) (n : Int), vs = [.ref s.d, .int n] ∧ ShAt H s ∧ Q (.int (lim n s.loh s.hih)) H
theorem ok_limited_high (T : Txt K mg A) : FnOk P w K mg base CX0 2 A.f_limited_high A.d_limited_high P_limited_high spLimH := by
  have G_limited : FnOk P w K mg base CX0 1 A.f_limited A.d_limited P_limited spLim := ok_limited T
  refine T.F_limited_high.ok sc_limited_high (fun vs H Q E h => ?_) (fun cdv B outer s H vs Q E hr h => ?_)
  · obtain ⟨s, n, rfl, _⟩ := h; rfl
  obtain ⟨s, n, rfl, hs, q⟩ := h
  refine ⟨_, pss_one (ps_ret (pe_call G_limited hr rfl T.m_limited T.F_limited.kp T.b_limited .nil pass0 (pa_cons (pv 1) (pa_cons (pe_dget (hu_of hr) (pv 0) pe_str (fun _ _ => rfl)) (pa_cons (pe_dget (hu_of hr) (pv 0) pe_str (fun _ _ => rfl)) pa_nil))))), ?_⟩
  exact ⟨_, rfl, _, rfl, s.d, _, rfl, dget_s hs.ad val_leasth, _, rfl, s.d, _, rfl, dget_s hs.ad val_mosth, n, s.loh, s.hih, rfl, q⟩
def spNatOf : Sp := fun vs H Q _ => ∃ (b : Bt) (sd nt la : Addr) (ns nms : List Str) (f : Str → Sh) (hv : Str → Int) (ls : List (Addr × List Nat)) (wide : Int), vs = [.ref b.a, .ref sd, .ref nt, .ref la, .int wide] ∧ Bx H b ∧ Shs H sd ns f ∧ b.n ∈ ns ∧ Nt H nt nms hv b ∧ Lv H la ls b.ks.length ∧
  ∀ H', Same H H' → Q (.int (natV (f b.n) b hv (Ln ls) wide)) H'
seal PE PS PSs PA PT PI PG in
theorem ok_natural_of (T : Txt K mg A) : FnOk P w K mg base CX0 4 A.f_natural_of A.d_natural_of P_natural_of spNatOf := by
  have G_inner_high : FnOk P w K mg base CX0 3 A.f_inner_high A.d_inner_high P_inner_high spInner := ok_inner_high T
  have G_limited_high : FnOk P w K mg base CX0 3 A.f_limited_high A.d_limited_high P_limited_high spLimH := (ok_limited_high T).mono (by omega)
  refine T.F_natural_of.ok sc_natural_of (fun vs H Q E h => ?_) (fun cdv B outer s H vs Q E hr h => ?_)
  · obtain ⟨b, sd, nt, la, ns, nms, f, hv, ls, wide, rfl, _⟩ := h; rfl
  obtain ⟨b, sd, nt, la, ns, nms, f, hv, ls, wide, rfl, bx, S, hn, ht, lv, q⟩ := h
  refine ⟨_, @pss_cons _ _ _ _ _ (ps_set (i := 5) sc_natural_of.nd rfl (Or.inl rfl) (pe_dget (hu_of hr) (pv 1) (pe_ix ix_tup (pv 0) pe_int (fun _ _ => rfl)) (fun _ _ => rfl)))
    (@pss_cons _ _ _ _ _ (ps_set (i := 6) sc_natural_of.nd rfl (Or.inl rfl) (pe_op op_add (pe_call G_inner_high hr rfl T.m_inner_high T.F_inner_high.kp T.b_inner_high .nil pass0 (pa_cons (pv 0) (pa_cons (pv 5) (pa_cons (pv 2) (pa_cons (pv 3) (pa_cons (pv 4) pa_nil)))))) (pe_op op_mul pe_int (pe_dget (hu_of hr) (pv 5) pe_str (fun _ _ => rfl)))))
    (@pss_cons _ _ _ _ _ (ps_if (pt_cmpR op_eq (pe_ix ix_tup (pe_dget (hu_of hr) (pv 5) pe_str (fun _ _ => rfl)) pe_int (fun _ _ => rfl)) pe_str (nomark _)) (pss_one (ps_set (i := 6) sc_natural_of.nd rfl (Or.inl rfl) (pe_ix ix_tup (pe_dget (hu_of hr) (pv 5) pe_str (fun _ _ => rfl)) pe_int (fun _ _ => rfl)))) pss_nil)
    (pss_one (ps_ret (pe_call G_limited_high hr rfl T.m_limited_high T.F_limited_high.kp T.b_limited_high .nil pass0 (pa_cons (pv 5) (pa_cons (pv 6) pa_nil))))))), ?_⟩
  obtain ⟨tg, kt, b1, b2⟩ := bx.nd.ex
  have hs := S.at_ _ hn
  have hg := S.get hn
  unfold natV at q
  generalize f b.n = sh at hs hg q
  refine ⟨_, rfl, _, rfl, b.a, _, _, _, rfl, rfl, .of b1, rfl, sd, _, rfl, hg, ?_⟩
  dsimp only [gName]
  refine ⟨_, rfl, _, rfl, _, rfl, _, rfl, _, rfl, b, sh, nt, la, nms, hv, ls, wide, rfl, bx, hs, ht, lv, fun H1 s1 => ?_⟩
  have hs1 := hs.same s1
  refine ⟨_, rfl, sh.d, _, rfl, dget_s hs1.ad hs1.pad, _, _, rfl, rfl, .inl ⟨by decide, by decide⟩, _, _, rfl, rfl, ?_⟩
  generalize inH sh b hv (Ln ls) wide = x at q ⊢
  dsimp only [gName]
  show tSeq _ _ _ [some (.ref b.a), some (.ref sd), some (.ref nt), some (.ref la), some (.int wide), some (.ref sh.d), some (.int (x + 2 * sh.pad))] H1
  refine seq_joinI (fun σ' H' => σ' = [some (.ref b.a), some (.ref sd), some (.ref nt), some (.ref la), some (.int wide), some (.ref sh.d), some (.int (szH sh x))] ∧ H' = H1) (fun N hN => ?_) ?_
  · have tup := hs1.tall
    cases ey : sh.yh with
    | hold =>
      rw [ey] at tup
      refine ⟨_, rfl, sh.d, _, rfl, dget_s hs1.ad val_high, sh.th, _, _, _, rfl, rfl, .of tup, rfl, rfl, _, rfl, iteN sHF (hN _ _ ⟨?_, rfl⟩)⟩
      unfold szH; rw [ey]
    | share n =>
      rw [ey] at tup
      refine ⟨_, rfl, sh.d, _, rfl, dget_s hs1.ad val_high, sh.th, _, _, _, rfl, rfl, .of tup, rfl, rfl, _, rfl, iteN sSF (hN _ _ ⟨?_, rfl⟩)⟩
      unfold szH; rw [ey]
    | fixed n =>
      rw [ey] at tup
      refine ⟨_, rfl, sh.d, _, rfl, dget_s hs1.ad val_high, sh.th, _, _, _, rfl, rfl, .of tup, rfl, rfl, _, rfl, iteY rfl ⟨_, rfl, sh.d, _, rfl, dget_s hs1.ad val_high, sh.th, _, _, _, rfl, rfl, .of tup, rfl, hN _ _ ⟨?_, rfl⟩⟩⟩
      unfold szH; rw [ey]; rfl
  rintro σ' H' ⟨rfl, rfl⟩
  exact ⟨_, rfl, _, rfl, sh, _, rfl, hs1, q _ s1⟩
end
end KP

set_option linter.all false
set_option maxHeartbeats 4000000
set_option maxRecDepth 100000
namespace KP
open PySem L2 PyProof.Rows
/-- lines of places below n, none empty -/
structure GoodL (L : List (List Nat)) (n : Nat) : Prop where
  ne : ∀ xs ∈ L, xs ≠ []
  lt : ∀ xs ∈ L, ∀ i ∈ xs, i < n
  few : ∀ xs ∈ L, xs.length ≤ n
  len : L.length ≤ n
  some_ : n ≠ 0 → L ≠ []
theorem fstep_good {g ins b : Int} {s : List (List Nat) × Int × Nat} (h : GoodL s.1 s.2.2) : GoodL (fstep g ins s b).1 (fstep g ins s b).2.2 := by
  obtain ⟨L, e, c⟩ := s
  unfold fstep
  split
  · refine ⟨fun xs hx => ?_, fun xs hx i hi => ?_, fun xs hx => ?_, ?_, fun _ => by simp⟩
    · rcases List.mem_append.mp hx with hx | hx
      · exact h.ne xs hx
      · rw [List.mem_singleton.mp hx]; simp
    · rcases List.mem_append.mp hx with hx | hx
      · have := h.lt xs hx i hi; show i < c + 1; dsimp only at this; omega
      · rw [List.mem_singleton.mp hx] at hi; rw [List.mem_singleton.mp hi]; show c < c + 1; omega
    · rcases List.mem_append.mp hx with hx | hx
      · have := h.few xs hx; show xs.length ≤ c + 1; dsimp only at this; omega
      · rw [List.mem_singleton.mp hx]; show 1 ≤ c + 1; omega
    · have := h.len; show (L ++ [[c]]).length ≤ c + 1; rw [List.length_append]; dsimp only at this; simp; omega
  · rename_i hc
    have hL : L ≠ [] := fun z => hc (.inl z)
    rcases List.eq_nil_or_concat L with e0 | ⟨l0, p, e0⟩
    · exact absurd e0 hL
    · rw [List.concat_eq_append] at e0
      have hl := h.len
      have mem : ∀ xs ∈ (L.dropLast ++ [L.getLastD [] ++ [c]]), xs ∈ L ∨ xs = p ++ [c] := fun xs hx => by
        rcases List.mem_append.mp hx with hx | hx
        · exact .inl (List.dropLast_subset _ hx)
        · right; rw [List.mem_singleton.mp hx, e0, List.getLastD_concat]
      have hp : p ∈ L := by rw [e0]; simp
      refine ⟨fun xs hx => ?_, fun xs hx i hi => ?_, fun xs hx => ?_, ?_, fun _ => by simp⟩
      · rcases mem xs hx with hx | hx
        · exact h.ne xs hx
        · rw [hx]; simp
      · show i < c + 1
        rcases mem xs hx with hx | hx
        · have := h.lt xs hx i hi; dsimp only at this; omega
        · rw [hx] at hi
          rcases List.mem_append.mp hi with hi | hi
          · have := h.lt p hp i hi; dsimp only at this; omega
          · rw [List.mem_singleton.mp hi]; omega
      · show xs.length ≤ c + 1
        rcases mem xs hx with hx | hx
        · have := h.few xs hx; dsimp only at this; omega
        · have := h.few p hp; rw [hx, List.length_append]; dsimp only at this; simp; omega
      · show (L.dropLast ++ [_]).length ≤ c + 1
        rw [List.length_append, List.length_dropLast]; dsimp only at hl; simp; omega
theorem flw_good (g ins : Int) (bs : List Int) : GoodL (flw g ins bs) bs.length := by
  have : ∀ (l : List Int) (s : List (List Nat) × Int × Nat), GoodL s.1 s.2.2 → GoodL (l.foldl (fstep g ins) s).1 (l.foldl (fstep g ins) s).2.2 := fun l => by
    induction l with
    | nil => intro s h; exact h
    | cons x r ih => intro s h; rw [List.foldl_cons]; exact ih _ (fstep_good h)
  have h := this bs ([], 0, 0) ⟨fun xs h => (nomatch h), fun xs h => (nomatch h), fun xs h => (nomatch h), Nat.le_refl _, fun h => absurd rfl h⟩
  have hc := flwS_cnt g ins bs
  unfold flw
  unfold flwS at hc ⊢
  rw [hc] at h
  exact h
theorem range_good (n : Nat) : GoodL (if n = 0 then [] else [List.range n]) n := by
  split
  · rename_i h; subst h
    exact ⟨fun xs h => (nomatch h), fun xs h => (nomatch h), fun xs h => (nomatch h), Nat.le_refl _, fun h => absurd rfl h⟩
  · rename_i h
    refine ⟨fun xs hx => ?_, fun xs hx i hi => ?_, fun xs hx => ?_, by simp; omega, fun _ => by simp⟩
    · rw [List.mem_singleton.mp hx]; intro z
      have := congrArg List.length z
      rw [List.length_range] at this; exact h this
    · rw [List.mem_singleton.mp hx] at hi; exact List.mem_range.mp hi
    · rw [List.mem_singleton.mp hx, List.length_range]; exact Nat.le_refl _
theorem lns_good (f : Str → Sh) (nv : Str → Int × Int) (b : Bt) (wide : Int) (hg : b.k = "grid" → 1 ≤ more1 b.m) : GoodL (lnsOf f nv b wide) b.ks.length := by
  unfold lnsOf
  generalize hn : b.ks.length = n
  by_cases n0 : n = 0
  · rw [if_pos n0]
    subst n0
    exact ⟨fun xs h => (nomatch h), fun xs h => (nomatch h), fun xs h => (nomatch h), Nat.le_refl _, fun h => absurd rfl h⟩
  rw [if_neg n0]
  split
  · refine ⟨fun xs hx => ?_, fun xs hx i hi => ?_, fun xs hx => ?_, by rw [List.length_map, List.length_range]; exact Nat.le_refl _, fun _ z => ?_⟩
    · obtain ⟨i, _, rfl⟩ := List.mem_map.mp hx; simp
    · obtain ⟨j, hj, rfl⟩ := List.mem_map.mp hx
      rw [List.mem_singleton.mp hi]; exact List.mem_range.mp hj
    · obtain ⟨i, _, rfl⟩ := List.mem_map.mp hx; simp; omega
    · have := congrArg List.length z
      rw [List.length_map, List.length_range] at this; exact n0 this
  split
  · rename_i hk
    have h1 := hg hk
    obtain ⟨g, hgn⟩ := Int.eq_ofNat_of_zero_le (show 0 ≤ more1 b.m by omega)
    rw [hgn]
    rw [Int.toNat_natCast]
    have g1 : 1 ≤ g := by omega
    have hcnt : cnt3 0 n (g : Int) = (n - 1) / g + 1 := by
      unfold cnt3 Builtin.Range.rangeSize
      rw [if_pos (by omega), if_pos (by omega)]
      have : ((n : Int) - 0 - 1) = ((n - 1 : Nat) : Int) := by omega
      rw [this, ← Int.natCast_ediv]
      generalize (n - 1) / g = q
      omega
    rw [hcnt]
    have lo : ∀ j, j < (n - 1) / g + 1 → j * g < n := fun j hj => by
      have h2 : j ≤ (n - 1) / g := by omega
      have h3 : j * g ≤ (n - 1) / g * g := Nat.mul_le_mul_right _ h2
      have h4 : (n - 1) / g * g ≤ n - 1 := Nat.div_mul_le_self _ _
      omega
    refine ⟨fun xs hx z => ?_, fun xs hx i hi => ?_, fun xs hx => ?_, ?_, fun _ => by simp⟩
    · obtain ⟨j, hj, rfl⟩ := List.mem_map.mp hx
      have h2 := lo j (List.mem_range.mp hj)
      have := congrArg List.length z
      unfold chunk at this
      rw [List.length_take, List.length_drop, List.length_range] at this
      simp at this
      omega
    · obtain ⟨j, hj, rfl⟩ := List.mem_map.mp hx
      exact List.mem_range.mp (List.mem_of_mem_drop (List.mem_of_mem_take hi))
    · obtain ⟨j, hj, rfl⟩ := List.mem_map.mp hx
      unfold chunk
      rw [List.length_take, List.length_drop, List.length_range]; omega
    · rw [List.length_map, List.length_range]
      have : (n - 1) / g ≤ n - 1 := Nat.div_le_self _ _
      omega
  split
  · have := flw_good (f b.n).gap (insd (f b.n) wide) (b.ks.map fun c => (partOf f nv b wide c).1)
    rw [List.length_map, hn] at this
    exact this
  · have := range_good n
    rw [if_neg n0] at this
    exact this
end KP

set_option linter.all false
set_option maxHeartbeats 4000000
set_option maxRecDepth 100000
namespace KP
open PySem L2 PyProof.Rows
/-- as the law reckons -/
def inL (s : Sh) (b : Bt) (hv : Str → Int) (L : List (List Nat)) (wide : Int) : Int :=
  if b.k = "words" then ((brk (strOf b.m) (insd s wide)).length : Int)
  else if 0 < (L.length : Int) then (L.map (tl (hks hv b))).sum + s.gap * ((L.length : Int) - 1)
  else 0
theorem map_range_getD (l : List Int) : (List.range l.length).map (fun i => l.getD i 0) = l := by
  refine List.ext_getElem (by rw [List.length_map, List.length_range]) fun i h1 h2 => ?_
  rw [List.getElem_map, List.getElem_range, List.getD_eq_getElem?_getD, List.getElem?_eq_getElem h2]; rfl
theorem kP : (Str.ofString "pile" : Str) ≠ "column" ∧ (Str.ofString "pile" : Str) ≠ "grid" ∧ (Str.ofString "pile" : Str) ≠ "flow" := by decide +kernel
theorem inL_eq (s : Sh) (b : Bt) (hv : Str → Int) (f : Str → Sh) (nv : Str → Int × Int) (wide w2 : Int) (hg : b.k = "grid" → 1 ≤ more1 b.m) : inL s b hv (lnsOf f nv b w2) wide = inH s b hv (lnsOf f nv b w2) wide := by
  have G := lns_good f nv b w2 hg
  unfold inL inH
  by_cases nw : b.k = "words"
  · rw [if_pos nw, if_pos nw]
  rw [if_neg nw, if_neg nw]
  by_cases n0 : b.ks.length = 0
  · have e : lnsOf f nv b w2 = [] := by unfold lnsOf; rw [if_pos n0]
    have eh : hks hv b = [] := by unfold hks; rw [List.length_eq_zero_iff.mp n0]; rfl
    rw [e, eh]
    split
    · rename_i h; exact absurd h (by decide)
    split
    · rfl
    · show (0 : Int) = 0 + gapN s.gap 0
      unfold gapN; rw [if_neg (by decide)]; omega
  · have hne := G.some_ n0
    have hl : 0 < ((lnsOf f nv b w2).length : Int) := by have := List.length_pos_iff.mpr hne; omega
    rw [if_pos hl]
    split
    · rename_i hk
      have e : lnsOf f nv b w2 = [List.range b.ks.length] := by
        unfold lnsOf; rw [if_neg n0, if_neg (by rw [hk]; exact kP.1), if_neg (by rw [hk]; exact kP.2.1), if_neg (by rw [hk]; exact kP.2.2)]
      rw [e]
      have eh : b.ks.length = (hks hv b).length := (List.length_map _).symm
      show (tl (hks hv b) (List.range b.ks.length) + 0) + s.gap * (1 - 1) = _
      unfold tl
      rw [eh, map_range_getD]
      simp
    · unfold gapN
      by_cases h1 : ((lnsOf f nv b w2).length : Int) - 1 > 0
      · rw [if_pos h1]
      · rw [if_neg h1]
        have : ((lnsOf f nv b w2).length : Int) - 1 = 0 := by omega
        rw [this]
section
variable {P : Program} {w : World} {K : PySem.W.Frag} {mg : Str → Option Value} {base : Heap} {A : Adr}
def spLInside : Sp := fun vs H Q _ => ∃ (s : Sh) (n : Int), vs = [.int n, .ref s.d] ∧ ShAt H s ∧ Q (.int (insd s n)) H
theorem ok_l_inside (T : Txt K mg A) : FnOk P w K mg base CX0 1 A.f_l_inside A.d_l_inside P_l_inside spLInside := by
  refine T.F_l_inside.ok sc_l_inside (fun vs H Q E h => ?_) (fun cdv B outer s H vs Q E hr h => ?_)
  · obtain ⟨s, n, rfl, _⟩ := h; rfl
  obtain ⟨sh, n, rfl, hs, q⟩ := h
  refine ⟨_, pss_one (ps_ret (pe_callB (call_max2 rfl) rfl T.n_max b_max (pa_cons pe_int (pa_cons (pe_op op_sub (pv 0) (pe_op op_mul pe_int (pe_dget (hu_of hr) (pv 1) pe_str (fun _ _ => rfl)))) pa_nil)))), ?_⟩
  exact ⟨_, rfl, _, rfl, sh.d, _, rfl, dget_s hs.shp.ad hs.pad, _, _, rfl, rfl, .inl ⟨by decide, by decide⟩, _, _, rfl, rfl, 0, _, rfl, q⟩
def spLNat : Sp := fun vs H Q _ => ∃ (b : Bt) (nt la : Addr) (nms : List Str) (hv : Str → Int) (ls : List (Addr × List Nat)), vs = [.ref b.a, .ref nt, .ref la] ∧ Bx H b ∧ Nt H nt nms hv b ∧ Lv H la ls b.ks.length ∧ (∀ p ∈ ls, p.2 ≠ []) ∧
  ∀ (l : Addr) (H' : Hp), Same H H' → H l = none → H' l = some (.lst (((Ln ls).map (tl (hks hv b))).map V.int)) → Q (.ref l) H'
abbrev sc_l_line_naturals_0 : Scope := (match defBody s_l_line_naturals with | (.Return (some (.ListComp _ _ sc _)) _) :: _ => sc | _ => defScope s_l_line_naturals)
theorem blk_l_line_naturals_0 : Blk (defScope s_l_line_naturals) N_l_line_naturals sc_l_line_naturals_0 ["_law_line"] [0, 1] := ⟨rfl, by decide +kernel, by decide +kernel, by decide +kernel, by decide +kernel⟩
theorem nd_l_line_naturals_0 : (capN N_l_line_naturals ["_law_line"] [0, 1]).Nodup := by decide +kernel
abbrev sc_l_line_naturals_1 : Scope := (match defBody s_l_line_naturals with | (.Return (some (.ListComp (.Call _ ((.ListComp _ _ sc _) :: _) _ _) [⟨_, _, _, _⟩] _ _)) _) :: _ => sc | _ => defScope s_l_line_naturals)
theorem blk_l_line_naturals_1 : Blk sc_l_line_naturals_0 (capN N_l_line_naturals ["_law_line"] [0, 1]) sc_l_line_naturals_1 ["_law_place"] [1, 2] := ⟨rfl, by decide +kernel, by decide +kernel, by decide +kernel, by decide +kernel⟩
theorem nd_l_line_naturals_1 : (capN (capN N_l_line_naturals ["_law_line"] [0, 1]) ["_law_place"] [1, 2]).Nodup := by decide +kernel
seal PE PS PSs PA PT PI PG in
theorem ok_l_line_naturals (T : Txt K mg A) : FnOk P w K mg base CX0 1 A.f_l_line_naturals A.d_l_line_naturals P_l_line_naturals spLNat := by
  refine T.F_l_line_naturals.ok sc_l_line_naturals (fun vs H Q E h => ?_) (fun cdv B outer s H vs Q E hr h => ?_)
  · obtain ⟨b, nt, la, nms, hv, ls, rfl, _⟩ := h; rfl
  obtain ⟨b, nt, la, nms, hv, ls, rfl, bx, ht, lv, hne, q⟩ := h
  refine ⟨_, pss_one (ps_ret (pe_comp blk_l_line_naturals_0 rfl (pi_seq (pv 2)) (fun _ _ _ _ _ => pg_name (i := 0) nd_l_line_naturals_0 rfl (.inl rfl)) (fun _ _ _ _ _ => pif_nil) (fun _ _ _ _ _ => pe_callB (call_maxLK (K := K) rfl rfl) rfl T.n_max b_max (pa_cons (pe_comp (blk_l_line_naturals_1.re blk_l_line_naturals_0.nocell) rfl (pi_seqK (K := K) rfl (pv 0)) (fun _ _ _ _ _ => pg_name (i := 0) nd_l_line_naturals_1 rfl (.inl rfl)) (fun _ _ _ _ _ => pif_nil) (fun _ _ _ _ _ => pe_dget (hu_of hr) (pv 2) (pe_ix (ix_tupK (K := K) rfl) (pe_ix (ix_tupK (K := K) rfl) (pe_ix (ix_tupK (K := K) rfl) (pv 1) pe_int (fun _ _ => rfl)) (pv 0) (fun _ _ => rfl)) pe_int (fun _ _ => rfl)) (fun _ _ => rfl))) pa_nil)))), ?_⟩
  obtain ⟨tg, kt, b1, b2⟩ := bx.nd.ex
  have hll := lv.len
  refine ⟨_, rfl, la, rfl, .inl ⟨⟨_, .of lv.ad⟩, blk_list (xs := ls.map fun p => V.ref p.1) (fun i acc H' => acc = ((Ln (ls.take i)).map (tl (hks hv b))).map V.int ∧ Same H H')
    ⟨rfl, .refl _⟩ (fun i acc H' ⟨_, s⟩ => .of (s _ _ lv.ad)) (fun i acc H' ⟨ea, _⟩ => ?_) (fun i x acc H' R k hx z => ?_) fun acc H' z => ?_⟩⟩
  · rw [ea, List.length_map, List.length_map, List.length_map, List.length_take]; exact small1000 (by omega)
  · obtain ⟨rfl, s2⟩ := z
    rw [List.getElem?_map] at hx
    cases ei : ls[i]? with
    | none => rw [ei] at hx; cases hx
    | some p =>
      rw [ei] at hx
      cases hx
      have hp := List.mem_of_getElem? ei
      have h40 := lv.few p hp
      dsimp only [tYes]; rw [if_pos rfl]
      refine ⟨_, rfl, p.1, rfl, blk_map (fun i : Nat => V.int ((hks hv b).getD i 0)) (fun i : Nat => V.int (i : Int)) (.inl (.of (s2 _ _ (lv.at_ p hp)))) (small1000 (by omega)) (fun j hj Q hQ => ?_) fun l hl => ?_⟩
      · have hlt := lv.lt p hp j hj
        have hcj : b.ks[j]? = some b.ks[j] := List.getElem?_eq_getElem hlt
        have hcm : b.ks[j] ∈ b.ks := List.getElem_mem hlt
        generalize b.ks[j] = c at hcj hcm
        obtain ⟨tg', kt', c1, c2⟩ := (bx.kid c hcm).ex
        have eg : (hks hv b).getD j 0 = hv c.n := by rw [List.getD_eq_getElem?_getD, List.getElem?_map, hcj]; rfl
        rw [eg] at hQ
        exact ⟨_, rfl, _, rfl, b.a, _, _, _, rfl, rfl, .of (s2 _ _ b1), rfl, _, rfl, kt, _, _, _, rfl, rfl, .of (s2 _ _ b2), atI_nat (by rw [List.getElem?_map, hcj]; rfl), c.a, _, _, _, rfl, rfl, .of (s2 _ _ c1), rfl, nt, _, rfl, (ht.same s2).get hcm, hQ⟩
      · have s3 := same_upd hl (.lst (p.2.map fun i : Nat => V.int ((hks hv b).getD i 0)))
        refine ⟨l, p.2.map (fun i => (hks hv b).getD i 0), rfl, .of (by rw [upd_same, List.map_map]; rfl), by rw [List.length_map]; exact List.length_pos_iff.mpr (hne p hp), fun M hM hb => k _ _ ⟨?_, s2.trans s3⟩⟩
        have eM : tl (hks hv b) p.2 = M := mx0_eq hM hb
        rw [take_snoc ei]; unfold Ln; rw [List.map_append, List.map_append, List.map_append, ← eM]; rfl
  · obtain ⟨rfl, s2⟩ := z
    rw [List.length_map, List.take_length]
    intro l hl
    exact q l _ (s2.trans (same_upd hl _)) (same_none s2 hl) upd_same
def spLNatural : Sp := fun vs H Q _ => ∃ (b : Bt) (s : Sh) (nt la : Addr) (nms : List Str) (hv : Str → Int) (ls : List (Addr × List Nat)) (wide : Int), vs = [.ref b.a, .ref s.d, .ref nt, .ref la, .int wide] ∧ Bx H b ∧ ShAt H s ∧ Nt H nt nms hv b ∧ Lv H la ls b.ks.length ∧ (∀ p ∈ ls, p.2 ≠ []) ∧
  ∀ H', Same H H' → Q (.int (lim (szH s (inL s b hv (Ln ls) wide)) s.loh s.hih)) H'
seal PE PS PSs PA PT PI PG in
theorem ok_l_natural (T : Txt K mg A) : FnOk P w K mg base CX0 2 A.f_l_natural A.d_l_natural P_l_natural spLNatural := by
  have G_l_inside : FnOk P w K mg base CX0 1 A.f_l_inside A.d_l_inside P_l_inside spLInside := ok_l_inside T
  have G_l_line_naturals : FnOk P w K mg base CX0 1 A.f_l_line_naturals A.d_l_line_naturals P_l_line_naturals spLNat := ok_l_line_naturals T
  have G_broken : FnOk P w K mg base CX0 1 A.f_broken A.d_broken P_broken spBrk := ok_broken T
  have G_l_limited : FnOk P w K mg base CX0 1 A.f_l_limited A.d_l_limited P_l_limited spLim := ok_l_limited T
  refine T.F_l_natural.ok sc_l_natural (fun vs H Q E h => ?_) (fun cdv B outer s H vs Q E hr h => ?_)
  · obtain ⟨b, s, nt, la, nms, hv, ls, wide, rfl, _⟩ := h; rfl
  obtain ⟨b, sh, nt, la, nms, hv, ls, wide, rfl, bx, hs, ht, lv, hne, q⟩ := h
  refine ⟨_, @pss_cons _ _ _ _ _ (ps_set (i := 5) sc_l_natural.nd rfl (Or.inl rfl) pe_int)
    (@pss_cons _ _ _ _ _ (ps_if (pt_cmpR op_eq (pe_ix ix_tup (pv 0) pe_int (fun _ _ => rfl)) pe_str (nomark _)) (pss_one (ps_set (i := 5) sc_l_natural.nd rfl (Or.inl rfl) (pe_callB call_len_seq rfl T.n_len b_len (pa_cons (pe_call G_broken hr rfl T.m_broken T.F_broken.kp T.b_broken .nil pass0 (pa_cons (pe_ix ix_tup (pv 0) pe_int (fun _ _ => rfl)) (pa_cons (pe_call G_l_inside hr rfl T.m_l_inside T.F_l_inside.kp T.b_l_inside .nil pass0 (pa_cons (pv 4) (pa_cons (pv 1) pa_nil))) pa_nil))) pa_nil)))) (pss_one (ps_if (pt_cmpR op_gt (pe_callB call_len_seq rfl T.n_len b_len (pa_cons (pv 3) pa_nil)) pe_int (nomark _)) (pss_one (ps_set (i := 5) sc_l_natural.nd rfl (Or.inl rfl) (pe_op op_add (pe_callB (call_sum rfl) rfl T.n_sum b_sum (pa_cons (pe_call G_l_line_naturals hr rfl T.m_l_line_naturals T.F_l_line_naturals.kp T.b_l_line_naturals .nil pass0 (pa_cons (pv 0) (pa_cons (pv 2) (pa_cons (pv 3) pa_nil)))) pa_nil)) (pe_op op_mul (pe_dget (hu_of hr) (pv 1) pe_str (fun _ _ => rfl)) (pe_op op_sub (pe_callB call_len_seq rfl T.n_len b_len (pa_cons (pv 3) pa_nil)) pe_int))))) pss_nil)))
    (@pss_cons _ _ _ _ _ (ps_set (i := 6) sc_l_natural.nd rfl (Or.inl rfl) (pe_op op_add (pv 5) (pe_op op_mul pe_int (pe_dget (hu_of hr) (pv 1) pe_str (fun _ _ => rfl)))))
    (@pss_cons _ _ _ _ _ (ps_if (pt_cmpR op_eq (pe_ix ix_tup (pe_dget (hu_of hr) (pv 1) pe_str (fun _ _ => rfl)) pe_int (fun _ _ => rfl)) pe_str (nomark _)) (pss_one (ps_set (i := 6) sc_l_natural.nd rfl (Or.inl rfl) (pe_ix ix_tup (pe_dget (hu_of hr) (pv 1) pe_str (fun _ _ => rfl)) pe_int (fun _ _ => rfl)))) pss_nil)
    (pss_one (ps_ret (pe_call G_l_limited hr rfl T.m_l_limited T.F_l_limited.kp T.b_l_limited .nil pass0 (pa_cons (pv 6) (pa_cons (pe_dget (hu_of hr) (pv 1) pe_str (fun _ _ => rfl)) (pa_cons (pe_dget (hu_of hr) (pv 1) pe_str (fun _ _ => rfl)) pa_nil))))))))), ?_⟩
  obtain ⟨tg, kt, b1, b2⟩ := bx.nd.ex
  have hll : (Ln ls).length = ls.length := List.length_map _
  refine seq_setC ?_
  show tSeq _ _ _ [some (.ref b.a), some (.ref sh.d), some (.ref nt), some (.ref la), some (.int wide), some (.int 0), none] H
  refine seq_joinI (fun σ' H' => σ' = [some (.ref b.a), some (.ref sh.d), some (.ref nt), some (.ref la), some (.int wide), some (.int (inL sh b hv (Ln ls) wide)), none] ∧ Same H H') (fun N hN => ?_) ?_
  · unfold inL at hN
    refine ⟨_, rfl, b.a, _, _, _, rfl, rfl, .of b1, rfl, rfl, _, rfl, ite2 (fun c => ?_) (fun c => ?_)⟩
    · have ek : b.k = "words" := by have e := of_decide_eq_true c; injection e
      rw [if_pos ek] at hN
      obtain ⟨z, ez, lz⟩ := bx.nd.mo.wd ek
      rw [ez] at b1 hN
      refine ⟨_, rfl, b.a, _, _, _, rfl, rfl, .of b1, rfl, _, rfl, _, rfl, sh, wide, rfl, hs, z, _, rfl, lz, fun l H' s1 fl el hl => ⟨l, _, rfl, .inl (.of el), ?_⟩⟩
      rw [List.length_map]
      exact hN _ _ ⟨rfl, s1⟩
    · have nw : b.k ≠ "words" := fun e => c (decide_eq_true (by rw [e]))
      rw [if_neg nw, hll] at hN
      refine ⟨_, rfl, la, _, rfl, .inl (.of lv.ad), _, _, rfl, rfl, _, rfl, ite2 (fun c2 => ?_) (fun c2 => ?_)⟩
      · have c2' : (0 : Int) < (((ls.map fun p => V.ref p.1).length : Nat) : Int) := of_decide_eq_true c2
        rw [List.length_map] at c2'
        rw [if_pos c2'] at hN
        have hl40 := lv.len
        refine ⟨_, rfl, _, rfl, _, rfl, b, nt, la, nms, hv, ls, rfl, bx, ht, lv, hne, fun l H' s1 fl el => ⟨l, _, rfl, .inl (.of el), _, rfl, sh.d, _, rfl, dget_s (hs.same s1).ad val_gap, _, rfl, la, _, rfl, .inl (.of (s1 _ _ lv.ad)), _, _, rfl, rfl, _, _, rfl, rfl, ?_, _, _, rfl, rfl, ?_⟩⟩
        · have := hs.ok.gap; exact .inl ⟨by omega, by omega⟩
        · rw [List.length_map]
          exact hN _ _ ⟨rfl, s1⟩
      · have c2' : ¬ (0 : Int) < (((ls.map fun p => V.ref p.1).length : Nat) : Int) := fun z => c2 (decide_eq_true z)
        rw [List.length_map] at c2'
        rw [if_neg c2'] at hN
        exact hN _ _ ⟨rfl, .refl _⟩
  rintro σ' H1 ⟨rfl, s1⟩
  have hs1 := hs.same s1
  refine ⟨_, rfl, _, rfl, sh.d, _, rfl, dget_s hs1.ad hs1.pad, _, _, rfl, rfl, .inl ⟨by decide, by decide⟩, _, _, rfl, rfl, ?_⟩
  generalize inL sh b hv (Ln ls) wide = x at q ⊢
  dsimp only [gName]
  show tSeq _ _ _ [some (.ref b.a), some (.ref sh.d), some (.ref nt), some (.ref la), some (.int wide), some (.int x), some (.int (x + 2 * sh.pad))] H1
  refine seq_joinI (fun σ' H' => σ' = [some (.ref b.a), some (.ref sh.d), some (.ref nt), some (.ref la), some (.int wide), some (.int x), some (.int (szH sh x))] ∧ H' = H1) (fun N hN => ?_) ?_
  · have tup := hs1.tall
    cases ey : sh.yh with
    | hold =>
      rw [ey] at tup
      refine ⟨_, rfl, sh.d, _, rfl, dget_s hs1.ad val_high, sh.th, _, _, _, rfl, rfl, .of tup, rfl, rfl, _, rfl, iteN sHF (hN _ _ ⟨?_, rfl⟩)⟩
      unfold szH; rw [ey]
    | share n =>
      rw [ey] at tup
      refine ⟨_, rfl, sh.d, _, rfl, dget_s hs1.ad val_high, sh.th, _, _, _, rfl, rfl, .of tup, rfl, rfl, _, rfl, iteN sSF (hN _ _ ⟨?_, rfl⟩)⟩
      unfold szH; rw [ey]
    | fixed n =>
      rw [ey] at tup
      refine ⟨_, rfl, sh.d, _, rfl, dget_s hs1.ad val_high, sh.th, _, _, _, rfl, rfl, .of tup, rfl, rfl, _, rfl, iteY rfl ⟨_, rfl, sh.d, _, rfl, dget_s hs1.ad val_high, sh.th, _, _, _, rfl, rfl, .of tup, rfl, hN _ _ ⟨?_, rfl⟩⟩⟩
      unfold szH; rw [ey]; rfl
  rintro σ' H' ⟨rfl, rfl⟩
  exact ⟨_, rfl, _, rfl, sh.d, _, rfl, dget_s hs1.ad val_leasth, _, rfl, sh.d, _, rfl, dget_s hs1.ad val_mosth, _, sh.loh, sh.hih, rfl, q _ s1⟩
end
end KP

set_option linter.all false
set_option maxHeartbeats 4000000
set_option maxRecDepth 100000
namespace KP
open PySem L2 PyProof.Rows
/-- what belongs to each box, by its name -/
theorem by_name {α : Type} [Inhabited α] (F : Bt → α) : ∀ l : List Bt, (l.map Bt.n).Nodup → ∃ v : Str → α, ∀ b ∈ l, v b.n = F b
  | [], _ => ⟨fun _ => default, fun b h => (nomatch h)⟩
  | x :: r, h => by
    rw [List.map_cons, List.nodup_cons] at h
    obtain ⟨v, hv⟩ := by_name F r h.2
    refine ⟨fun n => if n = x.n then F x else v n, fun b hb => ?_⟩
    rcases List.mem_cons.mp hb with rfl | hb
    · show (if b.n = b.n then F b else _) = _
      rw [if_pos rfl]
    · show (if b.n = x.n then F x else v b.n) = _
      rw [if_neg (fun e => h.1 (by rw [← e]; exact List.mem_map.mpr ⟨b, hb, rfl⟩))]
      exact hv b hb
theorem sub_preL : ∀ l : List Bt, l.Sublist (preL l)
  | [] => by rw [preL_nil]; exact List.Sublist.refl _
  | x :: r => by
    rw [preL_cons, pre_eq]
    exact ((sub_preL r).trans (List.sublist_append_right _ _)).cons₂ x
theorem pre_sub : ∀ (d : Nat) {t b : Bt}, dp t ≤ d → b ∈ pre t → (pre b).Sublist (pre t)
  | 0, t, _, h, _ => by rw [dp_eq] at h; omega
  | d + 1, t, b, h, hb => by
    rw [pre_eq t] at hb ⊢
    rcases List.mem_cons.mp hb with rfl | hb
    · rw [← pre_eq b]; exact List.Sublist.refl _
    · obtain ⟨x, hx, hbx⟩ := mem_preL.mp hb
      have h1 := pre_sub d (t := x) (by have := dp_kid hx; omega) hbx
      obtain ⟨l, r, e⟩ := List.append_of_mem hx
      rw [e, preL_app, preL_cons]
      exact (h1.trans ((List.sublist_append_left _ _).trans (List.sublist_append_right _ _))).cons t
theorem kids_nd {t b : Bt} (h : (nmsT t).Nodup) (hb : b ∈ pre t) : (b.ks.map Bt.n).Nodup := by
  have h1 := pre_sub _ (Nat.le_refl _) hb
  have h2 : b.ks.Sublist (pre t) := by
    refine List.Sublist.trans ?_ h1
    rw [pre_eq b]
    exact (sub_preL b.ks).cons b
  exact (h2.map Bt.n).nodup h
theorem kid_in {t b c : Bt} (hb : b ∈ pre t) (hc : c ∈ b.ks) : c ∈ pre t := pre_trans _ (Nat.le_refl _) hb (by rw [pre_eq]; exact List.mem_cons_of_mem _ (kid_pre hc))
end KP

set_option linter.all false
set_option maxHeartbeats 4000000
set_option maxRecDepth 100000
namespace PySem.W
open PySem PySem.Calls PyProof.Rows PyProof.V PySem.Spec PySem.SeqAt PySem.MeetsSeq PySem.MeetsSeq2 PySem.MeetsSeq3
section
variable {prog : Program} {w : World} {A : Around} {E : Value → Shared → Prop} {s : Shared} {p q : Addr} {xs ys : Array Value} {m m2 : Nat} {dp dq : Option Addr} {sp sq : Array (Option Value)}
/-- the walk through two lists whose things are alike; f: 2 for ==, 3 for != -/
theorem alike_loop (hxy : xs.size = ys.size) (ne : Bool) (k : Nat) : ∀ i : Nat, xs.size - i = k → MeetsIn prog w (Builtin.«list.__eq__.loop» ⟨[.ref p, .ref q, rawInt i, rawInt (if ne then 3 else 2)], []⟩)
    (fun A R s => s.heap.get? p = some { cls := .type "list", dict := dp, data := .seq xs m, slots := sp } ∧ s.heap.get? q = some { cls := .type "list", dict := dq, data := .seq ys m2, slots := sq } ∧
      (∀ j (h1 : j < xs.size) (h2 : j < ys.size), EqW prog w A.in1 s xs[j] ys[j]) ∧ R (.ok (.ret (.bool (!ne)))) s) := by
  induction k with
  | zero =>
    intro i hi A R s ⟨gp, gq, al, fin⟩
    obtain ⟨hp, g, d, tk, os⟩ := s
    have n1 : xs[((i : Nat) : Int).toNat]? = none := by simp; omega
    have n2 : ys[((i : Nat) : Int).toNat]? = none := by simp; omega
    cases ne with
    | true =>
      show wpAny _ _ (Builtin.«list.__eq__.loop» ⟨[.ref p, .ref q, rawInt i, rawInt 3], []⟩) _ _ _
      wp_walk using PySem.AutoSeq1.wpAny_loadPart' gp, PySem.AutoSeq1.wpAny_loadPart' gq
      rw [n1, n2]
      wp_walk using PySem.AutoSeq1.wpAny_loadPart' gp, PySem.AutoSeq1.wpAny_loadPart' gq
      have e : (xs.size != ys.size) = false := by rw [hxy]; simp
      show R (.ok (.ret (.bool (xs.size != ys.size)))) _
      rw [e]; exact fin
    | false =>
      show wpAny _ _ (Builtin.«list.__eq__.loop» ⟨[.ref p, .ref q, rawInt i, rawInt 2], []⟩) _ _ _
      wp_walk using PySem.AutoSeq1.wpAny_loadPart' gp, PySem.AutoSeq1.wpAny_loadPart' gq
      rw [n1, n2]
      wp_walk using PySem.AutoSeq1.wpAny_loadPart' gp, PySem.AutoSeq1.wpAny_loadPart' gq
      have e : (xs.size == ys.size) = true := by rw [hxy]; simp
      show R (.ok (.ret (.bool (xs.size == ys.size)))) _
      rw [e]; exact fin
  | succ k ih =>
    intro i hi A R s ⟨gp, gq, al, fin⟩
    obtain ⟨hp, g, d, tk, os⟩ := s
    have l1 : i < xs.size := by omega
    have l2 : i < ys.size := by omega
    have n1 : xs[((i : Nat) : Int).toNat]? = some xs[i] := by simp [l1]
    have n2 : ys[((i : Nat) : Int).toNat]? = some ys[i] := by simp [l2]
    have up : ((i : Int) + 1) = ((i + 1 : Nat) : Int) := rfl
    have nx := ih (i + 1) (by omega) A R ⟨hp, g, d, tk, os⟩ ⟨gp, gq, al, fin⟩
    cases ne with
    | true =>
      show wpAny _ _ (Builtin.«list.__eq__.loop» ⟨[.ref p, .ref q, rawInt i, rawInt 3], []⟩) _ _ _
      replace nx : wpAny _ _ (Builtin.«list.__eq__.loop» ⟨[.ref p, .ref q, rawInt (i + 1 : Nat), rawInt 3], []⟩) _ _ _ := nx
      wp_walk using PySem.AutoSeq1.wpAny_loadPart' gp, PySem.AutoSeq1.wpAny_loadPart' gq
      rw [n1, n2]
      refine wpAny_bind (al i l1 l2 _ _ ?_)
      wp_walk
      rw [up]
      exact ⟨plainId_quiet plain_eq_loop _, codeAny_builtin entry_eq_loop (by rw [Around.under_plainId plain_eq_loop _]; exact nx)⟩
    | false =>
      show wpAny _ _ (Builtin.«list.__eq__.loop» ⟨[.ref p, .ref q, rawInt i, rawInt 2], []⟩) _ _ _
      replace nx : wpAny _ _ (Builtin.«list.__eq__.loop» ⟨[.ref p, .ref q, rawInt (i + 1 : Nat), rawInt 2], []⟩) _ _ _ := nx
      wp_walk using PySem.AutoSeq1.wpAny_loadPart' gp, PySem.AutoSeq1.wpAny_loadPart' gq
      rw [n1, n2]
      refine wpAny_bind (al i l1 l2 _ _ ?_)
      wp_walk
      rw [up]
      exact ⟨plainId_quiet plain_eq_loop _, codeAny_builtin entry_eq_loop (by rw [Around.under_plainId plain_eq_loop _]; exact nx)⟩
theorem alike_ne (hxy : xs.size = ys.size) : MeetsIn prog w (Builtin.«list.__ne__» ⟨[.ref p, .ref q], []⟩)
    (fun A R s => s.heap.get? p = some { cls := .type "list", dict := dp, data := .seq xs m, slots := sp } ∧ s.heap.get? q = some { cls := .type "list", dict := dq, data := .seq ys m2, slots := sq } ∧
      (∀ j (h1 : j < xs.size) (h2 : j < ys.size), EqW prog w A.in1 s xs[j] ys[j]) ∧ R (.ok (.ret (.bool false))) s) := by
  intro A R s ⟨gp, gq, al, fin⟩
  obtain ⟨hp, g, d, tk, os⟩ := s
  have sb := AutoSeq1.sub_list_list
  have nn : ¬ (xs.size != ys.size) = true := by simp [hxy]
  wp_walk using PySem.AutoSeq1.wpAny_loadPart' gp, PySem.AutoSeq1.wpAny_loadPart' gq
  exact ⟨plainId_quiet plain_eq_loop _, codeAny_builtin entry_eq_loop (by rw [Around.under_plainId plain_eq_loop _]; exact alike_loop hxy true _ 0 rfl A R _ ⟨gp, gq, al, fin⟩)⟩
theorem rc_ne_lists {Q : Value → Shared → Prop} (gp : s.heap.IsList p xs) (gq : s.heap.IsList q ys) (hxy : xs.size = ys.size) (hu : A.units < cLine) (al : ∀ j (h1 : j < xs.size) (h2 : j < ys.size), EqW prog w A.in1 s xs[j] ys[j]) (h : Q (.bool false) s) :
    wpAny (model prog w) A (compareOp .NotEq (.ref p) (.ref q)) Q E s := by
  obtain ⟨⟨c1, d1, b1, s1⟩, ho, hc, n1, hd⟩ := id gp
  obtain ⟨⟨c2, d2, b2, s2⟩, ho2, hc2, n2, hd2⟩ := id gq
  simp only at hc hd hc2 hd2
  subst hc hd hc2 hd2
  have t1 : s.TypeIs (.ref p) "list" := ⟨_, ho, rfl⟩
  have t2 : s.TypeIs (.ref q) "list" := ⟨_, ho2, rfl⟩
  exact wpAny_richCompare_same_room (op := .NotEq) t1 t2 F.slot_list_ne (call_meetsIn F.slot_list_ne t1 F.entry_list_ne (F.args_list_ne_2 _ _) (alike_ne hxy) ⟨ho, ho2, al, show Value.bool false ≠ Value.notImplemented ∧ Q (.bool false) s from ⟨(fun x => nomatch x), h⟩⟩) hu
end
end PySem.W

set_option linter.all false
set_option maxHeartbeats 4000000
set_option maxRecDepth 100000
namespace L2
open PySem PySem.W PySem.Spec PySem.Calls PyProof.Rows
section
variable {X : Cx}
/-- two lists of like things, dicts among them -/
def rMx (K : PySem.W.Frag) (neg : Bool) : R2 := fun x y H Q => ∃ (p b : Addr) (xs ys : List V), x = .ref p ∧ y = .ref b ∧ SqL K H p xs ∧ SqL K H b ys ∧ xs.length = ys.length ∧
  (∀ i, i < xs.length → AlkD K H (xs.getD i .non) (ys.getD i .non)) ∧ Q (.bl (!neg)) H
theorem op_neMx (hu : X.A.units + 64 < cLine) : OpR X (compareOp .NotEq) (rMx X.K true) := by
  intro pins s σ H x y v u Q I rx ry h
  obtain ⟨p, b, xs, ys, rfl, rfl, hp, hb, hl, hd, q⟩ := h
  cases rx
  cases ry
  obtain ⟨its, r1, p1, _⟩ := I.list hp
  obtain ⟨jts, r2, p2, _⟩ := I.list hb
  have l1 := r1.length
  have l2 := r2.length
  refine PySem.W.rc_ne_lists p1.isList p2.isList (by simp only [List.size_toArray]; omega) (by omega) (fun j h1 h2 => eqw_alkD I (hd j (by simp only [List.size_toArray] at h1; omega)) (A := X.A.in1) (rel_at r1 h1) (rel_at r2 h2) (by show X.A.units + 1 + 8 < cLine; omega)) ⟨.bl false, H, I, rfl, q⟩
end
section
variable {X : Cx} {e st : Expr} {te : TE} {ts : TO} {pos p2 : Pos}
/-- xs[::-1]: a new list -/
def tSlRev (K : PySem.W.Frag) (te : TE) (ts : TO) : TE := fun σ H Q => te σ H fun x H1 => ts σ H1 fun o H2 => o = some (-1) ∧ ∃ a xs, x = .ref a ∧ SqL K H2 a xs ∧ ∀ p, H2 p = none → Q (.ref p) (upd H2 p (.lst xs.reverse))
theorem pe_sliceRev (he : PE X e te) (hst : PO X (some st) ts) : PE X (.Subscript e (.Slice none none (some st) p2) pos) (tSlRev X.K te ts) := by
  intro pins s σ H Q I h
  refine Subscript_ (thn (he pins s σ H _ I h) fun v s1 ⟨x, H1, I1, r1, q1⟩ => ?_)
  refine wpAny_Slice (thn (po_none pins s1 σ H1 (fun o H' => o = none ∧ H' = H1) I1 ⟨rfl, rfl⟩) fun vl s2 ⟨l, H2, I2, pl, el, eh⟩ => thn (po_none pins s2 σ H2 (fun o H' => o = none ∧ H' = H2) I2 ⟨rfl, rfl⟩) fun vu s3 ⟨u, H3, I3, pu, eu, eh3⟩ => ?_)
  subst eh eh3 el eu
  refine thn (hst pins s3 σ H3 _ I3 q1) fun vs s4 ⟨o, H4, I4, ps, eo, a, xs, ex, hx, q⟩ => ?_
  subst eo ex
  cases r1
  have I5 : Inv X pins σ H4 { s4 with heap := s4.heap.push { cls := .type "slice", data := .fields #[vl, vu, vs] } } := I4.kept (t' := s4.toks) fun b ob q => Heap.get?_push_of_some _ q
  obtain ⟨its, r, ht, hz⟩ := I5.list hx
  have hlen := r.length
  show wpAny (model X.prog X.w) X.A (subscriptTail e (.Slice none none (some st) p2) (.ref a) (.ref s4.heap.objs.size)) (EP X pins σ Q) X.xe { s4 with heap := s4.heap.push { cls := .type "slice", data := .fields #[vl, vu, vs] } }
  refine tail_any (ops := [.ref a, .ref s4.heap.objs.size]) ht.isList.typeIs slot_list_getitem.lookup ?_ (by with_unfolding_all rfl)
  refine wpAny_getItem_list_slice ht.isList (Heap.IsSliceOf.new ..) pl pu ps (by simp) ?_ (by rw [List.size_toArray] <;> omega)
  rw [krv_pick]
  have rr : Vals xs.reverse its.reverse := by
    clear hlen hz ht hx I5 q1 q
    induction r with
    | nil => exact .nil
    | cons r1 r2 ih => rw [List.reverse_cons, List.reverse_cons]; exact Vals.append ih (.cons r1 .nil)
  refine ⟨.ref _, _, I5.laid (t' := s4.toks) (o := .lst xs.reverse) (fun b ob q => Heap.get?_push_of_some _ q) (Nat.le_refl _) ⟨by rw [List.length_reverse]; exact hz, its.reverse, 0, rr, Heap.get?_push_size _ rfl⟩, rfl, q _ ?_⟩
  have : H4 { s4 with heap := s4.heap.push { cls := .type "slice", data := .fields #[vl, vu, vs] } }.heap.objs.size = none := I5.hok.fresh (Nat.le_refl _)
  exact this
end
end L2

set_option linter.all false
set_option maxHeartbeats 4000000
set_option maxRecDepth 100000
namespace KP
open PySem L2 PyProof.Rows
/-- what stays through the loop -/
structure Wd (K : PySem.W.Frag) (a st sd nd : Addr) (ns : List Int) (t : Bt) (f : Str → Sh) (g : Str → Addr) (nv : Str → Int × Int) (H : Hp) : Prop where
  state : St st H
  sc : SqL K H a (ns.map V.int)
  off : Off K a st (ns.map V.int)
  bt : BtAt H t
  sh : Shs H sd (nmsT t) f
  nd : H nd = some (.dK (dN (nmsT t) g))
  pr : ∀ b ∈ pre t, PrAt H (g b.n, nv b.n)
theorem Wd.ms {K : PySem.W.Frag} {a st sd nd : Addr} {ns : List Int} {t : Bt} {f : Str → Sh} {g : Str → Addr} {nv : Str → Int × Int} {H H' : Hp} (h : Wd K a st sd nd ns t f g nv H) (m : Ms st H H') : Wd K a st sd nd ns t f g nv H' :=
  have ne : nd ≠ st := fun z => by obtain ⟨s, e, _⟩ := h.state; have := h.nd; rw [z, e] at this; cases this
  have tp : Tups H H' := .ms h.state m
  ⟨m.st, m.seq h.off h.sc, h.off, h.bt.tups tp, h.sh.ms h.state m, m.keep _ _ ne h.nd, fun b hb => tp _ _ (h.pr b hb)⟩
theorem Wd.same {K : PySem.W.Frag} {a st sd nd : Addr} {ns : List Int} {t : Bt} {f : Str → Sh} {g : Str → Addr} {nv : Str → Int × Int} {H H' : Hp} (h : Wd K a st sd nd ns t f g nv H) (s : Same H H') : Wd K a st sd nd ns t f g nv H' := h.ms (.of h.state s)
section
variable {P : Program} {w : World} {K : PySem.W.Frag} {mg : Str → Option Value} {base : Heap} {A : Adr}
def spLaw (K : PySem.W.Frag) : Sp := fun vs H Q _ => ∃ (a : Addr) (ns : List Int), vs = [.ref a] ∧ SqL K H a (ns.map V.int) ∧ ns.length ≤ 63 ∧ ∀ H', Q (.bl true) H'
abbrev sc_law_0 : Scope := (match defBody s_law with | _ :: _ :: _ :: _ :: _ :: _ :: (.For _ _ (_ :: _ :: (.Assign _ (.Call _ ((.ListComp _ _ sc _) :: _) _ _) _) :: _) _ _) :: _ => sc | _ => defScope s_law)
theorem blk_law_0 : Blk (defScope s_law) N_law sc_law_0 ["_law_kid"] [1] := ⟨rfl, by decide +kernel, by decide +kernel, by decide +kernel, by decide +kernel⟩
theorem nd_law_0 : (capN N_law ["_law_kid"] [1]).Nodup := by decide +kernel
seal PE PS PSs PA PT PI PG in
theorem ok_law (T : Txt K mg A) (hw : A.wd = w) : FnOk P w K mg base CX0 10 A.f_law A.d_law P_law (spLaw K) := by
  have G_l_mix : FnOk P w K mg base CX0 9 A.f_l_mix A.d_l_mix P_l_mix spMix := (ok_mix T).mono (by omega)
  have G_l_cell : FnOk P w K mg base CX0 9 A.f_l_cell A.d_l_cell P_l_cell (spCell K) := (ok_cell T).mono (by omega)
  have G_l_doc : FnOk P w K mg base CX0 9 A.f_l_doc A.d_l_doc P_l_doc spDoc := (ok_doc T).mono (by omega)
  have G_l_shapes : FnOk P w K mg base CX0 9 A.f_l_shapes A.d_l_shapes P_l_shapes (spShapes 5) := (ok_shapes T hw 5).mono (by omega)
  have G_needs_of : FnOk P w K mg base CX0 9 A.f_needs_of A.d_needs_of P_needs_of spNeedsOf := (ok_needs_of T).mono (by omega)
  have G_l_all : FnOk P w K mg base CX0 9 A.f_l_all A.d_l_all P_l_all (spAll 5) := (ok_all T 5).mono (by omega)
  have G_lines_of : FnOk P w K mg base CX0 9 A.f_lines_of A.d_lines_of P_lines_of spLines := (ok_lines_of T).mono (by omega)
  have G_l_natural : FnOk P w K mg base CX0 9 A.f_l_natural A.d_l_natural P_l_natural spLNatural := (ok_l_natural T).mono (by omega)
  have G_natural_of : FnOk P w K mg base CX0 9 A.f_natural_of A.d_natural_of P_natural_of spNatOf := (ok_natural_of T).mono (by omega)
  have G_l_whole : FnOk P w K mg base CX0 9 A.f_l_whole A.d_l_whole P_l_whole spWhole := (ok_whole T).mono (by omega)
  refine T.F_law.ok sc_law (fun vs H Q E h => ?_) (fun cdv B outer s H vs Q E hr h => ?_)
  · obtain ⟨a, ns, rfl, _⟩ := h; rfl
  obtain ⟨a, ns, rfl, hS, hn, q⟩ := h
  refine ⟨_, @pss_cons _ _ _ _ _ (ps_set (i := 1) sc_law.nd rfl (Or.inr rfl) (pe_lst (pa_cons (pe_op op_add pe_int (pe_op op_mod (pe_call G_l_cell hr rfl T.m_l_cell T.F_l_cell.kp T.b_l_cell .nil pass0 (pa_cons (pv 0) (pa_cons pe_int pa_nil))) pe_int)) pa_nil)))
    (@pss_cons _ _ _ _ _ (ps_set (i := 2) sc_law.nd rfl (Or.inl rfl) (pe_call G_l_doc hr rfl T.m_l_doc T.F_l_doc.kp T.b_l_doc .nil pass0 (pa_cons (pv 1) (pa_cons (pe_op op_add pe_int (pe_op op_mod (pe_call G_l_mix hr rfl T.m_l_mix T.F_l_mix.kp T.b_l_mix .nil pass0 (pa_cons (pv 1) (pa_cons (pe_call G_l_cell hr rfl T.m_l_cell T.F_l_cell.kp T.b_l_cell .nil pass0 (pa_cons (pv 0) (pa_cons pe_int pa_nil))) pa_nil))) pe_int)) pa_nil))))
    (@pss_cons _ _ _ _ _ (ps_set (i := 3) sc_law.nd rfl (Or.inl rfl) (pe_call G_l_shapes hr rfl T.m_l_shapes T.F_l_shapes.kp T.b_l_shapes .nil pass0 (pa_cons (pv 1) (pa_cons (pv 2) pa_nil))))
    (@pss_cons _ _ _ _ _ (ps_set (i := 4) sc_law.nd rfl (Or.inl rfl) (pe_call G_needs_of hr rfl T.m_needs_of T.F_needs_of.kp T.b_needs_of .nil pass0 (pa_cons (pv 2) (pa_cons (pv 3) pa_nil))))
    (@pss_cons _ _ _ _ _ (ps_set (i := 5) sc_law.nd rfl (Or.inl rfl) (pe_call G_l_all hr rfl T.m_l_all T.F_l_all.kp T.b_l_all .nil pass0 (pa_cons (pv 2) pa_nil)))
    (@pss_cons _ _ _ _ _ (ps_if (pt_cmpR op_eq (pe_op op_mod (pe_call G_l_cell hr rfl T.m_l_cell T.F_l_cell.kp T.b_l_cell .nil pass0 (pa_cons (pv 0) (pa_cons pe_int pa_nil))) pe_int) pe_int (nomark _)) (pss_one (ps_set (i := 5) sc_law.nd rfl (Or.inl rfl) (pe_sliceRev (pv 5) (po_some (pe_un un_neg pe_int))))) pss_nil)
    (@pss_cons _ _ _ _ _ (ps_for PassesOwn.never rfl (pi_list (pe_op op_cat (pv 5) (pe_slice sl_list (pv 5) po_none (po_some pe_int)))) (pg_name (i := 6) sc_law.nd rfl (Or.inl rfl)) (@pss_cons _ _ _ _ _ (ps_set (i := 7) sc_law.nd rfl (Or.inl rfl) (pe_op op_mod (pe_call G_l_mix hr rfl T.m_l_mix T.F_l_mix.kp T.b_l_mix .nil pass0 (pa_cons (pv 1) (pa_cons (pe_call G_l_cell hr rfl T.m_l_cell T.F_l_cell.kp T.b_l_cell .nil pass0 (pa_cons (pv 0) (pa_cons pe_int pa_nil))) pa_nil))) pe_int))
    (@pss_cons _ _ _ _ _ (ps_set (i := 8) sc_law.nd rfl (Or.inl rfl) (pe_call G_lines_of hr rfl T.m_lines_of T.F_lines_of.kp T.b_lines_of .nil pass0 (pa_cons (pv 6) (pa_cons (pv 3) (pa_cons (pv 4) (pa_cons (pv 7) pa_nil))))))
    (@pss_cons _ _ _ _ _ (ps_set (i := 9) sc_law.nd rfl (Or.inl rfl) (pe_callTy (call_dictP rfl) rfl T.n_dict b_dict (pa_cons (pe_comp blk_law_0 rfl (pi_seq (pe_ix ix_tup (pv 6) pe_int (fun _ _ => rfl))) (fun _ _ _ _ _ => pg_name (i := 0) nd_law_0 rfl (.inl rfl)) (fun _ _ _ _ _ => pif_nil) (fun _ _ _ _ _ => pe_tup (pa_cons (pe_ix (ix_tupK (K := K) rfl) (pv 0) pe_int (fun _ _ => rfl)) (pa_cons (pe_op op_mod (pe_call G_l_mix hr rfl T.m_l_mix T.F_l_mix.kp T.b_l_mix .nil pass0 (pa_cons (pv 1) (pa_cons pe_int pa_nil))) pe_int) pa_nil)))) pa_nil)))
    (@pss_cons _ _ _ _ _ (ps_set (i := 10) sc_law.nd rfl (Or.inl rfl) (pe_lst (pa_cons (pe_callTy call_list_of rfl T.n_list b_list (pa_cons (pv 8) pa_nil)) (pa_cons (pe_callTy call_dict rfl T.n_dict b_dict (pa_cons (pv 9) pa_nil)) pa_nil))))
    (@pss_cons _ _ _ _ _ (ps_set (i := 11) sc_law.nd rfl (Or.inl rfl) (pe_call G_l_natural hr rfl T.m_l_natural T.F_l_natural.kp T.b_l_natural .nil pass0 (pa_cons (pv 6) (pa_cons (pe_dget (hu_of hr) (pv 3) (pe_ix ix_tup (pv 6) pe_int (fun _ _ => rfl)) (fun _ _ => rfl)) (pa_cons (pv 9) (pa_cons (pv 8) (pa_cons (pv 7) pa_nil)))))))
    (@pss_cons _ _ _ _ _ (ps_for PassesOwn.never rfl (pi_range1 rfl T.n_range (pa_cons pe_int pa_nil)) (pg_name (i := 12) sc_law.nd rfl (Or.inl rfl)) (@pss_cons _ _ _ _ _ (ps_set (i := 13) sc_law.nd rfl (Or.inl rfl) (pe_call G_natural_of hr rfl T.m_natural_of T.F_natural_of.kp T.b_natural_of .nil pass0 (pa_cons (pv 6) (pa_cons (pv 3) (pa_cons (pv 9) (pa_cons (pv 8) (pa_cons (pv 7) pa_nil)))))))
    (pss_one (ps_if (PW.pt (pw_or (pt_not (pt_val (pe_call G_l_whole hr rfl T.m_l_whole T.F_l_whole.kp T.b_l_whole .nil pass0 (pa_cons (pv 13) pa_nil)))) (pw_or1 (pt_cmpR op_ne (pv 13) (pv 11) (nomark _))))) (pss_one (ps_ret pe_bl)) pss_nil))))
    (pss_one (ps_if (pt_cmpR (op_neMx hr.units) (pe_lst (pa_cons (pv 8) (pa_cons (pv 9) pa_nil))) (pv 10) (nomark _)) (pss_one (ps_ret pe_bl)) pss_nil)))))))))
    (pss_one (ps_ret pe_bl)))))))), ?_⟩
  refine ⟨_, rfl, a, ns, 0, rfl, hS, hn, by decide, fun c0 => ⟨_, _, rfl, rfl, (by show (0:Int) < 2147483646; decide), _, _, rfl, rfl, small (by simp), fun st hst => ?_⟩⟩
  have hSt := St.mk' (H := H) (st := st) c0
  have off := Off.of (K := K) hS hst
  have s1 : Same H (upd H st (.lst [.int (1 + c0 % 2147483646)])) := same_upd hst _
  generalize upd H st (.lst [.int (1 + c0 % 2147483646)]) = H1 at hSt s1 ⊢
  have hS1 := s1.seq hS
  refine ⟨_, rfl, _, rfl, _, rfl, a, ns, 1, rfl, hS1, hn, by decide, fun c1 => ⟨st, c1, rfl, hSt, fun r H2 r0 r1 m2 _ => ⟨_, _, rfl, rfl, (by show (0:Int) < 11; decide), _, _, rfl, rfl, ?_⟩⟩⟩
  have hS2 := m2.seq off hS1
  refine ⟨st, (2 + r % 11).toNat, (by rw [Int.toNat_of_nonneg (by omega)]; rfl), m2.st, by omega, by omega, fun t H3 m3 bt dt h12 hnd h8 => ?_⟩
  have hS3 := m3.seq off hS2
  refine ⟨_, rfl, _, rfl, st, t, rfl, m3.st, bt, dt, by omega, hnd, fun sd f H4 m4 fsd S hfr => ?_⟩
  have hS4 := m4.seq off hS3
  have bt4 := bt.tups (.ms m3.st m4)
  have hns : ∀ b ∈ pre t, b.n ∈ nmsT t := fun b hb => List.mem_map.mpr ⟨b, hb, rfl⟩
  refine ⟨_, rfl, _, rfl, t, sd, nmsT t, f, rfl, bt4, S, hns, by omega, hnd, fun nd g H5 fnd s5 e5 p5 => ?_⟩
  obtain ⟨nv, hnv⟩ := by_name (N f) (pre t) hnd
  have W5 : Wd K a st sd nd ns t f g nv H5 := ⟨(Ms.of m4.st s5).st, s5.seq hS4, off, bt4.same s5, S.same s5, e5, fun b hb => by rw [hnv b hb]; exact p5 b hb⟩
  clear p5 e5 s5 hS4 bt4 S hfr fsd m4 bt m3 m2 hS3 hS2 hS1 hSt s1 hS
  refine ⟨_, rfl, t, rfl, W5.bt, dt, by omega, fun bl H6 fbl s6 e6 => ?_⟩
  have W6 := W5.same s6
  clear W5
  dsimp only [gName]
  show tSeq _ _ _ [some (.ref a), some (.ref st), some (.ref t.a), some (.ref sd), some (.ref nd), some (.ref bl), none, none, none, none, none, none, none, none] H6
  refine seq_joinI (fun σ' H' => ∃ (bl : Addr) (bs : List Bt), σ' = [some (.ref a), some (.ref st), some (.ref t.a), some (.ref sd), some (.ref nd), some (.ref bl), none, none, none, none, none, none, none, none] ∧ Wd K a st sd nd ns t f g nv H' ∧ H' bl = some (.lst (rfs bs)) ∧ (∀ b ∈ bs, b ∈ pre t) ∧ bs.length ≤ 12) (fun N' hN => ?_) ?_
  · refine ⟨_, rfl, a, ns, 2, rfl, W6.sc, hn, by decide, fun c2 => ⟨_, _, rfl, rfl, (by show (0:Int) < 2; decide), rfl, _, rfl, ite2 (fun c => ?_) (fun c => ?_)⟩⟩
    · refine ⟨_, rfl, _, rfl, _, rfl, rfl, bl, _, rfl, .of e6, fun p hp => hN _ _ ⟨p, (pre t).reverse, rfl, W6.same (same_upd hp _), by rw [upd_same, ← List.map_reverse], fun b hb => List.mem_reverse.mp hb, by rw [List.length_reverse]; exact h12⟩⟩
    · exact hN _ _ ⟨bl, pre t, rfl, W6, e6, fun b hb => hb, h12⟩
  clear W6 e6 fbl
  rintro σ' H7 ⟨bl, bs, rfl, W7, e7, hbs, lbs⟩
  have cut1 : cutV (rfs bs) none (some 1) = rfs (bs.take 1) := by rw [cut_take _ _ (by decide)]; show (bs.map _).take 1 = _; rw [← List.map_take]
  refine ⟨_, rfl, _, rfl, _, rfl, bl, _, rfl, .of e7, fun b1 hb1 => ?_⟩
  rw [cut1]
  refine ⟨bl, b1, _, _, rfl, rfl, same_upd hb1 _ _ _ e7, upd_same, by rw [List.length_map, List.length_map, List.length_take]; exact small (by omega), fun ll hll => ?_⟩
  rw [← List.map_append]
  have W8 := (W7.same (same_upd hb1 (.lst (rfs (bs.take 1))))).same (same_upd hll (.lst (rfs (bs ++ bs.take 1))))
  have e8 : upd (upd H7 b1 (.lst (rfs (bs.take 1)))) ll (.lst (rfs (bs ++ bs.take 1))) ll = some (.lst (rfs (bs ++ bs.take 1))) := upd_same
  have nls : ll ≠ st := (W7.same (same_upd hb1 (.lst (rfs (bs.take 1))))).state.ne hll
  have hbs2 : ∀ b ∈ bs ++ bs.take 1, b ∈ pre t := fun b hb => by
    rcases List.mem_append.mp hb with hb | hb
    · exact hbs b hb
    · exact hbs b (List.mem_of_mem_take hb)
  generalize upd (upd H7 b1 (.lst (rfs (bs.take 1)))) ll (.lst (rfs (bs ++ bs.take 1))) = H8 at W8 e8 ⊢
  generalize bs ++ bs.take 1 = bs2 at hbs2 e8 ⊢
  clear W7 e7 hb1 hll hbs lbs cut1
  refine ⟨ll, rfl, ⟨_, .of e8⟩, for_list (K := K) (a := ll) (xs := rfs bs2) (fun i σ H' => ∃ v6 v7 v8 v9 v10 v11 v12 v13 : Option V, σ = [some (.ref a), some (.ref st), some (.ref t.a), some (.ref sd), some (.ref nd), some (.ref bl), v6, v7, v8, v9, v10, v11, v12, v13] ∧ Wd K a st sd nd ns t f g nv H' ∧ H' ll = some (.lst (rfs bs2)))
    ⟨_, _, _, _, _, _, _, _, rfl, W8, e8⟩ (fun i σ H' _ ⟨_, _, _, _, _, _, _, _, _, _, e⟩ => .of e) ?_ ?_⟩
  · clear W8 e8
    rintro i x σ H1 hx ⟨v6, v7, v8, v9, v10, v11, v12, v13, rfl, W1, e1⟩
    obtain ⟨b, hbi, rfl⟩ := rfs_at hx
    have hb := hbs2 b (List.mem_of_getElem? hbi)
    have hbn := hns b hb
    clear hbi hx
    refine ⟨_, rfl, _, rfl, a, ns, 3, rfl, W1.sc, hn, by decide, fun c3 => ⟨st, c3, rfl, W1.state, fun r3 H2 _ _ m2 _ => ⟨_, _, rfl, rfl, (by show (0:Int) < 30; decide), ?_⟩⟩⟩
    have W2 := W1.ms m2
    have e2 := m2.keep _ _ nls e1
    have h40 : b.ks.length ≤ 40 := Nat.le_trans (ks_le hb) (by omega)
    have bk2 : Bk H2 sd (nmsT t) f b := ⟨W2.bt b hb, fun c hc => W2.bt c (kid_in hb hc), W2.sh, hbn, fun c hc => hns c (kid_in hb hc), h40⟩
    have kd2 : Kd H2 nd (nmsT t) g nv b := ⟨W2.nd, fun c hc => hns c (kid_in hb hc), fun c hc => W2.pr c (kid_in hb hc)⟩
    dsimp only [gName]
    show tSeq _ _ _ [some (.ref a), some (.ref st), some (.ref t.a), some (.ref sd), some (.ref nd), some (.ref bl), some (.ref b.a), some (.int (r3 % 30)), v8, v9, v10, v11, v12, v13] H2
    generalize r3 % 30 = wide
    refine ⟨_, rfl, _, rfl, _, rfl, _, rfl, b, sd, nd, nmsT t, nmsT t, f, g, nv, wide, rfl, bk2, kd2, fun la ls H3 L3 el3 => ?_⟩
    have s3 := L3.lis.same
    have W3 := W2.same s3
    have e3 := s3 _ _ e2
    have hgr : b.k = "grid" → 1 ≤ more1 b.m := fun ek => by
      obtain ⟨i, ei, i1, _⟩ := bk2.nd.mo.gr ek
      rw [ei]; exact i1
    have G := lns_good f nv b wide hgr
    rw [← el3] at G
    have inm : ∀ p ∈ ls, p.2 ∈ ls.map (·.2) := fun p hp => List.mem_map.mpr ⟨p, hp, rfl⟩
    have lv3 : Lv H3 la ls b.ks.length := ⟨L3.ad, L3.lis.at_, fun p hp => G.lt _ (inm p hp), fun p hp => Nat.le_trans (G.few _ (inm p hp)) h40, by have := G.len; rw [List.length_map] at this; omega⟩
    have hne : ∀ p ∈ ls, p.2 ≠ [] := fun p hp => G.ne _ (inm p hp)
    obtain ⟨tg, kt, b3, b4⟩ := (W3.bt b hb).ex
    have knd := kids_nd hnd hb
    have lkn : (b.ks.map Bt.n).length = b.ks.length := List.length_map _
    refine ⟨_, rfl, b.a, _, _, _, rfl, rfl, .of b3, rfl, kt, rfl, .inr ⟨⟨_, .of b4⟩, ?_⟩⟩
    refine blk_tup (xs := rfs b.ks) (fun i acc H' => ∃ (ts : List Addr) (hv : Str → Int), acc = ts.map V.ref ∧ ts.length = i ∧ i ≤ 40 ∧ Ms st H3 H' ∧ PrsAt H' ts (((b.ks.map Bt.n).take i).map fun n => (Sum.inr n, V.int (hv n))))
      ⟨[], fun _ => 0, rfl, rfl, Nat.zero_le _, .of W3.state (.refl _), .nil⟩ (fun i acc H' ⟨_, _, _, _, _, m, _⟩ => .of (Tups.ms W3.state m _ _ b4)) (fun i acc H' ⟨_, _, ea, el, hi, _⟩ => ?_) (fun i x acc H' R k hx z => ?_) fun acc H' z => ?_
    · rw [ea, List.length_map, el]; exact small1000 (by omega)
    · obtain ⟨ts, hv, rfl, el, hi, m4, pr⟩ := z
      obtain ⟨c, hc, rfl⟩ := rfs_at hx
      have hcm := List.mem_of_getElem? hc
      have hcn : (b.ks.map Bt.n)[i]? = some c.n := by rw [List.getElem?_map, hc]; rfl
      have hnew := new_at knd hcn
      have W4 := W3.ms m4
      obtain ⟨tg', kt', c1, c2⟩ := (W4.bt c (kid_in hb hcm)).ex
      dsimp only [tYes]; rw [if_pos rfl]
      refine ⟨_, rfl, c.a, _, _, _, rfl, rfl, .of c1, rfl, _, rfl, st, 0, rfl, W4.state, fun r5 H5 _ _ m5 _ => ⟨_, _, rfl, rfl, (by show (0:Int) < 9; decide), small (by simp), fun tt ht => k _ _ ?_⟩⟩
      let hv' : Str → Int := fun n => if n = c.n then r5 % 9 else hv n
      have fe : hv' c.n = r5 % 9 := if_pos rfl
      have fo : ∀ m ∈ (b.ks.map Bt.n).take i, hv' m = hv m := fun m hm => if_neg fun z => hnew (by rw [← z]; exact hm)
      have s6 := same_upd ht (.tup [.str c.n, .int (r5 % 9)])
      refine ⟨ts ++ [tt], hv', by rw [List.map_append]; rfl, by rw [List.length_append, el]; rfl, ?_, (m4.trans m5).grow s6, ?_⟩
      · have := (List.getElem?_eq_some_iff.mp hc).1; omega
      · rw [take_snoc hcn, List.map_append, List.map_congr_left (g := fun n => ((Sum.inr n : Key), V.int (hv n))) fun m hm => by rw [fo m hm]]
        refine (pr.same fun b xs e => s6 _ _ (Tups.ms W4.state m5 _ _ e)).append (.cons ?_ .nil)
        show _ = some (HO.tup [V.str c.n, V.int (hv' c.n)])
        rw [fe]; exact upd_same
    obtain ⟨ts, hv, rfl, el, hi, m4, pr⟩ := z
    rw [List.length_map, ← lkn, List.take_length] at pr
    intro l4 hl4
    have s5 := same_upd hl4 (.lst (ts.map V.ref))
    have kvn : (((b.ks.map Bt.n).map fun n => ((Sum.inr n : Key), V.int (hv n))).map (·.1)).Nodup := by
      rw [List.map_map]
      exact List.pairwise_map.mpr (List.Pairwise.imp (fun h z => h (by injection z)) knd)
    refine ⟨l4, ts, _, rfl, upd_same, pr.same fun b xs e => s5 _ _ e, by rw [List.length_map, List.length_map]; omega, fun nt hnt => ?_⟩
    rw [mergeK_nd kvn]
    have s6 := same_upd hnt (.dK ((b.ks.map Bt.n).map fun n => ((Sum.inr n : Key), V.int (hv n))))
    have m6 := m4.grow (s5.trans s6)
    have W6 := W3.ms m6
    have e6 := m6.keep _ _ nls e3
    have ent : upd (upd H' l4 (.lst (ts.map V.ref))) nt (.dK ((b.ks.map Bt.n).map fun n => ((Sum.inr n : Key), V.int (hv n)))) nt = some (.dK ((b.ks.map Bt.n).map fun n => ((Sum.inr n : Key), V.int (hv n)))) := upd_same
    have lv6 : Lv _ la ls b.ks.length := ⟨m6.keep _ _ (W2.state.ne L3.fr) lv3.ad, fun p hp => m6.keep _ _ (W2.state.ne (L3.lis.frs p hp)) (lv3.at_ p hp), lv3.lt, lv3.few, lv3.len⟩
    have nt6 : Nt _ nt (b.ks.map Bt.n) hv b := ⟨ent, fun c hc => List.mem_map.mpr ⟨c, hc, rfl⟩⟩
    dsimp only [gName]
    generalize upd (upd H' l4 (.lst (ts.map V.ref))) nt (.dK ((b.ks.map Bt.n).map fun n => ((Sum.inr n : Key), V.int (hv n)))) = H6 at W6 e6 ent lv6 nt6 ⊢
    clear m6 s6 s5 pr hl4 hnt m4 W3 lv3 e3 b3 b4 s3 L3 W2 e2 bk2 kd2 W1 e1 m2
    show tSeq _ _ _ [some (.ref a), some (.ref st), some (.ref t.a), some (.ref sd), some (.ref nd), some (.ref bl), some (.ref b.a), some (.int wide), some (.ref la), some (.ref nt), v10, v11, v12, v13] H6
    refine ⟨_, rfl, la, _, rfl, .inl (.of lv6.ad), fun la2 hla2 => ⟨_, rfl, nt, _, rfl, same_upd hla2 _ _ _ ent, fun nt2 hnt2 => ⟨small (by simp), fun hd hhd => ?_⟩⟩⟩
    have k1 := same_upd hla2 (.lst (ls.map fun p => V.ref p.1))
    have k2 := same_upd hnt2 (.dK ((b.ks.map Bt.n).map fun n => ((Sum.inr n : Key), V.int (hv n))))
    have k3 := same_upd hhd (.lst [.ref la2, .ref nt2])
    have k := k1.trans (k2.trans k3)
    have ela2 := k3 _ _ (k2 _ _ (show upd H6 la2 (.lst (ls.map fun p => V.ref p.1)) la2 = _ from upd_same))
    have ent2 := k3 _ _ (show upd (upd H6 la2 (.lst (ls.map fun p => V.ref p.1))) nt2 (.dK ((b.ks.map Bt.n).map fun n => ((Sum.inr n : Key), V.int (hv n)))) nt2 = _ from upd_same)
    have ehd : upd (upd (upd H6 la2 (.lst (ls.map fun p => V.ref p.1))) nt2 (.dK ((b.ks.map Bt.n).map fun n => ((Sum.inr n : Key), V.int (hv n))))) hd (.lst [.ref la2, .ref nt2]) hd = _ := upd_same
    dsimp only [gName]
    generalize upd (upd (upd H6 la2 (.lst (ls.map fun p => V.ref p.1))) nt2 (.dK ((b.ks.map Bt.n).map fun n => ((Sum.inr n : Key), V.int (hv n))))) hd (.lst [.ref la2, .ref nt2]) = H8 at k ela2 ent2 ehd ⊢
    clear k1 k2 k3 hla2 hnt2 hhd
    have W8 := W6.same k
    have e8 := k _ _ e6
    have lv8 := lv6.same k
    have nt8 := nt6.same k
    clear W6 e6 lv6 nt6 k ent
    have bx8 : Bx H8 b := ⟨W8.bt b hb, fun c hc => W8.bt c (kid_in hb hc), h40⟩
    obtain ⟨tg, kt, b3, b4⟩ := bx8.nd.ex
    show tSeq _ _ _ [some (.ref a), some (.ref st), some (.ref t.a), some (.ref sd), some (.ref nd), some (.ref bl), some (.ref b.a), some (.int wide), some (.ref la), some (.ref nt), some (.ref hd), v11, v12, v13] H8
    refine ⟨_, rfl, _, rfl, _, rfl, b.a, _, _, _, rfl, rfl, .of b3, rfl, sd, _, rfl, W8.sh.get hbn, _, rfl, _, rfl, _, rfl, b, f b.n, nt, la, b.ks.map Bt.n, hv, ls, wide, rfl, bx8, W8.sh.at_ _ hbn, nt8, lv8, hne, fun H9 s9 => ?_⟩
    have edue : lim (szH (f b.n) (inL (f b.n) b hv (Ln ls) wide)) (f b.n).loh (f b.n).hih = natV (f b.n) b hv (Ln ls) wide := by
      unfold natV Ln
      rw [el3, inL_eq _ _ _ _ _ _ _ hgr]
    rw [edue]
    dsimp only [gName]
    show tSeq _ _ _ [some (.ref a), some (.ref st), some (.ref t.a), some (.ref sd), some (.ref nd), some (.ref bl), some (.ref b.a), some (.int wide), some (.ref la), some (.ref nt), some (.ref hd), some (.int (natV (f b.n) b hv (Ln ls) wide)), v12, v13] H9
    refine ⟨2, rfl, by decide, by decide, for_range (n := 2) (fun i σ H' => ∃ v12 v13 : Option V, σ = [some (.ref a), some (.ref st), some (.ref t.a), some (.ref sd), some (.ref nd), some (.ref bl), some (.ref b.a), some (.int wide), some (.ref la), some (.ref nt), some (.ref hd), some (.int (natV (f b.n) b hv (Ln ls) wide)), v12, v13] ∧ Same H8 H')
      ⟨_, _, rfl, s9⟩ ?_ ?_⟩
    · rintro j σ H10 hj ⟨v12, v13, rfl, s10⟩
      refine ⟨_, rfl, _, rfl, _, rfl, _, rfl, _, rfl, b, sd, nt, la, nmsT t, b.ks.map Bt.n, f, hv, ls, wide, rfl, bx8.same s10, W8.sh.same s10, hbn, nt8.same s10, lv8.same s10, fun H11 s11 => ?_⟩
      refine ⟨_, rfl, _, rfl, true, rfl, iteF ⟨_, rfl, _, rfl, rfl, _, rfl, iteNS rfl ⟨_, _, rfl, s10.trans s11⟩⟩⟩
    rintro σ H10 ⟨v12, v13, rfl, s10⟩
    have kvn2 := kvn
    refine ⟨_, rfl, _, rfl, small (by simp), fun x hx => ?_⟩
    have s11 := s10.trans (same_upd hx (.lst [.ref la, .ref nt]))
    refine ⟨_, rfl, x, hd, [.ref la, .ref nt], [.ref la2, .ref nt2], rfl, rfl, .of upd_same, .of (s11 _ _ ehd), rfl, fun i hi => ?_, _, rfl, iteF ⟨_, _, _, _, _, _, _, _, rfl, W8.same s11, s11 _ _ e8⟩⟩
    match i, hi with
    | 0, _ => exact .alk (.lst (.of (s11 _ _ lv8.ad)) (.of (s11 _ _ ela2)) (List.all_eq_true.mpr fun x hx => by obtain ⟨y, _, rfl⟩ := List.mem_map.mp hx; rfl))
    | 1, _ => exact .dic (s11 _ _ nt8.ad) (s11 _ _ ent2) rfl fun kv hk => ⟨kv.2, valV_of kvn kv hk, by obtain ⟨n, _, rfl⟩ := List.mem_map.mp hk; exact .same rfl⟩
  · rintro σ H1 ⟨v6, v7, v8, v9, v10, v11, v12, v13, rfl, W1, e1⟩
    exact q _
end
end KP

set_option Elab.async false
set_option linter.all false
set_option maxHeartbeats 4000000
set_option maxRecDepth 100000
namespace KP
open PySem L2 PyProof.Rows
theorem txt_mk {K : PySem.W.Frag} {h : Heap} {mg : Str → Option Value} (X : K.In h) (G : h.Ns mainGlobals mg) (w : World)
    {f1 : Addr} {od1 an1 : Option Addr} {sl1 : Array (Option Value)} {oc1 kV1 dc1 pm1 cd1 ct1 : Value}
    {f2 : Addr} {od2 an2 : Option Addr} {sl2 : Array (Option Value)} {oc2 kV2 dc2 pm2 cd2 ct2 : Value}
    {f3 : Addr} {od3 an3 : Option Addr} {sl3 : Array (Option Value)} {oc3 kV3 dc3 pm3 cd3 ct3 : Value}
    {f4 : Addr} {od4 an4 : Option Addr} {sl4 : Array (Option Value)} {oc4 kV4 dc4 pm4 cd4 ct4 : Value}
    {f5 : Addr} {od5 an5 : Option Addr} {sl5 : Array (Option Value)} {oc5 kV5 dc5 pm5 cd5 ct5 : Value}
    {f6 : Addr} {od6 an6 : Option Addr} {sl6 : Array (Option Value)} {oc6 kV6 dc6 pm6 cd6 ct6 : Value}
    {f7 : Addr} {od7 an7 : Option Addr} {sl7 : Array (Option Value)} {oc7 kV7 dc7 pm7 cd7 ct7 : Value}
    {f8 : Addr} {od8 an8 : Option Addr} {sl8 : Array (Option Value)} {oc8 kV8 dc8 pm8 cd8 ct8 : Value}
    {f9 : Addr} {od9 an9 : Option Addr} {sl9 : Array (Option Value)} {oc9 kV9 dc9 pm9 cd9 ct9 : Value}
    {f10 : Addr} {od10 an10 : Option Addr} {sl10 : Array (Option Value)} {oc10 kV10 dc10 pm10 cd10 ct10 : Value}
    {f11 : Addr} {od11 an11 : Option Addr} {sl11 : Array (Option Value)} {oc11 kV11 dc11 pm11 cd11 ct11 : Value}
    {f12 : Addr} {od12 an12 : Option Addr} {sl12 : Array (Option Value)} {oc12 kV12 dc12 pm12 cd12 ct12 : Value}
    {f13 : Addr} {od13 an13 : Option Addr} {sl13 : Array (Option Value)} {oc13 kV13 dc13 pm13 cd13 ct13 : Value}
    {f14 : Addr} {od14 an14 : Option Addr} {sl14 : Array (Option Value)} {oc14 kV14 dc14 pm14 cd14 ct14 : Value}
    {f15 : Addr} {od15 an15 : Option Addr} {sl15 : Array (Option Value)} {oc15 kV15 dc15 pm15 cd15 ct15 : Value}
    {f16 : Addr} {od16 an16 : Option Addr} {sl16 : Array (Option Value)} {oc16 kV16 dc16 pm16 cd16 ct16 : Value}
    {f17 : Addr} {od17 an17 : Option Addr} {sl17 : Array (Option Value)} {oc17 kV17 dc17 pm17 cd17 ct17 : Value}
    {f18 : Addr} {od18 an18 : Option Addr} {sl18 : Array (Option Value)} {oc18 kV18 dc18 pm18 cd18 ct18 : Value}
    {f19 : Addr} {od19 an19 : Option Addr} {sl19 : Array (Option Value)} {oc19 kV19 dc19 pm19 cd19 ct19 : Value}
    {f20 : Addr} {od20 an20 : Option Addr} {sl20 : Array (Option Value)} {oc20 kV20 dc20 pm20 cd20 ct20 : Value}
    {f21 : Addr} {od21 an21 : Option Addr} {sl21 : Array (Option Value)} {oc21 kV21 dc21 pm21 cd21 ct21 : Value}
    {f22 : Addr} {od22 an22 : Option Addr} {sl22 : Array (Option Value)} {oc22 kV22 dc22 pm22 cd22 ct22 : Value}
    {f23 : Addr} {od23 an23 : Option Addr} {sl23 : Array (Option Value)} {oc23 kV23 dc23 pm23 cd23 ct23 : Value}
    {f24 : Addr} {od24 an24 : Option Addr} {sl24 : Array (Option Value)} {oc24 kV24 dc24 pm24 cd24 ct24 : Value}
    {f25 : Addr} {od25 an25 : Option Addr} {sl25 : Array (Option Value)} {oc25 kV25 dc25 pm25 cd25 ct25 : Value}
    {f26 : Addr} {od26 an26 : Option Addr} {sl26 : Array (Option Value)} {oc26 kV26 dc26 pm26 cd26 ct26 : Value}
    {f27 : Addr} {od27 an27 : Option Addr} {sl27 : Array (Option Value)} {oc27 kV27 dc27 pm27 cd27 ct27 : Value}
    {f28 : Addr} {od28 an28 : Option Addr} {sl28 : Array (Option Value)} {oc28 kV28 dc28 pm28 cd28 ct28 : Value}
    {f29 : Addr} {od29 an29 : Option Addr} {sl29 : Array (Option Value)} {oc29 kV29 dc29 pm29 cd29 ct29 : Value}
    {f30 : Addr} {od30 an30 : Option Addr} {sl30 : Array (Option Value)} {oc30 kV30 dc30 pm30 cd30 ct30 : Value}
    {f31 : Addr} {od31 an31 : Option Addr} {sl31 : Array (Option Value)} {oc31 kV31 dc31 pm31 cd31 ct31 : Value}
    {f32 : Addr} {od32 an32 : Option Addr} {sl32 : Array (Option Value)} {oc32 kV32 dc32 pm32 cd32 ct32 : Value}
    {f33 : Addr} {od33 an33 : Option Addr} {sl33 : Array (Option Value)} {oc33 kV33 dc33 pm33 cd33 ct33 : Value}
    {f34 : Addr} {od34 an34 : Option Addr} {sl34 : Array (Option Value)} {oc34 kV34 dc34 pm34 cd34 ct34 : Value}
    {f35 : Addr} {od35 an35 : Option Addr} {sl35 : Array (Option Value)} {oc35 kV35 dc35 pm35 cd35 ct35 : Value}
    {f36 : Addr} {od36 an36 : Option Addr} {sl36 : Array (Option Value)} {oc36 kV36 dc36 pm36 cd36 ct36 : Value}
    {f37 : Addr} {od37 an37 : Option Addr} {sl37 : Array (Option Value)} {oc37 kV37 dc37 pm37 cd37 ct37 : Value}
    {f38 : Addr} {od38 an38 : Option Addr} {sl38 : Array (Option Value)} {oc38 kV38 dc38 pm38 cd38 ct38 : Value}
    {f39 : Addr} {od39 an39 : Option Addr} {sl39 : Array (Option Value)} {oc39 kV39 dc39 pm39 cd39 ct39 : Value}
    {f40 : Addr} {od40 an40 : Option Addr} {sl40 : Array (Option Value)} {oc40 kV40 dc40 pm40 cd40 ct40 : Value}
    {r_PLAIN : Addr} {e_PLAIN : Nat} {k_PLAIN0 : Tok} {x_PLAIN0 : Addr} {k_PLAIN1 : Tok} {x_PLAIN1 : Addr} {k_PLAIN2 : Tok} {u_PLAIN2 : Tok} {k_PLAIN3 : Tok} {u_PLAIN3 : Tok} {k_PLAIN4 : Tok} {u_PLAIN4 : Tok} {k_PLAIN5 : Tok} {u_PLAIN5 : Tok} {k_PLAIN6 : Tok} {u_PLAIN6 : Tok} {k_PLAIN7 : Tok} {u_PLAIN7 : Tok} {k_PLAIN8 : Tok} {k_PLAIN9 : Tok} {k_PLAIN10 : Tok} {u_PLAIN10 : Tok} {k_PLAIN11 : Tok} {u_PLAIN11 : Tok}
    (a1 : PySem.W.nsIn K mainGlobals "boxes_of" = some (some (.ref f1))) (l1 : K.lookup f1 = some ⟨oc1, od1, .func (PySem.W.fnOf "boxes_of" "boxes_of" (defArgs s_boxes_of) (defBody s_boxes_of) (defScope s_boxes_of) .none kV1 dc1 pm1 an1 cd1 ct1), sl1⟩) (c1 : PySem.W.codeIn K cd1 "boxes_of" = true) (k1 : PySem.W.keepIn K (.ref f1) = true)
    (a2 : PySem.W.nsIn K mainGlobals "kid_names" = some (some (.ref f2))) (l2 : K.lookup f2 = some ⟨oc2, od2, .func (PySem.W.fnOf "kid_names" "kid_names" (defArgs s_kid_names) (defBody s_kid_names) (defScope s_kid_names) .none kV2 dc2 pm2 an2 cd2 ct2), sl2⟩) (c2 : PySem.W.codeIn K cd2 "kid_names" = true) (k2 : PySem.W.keepIn K (.ref f2) = true)
    (a3 : PySem.W.nsIn K mainGlobals "limited" = some (some (.ref f3))) (l3 : K.lookup f3 = some ⟨oc3, od3, .func (PySem.W.fnOf "limited" "limited" (defArgs s_limited) (defBody s_limited) (defScope s_limited) .none kV3 dc3 pm3 an3 cd3 ct3), sl3⟩) (c3 : PySem.W.codeIn K cd3 "limited" = true) (k3 : PySem.W.keepIn K (.ref f3) = true)
    (a4 : PySem.W.nsIn K mainGlobals "broken" = some (some (.ref f4))) (l4 : K.lookup f4 = some ⟨oc4, od4, .func (PySem.W.fnOf "broken" "broken" (defArgs s_broken) (defBody s_broken) (defScope s_broken) .none kV4 dc4 pm4 an4 cd4 ct4), sl4⟩) (c4 : PySem.W.codeIn K cd4 "broken" = true) (k4 : PySem.W.keepIn K (.ref f4) = true)
    (a5 : PySem.W.nsIn K mainGlobals "inside_of" = some (some (.ref f5))) (l5 : K.lookup f5 = some ⟨oc5, od5, .func (PySem.W.fnOf "inside_of" "inside_of" (defArgs s_inside_of) (defBody s_inside_of) (defScope s_inside_of) .none kV5 dc5 pm5 an5 cd5 ct5), sl5⟩) (c5 : PySem.W.codeIn K cd5 "inside_of" = true) (k5 : PySem.W.keepIn K (.ref f5) = true)
    (a6 : PySem.W.nsIn K mainGlobals "gaps_of" = some (some (.ref f6))) (l6 : K.lookup f6 = some ⟨oc6, od6, .func (PySem.W.fnOf "gaps_of" "gaps_of" (defArgs s_gaps_of) (defBody s_gaps_of) (defScope s_gaps_of) .none kV6 dc6 pm6 an6 cd6 ct6), sl6⟩) (c6 : PySem.W.codeIn K cd6 "gaps_of" = true) (k6 : PySem.W.keepIn K (.ref f6) = true)
    (a7 : PySem.W.nsIn K mainGlobals "limited_wide" = some (some (.ref f7))) (l7 : K.lookup f7 = some ⟨oc7, od7, .func (PySem.W.fnOf "limited_wide" "limited_wide" (defArgs s_limited_wide) (defBody s_limited_wide) (defScope s_limited_wide) .none kV7 dc7 pm7 an7 cd7 ct7), sl7⟩) (c7 : PySem.W.codeIn K cd7 "limited_wide" = true) (k7 : PySem.W.keepIn K (.ref f7) = true)
    (a8 : PySem.W.nsIn K mainGlobals "words_needs" = some (some (.ref f8))) (l8 : K.lookup f8 = some ⟨oc8, od8, .func (PySem.W.fnOf "words_needs" "words_needs" (defArgs s_words_needs) (defBody s_words_needs) (defScope s_words_needs) .none kV8 dc8 pm8 an8 cd8 ct8), sl8⟩) (c8 : PySem.W.codeIn K cd8 "words_needs" = true) (k8 : PySem.W.keepIn K (.ref f8) = true)
    (a9 : PySem.W.nsIn K mainGlobals "kids_needs" = some (some (.ref f9))) (l9 : K.lookup f9 = some ⟨oc9, od9, .func (PySem.W.fnOf "kids_needs" "kids_needs" (defArgs s_kids_needs) (defBody s_kids_needs) (defScope s_kids_needs) .none kV9 dc9 pm9 an9 cd9 ct9), sl9⟩) (c9 : PySem.W.codeIn K cd9 "kids_needs" = true) (k9 : PySem.W.keepIn K (.ref f9) = true)
    (a10 : PySem.W.nsIn K mainGlobals "need_of" = some (some (.ref f10))) (l10 : K.lookup f10 = some ⟨oc10, od10, .func (PySem.W.fnOf "need_of" "need_of" (defArgs s_need_of) (defBody s_need_of) (defScope s_need_of) .none kV10 dc10 pm10 an10 cd10 ct10), sl10⟩) (c10 : PySem.W.codeIn K cd10 "need_of" = true) (k10 : PySem.W.keepIn K (.ref f10) = true)
    (a11 : PySem.W.nsIn K mainGlobals "needs_of" = some (some (.ref f11))) (l11 : K.lookup f11 = some ⟨oc11, od11, .func (PySem.W.fnOf "needs_of" "needs_of" (defArgs s_needs_of) (defBody s_needs_of) (defScope s_needs_of) .none kV11 dc11 pm11 an11 cd11 ct11), sl11⟩) (c11 : PySem.W.codeIn K cd11 "needs_of" = true) (k11 : PySem.W.keepIn K (.ref f11) = true)
    (a12 : PySem.W.nsIn K mainGlobals "asked_wide" = some (some (.ref f12))) (l12 : K.lookup f12 = some ⟨oc12, od12, .func (PySem.W.fnOf "asked_wide" "asked_wide" (defArgs s_asked_wide) (defBody s_asked_wide) (defScope s_asked_wide) .none kV12 dc12 pm12 an12 cd12 ct12), sl12⟩) (c12 : PySem.W.codeIn K cd12 "asked_wide" = true) (k12 : PySem.W.keepIn K (.ref f12) = true)
    (a13 : PySem.W.nsIn K mainGlobals "limited_high" = some (some (.ref f13))) (l13 : K.lookup f13 = some ⟨oc13, od13, .func (PySem.W.fnOf "limited_high" "limited_high" (defArgs s_limited_high) (defBody s_limited_high) (defScope s_limited_high) .none kV13 dc13 pm13 an13 cd13 ct13), sl13⟩) (c13 : PySem.W.codeIn K cd13 "limited_high" = true) (k13 : PySem.W.keepIn K (.ref f13) = true)
    (a14 : PySem.W.nsIn K mainGlobals "naturals_in" = some (some (.ref f14))) (l14 : K.lookup f14 = some ⟨oc14, od14, .func (PySem.W.fnOf "naturals_in" "naturals_in" (defArgs s_naturals_in) (defBody s_naturals_in) (defScope s_naturals_in) .none kV14 dc14 pm14 an14 cd14 ct14), sl14⟩) (c14 : PySem.W.codeIn K cd14 "naturals_in" = true) (k14 : PySem.W.keepIn K (.ref f14) = true)
    (a15 : PySem.W.nsIn K mainGlobals "tallest" = some (some (.ref f15))) (l15 : K.lookup f15 = some ⟨oc15, od15, .func (PySem.W.fnOf "tallest" "tallest" (defArgs s_tallest) (defBody s_tallest) (defScope s_tallest) .none kV15 dc15 pm15 an15 cd15 ct15), sl15⟩) (c15 : PySem.W.codeIn K cd15 "tallest" = true) (k15 : PySem.W.keepIn K (.ref f15) = true)
    (a16 : PySem.W.nsIn K mainGlobals "natural_lines" = some (some (.ref f16))) (l16 : K.lookup f16 = some ⟨oc16, od16, .func (PySem.W.fnOf "natural_lines" "natural_lines" (defArgs s_natural_lines) (defBody s_natural_lines) (defScope s_natural_lines) .none kV16 dc16 pm16 an16 cd16 ct16), sl16⟩) (c16 : PySem.W.codeIn K cd16 "natural_lines" = true) (k16 : PySem.W.keepIn K (.ref f16) = true)
    (a17 : PySem.W.nsIn K mainGlobals "inner_high" = some (some (.ref f17))) (l17 : K.lookup f17 = some ⟨oc17, od17, .func (PySem.W.fnOf "inner_high" "inner_high" (defArgs s_inner_high) (defBody s_inner_high) (defScope s_inner_high) .none kV17 dc17 pm17 an17 cd17 ct17), sl17⟩) (c17 : PySem.W.codeIn K cd17 "inner_high" = true) (k17 : PySem.W.keepIn K (.ref f17) = true)
    (a18 : PySem.W.nsIn K mainGlobals "natural_of" = some (some (.ref f18))) (l18 : K.lookup f18 = some ⟨oc18, od18, .func (PySem.W.fnOf "natural_of" "natural_of" (defArgs s_natural_of) (defBody s_natural_of) (defScope s_natural_of) .none kV18 dc18 pm18 an18 cd18 ct18), sl18⟩) (c18 : PySem.W.codeIn K cd18 "natural_of" = true) (k18 : PySem.W.keepIn K (.ref f18) = true)
    (a19 : PySem.W.nsIn K mainGlobals "part_in_row" = some (some (.ref f19))) (l19 : K.lookup f19 = some ⟨oc19, od19, .func (PySem.W.fnOf "part_in_row" "part_in_row" (defArgs s_part_in_row) (defBody s_part_in_row) (defScope s_part_in_row) .none kV19 dc19 pm19 an19 cd19 ct19), sl19⟩) (c19 : PySem.W.codeIn K cd19 "part_in_row" = true) (k19 : PySem.W.keepIn K (.ref f19) = true)
    (a20 : PySem.W.nsIn K mainGlobals "part_in_flow" = some (some (.ref f20))) (l20 : K.lookup f20 = some ⟨oc20, od20, .func (PySem.W.fnOf "part_in_flow" "part_in_flow" (defArgs s_part_in_flow) (defBody s_part_in_flow) (defScope s_part_in_flow) .none kV20 dc20 pm20 an20 cd20 ct20), sl20⟩) (c20 : PySem.W.codeIn K cd20 "part_in_flow" = true) (k20 : PySem.W.keepIn K (.ref f20) = true)
    (a21 : PySem.W.nsIn K mainGlobals "parts_in" = some (some (.ref f21))) (l21 : K.lookup f21 = some ⟨oc21, od21, .func (PySem.W.fnOf "parts_in" "parts_in" (defArgs s_parts_in) (defBody s_parts_in) (defScope s_parts_in) .none kV21 dc21 pm21 an21 cd21 ct21), sl21⟩) (c21 : PySem.W.codeIn K cd21 "parts_in" = true) (k21 : PySem.W.keepIn K (.ref f21) = true)
    (a22 : PySem.W.nsIn K mainGlobals "flow_lines" = some (some (.ref f22))) (l22 : K.lookup f22 = some ⟨oc22, od22, .func (PySem.W.fnOf "flow_lines" "flow_lines" (defArgs s_flow_lines) (defBody s_flow_lines) (defScope s_flow_lines) .none kV22 dc22 pm22 an22 cd22 ct22), sl22⟩) (c22 : PySem.W.codeIn K cd22 "flow_lines" = true) (k22 : PySem.W.keepIn K (.ref f22) = true)
    (a23 : PySem.W.nsIn K mainGlobals "lines_of" = some (some (.ref f23))) (l23 : K.lookup f23 = some ⟨oc23, od23, .func (PySem.W.fnOf "lines_of" "lines_of" (defArgs s_lines_of) (defBody s_lines_of) (defScope s_lines_of) .none kV23 dc23 pm23 an23 cd23 ct23), sl23⟩) (c23 : PySem.W.codeIn K cd23 "lines_of" = true) (k23 : PySem.W.keepIn K (.ref f23) = true)
    (a24 : PySem.W.nsIn K mainGlobals "plain_shape" = some (some (.ref f24))) (l24 : K.lookup f24 = some ⟨oc24, od24, .func (PySem.W.fnOf "plain_shape" "plain_shape" (defArgs s_plain_shape) (defBody s_plain_shape) (defScope s_plain_shape) .none kV24 dc24 pm24 an24 cd24 ct24), sl24⟩) (c24 : PySem.W.codeIn K cd24 "plain_shape" = true) (k24 : PySem.W.keepIn K (.ref f24) = true)
    (a25 : PySem.W.nsIn K mainGlobals "_law_cell" = some (some (.ref f25))) (l25 : K.lookup f25 = some ⟨oc25, od25, .func (PySem.W.fnOf "_law_cell" "_law_cell" (defArgs s_l_cell) (defBody s_l_cell) (defScope s_l_cell) .none kV25 dc25 pm25 an25 cd25 ct25), sl25⟩) (c25 : PySem.W.codeIn K cd25 "_law_cell" = true) (k25 : PySem.W.keepIn K (.ref f25) = true)
    (a26 : PySem.W.nsIn K mainGlobals "_law_mix" = some (some (.ref f26))) (l26 : K.lookup f26 = some ⟨oc26, od26, .func (PySem.W.fnOf "_law_mix" "_law_mix" (defArgs s_l_mix) (defBody s_l_mix) (defScope s_l_mix) .none kV26 dc26 pm26 an26 cd26 ct26), sl26⟩) (c26 : PySem.W.codeIn K cd26 "_law_mix" = true) (k26 : PySem.W.keepIn K (.ref f26) = true)
    (a27 : PySem.W.nsIn K mainGlobals "_law_whole" = some (some (.ref f27))) (l27 : K.lookup f27 = some ⟨oc27, od27, .func (PySem.W.fnOf "_law_whole" "_law_whole" (defArgs s_l_whole) (defBody s_l_whole) (defScope s_l_whole) .none kV27 dc27 pm27 an27 cd27 ct27), sl27⟩) (c27 : PySem.W.codeIn K cd27 "_law_whole" = true) (k27 : PySem.W.keepIn K (.ref f27) = true)
    (a28 : PySem.W.nsIn K mainGlobals "_law_names" = some (some (.ref f28))) (l28 : K.lookup f28 = some ⟨oc28, od28, .func (PySem.W.fnOf "_law_names" "_law_names" (defArgs s_l_names) (defBody s_l_names) (defScope s_l_names) .none kV28 dc28 pm28 an28 cd28 ct28), sl28⟩) (c28 : PySem.W.codeIn K cd28 "_law_names" = true) (k28 : PySem.W.keepIn K (.ref f28) = true)
    (a29 : PySem.W.nsIn K mainGlobals "_law_words" = some (some (.ref f29))) (l29 : K.lookup f29 = some ⟨oc29, od29, .func (PySem.W.fnOf "_law_words" "_law_words" (defArgs s_l_words) (defBody s_l_words) (defScope s_l_words) .none kV29 dc29 pm29 an29 cd29 ct29), sl29⟩) (c29 : PySem.W.codeIn K cd29 "_law_words" = true) (k29 : PySem.W.keepIn K (.ref f29) = true)
    (a30 : PySem.W.nsIn K mainGlobals "_law_box" = some (some (.ref f30))) (l30 : K.lookup f30 = some ⟨oc30, od30, .func (PySem.W.fnOf "_law_box" "_law_box" (defArgs s_l_box) (defBody s_l_box) (defScope s_l_box) .none kV30 dc30 pm30 an30 cd30 ct30), sl30⟩) (c30 : PySem.W.codeIn K cd30 "_law_box" = true) (k30 : PySem.W.keepIn K (.ref f30) = true)
    (a31 : PySem.W.nsIn K mainGlobals "_law_doc" = some (some (.ref f31))) (l31 : K.lookup f31 = some ⟨oc31, od31, .func (PySem.W.fnOf "_law_doc" "_law_doc" (defArgs s_l_doc) (defBody s_l_doc) (defScope s_l_doc) .none kV31 dc31 pm31 an31 cd31 ct31), sl31⟩) (c31 : PySem.W.codeIn K cd31 "_law_doc" = true) (k31 : PySem.W.keepIn K (.ref f31) = true)
    (a32 : PySem.W.nsIn K mainGlobals "_law_size" = some (some (.ref f32))) (l32 : K.lookup f32 = some ⟨oc32, od32, .func (PySem.W.fnOf "_law_size" "_law_size" (defArgs s_l_size) (defBody s_l_size) (defScope s_l_size) .none kV32 dc32 pm32 an32 cd32 ct32), sl32⟩) (c32 : PySem.W.codeIn K cd32 "_law_size" = true) (k32 : PySem.W.keepIn K (.ref f32) = true)
    (a33 : PySem.W.nsIn K mainGlobals "_law_shape" = some (some (.ref f33))) (l33 : K.lookup f33 = some ⟨oc33, od33, .func (PySem.W.fnOf "_law_shape" "_law_shape" (defArgs s_l_shape) (defBody s_l_shape) (defScope s_l_shape) .none kV33 dc33 pm33 an33 cd33 ct33), sl33⟩) (c33 : PySem.W.codeIn K cd33 "_law_shape" = true) (k33 : PySem.W.keepIn K (.ref f33) = true)
    (a34 : PySem.W.nsIn K mainGlobals "_law_all" = some (some (.ref f34))) (l34 : K.lookup f34 = some ⟨oc34, od34, .func (PySem.W.fnOf "_law_all" "_law_all" (defArgs s_l_all) (defBody s_l_all) (defScope s_l_all) .none kV34 dc34 pm34 an34 cd34 ct34), sl34⟩) (c34 : PySem.W.codeIn K cd34 "_law_all" = true) (k34 : PySem.W.keepIn K (.ref f34) = true)
    (a35 : PySem.W.nsIn K mainGlobals "_law_shapes" = some (some (.ref f35))) (l35 : K.lookup f35 = some ⟨oc35, od35, .func (PySem.W.fnOf "_law_shapes" "_law_shapes" (defArgs s_l_shapes) (defBody s_l_shapes) (defScope s_l_shapes) .none kV35 dc35 pm35 an35 cd35 ct35), sl35⟩) (c35 : PySem.W.codeIn K cd35 "_law_shapes" = true) (k35 : PySem.W.keepIn K (.ref f35) = true)
    (a36 : PySem.W.nsIn K mainGlobals "_law_limited" = some (some (.ref f36))) (l36 : K.lookup f36 = some ⟨oc36, od36, .func (PySem.W.fnOf "_law_limited" "_law_limited" (defArgs s_l_limited) (defBody s_l_limited) (defScope s_l_limited) .none kV36 dc36 pm36 an36 cd36 ct36), sl36⟩) (c36 : PySem.W.codeIn K cd36 "_law_limited" = true) (k36 : PySem.W.keepIn K (.ref f36) = true)
    (a37 : PySem.W.nsIn K mainGlobals "_law_inside" = some (some (.ref f37))) (l37 : K.lookup f37 = some ⟨oc37, od37, .func (PySem.W.fnOf "_law_inside" "_law_inside" (defArgs s_l_inside) (defBody s_l_inside) (defScope s_l_inside) .none kV37 dc37 pm37 an37 cd37 ct37), sl37⟩) (c37 : PySem.W.codeIn K cd37 "_law_inside" = true) (k37 : PySem.W.keepIn K (.ref f37) = true)
    (a38 : PySem.W.nsIn K mainGlobals "_law_line_naturals" = some (some (.ref f38))) (l38 : K.lookup f38 = some ⟨oc38, od38, .func (PySem.W.fnOf "_law_line_naturals" "_law_line_naturals" (defArgs s_l_line_naturals) (defBody s_l_line_naturals) (defScope s_l_line_naturals) .none kV38 dc38 pm38 an38 cd38 ct38), sl38⟩) (c38 : PySem.W.codeIn K cd38 "_law_line_naturals" = true) (k38 : PySem.W.keepIn K (.ref f38) = true)
    (a39 : PySem.W.nsIn K mainGlobals "_law_natural" = some (some (.ref f39))) (l39 : K.lookup f39 = some ⟨oc39, od39, .func (PySem.W.fnOf "_law_natural" "_law_natural" (defArgs s_l_natural) (defBody s_l_natural) (defScope s_l_natural) .none kV39 dc39 pm39 an39 cd39 ct39), sl39⟩) (c39 : PySem.W.codeIn K cd39 "_law_natural" = true) (k39 : PySem.W.keepIn K (.ref f39) = true)
    (a40 : PySem.W.nsIn K mainGlobals "law" = some (some (.ref f40))) (l40 : K.lookup f40 = some ⟨oc40, od40, .func (PySem.W.fnOf "law" "law" (defArgs s_law) (defBody s_law) (defScope s_law) .none kV40 dc40 pm40 an40 cd40 ct40), sl40⟩) (c40 : PySem.W.codeIn K cd40 "law" = true) (k40 : PySem.W.keepIn K (.ref f40) = true)
    (g_PLAIN : PySem.W.nsIn K mainGlobals "PLAIN" = some (some (.ref r_PLAIN))) (l_PLAIN : K.lookup r_PLAIN = some ⟨.type "dict", none, .dict #[⟨hashStr w "wide", .str "wide" k_PLAIN0, .ref x_PLAIN0⟩, ⟨hashStr w "high", .str "high" k_PLAIN1, .ref x_PLAIN1⟩, ⟨hashStr w "leastw", .str "leastw" k_PLAIN2, .int 0 u_PLAIN2⟩, ⟨hashStr w "mostw", .str "mostw" k_PLAIN3, .int 400 u_PLAIN3⟩, ⟨hashStr w "leasth", .str "leasth" k_PLAIN4, .int 0 u_PLAIN4⟩, ⟨hashStr w "mosth", .str "mosth" k_PLAIN5, .int 400 u_PLAIN5⟩, ⟨hashStr w "pad", .str "pad" k_PLAIN6, .int 0 u_PLAIN6⟩, ⟨hashStr w "gap", .str "gap" k_PLAIN7, .int 0 u_PLAIN7⟩, ⟨hashStr w "over", .str "over" k_PLAIN8, .bool false⟩, ⟨hashStr w "able", .str "able" k_PLAIN9, .bool false⟩, ⟨hashStr w "fill", .str "fill" k_PLAIN10, .str "" u_PLAIN10⟩, ⟨hashStr w "ink", .str "ink" k_PLAIN11, .str "as" u_PLAIN11⟩] e_PLAIN, #[]⟩) (z_PLAIN : (r_PLAIN == sysModules) = false)
    (n_bool : PySem.W.nsIn K mainGlobals "bool" = some none)
    (n_dict : PySem.W.nsIn K mainGlobals "dict" = some none)
    (n_enumerate : PySem.W.nsIn K mainGlobals "enumerate" = some none)
    (n_int : PySem.W.nsIn K mainGlobals "int" = some none)
    (n_isinstance : PySem.W.nsIn K mainGlobals "isinstance" = some none)
    (n_len : PySem.W.nsIn K mainGlobals "len" = some none)
    (n_list : PySem.W.nsIn K mainGlobals "list" = some none)
    (n_max : PySem.W.nsIn K mainGlobals "max" = some none)
    (n_min : PySem.W.nsIn K mainGlobals "min" = some none)
    (n_range : PySem.W.nsIn K mainGlobals "range" = some none)
    (n_reversed : PySem.W.nsIn K mainGlobals "reversed" = some none)
    (n_sum : PySem.W.nsIn K mainGlobals "sum" = some none)
    (n_tuple : PySem.W.nsIn K mainGlobals "tuple" = some none)
    (kit : kitAll K = true) :
    ∃ A : Adr, A.wd = w ∧ (∀ (s : Shared) (u : Value), BindsTo s A.d_law ⟨[u], []⟩ [("_law_script", u)]) ∧ Txt K mg A := by
  have F1 := fun_mk (st := s_boxes_of) l1 c1 k1
  have b1 := F1.binds (ps := P_boxes_of) fun _ _ _ _ _ _ us hl => match us, hl with | [_], _ => rfl
  have F2 := fun_mk (st := s_kid_names) l2 c2 k2
  have b2 := F2.binds (ps := P_kid_names) fun _ _ _ _ _ _ us hl => match us, hl with | [_], _ => rfl
  have F3 := fun_mk (st := s_limited) l3 c3 k3
  have b3 := F3.binds (ps := P_limited) fun _ _ _ _ _ _ us hl => match us, hl with | [_, _, _], _ => rfl
  have F4 := fun_mk (st := s_broken) l4 c4 k4
  have b4 := F4.binds (ps := P_broken) fun _ _ _ _ _ _ us hl => match us, hl with | [_, _], _ => rfl
  have F5 := fun_mk (st := s_inside_of) l5 c5 k5
  have b5 := F5.binds (ps := P_inside_of) fun _ _ _ _ _ _ us hl => match us, hl with | [_, _], _ => rfl
  have F6 := fun_mk (st := s_gaps_of) l6 c6 k6
  have b6 := F6.binds (ps := P_gaps_of) fun _ _ _ _ _ _ us hl => match us, hl with | [_, _], _ => rfl
  have F7 := fun_mk (st := s_limited_wide) l7 c7 k7
  have b7 := F7.binds (ps := P_limited_wide) fun _ _ _ _ _ _ us hl => match us, hl with | [_, _], _ => rfl
  have F8 := fun_mk (st := s_words_needs) l8 c8 k8
  have b8 := F8.binds (ps := P_words_needs) fun _ _ _ _ _ _ us hl => match us, hl with | [_], _ => rfl
  have F9 := fun_mk (st := s_kids_needs) l9 c9 k9
  have b9 := F9.binds (ps := P_kids_needs) fun _ _ _ _ _ _ us hl => match us, hl with | [_, _, _], _ => rfl
  have F10 := fun_mk (st := s_need_of) l10 c10 k10
  have b10 := F10.binds (ps := P_need_of) fun _ _ _ _ _ _ us hl => match us, hl with | [_, _, _], _ => rfl
  have F11 := fun_mk (st := s_needs_of) l11 c11 k11
  have b11 := F11.binds (ps := P_needs_of) fun _ _ _ _ _ _ us hl => match us, hl with | [_, _], _ => rfl
  have F12 := fun_mk (st := s_asked_wide) l12 c12 k12
  have b12 := F12.binds (ps := P_asked_wide) fun _ _ _ _ _ _ us hl => match us, hl with | [_, _, _], _ => rfl
  have F13 := fun_mk (st := s_limited_high) l13 c13 k13
  have b13 := F13.binds (ps := P_limited_high) fun _ _ _ _ _ _ us hl => match us, hl with | [_, _], _ => rfl
  have F14 := fun_mk (st := s_naturals_in) l14 c14 k14
  have b14 := F14.binds (ps := P_naturals_in) fun _ _ _ _ _ _ us hl => match us, hl with | [_, _], _ => rfl
  have F15 := fun_mk (st := s_tallest) l15 c15 k15
  have b15 := F15.binds (ps := P_tallest) fun _ _ _ _ _ _ us hl => match us, hl with | [_, _], _ => rfl
  have F16 := fun_mk (st := s_natural_lines) l16 c16 k16
  have b16 := F16.binds (ps := P_natural_lines) fun _ _ _ _ _ _ us hl => match us, hl with | [_, _, _], _ => rfl
  have F17 := fun_mk (st := s_inner_high) l17 c17 k17
  have b17 := F17.binds (ps := P_inner_high) fun _ _ _ _ _ _ us hl => match us, hl with | [_, _, _, _, _], _ => rfl
  have F18 := fun_mk (st := s_natural_of) l18 c18 k18
  have b18 := F18.binds (ps := P_natural_of) fun _ _ _ _ _ _ us hl => match us, hl with | [_, _, _, _, _], _ => rfl
  have F19 := fun_mk (st := s_part_in_row) l19 c19 k19
  have b19 := F19.binds (ps := P_part_in_row) fun _ _ _ _ _ _ us hl => match us, hl with | [_, _], _ => rfl
  have F20 := fun_mk (st := s_part_in_flow) l20 c20 k20
  have b20 := F20.binds (ps := P_part_in_flow) fun _ _ _ _ _ _ us hl => match us, hl with | [_, _, _], _ => rfl
  have F21 := fun_mk (st := s_parts_in) l21 c21 k21
  have b21 := F21.binds (ps := P_parts_in) fun _ _ _ _ _ _ us hl => match us, hl with | [_, _, _, _], _ => rfl
  have F22 := fun_mk (st := s_flow_lines) l22 c22 k22
  have b22 := F22.binds (ps := P_flow_lines) fun _ _ _ _ _ _ us hl => match us, hl with | [_, _, _], _ => rfl
  have F23 := fun_mk (st := s_lines_of) l23 c23 k23
  have b23 := F23.binds (ps := P_lines_of) fun _ _ _ _ _ _ us hl => match us, hl with | [_, _, _, _], _ => rfl
  have F24 := fun_mk (st := s_plain_shape) l24 c24 k24
  have b24 := F24.binds (ps := P_plain_shape) fun _ _ _ _ _ _ us hl => match us, hl with | [], _ => rfl
  have F25 := fun_mk (st := s_l_cell) l25 c25 k25
  have b25 := F25.binds (ps := P_l_cell) fun _ _ _ _ _ _ us hl => match us, hl with | [_, _], _ => rfl
  have F26 := fun_mk (st := s_l_mix) l26 c26 k26
  have b26 := F26.binds (ps := P_l_mix) fun _ _ _ _ _ _ us hl => match us, hl with | [_, _], _ => rfl
  have F27 := fun_mk (st := s_l_whole) l27 c27 k27
  have b27 := F27.binds (ps := P_l_whole) fun _ _ _ _ _ _ us hl => match us, hl with | [_], _ => rfl
  have F28 := fun_mk (st := s_l_names) l28 c28 k28
  have b28 := F28.binds (ps := P_l_names) fun _ _ _ _ _ _ us hl => match us, hl with | [_, _], _ => rfl
  have F29 := fun_mk (st := s_l_words) l29 c29 k29
  have b29 := F29.binds (ps := P_l_words) fun _ _ _ _ _ _ us hl => match us, hl with | [_], _ => rfl
  have F30 := fun_mk (st := s_l_box) l30 c30 k30
  have b30 := F30.binds (ps := P_l_box) fun _ _ _ _ _ _ us hl => match us, hl with | [_, _, _], _ => rfl
  have F31 := fun_mk (st := s_l_doc) l31 c31 k31
  have b31 := F31.binds (ps := P_l_doc) fun _ _ _ _ _ _ us hl => match us, hl with | [_, _], _ => rfl
  have F32 := fun_mk (st := s_l_size) l32 c32 k32
  have b32 := F32.binds (ps := P_l_size) fun _ _ _ _ _ _ us hl => match us, hl with | [_], _ => rfl
  have F33 := fun_mk (st := s_l_shape) l33 c33 k33
  have b33 := F33.binds (ps := P_l_shape) fun _ _ _ _ _ _ us hl => match us, hl with | [_], _ => rfl
  have F34 := fun_mk (st := s_l_all) l34 c34 k34
  have b34 := F34.binds (ps := P_l_all) fun _ _ _ _ _ _ us hl => match us, hl with | [_], _ => rfl
  have F35 := fun_mk (st := s_l_shapes) l35 c35 k35
  have b35 := F35.binds (ps := P_l_shapes) fun _ _ _ _ _ _ us hl => match us, hl with | [_, _], _ => rfl
  have F36 := fun_mk (st := s_l_limited) l36 c36 k36
  have b36 := F36.binds (ps := P_l_limited) fun _ _ _ _ _ _ us hl => match us, hl with | [_, _, _], _ => rfl
  have F37 := fun_mk (st := s_l_inside) l37 c37 k37
  have b37 := F37.binds (ps := P_l_inside) fun _ _ _ _ _ _ us hl => match us, hl with | [_, _], _ => rfl
  have F38 := fun_mk (st := s_l_line_naturals) l38 c38 k38
  have b38 := F38.binds (ps := P_l_line_naturals) fun _ _ _ _ _ _ us hl => match us, hl with | [_, _, _], _ => rfl
  have F39 := fun_mk (st := s_l_natural) l39 c39 k39
  have b39 := F39.binds (ps := P_l_natural) fun _ _ _ _ _ _ us hl => match us, hl with | [_, _, _, _, _], _ => rfl
  have F40 := fun_mk (st := s_law) l40 c40 k40
  have b40 := F40.binds (ps := P_law) fun _ _ _ _ _ _ us hl => match us, hl with | [_], _ => rfl
  refine ⟨⟨w, f1, PySem.W.fnOf "boxes_of" "boxes_of" (defArgs s_boxes_of) (defBody s_boxes_of) (defScope s_boxes_of) .none kV1 dc1 pm1 an1 cd1 ct1, f2, PySem.W.fnOf "kid_names" "kid_names" (defArgs s_kid_names) (defBody s_kid_names) (defScope s_kid_names) .none kV2 dc2 pm2 an2 cd2 ct2, f3, PySem.W.fnOf "limited" "limited" (defArgs s_limited) (defBody s_limited) (defScope s_limited) .none kV3 dc3 pm3 an3 cd3 ct3, f4, PySem.W.fnOf "broken" "broken" (defArgs s_broken) (defBody s_broken) (defScope s_broken) .none kV4 dc4 pm4 an4 cd4 ct4, f5, PySem.W.fnOf "inside_of" "inside_of" (defArgs s_inside_of) (defBody s_inside_of) (defScope s_inside_of) .none kV5 dc5 pm5 an5 cd5 ct5, f6, PySem.W.fnOf "gaps_of" "gaps_of" (defArgs s_gaps_of) (defBody s_gaps_of) (defScope s_gaps_of) .none kV6 dc6 pm6 an6 cd6 ct6, f7, PySem.W.fnOf "limited_wide" "limited_wide" (defArgs s_limited_wide) (defBody s_limited_wide) (defScope s_limited_wide) .none kV7 dc7 pm7 an7 cd7 ct7, f8, PySem.W.fnOf "words_needs" "words_needs" (defArgs s_words_needs) (defBody s_words_needs) (defScope s_words_needs) .none kV8 dc8 pm8 an8 cd8 ct8, f9, PySem.W.fnOf "kids_needs" "kids_needs" (defArgs s_kids_needs) (defBody s_kids_needs) (defScope s_kids_needs) .none kV9 dc9 pm9 an9 cd9 ct9, f10, PySem.W.fnOf "need_of" "need_of" (defArgs s_need_of) (defBody s_need_of) (defScope s_need_of) .none kV10 dc10 pm10 an10 cd10 ct10, f11, PySem.W.fnOf "needs_of" "needs_of" (defArgs s_needs_of) (defBody s_needs_of) (defScope s_needs_of) .none kV11 dc11 pm11 an11 cd11 ct11, f12, PySem.W.fnOf "asked_wide" "asked_wide" (defArgs s_asked_wide) (defBody s_asked_wide) (defScope s_asked_wide) .none kV12 dc12 pm12 an12 cd12 ct12, f13, PySem.W.fnOf "limited_high" "limited_high" (defArgs s_limited_high) (defBody s_limited_high) (defScope s_limited_high) .none kV13 dc13 pm13 an13 cd13 ct13, f14, PySem.W.fnOf "naturals_in" "naturals_in" (defArgs s_naturals_in) (defBody s_naturals_in) (defScope s_naturals_in) .none kV14 dc14 pm14 an14 cd14 ct14, f15, PySem.W.fnOf "tallest" "tallest" (defArgs s_tallest) (defBody s_tallest) (defScope s_tallest) .none kV15 dc15 pm15 an15 cd15 ct15, f16, PySem.W.fnOf "natural_lines" "natural_lines" (defArgs s_natural_lines) (defBody s_natural_lines) (defScope s_natural_lines) .none kV16 dc16 pm16 an16 cd16 ct16, f17, PySem.W.fnOf "inner_high" "inner_high" (defArgs s_inner_high) (defBody s_inner_high) (defScope s_inner_high) .none kV17 dc17 pm17 an17 cd17 ct17, f18, PySem.W.fnOf "natural_of" "natural_of" (defArgs s_natural_of) (defBody s_natural_of) (defScope s_natural_of) .none kV18 dc18 pm18 an18 cd18 ct18, f19, PySem.W.fnOf "part_in_row" "part_in_row" (defArgs s_part_in_row) (defBody s_part_in_row) (defScope s_part_in_row) .none kV19 dc19 pm19 an19 cd19 ct19, f20, PySem.W.fnOf "part_in_flow" "part_in_flow" (defArgs s_part_in_flow) (defBody s_part_in_flow) (defScope s_part_in_flow) .none kV20 dc20 pm20 an20 cd20 ct20, f21, PySem.W.fnOf "parts_in" "parts_in" (defArgs s_parts_in) (defBody s_parts_in) (defScope s_parts_in) .none kV21 dc21 pm21 an21 cd21 ct21, f22, PySem.W.fnOf "flow_lines" "flow_lines" (defArgs s_flow_lines) (defBody s_flow_lines) (defScope s_flow_lines) .none kV22 dc22 pm22 an22 cd22 ct22, f23, PySem.W.fnOf "lines_of" "lines_of" (defArgs s_lines_of) (defBody s_lines_of) (defScope s_lines_of) .none kV23 dc23 pm23 an23 cd23 ct23, f24, PySem.W.fnOf "plain_shape" "plain_shape" (defArgs s_plain_shape) (defBody s_plain_shape) (defScope s_plain_shape) .none kV24 dc24 pm24 an24 cd24 ct24, f25, PySem.W.fnOf "_law_cell" "_law_cell" (defArgs s_l_cell) (defBody s_l_cell) (defScope s_l_cell) .none kV25 dc25 pm25 an25 cd25 ct25, f26, PySem.W.fnOf "_law_mix" "_law_mix" (defArgs s_l_mix) (defBody s_l_mix) (defScope s_l_mix) .none kV26 dc26 pm26 an26 cd26 ct26, f27, PySem.W.fnOf "_law_whole" "_law_whole" (defArgs s_l_whole) (defBody s_l_whole) (defScope s_l_whole) .none kV27 dc27 pm27 an27 cd27 ct27, f28, PySem.W.fnOf "_law_names" "_law_names" (defArgs s_l_names) (defBody s_l_names) (defScope s_l_names) .none kV28 dc28 pm28 an28 cd28 ct28, f29, PySem.W.fnOf "_law_words" "_law_words" (defArgs s_l_words) (defBody s_l_words) (defScope s_l_words) .none kV29 dc29 pm29 an29 cd29 ct29, f30, PySem.W.fnOf "_law_box" "_law_box" (defArgs s_l_box) (defBody s_l_box) (defScope s_l_box) .none kV30 dc30 pm30 an30 cd30 ct30, f31, PySem.W.fnOf "_law_doc" "_law_doc" (defArgs s_l_doc) (defBody s_l_doc) (defScope s_l_doc) .none kV31 dc31 pm31 an31 cd31 ct31, f32, PySem.W.fnOf "_law_size" "_law_size" (defArgs s_l_size) (defBody s_l_size) (defScope s_l_size) .none kV32 dc32 pm32 an32 cd32 ct32, f33, PySem.W.fnOf "_law_shape" "_law_shape" (defArgs s_l_shape) (defBody s_l_shape) (defScope s_l_shape) .none kV33 dc33 pm33 an33 cd33 ct33, f34, PySem.W.fnOf "_law_all" "_law_all" (defArgs s_l_all) (defBody s_l_all) (defScope s_l_all) .none kV34 dc34 pm34 an34 cd34 ct34, f35, PySem.W.fnOf "_law_shapes" "_law_shapes" (defArgs s_l_shapes) (defBody s_l_shapes) (defScope s_l_shapes) .none kV35 dc35 pm35 an35 cd35 ct35, f36, PySem.W.fnOf "_law_limited" "_law_limited" (defArgs s_l_limited) (defBody s_l_limited) (defScope s_l_limited) .none kV36 dc36 pm36 an36 cd36 ct36, f37, PySem.W.fnOf "_law_inside" "_law_inside" (defArgs s_l_inside) (defBody s_l_inside) (defScope s_l_inside) .none kV37 dc37 pm37 an37 cd37 ct37, f38, PySem.W.fnOf "_law_line_naturals" "_law_line_naturals" (defArgs s_l_line_naturals) (defBody s_l_line_naturals) (defScope s_l_line_naturals) .none kV38 dc38 pm38 an38 cd38 ct38, f39, PySem.W.fnOf "_law_natural" "_law_natural" (defArgs s_l_natural) (defBody s_l_natural) (defScope s_l_natural) .none kV39 dc39 pm39 an39 cd39 ct39, f40, PySem.W.fnOf "law" "law" (defArgs s_law) (defBody s_law) (defScope s_law) .none kV40 dc40 pm40 an40 cd40 ct40⟩, rfl, fun s u => .of_eq rfl, ?_⟩
  exact ⟨F1, b1, PySem.W.mg_of X G a1, F2, b2, PySem.W.mg_of X G a2, F3, b3, PySem.W.mg_of X G a3, F4, b4, PySem.W.mg_of X G a4, F5, b5, PySem.W.mg_of X G a5, F6, b6, PySem.W.mg_of X G a6, F7, b7, PySem.W.mg_of X G a7, F8, b8, PySem.W.mg_of X G a8, F9, b9, PySem.W.mg_of X G a9, F10, b10, PySem.W.mg_of X G a10, F11, b11, PySem.W.mg_of X G a11, F12, b12, PySem.W.mg_of X G a12, F13, b13, PySem.W.mg_of X G a13, F14, b14, PySem.W.mg_of X G a14, F15, b15, PySem.W.mg_of X G a15, F16, b16, PySem.W.mg_of X G a16, F17, b17, PySem.W.mg_of X G a17, F18, b18, PySem.W.mg_of X G a18, F19, b19, PySem.W.mg_of X G a19, F20, b20, PySem.W.mg_of X G a20, F21, b21, PySem.W.mg_of X G a21, F22, b22, PySem.W.mg_of X G a22, F23, b23, PySem.W.mg_of X G a23, F24, b24, PySem.W.mg_of X G a24, F25, b25, PySem.W.mg_of X G a25, F26, b26, PySem.W.mg_of X G a26, F27, b27, PySem.W.mg_of X G a27, F28, b28, PySem.W.mg_of X G a28, F29, b29, PySem.W.mg_of X G a29, F30, b30, PySem.W.mg_of X G a30, F31, b31, PySem.W.mg_of X G a31, F32, b32, PySem.W.mg_of X G a32, F33, b33, PySem.W.mg_of X G a33, F34, b34, PySem.W.mg_of X G a34, F35, b35, PySem.W.mg_of X G a35, F36, b36, PySem.W.mg_of X G a36, F37, b37, PySem.W.mg_of X G a37, F38, b38, PySem.W.mg_of X G a38, F39, b39, PySem.W.mg_of X G a39, F40, b40, PySem.W.mg_of X G a40, ⟨r_PLAIN, x_PLAIN0, x_PLAIN1, PySem.W.mg_of X G g_PLAIN, DcIn.mk z_PLAIN l_PLAIN (by show 12 ≤ 1000; decide) ⟨⟨_, _, rfl, rfl, rfl⟩, rfl, ⟨⟨_, _, rfl, rfl, rfl⟩, rfl, ⟨⟨_, _, rfl, rfl, rfl⟩, ⟨_, rfl⟩, ⟨⟨_, _, rfl, rfl, rfl⟩, ⟨_, rfl⟩, ⟨⟨_, _, rfl, rfl, rfl⟩, ⟨_, rfl⟩, ⟨⟨_, _, rfl, rfl, rfl⟩, ⟨_, rfl⟩, ⟨⟨_, _, rfl, rfl, rfl⟩, ⟨_, rfl⟩, ⟨⟨_, _, rfl, rfl, rfl⟩, ⟨_, rfl⟩, ⟨⟨_, _, rfl, rfl, rfl⟩, rfl, ⟨⟨_, _, rfl, rfl, rfl⟩, rfl, ⟨⟨_, _, rfl, rfl, rfl⟩, ⟨_, rfl⟩, ⟨⟨_, _, rfl, rfl, rfl⟩, ⟨_, rfl⟩, trivial⟩⟩⟩⟩⟩⟩⟩⟩⟩⟩⟩⟩⟩, PySem.W.mg_none_of X G n_bool, PySem.W.mg_none_of X G n_dict, PySem.W.mg_none_of X G n_enumerate, PySem.W.mg_none_of X G n_int, PySem.W.mg_none_of X G n_isinstance, PySem.W.mg_none_of X G n_len, PySem.W.mg_none_of X G n_list, PySem.W.mg_none_of X G n_max, PySem.W.mg_none_of X G n_min, PySem.W.mg_none_of X G n_range, PySem.W.mg_none_of X G n_reversed, PySem.W.mg_none_of X G n_sum, PySem.W.mg_none_of X G n_tuple, kit⟩
end KP
def PySem.W.Fast.tw10124235421384085149 : Unit := ()
def PySem.W.Fast.tw11322444641912696207 : Unit := ()
def PySem.W.Fast.tw13926079153810548936 : Unit := ()
def PySem.W.Fast.tw5811464942581203640 : Unit := ()
def PySem.W.Fast.tw6283126908801770148 : Unit := ()
def PySem.W.Fast.tw10038243696925559688 : Unit := ()
def PySem.W.Fast.tw11409900650901515585 : Unit := ()
def PySem.W.Fast.tw14637851301385002251 : Unit := ()
def PySem.W.Fast.tw2396692359398081757 : Unit := ()
def PySem.W.Fast.tw17143600669188301916 : Unit := ()
def PySem.W.Fast.tw5214217226423024855 : Unit := ()
def PySem.W.Fast.tw10611866818983970738 : Unit := ()
open PySem PySem.W PyProof.Rows
set_option maxRecDepth 100000 in
set_option maxHeartbeats 0 in
theorem PySem.Challenge.cw_panehouse_k40_natural_heights_holds : PySem.Challenge.rw_panehouse_k40_natural_heights.Holds := by
  w_on; o_law; k_head; (case hw => w_witness2)
  k_fill
  refine' L2.walk_ofK (l := PySem.Challenge.rw_panehouse_k40_natural_heights) (n := 63) (k := 10) (x := "_law_script") (CX := L2.CX0) (sp := KP.spLaw) rfl (by decide) rfl ⟨rfl, by decide, by decide⟩ (fun w h Y => PySem.W.kIn_of Y) ?F ?S ?C
  case F =>
    intro w mg fa h KX G hmg
    have T : ∃ A : KP.Adr, A.wd = w ∧ (∀ (s : Shared) (u : Value), BindsTo s A.d_law ⟨[u], []⟩ [("_law_script", u)]) ∧ KP.Txt (L2.KOf KX) mg A := by
      dsimp only [L2.KOf]
      refine' KP.txt_mk KX G w ?a1 ?l1 ?c1 ?k1 ?a2 ?l2 ?c2 ?k2 ?a3 ?l3 ?c3 ?k3 ?a4 ?l4 ?c4 ?k4 ?a5 ?l5 ?c5 ?k5 ?a6 ?l6 ?c6 ?k6 ?a7 ?l7 ?c7 ?k7 ?a8 ?l8 ?c8 ?k8 ?a9 ?l9 ?c9 ?k9 ?a10 ?l10 ?c10 ?k10 ?a11 ?l11 ?c11 ?k11 ?a12 ?l12 ?c12 ?k12 ?a13 ?l13 ?c13 ?k13 ?a14 ?l14 ?c14 ?k14 ?a15 ?l15 ?c15 ?k15 ?a16 ?l16 ?c16 ?k16 ?a17 ?l17 ?c17 ?k17 ?a18 ?l18 ?c18 ?k18 ?a19 ?l19 ?c19 ?k19 ?a20 ?l20 ?c20 ?k20 ?a21 ?l21 ?c21 ?k21 ?a22 ?l22 ?c22 ?k22 ?a23 ?l23 ?c23 ?k23 ?a24 ?l24 ?c24 ?k24 ?a25 ?l25 ?c25 ?k25 ?a26 ?l26 ?c26 ?k26 ?a27 ?l27 ?c27 ?k27 ?a28 ?l28 ?c28 ?k28 ?a29 ?l29 ?c29 ?k29 ?a30 ?l30 ?c30 ?k30 ?a31 ?l31 ?c31 ?k31 ?a32 ?l32 ?c32 ?k32 ?a33 ?l33 ?c33 ?k33 ?a34 ?l34 ?c34 ?k34 ?a35 ?l35 ?c35 ?k35 ?a36 ?l36 ?c36 ?k36 ?a37 ?l37 ?c37 ?k37 ?a38 ?l38 ?c38 ?k38 ?a39 ?l39 ?c39 ?k39 ?a40 ?l40 ?c40 ?k40 ?g_PLAIN ?l_PLAIN ?z_PLAIN ?n_bool ?n_dict ?n_enumerate ?n_int ?n_isinstance ?n_len ?n_list ?n_max ?n_min ?n_range ?n_reversed ?n_sum ?n_tuple ?kit
      (case a1 => k_is)
      (case l1 => k_is)
      (case c1 => k_is)
      (case k1 => k_is)
      (case a2 => k_is)
      (case l2 => k_is)
      (case c2 => k_is)
      (case k2 => k_is)
      (case a3 => k_is)
      (case l3 => k_is)
      (case c3 => k_is)
      (case k3 => k_is)
      (case a4 => k_is)
      (case l4 => k_is)
      (case c4 => k_is)
      (case k4 => k_is)
      (case a5 => k_is)
      (case l5 => k_is)
      (case c5 => k_is)
      (case k5 => k_is)
      (case a6 => k_is)
      (case l6 => k_is)
      (case c6 => k_is)
      (case k6 => k_is)
      (case a7 => k_is)
      (case l7 => k_is)
      (case c7 => k_is)
      (case k7 => k_is)
      (case a8 => k_is)
      (case l8 => k_is)
      (case c8 => k_is)
      (case k8 => k_is)
      (case a9 => k_is)
      (case l9 => k_is)
      (case c9 => k_is)
      (case k9 => k_is)
      (case a10 => k_is)
      (case l10 => k_is)
      (case c10 => k_is)
      (case k10 => k_is)
      (case a11 => k_is)
      (case l11 => k_is)
      (case c11 => k_is)
      (case k11 => k_is)
      (case a12 => k_is)
      (case l12 => k_is)
      (case c12 => k_is)
      (case k12 => k_is)
      (case a13 => k_is)
      (case l13 => k_is)
      (case c13 => k_is)
      (case k13 => k_is)
      (case a14 => k_is)
      (case l14 => k_is)
      (case c14 => k_is)
      (case k14 => k_is)
      (case a15 => k_is)
      (case l15 => k_is)
      (case c15 => k_is)
      (case k15 => k_is)
      (case a16 => k_is)
      (case l16 => k_is)
      (case c16 => k_is)
      (case k16 => k_is)
      (case a17 => k_is)
      (case l17 => k_is)
      (case c17 => k_is)
      (case k17 => k_is)
      (case a18 => k_is)
      (case l18 => k_is)
      (case c18 => k_is)
      (case k18 => k_is)
      (case a19 => k_is)
      (case l19 => k_is)
      (case c19 => k_is)
      (case k19 => k_is)
      (case a20 => k_is)
      (case l20 => k_is)
      (case c20 => k_is)
      (case k20 => k_is)
      (case a21 => k_is)
      (case l21 => k_is)
      (case c21 => k_is)
      (case k21 => k_is)
      (case a22 => k_is)
      (case l22 => k_is)
      (case c22 => k_is)
      (case k22 => k_is)
      (case a23 => k_is)
      (case l23 => k_is)
      (case c23 => k_is)
      (case k23 => k_is)
      (case a24 => k_is)
      (case l24 => k_is)
      (case c24 => k_is)
      (case k24 => k_is)
      (case a25 => k_is)
      (case l25 => k_is)
      (case c25 => k_is)
      (case k25 => k_is)
      (case a26 => k_is)
      (case l26 => k_is)
      (case c26 => k_is)
      (case k26 => k_is)
      (case a27 => k_is)
      (case l27 => k_is)
      (case c27 => k_is)
      (case k27 => k_is)
      (case a28 => k_is)
      (case l28 => k_is)
      (case c28 => k_is)
      (case k28 => k_is)
      (case a29 => k_is)
      (case l29 => k_is)
      (case c29 => k_is)
      (case k29 => k_is)
      (case a30 => k_is)
      (case l30 => k_is)
      (case c30 => k_is)
      (case k30 => k_is)
      (case a31 => k_is)
      (case l31 => k_is)
      (case c31 => k_is)
      (case k31 => k_is)
      (case a32 => k_is)
      (case l32 => k_is)
      (case c32 => k_is)
      (case k32 => k_is)
      (case a33 => k_is)
      (case l33 => k_is)
      (case c33 => k_is)
      (case k33 => k_is)
      (case a34 => k_is)
      (case l34 => k_is)
      (case c34 => k_is)
      (case k34 => k_is)
      (case a35 => k_is)
      (case l35 => k_is)
      (case c35 => k_is)
      (case k35 => k_is)
      (case a36 => k_is)
      (case l36 => k_is)
      (case c36 => k_is)
      (case k36 => k_is)
      (case a37 => k_is)
      (case l37 => k_is)
      (case c37 => k_is)
      (case k37 => k_is)
      (case a38 => k_is)
      (case l38 => k_is)
      (case c38 => k_is)
      (case k38 => k_is)
      (case a39 => k_is)
      (case l39 => k_is)
      (case c39 => k_is)
      (case k39 => k_is)
      (case a40 => k_is)
      (case l40 => k_is)
      (case c40 => k_is)
      (case k40 => k_is)
      (case g_PLAIN => k_is)
      (case l_PLAIN => k_is)
      (case z_PLAIN => kernel_rfl)
      (case n_bool => k_is)
      (case n_dict => k_is)
      (case n_enumerate => k_is)
      (case n_int => k_is)
      (case n_isinstance => k_is)
      (case n_len => k_is)
      (case n_list => k_is)
      (case n_max => k_is)
      (case n_min => k_is)
      (case n_range => k_is)
      (case n_reversed => k_is)
      (case n_sum => k_is)
      (case n_tuple => k_is)
      (case kit => kernel_rfl)
    obtain ⟨A, hw, hb, T⟩ := T
    have e0 := hmg.symm.trans T.m_law
    cases e0
    exact ⟨A.d_law, hb, fun base kb nb => KP.ok_law T hw⟩
  case S => exact fun K H a ns hl _ hS => ⟨a, ns, rfl, hS, hl, fun _ => rfl⟩
  case C => exact fun _ _ _ _ z => z

