import PyProof.Rows.All
import Wide.All
import OpenK.AllK
import Wide.FinOn
import Lean
import PyProof.EqAt
import PyProof.EqKinds
import PyProof.TupleCall
import PyProof.CompFree
import PyProof.NeKinds
import KE.IntBitsLaws
import PyProof.Rows.SortRuns
import PyProof.RangeFor
import KE.KSortKey
import PyProof.ListRange
import KE.KListMore
import PyProof.ZipIter
import PyProof.Rows.ZipGen
import PyProof.WalksMore
import PyProof.EnumFor
import PyProof.EnumMake
import PyProof.Rows.TopTwo
import PyProof.Rows.CatchOwn
import PyProof.NsDelKeeps
import PyProof.ExcAttrAll.ValueError
import PyProof.DictDisplay
import KE.KEqDict
import PyProof.Draws
import PyProof.ListStr
import PyProof.StrCalls2
import PyProof.StrOps2
import PyProof.Rows.StrSplitCount
import PyProof.ListNew
import PyProof.Rows.Tup
import PyProof.CollectWalk
import PyProof.WalksS
import PyProof.Rows.SetFrom
import PyProof.Rows.StrInSeq
import PyProof.SetRoads
import PyProof.Rows.TupAdd
import KE.KIntText
import KE.KRevIter
import PyProof.MeetsStr
import PyProof.StrCalls
import PyProof.ListMulRoad
import KE.KDictOf
import PyProof.AttrMiss
import PyProof.IsiH_list
import PyProof.Seq
import PyProof.DictUpdate
import KE.KMinBuiltin
import PyProof.MinMaxWalk
import PyProof.DictWalks
import PyProof.DictItems
import KE.KDictList
import PyProof.StrLawsIn
import PySem.Challenge.RW_panehouse_k31_needs
set_option Elab.async false
set_option linter.all false
-- CHANGE: your row's module here, as the last of these rows
set_option Elab.async false
set_option linter.all false
set_option maxRecDepth 100000
/-! THE HAND LAYER, for ints, bools, texts, own classes, LISTS and tuples (index, slices, in, append, pop ..), calls, loops. Paste it whole ahead of your own text; what your proof does not reach may be deleted. -/
namespace L2
open PySem PySem.Spec PyProof.Rows

/-- a key: an int or a str -/
abbrev Key := Sum Int Str
def keyIs : Key → Value → Bool
  | .inl k, v => Value.isInt k v
  | .inr x, v => Value.isStrOf x v
def keyH (w : World) : Key → Int
  | .inl k => hashInt k
  | .inr x => hashStr w x
theorem keyIs_shape : ∀ {k : Key} {v : Value}, keyIs k v = true → (∃ i t, k = Sum.inl i ∧ v = Value.int i t) ∨ (∃ x t, k = Sum.inr x ∧ v = Value.str x t)
  | .inl i, v, h => by
    obtain ⟨t, e⟩ := Value.isInt_shape (k := i) (v := v) h
    exact .inl ⟨i, t, rfl, e⟩
  | .inr x, v, h => by
    obtain ⟨t, e⟩ := Value.isStrOf_shape (x := x) (v := v) h
    exact .inr ⟨x, t, rfl, e⟩
theorem keyIs_int (i : Int) (t : Tok) : keyIs (.inl i) (.int i t) = true := by simp [keyIs, Value.isInt]
theorem keyIs_str (x : Str) (t : Tok) : keyIs (.inr x) (.str x t) = true := by simp [keyIs, Value.isStrOf]
theorem key_ll (a b : Int) : decide ((Sum.inl a : Key) = Sum.inl b) = (a == b) := by
  by_cases e : a = b
  · subst e; simp
  · have h : ¬ (Sum.inl a : Key) = Sum.inl b := fun q => e (Sum.inl.inj q)
    rw [decide_eq_false h]
    exact (beq_eq_false_iff_ne.mpr e).symm
theorem key_rr (a b : Str) : decide ((Sum.inr a : Key) = Sum.inr b) = decide (a = b) := by
  by_cases e : a = b
  · subst e; simp
  · have h : ¬ (Sum.inr a : Key) = Sum.inr b := fun q => e (Sum.inr.inj q)
    rw [decide_eq_false h, decide_eq_false e]
theorem key_lr (a : Int) (b : Str) : decide ((Sum.inl a : Key) = Sum.inr b) = false := decide_eq_false (fun q => nomatch q)
theorem key_rl (a : Str) (b : Int) : decide ((Sum.inr a : Key) = Sum.inl b) = false := decide_eq_false (fun q => nomatch q)

def mixKind (prog : Program) (w : World) : PySem.KeyKind prog w Key where
  is := keyIs
  hash := keyH w
  inj := fun v a b ha hb => by
    rcases keyIs_shape ha with ⟨i, t, rfl, rfl⟩ | ⟨x, t, rfl, rfl⟩
    · rcases keyIs_shape hb with ⟨j, u, rfl, e⟩ | ⟨y, u, rfl, e⟩
      · injection e with e1 _; rw [e1]
      · exact nomatch e
    · rcases keyIs_shape hb with ⟨j, u, rfl, e⟩ | ⟨y, u, rfl, e⟩
      · exact nomatch e
      · injection e with e1 _; rw [e1]
  byValue := fun k v h => by
    rcases keyIs_shape h with ⟨i, t, rfl, rfl⟩ | ⟨x, t, rfl, rfl⟩ <;> rfl
  pyHash := fun hv h => by
    rcases keyIs_shape hv with ⟨i, t, rfl, rfl⟩ | ⟨x, t, rfl, rfl⟩
    · exact wpAny_pyHash_int h
    · exact wpAny_pyHash_str h
  eqBool := fun hu hv h => by
    rcases keyIs_shape hu with ⟨i, t, rfl, rfl⟩ | ⟨x, t, rfl, rfl⟩
    · rcases keyIs_shape hv with ⟨j, u, rfl, rfl⟩ | ⟨y, u, rfl, rfl⟩
      · rw [key_ll] at h; exact wpAny_eqBool_int h
      · rw [key_lr] at h; exact SeqAt.EqAt.int_str i t y u _ _ _ _ h
    · rcases keyIs_shape hv with ⟨j, u, rfl, rfl⟩ | ⟨y, u, rfl, rfl⟩
      · rw [key_rl] at h; exact SeqAt.EqAt.str_int x t j u _ _ _ _ h
      · rw [key_rr] at h; exact wpAny_eqBool_str h
  «strs» := fun k x t v h => by
    rcases keyIs_shape h with ⟨i, u, rfl, e⟩ | ⟨y, u, rfl, e⟩
    · exact nomatch e
    · injection e with e1 _
      subst e1
      cases v <;> rfl

theorem mixKind_int (prog : Program) (w : World) (i : Int) (t : Tok) : (mixKind prog w).is (.inl i) (.int i t) = true := keyIs_int i t
theorem mixKind_str (prog : Program) (w : World) (x : Str) (t : Tok) : (mixKind prog w).is (.inr x) (.str x t) = true := keyIs_str x t
end L2

namespace L2
open PySem PySem.Spec PyProof.Rows

/-- a value, without the heap -/
inductive V where
  | non | bl (b : Bool) | int (i : Int) | str (x : Str) | byt (b : Array UInt8) | flt (b : UInt64) | ref (a : Addr) | ty (n : String)
  deriving DecidableEq

def RelV : V → Value → Prop
  | .non, u => u = Value.none
  | .bl b, u => u = Value.bool b
  | .int i, u => ∃ t, u = Value.int i t
  | .str x, u => ∃ t, u = Value.str x t
  | .byt b, u => ∃ t, u = Value.bytes b t
  | .flt b, u => ∃ t, u = Value.float b t
  | .ref a, u => u = Value.ref a
  | .ty n, u => u = Value.type n

abbrev Vals : List V → List Value → Prop := Paired RelV
theorem Vals.length {xs : List V} {us : List Value} (r : Vals xs us) : xs.length = us.length := Paired.length r
theorem Vals.get : ∀ {xs : List V} {us : List Value} {i : Nat} {x : V}, Vals xs us → xs[i]? = some x → ∃ u, us[i]? = some u ∧ RelV x u
  | _, _, _, _, .nil, e => by simp at e
  | _, _, 0, _, .cons r _, e => by simp at e; subst e; exact ⟨_, rfl, r⟩
  | _, _, i + 1, x, .cons _ t, e => by
    obtain ⟨u, h1, h2⟩ := Vals.get (i := i) (x := x) t (by simpa using e)
    exact ⟨u, by simpa using h1, h2⟩
theorem Vals.set {x : V} {u : Value} (r : RelV x u) : ∀ {xs : List V} {us : List Value} (i : Nat), Vals xs us → Vals (xs.set i x) (us.set i u)
  | _, _, _, .nil => .nil
  | _, _, 0, .cons _ t => .cons r t
  | _, _, i + 1, .cons q t => .cons q (Vals.set r i t)
theorem Vals.append : ∀ {xs ys : List V} {us ws : List Value}, Vals xs us → Vals ys ws → Vals (xs ++ ys) (us ++ ws)
  | _, _, _, _, .nil, s => s
  | _, _, _, _, .cons r t, s => .cons r (Vals.append t s)
theorem Vals.take : ∀ {xs : List V} {us : List Value} (n : Nat), Vals xs us → Vals (xs.take n) (us.take n)
  | _, _, 0, _ => .nil
  | _, _, _ + 1, .nil => .nil
  | _, _, n + 1, .cons r t => .cons r (Vals.take n t)
theorem Vals.drop : ∀ {xs : List V} {us : List Value} (n : Nat), Vals xs us → Vals (xs.drop n) (us.drop n)
  | _, _, 0, r => r
  | _, _, _ + 1, .nil => .nil
  | _, _, n + 1, .cons _ t => Vals.drop n t
def RelO : Option V → Option Value → Prop
  | some v, some u => RelV v u
  | none, none => True
  | _, _ => False
def KV {κ : Type} : List (κ × V) → List (κ × Value) → Prop := Paired fun (p : κ × V) (q : κ × Value) => p.1 = q.1 ∧ RelV p.2 q.2

/-- a key of a dict (00_mix): an int or a text -/
def kV : Key → V
  | .inl i => .int i
  | .inr x => .str x

/-- what stands at a tracked address -/
inductive HO where
  /-- a list -/
  | lst (xs : List V)
  /-- a tuple (never changes) -/
  | tup (xs : List V)
  /-- a dict whose keys are ints and texts; one whose keys are tuples of ints and texts (the empty one is both) -/
  | dK (kvs : List (Key × V)) | dT (kvs : List (List Key × V))
  /-- a set of ints: its members, its size -/
  | set (S : Int → Bool) (n : Nat)
  /-- an instance of the class at C, its dict at dx, its attributes -/
  | ins (C dx : Addr) (fs : List (Str × V))
  /-- the dict of the instance at x -/
  | own (x : Addr)
  /-- the dict of an exception -/
  | xd (fs : List (Str × V))
  /-- a bound method, f of x -/
  | met (f x : Addr)
  /-- a range object lo, lo + 1, .. below hi -/
  | rng (lo hi : Int)
  /-- a thing that is known to the object (the script; a dict while a loop walks it): read, never written while it is so -/
  | frz (o : Obj) (u : HO)
  /-- a code object's table -/
  | tbl (ps : Array Value)
  /-- any other thing, by what is true of its one object (a def of one's own: SetO a S n := HO.ext fun h => ..) -/
  | ext (φ : Heap → Prop)

abbrev Hp := Addr → Option HO
def upd (H : Hp) (a : Addr) (o : HO) : Hp := fun b => if b = a then some o else H b
theorem upd_same {H : Hp} {a : Addr} {o : HO} : upd H a o a = some o := by unfold upd; rw [if_pos rfl]
theorem upd_ne {H : Hp} {a b : Addr} {o : HO} (h : b ≠ a) : upd H a o b = H b := by unfold upd; rw [if_neg h]
/-- two objects of different content stand apart -/
theorem ne_of {H : Hp} {a b : Addr} {o u : HO} (h : H a = some o) (h' : H b = some u) (d : o ≠ u) : a ≠ b := by
  intro e; subst e; rw [h] at h'; exact d (Option.some.inj h')
theorem ne_of_none {H : Hp} {a b : Addr} {o : HO} (h : H a = some o) (h' : H b = none) : a ≠ b := by
  intro e; subst e; rw [h] at h'; cases h'

section
variable (P : Program) (w : World)
def ObjOk (H : Hp) (h : Heap) (a : Addr) : HO → Prop
  | .lst xs => xs.length ≤ sizeLine ∧ ∃ (its : List Value) (n : Nat), Vals xs its ∧ h.get? a = some { cls := .type "list", data := .seq its.toArray n }
  | .tup xs => xs.length ≤ sizeLine ∧ ∃ its : List Value, Vals xs its ∧ IsTup h a its.toArray
  | .dK kvs => kvs.length ≤ sizeLine ∧ (a == sysModules) = false ∧ ∃ vs, KV kvs vs ∧ h.DictOf (mixKind P w) a vs
  | .dT kvs => kvs.length ≤ sizeLine ∧ (a == sysModules) = false ∧ ∃ xs : List (List Key × Addr × Value),
      Paired (fun (p : List Key × V) (q : List Key × Addr × Value) => p.1 = q.1 ∧ H q.2.1 = some (.tup (p.1.map kV)) ∧ RelV p.2 q.2.2) kvs xs ∧
      ∃ o es ep, h.get? a = some o ∧ o.ExactDict ∧ o.data = .dict es ep ∧ es.toList = xs.map (entryOfKey (tupleKind (mixKind P w))) ∧ (xs.map (·.1)).Nodup
  | .set S n => h.SetOf (intKind P w) a S n
  | .ins C dx fs => H dx = some (.own a) ∧ fs.length ≤ 1000 ∧ dx ≠ a ∧ h.get? a = some (PySem.W.instObj C dx) ∧
      ∃ mA, h.Ns1 dx mA ∧ (∀ f, RelO (fs.lookup f) (mA f)) ∧ PySem.Within mA (fs.map (·.1))
  | .own _ => ∃ o, h.get? a = some o
  | .xd fs => ∃ mA, h.Ns1 a mA ∧ ∀ f, RelO (fs.lookup f) (mA f)
  | .rng lo hi => ∃ t u v, h.get? a = some { cls := .type "range", data := .fields #[.int lo t, .int hi u, .int 1 v] }
  | .frz o u => h.get? a = some o ∧ ObjOk H h a u
  | .tbl ps => h.get? a = some { cls := .none, data := .fields ps }
  | .met f x => h.get? a = some (PySem.W.methodObj (.ref f) (.ref x))
  | .ext φ => φ h ∧ (∃ o, h.get? a = some o) ∧ ∀ h1 h2 : Heap, φ h1 → (∀ o, h1.get? a = some o → h2.get? a = some o) → φ h2
/-- the abstract heap is held -/
def HOk (H : Hp) (h : Heap) : Prop := ∀ a o, H a = some o → ObjOk P w H h a o
end

section
variable {P : Program} {w : World} {H H' : Hp} {h h' : Heap} {a : Addr} {o : HO}
theorem ObjOk.lt (x : ObjOk P w H h a o) : a < h.objs.size := by
  cases o with
  | lst xs => obtain ⟨_, _, _, _, e⟩ := x; exact Heap.lt_size e
  | tup xs => obtain ⟨_, _, _, p⟩ := x; exact p.lt
  | dK kvs => obtain ⟨_, _, _, _, o, _, _, e, _⟩ := x; exact Heap.lt_size e
  | dT kvs => obtain ⟨_, _, _, _, o, _, _, e, _⟩ := x; exact Heap.lt_size e
  | set S n => obtain ⟨o, _, _, _, e, _⟩ := x; exact Heap.lt_size e
  | ins C dx fs => obtain ⟨_, _, _, e, _⟩ := x; exact Heap.lt_size e
  | own y => obtain ⟨_, e⟩ := x; exact Heap.lt_size e
  | xd fs => obtain ⟨_, ⟨_, _, _, e, _⟩, _⟩ := x; exact Heap.lt_size e
  | rng lo hi => obtain ⟨_, _, _, e⟩ := x; exact Heap.lt_size e
  | frz ob u => obtain ⟨e, _⟩ := x; exact Heap.lt_size e
  | tbl ps => exact Heap.lt_size (show h.get? a = some _ from x)
  | met f y => exact Heap.lt_size (show h.get? a = some _ from x)
  | ext φ => obtain ⟨_, ⟨_, e⟩, _⟩ := x; exact Heap.lt_size e
theorem Paired.mapP {α β : Type} {F G : α → β → Prop} : ∀ {l₁ : List α} {l₂ : List β}, Paired F l₁ l₂ → (∀ a b, F a b → G a b) → Paired G l₁ l₂
  | _, _, .nil, _ => .nil
  | _, _, .cons r t, f => .cons (f _ _ r) (Paired.mapP t f)
/-- what an object's description leans on: its own object, its own dict, the tuples -/
theorem ObjOk.stay (x : ObjOk P w H h a o) (k : ∀ b u, (b = a ∨ H b = some (.own a)) → h.get? b = some u → h'.get? b = some u)
    (ho : ∀ b, H b = some (.own a) → H' b = some (.own a)) (ht : ∀ b xs, H b = some (.tup xs) → H' b = some (.tup xs)) : ObjOk P w H' h' a o := by
  induction o with
  | lst xs => obtain ⟨z, its, n, r, e⟩ := x; exact ⟨z, its, n, r, k _ _ (.inl rfl) e⟩
  | tup xs => obtain ⟨z, its, r, ob, e, c⟩ := x; exact ⟨z, its, r, ob, k _ _ (.inl rfl) e, c⟩
  | dK kvs => obtain ⟨z, y, vs, r, ob, es, ep, e, c⟩ := x; exact ⟨z, y, vs, r, ob, es, ep, k _ _ (.inl rfl) e, c⟩
  | dT kvs =>
    obtain ⟨z, y, xs, r, ob, es, ep, e, c⟩ := x
    exact ⟨z, y, xs, Paired.mapP r fun p q z => ⟨z.1, ht _ _ z.2.1, z.2.2⟩, ob, es, ep, k _ _ (.inl rfl) e, c⟩
  | set S n => obtain ⟨ob, es, ep, t, e, c⟩ := x; exact ⟨ob, es, ep, t, k _ _ (.inl rfl) e, c⟩
  | ins C dx fs =>
    obtain ⟨d, z, ne, e, mA, ⟨od, es, ep, e2, c⟩, r⟩ := x
    exact ⟨ho _ d, z, ne, k _ _ (.inl rfl) e, mA, ⟨od, es, ep, k _ _ (.inr d) e2, c⟩, r⟩
  | own y => obtain ⟨ob, e⟩ := x; exact ⟨ob, k _ _ (.inl rfl) e⟩
  | xd fs => obtain ⟨mA, ⟨od, es, ep, e, c⟩, r⟩ := x; exact ⟨mA, ⟨od, es, ep, k _ _ (.inl rfl) e, c⟩, r⟩
  | rng lo hi => obtain ⟨t, u, v, e⟩ := x; exact ⟨t, u, v, k _ _ (.inl rfl) e⟩
  | frz ob u ih => obtain ⟨e, q⟩ := x; exact ⟨k _ _ (.inl rfl) e, ih q⟩
  | tbl ps =>
    have e : h.get? a = some { cls := .none, data := .fields ps } := x
    show h'.get? a = some { cls := .none, data := .fields ps }
    exact k a _ (.inl rfl) e
  | met f y =>
    have e : h.get? a = some (PySem.W.methodObj (.ref f) (.ref y)) := x
    show h'.get? a = some (PySem.W.methodObj (.ref f) (.ref y))
    exact k a _ (.inl rfl) e
  | ext φ => obtain ⟨p, ⟨o, e⟩, st⟩ := x; exact ⟨st _ _ p fun o q => k _ _ (.inl rfl) q, ⟨o, k _ _ (.inl rfl) e⟩, st⟩
theorem HOk.lt (x : HOk P w H h) (e : H a = some o) : a < h.objs.size := (x a o e).lt
theorem HOk.fresh (x : HOk P w H h) (e : h.objs.size ≤ a) : H a = none := by
  cases q : H a with
  | none => rfl
  | some u => exact absurd (Nat.lt_of_lt_of_le (x.lt q) e) (Nat.lt_irrefl _)
/-- every object of the heap is kept -/
theorem HOk.kept (x : HOk P w H h) (k : ∀ b u, h.get? b = some u → h'.get? b = some u) : HOk P w H h' := fun a o e =>
  (x a o e).stay (fun b u _ q => k b u q) (fun _ q => q) fun _ _ q => q
/-- a new object is laid and tracked -/
theorem HOk.laid (x : HOk P w H h) (k : ∀ b u, h.get? b = some u → h'.get? b = some u) (hp : h.objs.size ≤ a) (new : ObjOk P w (upd H a o) h' a o) : HOk P w (upd H a o) h' := fun b u e => by
  have hn := x.fresh hp
  by_cases hb : b = a
  · subst hb; rw [upd_same] at e; cases e; exact new
  · rw [upd_ne hb] at e
    exact (x b u e).stay (fun c v _ q => k c v q) (fun c q => by rw [upd_ne (ne_of_none q hn)]; exact q) fun c xs q => by rw [upd_ne (ne_of_none q hn)]; exact q
end

/-- what may be read as u: it is u, or a known u -/
def Rd (H : Hp) (a : Addr) (u : HO) : Prop := H a = some u ∨ ∃ o, H a = some (.frz o u)
theorem Rd.ok {P : Program} {w : World} {H : Hp} {h : Heap} {a : Addr} {u : HO} (r : Rd H a u) (x : HOk P w H h) : ObjOk P w H h a u := by
  rcases r with r | ⟨o, r⟩
  · exact x a u r
  · obtain ⟨_, q⟩ := x a _ r
    exact q
/-- what may be written -/
def Mut : Option HO → Prop
  | some (.lst _) => True
  | some (.dK _) => True
  | some (.dT _) => True
  | some (.set _ _) => True
  | some (.ins _ _ _) => True
  | some (.ext _) => True
  | _ => False
section
variable {P : Program} {w : World} {H : Hp} {h h' : Heap} {x e : Addr} {o' : HO}
/-- the object at e is changed: x itself, or the dict of the instance x -/
theorem HOk.write (ok : HOk P w H h) (mu : Mut (H x)) (he : e = x ∨ H e = some (.own x)) (k : ∀ b u, b ≠ e → h.get? b = some u → h'.get? b = some u) (heo : ∃ u, h'.get? e = some u)
    (new : ObjOk P w (upd H x o') h' x o') : HOk P w (upd H x o') h' := fun b u q => by
  have nown : ∀ c y, H c = some (.own y) → c ≠ x := fun c y r z => by subst z; rw [r] at mu; exact mu
  have ntup : ∀ c xs, H c = some (.tup xs) → c ≠ x := fun c xs r z => by subst z; rw [r] at mu; exact mu
  by_cases hb : b = x
  · subst hb; rw [upd_same] at q; cases q; exact new
  · rw [upd_ne hb] at q
    by_cases hbe : b = e
    · have q' : H b = some (.own x) := by
        rcases he with z | z
        · exact absurd (hbe.trans z) hb
        · rw [hbe]; exact z
      rw [q] at q'; cases q'
      obtain ⟨v, hv⟩ := heo
      exact ⟨v, by rw [hbe]; exact hv⟩
    · refine (ok b u q).stay (fun c v hc r => k c v ?_ r) (fun c r => by rw [upd_ne (nown c b r)]; exact r) fun c xs r => by rw [upd_ne (ntup c xs r)]; exact r
      rcases hc with rfl | hc
      · exact hbe
      · rintro rfl
        rcases he with z | z
        · exact nown c b hc z
        · rw [hc] at z; cases z; exact hb rfl
end

/-! ### kept unless tracked; of the frames at fs (the callers') the slots may change (an exception that passes writes there); of the records at ex (iterators) nothing is said -/
structure Un (fs ex : List Addr) (H H' : Hp) (h h' : Heap) : Prop where
  keep : ∀ b o, h.get? b = some o → H b = none → b ∉ fs → b ∉ ex → h'.get? b = some o
  slot : ∀ b o, h.get? b = some o → H b = none → b ∈ fs → b ∉ ex → ∃ sl, h'.get? b = some { o with slots := sl }
  free : ∀ b o, h.get? b = some o → H b = none → b ∉ ex → H' b = none
  there : ∀ b o, h.get? b = some o → b ∉ ex → ∃ o', h'.get? b = some o'
  tups : ∀ b xs, H b = some (.tup xs) → H' b = some (.tup xs)
  frzs : ∀ b o u, H b = some (.frz o u) → H' b = some (.frz o u)
  tbls : ∀ b ps, H b = some (.tbl ps) → ∃ more, H' b = some (.tbl (ps ++ more))
section
variable {fs fs' ex ex' : List Addr} {H H1 H2 : Hp} {h h1 h2 h' : Heap} {a x e : Addr} {o : HO}
theorem Un.any (u : Un fs ex H H1 h h1) {b : Addr} {ob : Obj} (q : h.get? b = some ob) (n : H b = none) (hx : b ∉ ex) : ∃ sl, h1.get? b = some { ob with slots := sl } := by
  by_cases hb : b ∈ fs
  · exact u.slot b ob q n hb hx
  · exact ⟨ob.slots, u.keep b ob q n hb hx⟩
theorem Un.kept (k : ∀ b u, h.get? b = some u → h'.get? b = some u) : Un fs ex H H h h' :=
  ⟨fun b ob q _ _ _ => k b ob q, fun b ob q _ _ _ => ⟨ob.slots, k b ob q⟩, fun _ _ _ n _ => n, fun b ob q _ => ⟨ob, k b ob q⟩, fun _ _ q => q, fun _ _ _ q => q, fun _ ps q => ⟨#[], by rw [q]; simp⟩⟩
theorem Un.refl : Un fs ex H H h h := Un.kept fun _ _ q => q
theorem Un.laid (k : ∀ b u, h.get? b = some u → h'.get? b = some u) (hp : h.objs.size ≤ a) (hn : H a = none) : Un fs ex H (upd H a o) h h' where
  keep := fun b u q _ _ _ => k b u q
  slot := fun b u q _ _ _ => ⟨u.slots, k b u q⟩
  free := fun b u q n _ => by rw [upd_ne (Nat.ne_of_lt (Nat.lt_of_lt_of_le (Heap.lt_size q) hp))]; exact n
  there := fun b u q _ => ⟨u, k b u q⟩
  tups := fun b xs q => by rw [upd_ne (ne_of_none q hn)]; exact q
  frzs := fun b u xs q => by rw [upd_ne (ne_of_none q hn)]; exact q
  tbls := fun b ps q => ⟨#[], by rw [upd_ne (ne_of_none q hn), q]; simp⟩
theorem Un.write (mu : Mut (H x)) (he : e = x ∨ H e = some (.own x)) (k : ∀ b u, b ≠ e → h.get? b = some u → h'.get? b = some u) (heo : ∃ u, h'.get? e = some u) : Un fs ex H (upd H x o) h h' := by
  have hx : ∀ b, H b = none → b ≠ x := fun b n z => by subst z; rw [n] at mu; exact mu
  have hb : ∀ b, H b = none → b ≠ e := fun b n z => by
    subst z
    rcases he with r | r
    · exact hx b n r
    · rw [n] at r; cases r
  have hm : ∀ b u, H b = some u → ¬ Mut (some u) → b ≠ x := fun b u q nm z => by subst z; rw [q] at mu; exact nm mu
  refine ⟨fun b u q n _ _ => k b u (hb b n) q, fun b u q n _ _ => ⟨u.slots, k b u (hb b n) q⟩, fun b u q n _ => by rw [upd_ne (hx b n)]; exact n, fun b u q _ => ?_,
    fun b xs q => by rw [upd_ne (hm b _ q fun z => z)]; exact q, fun b u xs q => by rw [upd_ne (hm b _ q fun z => z)]; exact q, fun b ps q => ⟨#[], by rw [upd_ne (hm b _ q fun z => z), q]; simp⟩⟩
  by_cases hbe : b = e
  · subst hbe; exact heo
  · exact ⟨u, k b u hbe q⟩
end

/-! ### the heap without what is tracked -/
def trk (h : Heap) (H : Hp) : List Addr := (List.range h.objs.size).filter fun a => (H a).isSome
def hidT (h : Heap) (H : Hp) : Heap := PySem.W.hideAll h (trk h H)
theorem hidT_size (h : Heap) (H : Hp) : (hidT h H).objs.size = h.objs.size := PySem.W.hideAll_size _ _
theorem hidT_get {h : Heap} {H : Hp} {b : Addr} {o : Obj} (e : h.get? b = some o) (n : H b = none) : (hidT h H).get? b = some o :=
  PySem.W.hideAll_get _ e fun hm => by
    have q : (H b).isSome = true := (List.mem_filter.mp hm).2
    rw [n] at q; simp at q
theorem of_hidT {h : Heap} {H : Hp} {b : Addr} {o : Obj} (e : (hidT h H).get? b = some o) : h.get? b = some o ∧ H b = none := by
  have e' : h.get? b = some o := PySem.W.of_hideAll (trk h H) e
  refine ⟨e', ?_⟩
  cases q : H b with
  | none => rfl
  | some x =>
    have hm : b ∈ trk h H := List.mem_filter.mpr ⟨List.mem_range.mpr (Heap.lt_size e'), by simp [q]⟩
    have z : (hidT h H).get? b = none := PySem.W.hideAll_none (trk h H) hm
    rw [z] at e; cases e

/-! ### OpenK's ledger, filled with every new object but one -/
def allNews (g h : Heap) (L : Addr) : List (Addr × Obj) := (List.range h.objs.size).filterMap fun a => if a = L ∨ (g.get? a).isSome = true then none else (h.get? a).map fun o => (a, o)
def rest (g h : Heap) (L d : Addr) : List (Addr × Obj) := (allNews g h L).filter fun p => decide (p.1 ≠ d)
end L2

namespace L2
open PySem PySem.Spec PyProof.Rows

/-- the module's facts, over the base: the heap at the law's entry without what is tracked there -/
structure Mod (K : PySem.W.Frag) (mg : Str → Option Value) (base : Heap) : Prop where
  kin : K.In base
  glob : base.Ns mainGlobals mg
  blt : ∃ mb, base.Ns builtinsNs mb ∧ ∀ x : Str, x ≠ "__name__" → mb x = bootBuiltins x
  nolimit : base.NoLimit

/-- the context: a def's body (or a comprehension's block) running. base: fixed through the whole law; s₀, H₀: the entry; outer: the frames whose slots others may change (a def's callers); stack: all frames that run;
   ex: iterators that were made ahead of the entry and are walked here (a comprehension's); fn: the names whose cells were made at the entry (a def: all; a comprehension's block: its own); calm: not within an except suite; pn: pins that every state bears; xe: what is wanted of an exception that leaves the code -/
structure Cx where
  prog : Program
  w : World
  K : PySem.W.Frag
  mg : Str → Option Value
  base : Heap
  A : Around
  N : List Str
  s₀ : Shared
  H₀ : Hp
  env : Env
  outer : List Env
  stack : List Env
  ex : List Addr
  fn : Str → Bool
  calm : Bool
  pn : List (Addr × Obj)
  xe : Value → Shared → Prop
/-- the callers' frames -/
def frs (l : List Env) : List Addr := l.filterMap (·.frame)
abbrev Cx.fs (X : Cx) : List Addr := frs X.outer

def Vis (sc : Scope) (x : Str) : Prop := sc.names.lookup x = some .local ∨ sc.names.lookup x = some .cell ∨ sc.names.lookup x = some .free
def Loc (sc : Scope) (x : Str) : Prop := sc.names.lookup x = some .local ∨ sc.names.lookup x = some .cell
def Look (env : Env) (h : Heap) (m : Str → Option Value) (x : Str) (u : Value) : Prop :=
  (env.kindOf x = some .local ∧ m x = some u) ∨ ((env.kindOf x = some .cell ∨ env.kindOf x = some .free) ∧ ∃ c, env.cells.lookup x = some c ∧ h.IsCell c (some u))

structure Cx.Ok (X : Cx) : Prop where
  mod : Mod X.K X.mg X.base
  kind : X.env.scope.kind = .function
  glob : X.env.globals = mainGlobals
  blt : X.env.builtins = builtinsNs
  above : X.s₀.heap.objs.size ≤ X.env.locals
  inj : ∀ x y c, X.env.cells.lookup x = some c → X.env.cells.lookup y = some c → x = y
  has : ∀ x, (X.env.kindOf x = some .cell ∨ X.env.kindOf x = some .free) → ∃ c, X.env.cells.lookup x = some c
  cab : ∀ x c, X.fn x = true → X.env.cells.lookup x = some c → X.s₀.heap.objs.size ≤ c
  hd : X.calm = true → X.A.handled = none
  frames : X.A.frames = some X.stack
  stk : X.stack = X.outer ∨ (X.stack = X.env :: X.outer ∧ X.env.frame = some X.env.locals)
  exf : ∀ b ∈ X.ex, b ≠ X.env.locals ∧ ∀ x c, X.env.cells.lookup x = some c → c ≠ b
  bs : ∀ b o, X.base.get? b = some o → X.s₀.heap.get? b = some o ∧ X.H₀ b = none
  bsz : X.base.objs.size ≤ X.s₀.heap.objs.size
  noex : ∀ b o, X.base.get? b = some o → b ∉ X.ex
  exfs : ∀ b ∈ X.ex, b ∉ X.fs
  funs : X.s₀.heap.FunFrames X.base X.outer
  frf : ∀ b ∈ X.fs, X.H₀ b = none

structure Inv (X : Cx) (pins : List (Addr × Obj)) (σ : List (Option V)) (H : Hp) (s : Shared) : Prop where
  ok : X.Ok
  os : s.os = X.s₀.os
  bare : AllBare s.gens
  base : Un X.fs X.ex X.H₀ H X.s₀.heap s.heap
  loc : ∃ m, s.heap.Ns X.env.locals m ∧ ∀ (i : Nat) (x : Str) (v : V), X.N[i]? = some x → σ[i]? = some (some v) → Vis X.env.scope x → ∃ u, RelV v u ∧ Look X.env s.heap m x u
  cell : ∀ x c, X.env.cells.lookup x = some c → ∃ v, s.heap.IsCell c v
  free : H X.env.locals = none
  freeC : ∀ x c, X.env.cells.lookup x = some c → H c = none
  pin : ∀ p ∈ X.pn ++ pins, s.heap.get? p.1 = some p.2 ∧ H p.1 = none ∧ p.1 ≠ X.env.locals ∧ p.1 ∉ X.fs ∧ ∀ v, p.2.data ≠ .cell v
  hok : HOk X.prog X.w H s.heap
  len : σ.length = X.N.length

section
variable {X : Cx} {pins : List (Addr × Obj)} {σ : List (Option V)} {H H' : Hp} {s : Shared} {h' : Heap}

theorem Cx.Ok.nofr (ok : X.Ok) {b : Addr} {o : Obj} (e : X.base.get? b = some o) : b ∉ X.fs := fun hb => by
  have := (ok.funs.mem hb).1
  rw [e] at this; cases this
theorem Inv.bs (I : Inv X pins σ H s) : ∀ b o, X.base.get? b = some o → s.heap.get? b = some o ∧ H b = none := fun b o e =>
  ⟨I.base.keep b o (I.ok.bs b o e).1 (I.ok.bs b o e).2 (I.ok.nofr e) (I.ok.noex b o e), I.base.free b o (I.ok.bs b o e).1 (I.ok.bs b o e).2 (I.ok.noex b o e)⟩
theorem Inv.bk (I : Inv X pins σ H s) : ∀ b o, X.base.get? b = some o → s.heap.get? b = some o := fun b o e => (I.bs b o e).1
theorem Inv.mod (I : Inv X pins σ H s) : Mod X.K X.mg X.base := I.ok.mod
theorem Inv.kIn (I : Inv X pins σ H s) : X.K.In s.heap := I.ok.mod.kin.keeps I.bk
/-- the frame over the base: for OpenK's rules (K.In X.base is I.mod.kin) -/
theorem Inv.fr (I : Inv X pins σ H s) : ∃ m, Fr X.base X.env.locals s.heap m :=
  let ⟨m, hn, _⟩ := I.loc
  ⟨m, hn, I.bk, Nat.le_trans I.ok.bsz I.ok.above⟩
theorem Inv.lt (I : Inv X pins σ H s) : X.env.locals < s.heap.objs.size := let ⟨_, hn, _⟩ := I.loc; hn.lt
theorem Inv.sz (I : Inv X pins σ H s) : X.s₀.heap.objs.size ≤ s.heap.objs.size := Nat.le_trans I.ok.above (Nat.le_of_lt I.lt)
theorem Inv.nofs (I : Inv X pins σ H s) {a : Addr} (h : s.heap.objs.size ≤ a) : a ∉ X.fs := fun hb => by
  obtain ⟨_, o, ho, _⟩ := I.ok.funs.mem hb
  exact absurd (Nat.lt_of_lt_of_le (Heap.lt_size ho) (Nat.le_trans I.sz h)) (Nat.lt_irrefl _)
theorem Inv.cne (I : Inv X pins σ H s) : ∀ x c, X.env.cells.lookup x = some c → c ≠ X.env.locals := fun x c e z => by
  obtain ⟨v, o, ho, hd⟩ := I.cell x c e
  obtain ⟨m, ⟨o', es, ep, ho', hd', _⟩, _⟩ := I.loc
  rw [z, ho'] at ho; cases ho; rw [hd'] at hd; cases hd
theorem Inv.funs (I : Inv X pins σ H s) : s.heap.FunFrames X.base X.outer := by
  have all : ∀ (l : List Env), (∀ b ∈ frs l, b ∈ X.fs) → X.s₀.heap.FunFrames X.base l → s.heap.FunFrames X.base l := by
    intro l
    induction l with
    | nil => intro _ _; trivial
    | cons env r ih =>
      intro hs hl
      obtain ⟨hk, ⟨L, o, hf, hn, ho, hd⟩, hr⟩ := hl
      have hL : L ∈ X.fs := hs L (by unfold frs; rw [List.filterMap_cons, hf]; exact List.mem_cons_self)
      obtain ⟨sl, e⟩ := I.base.slot L o ho (I.ok.frf L hL) hL fun z => I.ok.exfs L z hL
      exact ⟨hk, ⟨L, _, hf, hn, e, hd⟩, ih (fun b hb => hs b (by unfold frs; rw [List.filterMap_cons, hf]; exact List.mem_cons_of_mem _ hb)) hr⟩
  exact all X.outer (fun _ hb => hb) I.ok.funs

/-- the frames that run, for a call -/
theorem Inv.stack (I : Inv X pins σ H s) : s.heap.FunFrames X.base X.stack := by
  rcases I.ok.stk with e | ⟨e, hf⟩
  · rw [e]; exact I.funs
  · rw [e]
    obtain ⟨m, hn, _⟩ := I.loc
    refine .cons (by rw [I.ok.kind]; decide) hf hn ?_ I.funs
    exact Heap.get?_none_of_le (Nat.le_trans I.ok.bsz I.ok.above)
theorem Inv.stkSub (I : Inv X pins σ H s) : ∀ b ∈ frs X.stack, b ∈ X.env.locals :: X.fs := fun b hb => by
  rcases I.ok.stk with e | ⟨e, hf⟩
  · rw [e] at hb; exact List.mem_cons_of_mem _ hb
  · rw [e] at hb
    unfold frs at hb
    rw [List.filterMap_cons, hf] at hb
    exact hb
theorem Inv.stkFree (I : Inv X pins σ H s) : ∀ b ∈ frs X.stack, H b = none := fun b hb => by
  rcases List.mem_cons.mp (I.stkSub b hb) with e | hb
  · rw [e]; exact I.free
  · obtain ⟨_, o, ho, _⟩ := I.ok.funs.mem hb
    exact I.base.free b o ho (I.ok.frf b hb) fun z => I.ok.exfs b z hb

/-- THE STEP: the untracked objects but the frame and the records at ch are kept (the callers' frames up to slots), the frame's map is kept, the new abstract heap is held -/
theorem Inv.step {g' : Array GenState} {t' : Nat} {d' : Drawn} {ch : List Addr} (I : Inv X pins σ H s)
    (hch : ∀ b ∈ ch, (b ∈ X.ex ∨ X.s₀.heap.objs.size ≤ b) ∧ b ≠ X.env.locals ∧ (∀ x c, X.env.cells.lookup x = some c → c ≠ b) ∧ ∀ p ∈ X.pn ++ pins, p.1 ≠ b)
    (keep : ∀ b o, b ≠ X.env.locals → b ∉ X.fs → b ∉ ch → s.heap.get? b = some o → H b = none → h'.get? b = some o)
    (slot : ∀ b o, b ≠ X.env.locals → b ∈ X.fs → b ∉ ch → s.heap.get? b = some o → H b = none → ∃ sl, h'.get? b = some { o with slots := sl }) (free : ∀ b o, b ∉ ch → s.heap.get? b = some o → H b = none → H' b = none)
    (there : ∀ b o, b ∉ ch → s.heap.get? b = some o → ∃ o', h'.get? b = some o')
    (tups : ∀ b xs, H b = some (.tup xs) → H' b = some (.tup xs)) (frzs : ∀ b o u, H b = some (.frz o u) → H' b = some (.frz o u)) (tbls : ∀ b ps, H b = some (.tbl ps) → ∃ more, H' b = some (.tbl (ps ++ more)))
    (ns : ∀ m, s.heap.Ns X.env.locals m → h'.Ns X.env.locals m) (hok : HOk X.prog X.w H' h') (hg : AllBare g') :
    Inv X pins σ H' { s with heap := h', gens := g', drawn := d', toks := t' } := by
  have neL : ∀ b o, X.s₀.heap.get? b = some o → b ≠ X.env.locals := fun b o e => Nat.ne_of_lt (Nat.lt_of_lt_of_le (Heap.lt_size e) I.ok.above)
  have neC : ∀ b o, X.s₀.heap.get? b = some o → b ∉ X.ex → b ∉ ch := fun b o e hx hb => by
    rcases (hch b hb).1 with z | z
    · exact hx z
    · exact absurd (Nat.lt_of_lt_of_le (Heap.lt_size e) z) (Nat.lt_irrefl _)
  have cellK : ∀ x c, X.env.cells.lookup x = some c → ∀ v, s.heap.IsCell c v → h'.IsCell c v := fun x c e v ⟨o, ho, hd⟩ => by
    have nch : c ∉ ch := fun z => (hch c z).2.2.1 x c e rfl
    by_cases hc : c ∈ X.fs
    · obtain ⟨sl, q⟩ := slot c o (I.cne x c e) hc nch ho (I.freeC x c e)
      exact ⟨_, q, hd⟩
    · exact ⟨o, keep c o (I.cne x c e) hc nch ho (I.freeC x c e), hd⟩
  refine ⟨I.ok, I.os, hg, ⟨fun b o e n hb hx => ?_, fun b o e n hb hx => ?_, fun b o e n hx => ?_, fun b o e hx => ?_, fun b xs e => tups b xs (I.base.tups b xs e), fun b o xs e => frzs b o xs (I.base.frzs b o xs e), fun b ps e => ?_⟩, ?_, fun x c e => ?_, ?_, fun x c e => ?_, fun p hp => ?_, hok, I.len⟩
  · exact keep b o (neL b o e) hb (neC b o e hx) (I.base.keep b o e n hb hx) (I.base.free b o e n hx)
  · obtain ⟨sl, e1⟩ := I.base.slot b o e n hb hx
    obtain ⟨sl', e2⟩ := slot b _ (neL b o e) hb (neC b o e hx) e1 (I.base.free b o e n hx)
    exact ⟨sl', e2⟩
  · obtain ⟨o', e1⟩ := I.base.there b o e hx
    exact free b o' (neC b o e hx) e1 (I.base.free b o e n hx)
  · obtain ⟨o', e1⟩ := I.base.there b o e hx
    exact there b o' (neC b o e hx) e1
  · obtain ⟨m1, e1⟩ := I.base.tbls b ps e
    obtain ⟨m2, e2⟩ := tbls b _ e1
    exact ⟨m1 ++ m2, by rw [e2, Array.append_assoc]⟩
  · obtain ⟨m, hn, hl⟩ := I.loc
    refine ⟨m, ns m hn, fun i x v e1 e2 e3 => ?_⟩
    obtain ⟨u, r, l⟩ := hl i x v e1 e2 e3
    refine ⟨u, r, ?_⟩
    rcases l with l | ⟨k, c, e, z⟩
    · exact .inl l
    · exact .inr ⟨k, c, e, cellK x c e _ z⟩
  · obtain ⟨v, z⟩ := I.cell x c e
    exact ⟨v, cellK x c e v z⟩
  · obtain ⟨m, ⟨o, _, _, ho, _⟩, _⟩ := I.loc
    exact free _ o (fun z => (hch _ z).2.1 rfl) ho I.free
  · obtain ⟨v, o, ho, hd⟩ := I.cell x c e
    exact free c o (fun z => (hch c z).2.2.1 x c e rfl) ho (I.freeC x c e)
  · obtain ⟨e, n, ne, nf, d⟩ := I.pin p hp
    have nch : p.1 ∉ ch := fun z => (hch p.1 z).2.2.2 p hp rfl
    exact ⟨keep p.1 p.2 ne nf nch e n, free p.1 p.2 nch e n, ne, nf, d⟩
/-- .. where the frame's own object is kept too -/
theorem Inv.un {t' : Nat} (I : Inv X pins σ H s) (u : Un X.fs [] H H' s.heap h') (hok : HOk X.prog X.w H' h') : Inv X pins σ H' { s with heap := h', toks := t' } := by
  obtain ⟨m, ⟨o, es, ep, ho, r⟩, _⟩ := id I.loc
  obtain ⟨sl, hL⟩ := u.any ho I.free (by simp)
  exact I.step (g' := s.gens) (d' := s.drawn) (ch := []) (fun _ z => nomatch z) (fun b o _ hb _ e n => u.keep b o e n hb (by simp)) (fun b o _ hb _ e n => u.slot b o e n hb (by simp)) (fun b o _ e n => u.free b o e n (by simp)) (fun b o _ e => u.there b o e (by simp)) u.tups u.frzs u.tbls (fun m' hm => by
    obtain ⟨o', es', ep', ho', r'⟩ := hm
    rw [ho] at ho'; cases ho'
    exact ⟨_, es', ep', hL, r'⟩) hok I.bare
/-- behind a call (or a comprehension's block): the slots of this frame may have changed too, the records at ch may have turned -/
theorem Inv.call {g' : Array GenState} {t' : Nat} {d' : Drawn} {ch : List Addr} (I : Inv X pins σ H s) (u : Un (frs X.stack) ch H H' s.heap h') (hok : HOk X.prog X.w H' h') (hg : AllBare g')
    (hch : ∀ b ∈ ch, (b ∈ X.ex ∨ X.s₀.heap.objs.size ≤ b) ∧ b ≠ X.env.locals ∧ (∀ x c, X.env.cells.lookup x = some c → c ≠ b) ∧ ∀ p ∈ X.pn ++ pins, p.1 ≠ b) :
    Inv X pins σ H' { s with heap := h', gens := g', drawn := d', toks := t' } := by
  obtain ⟨m, ⟨o, es, ep, ho, r⟩, _⟩ := id I.loc
  obtain ⟨sl, hL⟩ := u.any ho I.free fun z => (hch _ z).2.1 rfl
  exact I.step (ch := ch) hch (fun b o hL hb hc e n => u.keep b o e n (fun z => (List.mem_cons.mp (I.stkSub b z)).elim hL hb) hc) (fun b o _ _ hc e n => u.any e n hc) (fun b o hc e n => u.free b o e n hc) (fun b o hc e => u.there b o e hc) u.tups u.frzs u.tbls (fun m' hm => by
    obtain ⟨o', es', ep', ho', r'⟩ := hm
    rw [ho] at ho'; cases ho'
    exact ⟨_, es', ep', hL, r'⟩) hok hg
/-- an untracked record of ours (an iterator) has turned -/
theorem Inv.turned {t' : Nat} {it : Addr} (I : Inv X pins σ H s) (k : ∀ b o, b ≠ it → s.heap.get? b = some o → h'.get? b = some o) (hn : H it = none) (hL : it ≠ X.env.locals)
    (h1 : it ∈ X.ex ∨ X.s₀.heap.objs.size ≤ it) (h2 : ∀ x c, X.env.cells.lookup x = some c → c ≠ it) (h3 : ∀ p ∈ X.pn ++ pins, p.1 ≠ it) : Inv X pins σ H { s with heap := h', toks := t' } := by
  have nit : ∀ b u, H b = some u → b ≠ it := fun b u e z => by rw [z, hn] at e; cases e
  refine I.step (g' := s.gens) (d' := s.drawn) (ch := [it]) (fun b hb => ?_) (fun b o _ _ hc e _ => k b o (fun z => hc (by simp [z])) e) (fun b o _ _ hc e _ => ⟨o.slots, k b o (fun z => hc (by simp [z])) e⟩) (fun _ _ _ _ n => n)
    (fun b o hc e => ⟨o, k b o (fun z => hc (by simp [z])) e⟩) (fun _ _ e => e) (fun _ _ _ e => e) (fun b ps e => ⟨#[], by rw [e]; simp⟩) (fun m hm => ?_) (fun b u e => ?_) I.bare
  · have e : b = it := by simpa using hb
    subst e
    exact ⟨h1, hL, h2, h3⟩
  · obtain ⟨o, es, ep, ho, r⟩ := hm
    exact ⟨o, es, ep, k _ o (Ne.symm hL) ho, r⟩
  · refine (I.hok b u e).stay (fun c v hc q => k c v ?_ q) (fun _ q => q) fun _ _ q => q
    rcases hc with z | z
    · rw [z]; exact nit b u e
    · exact nit c _ z
theorem Inv.tok (I : Inv X pins σ H s) (t : Nat) : Inv X pins σ H { s with toks := t } := I.un (h' := s.heap) (t' := t) Un.refl I.hok
/-- all objects kept -/
theorem Inv.kept {t' : Nat} (I : Inv X pins σ H s) (k : ∀ b u, s.heap.get? b = some u → h'.get? b = some u) : Inv X pins σ H { s with heap := h', toks := t' } := I.un (Un.kept k) (I.hok.kept k)
/-- a new object laid and tracked -/
theorem Inv.laid {a : Addr} {o : HO} {t' : Nat} (I : Inv X pins σ H s) (k : ∀ b u, s.heap.get? b = some u → h'.get? b = some u) (hp : s.heap.objs.size ≤ a) (new : ObjOk X.prog X.w (upd H a o) h' a o) :
    Inv X pins σ (upd H a o) { s with heap := h', toks := t' } := I.un (Un.laid k hp (I.hok.fresh hp)) (I.hok.laid k hp new)
/-- an object written -/
theorem Inv.write {x e : Addr} {o : HO} {t' : Nat} (I : Inv X pins σ H s) (mu : Mut (H x)) (he : e = x ∨ H e = some (.own x)) (k : ∀ b u, b ≠ e → s.heap.get? b = some u → h'.get? b = some u) (heo : ∃ u, h'.get? e = some u)
    (new : ObjOk X.prog X.w (upd H x o) h' x o) : Inv X pins σ (upd H x o) { s with heap := h', toks := t' } := I.un (Un.write mu he k heo) (I.hok.write mu he k heo new)
/-- forgetting slots, pins -/
theorem Inv.weak {σ' : List (Option V)} (I : Inv X pins σ H s) (hl : σ'.length = σ.length) (w : ∀ (i : Nat) v, σ'[i]? = some (some v) → σ[i]? = some (some v)) : Inv X pins σ' H s :=
  ⟨I.ok, I.os, I.bare, I.base, let ⟨m, hn, hl'⟩ := I.loc; ⟨m, hn, fun i x v e1 e2 e3 => hl' i x v e1 (w i v e2) e3⟩, I.cell, I.free, I.freeC, I.pin, I.hok, hl.trans I.len⟩
theorem Inv.pins_of {pins' : List (Addr × Obj)} (I : Inv X pins σ H s) (h : ∀ p ∈ pins', s.heap.get? p.1 = some p.2 ∧ H p.1 = none ∧ p.1 ≠ X.env.locals ∧ p.1 ∉ X.fs ∧ ∀ v, p.2.data ≠ .cell v) : Inv X pins' σ H s :=
  ⟨I.ok, I.os, I.bare, I.base, I.loc, I.cell, I.free, I.freeC, fun p hp => (List.mem_append.mp hp).elim (fun z => I.pin p (List.mem_append_left _ z)) (h p), I.hok, I.len⟩

theorem nodup_ix {N : List Str} (hN : N.Nodup) {i j : Nat} {x : Str} (a : N[i]? = some x) (b : N[j]? = some x) : i = j := by
  obtain ⟨h1, e1⟩ := List.getElem?_eq_some_iff.mp a
  obtain ⟨h2, e2⟩ := List.getElem?_eq_some_iff.mp b
  exact (List.getElem_inj hN).mp (e1.trans e2.symm)

/-- a name is stored; what changed -/
theorem store_ok2 {M : Model} {A : Around} {E : Value → Shared → Prop} {i : Nat} {x : Str} {v : V} {u : Value} {Q : Unit → Shared → Prop} (I : Inv X pins σ H s) (hN : X.N.Nodup) (hi : X.N[i]? = some x) (hx : Loc X.env.scope x) (r : RelV v u)
    (h : ∀ s', Inv X pins (σ.set i (some v)) H s' → (∃ a, Heap.SameBut a s.heap s'.heap ∧ (a = X.env.locals ∨ X.env.cells.lookup x = some a)) → Q () s') (hf : X.fn x = true ∨ X.env.scope.names.lookup x = some .local := by first | exact .inl rfl | exact .inr rfl | assumption) : wpAny M A (storeName X.env x u) Q E s := by
  obtain ⟨m, hn, hl⟩ := id I.loc
  have hcls : (X.env.scope.kind == .class || (X.env.scope.kind == .module && X.env.locals != X.env.globals)) = false := by rw [I.ok.kind]; rfl
  have hiσ : i < σ.length := by rw [I.len]; exact (List.getElem?_eq_some_iff.mp hi).1
  have cne := I.cne
  have tracked : ∀ {a : Addr} {h' : Heap}, (∃ o, s.heap.get? a = some o ∧ H a = none) → Heap.SameBut a s.heap h' → HOk X.prog X.w H h' := fun {a h'} ha hs b ob e => by
    obtain ⟨_, _, hfree⟩ := ha
    refine (I.hok b ob e).stay (fun c w' hc q => (hs.2 c ?_).trans q) (fun _ q => q) fun _ _ q => q
    rintro rfl
    rcases hc with rfl | hc
    · rw [hfree] at e; cases e
    · rw [hfree] at hc; cases hc
  rcases hx with hk | hk
  · refine wpAny_storeName_local hk hn (fun h' hn' hs => ?_) hcls
    obtain ⟨oL, _, _, hoL, _⟩ := id hn
    refine h _ ⟨I.ok, I.os, I.bare, ⟨fun b o e n hb hx => ?_, fun b o e n hb hx => ?_, I.base.free, fun b o e hx => ?_, I.base.tups, I.base.frzs, I.base.tbls⟩, ⟨_, hn', fun j y v' e1 e2 e3 => ?_⟩, fun y c e => ?_, I.free, I.freeC, fun p hp => ?_, tracked ⟨oL, hoL, I.free⟩ hs, by simpa using I.len⟩ ⟨_, hs, .inl rfl⟩
    · exact (hs.2 b (Nat.ne_of_lt (Nat.lt_of_lt_of_le (Heap.lt_size e) I.ok.above))).trans (I.base.keep b o e n hb hx)
    · obtain ⟨sl, e1⟩ := I.base.slot b o e n hb hx
      exact ⟨sl, (hs.2 b (Nat.ne_of_lt (Nat.lt_of_lt_of_le (Heap.lt_size e) I.ok.above))).trans e1⟩
    · obtain ⟨o', e1⟩ := I.base.there b o e hx
      exact ⟨o', (hs.2 b (Nat.ne_of_lt (Nat.lt_of_lt_of_le (Heap.lt_size e) I.ok.above))).trans e1⟩
    · by_cases hj : j = i
      · subst hj
        rw [hi] at e1; cases e1
        rw [List.getElem?_set_self hiσ] at e2
        cases e2
        exact ⟨u, r, .inl ⟨hk, by simp⟩⟩
      · rw [List.getElem?_set_ne (Ne.symm hj)] at e2
        obtain ⟨u', r', q⟩ := hl j y v' e1 e2 e3
        refine ⟨u', r', ?_⟩
        rcases q with ⟨k, e⟩ | ⟨k, c, e, z⟩
        · refine .inl ⟨k, ?_⟩
          have : y ≠ x := fun e => hj (nodup_ix hN e1 (e ▸ hi))
          simp [this, e]
        · exact .inr ⟨k, c, e, z.sameBut hs (cne y c e)⟩
    · obtain ⟨w', z⟩ := I.cell y c e
      exact ⟨w', z.sameBut hs (cne y c e)⟩
    · obtain ⟨e, n, ne, nf, d⟩ := I.pin p hp
      exact ⟨(hs.2 p.1 ne).trans e, n, ne, nf, d⟩
  · have hfn : X.fn x = true := by
      rcases hf with z | z
      · exact z
      · rw [z] at hk; cases hk
    obtain ⟨c, hc⟩ := I.ok.has x (.inl hk)
    obtain ⟨w', z⟩ := I.cell x c hc
    refine wpAny_storeName_cell I.ok.kind hk hc z (fun h' hc' hs => ?_)
    obtain ⟨oc, hoc, hocd⟩ := id z
    refine h { s with heap := h' } ⟨I.ok, I.os, I.bare, ⟨fun b o e n hb hx => ?_, fun b o e n hb hx => ?_, I.base.free, fun b o e hx => ?_, I.base.tups, I.base.frzs, I.base.tbls⟩, ⟨m, hn.sameBut hs (Ne.symm (cne x c hc)), fun j y v' e1 e2 e3 => ?_⟩, fun y c' e => ?_, I.free, I.freeC, fun p hp => ?_, tracked ⟨oc, hoc, I.freeC x c hc⟩ hs, by simpa using I.len⟩ ⟨c, hs, .inr hc⟩
    · exact (hs.2 b (Nat.ne_of_lt (Nat.lt_of_lt_of_le (Heap.lt_size e) (I.ok.cab x c hfn hc)))).trans (I.base.keep b o e n hb hx)
    · obtain ⟨sl, e1⟩ := I.base.slot b o e n hb hx
      exact ⟨sl, (hs.2 b (Nat.ne_of_lt (Nat.lt_of_lt_of_le (Heap.lt_size e) (I.ok.cab x c hfn hc)))).trans e1⟩
    · obtain ⟨o', e1⟩ := I.base.there b o e hx
      exact ⟨o', (hs.2 b (Nat.ne_of_lt (Nat.lt_of_lt_of_le (Heap.lt_size e) (I.ok.cab x c hfn hc)))).trans e1⟩
    · by_cases hj : j = i
      · subst hj
        rw [hi] at e1; cases e1
        rw [List.getElem?_set_self hiσ] at e2
        cases e2
        exact ⟨u, r, .inr ⟨.inl hk, c, hc, hc'⟩⟩
      · rw [List.getElem?_set_ne (Ne.symm hj)] at e2
        obtain ⟨u', r', q⟩ := hl j y v' e1 e2 e3
        refine ⟨u', r', ?_⟩
        rcases q with q | ⟨k, c', e, z'⟩
        · exact .inl q
        · refine .inr ⟨k, c', e, z'.sameBut hs ?_⟩
          rintro rfl
          exact hj (nodup_ix hN e1 (I.ok.inj _ _ _ e hc ▸ hi))
    · by_cases hcc : c' = c
      · subst hcc; exact ⟨_, hc'⟩
      · obtain ⟨w2, z2⟩ := I.cell y c' e
        exact ⟨w2, z2.sameBut hs hcc⟩
    · obtain ⟨e, n, ne, nf, d⟩ := I.pin p hp
      refine ⟨(hs.2 p.1 ?_).trans e, n, ne, nf, d⟩
      intro q
      rw [q, hoc] at e
      have q' : oc = p.2 := Option.some.inj e
      exact d w' (by rw [← q']; exact hocd)
theorem store_ok {M : Model} {A : Around} {E : Value → Shared → Prop} {i : Nat} {x : Str} {v : V} {u : Value} {Q : Unit → Shared → Prop} (I : Inv X pins σ H s) (hN : X.N.Nodup) (hi : X.N[i]? = some x) (hx : Loc X.env.scope x) (r : RelV v u)
    (h : ∀ s', Inv X pins (σ.set i (some v)) H s' → Q () s') (hf : X.fn x = true ∨ X.env.scope.names.lookup x = some .local := by first | exact .inl rfl | exact .inr rfl | assumption) : wpAny M A (storeName X.env x u) Q E s :=
  store_ok2 I hN hi hx r (fun s' I' _ => h s' I') hf
/-- behind a call or a block, the state as it is -/
theorem Inv.call' {s' : Shared} {ch : List Addr} (I : Inv X pins σ H s) (ho : s'.os = s.os) (u : Un (frs X.stack) ch H H' s.heap s'.heap) (hok : HOk X.prog X.w H' s'.heap) (hg : AllBare s'.gens)
    (hch : ∀ b ∈ ch, (b ∈ X.ex ∨ X.s₀.heap.objs.size ≤ b) ∧ b ≠ X.env.locals ∧ (∀ x c, X.env.cells.lookup x = some c → c ≠ b) ∧ ∀ p ∈ X.pn ++ pins, p.1 ≠ b) : Inv X pins σ H' s' := by
  obtain ⟨h', g', d', t', o'⟩ := s'
  have e : o' = s.os := ho
  subst e
  exact I.call (g' := g') (t' := t') (d' := d') u hok hg hch
end

/-! ### the judgements -/
/-- an exception: its class, its own dict's address (where it has one), the abstract heap behind it -/
abbrev XK := Value → Option Addr → Hp → Prop
abbrev St := List (Option V)
abbrev VK := V → Hp → Prop
/-- an expression's reading; a test's; an argument list's -/
abbrev TE := St → Hp → VK → Prop
abbrev TT := St → Hp → (Bool → Hp → Prop) → Prop
abbrev TA := St → Hp → (List V → Hp → Prop) → Prop
/-- what is wanted behind a statement -/
structure Ends where
  nx : St → Hp → Prop
  rt : VK
  bk : St → Hp → Prop := fun _ _ => False
  ct : St → Hp → Prop := fun _ _ => False
abbrev TS := Ends → St → Hp → Prop

def EP (X : Cx) (pins : List (Addr × Obj)) (σ : St) (Q : VK) (u : Value) (s' : Shared) : Prop := ∃ v H', Inv X pins σ H' s' ∧ RelV v u ∧ Q v H'
def TP (X : Cx) (pins : List (Addr × Obj)) (σ : St) (Q : Bool → Hp → Prop) (b : Bool) (s' : Shared) : Prop := ∃ H', Inv X pins σ H' s' ∧ Q b H'
def AP (X : Cx) (pins : List (Addr × Obj)) (σ : St) (Q : List V → Hp → Prop) (us : List Value) (s' : Shared) : Prop := ∃ vs H', Inv X pins σ H' s' ∧ Vals vs us ∧ Q vs H'
def SP (X : Cx) (pins : List (Addr × Obj)) (D : Ends) (f : Flow) (s' : Shared) : Prop :=
  match f with
  | .next => ∃ σ' H', Inv X pins σ' H' s' ∧ D.nx σ' H'
  | .brk => ∃ σ' H', Inv X pins σ' H' s' ∧ D.bk σ' H'
  | .cont => ∃ σ' H', Inv X pins σ' H' s' ∧ D.ct σ' H'
  | .ret u => ∃ v σ' H', Inv X pins σ' H' s' ∧ RelV v u ∧ D.rt v H'

def PE (X : Cx) (e : Expr) (t : TE) : Prop :=
  ∀ (pins : List (Addr × Obj)) (s : Shared) (σ : St) (H : Hp) (Q : VK), Inv X pins σ H s → t σ H Q → wpAny (model X.prog X.w) X.A (eval e X.env) (EP X pins σ Q) X.xe s
def PT (X : Cx) (e : Expr) (t : TT) : Prop :=
  ∀ (pins : List (Addr × Obj)) (s : Shared) (σ : St) (H : Hp) (Q : Bool → Hp → Prop), Inv X pins σ H s → t σ H Q → wpAny (model X.prog X.w) X.A (isTrue e X.env (eval e X.env)) (TP X pins σ Q) X.xe s
/-- a test whatever its 'whole' is (and, or) -/
def PW (X : Cx) (e : Expr) (t : TT) : Prop :=
  ∀ (whole : Sem Value) (pins : List (Addr × Obj)) (s : Shared) (σ : St) (H : Hp) (Q : Bool → Hp → Prop), Inv X pins σ H s → t σ H Q → wpAny (model X.prog X.w) X.A (isTrue e X.env whole) (TP X pins σ Q) X.xe s
theorem PW.pt {X : Cx} {e : Expr} {t : TT} (h : PW X e t) : PT X e t := h _
/-- an argument list (no star), from the left -/
def PA (X : Cx) (es : List Expr) (t : TA) : Prop :=
  ∀ (pos : Pos) (pins : List (Addr × Obj)) (s : Shared) (σ : St) (H : Hp) (Q : List V → Hp → Prop), Inv X pins σ H s → t σ H Q → wpAny (model X.prog X.w) X.A (spliced (backTo pos (starEach es X.env))) (AP X pins σ Q) X.xe s
def PS (X : Cx) (st : Stmt) (t : TS) : Prop :=
  ∀ (pins : List (Addr × Obj)) (s : Shared) (σ : St) (H : Hp) (D : Ends), Inv X pins σ H s → t D σ H → wpAny (model X.prog X.w) X.A (exec st X.env) (SP X pins D) X.xe s
def PSs (X : Cx) (st : List Stmt) (t : TS) : Prop :=
  ∀ (pins : List (Addr × Obj)) (s : Shared) (σ : St) (H : Hp) (D : Ends), Inv X pins σ H s → t D σ H → wpAny (model X.prog X.w) X.A (execs st X.env) (SP X pins D) X.xe s
/-- weaken the end -/
theorem thn {α : Type} {t : Sem α} {Q Q' : α → Shared → Prop} {M : Model} {A : Around} {E : Value → Shared → Prop} {s : Shared} (h : wpAny M A t Q E s) (hQ : ∀ a s, Q a s → Q' a s) : wpAny M A t Q' E s := wpAny_mono h hQ fun _ _ x => x
end L2

namespace L2
open PySem PySem.Spec PyProof.Rows
section
variable {X : Cx}

/-- two expressions in a row -/
theorem bin {a b : Expr} {ta tb : TE} (ha : PE X a ta) (hb : PE X b tb) {pins : List (Addr × Obj)} {s : Shared} {σ : St} {H : Hp} {R : V → V → Hp → Prop} (I : Inv X pins σ H s) (h : ta σ H fun x H1 => tb σ H1 fun y H2 => R x y H2)
    {α : Type} {Q : α → Shared → Prop} {f : Value → Value → Sem α}
    (hf : ∀ v u s2 x y H2, Inv X pins σ H2 s2 → RelV x v → RelV y u → R x y H2 → wpAny (model X.prog X.w) X.A (f v u) Q X.xe s2) :
    wpAny (model X.prog X.w) X.A (eval a X.env) (fun v s₁ => wpAny (model X.prog X.w) X.A (eval b X.env) (fun u s₂ => wpAny (model X.prog X.w) X.A (f v u) Q X.xe s₂) X.xe s₁) X.xe s := by
  refine thn (ha pins s σ H _ I h) fun v s1 ⟨x, H1, I1, r1, q1⟩ => ?_
  refine thn (hb pins s1 σ H1 _ I1 q1) fun u s2 ⟨y, H2, I2, r2, q2⟩ => ?_
  exact hf v u s2 x y H2 I2 r1 r2 q2

/-! ### names and constants -/
def tVar (i : Nat) : TE := fun σ H Q => ∃ v, σ[i]? = some (some v) ∧ Q v H
def tC (v : V) : TE := fun _ H Q => Q v H
theorem pe_var {i : Nat} {x : Str} {pos : Pos} (hN : X.N[i]? = some x) (hv : Vis X.env.scope x) (hd : (x == ("__debug__" : Str)) = false := by decide) (hcd : (x == ("__classdict__" : Str)) = false := by decide) : PE X (.Name x pos) (tVar i) := by
  intro pins s σ H Q I h
  obtain ⟨v, e, h⟩ := h
  obtain ⟨m, hn, hl⟩ := I.loc
  obtain ⟨u, r, l⟩ := hl i x v hN e hv
  have fin : EP X pins σ Q u s := ⟨v, H, I, r, h⟩
  rcases l with ⟨hk, hm⟩ | ⟨hk, c, hc, hcell⟩
  · exact wpAny_Name (wpAny_loadName_local I.ok.kind hk hn hm fin) hd
  · rcases hk with hk | hk
    · exact wpAny_Name (wpAny_loadName_cell I.ok.kind hk hc hcell fin) hd
    · exact wpAny_Name (wpAny_loadName_free I.ok.kind hk hc hcell fin hcd) hd
theorem pe_int {i j pos} : PE X (.Constant (.int i) j pos) (tC (.int i)) := fun _ _ _ H _ I h => wpAny_Constant_int ⟨.int i, H, I.tok _, ⟨_, rfl⟩, h⟩
theorem pe_bl {b j pos} : PE X (.Constant (.bool b) j pos) (tC (.bl b)) := fun _ _ _ H _ I h => Constant_bool ⟨.bl b, H, I, rfl, h⟩
theorem pe_non {j pos} : PE X (.Constant .none j pos) (tC .non) := fun _ _ _ H _ I h => Constant_none ⟨.non, H, I, rfl, h⟩
theorem pe_str {x j pos} : PE X (.Constant (.str x) j pos) (tC (.str x)) := fun _ _ _ H _ I h => Calls.Constant_str ⟨.str x, H, I.tok _, ⟨_, rfl⟩, h⟩

/-- a global name of the def -/
def Gl (X : Cx) (x : Str) : Prop := X.env.kindOf x = some .globalImplicit
theorem ld_glob {E : Value → Shared → Prop} {pins : List (Addr × Obj)} {s : Shared} {σ : St} {H : Hp} {x : Str} {u : Value} {pos : Pos} {Q : Value → Shared → Prop} (I : Inv X pins σ H s) (hg : Gl X x) (hm : X.mg x = some u) (h : Q u s)
    (hd : (x == ("__debug__" : Str)) = false := by decide) : wpAny (model X.prog X.w) X.A (eval (.Name x pos) X.env) Q E s :=
  Calls.Name_function_global I.ok.kind hg (Calls.loadGlobal_global (by rw [I.ok.glob]; exact I.mod.glob.keeps I.bk) hm h) hd
theorem ld_blt {E : Value → Shared → Prop} {pins : List (Addr × Obj)} {s : Shared} {σ : St} {H : Hp} {x : Str} {u : Value} {pos : Pos} {Q : Value → Shared → Prop} (I : Inv X pins σ H s) (hg : Gl X x) (hm : X.mg x = none) (hv : bootBuiltins x = some u) (h : Q u s)
    (hn : x ≠ "__name__" := by decide) (hd : (x == ("__debug__" : Str)) = false := by decide) : wpAny (model X.prog X.w) X.A (eval (.Name x pos) X.env) Q E s := by
  obtain ⟨mb, h1, h2⟩ := I.mod.blt
  exact Calls.Name_function_global I.ok.kind hg (Calls.loadGlobal_builtin (by rw [I.ok.glob]; exact I.mod.glob.keeps I.bk) hm (by rw [I.ok.blt]; exact h1.keeps I.bk) ((h2 x hn).trans hv) h) hd
theorem pe_bltn {x : Str} {v : V} {u : Value} {pos : Pos} (hg : Gl X x) (hm : X.mg x = none) (hv : bootBuiltins x = some u) (r : RelV v u) (hn : x ≠ "__name__" := by decide) (hd : (x == ("__debug__" : Str)) = false := by decide) : PE X (.Name x pos) (tC v) :=
  fun _ _ _ H _ I h => ld_blt I hg hm hv ⟨v, H, I, r, h⟩ hn hd

/-! ### arithmetic -/
/-- two ints -/
def t2I (ta tb : TE) (k : Int → Int → Hp → Prop) : St → Hp → Prop := fun σ H => ta σ H fun x H1 => tb σ H1 fun y H2 => ∃ i j, x = .int i ∧ y = .int j ∧ k i j H2
def tAdd (ta tb : TE) : TE := fun σ H Q => t2I ta tb (fun i j H2 => Q (.int (i + j)) H2) σ H
def tSub (ta tb : TE) : TE := fun σ H Q => t2I ta tb (fun i j H2 => Q (.int (i - j)) H2) σ H
/-- the left factor below 2^64 -/
def tMul (ta tb : TE) : TE := fun σ H Q => t2I ta tb (fun i j H2 => (-(2 ^ 64) < i ∧ i < 2 ^ 64) ∧ Q (.int (i * j)) H2) σ H
variable {a b : Expr} {ta tb : TE} {pos : Pos}
/-! ### comparisons -/
def PC (X : Cx) (op : CmpOp) (a b : Expr) (t : TE) : Prop :=
  ∀ (pins : List (Addr × Obj)) (s : Shared) (σ : St) (H : Hp) (Q : VK), Inv X pins σ H s → t σ H Q →
    wpAny (model X.prog X.w) X.A (eval a X.env) (fun v s₁ => wpAny (model X.prog X.w) X.A (eval b X.env) (fun u s₂ => wpAny (model X.prog X.w) X.A (compareOp op v u) (EP X pins σ Q) X.xe s₂) X.xe s₁) X.xe s
def tCmp (p : Int → Int → Bool) (ta tb : TE) : TE := fun σ H Q => t2I ta tb (fun i j H2 => Q (.bl (p i j)) H2) σ H
abbrev tLt : TE → TE → TE := tCmp fun i j => decide (i < j)
abbrev tLe : TE → TE → TE := tCmp fun i j => decide (i ≤ j)
abbrev tGt : TE → TE → TE := tCmp fun i j => decide (j < i)
abbrev tGe : TE → TE → TE := tCmp fun i j => decide (j ≤ i)
abbrev tEqI : TE → TE → TE := tCmp fun i j => decide (i = j)
abbrev tNeI : TE → TE → TE := tCmp fun i j => !decide (i = j)
/-- is None -/
def tIsN (ta : TE) : TE := fun σ H Q => ta σ H fun x H1 => Q (.bl (decide (x = .non))) H1
def tNotN (ta : TE) : TE := fun σ H Q => ta σ H fun x H1 => Q (.bl (!decide (x = .non))) H1
/-- a comparison as a value, as a test -/
def tB (t : TE) : TT := fun σ H Q => t σ H fun x H1 => ∃ c, x = .bl c ∧ Q c H1
theorem pt_cmp {op : CmpOp} {t : TE} (h : PC X op a b t) (h1 : behindInMarks op b = false := by first | exact nobehind _ (by decide) (by decide) | rfl) : PT X (.Compare a [op] [b] pos) (tB t) := by
  intro pins s σ H Q I hw
  refine wpAny_isTrue_Compare1 (thn (h pins s σ H _ I hw) fun v s1 h1 => thn h1 fun u s2 h2 => thn h2 fun c s3 ⟨x, H1, I1, r1, q1⟩ => ?_) h1
  obtain ⟨d, rfl, q⟩ := q1
  cases r1
  exact wpAny_truthy_bool ⟨H1, I1, q⟩
/-- an expression whose value is a bool, as a test -/
theorem pt_val {e : Expr} {t : TE} (h : PE X e t) (he : ∀ whole, isTrue e X.env whole = (do let v ← whole; standAt e.pos; holding [v] (truthy v)) := by intro _; rfl) : PT X e (tB t) := by
  intro pins s σ H Q I hw
  refine isTrue_plain (thn (h pins s σ H _ I hw) fun v s1 ⟨x, H1, I1, r1, q1⟩ => ?_) (he _)
  obtain ⟨d, rfl, q⟩ := q1
  cases r1
  exact wpAny_truthy_bool ⟨H1, I1, q⟩

/-! ### and, or, not -/
variable {tA tB' : TT} {rest : List Expr}
def tAnd (t u : TT) : TT := fun σ H Q => t σ H fun c H1 => if c = true then u σ H1 Q else Q false H1
def tOr (t u : TT) : TT := fun σ H Q => t σ H fun c H1 => if c = true then Q true H1 else u σ H1 Q
def tNot (t : TT) : TT := fun σ H Q => t σ H fun c H1 => Q (!c) H1
theorem pw_and1 (ha : PT X a tA) : PW X (.BoolOp .And [a] pos) tA := by
  intro wh pins s σ H Q I h
  refine isTrue_and (thn (ha pins s σ H Q I h) fun c s1 e => ?_)
  cases c with
  | true => exact isTrue_and_nil e
  | false => exact e
theorem pw_or1 (ha : PT X a tA) : PW X (.BoolOp .Or [a] pos) tA := by
  intro wh pins s σ H Q I h
  refine isTrue_or (thn (ha pins s σ H Q I h) fun c s1 e => ?_)
  cases c with
  | false => exact isTrue_or_nil e
  | true => exact e
theorem pw_and (ha : PT X a tA) (hb : PW X (.BoolOp .And (b :: rest) pos) tB') : PW X (.BoolOp .And (a :: b :: rest) pos) (tAnd tA tB') := by
  intro wh pins s σ H Q I h
  refine isTrue_and (thn (ha pins s σ H _ I h) fun c s1 ⟨H1, I1, q1⟩ => ?_)
  cases c with
  | true => exact hb wh pins s1 σ H1 Q I1 q1
  | false => exact ⟨H1, I1, q1⟩
theorem pw_or (ha : PT X a tA) (hb : PW X (.BoolOp .Or (b :: rest) pos) tB') : PW X (.BoolOp .Or (a :: b :: rest) pos) (tOr tA tB') := by
  intro wh pins s σ H Q I h
  refine isTrue_or (thn (ha pins s σ H _ I h) fun c s1 ⟨H1, I1, q1⟩ => ?_)
  cases c with
  | true => exact ⟨H1, I1, q1⟩
  | false => exact hb wh pins s1 σ H1 Q I1 q1
theorem pt_not (ha : PT X a tA) : PT X (.UnaryOp .Not a pos) (tNot tA) := by
  intro pins s σ H Q I h
  exact isTrue_not (ha pins s σ H (fun c H1 => Q (!c) H1) I h)
/-- .. as values (bools) -/
def tAndV (ta tb : TE) : TE := fun σ H Q => ta σ H fun x H1 => ∃ c, x = .bl c ∧ if c = true then tb σ H1 Q else Q (.bl false) H1
def tOrV (ta tb : TE) : TE := fun σ H Q => ta σ H fun x H1 => ∃ c, x = .bl c ∧ if c = true then Q (.bl true) H1 else tb σ H1 Q
def tNotV (ta : TE) : TE := fun σ H Q => ta σ H fun x H1 => ∃ c, x = .bl c ∧ Q (.bl (!c)) H1
theorem pe_one {op} {t : TE} (h : PE X a t) : PE X (.BoolOp op [a] pos) t := fun pins s σ H Q I hw => BoolOp_one (h pins s σ H Q I hw)
theorem pe_and (ha : PE X a ta) (hb : PE X (.BoolOp .And (b :: rest) pos) tb) : PE X (.BoolOp .And (a :: b :: rest) pos) (tAndV ta tb) := by
  intro pins s σ H Q I h
  refine BoolOp_and (thn (ha pins s σ H _ I h) fun v s1 ⟨x, H1, I1, r1, q1⟩ => ?_)
  obtain ⟨c, rfl, q1⟩ := q1
  cases r1
  refine wpAny_truthy_bool ?_
  cases c with
  | true => exact hb pins s1 σ H1 Q I1 q1
  | false => exact ⟨.bl false, H1, I1, rfl, q1⟩
theorem pe_not (ha : PE X a ta) : PE X (.UnaryOp .Not a pos) (tNotV ta) := by
  intro pins s σ H Q I h
  refine UnaryOp_ (thn (ha pins s σ H _ I h) fun v s1 ⟨x, H1, I1, r1, q1⟩ => ?_)
  obtain ⟨c, rfl, q1⟩ := q1
  cases r1
  exact not_of (wpAny_truthy_bool ⟨.bl (!c), H1, I1, rfl, q1⟩)
/-- a if t else b -/
def tIf (t : TT) (ta tb : TE) : TE := fun σ H Q => t σ H fun c H1 => if c = true then ta σ H1 Q else tb σ H1 Q
end
end L2

namespace L2
open PySem PySem.Spec PyProof.Rows

/-! ### a list, a tuple that is read: tracked, frozen, or an object of the module -/
def SqL (K : PySem.W.Frag) (H : Hp) (a : Addr) (xs : List V) : Prop :=
  Rd H a (.lst xs) ∨
    ∃ (o : Obj) (its : Array Value) (n : Nat), K.lookup a = some o ∧ o.cls = .type "list" ∧ o.dict = none ∧ o.data = .seq its n ∧ its.size ≤ sizeLine ∧ Vals xs its.toList
def SqT (K : PySem.W.Frag) (H : Hp) (a : Addr) (xs : List V) : Prop :=
  Rd H a (.tup xs) ∨
    ∃ (o : Obj) (its : Array Value) (n : Nat), K.lookup a = some o ∧ o.cls = .type "tuple" ∧ o.data = .seq its n ∧ its.size ≤ sizeLine ∧ Vals xs its.toList
def absV : Value → Option V
  | .none => some .non
  | .bool b => some (.bl b)
  | .int i _ => some (.int i)
  | .str x _ => some (.str x)
  | .bytes b _ => some (.byt b)
  | .float b _ => some (.flt b)
  | .ref a => some (.ref a)
  | .type n => some (.ty n)
  | _ => none
theorem RelV.abs {x : V} {u : Value} (r : RelV x u) : absV u = some x := by
  cases x with
  | non => cases r; rfl
  | bl _ => cases r; rfl
  | int _ => obtain ⟨t, rfl⟩ := r; rfl
  | str _ => obtain ⟨t, rfl⟩ := r; rfl
  | byt _ => obtain ⟨t, rfl⟩ := r; rfl
  | flt _ => obtain ⟨t, rfl⟩ := r; rfl
  | ref _ => cases r; rfl
  | ty _ => cases r; rfl
theorem RelV.inj {x y : V} {u : Value} (r : RelV x u) (q : RelV y u) : x = y := Option.some.inj (r.abs.symm.trans q.abs)
theorem Vals.inj : ∀ {xs ys : List V} {us : List Value}, Vals xs us → Vals ys us → xs = ys
  | _, _, _, .nil, .nil => rfl
  | _, _, _, .cons r t, .cons r' t' => by rw [r.inj r', Vals.inj t t']
section
variable {X : Cx} {pins : List (Addr × Obj)} {σ : St} {H : Hp} {s : Shared} {a : Addr} {xs ys : List V}
theorem SqL.of {K : PySem.W.Frag} (h : H a = some (.lst xs)) : SqL K H a xs := .inl (.inl h)
theorem SqT.of {K : PySem.W.Frag} (h : H a = some (.tup xs)) : SqT K H a xs := .inl (.inl h)
theorem Inv.list (I : Inv X pins σ H s) (h : SqL X.K H a xs) : ∃ its : List Value, Vals xs its ∧ PlainL s.heap a its.toArray ∧ xs.length ≤ sizeLine := by
  rcases h with h | ⟨o, its, n, hk, hc, hd, hs, hz, r⟩
  · obtain ⟨z, its, n, r, e⟩ := h.ok I.hok
    exact ⟨its, r, ⟨_, n, e, rfl, rfl, rfl⟩, z⟩
  · refine ⟨its.toList, r, ⟨o, n, I.kIn a o hk, hc, hd, by simpa using hs⟩, ?_⟩
    have e := r.length
    simp only [Array.length_toList] at e
    omega
theorem Inv.tuple (I : Inv X pins σ H s) (h : SqT X.K H a xs) : ∃ its : List Value, Vals xs its ∧ IsTup s.heap a its.toArray ∧ xs.length ≤ sizeLine := by
  rcases h with h | ⟨o, its, n, hk, hc, hs, hz, r⟩
  · obtain ⟨z, its, r, p⟩ := h.ok I.hok
    exact ⟨its, r, p, z⟩
  · refine ⟨its.toList, r, ⟨o, I.kIn a o hk, hc, n, by simpa using hs⟩, ?_⟩
    have e := r.length
    simp only [Array.length_toList] at e
    omega
theorem Inv.list_inj (I : Inv X pins σ H s) (h : SqL X.K H a xs) (h' : SqL X.K H a ys) : xs = ys := by
  obtain ⟨its, r, ⟨o, n, e, _, _, d⟩, _⟩ := I.list h
  obtain ⟨its', r', ⟨o', n', e', _, _, d'⟩, _⟩ := I.list h'
  rw [e] at e'; cases e'
  rw [d] at d'
  injection d' with d1 _
  have : its = its' := by simpa using congrArg Array.toList d1
  subst this
  exact r.inj r'
theorem Inv.tuple_inj (I : Inv X pins σ H s) (h : SqT X.K H a xs) (h' : SqT X.K H a ys) : xs = ys := by
  obtain ⟨its, r, ⟨o, e, _, n, d⟩, _⟩ := I.tuple h
  obtain ⟨its', r', ⟨o', e', _, n', d'⟩, _⟩ := I.tuple h'
  rw [e] at e'; cases e'
  rw [d] at d'
  injection d' with d1 _
  have : its = its' := by simpa using congrArg Array.toList d1
  subst this
  exact r.inj r'
end

/-! ### another wish about exceptions -/
abbrev Cx.wish (X : Cx) (E : Value → Shared → Prop) : Cx := { X with xe := E }
/-- no exception leaves -/
abbrev Cx.nox (X : Cx) : Cx := X.wish fun _ _ => False
theorem Cx.Ok.wish {X : Cx} (ok : X.Ok) (E : Value → Shared → Prop) : (X.wish E).Ok :=
  ⟨ok.mod, ok.kind, ok.glob, ok.blt, ok.above, ok.inj, ok.has, ok.cab, ok.hd, ok.frames, ok.stk, ok.exf, ok.bs, ok.bsz, ok.noex, ok.exfs, ok.funs, ok.frf⟩
theorem Cx.Ok.unwish {X : Cx} {E : Value → Shared → Prop} (ok : (X.wish E).Ok) : X.Ok :=
  ⟨ok.mod, ok.kind, ok.glob, ok.blt, ok.above, ok.inj, ok.has, ok.cab, ok.hd, ok.frames, ok.stk, ok.exf, ok.bs, ok.bsz, ok.noex, ok.exfs, ok.funs, ok.frf⟩
section
variable {X : Cx} {pins : List (Addr × Obj)} {σ : St} {H : Hp} {s : Shared} {E : Value → Shared → Prop}
theorem Inv.wish (I : Inv X pins σ H s) (E : Value → Shared → Prop) : Inv (X.wish E) pins σ H s := ⟨I.ok.wish E, I.os, I.bare, I.base, I.loc, I.cell, I.free, I.freeC, I.pin, I.hok, I.len⟩
theorem Inv.unwish (I : Inv (X.wish E) pins σ H s) : Inv X pins σ H s := ⟨I.ok.unwish, I.os, I.bare, I.base, I.loc, I.cell, I.free, I.freeC, I.pin, I.hok, I.len⟩
theorem SP.unwish {D : Ends} {f : Flow} {s' : Shared} (h : SP (X.wish E) pins D f s') : SP X pins D f s' := by
  cases f with
  | next => obtain ⟨σ', H', I, q⟩ := h; exact ⟨σ', H', I.unwish, q⟩
  | brk => obtain ⟨σ', H', I, q⟩ := h; exact ⟨σ', H', I.unwish, q⟩
  | cont => obtain ⟨σ', H', I, q⟩ := h; exact ⟨σ', H', I.unwish, q⟩
  | ret u => obtain ⟨v, σ', H', I, r, q⟩ := h; exact ⟨v, σ', H', I.unwish, r, q⟩
theorem PSs.nox {st : List Stmt} {t : TS} (h : PSs X.nox st t) : PSs X st t := fun pins s σ H D I hw =>
  wpAny_mono (h pins s σ H D (I.wish _) hw) (fun _ _ q => q.unwish) fun _ _ z => False.elim z
end

/-! ### blocks and small statements -/
section
variable {X : Cx} {st : Stmt} {rest : List Stmt} {t u : TS} {e : Expr} {te : TE} {pos : Pos}
def tNext : TS := fun D σ H => D.nx σ H
def tSeq (t u : TS) : TS := fun D σ H => t { D with nx := u D } σ H
theorem pss_nil : PSs X [] tNext := fun _ _ σ H _ I h => wpAny_execs_nil ⟨σ, H, I, h⟩
theorem pss_cons (h1 : PS X st t) (h2 : PSs X rest u) : PSs X (st :: rest) (tSeq t u) := by
  intro pins s σ H D I h
  refine wpAny_execs_cons (thn (h1 pins s σ H { D with nx := u D } I h) fun f s1 q => ?_)
  cases f with
  | next =>
    obtain ⟨σ', H', I', q⟩ := q
    exact h2 pins s1 σ' H' D I' q
  | ret v => exact q
  | brk => exact q
  | cont => exact q
theorem pss_one (h1 : PS X st t) : PSs X [st] t := by
  intro pins s σ H D I h
  refine wpAny_execs_cons (thn (h1 pins s σ H D I h) fun f s1 q => ?_)
  cases f with
  | next => exact wpAny_execs_nil q
  | ret v => exact q
  | brk => exact q
  | cont => exact q
def tBreak : TS := fun D σ H => D.bk σ H
def tCont : TS := fun D σ H => D.ct σ H
/-- in a def's body nothing is shown -/
theorem Inv.quiet {pins : List (Addr × Obj)} {σ : St} {H : Hp} {s : Shared} (I : Inv X pins σ H s) : interactive X.env = false := by simp [interactive, I.ok.kind]
/-- an expression whose value is dropped -/
def tDrop (te : TE) : TS := fun D σ H => te σ H fun _ H1 => D.nx σ H1
theorem ps_expr (he : PE X e te) (hs : swapsWith e none pos.line X.env = pure false := by rfl) : PS X (.Expr e pos) (tDrop te) := by
  intro pins s σ H D I h
  exact wpAny_Expr_any (thn (he pins s σ H _ I h) fun v s1 ⟨x, H1, I1, r1, q1⟩ => ⟨σ, H1, I1, q1⟩) I.quiet hs
def tRet (te : TE) : TS := fun D σ H => te σ H D.rt
theorem ps_ret (he : PE X e te) : PS X (.Return (some e) pos) (tRet te) := by
  intro pins s σ H D I h
  exact wpAny_Return_some (thn (he pins s σ H _ I h) fun v s1 ⟨x, H1, I1, r1, q1⟩ => ⟨x, σ, H1, I1, r1, q1⟩)
def tRetN : TS := fun D _ H => D.rt .non H
def tIfS (c : TT) (t u : TS) : TS := fun D σ H => c σ H fun b H1 => if b = true then t D σ H1 else u D σ H1
theorem ps_if {c : Expr} {a b : List Stmt} {tc : TT} (hc : PT X c tc) (ha : PSs X a t) (hb : PSs X b u) : PS X (.If c a b pos) (tIfS tc t u) := by
  intro pins s σ H D I h
  refine wpAny_If (thn (hc pins s σ H _ I h) fun d s1 ⟨H1, I1, q1⟩ => ?_)
  cases d with
  | true => exact ha pins s1 σ H1 D I1 q1
  | false => exact hb pins s1 σ H1 D I1 q1
/-- code that the proof never comes to -/
def tNever : TS := fun _ _ _ => False
end

/-! ### targets -/
abbrev TG := V → St → Hp → (St → Hp → Prop) → Prop
abbrev TGs := List V → St → Hp → (St → Hp → Prop) → Prop
def PG (X : Cx) (target : Expr) (t : TG) : Prop :=
  ∀ (pins : List (Addr × Obj)) (s : Shared) (σ : St) (H : Hp) (v : V) (u : Value) (Q : St → Hp → Prop), Inv X pins σ H s → RelV v u → t v σ H Q →
    wpAny (model X.prog X.w) X.A (assign target X.env u) (fun _ s' => ∃ σ' H', Inv X pins σ' H' s' ∧ Q σ' H') X.xe s
/-- several targets, one after another -/
def PGs (X : Cx) (ts : List Expr) (t : TGs) : Prop :=
  ∀ (pins : List (Addr × Obj)) (s : Shared) (σ : St) (H : Hp) (vs : List V) (us : List Value) (Q : St → Hp → Prop), Inv X pins σ H s → Vals vs us → t vs σ H Q →
    wpAny (model X.prog X.w) X.A (assignInOrder ((assignEach ts X.env).map (·.2)) us) (fun _ s' => ∃ σ' H', Inv X pins σ' H' s' ∧ Q σ' H') X.xe s
/-- o[i] = v, by values -/
abbrev TSet := V → V → V → Hp → (Hp → Prop) → Prop
def PSet (X : Cx) (t : TSet) : Prop :=
  ∀ (pins : List (Addr × Obj)) (s : Shared) (σ : St) (H : Hp) (o i v : V) (ov iv u : Value) (Q : Hp → Prop), Inv X pins σ H s → RelV o ov → RelV i iv → RelV v u → t o i v H Q →
    wpAny (model X.prog X.w) X.A (setItem ov iv u) (fun _ s' => ∃ H', Inv X pins σ H' s' ∧ Q H') X.xe s
/-- a op= b, by values -/
abbrev TIp := V → V → Hp → VK → Prop
def PIp (X : Cx) (op : Operator) (t : TIp) : Prop :=
  ∀ (pins : List (Addr × Obj)) (s : Shared) (σ : St) (H : Hp) (x y : V) (v u : Value) (Q : VK), Inv X pins σ H s → RelV x v → RelV y u → t x y H Q →
    wpAny (model X.prog X.w) X.A (inplaceOp op v u) (EP X pins σ Q) X.xe s
section
variable {X : Cx} {pos : Pos}
def gName (i : Nat) : TG := fun v σ H Q => Q (σ.set i (some v)) H
theorem pg_name {i : Nat} {x : Str} (hN : X.N.Nodup) (hi : X.N[i]? = some x) (hx : Loc X.env.scope x) (hf : X.fn x = true ∨ X.env.scope.names.lookup x = some .local := by first | exact .inl rfl | exact .inr rfl | assumption) : PG X (.Name x pos) (gName i) := by
  intro pins s σ H v u Q I r h
  exact wpAny_assign_Name (store_ok I hN hi hx r (fun s' I' => ⟨_, H, I', h⟩) hf)
def gNil : TGs := fun vs σ H Q => vs = [] ∧ Q σ H
def gCons (t : TG) (u : TGs) : TGs := fun vs σ H Q => ∃ v r, vs = v :: r ∧ t v σ H fun σ' H' => u r σ' H' Q
theorem pgs_nil : PGs X [] gNil := by
  intro pins s σ H vs us Q I r h
  obtain ⟨e, h⟩ := h
  subst e
  cases r
  exact assignInOrder_nil ⟨σ, H, I, h⟩
theorem pgs_cons {e : Expr} {es : List Expr} {t : TG} {u : TGs} (h1 : PG X e t) (h2 : PGs X es u)
    (hs : (assignEach (e :: es) X.env).map (·.2) = assign e X.env :: (assignEach es X.env).map (·.2) := by rfl) : PGs X (e :: es) (gCons t u) := by
  intro pins s σ H vs us Q I r h
  obtain ⟨v, vr, e1, h⟩ := h
  subst e1
  cases r with
  | cons r rr =>
    rw [hs]
    refine assignInOrder_cons (thn (h1 pins s σ H _ _ _ I r h) fun _ s1 ⟨σ1, H1, I1, q1⟩ => ?_)
    exact h2 pins s1 σ1 H1 _ _ Q I1 rr q1
/-- (a, b, ..) = a tuple of that length -/
def gTup (K : PySem.W.Frag) (n : Nat) (t : TGs) : TG := fun v σ H Q => ∃ a xs, v = .ref a ∧ SqT K H a xs ∧ xs.length = n ∧ t xs σ H Q
theorem pg_tup {es : List Expr} {k : Nat} {t : TGs} {n : Nat} (hc : X.calm = true) (h : PGs X es t)
    (hn : (assignEach es X.env).length = n := by rfl) (hst : (assignEach es X.env).findIdx? (·.1) = none := by rfl) : PG X (.Tuple es k pos) (gTup X.K n t) := by
  intro pins s σ H v u Q I r hw
  obtain ⟨a, xs, e1, hq, hl, hw⟩ := hw
  subst e1
  cases r
  obtain ⟨its, rv, ht, hz⟩ := I.tuple hq
  refine assign_Tuple_tuple (I.ok.hd hc) ht (by simp [hn, ← hl, rv.length]) hst fun h' hx => ?_
  have I1 : Inv X pins σ H { s with heap := h' } := I.kept (t' := s.toks) fun b o e => hx b o (Nat.ne_of_lt (Heap.lt_size e)) e
  exact h pins _ σ H xs _ Q I1 (by simpa using rv) hw
/-- o[i] = .. -/
def gSub (to ti : TE) (t : TSet) : TG := fun v σ H Q => to σ H fun o H1 => ti σ H1 fun i H2 => t o i v H2 fun H3 => Q σ H3
theorem pg_sub {o i : Expr} {to ti : TE} {t : TSet} (ho : PE X o to) (hi : PE X i ti) (hs : PSet X t)
    (ha : ∀ v, assign (.Subscript o i pos) X.env v = (do
      let ov ← holding [v] (eval o X.env)
      let iv ← holding [v, ov] (eval i X.env)
      standAt pos
      holding [v, ov, iv] (setItem ov iv v)
      release [v, ov, iv] []) := by intro _; rfl) : PG X (.Subscript o i pos) (gSub to ti t) := by
  intro pins s σ H v u Q I r h
  rw [ha]
  refine wpAny_bind (wpAny_holding (thn (ho pins s σ H _ I h) fun ov s1 ⟨x, H1, I1, r1, q1⟩ => ?_))
  refine wpAny_bind (wpAny_holding (thn (hi pins s1 σ H1 _ I1 q1) fun iv s2 ⟨y, H2, I2, r2, q2⟩ => ?_))
  refine wpAny_bind (wpAny_standAt (wpAny_bind (wpAny_holding (thn (hs pins s2 σ H2 x y v ov iv u _ I2 r1 r2 r q2) fun _ s3 ⟨H3, I3, q3⟩ => ?_))))
  exact wpAny_release ⟨σ, H3, I3, q3⟩
/-- target = value -/
def tAsg (te : TE) (g : TG) : TS := fun D σ H => te σ H fun x H1 => g x σ H1 D.nx
theorem ps_asg {tg e : Expr} {te : TE} {g : TG} (he : PE X e te) (hg : PG X tg g) (hs : swapsWithSole [tg] e pos.line X.env = pure false := by rfl) (hw : swappedStores [tg] e X.env = pure none := by rfl)
    (h1 : (assignEach [tg] X.env).map (·.2) = [assign tg X.env] := by rfl) : PS X (.Assign [tg] e pos) (tAsg te g) := by
  intro pins s σ H D I h
  refine wpAny_Assign_stores (thn (he pins s σ H _ I h) fun v s1 ⟨x, H1, I1, r1, q1⟩ => ?_) hs hw
  rw [h1]
  exact thn (hg pins s1 σ H1 x v _ I1 r1 q1) fun _ s2 q => q
/-- name = value -/
theorem ps_set {i : Nat} {x : Str} {e : Expr} {te : TE} {pos' : Pos} (hN : X.N.Nodup) (hi : X.N[i]? = some x) (hx : Loc X.env.scope x) (he : PE X e te) (hs : swapsWith e (some (.Name x pos')) pos.line X.env = pure false := by rfl) (hf : X.fn x = true ∨ X.env.scope.names.lookup x = some .local := by first | exact .inl rfl | exact .inr rfl | assumption) :
    PS X (.Assign [.Name x pos'] e pos) (tAsg te (gName i)) := by
  intro pins s σ H D I h
  refine wpAny_Assign_Name (thn (he pins s σ H _ I h) fun v s1 ⟨y, H1, I1, r1, q1⟩ => ?_) hs
  exact store_ok I1 hN hi hx r1 (fun s2 I2 => ⟨_, H1, I2, q1⟩) hf
/-- a, b = x, y with plain local names: stored from the right; the pair itself is not tracked (the opening rows as in PyProof/Rows/TupAssign.lean:23) -/
def tPar (i j : Nat) (ta : TA) : TS := fun D σ H => ta σ H fun vs H1 => ∃ v w, vs = [v, w] ∧ D.nx ((σ.set i (some v)).set j (some w)) H1
/-- name op= e -/
def tAug (i : Nat) (te : TE) (ti : TIp) : TS := fun D σ H => ∃ x, σ[i]? = some (some x) ∧ te σ H fun y H1 => ti x y H1 fun z H2 => D.nx (σ.set i (some z)) H2
/-- o[i] op= e -/
def tAugS (to ti te : TE) (tget : V → V → Hp → VK → Prop) (tip : TIp) (tset : TSet) : TS := fun D σ H => to σ H fun o H1 => ti σ H1 fun i H2 => tget o i H2 fun x H3 => te σ H3 fun y H4 => tip x y H4 fun z H5 => tset o i z H5 fun H6 => D.nx σ H6
/-- o[i], by values -/
def PGet (X : Cx) (t : V → V → Hp → VK → Prop) : Prop :=
  ∀ (pins : List (Addr × Obj)) (s : Shared) (σ : St) (H : Hp) (o i : V) (ov iv : Value) (Q : VK), Inv X pins σ H s → RelV o ov → RelV i iv → t o i H Q →
    wpAny (model X.prog X.w) X.A (getItem ov iv) (EP X pins σ Q) X.xe s
/-- ints -/
def ipI (f : Int → Int → Int) : TIp := fun x y H Q => ∃ i j, x = .int i ∧ y = .int j ∧ Q (.int (f i j)) H
end

/-! ### while -/
section
variable {X : Cx} {pos : Pos}
/-- the invariant W with its measure -/
def tWhile (c : TT) (tb : TS) : TS := fun D σ H => ∃ W : Nat → St → Hp → Prop, (∃ m, W m σ H) ∧ ∀ m σ H, W m σ H →
  c σ H fun b H1 => if b = true then ∃ N : St → Hp → Prop, (∀ σ' H', N σ' H' → ∃ m', m' < m ∧ W m' σ' H') ∧ tb { D with nx := N, ct := N, bk := D.nx } σ H1 else D.nx σ H1
theorem ps_while {c : Expr} {body : List Stmt} {tc : TT} {tb : TS} (hp : PassesOwn (model X.prog X.w) X.A X.env X.xe) (hc : PT X c tc) (hb : PSs X body tb) : PS X (.While c body [] pos) (tWhile tc tb) := by
  intro pins s σ H D I h
  obtain ⟨W, ⟨m0, w0⟩, turn⟩ := h
  refine wpAny_While (codeAny_whileLoop (fun n s' => ∃ σ' H', Inv X pins σ' H' s' ∧ W n σ' H') ?_ m0 ⟨σ, H, I, w0⟩)
  rintro n s1 ⟨σ1, H1, I1, w1⟩
  refine wpAny_passesOwn hp (thn (hc pins s1 σ1 H1 _ I1 (turn n σ1 H1 w1)) fun b s2 ⟨H2, I2, q2⟩ => ?_)
  cases b with
  | true =>
    obtain ⟨N, hN, q2⟩ := q2
    rw [if_pos rfl]
    refine wpAny_passesOwn hp (thn (hb pins s2 σ1 H2 _ I2 q2) fun f s3 q3 => ?_)
    cases f with
    | next =>
      obtain ⟨σ3, H3, I3, n3⟩ := q3
      obtain ⟨m', hm, w3⟩ := hN σ3 H3 n3
      exact ⟨m', hm, σ3, H3, I3, w3⟩
    | cont =>
      obtain ⟨σ3, H3, I3, n3⟩ := q3
      obtain ⟨m', hm, w3⟩ := hN σ3 H3 n3
      exact ⟨m', hm, σ3, H3, I3, w3⟩
    | brk => exact q3
    | ret v => exact q3
  | false =>
    rw [if_neg Bool.false_ne_true]
    exact wpAny_execs_nil ⟨σ1, H2, I2, q2⟩
end

/-! ### what a loop or a comprehension walks -/
/-- at turn i: it yields x (the heap may grow), or it stops -/
structure It where
  go : Nat → Hp → Prop
  yld : Nat → Hp → V → Hp → Prop
  stop : Nat → Hp → Prop
/-- the iterator's own objects may turn: they are not the frame's, not pinned, younger than the entry (or a comprehension's own) -/
def FpOk (X : Cx) (pins : List (Addr × Obj)) (H : Hp) (b : Addr) : Prop :=
  H b = none ∧ b ≠ X.env.locals ∧ b ∉ X.fs ∧ (b ∈ X.ex ∨ X.s₀.heap.objs.size ≤ b) ∧ (∀ x c, X.env.cells.lookup x = some c → c ≠ b) ∧ ∀ p ∈ X.pn ++ pins, p.1 ≠ b
theorem Inv.fpOk {X : Cx} {pins : List (Addr × Obj)} {σ : St} {H H' : Hp} {s : Shared} {b : Addr} (I : Inv X pins σ H s) (hb : s.heap.objs.size ≤ b) (hn : H' b = none) : FpOk X pins H' b := by
  refine ⟨hn, Nat.ne_of_gt (Nat.lt_of_lt_of_le I.lt hb), I.nofs hb, .inr (Nat.le_trans I.sz hb), fun x c e z => ?_, fun p hp z => ?_⟩
  · obtain ⟨v, q⟩ := I.cell x c e
    exact absurd (Nat.lt_of_lt_of_le q.lt (by rw [z]; exact hb)) (Nat.lt_irrefl _)
  · exact absurd (Nat.lt_of_lt_of_le (Heap.lt_size (I.pin p hp).1) (by rw [z]; exact hb)) (Nat.lt_irrefl _)
structure Turn (P : Program) (w : World) (K : PySem.W.Frag) (tg : Expr) (J : It) (fp : List Addr) (it : Addr) (tn : Nat → Heap → Prop) : Prop where
  mem : it ∈ fp
  obj : ∀ i h, tn i h → ∀ b ∈ fp, ∃ o, h.get? b = some o ∧ ∀ v, o.data ≠ .cell v
  keep : ∀ i h h', tn i h → (∀ b ∈ fp, ∀ o, h.get? b = some o → h'.get? b = some o) → tn i h'
  item : ∀ (X : Cx), X.prog = P → X.w = w → X.K = K → X.calm = true → ∀ (i : Nat) (pins : List (Addr × Obj)) (s : Shared) (σ : St) (H : Hp) (E : Value → Shared → Prop), Inv X pins σ H s → (∀ b ∈ fp, FpOk X pins H b) → tn i s.heap → J.go i H →
    wpAny (model P w) X.A (pyNext (.ref it)) (fun r s1 => ∃ u, r = some u ∧
      wpAny (model P w) X.A (letOwnedTupleGo tg (.ref it) u) (fun _ s2 => ∃ x H', Inv X pins σ H' s2 ∧ RelV x u ∧ J.yld i H x H' ∧ tn (i + 1) s2.heap ∧ ∀ b ∈ fp, H' b = none) E s1) E s
  done : ∀ (X : Cx), X.prog = P → X.w = w → X.K = K → X.calm = true → ∀ (i : Nat) (pins : List (Addr × Obj)) (s : Shared) (σ : St) (H : Hp) (E : Value → Shared → Prop), Inv X pins σ H s → (∀ b ∈ fp, FpOk X pins H b) → tn i s.heap → J.stop i H →
    wpAny (model P w) X.A (pyNext (.ref it)) (fun r s1 => r = none ∧ Inv X pins σ H s1) E s
  self : ∀ (A : Around) (i : Nat) (s : Shared) (Q : Value → Shared → Prop) (E : Value → Shared → Prop), tn i s.heap → Q (.ref it) s → wpAny (model P w) A (pyIter (.ref it)) Q E s
abbrev TI := St → Hp → (It → Hp → Prop) → Prop
/-- an iterator has come -/
def PIE (X : Cx) (pins : List (Addr × Obj)) (σ : St) (tg : Expr) (R : It → Hp → Prop) (itv : Value) (s2 : Shared) : Prop :=
  ∃ (it : Addr) (fp : List Addr) (tn : Nat → Heap → Prop) (J : It) (H' : Hp), itv = .ref it ∧ Inv X pins σ H' s2 ∧ Turn X.prog X.w X.K tg J fp it tn ∧ tn 0 s2.heap ∧ (∀ b ∈ fp, FpOk X pins H' b) ∧ R J H'
def PI (X : Cx) (tg iter : Expr) (wi : TI) : Prop :=
  ∀ (pins : List (Addr × Obj)) (s : Shared) (σ : St) (H : Hp) (R : It → Hp → Prop), Inv X pins σ H s → wi σ H R →
    wpAny (model X.prog X.w) X.A (eval iter X.env) (fun v s1 => wpAny (model X.prog X.w) X.A (pyIter v) (PIE X pins σ tg R) X.xe s1) X.xe s

/-- the step ahead of the store is nothing for an iterator that keeps no tuple -/
theorem go_of {M : Model} {A : Around} {E : Value → Shared → Prop} {s : Shared} {tg : Expr} {it : Addr} {u : Value} {o : Obj} {n : String} {vs : Array Value} {Q : Unit → Shared → Prop} (ho : s.heap.get? it = some o) (hc : o.cls = .type n) (hd : o.data = .fields vs)
    (hn : ["enumerate", "zip", "dict_itemiterator", "dict_reverseitemiterator", "odict_iterator", "itertools.zip_longest", "itertools.pairwise"].contains n = false) (hQ : Q () s) : wpAny M A (letOwnedTupleGo tg (.ref it) u) Q E s := by
  unfold letOwnedTupleGo
  cases tg <;> first
    | exact wpAny_pure hQ
    | (cases u <;> first
        | exact wpAny_pure hQ
        | (refine wpAny_bind (wpAny_load ho ?_)
           rw [hc, hd]
           show wpAny M A (if (["enumerate", "zip", "dict_itemiterator", "dict_reverseitemiterator", "odict_iterator", "itertools.zip_longest", "itertools.pairwise"].contains n && vs[0]? == some (rawInt _)) = true then _ else _) Q E s
           rw [if_neg (by intro h; rw [hn, Bool.false_and] at h; cases h)]
           exact wpAny_pure hQ))

/-- the list at a, as it stands at each turn (a loop may append to it) -/
def Itl (K : PySem.W.Frag) (a : Addr) : It :=
  ⟨fun i H => ∃ xs x, SqL K H a xs ∧ xs[i]? = some x, fun i H x H' => H' = H ∧ ∀ xs, SqL K H a xs → xs[i]? = some x, fun i H => ∃ xs, SqL K H a xs ∧ xs.length ≤ i⟩
def Itt (K : PySem.W.Frag) (a : Addr) : It :=
  ⟨fun i H => ∃ xs x, SqT K H a xs ∧ xs[i]? = some x, fun i H x H' => H' = H ∧ ∀ xs, SqT K H a xs → xs[i]? = some x, fun i H => ∃ xs, SqT K H a xs ∧ xs.length ≤ i⟩
/-- lo, lo + 1, .. (n of them) -/
def Itr (lo : Int) (n : Nat) : It := ⟨fun i _ => i < n, fun i H x H' => H' = H ∧ x = .int (lo + i), fun i _ => n ≤ i⟩
theorem turn_list {P : Program} {w : World} {K : PySem.W.Frag} {tg : Expr} (a it : Addr) : Turn P w K tg (Itl K a) [it] it (fun i h => h.IsListIter it a i) where
  mem := by simp
  obj := fun i h st b hb => by
    have e : b = it := by simpa using hb
    subst e
    obtain ⟨o, e, c, d⟩ := st
    exact ⟨o, e, fun v z => by rw [d] at z; cases z⟩
  keep := fun i h h' st k => st.at fun o e => k it (by simp) o e
  item := by
    intro X hP hw hK hc i pins s σ H E I hf st hg
    subst hP hw hK
    obtain ⟨xs, x, hq, hx⟩ := hg
    obtain ⟨its, rv, p, hz⟩ := I.list hq
    obtain ⟨u, hu, ru⟩ := rv.get hx
    obtain ⟨f0, f1, f2, f3, f4, f5⟩ := hf it (by simp)
    refine wpAny_pyNext_list_item st p.isList (x := u) (by simpa using hu) fun h' st' sb => ?_
    have I1 : Inv X pins σ H { s with heap := h' } := I.turned (t' := s.toks) (fun b o hb e => (sb.2 b hb).trans e) f0 f1 f3 f4 f5
    obtain ⟨o, e, c, d⟩ := id st'
    exact ⟨u, rfl, go_of (s := { s with heap := h' }) e c d (by decide) ⟨x, H, I1, ru, ⟨rfl, fun ys hy => by rw [I.list_inj hy hq]; exact hx⟩, st', fun b hb => (hf b hb).1⟩⟩
  done := by
    intro X hP hw hK hc i pins s σ H E I hf st hg
    subst hP hw hK
    obtain ⟨xs, hq, hx⟩ := hg
    obtain ⟨its, rv, p, hz⟩ := I.list hq
    obtain ⟨f0, f1, f2, f3, f4, f5⟩ := hf it (by simp)
    have hl := rv.length
    exact wpAny_pyNext_list_end (I.ok.hd hc) st p.isList (by simp; omega) fun h' eb => ⟨rfl, I.turned (t' := s.toks) (fun b o hb e => eb b o hb e) f0 f1 f3 f4 f5⟩
  self := fun _ _ _ _ _ st h => wpAny_pyIter_listiter st h
theorem turn_tuple {P : Program} {w : World} {K : PySem.W.Frag} {tg : Expr} (a it : Addr) : Turn P w K tg (Itt K a) [it] it (fun i h => h.IsTupleIter it a i) where
  mem := by simp
  obj := fun i h st b hb => by
    have e : b = it := by simpa using hb
    subst e
    obtain ⟨o, e, c, d⟩ := st
    exact ⟨o, e, fun v z => by rw [d] at z; cases z⟩
  keep := fun i h h' st k => st.at fun o e => k it (by simp) o e
  item := by
    intro X hP hw hK hc i pins s σ H E I hf st hg
    subst hP hw hK
    obtain ⟨xs, x, hq, hx⟩ := hg
    obtain ⟨its, rv, p, hz⟩ := I.tuple hq
    obtain ⟨u, hu, ru⟩ := rv.get hx
    obtain ⟨f0, f1, f2, f3, f4, f5⟩ := hf it (by simp)
    refine wpAny_pyNext_tuple_item st (show s.heap.IsTuple a its.toArray from p) (x := u) (by simpa using hu) fun h' st' sb => ?_
    have I1 : Inv X pins σ H { s with heap := h' } := I.turned (t' := s.toks) (fun b o hb e => (sb.2 b hb).trans e) f0 f1 f3 f4 f5
    obtain ⟨o, e, c, d⟩ := id st'
    exact ⟨u, rfl, go_of (s := { s with heap := h' }) e c d (by decide) ⟨x, H, I1, ru, ⟨rfl, fun ys hy => by rw [I.tuple_inj hy hq]; exact hx⟩, st', fun b hb => (hf b hb).1⟩⟩
  done := by
    intro X hP hw hK hc i pins s σ H E I hf st hg
    subst hP hw hK
    obtain ⟨xs, hq, hx⟩ := hg
    obtain ⟨its, rv, p, hz⟩ := I.tuple hq
    obtain ⟨f0, f1, f2, f3, f4, f5⟩ := hf it (by simp)
    have hl := rv.length
    exact wpAny_pyNext_tuple_end (I.ok.hd hc) st (show s.heap.IsTuple a its.toArray from p) (by simp; omega) fun h' eb => ⟨rfl, I.turned (t' := s.toks) (fun b o hb e => eb b o hb e) f0 f1 f3 f4 f5⟩
  self := fun _ _ _ _ _ st h => wpAny_pyIter_tupleiter st h
theorem turn_range {P : Program} {w : World} {K : PySem.W.Frag} {tg : Expr} (it : Addr) (lo : Int) (n : Nat) : Turn P w K tg (Itr lo n) [it] it (fun i h => IsRangeIter h it (lo + (i : Nat) * 1) ((n : Int) - (i : Nat)) 1) where
  mem := by simp
  obj := fun i h st b hb => by
    have e : b = it := by simpa using hb
    subst e
    exact ⟨_, st, fun v z => by
      have z' : Data.fields _ = Data.cell v := z
      cases z'⟩
  keep := fun i h h' st k => k it (by simp) _ st
  item := by
    intro X hP hw hK hc i pins s σ H E I hf st hg
    subst hP hw hK
    obtain ⟨f0, f1, f2, f3, f4, f5⟩ := hf it (by simp)
    have W := Walks.range (prog := X.prog) (w := X.w) (I.ok.hd hc) it lo 1 n
    refine W.item i s _ _ hg st fun v h' tk hv st' kk => ?_
    obtain ⟨t, rfl⟩ := hv
    have I1 : Inv X pins σ H { s with heap := h', toks := tk } := I.turned (fun b o hb e => kk b o (by simpa using hb) e) f0 f1 f3 f4 f5
    refine ⟨_, rfl, go_of (s := { s with heap := h', toks := tk }) (n := "range_iterator") st' rfl rfl (by decide) ⟨.int (lo + i), H, I1, ⟨t, ?_⟩, ⟨rfl, rfl⟩, st', fun b hb => (hf b hb).1⟩⟩
    rw [Int.mul_one]
  done := by
    intro X hP hw hK hc i pins s σ H E I hf st hg
    subst hP hw hK
    obtain ⟨f0, f1, f2, f3, f4, f5⟩ := hf it (by simp)
    exact wpAny_pyNext_range_end (I.ok.hd hc) st (by have : n ≤ i := hg; omega) fun h' eb => ⟨rfl, I.turned (t' := s.toks) (fun b o hb e => eb b o hb e) f0 f1 f3 f4 f5⟩
  self := fun _ _ _ _ _ st h => wpAny_pyIter_rangeiter st h
end L2

namespace L2
open PySem PySem.Spec PyProof.Rows
section
variable {X : Cx} {tg : Expr}
def iList (K : PySem.W.Frag) (tl : TE) : TI := fun σ H R => tl σ H fun x H1 => ∃ a, x = .ref a ∧ (∃ xs, SqL K H1 a xs) ∧ R (Itl K a) H1
def iTup (K : PySem.W.Frag) (tl : TE) : TI := fun σ H R => tl σ H fun x H1 => ∃ a, x = .ref a ∧ (∃ xs, SqT K H1 a xs) ∧ R (Itt K a) H1
theorem pi_list {l : Expr} {tl : TE} (hl : PE X l tl) : PI X tg l (iList X.K tl) := by
  intro pins s σ H R I h
  refine thn (hl pins s σ H _ I h) fun v s1 ⟨x, H1, I1, r1, q1⟩ => ?_
  obtain ⟨a, e, ⟨xs, hq⟩, q⟩ := q1
  subst e
  cases r1
  obtain ⟨its, rv, p, hz⟩ := I1.list hq
  refine wpAny_pyIter_list p.isList ?_
  refine ⟨s1.heap.objs.size, [s1.heap.objs.size], _, _, H1, rfl, I1.kept (t' := s1.toks) fun b o e => Heap.get?_push_of_some _ e, turn_list a _, ⟨_, Heap.get?_push_size _ rfl, rfl, rfl⟩, fun b hb => ?_, q⟩
  have e : b = s1.heap.objs.size := by simpa using hb
  subst e
  exact I1.fpOk (Nat.le_refl _) (I1.hok.fresh (Nat.le_refl _))
theorem pi_tup {l : Expr} {tl : TE} (hl : PE X l tl) : PI X tg l (iTup X.K tl) := by
  intro pins s σ H R I h
  refine thn (hl pins s σ H _ I h) fun v s1 ⟨x, H1, I1, r1, q1⟩ => ?_
  obtain ⟨a, e, ⟨xs, hq⟩, q⟩ := q1
  subst e
  cases r1
  obtain ⟨its, rv, p, hz⟩ := I1.tuple hq
  refine wpAny_pyIter_tuple (show s1.heap.IsTuple a its.toArray from p) ?_
  refine ⟨s1.heap.objs.size, [s1.heap.objs.size], _, _, H1, rfl, I1.kept (t' := s1.toks) fun b o e => Heap.get?_push_of_some _ e, turn_tuple a _, ⟨_, Heap.get?_push_size _ rfl, rfl, rfl⟩, fun b hb => ?_, q⟩
  have e : b = s1.heap.objs.size := by simpa using hb
  subst e
  exact I1.fpOk (Nat.le_refl _) (I1.hok.fresh (Nat.le_refl _))
/-- a range object just made, walked -/
theorem range_it {pins : List (Addr × Obj)} {σ : St} {H : Hp} {s : Shared} {R : It → Hp → Prop} {E : Value → Shared → Prop} {lo hi : Int} {t u v : Tok} {tk : Nat} (I : Inv X pins σ H s) (h1 : -(2 ^ 62) ≤ lo) (h2 : lo < 2 ^ 62) (h3 : -(2 ^ 62) ≤ hi) (h4 : hi < 2 ^ 62)
    (q : R (Itr lo (hi - lo).toNat) H) : wpAny (model X.prog X.w) X.A (pyIter (.ref s.heap.objs.size)) (PIE X pins σ tg R) E { s with heap := s.heap.push { cls := .type "range", data := .fields #[.int lo t, .int hi u, .int 1 v] }, toks := tk } := by
  refine wpAny_pyIter_range (IsRange.new ..) (small_one h1 h2 h3 h4) ?_
  have I1 : Inv X pins σ H { s with heap := s.heap.push { cls := .type "range", data := .fields #[.int lo t, .int hi u, .int 1 v] }, toks := tk } := I.kept fun b o e => Heap.get?_push_of_some _ e
  refine ⟨(s.heap.push { cls := .type "range", data := .fields #[.int lo t, .int hi u, .int 1 v] }).objs.size, [(s.heap.push { cls := .type "range", data := .fields #[.int lo t, .int hi u, .int 1 v] }).objs.size], _, _, H, rfl,
    I1.kept (t' := tk) fun b o e => Heap.get?_push_of_some _ e, turn_range _ lo (hi - lo).toNat, ?_, fun b hb => ?_, q⟩
  · have e1 : lo + ((0 : Nat) : Int) * 1 = lo := by simp
    have e2 : (((hi - lo).toNat : Nat) : Int) - ((0 : Nat) : Int) = Builtin.Range.rangeSize lo hi 1 := by rw [rangeSize_one]; split <;> omega
    show IsRangeIter _ _ (lo + ((0 : Nat) : Int) * 1) ((((hi - lo).toNat : Nat) : Int) - ((0 : Nat) : Int)) 1
    rw [e1, e2]
    exact Heap.get?_push_size _ rfl
  · have e : b = (s.heap.push { cls := .type "range", data := .fields #[.int lo t, .int hi u, .int 1 v] }).objs.size := by simpa using hb
    subst e
    exact I1.fpOk (Nat.le_refl _) (I1.hok.fresh (Nat.le_refl _))
def iRng1 (ta : TA) : TI := fun σ H R => ta σ H fun vs H1 => ∃ j : Int, vs = [.int j] ∧ -(2 ^ 62) ≤ j ∧ j < 2 ^ 62 ∧ R (Itr 0 j.toNat) H1
def iRng2 (ta : TA) : TI := fun σ H R => ta σ H fun vs H1 => ∃ i j : Int, vs = [.int i, .int j] ∧ (-(2 ^ 62) ≤ i ∧ i < 2 ^ 62 ∧ -(2 ^ 62) ≤ j ∧ j < 2 ^ 62) ∧ R (Itr i (j - i).toNat) H1
theorem pi_range1 {a : Expr} {ta : TA} {p pos : Pos} (hg : Gl X "range") (hm : X.mg "range" = none) (ha : PA X [a] ta) (hs : starEach [a] X.env = [(false, eval a X.env)] := by rfl) : PI X tg (.Call (.Name "range" p) [a] [] pos) (iRng1 ta) := by
  intro pins s σ H R I h
  refine Call_ (ld_blt I hg hm boot_range (PyProof.Rows.callWith_type1 (thn (ha pos pins s σ H _ I h) fun us s1 ⟨vs, H1, I1, r1, q1⟩ => ?_) hs rfl))
  obtain ⟨j, e, q1, q2, q⟩ := q1
  subst e
  cases r1 with
  | cons r rr =>
    cases rr
    obtain ⟨t, rfl⟩ := r
    exact call_range_1 (range_it I1 (by omega) (by omega) q1 q2 (by simpa using q))
/-! ### for -/
/-- W: the invariant by the turn and a measure; N: what the body is to reach -/
def tFor (wi : TI) (g : TG) (tb : TS) : TS := fun D σ H => wi σ H fun J H1 => ∃ W : Nat → Nat → St → Hp → Prop, (∃ m, W 0 m σ H1) ∧ ∀ i m σ H, W i m σ H →
  (J.stop i H ∧ D.nx σ H) ∨ (J.go i H ∧ ∃ N : St → Hp → Prop, (∀ σ' H', N σ' H' → ∃ m', m' < m ∧ W (i + 1) m' σ' H') ∧ ∀ x H', J.yld i H x H' → g x σ H' fun σ2 H2 => tb { D with nx := N, ct := N, bk := D.nx } σ2 H2)
/-- the records at fp as they stand -/
def pinsAt (fp : List Addr) (h : Heap) : List (Addr × Obj) := fp.filterMap fun b => (h.get? b).map fun o => (b, o)
theorem mem_pinsAt {fp : List Addr} {h : Heap} {b : Addr} {o : Obj} (hb : b ∈ fp) (e : h.get? b = some o) : (b, o) ∈ pinsAt fp h := List.mem_filterMap.mpr ⟨b, hb, by rw [e]; rfl⟩
theorem of_pinsAt {fp : List Addr} {h : Heap} {p : Addr × Obj} (hp : p ∈ pinsAt fp h) : p.1 ∈ fp ∧ h.get? p.1 = some p.2 := by
  obtain ⟨b, hb, e⟩ := List.mem_filterMap.mp hp
  cases q : h.get? b with
  | none => rw [q] at e; cases e
  | some o =>
    rw [q] at e
    have e' : (b, o) = p := Option.some.inj e
    subst e'
    exact ⟨hb, q⟩
theorem Inv.pinned {pins : List (Addr × Obj)} {σ : St} {H : Hp} {s : Shared} {fp : List Addr} (I : Inv X pins σ H s) (hf : ∀ b ∈ fp, FpOk X pins H b) (ho : ∀ b ∈ fp, ∃ o, s.heap.get? b = some o ∧ ∀ v, o.data ≠ .cell v) : Inv X (pins ++ pinsAt fp s.heap) σ H s :=
  I.pins_of fun p hp => (List.mem_append.mp hp).elim (fun z => I.pin p (List.mem_append_right _ z)) fun z => by
    obtain ⟨hb, e⟩ := of_pinsAt z
    obtain ⟨f0, f1, f2, _⟩ := hf p.1 hb
    obtain ⟨o, e', d⟩ := ho p.1 hb
    rw [e] at e'; cases e'
    exact ⟨e, f0, f1, f2, d⟩
theorem Inv.unpinned {pins pl : List (Addr × Obj)} {σ : St} {H : Hp} {s : Shared} (I : Inv X (pins ++ pl) σ H s) : Inv X pins σ H s := I.pins_of fun p hp => I.pin p (List.mem_append_right _ (List.mem_append_left _ hp))
theorem ps_for {iter : Expr} {body : List Stmt} {wi : TI} {g : TG} {tb : TS} {pos : Pos} (hp : PassesOwn (model X.prog X.w) X.A X.env X.xe) (hc : X.calm = true) (hi : PI X tg iter wi) (hg : PG X tg g) (hb : PSs X body tb)
    (hs : ∀ x, foldedSetIterable iter X.env x = pure x := by intro _; rfl) : PS X (.For tg iter body [] pos) (tFor wi g tb) := by
  intro pins s σ H D I h
  refine wpAny_For (thn (hi pins s σ H _ I h) fun v s1 h1 => thn h1 fun itv s2 h2 => ?_) hs
  obtain ⟨it, fp, tn, J, H2, e, I2, T, st2, f2, W, ⟨m0, w0⟩, turn⟩ := h2
  subst e
  -- what stays true of the iterator's objects through the loop
  have stat : ∀ {H' : Hp}, (∀ b ∈ fp, H' b = none) → ∀ b ∈ fp, FpOk X pins H' b := fun hn b hb => ⟨hn b hb, (f2 b hb).2⟩
  refine codeAny_forLoop_any (fun n s' => ∃ i σ' H', Inv X pins σ' H' s' ∧ tn i s'.heap ∧ (∀ b ∈ fp, H' b = none) ∧ W i n σ' H') ?_ m0 ⟨0, σ, H2, I2, st2, fun b hb => (f2 b hb).1, w0⟩
  rintro n s3 ⟨i, σ3, H3, I3, st3, fr3, w3⟩
  rcases turn i n σ3 H3 w3 with ⟨stop, qn⟩ | ⟨go, N, hN, step⟩
  · refine wpAny_passesOwn hp (thn (T.done X rfl rfl rfl hc i pins s3 σ3 H3 X.xe I3 (stat fr3) st3 stop) fun r s4 ⟨hr, I4⟩ => ?_)
    subst hr
    exact wpAny_execs_nil ⟨σ3, H3, I4, qn⟩
  · refine wpAny_passesOwn hp (thn (T.item X rfl rfl rfl hc i pins s3 σ3 H3 X.xe I3 (stat fr3) st3 go) fun r s4 ⟨u, hr, h4⟩ => ?_)
    subst hr
    refine wpAny_passesOwn hp (thn h4 fun _ s5 ⟨x, H5, I5, r5, y5, st5, fr5⟩ => ?_)
    have I5' := I5.pinned (stat fr5) (T.obj _ _ st5)
    refine wpAny_passesOwn hp (thn (hg _ s5 σ3 H5 x u _ I5' r5 (step x H5 y5)) fun _ s6 ⟨σ6, H6, I6, q6⟩ => ?_)
    refine wpAny_passesOwn hp (thn (hb _ s6 σ6 H6 _ I6 q6) fun f s7 q7 => ?_)
    have again : ∀ {σ7 : St} {H7 : Hp}, Inv X (pins ++ pinsAt fp s5.heap) σ7 H7 s7 → N σ7 H7 → ∃ m, m < n ∧ ∃ i σ' H', Inv X pins σ' H' s7 ∧ tn i s7.heap ∧ (∀ b ∈ fp, H' b = none) ∧ W i m σ' H' := fun {σ7 H7} I7 n7 => by
      obtain ⟨m', hm, w7⟩ := hN σ7 H7 n7
      refine ⟨m', hm, i + 1, σ7, H7, I7.unpinned, T.keep _ _ _ st5 fun b hb o e => (I7.pin (b, o) (List.mem_append_right _ (List.mem_append_right _ (mem_pinsAt hb e)))).1, fun b hb => ?_, w7⟩
      obtain ⟨o, e, d⟩ := T.obj _ _ st5 b hb
      exact (I7.pin (b, o) (List.mem_append_right _ (List.mem_append_right _ (mem_pinsAt hb e)))).2.1
    cases f with
    | next => obtain ⟨σ7, H7, I7, n7⟩ := q7; exact again I7 n7
    | cont => obtain ⟨σ7, H7, I7, n7⟩ := q7; exact again I7 n7
    | brk => obtain ⟨σ7, H7, I7, q7⟩ := q7; exact ⟨σ7, H7, I7.unpinned, q7⟩
    | ret v => obtain ⟨x7, σ7, H7, I7, r7, q7⟩ := q7; exact ⟨x7, σ7, H7, I7.unpinned, r7, q7⟩
end

/-! ### the forms one uses -/
/-- over a list that the body leaves as it is -/
theorem for_list {K : PySem.W.Frag} {a : Addr} {xs : List V} {g : TG} {tb : TS} {D : Ends} {σ : St} {H : Hp} (Pv : Nat → St → Hp → Prop) (h0 : Pv 0 σ H) (hl : ∀ i σ H, i ≤ xs.length → Pv i σ H → SqL K H a xs)
    (hs : ∀ i x σ H, xs[i]? = some x → Pv i σ H → g x σ H fun σ2 H2 => tb { D with nx := Pv (i + 1), ct := Pv (i + 1), bk := D.nx } σ2 H2) (hd : ∀ σ H, Pv xs.length σ H → D.nx σ H) :
    ∃ W : Nat → Nat → St → Hp → Prop, (∃ m, W 0 m σ H) ∧ ∀ i m σ H, W i m σ H →
      ((Itl K a).stop i H ∧ D.nx σ H) ∨ ((Itl K a).go i H ∧ ∃ N : St → Hp → Prop, (∀ σ' H', N σ' H' → ∃ m', m' < m ∧ W (i + 1) m' σ' H') ∧ ∀ x H', (Itl K a).yld i H x H' → g x σ H' fun σ2 H2 => tb { D with nx := N, ct := N, bk := D.nx } σ2 H2) := by
  refine ⟨fun i m σ H => m = xs.length - i ∧ i ≤ xs.length ∧ Pv i σ H, ⟨xs.length, by simp, Nat.zero_le _, h0⟩, ?_⟩
  rintro i m σ H ⟨rfl, hi, p⟩
  have q := hl i σ H hi p
  by_cases hlt : i < xs.length
  · refine .inr ⟨⟨xs, xs[i], q, by simp [hlt]⟩, Pv (i + 1), fun σ' H' p' => ⟨xs.length - (i + 1), by omega, rfl, hlt, p'⟩, fun x H' y => ?_⟩
    obtain ⟨e, y⟩ := y
    subst e
    exact hs i x σ _ (y xs q) p
  · have e : i = xs.length := by omega
    subst e
    exact .inl ⟨⟨xs, q, Nat.le_refl _⟩, hd σ H p⟩
theorem for_tup {K : PySem.W.Frag} {a : Addr} {xs : List V} {g : TG} {tb : TS} {D : Ends} {σ : St} {H : Hp} (Pv : Nat → St → Hp → Prop) (h0 : Pv 0 σ H) (hl : ∀ i σ H, i ≤ xs.length → Pv i σ H → SqT K H a xs)
    (hs : ∀ i x σ H, xs[i]? = some x → Pv i σ H → g x σ H fun σ2 H2 => tb { D with nx := Pv (i + 1), ct := Pv (i + 1), bk := D.nx } σ2 H2) (hd : ∀ σ H, Pv xs.length σ H → D.nx σ H) :
    ∃ W : Nat → Nat → St → Hp → Prop, (∃ m, W 0 m σ H) ∧ ∀ i m σ H, W i m σ H →
      ((Itt K a).stop i H ∧ D.nx σ H) ∨ ((Itt K a).go i H ∧ ∃ N : St → Hp → Prop, (∀ σ' H', N σ' H' → ∃ m', m' < m ∧ W (i + 1) m' σ' H') ∧ ∀ x H', (Itt K a).yld i H x H' → g x σ H' fun σ2 H2 => tb { D with nx := N, ct := N, bk := D.nx } σ2 H2) := by
  refine ⟨fun i m σ H => m = xs.length - i ∧ i ≤ xs.length ∧ Pv i σ H, ⟨xs.length, by simp, Nat.zero_le _, h0⟩, ?_⟩
  rintro i m σ H ⟨rfl, hi, p⟩
  have q := hl i σ H hi p
  by_cases hlt : i < xs.length
  · refine .inr ⟨⟨xs, xs[i], q, by simp [hlt]⟩, Pv (i + 1), fun σ' H' p' => ⟨xs.length - (i + 1), by omega, rfl, hlt, p'⟩, fun x H' y => ?_⟩
    obtain ⟨e, y⟩ := y
    subst e
    exact hs i x σ _ (y xs q) p
  · have e : i = xs.length := by omega
    subst e
    exact .inl ⟨⟨xs, q, Nat.le_refl _⟩, hd σ H p⟩
theorem for_range {lo : Int} {n : Nat} {g : TG} {tb : TS} {D : Ends} {σ : St} {H : Hp} (Pv : Nat → St → Hp → Prop) (h0 : Pv 0 σ H)
    (hs : ∀ i σ H, i < n → Pv i σ H → g (.int (lo + i)) σ H fun σ2 H2 => tb { D with nx := Pv (i + 1), ct := Pv (i + 1), bk := D.nx } σ2 H2) (hd : ∀ σ H, Pv n σ H → D.nx σ H) :
    ∃ W : Nat → Nat → St → Hp → Prop, (∃ m, W 0 m σ H) ∧ ∀ i m σ H, W i m σ H →
      ((Itr lo n).stop i H ∧ D.nx σ H) ∨ ((Itr lo n).go i H ∧ ∃ N : St → Hp → Prop, (∀ σ' H', N σ' H' → ∃ m', m' < m ∧ W (i + 1) m' σ' H') ∧ ∀ x H', (Itr lo n).yld i H x H' → g x σ H' fun σ2 H2 => tb { D with nx := N, ct := N, bk := D.nx } σ2 H2) := by
  refine ⟨fun i m σ H => m = n - i ∧ i ≤ n ∧ Pv i σ H, ⟨n, by simp, Nat.zero_le _, h0⟩, ?_⟩
  rintro i m σ H ⟨rfl, hi, p⟩
  by_cases hlt : i < n
  · refine .inr ⟨hlt, Pv (i + 1), fun σ' H' p' => ⟨n - (i + 1), by omega, rfl, hlt, p'⟩, fun x H' y => ?_⟩
    obtain ⟨e, y⟩ := y
    subst e y
    exact hs i σ _ hlt p
  · have e : i = n := by omega
    subst e
    exact .inl ⟨Nat.le_refl _, hd σ H p⟩
end L2

namespace L2
open PySem PySem.Spec PyProof.Rows

abbrev R2 := V → V → Hp → VK → Prop
/-- a two-place operation on values: f is binaryOp op, inplaceOp op or compareOp op -/
def OpR (X : Cx) (f : Value → Value → Sem Value) (r : R2) : Prop :=
  ∀ (pins : List (Addr × Obj)) (s : Shared) (σ : St) (H : Hp) (x y : V) (v u : Value) (Q : VK), Inv X pins σ H s → RelV x v → RelV y u → r x y H Q →
    wpAny (model X.prog X.w) X.A (f v u) (EP X pins σ Q) X.xe s
/-- a one-place operation -/
def UnR (X : Cx) (f : Value → Sem Value) (r : V → Hp → VK → Prop) : Prop :=
  ∀ (pins : List (Addr × Obj)) (s : Shared) (σ : St) (H : Hp) (x : V) (v : Value) (Q : VK), Inv X pins σ H s → RelV x v → r x H Q →
    wpAny (model X.prog X.w) X.A (f v) (EP X pins σ Q) X.xe s
/-- a call of a value that is known (a builtin, a type) with values -/
def CallR (X : Cx) (f : Value) (r : List V → Hp → VK → Prop) : Prop :=
  ∀ (pins : List (Addr × Obj)) (s : Shared) (σ : St) (H : Hp) (xs : List V) (us : List Value) (Q : VK), Inv X pins σ H s → Vals xs us → r xs H Q →
    wpAny (model X.prog X.w) X.A (call f us) (EP X pins σ Q) X.xe s
/-- a value's truth -/
def TruR (X : Cx) (r : V → Hp → (Bool → Hp → Prop) → Prop) : Prop :=
  ∀ (pins : List (Addr × Obj)) (s : Shared) (σ : St) (H : Hp) (x : V) (v : Value) (Q : Bool → Hp → Prop), Inv X pins σ H s → RelV x v → r x H Q →
    wpAny (model X.prog X.w) X.A (truthy v) (TP X pins σ Q) X.xe s

def tOp (r : R2) (ta tb : TE) : TE := fun σ H Q => ta σ H fun x H1 => tb σ H1 fun y H2 => r x y H2 Q
def tUn (r : V → Hp → VK → Prop) (ta : TE) : TE := fun σ H Q => ta σ H fun x H1 => r x H1 Q
/-- ints in, under C, and a value out -/
def rI (C : Int → Int → Prop) (g : Int → Int → V) : R2 := fun x y H Q => ∃ i j, x = .int i ∧ y = .int j ∧ C i j ∧ Q (g i j) H
def rI0 (g : Int → Int → V) : R2 := fun x y H Q => ∃ i j, x = .int i ∧ y = .int j ∧ Q (g i j) H
def rU (g : Int → V) : V → Hp → VK → Prop := fun x H Q => ∃ i, x = .int i ∧ Q (g i) H

section
variable {X : Cx} {a b c : Expr} {ta tb tc : TE} {pos : Pos}

theorem binT (ha : PE X a ta) (hb : PE X b tb) {pins : List (Addr × Obj)} {s : Shared} {σ : St} {H : Hp} {R : V → V → Hp → Prop} (I : Inv X pins σ H s)
    (h : ta σ H fun x H1 => tb σ H1 fun y H2 => R x y H2) {Q : Value → Shared → Prop} {f : Value → Value → Sem Value}
    (hf : ∀ v u s2 x y H2, Inv X pins σ H2 s2 → RelV x v → RelV y u → R x y H2 → wpAny (model X.prog X.w) X.A (f v u) Q X.xe s2) :
    wpAny (model X.prog X.w) X.A (eval a X.env) (fun v s₁ => wpAny (model X.prog X.w) X.A (eval b X.env) (fun u s₂ => wpAny (model X.prog X.w) X.A (f v u) Q X.xe s₂) X.xe s₁) X.xe s := by
  refine thn (ha pins s σ H _ I h) fun v s1 ⟨x, H1, I1, r1, q1⟩ => ?_
  refine thn (hb pins s1 σ H1 _ I1 q1) fun u s2 ⟨y, H2, I2, r2, q2⟩ => ?_
  exact hf v u s2 x y H2 I2 r1 r2 q2

theorem pe_op {op : Operator} {r : R2} (ho : OpR X (binaryOp op) r) (ha : PE X a ta) (hb : PE X b tb) : PE X (.BinOp a op b pos) (tOp r ta tb) := by
  intro pins s σ H Q I h
  exact wpAny_BinOp (binT ha hb I h fun v u s2 x y H2 I2 rx ry q => ho pins s2 σ H2 x y v u Q I2 rx ry q)
/-! ### ints -/
theorem opI {f : Value → Value → Sem Value} {C : Int → Int → Prop} {g : Int → Int → Int}
    (rule : ∀ (i j : Int) (t u : Tok) (s : Shared) (Q : Value → Shared → Prop) (E : Value → Shared → Prop), C i j → Q (.int (g i j) s.toks) { s with toks := s.toks + 1 } → wpAny (model X.prog X.w) X.A (f (.int i t) (.int j u)) Q E s) :
    OpR X f (rI C fun i j => .int (g i j)) := by
  intro pins s σ H x y v u Q I rx ry h
  obtain ⟨i, j, rfl, rfl, hc, q⟩ := h
  obtain ⟨t, rfl⟩ := rx
  obtain ⟨t', rfl⟩ := ry
  exact rule i j t t' s _ _ hc ⟨.int (g i j), H, I.tok _, ⟨_, rfl⟩, q⟩
theorem opI0 {f : Value → Value → Sem Value} {g : Int → Int → Int}
    (rule : ∀ (i j : Int) (t u : Tok) (s : Shared) (Q : Value → Shared → Prop) (E : Value → Shared → Prop), Q (.int (g i j) s.toks) { s with toks := s.toks + 1 } → wpAny (model X.prog X.w) X.A (f (.int i t) (.int j u)) Q E s) :
    OpR X f (rI0 fun i j => .int (g i j)) := by
  intro pins s σ H x y v u Q I rx ry h
  obtain ⟨i, j, rfl, rfl, q⟩ := h
  obtain ⟨t, rfl⟩ := rx
  obtain ⟨t', rfl⟩ := ry
  exact rule i j t t' s _ _ ⟨.int (g i j), H, I.tok _, ⟨_, rfl⟩, q⟩
theorem opB0 {f : Value → Value → Sem Value} {g : Int → Int → Bool}
    (rule : ∀ (i j : Int) (t u : Tok) (s : Shared) (Q : Value → Shared → Prop) (E : Value → Shared → Prop), Q (.bool (g i j)) s → wpAny (model X.prog X.w) X.A (f (.int i t) (.int j u)) Q E s) :
    OpR X f (rI0 fun i j => .bl (g i j)) := by
  intro pins s σ H x y v u Q I rx ry h
  obtain ⟨i, j, rfl, rfl, q⟩ := h
  obtain ⟨t, rfl⟩ := rx
  obtain ⟨t', rfl⟩ := ry
  exact rule i j t t' s _ _ ⟨.bl (g i j), H, I, rfl, q⟩

def CDiv (i j : Int) : Prop := 0 < j ∧ j < 1073741824
def CDivN (i j : Int) : Prop := j ≠ 0 ∧ j.natAbs < 1073741824
def CPow (i j : Int) : Prop := 0 ≤ j ∧ j ≤ 1000000 ∧ i.natAbs < 2 ^ 64
def CMul (i j : Int) : Prop := (-(2 ^ 64) < i ∧ i < 2 ^ 64) ∨ (-(2 ^ 64) < j ∧ j < 2 ^ 64)
theorem CMul.ok {i j : Int} (h : CMul i j) : IntMulOk i j := by
  rcases h with ⟨h1, h2⟩ | ⟨h1, h2⟩
  · exact .of_left (intBits_le_64 h1 h2)
  · exact .of_right (intBits_le_64 h1 h2)
theorem op_add : OpR X (binaryOp .Add) (rI0 fun i j => .int (i + j)) := opI0 fun _ _ _ _ _ _ _ q => add_int q
theorem op_sub : OpR X (binaryOp .Sub) (rI0 fun i j => .int (i - j)) := opI0 fun _ _ _ _ _ _ _ q => sub_int q
theorem op_mul : OpR X (binaryOp .Mult) (rI CMul fun i j => .int (i * j)) := opI fun _ _ _ _ _ _ _ hc q => mul_int q hc.ok
/-- // by a positive divisor -/
theorem op_fdiv : OpR X (binaryOp .FloorDiv) (rI CDiv fun i j => .int (i / j)) := opI fun i j _ _ _ _ _ hc q => by
  have h1 : (0 : Int) < j := hc.1
  have h2 : j < 1073741824 := hc.2
  exact floordiv_int (by omega) (by rw [Int.fdiv_eq_ediv_of_nonneg i (by omega)]; exact q) (.inl (PyProof.noPylong_small (by omega)))
/-- % by a positive divisor of any size -/
theorem op_mod : OpR X (binaryOp .Mod) (rI (fun _ j => 0 < j) fun i j => .int (i % j)) := opI fun i j _ _ _ _ _ hc q => by
  have h1 : (0 : Int) < j := hc
  exact mod_int' (by omega) (by rw [Int.fmod_eq_emod_of_nonneg i (by omega)]; exact q)
/-! ### bools among ints: n += (a < b) -/
end

/-! ### comparisons -/
/-- the scalars that == tells apart as data does -/
def scal : V → V → Bool
  | .non, .non => true | .non, .int _ => true | .int _, .non => true | .non, .bl _ => true | .bl _, .non => true | .non, .str _ => true | .str _, .non => true
  | .int _, .int _ => true | .bl _, .bl _ => true | .str _, .str _ => true | .byt _, .byt _ => true
  | .int _, .str _ => true | .str _, .int _ => true | .bl _, .str _ => true | .str _, .bl _ => true
  | _, _ => false
def rEq : R2 := fun x y H Q => scal x y = true ∧ Q (.bl (decide (x = y))) H
def rNe : R2 := fun x y H Q => scal x y = true ∧ Q (.bl (!decide (x = y))) H

theorem dec_int {i j : Int} : decide (V.int i = V.int j) = (i == j) := by
  rw [Bool.eq_iff_iff]
  simp
theorem dec_bl {i j : Bool} : decide (V.bl i = V.bl j) = (i == j) := by
  rw [Bool.eq_iff_iff]
  simp
theorem dec_str {i j : Str} : decide (V.str i = V.str j) = (i == j) := by
  rw [Bool.eq_iff_iff]
  simp
theorem dec_byt {i j : Array UInt8} : decide (V.byt i = V.byt j) = (i.toList == j.toList) := by
  rw [Bool.eq_iff_iff]
  cases i
  cases j
  simp

section
variable {X : Cx} {a b c : Expr} {ta tb tc : TE} {pos : Pos}
theorem fin_bl {pins : List (Addr × Obj)} {σ : St} {H : Hp} {s : Shared} {Q : VK} {k k' : Bool} (I : Inv X pins σ H s) (q : Q (.bl k) H) (e : k = k') : EP X pins σ Q (.bool k') s := by
  subst e
  exact ⟨.bl k, H, I, rfl, q⟩
theorem op_eq : OpR X (compareOp .Eq) rEq := by
  intro pins s σ H x y v u Q I rx ry h
  obtain ⟨hs, q⟩ := h
  cases x with
  | non =>
    cases rx
    cases y with
    | non => cases ry; exact PySem.EqNone.eq_none_none (fin_bl I q (by simp))
    | bl j => cases ry; exact PySem.EqNone.eq_none_bool (fin_bl I q (by simp))
    | int j => obtain ⟨t', rfl⟩ := ry; exact PySem.EqNone.eq_none_int (fin_bl I q (by simp))
    | str j => obtain ⟨t', rfl⟩ := ry; exact PySem.EqNone.eq_none_str (fin_bl I q (by simp))
    | _ => exact absurd (show false = true from hs) Bool.false_ne_true
  | bl i =>
    cases rx
    cases y with
    | non => cases ry; exact PySem.EqNone.eq_bool_none (fin_bl I q (by simp))
    | bl j => cases ry; exact eq_bool (fin_bl I q dec_bl)
    | str j => obtain ⟨t', rfl⟩ := ry; exact PySem.EqMixed.eq_bool_str (fin_bl I q (by simp))
    | _ => exact absurd (show false = true from hs) Bool.false_ne_true
  | int i =>
    obtain ⟨t, rfl⟩ := rx
    cases y with
    | non => cases ry; exact PySem.EqNone.eq_int_none (fin_bl I q (by simp))
    | int j => obtain ⟨t', rfl⟩ := ry; exact eq_int (fin_bl I q dec_int)
    | str j => obtain ⟨t', rfl⟩ := ry; exact PySem.EqMixed.eq_int_str (fin_bl I q (by simp))
    | _ => exact absurd (show false = true from hs) Bool.false_ne_true
  | str i =>
    obtain ⟨t, rfl⟩ := rx
    cases y with
    | non => cases ry; exact PySem.EqNone.eq_str_none (fin_bl I q (by simp))
    | bl j => cases ry; exact PySem.EqMixed.eq_str_bool (fin_bl I q (by simp))
    | int j => obtain ⟨t', rfl⟩ := ry; exact PySem.EqMixed.eq_str_int (fin_bl I q (by simp))
    | str j => obtain ⟨t', rfl⟩ := ry; exact eq_str (fin_bl I q dec_str)
    | _ => exact absurd (show false = true from hs) Bool.false_ne_true
  | byt i =>
    obtain ⟨t, rfl⟩ := rx
    cases y with
    | byt j => obtain ⟨t', rfl⟩ := ry; exact PySem.W.eq_bytes (fin_bl I q dec_byt)
    | _ => exact absurd (show false = true from hs) Bool.false_ne_true
  | _ => cases y <;> exact absurd (show false = true from hs) Bool.false_ne_true
theorem op_ne : OpR X (compareOp .NotEq) rNe := by
  intro pins s σ H x y v u Q I rx ry h
  obtain ⟨hs, q⟩ := h
  cases x with
  | non =>
    cases rx
    cases y with
    | non => cases ry; exact PySem.EqNone.ne_none_none (fin_bl I q (by simp))
    | bl j => cases ry; exact PySem.EqNone.ne_none_bool (fin_bl I q (by simp))
    | int j => obtain ⟨t', rfl⟩ := ry; exact PySem.EqNone.ne_none_int (fin_bl I q (by simp))
    | str j => obtain ⟨t', rfl⟩ := ry; exact PySem.EqNone.ne_none_str (fin_bl I q (by simp))
    | _ => exact absurd (show false = true from hs) Bool.false_ne_true
  | bl i =>
    cases rx
    cases y with
    | non => cases ry; exact PySem.EqNone.ne_bool_none (fin_bl I q (by simp))
    | bl j => cases ry; exact ne_bool (fin_bl I q (congrArg not dec_bl))
    | str j => obtain ⟨t', rfl⟩ := ry; exact PySem.EqMixed.ne_bool_str (fin_bl I q (by simp))
    | _ => exact absurd (show false = true from hs) Bool.false_ne_true
  | int i =>
    obtain ⟨t, rfl⟩ := rx
    cases y with
    | non => cases ry; exact PySem.EqNone.ne_int_none (fin_bl I q (by simp))
    | int j => obtain ⟨t', rfl⟩ := ry; exact ne_int (fin_bl I q (congrArg not dec_int))
    | str j => obtain ⟨t', rfl⟩ := ry; exact PySem.EqMixed.ne_int_str (fin_bl I q (by simp))
    | _ => exact absurd (show false = true from hs) Bool.false_ne_true
  | str i =>
    obtain ⟨t, rfl⟩ := rx
    cases y with
    | non => cases ry; exact PySem.EqNone.ne_str_none (fin_bl I q (by simp))
    | bl j => cases ry; exact PySem.EqMixed.ne_str_bool (fin_bl I q (by simp))
    | int j => obtain ⟨t', rfl⟩ := ry; exact PySem.EqMixed.ne_str_int (fin_bl I q (by simp))
    | str j => obtain ⟨t', rfl⟩ := ry; exact ne_str (fin_bl I q (congrArg not dec_str))
    | _ => exact absurd (show false = true from hs) Bool.false_ne_true
  | byt i =>
    obtain ⟨t, rfl⟩ := rx
    cases y with
    | byt j => obtain ⟨t', rfl⟩ := ry; exact PySem.W.ne_bytes (fin_bl I q (congrArg not dec_byt))
    | _ => exact absurd (show false = true from hs) Bool.false_ne_true
  | _ => cases y <;> exact absurd (show false = true from hs) Bool.false_ne_true

theorem op_lt : OpR X (compareOp .Lt) (rI0 fun i j => .bl (decide (i < j))) := opB0 fun _ _ _ _ _ _ _ q => lt_int q
theorem op_le : OpR X (compareOp .LtE) (rI0 fun i j => .bl (decide (i ≤ j))) := opB0 fun _ _ _ _ _ _ _ q => le_int q
theorem op_gt : OpR X (compareOp .Gt) (rI0 fun i j => .bl (decide (j < i))) := opB0 fun _ _ _ _ _ _ _ q => gt_int q
/-- is, is not of two objects that are tracked lists or instances -/
def isObj : HO → Bool
  | .lst _ => true
  | .ins _ _ _ => true
  | _ => false
theorem nomark (b : Expr) {op : CmpOp} (h : op ≠ .In := by decide) (h2 : op ≠ .NotIn := by decide) : behindInMarks op b = false := by
  have e1 : (op == CmpOp.In) = false := by cases op <;> first | rfl | exact absurd rfl h
  have e2 : (op == CmpOp.NotIn) = false := by cases op <;> first | rfl | exact absurd rfl h2
  cases b <;> simp [behindInMarks, e1, e2]
/-- a comparison as a value; hm: nomark b, or (for in, not in) by with_unfolding_all rfl -/
theorem pe_cmpR {op : CmpOp} {r : R2} (ho : OpR X (compareOp op) r) (ha : PE X a ta) (hb : PE X b tb) (hm : behindInMarks op b = false) : PE X (.Compare a [op] [b] pos) (tOp r ta tb) := by
  intro pins s σ H Q I h
  exact wpAny_Compare1 (binT ha hb I h fun v u s2 x y H2 I2 rx ry q => ho pins s2 σ H2 x y v u Q I2 rx ry q) hm
/-- a reading of a value as a test -/
def tTest (t : TE) : TT := fun σ H Q => t σ H fun x H' => ∃ k, x = .bl k ∧ Q k H'
theorem pt_cmpR {op : CmpOp} {r : R2} (ho : OpR X (compareOp op) r) (ha : PE X a ta) (hb : PE X b tb) (hm : behindInMarks op b = false) : PT X (.Compare a [op] [b] pos) (tTest (tOp r ta tb)) := by
  intro pins s σ H Q I h
  refine wpAny_isTrue_Compare1 (thn (ha pins s σ H _ I h) fun v s1 ⟨x, H1, I1, r1, q1⟩ => thn (hb pins s1 σ H1 _ I1 q1) fun u s2 ⟨y, H2, I2, r2, q2⟩ =>
    thn (ho pins s2 σ H2 x y v u _ I2 r1 r2 q2) fun c s3 ⟨z, H3, I3, r3, k, e, q3⟩ => ?_) hm
  subst e
  cases r3
  exact wpAny_truthy_bool ⟨H3, I3, q3⟩
/-- a op1 b op2 c -/
def tChain (r r' : R2) (ta tb tc : TE) : TE := fun σ H Q => ta σ H fun x H1 => tb σ H1 fun y H2 => r x y H2 fun z H3 => ∃ k, z = .bl k ∧
  (if k = true then tc σ H3 fun w' H4 => r' y w' H4 Q else Q (.bl false) H3)
/-! ### truth -/
/-- a value's truth by the abstract heap -/
def TruV (K : PySem.W.Frag) (x : V) (H : Hp) (k : Bool) : Prop :=
  match x with
  | .non => k = false
  | .bl b => k = b
  | .int i => k = (i != 0)
  | .str y => y.length ≤ sizeLine ∧ k = ((y.length : Int) != 0)
  | .byt y => y.size ≤ sizeLine ∧ k = ((y.size : Int) != 0)
  | .ref p => (∃ xs, SqL K H p xs ∧ k = !xs.isEmpty) ∨ (∃ xs, SqT K H p xs ∧ k = !xs.isEmpty) ∨ ∃ kvs, H p = some (.dK kvs) ∧ k = !kvs.isEmpty
  | _ => False
theorem isEmpty_kv {κ : Type} {kvs : List (κ × V)} {vs : List (κ × Value)} (r : KV kvs vs) : (!vs.isEmpty) = !kvs.isEmpty := by
  cases r <;> rfl
theorem isEmpty_of {xs : List V} {its : List Value} (r : Vals xs its) : (!its.toArray.isEmpty) = !xs.isEmpty := by
  cases r <;> simp
theorem line63 : (sizeLine : Nat) < 2 ^ 63 := by rw [sizeLine_eq]; decide
theorem tru_ok : TruR X (fun x H Q => ∃ k, TruV X.K x H k ∧ Q k H) := by
  intro pins s σ H x v Q I rx h
  obtain ⟨k, e, q⟩ := h
  have hl := line63
  have hs : sizeLine = 16777216 := sizeLine_eq
  cases x with
  | non =>
    cases rx
    have e' : k = false := e
    subst e'
    exact truthy_none ⟨H, I, q⟩
  | bl b =>
    cases rx
    have e' : k = b := e
    subst e'
    exact wpAny_truthy_bool ⟨H, I, q⟩
  | int i =>
    obtain ⟨t, rfl⟩ := rx
    have e' : k = (i != 0) := e
    subst e'
    exact PySem.P.truthy_int ⟨H, I, q⟩
  | str y =>
    obtain ⟨t, rfl⟩ := rx
    obtain ⟨hy, e'⟩ : y.length ≤ sizeLine ∧ k = ((y.length : Int) != 0) := e
    subst e'
    exact PySem.P.truthy_str (by omega) ⟨H, I.tok _, q⟩
  | byt y =>
    obtain ⟨t, rfl⟩ := rx
    obtain ⟨hy, e'⟩ : y.size ≤ sizeLine ∧ k = ((y.size : Int) != 0) := e
    subst e'
    exact PySem.W.truthy_bytes (by omega) ⟨H, I.tok _, q⟩
  | ref p =>
    cases rx
    have e' : (∃ xs, SqL X.K H p xs ∧ k = !xs.isEmpty) ∨ (∃ xs, SqT X.K H p xs ∧ k = !xs.isEmpty) ∨ ∃ kvs, H p = some (.dK kvs) ∧ k = !kvs.isEmpty := e
    rcases e' with ⟨xs, hx, e'⟩ | ⟨xs, hx, e'⟩ | ⟨kvs, hx, e'⟩
    · subst e'
      obtain ⟨its, r, pl, hz⟩ := I.list hx
      have hlen := r.length
      exact wpAny_truthy_list pl.isList (by simp only [List.size_toArray]; omega) ⟨H, I.tok _, by rw [isEmpty_of r]; exact q⟩
    · subst e'
      obtain ⟨its, r, pl, hz⟩ := I.tuple hx
      have hlen := r.length
      exact truthy_tuple pl (by simp only [List.size_toArray]; omega) ⟨H, I.tok _, by rw [isEmpty_of r]; exact q⟩
    · subst e'
      obtain ⟨hz, hS, vs, r, m⟩ : kvs.length ≤ sizeLine ∧ (p == sysModules) = false ∧ ∃ vs, KV kvs vs ∧ s.heap.DictOf (mixKind X.prog X.w) p vs := I.hok p _ hx
      have hlen : kvs.length = vs.length := Paired.length r
      exact wpAny_truthy_dict hS m (by omega) ⟨H, I.tok _, by rw [isEmpty_kv r]; exact q⟩
  | _ => exact (show False from e).elim
/-- any expression whose test is its value's truth (a name, a call, a subscript, a field ..: he by fun _ => rfl) -/
theorem pt_truth (ha : PE X a ta) (he : ∀ whole, isTrue a X.env whole = (do let v ← whole; standAt a.pos; holding [v] (truthy v))) :
    PT X a (fun σ H Q => ta σ H fun x H' => ∃ k, TruV X.K x H' k ∧ Q k H') := by
  intro pins s σ H Q I h
  exact isTrue_plain (thn (ha pins s σ H _ I h) fun v s1 ⟨x, H1, I1, r1, q1⟩ => tru_ok pins s1 σ H1 x v Q I1 r1 q1) (he _)

/-! ### strs and bytes -/
theorem op_add_str : OpR X (binaryOp .Add) (fun x y H Q => ∃ i j, x = .str i ∧ y = .str j ∧ i.length + j.length ≤ sizeLine ∧ Q (.str (i ++ j)) H) := by
  intro pins s σ H x y v u Q I rx ry h
  obtain ⟨i, j, rfl, rfl, hz, q⟩ := h
  obtain ⟨t, rfl⟩ := rx
  obtain ⟨t', rfl⟩ := ry
  exact add_str (fun t' tk => ⟨.str (i ++ j), H, I.tok _, ⟨_, rfl⟩, q⟩) hz
def PlainIxT (b : Expr) : Prop := ∀ o i, subscripted b false o i = operate [o, i] (getItem o i)
/-! ### scalar builtins, by CallR -/
theorem vals1 {x : V} {us : List Value} (r : Vals [x] us) : ∃ u, us = [u] ∧ RelV x u := by
  cases r with
  | cons r1 r2 => cases r2; exact ⟨_, rfl, r1⟩
theorem vals2 {x y : V} {us : List Value} (r : Vals [x, y] us) : ∃ u w', us = [u, w'] ∧ RelV x u ∧ RelV y w' := by
  cases r with
  | cons r1 r2 =>
    cases r2 with
    | cons r3 r4 => cases r4; exact ⟨_, _, rfl, r1, r3⟩
theorem call_max2 (hc : X.calm = true) : CallR X (.builtin "max") (fun xs H Q => ∃ i j, xs = [.int i, .int j] ∧ Q (.int (if j > i then j else i)) H) := by
  intro pins s σ H xs us Q I r h
  obtain ⟨i, j, rfl, q⟩ := h
  obtain ⟨u, w', rfl, ⟨t, rfl⟩, ⟨t', rfl⟩⟩ := vals2 r
  refine max_two_ints (I.ok.hd hc) fun h' tk k => ⟨_, H, I.kept k, ?_, q⟩
  by_cases hj : j > i
  · rw [if_pos hj, if_pos hj]; exact ⟨_, rfl⟩
  · rw [if_neg hj, if_neg hj]; exact ⟨_, rfl⟩
theorem call_min2 (hc : X.calm = true) : CallR X (.builtin "min") (fun xs H Q => ∃ i j, xs = [.int i, .int j] ∧ Q (.int (if j < i then j else i)) H) := by
  intro pins s σ H xs us Q I r h
  obtain ⟨i, j, rfl, q⟩ := h
  obtain ⟨u, w', rfl, ⟨t, rfl⟩, ⟨t', rfl⟩⟩ := vals2 r
  refine min_two_ints (I.ok.hd hc) fun h' tk k => ⟨_, H, I.kept k, ?_, q⟩
  by_cases hj : j < i
  · rw [if_pos hj, if_pos hj]; exact ⟨_, rfl⟩
  · rw [if_neg hj, if_neg hj]; exact ⟨_, rfl⟩
theorem call_int1 : CallR X (.type "int") (fun xs H Q => (∃ i, xs = [.int i] ∧ Q (.int i) H) ∨ ∃ k, xs = [.bl k] ∧ Q (.int (if k then 1 else 0)) H) := by
  intro pins s σ H xs us Q I r h
  rcases h with ⟨i, rfl, q⟩ | ⟨k, rfl, q⟩
  · obtain ⟨u, rfl, t, rfl⟩ := vals1 r
    exact call_int_int ⟨.int i, H, I, ⟨_, rfl⟩, q⟩
  · obtain ⟨u, rfl, r1⟩ := vals1 r
    cases r1
    exact call_int_bool ⟨.int (if k then 1 else 0), H, I.tok _, ⟨_, rfl⟩, q⟩
theorem call_str_int : CallR X (.type "str") (fun xs H Q => ∃ i, xs = [.int i] ∧ i.natAbs.log2 < 1920 ∧ Q (.str (toString i)) H) := by
  intro pins s σ H xs us Q I r h
  obtain ⟨i, rfl, hz, q⟩ := h
  obtain ⟨u, rfl, t, rfl⟩ := vals1 r
  exact PySem.P.str_of_int hz ⟨.str _, H, I.tok _, ⟨_, rfl⟩, q⟩
/-- len of a str, a bytes, a list, a tuple -/
def LenV (K : PySem.W.Frag) (x : V) (H : Hp) (n : Nat) : Prop :=
  match x with
  | .str y => y.length ≤ sizeLine ∧ n = y.length
  | .byt y => y.size ≤ sizeLine ∧ n = y.size
  | .ref p => (∃ xs, SqL K H p xs ∧ n = xs.length) ∨ ∃ xs, SqT K H p xs ∧ n = xs.length
  | _ => False
end
end L2

namespace L2
open PySem PySem.Spec PyProof.Rows

/-! ### an instance, its attributes a map -/
structure ObjM (h : Heap) (x dx C : Addr) (mA : Str → Option Value) : Prop where
  obj : h.get? x = some (PySem.W.instObj C dx)
  ns : h.Ns1 dx mA
  ne : dx ≠ x

theorem lookIn_ns {h : Heap} {dx : Addr} {mA : Str → Option Value} (n : h.Ns1 dx mA) : ∃ od, h.get? dx = some od ∧ ∀ name, PySem.W.lookIn name od = some (mA name) := by
  obtain ⟨o, es, ep, ho, hd, hk, _, hm⟩ := n
  refine ⟨o, ho, fun name => ?_⟩
  have e := hm name
  unfold nsFind findBy at e
  rw [← Array.find?_toList] at e
  unfold PySem.W.lookIn
  rw [hd]
  dsimp only
  split
  · rename_i y q
    rw [q] at e
    exact congrArg some e
  · rename_i q
    rw [q] at e
    have a : es.toList.any (·.refKey) = false := by
      rw [List.any_eq_false]
      intro y hy
      obtain ⟨z, t, hkey⟩ := hk y (Array.mem_toList_iff.mp hy)
      simp [DictEntry.refKey, hkey]
    have a' : ¬ es.toList.any (·.refKey) = true := by rw [a]; exact Bool.false_ne_true
    rw [if_neg a']
    exact congrArg some e

theorem ObjM.look {h : Heap} {x dx C : Addr} {mA : Str → Option Value} (I : ObjM h x dx C mA) : ∃ od, PySem.W.InstAt h x (PySem.W.instObj C dx) C (some od) ∧ ∀ name, PySem.W.lookIn name od = some (mA name) :=
  let ⟨od, ho, hl⟩ := lookIn_ns I.ns
  ⟨od, ⟨I.obj, rfl, rfl, ho⟩, hl⟩

section
variable {prog : Program} {w : World} {A : Around} {E : Value → Shared → Prop} {s : Shared} {K : PySem.W.Frag} {x dx C f : Addr} {mA : Str → Option Value} {name : Str} {v : Value}

end

/-! ### the attributes as a list of pairs -/
def putF (f : Str) (v : V) : List (Str × V) → List (Str × V)
  | [] => [(f, v)]
  | (g, x) :: r => if g = f then (g, v) :: r else (g, x) :: putF f v r
theorem RelO.some_of {v : V} {o : Option Value} (r : RelO (some v) o) : ∃ u, o = some u ∧ RelV v u := by
  cases o with
  | none => exact (show False from r).elim
  | some u => exact ⟨u, rfl, r⟩
section
variable {P : Program} {w : World} {H H' : Hp} {h h' : Heap} {a C dx : Addr} {fs fs' : List (Str × V)}
theorem ins_get (hok : HOk P w H h) (e : H a = some (.ins C dx fs)) : ∃ mA, ObjM h a dx C mA ∧ (∀ f, RelO (fs.lookup f) (mA f)) ∧ PySem.Within mA (fs.map (·.1)) ∧ fs.length ≤ 1000 ∧ H dx = some (.own a) := by
  obtain ⟨d, z, ne, ob, mA, n, r, q⟩ := (show ObjOk P w H h a (.ins C dx fs) from hok a _ e)
  exact ⟨mA, ⟨ob, n, ne⟩, r, q, z, d⟩
end

/-! ### what of the text a class must have -/
structure Cls (K : PySem.W.Frag) (C : Addr) : Prop where
  pg : PySem.W.plainGet K C Str.empty = true
  hd : PySem.W.hasDictIn K C = true
  po : PySem.W.plainOver K C = true
  sa : PySem.W.findIn K (.ref C) "__setattr__" = some (some (.builtin "object.__setattr__"))
theorem Cls.get {K : PySem.W.Frag} {C : Addr} (c : Cls K C) (f : Str) : PySem.W.plainGet K C f = true := c.pg
/-- no class of it has the name -/
def NoAttr (K : PySem.W.Frag) (C : Addr) (f : Str) : Prop := PySem.W.findIn K (.ref C) f = some none
/-- a constant of the class -/
structure Con (K : PySem.W.Frag) (C : Addr) (f : Str) (v : V) (u : Value) : Prop where
  at_ : PySem.W.findIn K (.ref C) f = some (some u)
  rel : RelV v u
  get : PySem.W.specialIn K u "__get__" = some none
  cp : PySem.W.copiedNames.contains f = false
/-- a method: a plain def of the class or of one above it -/
structure Meth (K : PySem.W.Frag) (C : Addr) (m : Str) (f : Addr) : Prop where
  at_ : PySem.W.findIn K (.ref C) m = some (some (.ref f))
  fn : PySem.W.isFn K (.ref f) = true
  kp : PySem.W.keepIn K (.ref f) = true

section
variable {X : Cx} {pins : List (Addr × Obj)} {σ : St} {H : Hp} {s : Shared} {a C dx : Addr} {fs : List (Str × V)} {f : Str} {v : V} {A : Around} {E : Value → Shared → Prop}

end

/-! ### readings and rules -/
/-- e.f, an attribute of the instance -/
def tFld (K : PySem.W.Frag) (ta : TE) (f : Str) : TE := fun σ H Q => ta σ H fun x H1 => ∃ a C dx fs v, x = .ref a ∧ H1 a = some (.ins C dx fs) ∧ Cls K C ∧ NoAttr K C f ∧ fs.lookup f = some v ∧ Q v H1
/-- e.f, a constant of the class -/
def tCon (K : PySem.W.Frag) (ta : TE) (f : Str) : TE := fun σ H Q => ta σ H fun x H1 => ∃ a C dx fs v u, x = .ref a ∧ H1 a = some (.ins C dx fs) ∧ Cls K C ∧ Con K C f v u ∧ fs.lookup f = none ∧ Q v H1
/-- e.f = value -/
def sFld (K : PySem.W.Frag) (ta tv : TE) (f : Str) : TS := fun D σ H => tv σ H fun y H1 => ta σ H1 fun x H2 => ∃ a C dx fs, x = .ref a ∧ H2 a = some (.ins C dx fs) ∧ Cls K C ∧ NoAttr K C f ∧ fs.length < 1000 ∧
  D.nx σ (upd H2 a (.ins C dx (putF f y fs)))
/-- an augmented operator on two values -/
def InOp (X : Cx) (op : Operator) (rd : V → V → Hp → VK → Prop) : Prop :=
  ∀ (pins : List (Addr × Obj)) (s : Shared) (σ : St) (H : Hp) (x y : V) (u v : Value) (Q : VK), Inv X pins σ H s → RelV x u → RelV y v → rd x y H Q → wpAny (model X.prog X.w) X.A (inplaceOp op u v) (EP X pins σ Q) X.xe s
/-- e.f op= value -/
def sFldAug (K : PySem.W.Frag) (ta tv : TE) (rd : V → V → Hp → VK → Prop) (f : Str) : TS := fun D σ H => ta σ H fun x H1 => ∃ a C dx fs v, x = .ref a ∧ H1 a = some (.ins C dx fs) ∧ Cls K C ∧ NoAttr K C f ∧ fs.lookup f = some v ∧
  tv σ H1 fun y H2 => rd v y H2 fun z H3 => ∃ dx' fs', H3 a = some (.ins C dx' fs') ∧ fs'.length < 1000 ∧ D.nx σ (upd H3 a (.ins C dx' (putF f z fs')))

section
variable {X : Cx} {o e value : Expr} {f : Str} {pos pos' tpos : Pos} {ta tv : TE}
def rAdd : V → V → Hp → VK → Prop := fun x y H Q => ∃ i j, x = .int i ∧ y = .int j ∧ Q (.int (i + j)) H
def rSub : V → V → Hp → VK → Prop := fun x y H Q => ∃ i j, x = .int i ∧ y = .int j ∧ Q (.int (i - j)) H
end

/-! ### isinstance -/
section
variable {X : Cx} {pins : List (Addr × Obj)} {σ : St} {H : Hp} {s : Shared} {A : Around} {E : Value → Shared → Prop} {Q : Value → Shared → Prop} {c : Value} {b : Bool}
/-- the type of a value, as the fragment's deciders take it; for an instance its class -/
inductive TyOf (K : PySem.W.Frag) (H : Hp) : V → Value → Prop where
  | non : TyOf K H .non (.type "NoneType")
  | bl (x : Bool) : TyOf K H (.bl x) (.type "bool")
  | int (i : Int) : TyOf K H (.int i) (.type "int")
  | str (x : Str) : TyOf K H (.str x) (.type "str")
  | flt (x : UInt64) : TyOf K H (.flt x) (.type "float")
  | lst {a : Addr} {xs : List V} (e : H a = some (.lst xs)) : TyOf K H (.ref a) (.type "list")
  | frz {a : Addr} {o : Obj} {xs : List V} (e : H a = some (.frz o (.lst xs))) : TyOf K H (.ref a) (.type "list")
  | tup {a : Addr} {xs : List V} (e : H a = some (.tup xs)) : TyOf K H (.ref a) (.type "tuple")
  | dK {a : Addr} {kvs : List (Key × V)} (e : H a = some (.dK kvs)) : TyOf K H (.ref a) (.type "dict")
  | dT {a : Addr} {kvs : List (List Key × V)} (e : H a = some (.dT kvs)) : TyOf K H (.ref a) (.type "dict")
  | ins {a C dx : Addr} {fs : List (Str × V)} (e : H a = some (.ins C dx fs)) (cl : Cls K C) (ha : PySem.W.findIn K (.ref C) "__class__" = some (some (.builtin "object.__class__")))
      (hn : PySem.W.specialIn K (.builtin "object.__class__") "__get__" = some (some (.builtin "getset_descriptor.__get__"))) (htk : PySem.W.takesIn K (.builtin "object.__class__") = some true)
      (hm : PySem.W.mroIn K C (.type "object") = some true) : TyOf K H (.ref a) (.ref C)
/-- isinstance(x, c) for one class c, a built-in or an own one: kitOne's answer -/
theorem isinst_ok {x : V} {u t : Value} (I : Inv X pins σ H s) (rx : RelV x u) (ty : TyOf X.K H x t) (e : PySem.W.kitOne X.K t c = some b) (h : ∀ tk, Q (.bool b) { s with toks := tk }) :
    wpAny (model X.prog X.w) A (call (.builtin "isinstance") [u, c]) Q E s := by
  cases ty with
  | non => cases (show u = Value.none from rx); exact PySem.W.kia_one PySem.W.kitx_none I.kIn True.intro e (fun z => nomatch z) h
  | bl y => cases (show u = Value.bool y from rx); exact PySem.W.kia_one PySem.W.kitx_bool I.kIn True.intro e (fun z => nomatch z) h
  | int i => obtain ⟨t, q⟩ := (show ∃ t, u = Value.int i t from rx); cases q; exact PySem.W.kia_one PySem.W.kitx_int I.kIn True.intro e (fun z => nomatch z) h
  | str y => obtain ⟨t, q⟩ := (show ∃ t, u = Value.str y t from rx); cases q; exact PySem.W.kia_one PySem.W.kitx_str I.kIn True.intro e (fun z => nomatch z) h
  | flt y => obtain ⟨t, q⟩ := (show ∃ t, u = Value.float y t from rx); cases q; exact PySem.W.kia_one PySem.W.kitx_float I.kIn True.intro e (fun z => nomatch z) h
  | @lst a xs ea =>
    cases (show u = Value.ref a from rx)
    obtain ⟨_, _, n, _, h1⟩ := (show ObjOk X.prog X.w H s.heap a (.lst xs) from I.hok a _ ea)
    exact PySem.W.kia_one PySem.W.kitx_list I.kIn ⟨_, h1, rfl⟩ e (fun z => nomatch z) h
  | @frz a ob xs ea =>
    cases (show u = Value.ref a from rx)
    obtain ⟨_, _, _, n, _, h1⟩ := (show ObjOk X.prog X.w H s.heap a (.frz ob (.lst xs)) from I.hok a _ ea)
    exact PySem.W.kia_one PySem.W.kitx_list I.kIn ⟨_, h1, rfl⟩ e (fun z => nomatch z) h
  | @tup a xs ea =>
    cases (show u = Value.ref a from rx)
    obtain ⟨_, _, _, p⟩ := (show ObjOk X.prog X.w H s.heap a (.tup xs) from I.hok a _ ea)
    obtain ⟨o, h1, h2, _⟩ := p
    exact PySem.W.kia_one PySem.W.kitx_tuple I.kIn ⟨o, h1, h2⟩ e (fun z => nomatch z) h
  | @dK a kvs ea =>
    cases (show u = Value.ref a from rx)
    obtain ⟨_, _, vs, _, p⟩ := (show ObjOk X.prog X.w H s.heap a (.dK kvs) from I.hok a _ ea)
    obtain ⟨o, es, ep, h1, h2, _⟩ := p
    exact PySem.W.kia_one PySem.W.kitx_dict I.kIn ⟨o, h1, h2.1⟩ e (fun z => nomatch z) h
  | @dT a kvs ea =>
    cases (show u = Value.ref a from rx)
    obtain ⟨_, _, xs, _, o, es, ep, h1, h2, _⟩ := (show ObjOk X.prog X.w H s.heap a (.dT kvs) from I.hok a _ ea)
    exact PySem.W.kia_one PySem.W.kitx_dict I.kIn ⟨o, h1, h2.1⟩ e (fun z => nomatch z) h
  | @ins a C dx fs ea cl ha hn htk hm =>
    cases (show u = Value.ref a from rx)
    obtain ⟨mA, O, _⟩ := ins_get I.hok ea
    obtain ⟨od, J, _⟩ := O.look
    exact PySem.W.kia_one (PySem.W.kitx_own (cl.get _) cl.hd ha hn htk hm) I.kIn J e (fun z => nomatch z) h
end
end L2

namespace L2
open PySem PySem.Spec PyProof.Rows

/-! ### room -/
structure Room (k : Nat) (A : Around) : Prop where
  hd : A.handled = none
  dp : A.depth + 3 * k + 5 < recursionLimit
  un : A.units + 16 * k + 200 < cLine
theorem Room.mono {j k : Nat} {A : Around} (r : Room k A) (h : j ≤ k) : Room j A := ⟨r.hd, by have := r.dp; omega, by have := r.un; omega⟩
theorem Room.deeper {k : Nat} {A : Around} (r : Room (k + 1) A) (env : Env) : Room k (A.deeper env) :=
  ⟨r.hd, by have := r.dp; show A.depth + 1 + 3 * k + 5 < _; omega, by have := r.un; show A.units + 3 + 16 * k + 200 < _; omega⟩
theorem Room.depth {k : Nat} {A : Around} (r : Room k A) : A.depth < recursionLimit := by have := r.dp; omega
theorem Room.units {k : Nat} {A : Around} (r : Room k A) : A.units + 64 < cLine := by have := r.un; omega
theorem Room.units0 {k : Nat} {A : Around} (r : Room k A) : A.units < cLine := by have := r.un; omega

/-! ### argument lists and displays -/
def tNil : TA := fun _ H Q => Q [] H
def tCons (ta : TE) (tr : TA) : TA := fun σ H Q => ta σ H fun x H1 => tr σ H1 fun xs H2 => Q (x :: xs) H2
section
variable {X : Cx} {e : Expr} {es : List Expr} {te : TE} {t : TA} {pos : Pos}
theorem pa_nil : PA X [] tNil := fun _ _ _ _ H Q I h => Calls.spliced_nil ⟨[], H, I, .nil, h⟩
theorem pa_cons (ha : PE X e te) (hr : PA X es t) (hs : starEach (e :: es) X.env = (false, eval e X.env) :: starEach es X.env := by rfl) : PA X (e :: es) (tCons te t) := by
  intro pos pins s σ H Q I h
  rw [hs]
  show wpAny _ _ (spliced ((false, eval e X.env) :: backTo pos (starEach es X.env))) _ _ s
  refine Calls.spliced_cons (thn (ha pins s σ H _ I h) fun u s1 ⟨x, H1, I1, r1, q1⟩ => ?_)
  exact thn (hr pos pins s1 σ H1 _ I1 q1) fun us s2 ⟨xs, H2, I2, r2, q2⟩ => ⟨x :: xs, H2, I2, .cons r1 r2, q2⟩

/-- a tuple, a list of written items -/
def tTup (t : TA) : TE := fun σ H Q => t σ H fun xs H1 => xs.length ≤ sizeLine ∧ ∀ p, H1 p = none → Q (.ref p) (upd H1 p (.tup xs))
def tLst (t : TA) : TE := fun σ H Q => t σ H fun xs H1 => xs.length ≤ sizeLine ∧ ∀ p, H1 p = none → Q (.ref p) (upd H1 p (.lst xs))
theorem pe_tup {x1} (h : PA X es t) : PE X (.Tuple es x1 pos) (tTup t) := by
  intro pins s σ H Q I hq
  refine wpAny_Tuple_spliced (thn (h pos pins s σ H _ I hq) fun us s1 ⟨xs, H1, I1, r, z, q⟩ => ⟨by rw [← r.length]; exact z, ?_⟩)
  have hf : H1 s1.heap.objs.size = none := I1.hok.fresh (Nat.le_refl _)
  refine ⟨.ref s1.heap.objs.size, upd H1 s1.heap.objs.size (.tup xs), I1.laid (t' := s1.toks) (fun b u e => Heap.get?_push_of_some _ e) (Nat.le_refl _) ?_, rfl, q _ hf⟩
  exact ⟨z, us, r, ⟨_, Heap.get?_push_size _ rfl, rfl, _, rfl⟩⟩
theorem pe_lst (h : PA X es t) : PE X (.List es pos) (tLst t) := by
  intro pins s σ H Q I hq
  refine wpAny_List_spliced (thn (h pos pins s σ H _ I hq) fun us s1 ⟨xs, H1, I1, r, z, q⟩ => ⟨by rw [← r.length]; exact z, ?_⟩)
  have hf : H1 s1.heap.objs.size = none := I1.hok.fresh (Nat.le_refl _)
  refine ⟨.ref s1.heap.objs.size, upd H1 s1.heap.objs.size (.lst xs), I1.laid (t' := s1.toks) (fun b u e => Heap.get?_push_of_some _ e) (Nat.le_refl _) ?_, rfl, q _ hf⟩
  exact ⟨z, us, 0, r, Heap.get?_push_size _ rfl⟩
end

/-! ### what a def promises -/
/-- a def's promise: the bound arguments in the parameters' order, the heap, the wanted end, the wanted exception -/
abbrev Sp := List V → Hp → VK → XK → Prop
/-- how an exception lies behind a call (file 08 gives it): the callers' frames, abstract heap and state ahead of the call, the wish, the exception, the state -/
abbrev CXT := List Env → Hp → Shared → XK → Value → Shared → Prop

/-- the state at a call -/
structure Env0 (P : Program) (w : World) (K : PySem.W.Frag) (mg : Str → Option Value) (base : Heap) (A : Around) (outer : List Env) (s : Shared) (H : Hp) : Prop where
  frames : A.frames = some outer
  mod : Mod K mg base
  bs : ∀ b o, base.get? b = some o → s.heap.get? b = some o ∧ H b = none
  bsz : base.objs.size ≤ s.heap.objs.size
  funs : s.heap.FunFrames base outer
  frf : ∀ b ∈ frs outer, H b = none
  hok : HOk P w H s.heap
  bare : AllBare s.gens
/-- a call's end -/
def CE (outer : List Env) (P : Program) (w : World) (H : Hp) (s : Shared) (Q : VK) (u : Value) (s' : Shared) : Prop :=
  ∃ v H', s'.os = s.os ∧ AllBare s'.gens ∧ Un (frs outer) [] H H' s.heap s'.heap ∧ HOk P w H' s'.heap ∧ RelV v u ∧ Q v H'
def CR (CX : CXT) (outer : List Env) (P : Program) (w : World) (H : Hp) (s : Shared) (Q : VK) (E : XK) (r : Result) (s' : Shared) : Prop :=
  match r with
  | .ok (.ret u) => CE outer P w H s Q u s'
  | .ok _ => False
  | .error e => CX outer H s E e s'
structure FnOk (P : Program) (w : World) (K : PySem.W.Frag) (mg : Str → Option Value) (base : Heap) (CX : CXT) (k : Nat) (f : Addr) (fd : FuncData) (ps : List Str) (sp : Sp) : Prop where
  len : ∀ vs H Q E, sp vs H Q E → vs.length = ps.length
  run : ∀ (A : Around) (outer : List Env) (s : Shared) (H : Hp) (args : Args) (us : List Value) (vs : List V) (Q : VK) (E : XK), Room k A → Env0 P w K mg base A outer s H → BindsTo s fd args (ps.zip us) → Vals vs us → sp vs H Q E →
    codeAny (model P w) A (.call (.ref f) args) (CR CX outer P w H s Q E) s
theorem FnOk.mono {P : Program} {w : World} {K : PySem.W.Frag} {mg : Str → Option Value} {base : Heap} {CX : CXT} {j k : Nat} {f : Addr} {fd : FuncData} {ps : List Str} {sp : Sp} (F : FnOk P w K mg base CX j f fd ps sp) (h : j ≤ k) :
    FnOk P w K mg base CX k f fd ps sp := ⟨F.len, fun A outer s H args us vs Q E hr => F.run A outer s H args us vs Q E (hr.mono h)⟩
section
variable {X : Cx} {pins : List (Addr × Obj)} {σ : St} {H : Hp} {s s' : Shared}
/-- from a body: what a callee wants -/
theorem Inv.env0 (I : Inv X pins σ H s) : Env0 X.prog X.w X.K X.mg X.base X.A X.stack s H :=
  ⟨I.ok.frames, I.ok.mod, I.bs, Nat.le_trans I.ok.bsz I.sz, I.stack, I.stkFree, I.hok, I.bare⟩
/-- behind a call -/
theorem Inv.after {Q : VK} {u : Value} (I : Inv X pins σ H s) (h : CE X.stack X.prog X.w H s Q u s') : EP X pins σ Q u s' := by
  obtain ⟨v, H', os, bare, un, hok, r, q⟩ := h
  obtain ⟨hh, g, d, t, os'⟩ := s'
  obtain rfl : os' = s.os := os
  exact ⟨v, H', I.call (h' := hh) (g' := g) (d' := d) (t' := t) (ch := []) un hok bare (fun b z => absurd z (by simp)), r, q⟩
end

/-! ### calls -/
/-- f(..): the written arguments, then the defaults dvs; E: what is wanted of an exception -/
def tCall (sp : Sp) (dvs : List V) (E : XK) (t : TA) : TE := fun σ H Q => t σ H fun vs H1 => sp (vs ++ dvs) H1 Q E
/-- o.m(..) of an instance of the class at C -/
def tMeth (C : Addr) (m : Str) (sp : Sp) (dvs : List V) (E : XK) (ta : TE) (t : TA) : TE := fun σ H Q => ta σ H fun x H1 => ∃ a dx fs, x = .ref a ∧ H1 a = some (.ins C dx fs) ∧ fs.lookup m = none ∧
  t σ H1 fun vs H2 => sp (x :: (vs ++ dvs)) H2 Q E
/-- C(..): a new instance and its dict, then __init__ -/
def tMake (C : Addr) (sp : Sp) (dvs : List V) (E : XK) (t : TA) : TE := fun σ H Q => t σ H fun vs H1 => ∀ x dx, H1 x = none → H1 dx = none → dx ≠ x →
  sp (.ref x :: (vs ++ dvs)) (upd (upd H1 dx (.own x)) x (.ins C dx [])) (fun v H2 => v = .non ∧ Q (.ref x) H2) E

/-- how the parameters are bound: us the positional arguments, kw the keywords' values by name, ds the defaults that fill up -/
def Binds (K : PySem.W.Frag) (fd : FuncData) (ps : List Str) (ds : List Value) : Prop :=
  ∀ (s : Shared) (us : List Value), K.In s.heap → (us ++ ds).length = ps.length → BindsTo s fd ⟨us, []⟩ (ps.zip (us ++ ds))
/-- every parameter is given -/
theorem Binds.all {K : PySem.W.Frag} {fd : FuncData} {ps : List Str} (h : ∀ us : List Value, us.length = ps.length → bindArgs fd ⟨us, []⟩ = pure (ps.zip us)) : Binds K fd ps [] := fun s us _ hl => by
  rw [List.append_nil] at hl ⊢
  exact .of_eq (h us hl)

/-- an exception of a callee reaches what this body wants of exceptions -/
def Passes (CX : CXT) (X : Cx) (E : XK) : Prop := ∀ (pins : List (Addr × Obj)) (σ : St) (H : Hp) (s : Shared) (e : Value) (s' : Shared), Inv X pins σ H s → CX X.stack H s E e s' → X.xe e s'

section
variable {X : Cx} {CX : CXT} {k : Nat} {f C : Addr} {fd : FuncData} {ps : List Str} {sp : Sp} {dvs : List V} {ds : List Value} {E : XK} {x m : Str} {p pos apos : Pos} {e o : Expr} {es : List Expr} {ta : TE} {t : TA}

/-- the callee runs -/
theorem run_fn {pins : List (Addr × Obj)} {σ : St} {H : Hp} {s : Shared} {Q : VK} {us : List Value} {vs : List V} (F : FnOk X.prog X.w X.K X.mg X.base CX k f fd ps sp) (hr : Room k X.A) (hb : Binds X.K fd ps ds) (hd : Vals dvs ds) (hx : Passes CX X E)
    (I : Inv X pins σ H s) (r : Vals vs us) (h : sp (vs ++ dvs) H Q E) : wpAny (model X.prog X.w) X.A (call (.ref f) us) (EP X pins σ Q) X.xe s := by
  have r2 : Vals (vs ++ dvs) (us ++ ds) := r.append hd
  have hl : (us ++ ds).length = ps.length := by rw [← r2.length]; exact F.len _ _ _ _ h
  refine wpAny_call (codeAny_mono (F.run X.A X.stack s H ⟨us, []⟩ (us ++ ds) (vs ++ dvs) Q E hr I.env0 (hb s us I.kIn hl) r2 h) fun r s' hq => ?_)
  cases r with
  | error e => exact hx pins σ H s e s' I hq
  | ok fl =>
    cases fl with
    | ret u => exact I.after hq
    | next => exact False.elim hq
    | brk => exact False.elim hq
    | cont => exact False.elim hq

theorem pe_call (F : FnOk X.prog X.w X.K X.mg X.base CX k f fd ps sp) (hr : Room k X.A) (hg : Gl X x) (hm : X.mg x = some (.ref f)) (hk : PySem.W.keepIn X.K (.ref f) = true) (hb : Binds X.K fd ps ds) (hd : Vals dvs ds) (hx : Passes CX X E)
    (ha : PA X (e :: es) t) (hdb : (x == ("__debug__" : Str)) = false := by decide) (he : starEach (e :: es) X.env = (false, eval e X.env) :: starEach es X.env := by rfl) (hpl : (backTo pos (starEach es X.env)).any (·.1) = false := by rfl) :
    PE X (.Call (.Name x p) (e :: es) [] pos) (tCall sp dvs E t) := by
  intro pins s σ H Q I h
  refine wpAny_Call_Name_kw (ld_glob I hg hm ?_ hdb)
  refine PySem.W.callWith_K (h₀ := X.base) I.ok.mod.kin hk (thn (ha pos pins s σ H _ I h) fun us s1 ⟨vs, H1, I1, r, q⟩ => ⟨I1.kIn, ?_⟩) he hpl
  exact run_fn F hr hb hd hx I1 r q
/-- what a class must have to be made -/
structure Mk (K : PySem.W.Frag) (C f : Addr) : Prop where
  makes : PySem.W.makesIn K C = true
  init : PySem.W.findIn K (.ref C) "__init__" = some (some (.ref f))
  fn : PySem.W.isFn K (.ref f) = true
  kp : PySem.W.keepIn K (.ref C) = true

end

/-! ### keywords -/
/-- the values of the keywords, from the left -/
def PK (X : Cx) (kws : List Keyword) (t : TA) : Prop :=
  ∀ (pos : Pos) (pins : List (Addr × Obj)) (s : Shared) (σ : St) (H : Hp) (Q : List V → Hp → Prop), Inv X pins σ H s → t σ H Q → wpAny (model X.prog X.w) X.A (evalAll ((backToKw pos (keywordEach kws X.env)).map (·.2))) (AP X pins σ Q) X.xe s
section
variable {X : Cx} {CX : CXT} {k : Nat} {f C : Addr} {fd : FuncData} {ps ks : List Str} {sp : Sp} {E : XK} {x m : Str} {p pos apos kpos : Pos} {e o : Expr} {es : List Expr} {kws : List Keyword} {te ta : TE} {t tk : TA} {nm : Option Str}
/-- how a call with keywords binds: g puts the positional values us and the keywords' values ws (names ks) in the parameters' order, defaults among them -/
structure KBinds (K : PySem.W.Frag) (fd : FuncData) (ps ks : List Str) (g : List Value → List Value → List Value) (gV : List V → List V → List V) : Prop where
  to : ∀ (s : Shared) (us ws : List Value), K.In s.heap → (g us ws).length = ps.length → BindsTo s fd ⟨us, ks.zip ws⟩ (ps.zip (g us ws))
  rel : ∀ {vs : List V} {us : List Value} {zs : List V} {ws : List Value}, Vals vs us → Vals zs ws → Vals (gV vs zs) (g us ws)
def tCallK (sp : Sp) (gV : List V → List V → List V) (E : XK) (t tk : TA) : TE := fun σ H Q => t σ H fun vs H1 => tk σ H1 fun zs H2 => sp (gV vs zs) H2 Q E
variable {g : List Value → List Value → List Value} {gV : List V → List V → List V}
end

/-! ### a def's body keeps its promise -/
/-- names: the parameters first -/
structure FnScope (N P : List Str) (sc : Scope) : Prop where
  kind : sc.kind = .function
  co : sc.isCoroutine = false
  gen : sc.isGenerator = false
  nd : N.Nodup
  pre : N.take P.length = P
  par : ∀ x ∈ P, sc.names.lookup x = some .local ∨ sc.names.lookup x = some .cell
  nofree : ∀ y ∈ sc.names, y.2 ≠ .free

theorem bindL_out {kindOf : Str → Option NameKind} {x : Str} : ∀ {binds : List (Str × Value)} {m : Str → Option Value}, (∀ v, (x, v) ∉ binds) → bindL kindOf binds m x = m x
  | [], _, _ => rfl
  | (n, v) :: r, m, h => by
    unfold bindL
    rw [bindL_out fun w hw => h w (List.mem_cons_of_mem _ hw)]
    split
    · have : x ≠ n := by rintro rfl; exact h v List.mem_cons_self
      simp [this]
    · rfl
theorem bindC_out {kindOf : Str → Option NameKind} {x : Str} : ∀ {binds : List (Str × Value)} {m : Str → Option Value}, (∀ v, (x, v) ∉ binds) → bindC kindOf binds m x = m x
  | [], _, _ => rfl
  | (n, v) :: r, m, h => by
    unfold bindC
    rw [bindC_out fun w hw => h w (List.mem_cons_of_mem _ hw)]
    split
    · rfl
    · have : x ≠ n := by rintro rfl; exact h v List.mem_cons_self
      simp [this]
theorem bindL_get {kindOf : Str → Option NameKind} {x : Str} {v : Value} : ∀ {P : List Str} {vs : List Value} {i : Nat} {m : Str → Option Value}, P.Nodup → P[i]? = some x → vs[i]? = some v → kindOf x = some .local →
    bindL kindOf (P.zip vs) m x = some v
  | [], _, _, _, _, h, _, _ => by simp at h
  | _ :: _, [], _, _, _, _, h, _ => by simp at h
  | p :: P, w :: vs, 0, m, nd, h1, h2, hk => by
    simp at h1 h2; subst h1; subst h2
    show bindL kindOf ((p, w) :: P.zip vs) m p = _
    unfold bindL
    rw [bindL_out fun v hv => (List.nodup_cons.mp nd).1 (List.of_mem_zip hv).1, if_pos hk]
    simp
  | p :: P, w :: vs, i + 1, m, nd, h1, h2, hk => by
    show bindL kindOf ((p, w) :: P.zip vs) m x = _
    unfold bindL
    exact bindL_get (i := i) (List.nodup_cons.mp nd).2 (by simpa using h1) (by simpa using h2) hk
theorem bindC_get {kindOf : Str → Option NameKind} {x : Str} {v : Value} : ∀ {P : List Str} {vs : List Value} {i : Nat} {m : Str → Option Value}, P.Nodup → P[i]? = some x → vs[i]? = some v → kindOf x ≠ some .local →
    bindC kindOf (P.zip vs) m x = some v
  | [], _, _, _, _, h, _, _ => by simp at h
  | _ :: _, [], _, _, _, _, h, _ => by simp at h
  | p :: P, w :: vs, 0, m, nd, h1, h2, hk => by
    simp at h1 h2; subst h1; subst h2
    show bindC kindOf ((p, w) :: P.zip vs) m p = _
    unfold bindC
    rw [bindC_out fun v hv => (List.nodup_cons.mp nd).1 (List.of_mem_zip hv).1, if_neg hk]
    simp
  | p :: P, w :: vs, i + 1, m, nd, h1, h2, hk => by
    show bindC kindOf ((p, w) :: P.zip vs) m x = _
    unfold bindC
    exact bindC_get (i := i) (List.nodup_cons.mp nd).2 (by simpa using h1) (by simpa using h2) hk

/-- the names' values at the entry -/
def start (N : List Str) (vs : List V) : St := vs.map some ++ List.replicate (N.length - vs.length) none

/-- the context of a def's body, at its entry; an exception leaves the frame, then lies as CX says -/
def cxOf (CX : CXT) (P : Program) (w : World) (K : PySem.W.Frag) (mg : Str → Option Value) (base : Heap) (N : List Str) (qual : Str) (scope : Scope) (f : Addr) (cd : Value) (A : Around) (outer : List Env) (s : Shared) (H : Hp) (E : XK) : Cx where
  prog := P
  w := w
  K := K
  mg := mg
  base := base
  A := A.deeper (envOfC qual scope s.heap.objs.size f cd)
  N := N
  s₀ := s
  H₀ := H
  env := envOfC qual scope s.heap.objs.size f cd
  outer := outer
  stack := envOfC qual scope s.heap.objs.size f cd :: outer
  ex := []
  calm := true
  fn := fun _ => true
  pn := []
  xe := fun e s' => wpAny (model P w) (A.deeper (envOfC qual scope s.heap.objs.size f cd)) (leaving (envOfC qual scope s.heap.objs.size f cd) e) (fun _ s'' => CX outer H s E e s'') (fun e' s'' => CX outer H s E e' s'') s'

theorem cell_has {sc : Scope} {n : Nat} {x : Str} (h : sc.names.lookup x = some .cell) : ∃ c, (cellsFrom n sc.names []).lookup x = some c := by
  have q := PySem.W.cellsFrom_some sc.names n [] (.inl h)
  exact Option.isSome_iff_exists.mp q

theorem inv_start {CX : CXT} {P : Program} {w : World} {K : PySem.W.Frag} {mg : Str → Option Value} {base : Heap} {N ps : List Str} {qual : Str} {scope : Scope} {f : Addr} {cd : Value} {A : Around} {outer : List Env} {s s1 : Shared} {H : Hp} {E : XK} {us : List Value} {vs : List V}
    (S : FnScope N ps scope) (hd : A.handled = none) (e0 : Env0 P w K mg base A outer s H) (hl : vs.length = ps.length) (r : Vals vs us)
    (x : InCallC s s.heap.objs.size (bindL (envOfC qual scope s.heap.objs.size f cd).kindOf (ps.zip us) fun _ => none) (cellsFrom (s.heap.objs.size + 1) scope.names []) (bindC (envOfC qual scope s.heap.objs.size f cd).kindOf (ps.zip us) fun _ => none) s1) :
    Inv (cxOf CX P w K mg base N qual scope f cd A outer s H E) [] (start N vs) H s1 := by
  have hpl : ps.length ≤ N.length := by have := congrArg List.length S.pre; rw [List.length_take] at this; omega
  obtain ⟨h1, tk, rfl, hk⟩ := x.done
  have noA : ∀ b : Addr, b ∉ (cxOf CX P w K mg base N qual scope f cd A outer s H E).ex := fun b z => absurd (show b ∈ ([] : List Addr) from z) (by simp)
  refine ⟨⟨e0.mod, S.kind, rfl, rfl, Nat.le_refl _, fun y z c h1 h2 => ?_, fun y hy => ?_, fun y c _ h => ?_, fun _ => hd, Around.frames_deeper e0.frames, .inr ⟨rfl, rfl⟩, fun b z => absurd z (noA b), e0.bs, e0.bsz, fun b _ _ => noA b, fun b z => absurd z (noA b), e0.funs, e0.frf⟩,
    rfl, e0.bare, Un.kept hk, ⟨_, x.toInCall.ns, fun i y v h1 h2 h3 => ?_⟩, fun y c h => ⟨_, x.cell y c h⟩, e0.hok.fresh (Nat.le_refl _), fun y c h => ?_, fun p hp => absurd (show p ∈ ([] : List (Addr × Obj)) from hp) (by simp), e0.hok.kept hk, ?_⟩
  · exact name_of_addr x.apart (PySem.mem_of_lookup h1) (PySem.mem_of_lookup h2)
  · have hy : scope.names.lookup y = some .cell ∨ scope.names.lookup y = some .free := hy
    rcases hy with hy | hy
    · exact cell_has hy
    · exact absurd rfl (S.nofree _ (PySem.mem_of_lookup hy))
  · exact Nat.le_of_lt (x.above y c (PySem.mem_of_lookup h))
  · have hi : i < vs.length := by
      unfold start at h2
      by_cases hi : i < vs.length
      · exact hi
      · rw [List.getElem?_append_right (by simpa using hi)] at h2
        rw [List.getElem?_replicate] at h2
        split at h2 <;> cases h2
    have ha : vs[i]? = some v := by
      unfold start at h2
      rw [List.getElem?_append_left (by simpa using hi), List.getElem?_map] at h2
      cases e : vs[i]? with
      | none => rw [e] at h2; cases h2
      | some a => rw [e] at h2; cases h2; rfl
    obtain ⟨u, hu, rv⟩ := r.get ha
    have hp : ps[i]? = some y := by
      rw [← S.pre, List.getElem?_take_of_lt (by omega)]; exact h1
    have ndP : ps.Nodup := by rw [← S.pre]; exact S.nd.sublist (List.take_sublist _ _)
    refine ⟨u, rv, ?_⟩
    rcases S.par y (List.mem_of_getElem? hp) with k | k
    · exact .inl ⟨k, bindL_get ndP hp hu k⟩
    · obtain ⟨c, e⟩ := cell_has (n := s.heap.objs.size + 1) k
      refine .inr ⟨.inl k, c, e, ?_⟩
      have q := x.cell y c e
      rw [bindC_get ndP hp hu (by show scope.names.lookup y ≠ _; rw [k]; decide)] at q
      exact q
  · exact e0.hok.fresh (Nat.le_of_lt (x.above y c (PySem.mem_of_lookup h)))
  · unfold start
    show _ = N.length
    rw [List.length_append, List.length_map, List.length_replicate]
    omega

/-- THE RULE: a def (or a method) of the text, by its body. The body's reading t is chosen for each entry; it is run at the parameters' values -/
theorem fn_of {CX : CXT} {P : Program} {w : World} {K : PySem.W.Frag} {mg : Str → Option Value} {base : Heap} {k : Nat} {f : Addr} {name qual : Str} {params : Arguments} {body : List Stmt} {scope : Scope} {dV kV doc pm cdv ct oc : Value} {an od : Option Addr}
    {osl : Array (Option Value)} {N ps : List Str} {sp : Sp} (lk : K.lookup f = some ⟨oc, od, .func (PySem.W.fnOf name qual params body scope dV kV doc pm an cdv ct), osl⟩) (hcd : PySem.W.codeIn K cdv qual = true) (S : FnScope N ps scope)
    (len : ∀ vs H Q E, sp vs H Q E → vs.length = ps.length)
    (hbody : ∀ (A : Around) (outer : List Env) (s : Shared) (H : Hp) (vs : List V) (Q : VK) (E : XK), Room k (A.deeper (envOfC qual scope s.heap.objs.size f cdv)) → sp vs H Q E →
      ∃ t, PSs (cxOf CX P w K mg base N qual scope f cdv A outer s H E) body t ∧ t { nx := fun _ H' => Q .non H', rt := Q } (start N vs) H) :
    FnOk P w K mg base CX (k + 1) f (PySem.W.fnOf name qual params body scope dV kV doc pm an cdv ct) ps sp := by
  refine ⟨len, fun A outer s H args us vs Q E hr e0 hb r hsp => ?_⟩
  have hl := len _ _ _ _ hsp
  have KX : K.In s.heap := e0.mod.kin.keeps fun b o e => (e0.bs b o e).1
  have lim : s.heap.NoLimit := e0.mod.nolimit.keeps fun b o e => (e0.bs b o e).1
  have hkind : ∀ y ∈ ps.zip us, scope.names.lookup y.1 = some .local ∨ (scope.names.lookup y.1 = some .cell ∧ ((cellsFrom (s.heap.objs.size + 1) scope.names []).lookup y.1).isSome = true) := fun ⟨n, v⟩ hy => by
    rcases S.par n (List.of_mem_zip hy).1 with q | q
    · exact .inl q
    · exact .inr ⟨q, PySem.W.cellsFrom_some _ _ _ (.inl q)⟩
  refine codeAny_call_function hr.depth (KX _ _ lk) rfl S.co S.gen rfl (PySem.W.codeRec_of KX hcd) (hb _ _ _ _ ?_)
  refine wpAny_newFunctionEnv_cells S.kind hkind fun env he s1 x => ?_
  subst he
  refine ⟨lim.keeps x.toInCall.keep, codeAny_func ?_⟩
  obtain ⟨t, ht, hq⟩ := hbody A outer s H vs Q E (hr.deeper _) hsp
  have I : Inv (cxOf CX P w K mg base N qual scope f cdv A outer s H E) [] (start N vs) H s1 := inv_start S hr.hd e0 hl r x
  refine wpAny_mono (ht [] s1 (start N vs) H _ I hq) (fun fl s' hs => ?_) fun e s' hs => hs
  have fin : ∀ {σ' : St} {H' : Hp} {v : V} {u : Value}, Inv (cxOf CX P w K mg base N qual scope f cdv A outer s H E) [] σ' H' s' → RelV v u → Q v H' → CE outer P w H s Q u s' :=
    fun {σ' H' v u} J rv q => ⟨v, H', J.os, J.bare, J.base, J.hok, rv, q⟩
  cases fl with
  | ret u =>
    obtain ⟨v, σ', H', J, rv, q⟩ := hs
    exact fin J rv q
  | next =>
    obtain ⟨σ', H', J, q⟩ := hs
    exact fin (v := V.non) (u := Value.none) J rfl q
  | brk =>
    obtain ⟨_, _, _, q⟩ := hs
    exact False.elim q
  | cont =>
    obtain ⟨_, _, _, q⟩ := hs
    exact False.elim q
end L2

namespace L2
open PySem PySem.Spec PyProof.Rows
section
variable {X : Cx} {x : Str} {p pos : Pos} {e : Expr} {es : List Expr} {t : TA} {id T : String} {r : List V → Hp → VK → Prop}

def tCB (r : List V → Hp → VK → Prop) (t : TA) : TE := fun σ H Q => t σ H fun vs H1 => r vs H1 Q
/-- f(e, ..), f a built-in function -/
theorem pe_callB (hc : CallR X (.builtin id) r) (hg : Gl X x) (hm : X.mg x = none) (hv : bootBuiltins x = some (.builtin id)) (ha : PA X (e :: es) t) (hn : x ≠ "__name__" := by decide) (hdb : (x == ("__debug__" : Str)) = false := by decide)
    (he : starEach (e :: es) X.env = (false, eval e X.env) :: starEach es X.env := by rfl) (hpl : (backTo pos (starEach es X.env)).any (·.1) = false := by rfl) : PE X (.Call (.Name x p) (e :: es) [] pos) (tCB r t) := by
  intro pins s σ H Q I h
  refine wpAny_Call_Name_kw (ld_blt I hg hm hv ?_ hn hdb)
  exact PyProof.Rows.callWith_builtin1 (thn (ha pos pins s σ H _ I h) fun us s1 ⟨vs, H1, I1, r1, q1⟩ => hc pins s1 σ H1 vs us Q I1 r1 q1) he hpl
/-- T(e, ..), T a built-in type -/
theorem pe_callTy (hc : CallR X (.type T) r) (hg : Gl X x) (hm : X.mg x = none) (hv : bootBuiltins x = some (.type T)) (ha : PA X (e :: es) t) (hn : x ≠ "__name__" := by decide) (hdb : (x == ("__debug__" : Str)) = false := by decide)
    (he : starEach (e :: es) X.env = (false, eval e X.env) :: starEach es X.env := by rfl) (hpl : (backTo pos (starEach es X.env)).any (·.1) = false := by rfl) : PE X (.Call (.Name x p) (e :: es) [] pos) (tCB r t) := by
  intro pins s σ H Q I h
  refine wpAny_Call_Name_kw (ld_blt I hg hm hv ?_ hn hdb)
  exact PyProof.Rows.callWith_type1 (thn (ha pos pins s σ H _ I h) fun us s1 ⟨vs, H1, I1, r1, q1⟩ => hc pins s1 σ H1 vs us Q I1 r1 q1) he hpl
end
end L2

namespace HT
open PySem PyProof.Rows

/-- t < u of tuples of ints -/
def lexLt : List Int → List Int → Bool
  | [], [] => false
  | [], _ :: _ => true
  | _ :: _, [] => false
  | x :: xs, y :: ys => if x = y then lexLt xs ys else decide (x < y)
section
open PySem.SeqAt
open PySem.AutoSeq1 (wpAny_loadPart')
open PySem.MeetsSeq PySem.MeetsSeq2 PySem.MeetsSeq3

end

section
variable {prog : Program} {w : World} {A : Around} {E : Value → Shared → Prop} {s : Shared}

/-- t + u, t not empty -/
theorem cat_tup {t b : Addr} {vs ws : List Value} {Q : Value → Shared → Prop} (ht : IsTup s.heap t vs.toArray) (hb : IsTup s.heap b ws.toArray) (hv : vs ≠ [])
    (h1 : ws = [] → Q (.ref t) s) (h2 : ws ≠ [] → Q (.ref s.heap.objs.size) { s with heap := s.heap.push { cls := .type "tuple", data := .seq (vs ++ ws).toArray } })
    (hsz : vs.length + ws.length ≤ sizeLine) : wpAny (model prog w) A (binaryOp .Add (.ref t) (.ref b)) Q E s := by
  obtain ⟨⟨cls, dd, data, sl⟩, ho, hc, n, hd⟩ := id ht
  obtain ⟨⟨cls2, dd2, data2, sl2⟩, ho2, hc2, n2, hd2⟩ := id hb
  simp only at hc hd hc2 hd2
  subst hc hd hc2 hd2
  have e : vs.toArray ++ ws.toArray = (vs ++ ws).toArray := by simp
  by_cases hw : ws = []
  · exact concat_meets ⟨_, ho, rfl⟩ ⟨_, ho2, rfl⟩ noFill_tuple_add seq_tuple_add PySem.F.slot_tuple_add PySem.F.entry_tuple_add (PySem.F.args_tuple_add_2 _ _)
      (tuple_addW1 t b vs.toArray ws.toArray n n2 dd dd2 sl sl2 (by simpa using hv) (by simp [hw])) ⟨ho, ho2, h1 hw⟩
  · refine concat_meets ⟨_, ho, rfl⟩ ⟨_, ho2, rfl⟩ noFill_tuple_add seq_tuple_add PySem.F.slot_tuple_add PySem.F.entry_tuple_add (PySem.F.args_tuple_add_2 _ _)
      (tuple_addW2 t b vs.toArray ws.toArray n n2 dd dd2 sl sl2 (by simpa using hv) (by simpa using hw) (by rw [List.size_toArray, List.size_toArray]; exact hsz)) ⟨ho, ho2, ?_⟩
    rw [e]
    exact h2 hw

/-! ### t[a:b], not the whole -/
/-- a slice's bound as a place among n (d where it is left out) -/
def sIx (n d : Nat) : Option Int → Nat
  | none => d
  | some v => if v < 0 then (v + (n : Int)).toNat else min v.toNat n
end
end HT

namespace L2
open PySem PySem.Spec PyProof.Rows

/-! ### the parts of a slice -/
abbrev TO := St → Hp → (Option Int → Hp → Prop) → Prop
/-- a slice's part (left out, or an int) -/
def PO (X : Cx) (e : Option Expr) (t : TO) : Prop :=
  ∀ (pins : List (Addr × Obj)) (s : Shared) (σ : St) (H : Hp) (Q : Option Int → Hp → Prop), Inv X pins σ H s → t σ H Q →
    wpAny (model X.prog X.w) X.A (evalPart e X.env) (fun u s' => ∃ o H', Inv X pins σ H' s' ∧ IsPart u o ∧ Q o H') X.xe s
def tNoPart : TO := fun _ H Q => Q none H
def tPart (t : TE) : TO := fun σ H Q => t σ H fun x H1 => ∃ i, x = .int i ∧ Q (some i) H1

theorem intsAre_of {ns : List Int} : ∀ {us : List Value}, Vals (ns.map V.int) us → IntsAre us ns := by
  induction ns with
  | nil => intro us r; rw [List.map_nil] at r; cases r; exact .nil
  | cons n ns ih =>
    intro us r
    rw [List.map_cons] at r
    cases r with
    | cons r1 r2 =>
      obtain ⟨t, e⟩ := r1
      subst e
      exact .cons n t (ih r2)

section
variable {X : Cx} {e : Expr} {te : TE} {lo hi : Option Expr} {tl th : TO} {pos p2 : Pos}

theorem po_none : PO X none tNoPart := by
  intro pins s σ H Q I h
  rw [evalPart_none]
  exact wpAny_pure ⟨none, H, I, .none, h⟩
theorem po_some (h : PE X e te) : PO X (some e) (tPart te) := by
  intro pins s σ H Q I hw
  rw [evalPart_some]
  refine thn (h pins s σ H _ I hw) fun u s1 ⟨x, H1, I1, r1, q1⟩ => ?_
  obtain ⟨i, rfl, q⟩ := q1
  obtain ⟨t, rfl⟩ := r1
  exact ⟨some i, H1, I1, .int i t, q⟩

/-- what a slice of a value is, by values: the slice object stands at sl -/
def SlR (X : Cx) (r : V → Option Int → Option Int → Hp → VK → Prop) : Prop :=
  ∀ (pins : List (Addr × Obj)) (s : Shared) (σ : St) (H : Hp) (x : V) (v vl vu : Value) (lo hi : Option Int) (sl : Addr) (Q : VK), Inv X pins σ H s → RelV x v → s.heap.IsSliceOf sl vl vu .none → IsPart vl lo → IsPart vu hi → r x lo hi H Q →
    ∃ T id, typeLookup (.type T) "__getitem__" = pure (some (.builtin id)) ∧ s.TypeIs v T ∧ wpAny (model X.prog X.w) X.A (getItem v (.ref sl)) (EP X pins σ Q) X.xe s
def tSl (r : V → Option Int → Option Int → Hp → VK → Prop) (te : TE) (tl th : TO) : TE := fun σ H Q => te σ H fun x H1 => tl σ H1 fun l H2 => th σ H2 fun u H3 => r x l u H3 Q
/-- a[lo:hi], any a -/
theorem pe_slice {r : V → Option Int → Option Int → Hp → VK → Prop} (hr : SlR X r) (he : PE X e te) (hl : PO X lo tl) (hu : PO X hi th) : PE X (.Subscript e (.Slice lo hi none p2) pos) (tSl r te tl th) := by
  intro pins s σ H Q I h
  refine Subscript_ (thn (he pins s σ H _ I h) fun v s1 ⟨x, H1, I1, r1, q1⟩ => ?_)
  refine wpAny_Slice (thn (hl pins s1 σ H1 _ I1 q1) fun vl s2 ⟨l, H2, I2, pl, q2⟩ => thn (hu pins s2 σ H2 _ I2 q2) fun vu s3 ⟨u, H3, I3, pu, q3⟩ => ?_)
  rw [evalPart_none]
  refine wpAny_pure ?_
  have I4 : Inv X pins σ H3 { s3 with heap := s3.heap.push { cls := .type "slice", data := .fields #[vl, vu, .none] } } := I3.kept (t' := s3.toks) fun b ob q => Heap.get?_push_of_some _ q
  obtain ⟨T, id, hT, ht, hg⟩ := hr pins { s3 with heap := s3.heap.push { cls := .type "slice", data := .fields #[vl, vu, .none] } } σ H3 x v vl vu l u s3.heap.objs.size Q I4 r1 (Heap.IsSliceOf.new ..) pl pu q3
  show wpAny (model X.prog X.w) X.A (subscriptTail e (.Slice lo hi none p2) v (.ref s3.heap.objs.size)) (EP X pins σ Q) X.xe { s3 with heap := s3.heap.push { cls := .type "slice", data := .fields #[vl, vu, .none] } }
  exact tail_any (ops := [.ref s3.heap.objs.size, v]) ht hT hg (by with_unfolding_all rfl)

/-- the items of xs[lo:hi] -/
def cutV (xs : List V) (lo hi : Option Int) : List V := (xs.drop (HT.sIx xs.length 0 lo)).take (HT.sIx xs.length xs.length hi - HT.sIx xs.length 0 lo)
theorem cutV_length (xs : List V) (lo hi : Option Int) : (cutV xs lo hi).length ≤ xs.length := by
  unfold cutV
  rw [List.length_take, List.length_drop]
  omega
/-- t[lo:hi], not the whole of it (the whole would be t itself) -/
def rSlT (K : PySem.W.Frag) : V → Option Int → Option Int → Hp → VK → Prop := fun x lo hi H Q => ∃ a xs, x = .ref a ∧ SqT K H a xs ∧
  ¬ (HT.sIx xs.length 0 lo = 0 ∧ HT.sIx xs.length xs.length hi = xs.length) ∧ ∀ p, H p = none → Q (.ref p) (upd H p (.tup (cutV xs lo hi)))
/-! ### t < u, t + u -/
def rLtT (K : PySem.W.Frag) : R2 := fun x y H Q => ∃ a b ns ms, x = .ref a ∧ y = .ref b ∧ SqT K H a (ns.map V.int) ∧ SqT K H b (ms.map V.int) ∧ Q (.bl (HT.lexLt ns ms)) H
/-- t + u, t not empty: u empty gives t itself -/
def rCatT (K : PySem.W.Frag) : R2 := fun x y H Q => ∃ a b xs ys, x = .ref a ∧ y = .ref b ∧ SqT K H a xs ∧ SqT K H b ys ∧ xs ≠ [] ∧ xs.length + ys.length ≤ sizeLine ∧
  (ys = [] → Q (.ref a) H) ∧ (ys ≠ [] → ∀ p, H p = none → Q (.ref p) (upd H p (.tup (xs ++ ys))))
theorem Vals.nil_iff {xs : List V} {us : List Value} (r : Vals xs us) : us = [] ↔ xs = [] := by
  cases r with
  | nil => simp
  | cons _ _ => simp
end
end L2

namespace L2
open PySem PySem.Spec PyProof.Rows

/-! ### places -/
/-- the place that an index of any sign means -/
def ixN (n : Nat) (i : Int) : Option Nat := if 0 ≤ i then (if i < n then some i.toNat else none) else if -(n : Int) ≤ i then some (i + n).toNat else none
def atI {α : Type} (xs : List α) (i : Int) : Option α := (ixN xs.length i).bind fun j => xs[j]?
theorem ixN_seq {n : Nat} {i : Int} {j : Nat} (h : ixN n i = some j) : seqIndex? i n = some j ∧ j < n ∧ -(n : Int) ≤ i ∧ i < n := by
  unfold ixN at h
  by_cases h0 : 0 ≤ i
  · rw [if_pos h0] at h
    by_cases h1 : i < n
    · rw [if_pos h1] at h
      have e : i.toNat = j := Option.some.inj h
      exact ⟨by rw [seqIndex_of h0 h1, e], by omega, by omega, h1⟩
    · rw [if_neg h1] at h; cases h
  · rw [if_neg h0] at h
    by_cases h1 : -(n : Int) ≤ i
    · rw [if_pos h1] at h
      have e : (i + n).toNat = j := Option.some.inj h
      exact ⟨by rw [seqIndex_neg (by omega) h1, e], by omega, h1, by omega⟩
    · rw [if_neg h1] at h; cases h
theorem atI_get {α : Type} {xs : List α} {i : Int} {v : α} (h : atI xs i = some v) : ∃ j, seqIndex? i xs.length = some j ∧ xs[j]? = some v ∧ j < xs.length ∧ -(xs.length : Int) ≤ i ∧ i < xs.length := by
  unfold atI at h
  cases e : ixN xs.length i with
  | none => rw [e] at h; cases h
  | some j =>
    rw [e] at h
    obtain ⟨h1, h2, h3, h4⟩ := ixN_seq e
    exact ⟨j, h1, h, h2, h3, h4⟩
theorem atI_nat {α : Type} {xs : List α} {j : Nat} {v : α} (h : xs[j]? = some v) : atI xs (j : Int) = some v := by
  have hj : j < xs.length := (List.getElem?_eq_some_iff.mp h).1
  have e : ixN xs.length (j : Int) = some j := by
    unfold ixN
    rw [if_pos (by omega), if_pos (by omega)]; simp
  unfold atI; rw [e]; exact h
/-! ### what may be subscripted -/
/-- what stands as an index of a plain subscript -/
def PlainIx (b : Expr) : Prop := ∀ o i, subscripted b false o i = operate [o, i] (getItem o i)
/-- a subscript by values -/
def IxR (X : Cx) (r : R2) : Prop :=
  ∀ (value slice : Expr) (pins : List (Addr × Obj)) (s : Shared) (σ : St) (H : Hp) (x y : V) (v u : Value) (Q : VK), Inv X pins σ H s → RelV x v → RelV y u → r x y H Q →
    subscripted slice false v u = operate [v, u] (getItem v u) → wpAny (model X.prog X.w) X.A (subscriptTail value slice v u) (EP X pins σ Q) X.xe s
/-- a call of a builtin's method by values: the receiver, the arguments -/
def MtR (X : Cx) (id : String) (r : V → List V → Hp → VK → Prop) : Prop :=
  ∀ (pins : List (Addr × Obj)) (s : Shared) (σ : St) (H : Hp) (x : V) (xs : List V) (v : Value) (us : List Value) (Q : VK), Inv X pins σ H s → RelV x v → Vals xs us → r x xs H Q →
    wpAny (model X.prog X.w) X.A (call (.builtin id) (v :: us)) (EP X pins σ Q) X.xe s
section
variable {X : Cx} {a b : Expr} {ta tb : TE} {pos : Pos}
/-- a[b] -/
theorem pe_ix {r : R2} (hr : IxR X r) (ha : PE X a ta) (hb : PE X b tb) (hs : PlainIx b) : PE X (.Subscript a b pos) (tOp r ta tb) := by
  intro pins s σ H Q I h
  exact Subscript_ (binT ha hb I h fun v u s2 x y H2 I2 rx ry q => hr a b pins s2 σ H2 x y v u Q I2 rx ry q (hs _ _))

def rIxL (K : PySem.W.Frag) : R2 := fun x y H Q => ∃ p xs i v, x = .ref p ∧ y = .int i ∧ SqL K H p xs ∧ atI xs i = some v ∧ Q v H
def rIxT (K : PySem.W.Frag) : R2 := fun x y H Q => ∃ p xs i v, x = .ref p ∧ y = .int i ∧ SqT K H p xs ∧ atI xs i = some v ∧ Q v H
def rIxS : R2 := fun x y H Q => ∃ z i c, x = .str z ∧ y = .int i ∧ z.length ≤ sizeLine ∧ atI z.cps.toList i = some c ∧ Q (.str ⟨#[c]⟩) H
theorem ix_list : IxR X (rIxL X.K) := by
  intro value slice pins s σ H x y v u Q I rx ry h hs
  obtain ⟨p, xs, i, z, rfl, rfl, hq, he, q⟩ := h
  cases rx
  obtain ⟨t, rfl⟩ := ry
  obtain ⟨its, r, pl, hz⟩ := I.list hq
  obtain ⟨j, h1, h2, h3, h4, h5⟩ := atI_get he
  obtain ⟨w, ew, rw'⟩ := r.get h2
  have hl := r.length
  have hn := line63
  have fin : EP X pins σ Q w s := ⟨z, H, I, rw', q⟩
  by_cases h0 : 0 ≤ i
  · have hj : i.toNat = j := by
      rw [seqIndex_of h0 h5] at h1
      exact Option.some.inj h1
    exact item_listR pl.isList h0 (by omega) (by rw [hj]; simpa using ew) fin hs
  · have hj : (i + (its.toArray.size : Int)).toNat = j := by
      rw [seqIndex_neg (by omega) h4] at h1
      rw [List.size_toArray, ← hl]
      exact Option.some.inj h1
    exact subscriptTail_builtinR (x := w) pl.isList.typeIs slot_list_getitem.lookup
      (wpAny_getItem_list_neg (Q := fun r s' => r = w ∧ EP X pins σ Q r s') pl.isList (by omega) (by rw [List.size_toArray] <;> omega) (by omega) (by rw [hj]; simpa using ew) ⟨rfl, fin⟩) hs
theorem ix_tup : IxR X (rIxT X.K) := by
  intro value slice pins s σ H x y v u Q I rx ry h hs
  obtain ⟨p, xs, i, z, rfl, rfl, hq, he, q⟩ := h
  cases rx
  obtain ⟨t, rfl⟩ := ry
  obtain ⟨its, r, pl, hz⟩ := I.tuple hq
  obtain ⟨j, h1, h2, h3, h4, h5⟩ := atI_get he
  obtain ⟨w, ew, rw'⟩ := r.get h2
  have hl := r.length
  have hn := line63
  have fin : EP X pins σ Q w s := ⟨z, H, I, rw', q⟩
  exact subscriptTail_builtinR (x := w) pl.typeIs slot_tuple_getitem.lookup
    (getItem_tuple (j := j) (Q := fun r s' => r = w ∧ EP X pins σ Q r s') pl (by omega) (by omega) (by rw [List.size_toArray, ← hl]; exact h1) (by simpa using ew) ⟨rfl, fin⟩) hs
theorem ix_str : IxR X rIxS := by
  intro value slice pins s σ H x y v u Q I rx ry h hs
  obtain ⟨z, i, c, rfl, rfl, hz, he, q⟩ := h
  obtain ⟨t, rfl⟩ := rx
  obtain ⟨t', rfl⟩ := ry
  obtain ⟨j, h1, h2, h3, h4, h5⟩ := atI_get he
  have hl : z.cps.toList.length = z.length := by simp [Str.length]
  rw [hl] at h1 h4 h5
  have hn := line63
  exact tail_any (typeIs_str s z t) slot_str_getitem.lookup (getItem_str (c := c) (by
    have e1 : decide (i < -(2 ^ 63 : Int)) = false := decide_eq_false (by omega)
    have e2 : decide (i ≥ 2 ^ 63) = false := decide_eq_false (by omega)
    rw [e1, e2, Bool.or_false]) (by rw [h1]; simpa using h2) ⟨.str ⟨#[c]⟩, H, I.tok _, ⟨_, rfl⟩, q⟩) hs
/-- list, tuple or str -/
def rIx (K : PySem.W.Frag) : R2 := fun x y H Q => rIxL K x y H Q ∨ rIxT K x y H Q ∨ rIxS x y H Q
/-! ### xs[i] = v, any sign -/
/-- the list's object behind a store -/
theorem mapSeq_set (its : List Value) (n j : Nat) (u : Value) : Obj.mapSeq (·.setIfInBounds j u) { cls := .type "list", data := .seq its.toArray n } = { cls := .type "list", data := .seq (its.set j u).toArray n } := by
  simp [Obj.mapSeq]
theorem Inv.lst {pins : List (Addr × Obj)} {σ : St} {H : Hp} {s : Shared} {p : Addr} {xs : List V} (I : Inv X pins σ H s) (h : H p = some (.lst xs)) :
    ∃ (its : List Value) (n : Nat), Vals xs its ∧ s.heap.get? p = some { cls := .type "list", data := .seq its.toArray n } ∧ xs.length ≤ sizeLine := by
  obtain ⟨z, its, n, r, e⟩ := I.hok p _ h
  exact ⟨its, n, r, e, z⟩
/-- the list at p is written by an update of its object -/
theorem Inv.lstUpd {pins : List (Addr × Obj)} {σ : St} {H : Hp} {s : Shared} {p : Addr} {xs ys : List V} {its its' : List Value} {n n' : Nat} {f : Obj → Obj} (I : Inv X pins σ H s) (h : H p = some (.lst xs))
    (ho : s.heap.get? p = some { cls := .type "list", data := .seq its.toArray n }) (hf : f { cls := .type "list", data := .seq its.toArray n } = { cls := .type "list", data := .seq its'.toArray n' }) (r : Vals ys its') (hz : ys.length ≤ sizeLine) (t : Nat) :
    Inv X pins σ (upd H p (.lst ys)) { s with heap := s.heap.update p f, toks := t } := by
  have e : (s.heap.update p f).get? p = some { cls := .type "list", data := .seq its'.toArray n' } := by
    rw [Heap.get?_update_self f ho (by rw [hf] <;> rfl), hf]
  refine I.write (x := p) (e := p) (by rw [h]; trivial) (.inl rfl) (fun b u hb q => (Heap.get?_update_other _ _ (Ne.symm hb)).trans q) ⟨_, e⟩ ?_
  exact ⟨hz, its', n', r, e⟩
def rSetL : V → V → V → Hp → (Hp → Prop) → Prop := fun o i v H Q => ∃ p xs k j, o = .ref p ∧ i = .int k ∧ H p = some (.lst xs) ∧ ixN xs.length k = some j ∧ Q (upd H p (.lst (xs.set j v)))
theorem set_list : PSet X rSetL := by
  intro pins s σ H o i v ov iv u Q I ro ri rv h
  obtain ⟨p, xs, k, j, rfl, rfl, hp, hj, q⟩ := h
  cases ro
  obtain ⟨t, rfl⟩ := ri
  obtain ⟨its, n, r, ho, hz⟩ := I.lst hp
  obtain ⟨h1, h2, h3, h4⟩ := ixN_seq hj
  have hl := r.length
  have hn := line63
  have I' : Inv X pins σ (upd H p (.lst (xs.set j v))) { s with heap := s.heap.update p (Obj.mapSeq (·.setIfInBounds j u)) } :=
    I.lstUpd hp ho (mapSeq_set its n j u) (r.set rv j) (by rw [List.length_set]; exact hz) s.toks
  by_cases h0 : 0 ≤ k
  · have hk : k.toNat = j := by
      rw [seqIndex_of h0 h4] at h1
      exact Option.some.inj h1
    exact PySem.W.ki_setAt ho h0 (by omega) (by rw [List.size_toArray, ← hl]; exact h4) (by rw [hk]; exact ⟨_, I', q⟩)
  · have hk : (k + (its.toArray.size : Int)).toNat = j := by
      rw [seqIndex_neg (by omega) h3] at h1
      rw [List.size_toArray, ← hl]
      exact Option.some.inj h1
    exact PySem.W.ki_setBack ho (by omega) (by rw [List.size_toArray, ← hl]; exact h3) (by omega) (by rw [hk]; exact ⟨_, I', q⟩)

/-! ### slices -/
theorem slice_bounds (lo hi : Option Int) (n : Nat) : (sliceBounds lo hi none n).1 = ((HT.sIx n 0 lo : Nat) : Int) ∧ (sliceBounds lo hi none n).2.1 = ((HT.sIx n n hi : Nat) : Int) ∧ (sliceBounds lo hi none n).2.2 = 1 := by
  refine ⟨?_, ?_, rfl⟩
  · cases lo with
    | none => simp [sliceBounds, HT.sIx]
    | some i =>
      simp only [sliceBounds, HT.sIx, Option.getD_none, show (1 : Int) > 0 by decide, if_true]
      by_cases h : i < 0
      · simp only [h, if_true] <;> omega
      · simp only [h, if_false] <;> omega
  · cases hi with
    | none => simp [sliceBounds, HT.sIx]
    | some i =>
      simp only [sliceBounds, HT.sIx, Option.getD_none, show (1 : Int) > 0 by decide, if_true]
      by_cases h : i < 0
      · simp only [h, if_true] <;> omega
      · simp only [h, if_false] <;> omega
theorem slicePick_cut (its : List Value) (lo hi : Option Int) : slicePick its.toArray lo hi none = ((its.drop (HT.sIx its.length 0 lo)).take (HT.sIx its.length its.length hi - HT.sIx its.length 0 lo)).toArray := by
  obtain ⟨h1, h2, h3⟩ := slice_bounds lo hi its.toArray.size
  unfold slicePick
  rw [h1, h2, h3]
  simp only [sliceRange_one, pick_run, List.size_toArray] <;> rfl
/-- xs[lo:hi] of a list: a new list -/
def rSlL (K : PySem.W.Frag) : V → Option Int → Option Int → Hp → VK → Prop := fun x lo hi H Q => ∃ a xs, x = .ref a ∧ SqL K H a xs ∧ ∀ p, H p = none → Q (.ref p) (upd H p (.lst (cutV xs lo hi)))
theorem sl_list : SlR X (rSlL X.K) := by
  intro pins s σ H x v vl vu lo hi sl Q I rx hs pl pu h
  obtain ⟨a, xs, rfl, hx, q⟩ := h
  cases rx
  obtain ⟨its, r, ht, hz⟩ := I.list hx
  have hlen := r.length
  refine ⟨"list", _, slot_list_getitem.lookup, ht.isList.typeIs, ?_⟩
  refine wpAny_getItem_list_slice ht.isList hs pl pu .none (by simp) ?_ (by rw [List.size_toArray] <;> omega)
  rw [slicePick_cut, ← hlen]
  refine ⟨.ref s.heap.objs.size, _, I.laid (t' := s.toks) (o := .lst (cutV xs lo hi)) (fun b ob q => Heap.get?_push_of_some _ q) (Nat.le_refl _) ?_, rfl, q _ (I.hok.fresh (Nat.le_refl _))⟩
  exact ⟨Nat.le_trans (cutV_length xs lo hi) hz, _, 0, (r.drop (HT.sIx xs.length 0 lo)).take (HT.sIx xs.length xs.length hi - HT.sIx xs.length 0 lo), Heap.get?_push_size _ rfl⟩

/-! ### in, not in: flat items -/
def flatV : V → Bool
  | .non => true
  | .bl _ => true
  | .int _ => true
  | .str _ => true
  | _ => false
/-- == of flat values -/
def eqV : V → V → Bool
  | .non, .non => true
  | .bl a, .bl b => a == b
  | .bl a, .int b => (if a then 1 else 0) == b
  | .int a, .bl b => a == (if b then 1 else 0)
  | .int a, .int b => a == b
  | .str a, .str b => a == b
  | _, _ => false
theorem eqAt_V {A : Around} {s : Shared} {y x : V} {u v : Value} (ry : RelV y u) (rx : RelV x v) (fy : flatV y = true) (fx : flatV x = true) : SeqAt.EqAt A s u v (eqV y x) := by
  cases y with
  | non =>
    cases ry
    cases x with
    | non => cases rx; exact SeqAt.EqAt.same _
    | bl b => cases rx; exact SeqAt.EqAt.none_bool b
    | int b => obtain ⟨t, rfl⟩ := rx; exact SeqAt.EqAt.none_int b t
    | str b => obtain ⟨t, rfl⟩ := rx; exact SeqAt.EqAt.none_str b t
    | _ => exact absurd (show false = true from fx) Bool.false_ne_true
  | bl a =>
    cases ry
    cases x with
    | non => cases rx; exact SeqAt.EqAt.bool_none a
    | bl b => cases rx; exact SeqAt.EqAt.bool_bool a b
    | int b => obtain ⟨t, rfl⟩ := rx; exact SeqAt.EqAt.bool_int a b t
    | str b => obtain ⟨t, rfl⟩ := rx; exact SeqAt.EqAt.bool_str a b t
    | _ => exact absurd (show false = true from fx) Bool.false_ne_true
  | int a =>
    obtain ⟨t', rfl⟩ := ry
    cases x with
    | non => cases rx; exact SeqAt.EqAt.int_none a t'
    | bl b => cases rx; exact SeqAt.EqAt.int_bool a t' b
    | int b => obtain ⟨t, rfl⟩ := rx; exact SeqAt.EqAt.int_int a t' b t
    | str b => obtain ⟨t, rfl⟩ := rx; exact SeqAt.EqAt.int_str a t' b t
    | _ => exact absurd (show false = true from fx) Bool.false_ne_true
  | str a =>
    obtain ⟨t', rfl⟩ := ry
    cases x with
    | non => cases rx; exact SeqAt.EqAt.str_none a t'
    | bl b => cases rx; exact SeqAt.EqAt.str_bool a t' b
    | int b => obtain ⟨t, rfl⟩ := rx; exact SeqAt.EqAt.str_int a t' b t
    | str b => obtain ⟨t, rfl⟩ := rx; exact SeqAt.EqAt.str_str a t' b t
    | _ => exact absurd (show false = true from fx) Bool.false_ne_true
  | _ => exact absurd (show false = true from fy) Bool.false_ne_true
/-- the items' answers, read off the values (a value's own answer does not lean on its token) -/
def eqU (x : V) (u : Value) : Bool := match u with
  | .none => eqV .non x
  | .bool b => eqV (.bl b) x
  | .int i _ => eqV (.int i) x
  | .str z _ => eqV (.str z) x
  | _ => false
def inV (x : V) (xs : List V) : Bool := xs.any fun y => eqV y x
/-- x in a list or tuple of flat items -/
def rIn (K : PySem.W.Frag) (neg : Bool) : R2 := fun x y H Q => ∃ p xs, y = .ref p ∧ (SqL K H p xs ∨ SqT K H p xs) ∧ flatV x = true ∧ xs.all flatV = true ∧ Q (.bl (if neg then !inV x xs else inV x xs)) H
/-! ### len, list(x), tuple(x) of any list or tuple that is read -/
theorem call_len_seq : CallR X (.builtin "len") (fun xs H Q => ∃ p ys, xs = [.ref p] ∧ (SqL X.K H p ys ∨ SqT X.K H p ys) ∧ Q (.int ys.length) H) := by
  intro pins s σ H xs us Q I r h
  obtain ⟨p, ys, rfl, hq, q⟩ := h
  obtain ⟨u, rfl, rx⟩ := vals1 r
  cases rx
  have hn := line63
  rcases hq with hq | hq
  · obtain ⟨its, r', pl, hz⟩ := I.list hq
    have hlen := r'.length
    exact Calls.call_len_list pl.isList (by simp only [List.size_toArray] <;> omega) ⟨.int ys.length, H, I.tok _, ⟨s.toks + 1, by rw [List.size_toArray, hlen]⟩, q⟩
  · obtain ⟨its, r', pl, hz⟩ := I.tuple hq
    have hlen := r'.length
    exact len_tuple pl (by simp only [List.size_toArray] <;> omega) ⟨.int ys.length, H, I.tok _, ⟨s.toks + 1, by rw [List.size_toArray, hlen]⟩, q⟩
theorem call_len_str : CallR X (.builtin "len") (fun xs H Q => ∃ z, xs = [.str z] ∧ z.length ≤ sizeLine ∧ Q (.int z.length) H) := by
  intro pins s σ H xs us Q I r h
  obtain ⟨z, rfl, hz, q⟩ := h
  obtain ⟨u, rfl, t, rfl⟩ := vals1 r
  have hn := line63
  exact len_str (by omega) ⟨.int z.length, H, I.tok _, ⟨_, rfl⟩, q⟩
theorem call_tuple_of : CallR X (.type "tuple") (fun xs H Q => ∃ p ys, xs = [.ref p] ∧ ((SqL X.K H p ys ∧ ∀ l, H l = none → Q (.ref l) (upd H l (.tup ys))) ∨ (SqT X.K H p ys ∧ Q (.ref p) H))) := by
  intro pins s σ H xs us Q I r h
  obtain ⟨p, ys, rfl, h⟩ := h
  obtain ⟨u, rfl, rx⟩ := vals1 r
  cases rx
  rcases h with ⟨hq, q⟩ | ⟨hq, q⟩
  · obtain ⟨its, r', pl, hz⟩ := I.list hq
    have hlen := r'.length
    refine call_tuple_list pl.isList (fun h' kp => ?_) (by simp only [List.size_toArray] <;> omega)
    have I1 : Inv X pins σ H { s with heap := h' } := I.kept (t' := s.toks) kp
    have I2 : Inv X pins σ (upd H h'.objs.size (.tup ys)) { s with heap := h'.push { cls := .type "tuple", data := .seq its.toArray } } :=
      I1.laid (t' := s.toks) (fun b o e => Heap.get?_push_of_some _ e) (Nat.le_refl _) (show ObjOk X.prog X.w _ _ _ (.tup ys) from ⟨hz, its, r', IsTup.new _ _⟩)
    exact ⟨.ref h'.objs.size, _, I2, rfl, q _ (I1.hok.fresh (Nat.le_refl _))⟩
  · obtain ⟨its, r', pl, hz⟩ := I.tuple hq
    exact call_tuple_same pl ⟨.ref p, H, I, rfl, q⟩

/-! ### the call of a builtin's method: o.m(..) -/
/-- the value is of that builtin type -/
def tyV (K : PySem.W.Frag) (T : String) (x : V) (H : Hp) : Prop := match x with
  | .str _ => T = "str"
  | .int _ => T = "int"
  | .ref p => (T = "list" ∧ ∃ xs, SqL K H p xs) ∨ (T = "tuple" ∧ ∃ o, K.lookup p = some o ∧ o.cls = .type "tuple" ∧ o.dict = none) ∨
      (T = "dict" ∧ ((∃ kvs, H p = some (.dK kvs)) ∨ ∃ kvs, H p = some (.dT kvs))) ∨ (T = "set" ∧ ∃ S n, H p = some (.set S n))
  | _ => False
theorem tyV_is {pins : List (Addr × Obj)} {σ : St} {H : Hp} {s : Shared} {T : String} {x : V} {v : Value} (I : Inv X pins σ H s) (r : RelV x v) (ty : tyV X.K T x H) :
    s.TypeIs v T ∧ ∀ a, v = .ref a → ∃ ob, s.heap.get? a = some ob ∧ ob.dict = none := by
  cases x with
  | str z =>
    obtain ⟨t, rfl⟩ := r
    cases (show T = "str" from ty)
    exact ⟨typeIs_str s z t, fun _ e => nomatch e⟩
  | int i =>
    obtain ⟨t, rfl⟩ := r
    cases (show T = "int" from ty)
    exact ⟨typeIs_int s i t, fun _ e => nomatch e⟩
  | ref p =>
    cases r
    rcases ty with ⟨rfl, xs, hq⟩ | ⟨rfl, o, hk, hc, hd⟩ | ⟨rfl, hk⟩ | ⟨rfl, S, n, hk⟩
    · obtain ⟨its, _, pl, _⟩ := I.list hq
      refine ⟨pl.isList.typeIs, fun a e => ?_⟩
      cases e
      obtain ⟨o, n, e, c, hd, _⟩ := pl
      exact ⟨o, e, hd⟩
    · refine ⟨⟨o, I.kIn p o hk, hc⟩, fun a e => ?_⟩
      cases e
      exact ⟨o, I.kIn _ o hk, hd⟩
    · have z : ∃ o, s.heap.get? p = some o ∧ o.ExactDict := by
        rcases hk with ⟨kvs, hk⟩ | ⟨kvs, hk⟩
        · obtain ⟨_, _, _, _, o, _, _, e, ex, _⟩ := I.hok p _ hk
          exact ⟨o, e, ex⟩
        · obtain ⟨_, _, _, _, o, _, _, e, ex, _⟩ := I.hok p _ hk
          exact ⟨o, e, ex⟩
      obtain ⟨o, e, ex⟩ := z
      refine ⟨⟨o, e, ex.1⟩, fun a e2 => ?_⟩
      cases e2
      exact ⟨o, e, ex.2.1⟩
    · obtain ⟨o, _, _, _, e, ex, _⟩ := I.hok p _ hk
      refine ⟨⟨o, e, ex.1⟩, fun a e2 => ?_⟩
      cases e2
      exact ⟨o, e, ex.2.1⟩
  | _ => exact False.elim ty
def tBM0 (K : PySem.W.Frag) (T : String) (r : V → List V → Hp → VK → Prop) (to : TE) : TE := fun σ H Q => to σ H fun x H1 => tyV K T x H1 ∧ r x [] H1 Q
def tBM (K : PySem.W.Frag) (T : String) (r : V → List V → Hp → VK → Prop) (to : TE) (t : TA) : TE := fun σ H Q => to σ H fun x H1 => tyV K T x H1 ∧ t σ H1 fun xs H2 => r x xs H2 Q
variable {o e : Expr} {es : List Expr} {to : TE} {t : TA} {name : Str} {apos cpos : Pos} {T id : String} {r : V → List V → Hp → VK → Prop}
theorem pe_bm0 (pa : PlainAttrs T) (slot : Slot T name id) (hty : typeOf (.builtin id) = pure (.type "method_descriptor")) (hm : MtR X id r) (ho : PE X o to)
    (hbase : attributeBase o name X.env (eval o X.env) = eval o X.env := by rfl) (hline : (apos.endLine == cpos.line) = true := by rfl) : PE X (.Call (.Attribute o name apos) [] [] cpos) (tBM0 X.K T r to) := by
  intro pins s σ H Q I h
  refine wpAny_Call_method0_late hbase hline (thn (ho pins s σ H _ I h) fun v s1 ⟨x, H1, I1, r1, ty, q1⟩ => ?_)
  obtain ⟨h1, h2⟩ := tyV_is I1 r1 ty
  exact ⟨T, id, pa, slot, hty, h1, h2, Calls.callWith_builtin rfl (PySem.evalArgs_none (hm pins s1 σ H1 x [] v [] Q I1 r1 .nil q1))⟩
theorem pe_bm (pa : PlainAttrs T) (slot : Slot T name id) (hty : typeOf (.builtin id) = pure (.type "method_descriptor")) (hm : MtR X id r) (ho : PE X o to) (ha : PA X (e :: es) t)
    (hbase : attributeBase o name X.env (eval o X.env) = eval o X.env := by rfl)
    (hfew : ((backTo cpos (starEach (e :: es) X.env)).all (fun x => !x.1) && (backToKw cpos (keywordEach [] X.env)).all (fun x => x.1.isSome)
      && decide ((e :: es).length + ([] : List Keyword).length + (if ([] : List Keyword).isEmpty then 0 else 1) < 30)) = true := by rfl)
    (hline : (apos.endLine == cpos.line) = true := by rfl) (hs : starEach (e :: es) X.env = (false, eval e X.env) :: starEach es X.env := by rfl) (hplain : (backTo cpos (starEach es X.env)).any (·.1) = false := by rfl) :
    PE X (.Call (.Attribute o name apos) (e :: es) [] cpos) (tBM X.K T r to t) := by
  intro pins s σ H Q I h
  refine wpAny_Call_method_late hbase hfew hline rfl (thn (ho pins s σ H _ I h) fun v s1 ⟨x, H1, I1, r1, ty, q1⟩ => ?_)
  obtain ⟨h1, h2⟩ := tyV_is I1 r1 ty
  refine ⟨T, id, pa, slot, hty, h1, h2, ?_⟩
  have hA := ha cpos pins s1 σ H1 _ I1 q1
  rw [hs] at hA ⊢
  refine Calls.callWith_builtin (by show (false || (backTo cpos (starEach es X.env)).any (·.1)) = false; rw [hplain] <;> rfl) (Calls.evalArgs_plain ?_)
  exact thn hA fun us s2 ⟨vs, H2, I2, r2, q2⟩ => hm pins s2 σ H2 x vs v us Q I2 r1 r2 q2
/- xs.append(e), list.index on a module's tuple .. are MtR facts of 06m -/
end
end L2

namespace L2
open PySem PySem.Spec PyProof.Rows

def MtM (X : Cx) (id : String) (r : V → List V → Hp → VK → Prop) : Prop :=
  ∀ (pins : List (Addr × Obj)) (s : Shared) (σ : St) (H : Hp) (x : V) (xs : List V) (v : Value) (us : List Value) (Q : VK), Inv X pins σ H s → RelV x v → Vals xs us → r x xs H Q →
    wpAny (model X.prog X.w) X.A (call (.builtin id) (v :: us)) (EP X pins σ Q) X.xe s

/-! ### lists of values -/
theorem Vals.one : ∀ {x : V} {us : List Value}, Vals [x] us → ∃ u, us = [u] ∧ RelV x u
  | _, _, .cons r .nil => ⟨_, rfl, r⟩
theorem Vals.zero : ∀ {us : List Value}, Vals [] us → us = []
  | _, .nil => rfl
theorem Vals.dropLast {xs : List V} {us : List Value} (h : Vals xs us) : Vals xs.dropLast us.dropLast := by
  induction h with
  | nil => exact .nil
  | cons r t ih =>
    cases t with
    | nil => exact .nil
    | cons q t' => exact .cons r ih
theorem Vals.eraseIdx : ∀ {xs : List V} {us : List Value} (i : Nat), Vals xs us → Vals (xs.eraseIdx i) (us.eraseIdx i)
  | _, _, _, .nil => .nil
  | _, _, 0, .cons _ t => t
  | _, _, i + 1, .cons r t => .cons r (Vals.eraseIdx i t)
theorem Vals.reverse {xs : List V} {us : List Value} (h : Vals xs us) : Vals xs.reverse us.reverse := by
  induction h with
  | nil => exact .nil
  | cons r t ih => rw [List.reverse_cons, List.reverse_cons]; exact Vals.append ih (.cons r .nil)
theorem erase_last {α : Type} (l : List α) : l.eraseIdx (l.length - 1) = l.dropLast := by
  induction l with
  | nil => rfl
  | cons a r ih =>
    cases r with
    | nil => rfl
    | cons b r =>
      have e : (a :: b :: r).length - 1 = ((b :: r).length - 1) + 1 := by
        have h1 : (a :: b :: r).length = r.length + 2 := rfl
        have h2 : (b :: r).length = r.length + 1 := rfl
        omega
      rw [e, List.eraseIdx_cons_succ, ih]
      all_goals rfl
theorem len_erase {α : Type} : ∀ (l : List α) (i : Nat), (l.eraseIdx i).length ≤ l.length
  | [], _ => Nat.le_refl _
  | _ :: _, 0 => Nat.le_succ _
  | _ :: r, i + 1 => Nat.succ_le_succ (len_erase r i)
section
variable {X : Cx} {pins : List (Addr × Obj)} {σ : St} {H : Hp} {s : Shared} {l b : Addr} {xs ys zs : List V}

/-! ### the two steps: a tracked list is rewritten, a new list is laid -/
theorem Inv.lset {its its' : List Value} {n : Nat} {f : Array Value → Array Value} {t' : Nat} (I : Inv X pins σ H s) (hH : H l = some (.lst xs))
    (e : s.heap.get? l = some { cls := .type "list", data := .seq its.toArray n }) (hf : f its.toArray = its'.toArray) (hv : Vals ys its') (hz : ys.length ≤ sizeLine) :
    Inv X pins σ (upd H l (.lst ys)) { s with heap := s.heap.update l (Obj.mapSeq f), toks := t' } := by
  have q := PySem.IsL.update e f
  rw [hf] at q
  refine I.write (x := l) (e := l) (by rw [hH]; exact trivial) (.inl rfl) (fun b' u hb hu => (Heap.get?_update_other s.heap (Obj.mapSeq f) (Ne.symm hb)).trans hu) ⟨_, q⟩ ?_
  exact ⟨hz, its', _, hv, q⟩
theorem Inv.lnew {its : List Value} {t' : Nat} (I : Inv X pins σ H s) (hv : Vals ys its) (hz : ys.length ≤ sizeLine) :
    Inv X pins σ (upd H s.heap.objs.size (.lst ys)) { s with heap := s.heap.push { cls := .type "list", data := .seq its.toArray }, toks := t' } :=
  I.laid (fun _ _ q => Heap.get?_push_of_some _ q) (Nat.le_refl _) ⟨hz, its, 0, hv, Heap.get?_push_size _ rfl⟩
theorem Inv.fresh (I : Inv X pins σ H s) : H s.heap.objs.size = none := I.hok.fresh (Nat.le_refl _)
theorem Inv.lstM (I : Inv X pins σ H s) (hH : H l = some (.lst xs)) : xs.length ≤ sizeLine ∧ ∃ (its : List Value) (n : Nat), Vals xs its ∧ xs.length = its.length ∧ s.heap.get? l = some { cls := .type "list", data := .seq its.toArray n } := by
  obtain ⟨z, its, n, r, e⟩ := I.hok l _ hH
  exact ⟨z, its, n, r, r.length, e⟩

theorem notLongL {n : Nat} (h : n ≤ sizeLine) : Builtin.List.listTooLong n = false := by
  unfold Builtin.List.listTooLong
  exact decide_eq_false (by omega)
end

section
variable {X : Cx}

/-! ### methods -/
def rAppend : V → List V → Hp → VK → Prop := fun x vs H Q => ∃ l xs y, x = .ref l ∧ vs = [y] ∧ H l = some (.lst xs) ∧ xs.length < sizeLine ∧ Q .non (upd H l (.lst (xs ++ [y])))
theorem mt_append : MtM X "list.append" rAppend := by
  intro pins s σ H x vs v us Q I rx rv h
  obtain ⟨l, xs, y, rfl, rfl, hH, hz, q⟩ := h
  cases rx
  obtain ⟨u, rfl, ru⟩ := rv.one
  obtain ⟨z, its, n, r, hl, e⟩ := I.lstM hH
  refine call_meets F.slot_list_append ⟨_, e, rfl⟩ F.entry_list_append (F.args_list_append_2 _ _) (PySem.list_append l its.toArray n u (by rw [List.size_toArray]; omega)) ⟨e, ?_⟩
  refine ⟨.non, _, I.lset (its' := its ++ [u]) hH e (by simp) (r.append (.cons ru .nil)) ?_, rfl, q⟩
  rw [List.length_append, List.length_singleton]
  omega

def rExtend : V → List V → Hp → VK → Prop := fun x vs H Q => ∃ l b xs zs, x = .ref l ∧ vs = [.ref b] ∧ H l = some (.lst xs) ∧ H b = some (.lst zs) ∧ xs.length + zs.length ≤ sizeLine ∧ Q .non (upd H l (.lst (xs ++ zs)))
theorem mt_extend : MtM X "list.extend" rExtend := by
  intro pins s σ H x vs v us Q I rx rv h
  obtain ⟨l, b, xs, zs, rfl, rfl, hH, hB, hz, q⟩ := h
  cases rx
  obtain ⟨u, rfl, ru⟩ := rv.one
  cases ru
  obtain ⟨z, its, n, r, hl, e⟩ := I.lstM hH
  obtain ⟨z2, its2, n2, r2, hl2, e2⟩ := I.lstM hB
  have hsz : its.toArray.size + its2.toArray.size ≤ sizeLine := by rw [List.size_toArray, List.size_toArray]; omega
  have hlong : ¬ (!its.toArray.isEmpty && Builtin.List.listTooLong (its.toArray.size + its2.toArray.size)) = true := by
    rw [notLongL hsz, Bool.and_false]
    exact Bool.false_ne_true
  refine call_meets F.slot_list_extend ⟨_, e, rfl⟩ F.entry_list_extend (F.args_list_extend_2 _ _)
    (AutoSeq1.list_extend_list_list_0 l its.toArray n b its2.toArray n2 hlong (by rw [List.size_toArray]; omega) (by omega)) ⟨e, e2, ?_⟩
  refine ⟨.non, _, I.lset (its' := its ++ its2) hH e (by simp) (r.append r2) ?_, rfl, q⟩
  rw [List.length_append]
  omega

def rPop : V → List V → Hp → VK → Prop := fun x vs H Q => ∃ l xs y, x = .ref l ∧ vs = [] ∧ H l = some (.lst xs) ∧ xs[xs.length - 1]? = some y ∧ Q y (upd H l (.lst xs.dropLast))
theorem mt_pop : MtM X "list.pop" rPop := by
  intro pins s σ H x vs v us Q I rx rv h
  obtain ⟨l, xs, y, rfl, rfl, hH, hy, q⟩ := h
  cases rx
  have hus := rv.zero
  subst hus
  obtain ⟨z, its, n, r, hl, e⟩ := I.lstM hH
  obtain ⟨u, hu, ru⟩ := r.get hy
  have hy' : its.toArray[its.toArray.size - 1]? = some u := by
    show its.toArray[its.length - 1]? = some u
    rw [← Array.getElem?_toList, ← hl]
    exact hu
  refine call_meets F.slot_list_pop ⟨_, e, rfl⟩ F.entry_list_pop (F.args_list_pop_1 _) (MeetsSeq.list_pop_last l its.toArray n u hy' (by rw [List.size_toArray]; omega)) ⟨e, ?_⟩
  refine ⟨y, _, I.lset (its' := its.dropLast) hH e ?_ r.dropLast ?_, ru, q⟩
  · show its.toArray.eraseIdxIfInBounds (its.toArray.size - 1) = its.dropLast.toArray
    rw [List.size_toArray, List.eraseIdxIfInBounds_toArray, erase_last]
  · rw [List.length_dropLast]
    omega

def rPopAt : V → List V → Hp → VK → Prop := fun x vs H Q => ∃ l xs i k y, x = .ref l ∧ vs = [.int i] ∧ H l = some (.lst xs) ∧ -(2 ^ 63) ≤ i ∧ i < 2 ^ 63 ∧ seqIndex? i xs.length = some k ∧ xs[k]? = some y ∧ Q y (upd H l (.lst (xs.eraseIdx k)))
theorem mt_popAt : MtM X "list.pop" rPopAt := by
  intro pins s σ H x vs v us Q I rx rv h
  obtain ⟨l, xs, i, k, y, rfl, rfl, hH, h1, h2, hk, hy, q⟩ := h
  cases rx
  obtain ⟨u, rfl, ru⟩ := rv.one
  obtain ⟨t, rfl⟩ := ru
  obtain ⟨z, its, n, r, hl, e⟩ := I.lstM hH
  obtain ⟨w, hw, rw'⟩ := r.get hy
  refine call_meets F.slot_list_pop ⟨_, e, rfl⟩ F.entry_list_pop (F.args_list_pop_2 _ _)
    (MeetsSeq.list_pop_at l its.toArray n i t k w (fitsIndex_both h1 h2) (by rw [List.size_toArray, ← hl]; exact hk) (by rw [← Array.getElem?_toList]; exact hw) (by rw [List.size_toArray]; omega)) ⟨e, ?_⟩
  refine ⟨y, _, I.lset (its' := its.eraseIdx k) hH e ?_ (r.eraseIdx k) ?_, rw', q⟩
  · show its.toArray.eraseIdxIfInBounds k = (its.eraseIdx k).toArray
    rw [List.eraseIdxIfInBounds_toArray]
  · have := len_erase xs k
    omega

def rReverse : V → List V → Hp → VK → Prop := fun x vs H Q => ∃ l xs, x = .ref l ∧ vs = [] ∧ H l = some (.lst xs) ∧ Q .non (upd H l (.lst xs.reverse))
def rClear : V → List V → Hp → VK → Prop := fun x vs H Q => ∃ l xs, x = .ref l ∧ vs = [] ∧ H l = some (.lst xs) ∧ Q .non (upd H l (.lst []))
/-! ### list + list, list += list, list * int -/
def rCat : R2 := fun x y H Q => ∃ l b xs zs, x = .ref l ∧ y = .ref b ∧ H l = some (.lst xs) ∧ H b = some (.lst zs) ∧ xs.length + zs.length ≤ sizeLine ∧ ∀ p, H p = none → Q (.ref p) (upd H p (.lst (xs ++ zs)))
theorem op_cat : OpR X (binaryOp .Add) rCat := by
  intro pins s σ H x y v u Q I rx ry h
  obtain ⟨l, b, xs, zs, rfl, rfl, hH, hB, hz, q⟩ := h
  cases rx
  cases ry
  obtain ⟨z, its, n, r, hl, e⟩ := I.lstM hH
  obtain ⟨z2, its2, n2, r2, hl2, e2⟩ := I.lstM hB
  refine PySem.P.add_list e e2 ?_ (by rw [List.size_toArray, List.size_toArray]; omega)
  have ea : its.toArray ++ its2.toArray = (its ++ its2).toArray := by simp
  rw [ea]
  exact ⟨.ref _, _, I.lnew (t' := s.toks) (r.append r2) (by rw [List.length_append]; omega), rfl, q _ I.fresh⟩
/-- a list times an int (a negative one is nothing) -/
def rRep : R2 := fun x y H Q => ∃ l k xs, x = .ref l ∧ y = .int k ∧ H l = some (.lst xs) ∧ -(2 ^ 63) ≤ k ∧ k < 2 ^ 63 ∧ xs.length * k.toNat ≤ sizeLine ∧
  ∀ p, H p = none → Q (.ref p) (upd H p (.lst (List.replicate k.toNat xs).flatten))
/-! ### del xs[i] -/
end

/-! ### xs[a:b] = ys -/
section
variable {prog : Program} {w : World} {A : Around} {E : Value → Shared → Prop} {s : Shared}
set_option maxRecDepth 100000 in
end

section
variable {X : Cx}
end
end L2

namespace Att
open PySem PySem.W PySem.Calls PyProof.Rows

/-! ### the script -/
theorem ints_of_wellAll {P : Params} {h : Heap} : ∀ (ns : List Int) (vs : List Value), WellAll P h vs (ns.map WData.int) → IntsAre vs ns := by
  intro ns
  induction ns with
  | nil =>
    intro vs w
    rw [List.map_nil] at w
    cases w
    exact .nil
  | cons n ns ih =>
    intro vs w
    rw [List.map_cons] at w
    cases w with
    | cons a b =>
      cases a
      exact .cons _ _ (ih _ b)

theorem script_of {l : OpenLaw} {n : Nat} (hn : l.most = some n) {P : Params} {h : Heap} {args : List WData} {vals : List Value}
    (hpre : l.row.toRowW.claim.pre args = true) (hwl : WellAll P h vals args) :
    ∃ a vs ns, vals = [Value.ref a] ∧ args = [WData.list (ns.map WData.int)] ∧ h.get? a = some { cls := .type "list", data := .seq vs.toArray } ∧ IntsAre vs ns ∧ ns.length ≤ n := by
  have hsh : WShape.hasAll [] args [.list .int] = true := (pre_splitW hpre).1
  have hc : l.pre.holds [] { args := args } = true := (pre_splitW hpre).2
  obtain ⟨d, r, rfl, h1, h2⟩ := hasAllW_cons hsh
  obtain rfl := hasAllW_nil h2
  obtain ⟨xs, rfl, h3⟩ := hasW_list h1
  obtain ⟨ns, rfl⟩ := items_int h3
  have hlen : ns.length ≤ n := by
    unfold OpenLaw.pre at hc
    have h4 : (WTm.not (.lt (.lit (.int (n : Int))) (.len (.arg 0)))).holds [] { args := [.list (ns.map .int)] } = true := by
      have h4 := (holds_andW hc).1
      rw [hn] at h4
      exact h4
    have h5 := condW_of h4 (w_not (w_lt w_lit (w_len_list (w_arg rfl))))
    rw [List.length_map] at h5
    refine Nat.le_of_not_lt fun q => ?_
    have q' : (n : Int) < ((ns.length : Nat) : Int) := by omega
    first
      | (rw [decide_eq_true q'] at h5; exact absurd h5 (by decide))
      | (simp at h5; omega)
  cases hwl with
  | cons w1 w2 =>
    cases w2
    cases w1 with
    | list ho hall => exact ⟨_, _, ns, rfl, rfl, ho, ints_of_wellAll ns _ hall, hlen⟩

theorem post_true (l : OpenLaw) (args : List WData) : l.row.toRowW.claim.post args (.bool true) args = true :=
  postW_of (r := l.row.toRowW) (X := (true == true))
    (show WShape.has [] (.bool true) .bool = true by first | rfl | decide | simp [WShape.has, WShape.arms, WShape.armsAll])
    (show (WTm.eq .res (.lit (.bool true))).value [] { args := args, res := some (.bool true), after := args } = some (.bool (true == true)) from w_eq_bool (w_res rfl) w_lit) rfl

/-! ### the attachment: holds_open's last premise (the goal 'hc' behind k_head) from a wpAny of the law's body -/
/-- the same from a codeAny of the CALL (for a layer whose function contracts speak of calls) -/
theorem attach_call {l : OpenLaw} {n : Nat} {q : Program} {loose : List Str} {XP : (Str → Option Value) → Heap → Prop} {YP : World → Heap → Prop} {d : DefRec}
    (hn : l.most = some n) (hdf : d.params.defaults = [])
    (call : ∀ (w : World) (s₀ s₁ : Shared) (mg mb : Str → Option Value) (fa : Addr) (o : Obj) (pm cd doc : Value) (a : Addr) (vs : List Value) (ns : List Int),
      Ground q loose [] XP w s₀ mg mb s₁.heap → YP w s₁.heap →
      s₁.heap.get? fa = some o → o.data = .func (docDef d.name d.params d.body d.scope pm cd doc) → s₁.heap.CodeRec cd d.name → mg d.name = some (.ref fa) →
      s₁.heap.get? a = some { cls := .type "list", data := .seq vs.toArray } → IntsAre vs ns → ns.length ≤ n → s₁.gens = #[] →
      codeAny (model l.prog w) callerA (.call (.ref fa) ⟨[.ref a], []⟩) (fun r s' => r = .ok (.ret (.bool true)) ∧ OldK s₁.heap s'.heap ∧ s'.os = s₁.os ∧ AllBare s'.gens) s₁) :
    WalkO q loose XP YP l.row.toRowW d [] (fun f vs => PySem.call f vs) := by
  intro w s₀ s₁ mg mb G Y fa o pm cd doc dV kV ho hd hcd hD hmg hg args vals as hpre hlay hrd hwl hlo
  obtain rfl : dV = .none := Dflts.none hD hdf
  obtain rfl : kV = .none := Dflts.noKw hD
  obtain ⟨a, vs, ns, rfl, rfl, hobj, hints, hlen⟩ := script_of hn hpre hwl
  refine enter_call (codeAny_mono (call w s₀ s₁ mg mb fa o pm cd doc a vs ns G Y ho (fd_plain hd) hcd hmg hobj hints hlen hg) fun r s' hq => ?_)
  obtain ⟨rfl, h2, h3, h4⟩ := hq
  exact ⟨.inl ⟨.bool true, .bool true, [], rfl, fun _ => rfl, .bool true, post_true l _, fun _ => ⟨List.Pairwise.nil, fun _ hm => (nomatch hm)⟩⟩, h2, h3, h4⟩

/-! ### rules over ANY heap (no ledger) from facts about the written part K: the library's own take a ledger (News) for what they write -/
section
variable {prog : Program} {w : World} {A : Around} {E : Value → Shared → Prop} {s : Shared} {K : Frag}

/-! the whole heap as the ledger: makes every rule that writes through a ledger a rule over any heap -/
def noObjs (h : Heap) : Heap := { h with objs := #[] }
def ledger (h : Heap) (L d : Addr) : List (Addr × Obj) := (List.range h.objs.size).filterMap fun a => if a = L ∨ a = d then none else (h.get? a).map fun o => (a, o)
end
end Att

namespace L2
open PySem PySem.Spec PyProof.Rows

theorem vals_ints : ∀ {vs : List Value} {ns : List Int}, IntsAre vs ns → Vals (ns.map V.int) vs
  | _, _, .nil => .nil
  | _, _, .cons n t h => .cons ⟨t, rfl⟩ (vals_ints h)

/-- nothing is tracked but the script, known to the object (or it is an object of the module) -/
def Only (H : Hp) : Prop := ∀ b, H b = none ∨ ∃ o xs, H b = some (.frz o (.lst xs))

/-- THE HEAD: the law's promise, at the heap behind the top. F, the promise of the law's def, may use that base is part of the heap (so K.In base, base.Ns mainGlobals mg stand in Mod) -/
theorem law_call {P : Program} {w : World} {K : PySem.W.Frag} {mg mb : Str → Option Value} {CX : CXT} {k : Nat} {fa a : Addr} {fd : FuncData} {x : Str} {sp : Sp} {s₁ : Shared} {vs : List Value} {ns : List Int}
    (KX : K.In s₁.heap) (hns : s₁.heap.Ns mainGlobals mg) (hb : s₁.heap.Ns builtinsNs mb) (hbb : ∀ x : Str, x ≠ "__name__" → mb x = bootBuiltins x) (hlim : s₁.heap.NoLimit) (hg : s₁.gens = #[])
    (ha : s₁.heap.get? a = some { cls := .type "list", data := .seq vs.toArray }) (hi : IntsAre vs ns) (hl : ns.length ≤ sizeLine) (hr : Room k callerA)
    (F : ∀ base : Heap, K.In base → base.Ns mainGlobals mg → FnOk P w K mg base CX k fa fd [x] sp) (hbind : ∀ (s : Shared) (u : Value), BindsTo s fd ⟨[u], []⟩ [(x, u)])
    (hsp : ∀ H : Hp, Only H → SqL K H a (ns.map V.int) → sp [.ref a] H (fun v _ => v = .bl true) fun _ _ _ => False)
    (hCX : ∀ H e s', CX [] H s₁ (fun _ _ _ => False) e s' → False) :
    codeAny (model P w) callerA (.call (.ref fa) ⟨[.ref a], []⟩) (fun r s' => r = .ok (.ret (.bool true)) ∧ OldK s₁.heap s'.heap ∧ s'.os = s₁.os ∧ AllBare s'.gens) s₁ := by
  have rv := vals_ints hi
  have lenV := hi.length
  -- from an abstract heap in which nothing but the script may be tracked
  have core : ∀ H : Hp, Only H → SqL K H a (ns.map V.int) → HOk P w H s₁.heap → (∀ b, H b ≠ none → b = a) → (H a ≠ none → K.lookup a = none) →
      codeAny (model P w) callerA (.call (.ref fa) ⟨[.ref a], []⟩) (fun r s' => r = .ok (.ret (.bool true)) ∧ OldK s₁.heap s'.heap ∧ s'.os = s₁.os ∧ AllBare s'.gens) s₁ := by
    intro H hO hS hok hA hK
    have base_of : ∀ {b : Addr} {o : Obj}, s₁.heap.get? b = some o → H b = none → (hidT s₁.heap H).get? b = some o := fun e n => hidT_get e n
    have noA : ∀ {b : Addr} {o : Obj} {es : Array DictEntry} {ep : Nat}, s₁.heap.get? b = some o → o.data = .dict es ep → H b = none := fun {b o es ep} e d => by
      cases q : H b with
      | none => rfl
      | some u =>
        have e' : b = a := hA b (by rw [q]; simp)
        subst e'
        rw [ha] at e; cases e
        have d' : Data.seq vs.toArray _ = Data.dict es ep := d
        cases d'
    have nsK : ∀ {b : Addr} {m : Str → Option Value}, s₁.heap.Ns b m → (hidT s₁.heap H).Ns b m := fun {b m} ⟨o, es, ep, e, d, r⟩ => ⟨o, es, ep, base_of e (noA e d), d, r⟩
    have hKb : K.In (hidT s₁.heap H) := fun b o e => base_of (KX b o e) (by
      cases q : H b with
      | none => rfl
      | some u =>
        have e' : b = a := hA b (by rw [q]; simp)
        subst e'
        rw [hK (by rw [q]; simp)] at e; cases e)
    have hM : Mod K mg (hidT s₁.heap H) := ⟨hKb, nsK hns, ⟨mb, nsK hb, hbb⟩, let ⟨mc, h1, h2⟩ := hlim; ⟨mc, nsK h1, h2⟩⟩
    have e0 : Env0 P w K mg (hidT s₁.heap H) callerA [] s₁ H := ⟨rfl, hM, fun b o e => of_hidT e, Nat.le_of_eq (hidT_size _ _), trivial, fun b hb => absurd (show b ∈ ([] : List Addr) from hb) (by simp), hok, .of_eq hg⟩
    refine codeAny_mono ((F _ hKb (nsK hns)).run callerA [] s₁ H ⟨[.ref a], []⟩ [.ref a] [.ref a] _ _ hr e0 (hbind s₁ (.ref a)) (.cons rfl .nil) (hsp H hO hS)) fun r s' h => ?_
    cases r with
    | error e => exact (hCX H e s' h).elim
    | ok fl =>
      cases fl with
      | next => exact False.elim h
      | brk => exact False.elim h
      | cont => exact False.elim h
      | ret u =>
        obtain ⟨v, H', os, bare, un, hok', r', q⟩ := h
        have q' : v = .bl true := q
        subst q'
        obtain rfl : u = Value.bool true := r'
        refine ⟨rfl, OldK.of_keep fun b o e => ?_, os, bare⟩
        cases q : H b with
        | none => exact un.keep b o e q (by intro z; exact absurd (show b ∈ ([] : List Addr) from z) (by simp)) (by simp)
        | some u =>
          rcases hO b with z | ⟨ob, xs, z⟩
          · rw [q] at z; cases z
          · have z2 := un.frzs b ob _ z
            obtain ⟨e1, _⟩ := hok b _ z
            obtain ⟨e2, _⟩ := hok' b _ z2
            rw [e] at e1; cases e1
            exact e2
  cases hk : K.lookup a with
  | some o =>
    -- the script is one of the module's own objects
    have e := KX a o hk
    rw [ha] at e
    cases e
    refine core (fun _ => none) (fun _ => .inl rfl) (.inr ⟨_, vs.toArray, _, hk, rfl, rfl, rfl, by rw [List.size_toArray, lenV]; exact hl, by simpa using rv⟩) (fun b u z => by have z' : (none : Option HO) = some u := z; cases z') (fun b z => absurd rfl z) fun z => absurd rfl z
  | none =>
    refine core (fun b => if b = a then some (.frz { cls := .type "list", data := .seq vs.toArray } (.lst (ns.map V.int))) else none) (fun b => ?_) (.inl (.inr ⟨{ cls := .type "list", data := .seq vs.toArray }, if_pos rfl⟩)) (fun b u z => ?_) (fun b z => ?_) fun _ => hk
    · by_cases hb : b = a
      · exact .inr ⟨_, _, if_pos hb⟩
      · exact .inl (if_neg hb)
    · by_cases hb : b = a
      · have z' := (if_pos hb).symm.trans z
        cases z'
        subst hb
        exact ⟨ha, by rw [List.length_map]; exact hl, vs, _, rv, ha⟩
      · have z' := (if_neg hb).symm.trans z
        cases z'
    · by_cases hb : b = a
      · exact hb
      · exact absurd (if_neg hb) z
end L2

namespace L2
open PySem PySem.Spec PyProof.Rows

abbrev KOf {K : PySem.W.Frag} {h : Heap} (_ : K.In h) : PySem.W.Frag := K

/-- the goal that k_head leaves (case hc), from the law's promise. F gives the function object fd (K's own) once, then the promise over every base -/
theorem walk_of {l : PySem.W.OpenLaw} {n k : Nat} {q : Program} {loose : List Str} {XP : (Str → Option Value) → Heap → Prop} {YP : World → Heap → Prop} {d : DefRec} {K : Params → PySem.W.Frag} {CX : World → CXT} {sp : World → Sp} {x : Str}
    (hn : l.most = some n) (hn2 : n ≤ sizeLine) (hdf : d.params.defaults = []) (hr : Room k callerA)
    (hY : ∀ (w : World) (h : Heap), YP w h → (K w.params).In h)
    (F : ∀ (w : World) (mg : Str → Option Value) (fa : Addr) (h : Heap), (K w.params).In h → h.Ns mainGlobals mg → mg d.name = some (.ref fa) →
      ∃ fd : FuncData, (∀ (s : Shared) (u : Value), BindsTo s fd ⟨[u], []⟩ [(x, u)]) ∧
        ∀ base : Heap, (K w.params).In base → base.Ns mainGlobals mg → FnOk l.prog w (K w.params) mg base (CX w) k fa fd [x] (sp w))
    (hsp : ∀ (w : World) (H : Hp) (a : Addr) (ns : List Int), ns.length ≤ n → Only H → SqL (K w.params) H a (ns.map V.int) → sp w [.ref a] H (fun v _ => v = .bl true) fun _ _ _ => False)
    (hCX : ∀ (w : World) (H : Hp) (s : Shared) (e : Value) (s' : Shared), CX w [] H s (fun _ _ _ => False) e s' → False) :
    PySem.W.WalkO q loose XP YP l.row.toRowW d [] (fun f vs => PySem.call f vs) := by
  refine Att.attach_call hn hdf fun w s₀ s₁ mg mb fa o pm cd doc a vs ns G Y ho hd hcd hmg hobj hints hlen hg => ?_
  have KX := hY w _ Y
  obtain ⟨fd, hb, hF⟩ := F w mg fa _ KX G.T.g hmg
  exact law_call KX G.T.g G.T.b G.T.builtins G.T.nolimit hg hobj hints (Nat.le_trans hlen hn2) hr hF hb (fun H hO hS => hsp w H a ns hlen hO hS) fun H e s' => hCX w H s₁ e s'
/-- the same where the promise hangs on the written part alone: (sp := My.sp_law), no hole under a binder -/
theorem walk_ofK {l : PySem.W.OpenLaw} {n k : Nat} {q : Program} {loose : List Str} {XP : (Str → Option Value) → Heap → Prop} {YP : World → Heap → Prop} {d : DefRec} {K : Params → PySem.W.Frag} {CX : CXT} {sp : PySem.W.Frag → Sp} {x : Str}
    (hn : l.most = some n) (hn2 : n ≤ sizeLine) (hdf : d.params.defaults = []) (hr : Room k callerA)
    (hY : ∀ (w : World) (h : Heap), YP w h → (K w.params).In h)
    (F : ∀ (w : World) (mg : Str → Option Value) (fa : Addr) (h : Heap), (K w.params).In h → h.Ns mainGlobals mg → mg d.name = some (.ref fa) →
      ∃ fd : FuncData, (∀ (s : Shared) (u : Value), BindsTo s fd ⟨[u], []⟩ [(x, u)]) ∧
        ∀ base : Heap, (K w.params).In base → base.Ns mainGlobals mg → FnOk l.prog w (K w.params) mg base CX k fa fd [x] (sp (K w.params)))
    (hsp : ∀ (K : PySem.W.Frag) (H : Hp) (a : Addr) (ns : List Int), ns.length ≤ n → Only H → SqL K H a (ns.map V.int) → sp K [.ref a] H (fun v _ => v = .bl true) fun _ _ _ => False)
    (hCX : ∀ (H : Hp) (s : Shared) (e : Value) (s' : Shared), CX [] H s (fun _ _ _ => False) e s' → False) :
    PySem.W.WalkO q loose XP YP l.row.toRowW d [] (fun f vs => PySem.call f vs) :=
  walk_of (K := K) (CX := fun _ => CX) (sp := fun w => sp (K w.params)) hn hn2 hdf hr hY F (fun w H a ns h1 h2 h3 => hsp (K w.params) H a ns h1 h2 h3) fun _ H s e s' => hCX H s e s'
end L2

/- THE LAST THEOREM (shape; LID, My.* are yours):
   My.Adr: a structure of the addresses that your layer names (classes, functions); My.Txt K t: a structure (Prop) of the equations over K;
   My.txt_mk : {K} {implicit addresses ..} (e1 : nsIn K mainGlobals "law" = some (some (.ref f))) (e2 : K.lookup f = some ⟨oc, od, .func (fnOf "law" "law" params body scope dV kV doc pm an cdv ct), sl⟩) (e3 : codeIn K cdv "law" = true) .. : ∃ t, My.Txt K t

set_option maxRecDepth 100000 in
set_option maxHeartbeats 0 in
theorem PySem.Challenge.cw_LID_holds : PySem.Challenge.rw_LID.Holds := by
  w_on; o_law; k_head; (case hw => w_witness2)
  k_fill
  refine L2.walk_of (l := PySem.Challenge.rw_LID) (n := 63) (k := 40) (x := "script") (CX := fun w => ..) (sp := fun _ => My.sp_law) rfl (by decide) rfl ⟨rfl, by decide, by decide⟩ (fun w h Y => PySem.W.kIn_of Y) ?F ?S ?C
  case F =>
    intro w mg fa h KX G hmg
    have T : ∃ t, My.Txt (L2.KOf KX) t := by
      dsimp only [L2.KOf]                          -- K must stand as «<heap const> w.params» for k_is
      refine' My.txt_mk ?e1 ?e2 ?e3 ..
      (case e1 => PySem.W.k_is)                    -- in the order: a name -> its address -> its object -> its parts
      (case e2 => PySem.W.k_is)
      ..
    obtain ⟨t, T⟩ := T
    have e0 := hmg.symm.trans (PySem.W.mg_of KX G T.law)
    cases e0                                       -- fa is the law's own address
    exact ⟨_, fun s u => .of_eq rfl, fun base kb nb => My.law_fn T kb nb⟩     -- if «.of_eq rfl» comes too early: refine' ⟨_, ?b, fun base kb nb => My.law_fn T kb nb⟩; exact fun s u => .of_eq rfl
  case S => exact fun w H a ns hl hO hS => ..
  case C => exact ..
(the tactic k_is has no namespace: write k_is) -/

/-! SHORT WORDS over the layer: a def of the text, its body, what a loop and a test want. -/
namespace L2
open PySem PySem.Spec PyProof.Rows

/-! ### the text by places -/
/-- the j-th statement of a class's body -/
def inClass (s : Stmt) (j : Nat) : Stmt := match s with
  | .ClassDef _ _ _ body _ _ _ _ _ _ _ => body.getD j (.Pass ⟨0, 0, 0, 0⟩)
  | _ => .Pass ⟨0, 0, 0, 0⟩
def defArgs (s : Stmt) : Arguments := match s with
  | .FunctionDef _ a _ _ _ _ _ _ _ _ => a
  | _ => { posonlyargs := [], args := [], vararg := none, kwonlyargs := [], kw_defaults := [], kwarg := none, defaults := [] }
def defBody (s : Stmt) : List Stmt := match s with
  | .FunctionDef _ _ b _ _ _ _ _ _ _ => b
  | _ => []
def defScope (s : Stmt) : Scope := match s with
  | .FunctionDef _ _ _ _ _ _ sc _ _ _ => sc
  | _ => { kind := .function, names := [], isGenerator := false, isCoroutine := false }

/-! ### no exception leaves a def -/
abbrev CX0 : CXT := fun _ _ _ _ _ _ => False
abbrev E0 : XK := fun _ _ _ => False
theorem pass0 {X : Cx} : Passes CX0 X E0 := fun _ _ _ _ _ _ _ h => h.elim

/-! ### a def (or method) of the text as it stands behind the top -/
structure Fun (K : PySem.W.Frag) (x qual : Str) (st : Stmt) (f : Addr) (fd : FuncData) : Prop where
  ex : ∃ (oc : Value) (od : Option Addr) (kV doc pm : Value) (an : Option Addr) (cdv ct : Value) (osl : Array (Option Value)),
    fd = PySem.W.fnOf x qual (defArgs st) (defBody st) (defScope st) .none kV doc pm an cdv ct ∧ K.lookup f = some ⟨oc, od, .func fd, osl⟩ ∧ PySem.W.codeIn K cdv qual = true
  kp : PySem.W.keepIn K (.ref f) = true
section
variable {P : Program} {w : World} {K : PySem.W.Frag} {mg : Str → Option Value} {base : Heap}
/-- THE RULE for a def: its body as a term of rules, and the reading of that term -/
theorem Fun.ok {x qual : Str} {st : Stmt} {f : Addr} {fd : FuncData} {N ps : List Str} {k : Nat} {sp : Sp} (F : Fun K x qual st f fd) (S : FnScope N ps (defScope st)) (len : ∀ vs H Q E, sp vs H Q E → vs.length = ps.length)
    (hbody : ∀ (cdv : Value) (A : Around) (outer : List Env) (s : Shared) (H : Hp) (vs : List V) (Q : VK) (E : XK), Room k (A.deeper (envOfC qual (defScope st) s.heap.objs.size f cdv)) → sp vs H Q E →
      ∃ t, PSs (cxOf CX0 P w K mg base N qual (defScope st) f cdv A outer s H E).nox (defBody st) t ∧ t { nx := fun _ H' => Q .non H', rt := Q } (start N vs) H) : FnOk P w K mg base CX0 (k + 1) f fd ps sp := by
  obtain ⟨oc, od, kV, doc, pm, an, cdv, ct, osl, rfl, lk, hcd⟩ := F.ex
  refine fn_of lk hcd S len fun A outer s H vs Q E hr hsp => ?_
  obtain ⟨t, h, q⟩ := hbody cdv A outer s H vs Q E hr hsp
  exact ⟨t, h.nox, q⟩
/-- how its arguments bind (no defaults): h is «fun _ _ _ _ _ _ us hl => match us, hl with | [_, _], _ => rfl», one _ a parameter -/
theorem Fun.binds {x qual : Str} {st : Stmt} {f : Addr} {fd : FuncData} {ps : List Str} (F : Fun K x qual st f fd)
    (h : ∀ (kV doc pm : Value) (an : Option Addr) (cdv ct : Value) (us : List Value), us.length = ps.length → bindArgs (PySem.W.fnOf x qual (defArgs st) (defBody st) (defScope st) .none kV doc pm an cdv ct) ⟨us, []⟩ = pure (ps.zip us)) : Binds K fd ps [] := by
  obtain ⟨oc, od, kV, doc, pm, an, cdv, ct, osl, rfl, lk, hcd⟩ := F.ex
  exact .all (h kV doc pm an cdv ct)
theorem fun_mk {x qual : Str} {st : Stmt} {f : Addr} {oc : Value} {od an : Option Addr} {osl : Array (Option Value)} {kV doc pm cdv ct : Value} (l : K.lookup f = some ⟨oc, od, .func (PySem.W.fnOf x qual (defArgs st) (defBody st) (defScope st) .none kV doc pm an cdv ct), osl⟩)
    (c : PySem.W.codeIn K cdv qual = true) (k : PySem.W.keepIn K (.ref f) = true) : Fun K x qual st f (PySem.W.fnOf x qual (defArgs st) (defBody st) (defScope st) .none kV doc pm an cdv ct) := ⟨⟨oc, od, kV, doc, pm, an, cdv, ct, osl, rfl, l, c⟩, k⟩
end
theorem hu_of {A : Around} {k : Nat} (hr : Room k A) : A.units + 1 < cLine := Nat.lt_of_le_of_lt (Nat.add_le_add_left (by decide : 1 ≤ 64) _) hr.units
theorem small1000 {n : Nat} (h : n ≤ 1000) : n < sizeLine := Nat.lt_of_le_of_lt h (by decide)

/-! ### expressions in short: the name that stands in the i-th slot -/
section
variable {X : Cx}
theorem pv (i : Nat) {x : Str} {pos : Pos} (hN : X.N[i]? = some x := by rfl) (hv : Vis X.env.scope x := by first | exact Or.inl rfl | exact Or.inr (Or.inl rfl) | exact Or.inr (Or.inr rfl)) (hd : (x == ("__debug__" : Str)) = false := by decide)
    (hcd : (x == ("__classdict__" : Str)) = false := by decide) : PE X (.Name x pos) (tVar i) := pe_var hN hv hd hcd
end

/-! ### tests -/
theorem iteF {A B : Prop} (h : B) : if false = true then A else B := by
  rw [if_neg Bool.false_ne_true]
  exact h
theorem iteT {A B : Prop} (h : A) : if true = true then A else B := by
  rw [if_pos rfl]
  exact h
theorem ite2 {c A B : Prop} [Decidable c] (h1 : c → A) (h2 : ¬ c → B) : if c then A else B := by
  by_cases h : c
  · rw [if_pos h]
    exact h1 h
  · rw [if_neg h]
    exact h2 h
/-! ### heaps -/
/-- all that was tracked is as it was -/
def Same (H H' : Hp) : Prop := ∀ b o, H b = some o → H' b = some o
theorem Same.refl (H : Hp) : Same H H := fun _ _ h => h
theorem Same.trans {H H1 H2 : Hp} (a : Same H H1) (b : Same H1 H2) : Same H H2 := fun c o h => b c o (a c o h)
theorem Same.seq {K : PySem.W.Frag} {H H' : Hp} {a : Addr} {xs : List V} (e : Same H H') (h : SqL K H a xs) : SqL K H' a xs := by
  rcases h with (h | ⟨o, h⟩) | h
  · exact .inl (.inl (e _ _ h))
  · exact .inl (.inr ⟨o, e _ _ h⟩)
  · exact .inr h

end L2

set_option linter.all false
namespace L2
open PySem

/-- what a block closes over -/
theorem closure_of {scope : Scope} {env : Env} (h : ∀ x, (x, NameKind.free) ∈ scope.names → ∃ c, env.cells.lookup x = some c) :
    ∃ cl, closureFor scope env = pure cl ∧ (∀ x c, cl.lookup x = some c → env.cells.lookup x = some c) ∧ ∀ x, (x, NameKind.free) ∈ scope.names → ∃ c, cl.lookup x = some c := by
  have all : ∀ (ns : List (Str × NameKind)) (cs : List (Str × Addr)), (∀ x, (x, NameKind.free) ∈ ns → ∃ c, env.cells.lookup x = some c) → (∀ x c, cs.lookup x = some c → env.cells.lookup x = some c) →
      ∃ cl, (forIn ns cs (fun (q : Str × NameKind) r => if (q.2 == NameKind.free) = true then (cellOf env q.1 >>= fun a => pure (ForInStep.yield ((q.1, a) :: r))) else pure (ForInStep.yield r)) : Sem (List (Str × Addr))) = pure cl ∧
        (∀ x c, cl.lookup x = some c → env.cells.lookup x = some c) ∧ (∀ x, (x, NameKind.free) ∈ ns → ∃ c, cl.lookup x = some c) ∧ ∀ x, (∃ c, cs.lookup x = some c) → ∃ c, cl.lookup x = some c := by
    intro ns
    induction ns with
    | nil => intro cs _ hc; exact ⟨cs, rfl, hc, fun x z => absurd z (by simp), fun x z => z⟩
    | cons q r ih =>
      intro cs hn hc
      obtain ⟨x, k⟩ := q
      rw [List.forIn_cons]
      by_cases hk : k = NameKind.free
      · subst hk
        obtain ⟨c, hx⟩ := hn x List.mem_cons_self
        obtain ⟨cl, e, h1, h2, h3⟩ := ih ((x, c) :: cs) (fun y z => hn y (List.mem_cons_of_mem _ z)) (fun y d z => by
          rw [List.lookup_cons] at z
          cases q : y == x with
          | true => rw [q] at z; cases z; rw [eq_of_beq q]; exact hx
          | false => rw [q] at z; exact hc y d z)
        refine ⟨cl, ?_, h1, fun y z => ?_, fun y z => ?_⟩
        · simp only [cellOf, hx, beq_self_eq_true, if_true, pure_bind]
          exact e
        · rcases List.mem_cons.mp z with z | z
          · have : y = x := congrArg Prod.fst z
            subst this
            exact h3 y ⟨c, by simp [List.lookup_cons]⟩
          · exact h2 y z
        · obtain ⟨d, z⟩ := z
          refine h3 y ?_
          rw [List.lookup_cons]
          cases q : y == x with
          | true => exact ⟨c, rfl⟩
          | false => exact ⟨d, z⟩
      · have hb : (k == NameKind.free) = false := by simpa using hk
        obtain ⟨cl, e, h1, h2, h3⟩ := ih cs (fun y z => hn y (List.mem_cons_of_mem _ z)) hc
        refine ⟨cl, ?_, h1, fun y z => ?_, h3⟩
        · simp only [hb, Bool.false_eq_true, if_false, pure_bind]
          exact e
        · rcases List.mem_cons.mp z with z | z
          · exact absurd (congrArg Prod.snd z).symm hk
          · exact h2 y z
  obtain ⟨cl, e, h1, h2, _⟩ := all scope.names [] h (fun x c z => by simp at z)
  refine ⟨cl, ?_, h1, h2⟩
  show (forIn scope.names [] _ >>= fun cs => pure cs) = pure cl
  rw [bind_pure]
  exact e

/-- a name that is no local of the block is free in it -/
theorem relabel_free {scope : Scope} {env : Env} (hc : ∀ y ∈ scope.names, y.2 ≠ .cell) {x : Str} (h : (relabel scope env).names.lookup x = some .cell ∨ (relabel scope env).names.lookup x = some .free) : (x, NameKind.free) ∈ scope.names := by
  have all : ∀ (ns : List (Str × NameKind)), (∀ y ∈ ns, y.2 ≠ .cell) →
      ((ns.map fun (n, k) => if (k == NameKind.free && env.scope.kind == .function && env.kindOf n == some .cell) then (n, NameKind.cell) else (n, k)).lookup x = some .cell ∨
       (ns.map fun (n, k) => if (k == NameKind.free && env.scope.kind == .function && env.kindOf n == some .cell) then (n, NameKind.cell) else (n, k)).lookup x = some .free) → (x, NameKind.free) ∈ ns := by
    intro ns
    induction ns with
    | nil => intro _ z; simp at z
    | cons q r ih =>
      intro hn z
      obtain ⟨n, k⟩ := q
      have ih' := ih (fun y hy => hn y (List.mem_cons_of_mem _ hy))
      have hk := hn (n, k) List.mem_cons_self
      simp only [List.map_cons] at z
      by_cases hcd : (k == NameKind.free && env.scope.kind == .function && env.kindOf n == some .cell) = true
      · have kf : k = NameKind.free := by
          have := (Bool.and_eq_true _ _ ▸ hcd)
          simp only [Bool.and_eq_true] at hcd
          exact eq_of_beq hcd.1.1
        simp only [hcd, if_true, List.lookup_cons] at z
        cases e : x == n with
        | true => rw [eq_of_beq e, kf]; exact List.mem_cons_self
        | false => rw [e] at z; exact List.mem_cons_of_mem _ (ih' z)
      · simp only [hcd, Bool.false_eq_true, if_false, List.lookup_cons] at z
        cases e : x == n with
        | true =>
          rw [e] at z
          rcases z with z | z
          · exact absurd (Option.some.inj z) hk
          · rw [eq_of_beq e, Option.some.inj z]; exact List.mem_cons_self
        | false => rw [e] at z; exact List.mem_cons_of_mem _ (ih' z)
  exact all scope.names hc h

section
variable {prog : Program} {w : World} {A : Around} {R : Result → Shared → Prop} {s : Shared}
/-- the tests of a block -/
abbrev ifsOf (ifs : List Expr) (env : Env) : Sem Bool := forIn ifs true fun c r => if r = true then do let ok ← isTrue c env (eval c env); pure (ForInStep.yield ok) else pure (ForInStep.yield r)
/-- the block's loop, nothing raised in it -/
theorem blk_loop {elt target iter : Expr} {ifs : List Expr} {scope : Scope} {pos : Pos} {it acc : Value} {env : Env} (I : Nat → Shared → Prop)
    (turn : ∀ n s, I n s → wpAny (model prog w) A (pyNext it) (fun r s1 => match r with
      | none => R (.ok .next) s1
      | some v => wpAny (model prog w) A (letOwnedTupleGo target it v) (fun _ s2 => wpAny (model prog w) A (assign target env v) (fun _ s3 => wpAny (model prog w) A (ifsOf ifs env) (fun ok s4 =>
          if ok = true then wpAny (model prog w) A (eval elt env) (fun x s5 => wpAny (model prog w) A (call (.builtin "list.append") [acc, x]) (fun _ s6 => ∃ m, m < n ∧ I m s6) (fun _ _ => False) s5) (fun _ _ => False) s4
          else ∃ m, m < n ∧ I m s4) (fun _ _ => False) s3) (fun _ _ => False) s2) (fun _ _ => False) s1) (fun _ _ => False) s)
    (n : Nat) (h : I n s) : codeAny (model prog w) A (.compLoop (.ListComp elt [⟨target, iter, ifs, 0⟩] scope pos) 0 it acc env) R s := by
  refine codeAny_loop rfl I (fun n s hI => ?_) n h
  have core : wpAny (model prog w) A (compTurn (.ListComp elt [⟨target, iter, ifs, 0⟩] scope pos) 0 it acc env)
      (fun fin s' => match fin with | .done f => R (.ok f) s' | .again c' => c' = .compLoop (.ListComp elt [⟨target, iter, ifs, 0⟩] scope pos) 0 it acc env ∧ ∃ m, m < n ∧ I m s') (fun _ _ => False) s := by
    rw [compTurn_list]
    refine wpAny_bind (wpAny_standAt (wpAny_bind (wpAny_mono (turn n s hI) (fun r s1 h1 => ?_) fun _ _ e => e)))
    cases r with
    | none => exact wpAny_pure h1
    | some v =>
      refine wpAny_bind (wpAny_mono h1 (fun _ s2 h2 => ?_) fun _ _ e => e)
      refine wpAny_bind (wpAny_mono h2 (fun _ s3 h3 => wpAny_bind (wpAny_mono h3 (fun ok s4 h4 => ?_) fun _ _ e => e)) fun _ _ e => e)
      cases ok with
      | false => exact wpAny_pure ⟨rfl, h4⟩
      | true =>
        exact wpAny_bind (wpAny_bind (wpAny_mono h4 (fun x s5 h5 => wpAny_bind (wpAny_mono h5 (fun _ s6 h6 => wpAny_pure (wpAny_pure ⟨rfl, h6⟩)) fun _ _ e => e)) fun _ _ e => e))
  show wpAny _ A ((compTurn (.ListComp elt [⟨target, iter, ifs, 0⟩] scope pos) 0 it acc env).onRaise (fun x => do noteFrame x env; theTreesLotGoes x)) _ _ s
  exact wpAny_noted (wpAny_mono core (fun _ _ q => q) fun _ _ e => e.elim)
end
end L2

set_option linter.all false
set_option maxHeartbeats 4000000
set_option maxRecDepth 100000
namespace L2
open PySem PySem.Spec PyProof.Rows

/-! ### comprehensions -/
/-- the block's names: its own, then those that it closes over, by their places in the def -/
def capN (N : List Str) (own : List Str) (cap : List Nat) : List Str := own ++ cap.map fun j => N.getD j Str.empty
def capS (own : List Str) (cap : List Nat) (σ : St) : St := own.map (fun _ => (none : Option V)) ++ cap.map fun j => (σ[j]?).getD none
/-- σ' knows what σ knows -/
structure Wk (σ σ' : St) : Prop where
  len : σ'.length = σ.length
  val : ∀ (i : Nat) v, σ[i]? = some (some v) → σ'[i]? = some (some v)
theorem Wk.set {σ : St} {i : Nat} {x : V} (h : σ[i]? = some none) : Wk σ (σ.set i (some x)) := by
  refine ⟨by simp, fun j v e => ?_⟩
  by_cases ij : i = j
  · subst ij; rw [h] at e; cases e
  · rw [List.getElem?_set_ne ij]; exact e

structure Blk (esc : Scope) (N : List Str) (scope : Scope) (own : List Str) (cap : List Nat) : Prop where
  kind : scope.kind = .function
  nocell : ∀ y ∈ scope.names, y.2 ≠ .cell
  names : ∀ y ∈ scope.names, y.2 = .local → scope.names.lookup y.1 = some .local
  free : ∀ y ∈ scope.names, y.2 = .free → esc.names.lookup y.1 = some .cell ∨ esc.names.lookup y.1 = some .free
  capf : ∀ j ∈ cap, scope.names.lookup (N.getD j Str.empty) = some .free

abbrev Cx.blk (X : Cx) (scope : Scope) (cl : List (Str × Addr)) (C : Addr) (N' : List Str) (s2 : Shared) (H2 : Hp) (ex : List Addr) : Cx where
  prog := X.prog
  w := X.w
  K := X.K
  mg := X.mg
  base := X.base
  A := X.A
  N := N'
  s₀ := s2
  H₀ := H2
  env := compEnvC scope cl C X.env
  outer := X.stack
  stack := X.stack
  ex := ex
  fn := fun _ => false
  calm := X.calm
  pn := []
  xe := fun _ _ => False

theorem lookup_relabel_free {env : Env} : ∀ {names : List (Str × NameKind)} {x : Str}, names.lookup x = some .free →
    (names.map fun (n, k) => if (k == NameKind.free && env.scope.kind == .function && env.kindOf n == some .cell) then (n, NameKind.cell) else (n, k)).lookup x = some .cell ∨
    (names.map fun (n, k) => if (k == NameKind.free && env.scope.kind == .function && env.kindOf n == some .cell) then (n, NameKind.cell) else (n, k)).lookup x = some .free
  | [], _, h => by simp at h
  | (n, k) :: r, x, h => by
    have ih := @lookup_relabel_free env r x
    simp only [List.map_cons]
    rw [List.lookup_cons] at h
    by_cases hc : (k == NameKind.free && env.scope.kind == .function && env.kindOf n == some .cell) = true
    · simp only [hc, if_true, List.lookup_cons]
      cases e : x == n with
      | true => exact .inl rfl
      | false => rw [e] at h; exact ih h
    · simp only [hc, Bool.false_eq_true, if_false, List.lookup_cons]
      cases e : x == n with
      | true => rw [e] at h; exact .inr h
      | false => rw [e] at h; exact ih h

section
variable {X : Cx} {pins : List (Addr × Obj)} {σ : St} {H2 : Hp} {s2 : Shared} {scope : Scope} {own : List Str} {cap : List Nat} {cl : List (Str × Addr)} {fp : List Addr} {C : Addr}

theorem blk_ok (B : Blk X.env.scope X.N scope own cap) (I2 : Inv X pins σ H2 s2) (f2 : ∀ b ∈ fp, FpOk X pins H2 b) (fl : ∀ b ∈ fp, b < s2.heap.objs.size) (hC : s2.heap.objs.size ≤ C)
    (h1 : ∀ x c, cl.lookup x = some c → X.env.cells.lookup x = some c) (h2 : ∀ x, (x, NameKind.free) ∈ scope.names → ∃ c, cl.lookup x = some c) : (X.blk scope cl C (capN X.N own cap) s2 H2 fp).Ok where
  mod := I2.ok.mod
  kind := B.kind
  glob := I2.ok.glob
  blt := I2.ok.blt
  above := hC
  inj := fun x y c e1 e2 => I2.ok.inj x y c (h1 x c e1) (h1 y c e2)
  has := fun x hx => h2 x (relabel_free B.nocell hx)
  cab := fun x c hx => absurd hx Bool.false_ne_true
  hd := I2.ok.hd
  frames := I2.ok.frames
  stk := .inl rfl
  exf := fun b hb => ⟨Nat.ne_of_lt (Nat.lt_of_lt_of_le (fl b hb) hC), fun x c e => (f2 b hb).2.2.2.2.1 x c (h1 x c e)⟩
  bs := I2.bs
  bsz := Nat.le_trans I2.ok.bsz I2.sz
  noex := fun b o e hb => by
    rcases (f2 b hb).2.2.2.1 with z | z
    · exact I2.ok.noex b o e z
    · exact absurd (Nat.lt_of_lt_of_le (Heap.lt_size e) (Nat.le_trans I2.ok.bsz z)) (Nat.lt_irrefl _)
  exfs := fun b hb hz => by
    rcases List.mem_cons.mp (I2.stkSub b hz) with z | z
    · exact (f2 b hb).2.1 z
    · exact (f2 b hb).2.2.1 z
  funs := I2.stack
  frf := I2.stkFree

/-- the block begins -/
theorem blk_start {h4 : Heap} {tk : Nat} {m : Str → Option Value} {D : Addr} {o : Obj} (B : Blk X.env.scope X.N scope own cap) (I2 : Inv X pins σ H2 s2) (f2 : ∀ b ∈ fp, FpOk X pins H2 b) (fl : ∀ b ∈ fp, b < s2.heap.objs.size) (hC : s2.heap.objs.size ≤ C)
    (h1 : ∀ x c, cl.lookup x = some c → X.env.cells.lookup x = some c) (h2 : ∀ x, (x, NameKind.free) ∈ scope.names → ∃ c, cl.lookup x = some c)
    (kp : ∀ b o, s2.heap.get? b = some o → h4.get? b = some o) (hn : h4.Ns C m) (hD : h4.get? D = some o) (hDs : s2.heap.objs.size ≤ D) (hDC : D ≠ C) (hod : ∀ v, o.data ≠ .cell v) :
    Inv (X.blk scope cl C (capN X.N own cap) s2 H2 fp) [(D, o)] (capS own cap σ) H2 { s2 with heap := h4, toks := tk } where
  ok := blk_ok B I2 f2 fl hC h1 h2
  os := rfl
  bare := I2.bare
  base := Un.kept kp
  loc := by
    refine ⟨m, hn, fun i x v e1 e2 _ => ?_⟩
    have e1 : (capN X.N own cap)[i]? = some x := e1
    unfold capS at e2
    unfold capN at e1
    by_cases hi : i < own.length
    · rw [List.getElem?_append_left (by simpa using hi), List.getElem?_map] at e2
      cases q : own[i]? with
      | none => rw [q] at e2; cases e2
      | some y => rw [q] at e2; cases e2
    · rw [List.getElem?_append_right (by simpa using hi), List.getElem?_map, List.length_map] at e2
      rw [List.getElem?_append_right (by omega), List.getElem?_map] at e1
      cases q : cap[i - own.length]? with
      | none => rw [q] at e2; cases e2
      | some j =>
        rw [q] at e1 e2
        have hx : X.N.getD j Str.empty = x := Option.some.inj e1
        have hv : (σ[j]?).getD none = some v := Option.some.inj e2
        have hσ : σ[j]? = some (some v) := by
          cases z : σ[j]? with
          | none => rw [z] at hv; cases hv
          | some y => rw [z] at hv; exact congrArg some hv
        have hj : j < X.N.length := by rw [← I2.len]; exact (List.getElem?_eq_some_iff.mp hσ).1
        have hNj : X.N[j]? = some x := by
          rw [← hx, List.getD_eq_getElem?_getD, List.getElem?_eq_getElem hj]; rfl
        have hf := B.capf j (List.mem_of_getElem? q)
        rw [hx] at hf
        have hk := B.free (x, .free) (mem_of_lookup hf) rfl
        obtain ⟨m2, _, hl⟩ := I2.loc
        obtain ⟨u, r, lk⟩ := hl j x v hNj hσ (.inr hk)
        refine ⟨u, r, .inr ⟨lookup_relabel_free hf, ?_⟩⟩
        rcases lk with ⟨z, _⟩ | ⟨_, c, ec, ic⟩
        · have z' : X.env.scope.names.lookup x = some .local := z
          rcases hk with q | q <;> (rw [z'] at q; cases q)
        · obtain ⟨c', e'⟩ := h2 x (mem_of_lookup hf)
          have e'' := h1 x c' e'
          rw [ec] at e''
          cases e''
          obtain ⟨oc, hoc, hd⟩ := ic
          exact ⟨c, e', oc, kp _ _ hoc, hd⟩
  cell := fun x c e => by
    obtain ⟨v, oc, hoc, hd⟩ := I2.cell x c (h1 x c e)
    exact ⟨v, oc, kp _ _ hoc, hd⟩
  free := I2.hok.fresh hC
  freeC := fun x c e => I2.freeC x c (h1 x c e)
  pin := fun p hp => by
    have e : p = (D, o) := by simpa using hp
    subst e
    exact ⟨hD, I2.hok.fresh hDs, hDC, fun hz => by
      obtain ⟨_, q, hq, _⟩ := I2.stack.mem hz
      exact absurd (Nat.lt_of_lt_of_le (Heap.lt_size hq) hDs) (Nat.lt_irrefl _), hod⟩
  hok := I2.hok.kept kp
  len := by
    show (capS own cap σ).length = (capN X.N own cap).length
    unfold capS capN
    simp

/-- the tests of a block -/
def PIf (X : Cx) (ifs : List Expr) (t : TT) : Prop :=
  ∀ (pins : List (Addr × Obj)) (s : Shared) (σ : St) (H : Hp) (Q : Bool → Hp → Prop), Inv X pins σ H s → t σ H Q → wpAny (model X.prog X.w) X.A (ifsOf ifs X.env) (TP X pins σ Q) X.xe s
def tYes : TT := fun _ H Q => Q true H
theorem pif_nil : PIf X [] tYes := fun _ _ _ H _ I h => wpAny_tests_nil ⟨H, I, h⟩
/-- what a block is to do: W: by the turn, a measure, what was gathered, the heap -/
def tBlk (own : List Str) (cap : List Nat) (g : TG) (tt : TT) (te : TE) (σ : St) (Z : List V → Hp → Prop) (J : It) (H1 : Hp) : Prop :=
  ∃ W : Nat → Nat → List V → Hp → Prop, (∃ m, W 0 m [] H1) ∧ ∀ i m acc H2, W i m acc H2 → acc.length < sizeLine ∧
    ((J.stop i H2 ∧ Z acc H2) ∨
     (J.go i H2 ∧ ∀ x H3, J.yld i H2 x H3 → g x (capS own cap σ) H3 fun σ4 H4 => Wk (capS own cap σ) σ4 ∧ tt σ4 H4 fun b H5 =>
        if b = true then te σ4 H5 fun v H6 => ∃ m', m' < m ∧ W (i + 1) m' (acc ++ [v]) H6 else ∃ m', m' < m ∧ W (i + 1) m' acc H5))

theorem blk_run {tg elt iter : Expr} {ifs : List Expr} {pos : Pos} {g : TG} {tt : TT} {te : TE} {J : It} {it : Addr} {tn : Nat → Heap → Prop} {Z : List V → Hp → Prop} {E : Value → Shared → Prop} {RR : Value → Addr → Result → Shared → Prop}
    (hc : X.calm = true) (B : Blk X.env.scope X.N scope own cap) (I2 : Inv X pins σ H2 s2) (T : Turn X.prog X.w X.K tg J fp it tn) (st2 : tn 0 s2.heap) (f2 : ∀ b ∈ fp, FpOk X pins H2 b)
    (h1 : ∀ x c, cl.lookup x = some c → X.env.cells.lookup x = some c) (h2 : ∀ x, (x, NameKind.free) ∈ scope.names → ∃ c, cl.lookup x = some c)
    (hg : ∀ cl C s2 H2 ex, PG (X.blk scope cl C (capN X.N own cap) s2 H2 ex) tg g) (ht : ∀ cl C s2 H2 ex, PIf (X.blk scope cl C (capN X.N own cap) s2 H2 ex) ifs tt) (he : ∀ cl C s2 H2 ex, PE (X.blk scope cl C (capN X.N own cap) s2 H2 ex) elt te)
    (w : tBlk own cap g tt te σ Z J H2)
    (hRR : ∀ (D C : Addr) (acc : List V) (H' : Hp) (s' : Shared), Inv X pins σ (upd H' D (.lst acc)) s' → D ≠ C → H' D = none → H' C = none → (∃ m, s'.heap.Ns C m) →
      (∀ σ'' H'' s'' h', Inv X pins σ'' H'' s'' → H'' C = none → Heap.SameBut C s''.heap h' → Inv X pins σ'' H'' { s'' with heap := h' }) → (∀ x c, X.env.cells.lookup x = some c → c ≠ C) → C ≠ X.env.locals → Z acc H' → RR (.ref D) C (.ok .next) s') :
    wpAny (model X.prog X.w) X.A (newList []) (fun acc s3 => wpAny (model X.prog X.w) X.A (newFunctionEnv scope X.env.globals cl [] X.env.qual none .none (some X.env)) (fun cenv s4 =>
      codeAny (model X.prog X.w) X.A (.compStart (.ListComp elt [⟨tg, iter, ifs, 0⟩] scope pos) 0 (.ref it) acc { cenv with scope := relabel scope X.env }) (RR acc cenv.locals) s4) E s3) E s2 := by
  obtain ⟨W, ⟨m0, w0⟩, turn⟩ := w
  have fl : ∀ b ∈ fp, b < s2.heap.objs.size := fun b hb => by obtain ⟨o, ho, _⟩ := T.obj 0 _ st2 b hb; exact Heap.lt_size ho
  refine wpAny_newObj_type (wpAny_newFunctionEnv B.nocell (by intro y hy; simp at hy) (fun h4 hns hsb => ?_) B.kind)
  dsimp only at hns hsb ⊢
  generalize hH3 : s2.heap.push { cls := .type "list", dict := none, data := .seq ([] : List Value).toArray } = H3 at hns hsb ⊢
  have hCs : H3.objs.size = s2.heap.objs.size + 1 := by rw [← hH3, Heap.size_push]
  have hDC : s2.heap.objs.size ≠ H3.objs.size := by rw [hCs]; exact Nat.ne_of_lt (Nat.lt_succ_self _)
  have hC : s2.heap.objs.size ≤ H3.objs.size := by rw [hCs]; exact Nat.le_succ _
  have kp : ∀ b o, s2.heap.get? b = some o → h4.get? b = some o := fun b o e => hsb.extBut b o (Nat.ne_of_lt (Nat.lt_of_lt_of_le (Heap.lt_size e) hC)) (Heap.get?_push_of_some _ (hH3 ▸ Heap.get?_push_of_some _ e))
  have hD4 : h4.get? s2.heap.objs.size = some { cls := .type "list", data := .seq ([] : List Value).toArray 0 } := hsb.extBut _ _ hDC (Heap.get?_push_of_some _ (hH3 ▸ Heap.get?_push_size _ rfl))
  generalize hCe : H3.objs.size = C at hns hsb hCs hDC hC ⊢
  generalize hDe : s2.heap.objs.size = D at hD4 hDC ⊢
  have hDs : s2.heap.objs.size ≤ D := Nat.le_of_eq hDe
  have flD : ∀ b ∈ fp, b ≠ D := fun b hb z => by have := fl b hb; rw [z, hDe] at this; exact Nat.lt_irrefl _ this
  have celD : ∀ x c, cl.lookup x = some c → c ≠ D := fun x c e z => by
    obtain ⟨v, q⟩ := I2.cell x c (h1 x c e)
    have := q.lt
    rw [z, hDe] at this
    exact Nat.lt_irrefl _ this
  let Y : Cx := X.blk scope cl C (capN X.N own cap) s2 H2 fp
  have lo : ∀ (its : List Value) (ep : Nat) (v : Option Value), ({ cls := .type "list", data := .seq its.toArray ep } : Obj).data ≠ .cell v := fun its ep v z => by
    have z' : Data.seq its.toArray ep = Data.cell v := z
    cases z'
  -- what stays true of the iterator's objects
  have fpY : ∀ {H' : Hp} {its : List Value} {ep : Nat}, (∀ b ∈ fp, H' b = none) → ∀ b ∈ fp, FpOk Y [(D, ({ cls := .type "list", data := .seq its.toArray ep } : Obj))] H' b := fun {H' its ep} hn b hb => by
    refine ⟨hn b hb, Nat.ne_of_lt (Nat.lt_of_lt_of_le (fl b hb) hC), fun hz => ?_, .inl hb, fun x c e => (f2 b hb).2.2.2.2.1 x c (h1 x c e), fun p hp => ?_⟩
    · rcases List.mem_cons.mp (I2.stkSub b hz) with z | z
      · exact (f2 b hb).2.1 z
      · exact (f2 b hb).2.2.1 z
    · rcases List.mem_append.mp hp with hp | hp
      · exact absurd (show p ∈ ([] : List (Addr × Obj)) from hp) (by simp)
      · have e : p = (D, ({ cls := .type "list", data := .seq its.toArray ep } : Obj)) := by simpa using hp
        subst e
        exact Ne.symm (flD b hb)
  have loop : ∀ s4 : Shared, s4 = { s2 with heap := h4, toks := s2.toks + ([] : List (Str × Value)).length } →
      codeAny (model X.prog X.w) X.A (.compLoop (.ListComp elt [⟨tg, iter, ifs, 0⟩] scope pos) 0 (.ref it) (.ref D) (compEnvC scope cl C X.env)) (RR (.ref D) C) s4 := by
    rintro s4 rfl
    refine blk_loop (fun n s' => ∃ i acc its ep H', Inv Y [(D, ({ cls := .type "list", data := .seq its.toArray ep } : Obj))] (capS own cap σ) H' s' ∧ tn i s'.heap ∧ (∀ b ∈ fp, H' b = none) ∧ Vals acc its ∧ W i n acc H') ?_ m0
      ⟨0, [], [], 0, H2, blk_start B I2 f2 fl hC h1 h2 kp hns hD4 hDs hDC (lo [] 0), T.keep 0 _ _ st2 fun b _ o e => kp b o e, fun b hb => (f2 b hb).1, .nil, w0⟩
    rintro n s5 ⟨i, acc, its, ep, H5, I5, st5, fr5, vl, w5⟩
    obtain ⟨room, alt⟩ := turn i n acc H5 w5
    have vlen := vl.length
    rcases alt with ⟨stop, zq⟩ | ⟨go, step⟩
    · refine thn (T.done Y rfl rfl rfl hc i _ s5 _ H5 (fun _ _ => False) I5 (fpY fr5) st5 stop) fun r s6 ⟨hr, I6⟩ => ?_
      subst hr
      show RR (.ref D) C (.ok .next) s6
      have pD := I6.pin (D, ({ cls := .type "list", data := .seq its.toArray ep } : Obj)) (List.mem_append_right _ (List.mem_singleton.mpr rfl))
      have fC : H5 C = none := I6.free
      have nD : ∀ b u, H5 b = some u → b ≠ D := fun b u e z => by rw [z, pD.2.1] at e; cases e
      have bD : ∀ b o, s2.heap.get? b = some o → b ≠ D := fun b o e z => by have := Heap.lt_size e; rw [z, hDe] at this; exact Nat.lt_irrefl _ this
      have un : Un (frs X.stack) fp H2 (upd H5 D (.lst acc)) s2.heap s6.heap :=
        ⟨I6.base.keep, I6.base.slot, fun b o e n x => by rw [upd_ne (bD b o e)]; exact I6.base.free b o e n x, I6.base.there,
          fun b xs e => by have q := I6.base.tups b xs e; rw [upd_ne (nD b _ q)]; exact q, fun b o u e => by have q := I6.base.frzs b o u e; rw [upd_ne (nD b _ q)]; exact q,
          fun b ps e => by obtain ⟨mo, q⟩ := I6.base.tbls b ps e; exact ⟨mo, by rw [upd_ne (nD b _ q)]; exact q⟩⟩
      have hok : HOk X.prog X.w (upd H5 D (.lst acc)) s6.heap := fun b u e => by
        by_cases hb : b = D
        · subst hb
          rw [upd_same] at e
          cases e
          exact ⟨Nat.le_of_lt room, its, ep, vl, pD.1⟩
        · rw [upd_ne hb] at e
          exact (I6.hok b u e).stay (fun c v _ q => q) (fun c q => by rw [upd_ne (nD c _ q)]; exact q) fun c xs q => by rw [upd_ne (nD c _ q)]; exact q
      have IX : Inv X pins σ (upd H5 D (.lst acc)) s6 := I2.call' I6.os un hok I6.bare fun b hb => ⟨(f2 b hb).2.2.2.1, (f2 b hb).2.1, (f2 b hb).2.2.2.2.1, (f2 b hb).2.2.2.2.2⟩
      obtain ⟨mm, hmm, _⟩ := I6.loc
      have cC : ∀ x c, X.env.cells.lookup x = some c → c ≠ C := fun x c e z => by
        obtain ⟨v, q⟩ := I2.cell x c e
        exact absurd (Nat.lt_of_lt_of_le q.lt (by rw [z]; exact hC)) (Nat.lt_irrefl _)
      have lC : C ≠ X.env.locals := Nat.ne_of_gt (Nat.lt_of_lt_of_le I2.lt hC)
      refine hRR D C acc H5 s6 IX hDC pD.2.1 fC ⟨mm, hmm⟩ (fun σ'' H'' s'' h' J'' hn hs => ?_) cC lC zq
      exact J''.turned (t' := s''.toks) (fun b o hb e => (hs.2 b hb).trans e) hn lC (.inr (Nat.le_trans I2.sz hC)) cC fun p hp z => by
        have := Heap.lt_size (I2.pin p hp).1
        exact absurd (Nat.lt_of_lt_of_le this (by rw [z]; exact hC)) (Nat.lt_irrefl _)
    · refine thn (T.item Y rfl rfl rfl hc i _ s5 _ H5 (fun _ _ => False) I5 (fpY fr5) st5 go) fun r s6 ⟨u, hr, h6⟩ => ?_
      subst hr
      refine thn h6 fun _ s7 ⟨x, H7, I7, r7, y7, st7, fr7⟩ => ?_
      have I7' := I7.pinned (fpY fr7) (T.obj _ _ st7)
      refine thn (hg cl C s2 H2 fp _ s7 _ H7 x u _ I7' r7 (step x H7 y7)) fun _ s8 ⟨σ8, H8, I8, wk8, q8⟩ => ?_
      refine thn (ht cl C s2 H2 fp _ s8 σ8 H8 _ I8 q8) fun ok s9 ⟨H9, I9, q9⟩ => ?_
      have unpin : ∀ {its' : List Value} {ep' : Nat} {H' : Hp} {s' : Shared} {acc' : List V} {m' : Nat}, Inv Y ([(D, ({ cls := .type "list", data := .seq its'.toArray ep' } : Obj))] ++ pinsAt fp s7.heap) σ8 H' s' → Vals acc' its' → W (i + 1) m' acc' H' → m' < n →
          ∃ m, m < n ∧ ∃ i acc its ep H'', Inv Y [(D, ({ cls := .type "list", data := .seq its.toArray ep } : Obj))] (capS own cap σ) H'' s' ∧ tn i s'.heap ∧ (∀ b ∈ fp, H'' b = none) ∧ Vals acc its ∧ W i m acc H'' := fun {its' ep' H' s' acc' m'} J v' w' hm => by
        refine ⟨m', hm, i + 1, acc', its', ep', H', (J.unpinned).weak wk8.len.symm wk8.val, T.keep _ _ _ st7 fun b hb o e => (J.pin (b, o) (List.mem_append_right _ (List.mem_append_right _ (mem_pinsAt hb e)))).1, fun b hb => ?_, v', w'⟩
        obtain ⟨o, e, d⟩ := T.obj _ _ st7 b hb
        exact (J.pin (b, o) (List.mem_append_right _ (List.mem_append_right _ (mem_pinsAt hb e)))).2.1
      cases ok with
      | false =>
        rw [if_neg Bool.false_ne_true] at q9 ⊢
        obtain ⟨m', hm, w'⟩ := q9
        exact unpin I9 vl w' hm
      | true =>
        rw [if_pos rfl] at q9 ⊢
        refine thn (he cl C s2 H2 fp _ s9 σ8 H9 _ I9 q9) fun v s10 ⟨y, H10, I10, r10, m', hm, w'⟩ => ?_
        have pD := I10.pin (D, ({ cls := .type "list", data := .seq its.toArray ep } : Obj)) (List.mem_append_right _ (List.mem_append_left _ (List.mem_singleton.mpr rfl)))
        refine call_meets F.slot_list_append ⟨_, pD.1, rfl⟩ F.entry_list_append (F.args_list_append_2 _ _) (PySem.list_append D its.toArray ep v (by rw [List.size_toArray]; omega)) ⟨pD.1, ?_⟩
        have eD := PySem.IsL.update pD.1 (·.push v)
        have ea : its.toArray.push v = (its ++ [v]).toArray := by simp
        rw [ea] at eD
        generalize (if (its ++ [v]).toArray.size == its.toArray.size then ep else ep + 1) = ep2 at eD
        have pl : ∀ p ∈ pinsAt fp s7.heap, p.1 ≠ D := fun p hp => flD p.1 (of_pinsAt hp).1
        have I11 : Inv Y (pinsAt fp s7.heap) σ8 H10 s10 := I10.pins_of fun p hp => I10.pin p (List.mem_append_right _ (List.mem_append_right _ hp))
        have I12 := I11.turned (it := D) (t' := s10.toks) (h' := s10.heap.update D (Obj.mapSeq (·.push v))) (fun b o hb e => (Heap.get?_update_other _ _ (Ne.symm hb)).trans e) pD.2.1 hDC (.inr hDs) celD (fun p hp => pl p ((List.mem_append.mp hp).elim (fun z => absurd (show p ∈ ([] : List (Addr × Obj)) from z) (by simp)) id))
        have I13 := I12.pins_of (pins' := [(D, ({ cls := .type "list", data := .seq (its ++ [v]).toArray ep2 } : Obj))] ++ pinsAt fp s7.heap) fun p hp => by
          rcases List.mem_append.mp hp with hp | hp
          · have e : p = (D, ({ cls := .type "list", data := .seq (its ++ [v]).toArray ep2 } : Obj)) := by simpa using hp
            subst e
            exact ⟨eD, pD.2.1, hDC, pD.2.2.2.1, lo _ _⟩
          · exact I12.pin p (List.mem_append_right _ hp)
        exact unpin I13 (vl.append (.cons r10 .nil)) w' hm
  exact codeAny_compStart_list (loop _ rfl) (T.self _ 0 _ _ _ (T.keep 0 _ _ st2 fun b _ o e => kp b o e) (loop _ rfl))
end

section
variable {X : Cx} {tg elt iter : Expr} {ifs : List Expr} {scope : Scope} {pos : Pos} {own : List Str} {cap : List Nat} {wi : TI} {g : TG} {tt : TT} {te : TE}
theorem blk_clos {pins : List (Addr × Obj)} {σ : St} {H : Hp} {s : Shared} (B : Blk X.env.scope X.N scope own cap) (I : Inv X pins σ H s) : ∃ cl, closureFor scope X.env = pure cl ∧ (∀ x c, cl.lookup x = some c → X.env.cells.lookup x = some c) ∧ ∀ x, (x, NameKind.free) ∈ scope.names → ∃ c, cl.lookup x = some c :=
  closure_of fun x hx => I.ok.has x (B.free (x, .free) hx rfl)

/-- [e for x in it if t] -/
def tComp (wi : TI) (own : List Str) (cap : List Nat) (g : TG) (tt : TT) (te : TE) : TE := fun σ H Q => wi σ H fun J H1 => tBlk own cap g tt te σ (fun acc H2 => ∀ p, H2 p = none → Q (.ref p) (upd H2 p (.lst acc))) J H1
theorem pe_comp (B : Blk X.env.scope X.N scope own cap) (hc : X.calm = true) (hi : PI X tg iter wi) (hg : ∀ cl C s2 H2 ex, PG (X.blk scope cl C (capN X.N own cap) s2 H2 ex) tg g) (ht : ∀ cl C s2 H2 ex, PIf (X.blk scope cl C (capN X.N own cap) s2 H2 ex) ifs tt)
    (he : ∀ cl C s2 H2 ex, PE (X.blk scope cl C (capN X.N own cap) s2 H2 ex) elt te) (hs : ∀ x, foldedSetIterable iter X.env x = pure x := by intro _; rfl) : PE X (.ListComp elt [⟨tg, iter, ifs, 0⟩] scope pos) (tComp wi own cap g tt te) := by
  intro pins s σ H Q I h
  obtain ⟨cl, hcl, h1, h2⟩ := blk_clos B I
  rw [eval_ListComp]
  refine wpAny_comprehension_free (use := none) rfl hs hcl B.kind B.names (thn (hi pins s σ H _ I h) fun v s1 q1 => thn q1 fun itv s2 q2 => ?_)
  obtain ⟨it, fp, tn, J, H2, e, I2, T, st2, f2, w⟩ := q2
  subst e
  refine blk_run (RR := fun acc C => compPost (model X.prog X.w) X.A X.xe none (EP X pins σ Q) acc C) hc B I2 T st2 f2 h1 h2 hg ht he w ?_
  intro D C acc H' s' IX hDC fD fC hn tu _ _ z
  obtain ⟨m, hn⟩ := hn
  exact ⟨m, hn, fun h' hs' => ⟨.ref D, _, tu σ _ s' h' IX (by rw [upd_ne (Ne.symm hDC)]; exact fC) hs', rfl, z D fD⟩⟩
/-- x = [e for ..], stored by an exchange -/
theorem ps_setComp {i : Nat} {y : Str} {py spos : Pos} (B : Blk X.env.scope X.N scope own cap) (hc : X.calm = true) (hi : PI X tg iter wi) (hg : ∀ cl C s2 H2 ex, PG (X.blk scope cl C (capN X.N own cap) s2 H2 ex) tg g) (ht : ∀ cl C s2 H2 ex, PIf (X.blk scope cl C (capN X.N own cap) s2 H2 ex) ifs tt)
    (he : ∀ cl C s2 H2 ex, PE (X.blk scope cl C (capN X.N own cap) s2 H2 ex) elt te) (hN : X.N.Nodup) (hy : X.N[i]? = some y) (hl : X.env.scope.names.lookup y = some .local)
    (hsw : swapsWith (.ListComp elt [⟨tg, iter, ifs, 0⟩] scope pos) (some (.Name y py)) spos.line X.env = pure true := by rfl)
    (hs : ∀ x, foldedSetIterable iter X.env x = pure x := by intro _; rfl) : PS X (.Assign [.Name y py] (.ListComp elt [⟨tg, iter, ifs, 0⟩] scope pos) spos) (tAsg (tComp wi own cap g tt te) (gName i)) := by
  intro pins s σ H D0 I h
  obtain ⟨cl, hcl, h1, h2⟩ := blk_clos B I
  rw [exec_Assign_Name_used _ _ _ _ hsw]
  refine wpAny_bind (wpAny_standAt (wpAny_bind ?_))
  show wpAny _ X.A (do let _ ← comprehension (.ListComp elt [⟨tg, iter, ifs, 0⟩] scope pos) scope X.env _ (newList []) false (eval iter X.env) (some (assign (.Name y py) X.env))) _ _ s
  refine wpAny_bind (thn (Q := fun _ s' => SP X pins D0 .next s') (wpAny_comprehension_free (use := some (assign (.Name y py) X.env)) rfl hs hcl B.kind B.names (thn (hi pins s σ H _ I h) fun v s1 q1 => thn q1 fun itv s2 q2 => ?_)) fun _ s' q => wpAny_pure (wpAny_pure q))
  obtain ⟨it, fp, tn, J, H2, e, I2, T, st2, f2, w⟩ := q2
  subst e
  refine blk_run (RR := fun acc C => compPost (model X.prog X.w) X.A X.xe (some (assign (.Name y py) X.env)) (fun _ s' => SP X pins D0 .next s') acc C) hc B I2 T st2 f2 h1 h2 hg ht he w ?_
  intro D C acc H' s' IX hDC fD fC hn tu cC lC z
  obtain ⟨m, hn⟩ := hn
  show wpAny _ X.A (assign (.Name y py) X.env (.ref D)) _ _ s'
  refine wpAny_assign_Name (store_ok2 IX hN hy (.inl hl) (v := .ref D) rfl (fun s'' I'' ⟨a, sb, ha⟩ => ?_) (.inr hl))
  have aC : C ≠ a := by
    rcases ha with e | e
    · rw [e]; exact lC
    · exact Ne.symm (cC _ _ e)
  exact ⟨m, hn.sameBut sb aC, fun h' hs' => ⟨_, _, tu _ _ s'' h' I'' (by rw [upd_ne (Ne.symm hDC)]; exact fC) hs', z D fD⟩⟩
end
end L2

set_option linter.all false
set_option maxHeartbeats 4000000
set_option maxRecDepth 100000
namespace L2
open PySem PySem.Spec PyProof.Rows

section
variable {P : Program} {w : World} {H : Hp} {h : Heap} {a : Addr} {o : HO}
end

section
variable {X : Cx} {pins : List (Addr × Obj)} {σ : St} {H : Hp} {s : Shared} {h' : Heap} {a : Addr} {o : HO} {t' : Nat}
/-! ### numbers of any size -/
def CBig (i j : Int) : Prop := (-(2 ^ 200) < i ∧ i < 2 ^ 200) ∧ (-(2 ^ 200) < j ∧ j < 2 ^ 200)
def CDivB (i j : Int) : Prop := 0 < j ∧ j < 2 ^ 200
/-! ### built-ins over lists -/
/-- sum of a list or a tuple of ints -/
theorem call_sum (hc : X.calm = true) : CallR X (.builtin "sum") (fun xs H Q => ∃ (p : Addr) (ns : List Int), xs = [.ref p] ∧ (SqL X.K H p (ns.map V.int) ∨ SqT X.K H p (ns.map V.int)) ∧ Q (.int ns.sum) H) := by
  intro pins s σ H xs us Q I r h
  obtain ⟨p, ns, rfl, hq, q⟩ := h
  obtain ⟨u, rfl, rx⟩ := vals1 r
  cases rx
  have hh := I.ok.hd hc
  have pre : ∀ (its : List Value), IntsAre its ns → preSum (fun i => ns.getD i 0) its.toArray.size = ns.sum := fun its hi => by
    rw [preSum_getD, List.take_of_length_le (by rw [List.size_toArray, hi.length]; exact Nat.le_refl _)]
  have val : ∀ (its : List Value), IntsAre its ns → ∀ (i : Nat) (v : Value), its.toArray[i]? = some v → ∃ t, v = .int (ns.getD i 0) t := fun its hi i v e => by
    have e' : its[i]? = some v := by simpa using e
    have hil : i < its.length := (List.getElem?_eq_some_iff.mp e').1
    obtain ⟨n, t, rfl⟩ := hi.all v (List.mem_of_getElem? e')
    refine ⟨t, ?_⟩
    have q := congrArg (fun l => l[i]?) hi.nums
    simp only [List.getElem?_map, e', Option.map_some] at q
    rw [List.getD_eq_getElem?_getD, ← q]; rfl
  have fin : ∀ (o : Obj) (s' : Shared) (t' : Tok) (its : List Value), IntsAre its ns → Moved [s.heap.objs.size] (fun a b => b = a) { s with heap := s.heap.push o } s' → EP X pins σ Q (.int (preSum (fun i => ns.getD i 0) its.toArray.size) t') s' := fun o s' t' its hi hm => by
    rw [pre its hi]
    have hk : ∀ b u, s.heap.get? b = some u → s'.heap.get? b = some u := fun b u e => hm.heap b u (fun z => absurd (Heap.lt_size e) (by rw [List.mem_singleton.mp z]; exact Nat.lt_irrefl _)) (Heap.get?_push_of_some _ e)
    rw [Moved.eq_with hm]
    exact ⟨.int ns.sum, H, I.kept (t' := s'.toks) hk, ⟨t', rfl⟩, q⟩
  rcases hq with hq | hq
  · obtain ⟨its, rv, pl, _⟩ := I.list hq
    have hi := intsAre_of rv
    have hl : s.heap.IsList p its.toArray := pl.isList
    obtain ⟨ol, hol, _⟩ := id hl
    refine call_sum_walkAnyS (wpAny_pyIter_list hl ⟨s.heap.objs.size, _, _, _, _, _, _, fun i => ns.getD i 0, rfl, (Walks.list (A := X.A.in1) hh s.heap.objs.size p (Nat.ne_of_lt (Heap.lt_size hol)) its.toArray).toS, ⟨⟨_, Heap.get?_push_size _ rfl, rfl, rfl⟩, hl.at fun o e => Heap.get?_push_of_some _ e⟩, ?_, val its hi, fun s' t' hm => fin _ s' t' its hi hm⟩)
    intro b hb
    show b < (s.heap.push _).objs.size
    rw [Heap.size_push]
    rcases List.mem_cons.mp hb with e | hb
    · rw [e]; exact Nat.lt_succ_self _
    · rw [List.mem_singleton.mp hb]; exact Nat.lt_succ_of_lt (Heap.lt_size hol)
  · obtain ⟨its, rv, pl, _⟩ := I.tuple hq
    have hi := intsAre_of rv
    have hl : s.heap.IsTuple p its.toArray := pl
    obtain ⟨ol, hol, _⟩ := id hl
    refine call_sum_walkAnyS (wpAny_pyIter_tuple hl ⟨s.heap.objs.size, _, _, _, _, _, _, fun i => ns.getD i 0, rfl, (Walks.tuple (A := X.A.in1) hh s.heap.objs.size p (Nat.ne_of_lt (Heap.lt_size hol)) its.toArray).toS, ⟨⟨_, Heap.get?_push_size _ rfl, rfl, rfl⟩, hl.at fun o e => Heap.get?_push_of_some _ e⟩, ?_, val its hi, fun s' t' hm => fin _ s' t' its hi hm⟩)
    intro b hb
    show b < (s.heap.push _).objs.size
    rw [Heap.size_push]
    rcases List.mem_cons.mp hb with e | hb
    · rw [e]; exact Nat.lt_succ_self _
    · rw [List.mem_singleton.mp hb]; exact Nat.lt_succ_of_lt (Heap.lt_size hol)

/-- all of a list of truths -/
theorem call_all (hc : X.calm = true) : CallR X (.builtin "all") (fun xs H Q => ∃ (p : Addr) (bs : List Bool), xs = [.ref p] ∧ SqL X.K H p (bs.map V.bl) ∧ Q (.bl (bs.all id)) H) := by
  intro pins s σ H xs us Q I r h
  obtain ⟨p, bs, rfl, hq, q⟩ := h
  obtain ⟨u, rfl, rx⟩ := vals1 r
  cases rx
  have hh := I.ok.hd hc
  obtain ⟨its, rv, pl, _⟩ := I.list hq
  have hl : s.heap.IsList p its.toArray := pl.isList
  obtain ⟨ol, hol, _⟩ := id hl
  have hlen := rv.length
  rw [List.length_map] at hlen
  refine call_all_walk (wpAny_pyIter_list hl ⟨s.heap.objs.size, _, _, _, _, _, fun i => bs.getD i false, rfl, Walks.list (A := X.A.in1) hh s.heap.objs.size p (Nat.ne_of_lt (Heap.lt_size hol)) its.toArray, ⟨⟨_, Heap.get?_push_size _ rfl, rfl, rfl⟩, hl.at fun o e => Heap.get?_push_of_some _ e⟩, ?_, fun h' tk hk => ?_⟩)
  · intro i v s1 Q1 E1 hv hq1
    have e' : its[i]? = some v := by simpa using hv
    have hil : i < bs.length := by have := (List.getElem?_eq_some_iff.mp e').1; omega
    obtain ⟨u, hu, ru⟩ := rv.get (i := i) (x := .bl bs[i]) (by rw [List.getElem?_map, List.getElem?_eq_getElem hil]; rfl)
    rw [e'] at hu
    cases hu
    obtain rfl : v = Value.bool bs[i] := ru
    have eg : bs.getD i false = bs[i] := by rw [List.getD_eq_getElem?_getD, List.getElem?_eq_getElem hil]; rfl
    exact wpAny_truthy_bool (eg ▸ hq1)
  · have e : (List.range its.toArray.size).all (fun i => bs.getD i false) = bs.all id := by
      rw [List.size_toArray, ← hlen]
      rw [Bool.eq_iff_iff, List.all_eq_true, List.all_eq_true]
      constructor
      · intro z x hx
        obtain ⟨i, hi, rfl⟩ := List.mem_iff_getElem.mp hx
        have := z i (List.mem_range.mpr hi)
        rw [List.getD_eq_getElem?_getD, List.getElem?_eq_getElem hi] at this
        exact this
      · intro z i hi
        have hi' := List.mem_range.mp hi
        rw [List.getD_eq_getElem?_getD, List.getElem?_eq_getElem hi']
        exact z _ (List.getElem_mem hi')
    rw [e]
    exact ⟨.bl (bs.all id), H, I.kept (t' := tk) fun b u e => hk b u (fun z => absurd (Heap.lt_size e) (by rw [List.mem_singleton.mp z]; exact Nat.lt_irrefl _)) (Heap.get?_push_of_some _ e), rfl, q⟩

theorem ints_val {ns : List Int} {its : List Value} (hi : IntsAre its ns) {i : Nat} {v : Value} (e : its.toArray[i]? = some v) : ∃ t, v = .int (ns.getD i 0) t := by
  have e' : its[i]? = some v := by simpa using e
  obtain ⟨n, t, rfl⟩ := hi.all v (List.mem_of_getElem? e')
  refine ⟨t, ?_⟩
  have q := congrArg (fun l => l[i]?) hi.nums
  simp only [List.getElem?_map, e', Option.map_some] at q
  rw [List.getD_eq_getElem?_getD, ← q]; rfl
/-- max of a list of ints -/
theorem call_maxL (hc : X.calm = true) : CallR X (.builtin "max") (fun xs H Q => ∃ (p : Addr) (ns : List Int), xs = [.ref p] ∧ SqL X.K H p (ns.map V.int) ∧ 0 < ns.length ∧ ∀ M, M ∈ ns → (∀ a ∈ ns, a ≤ M) → Q (.int M) H) := by
  intro pins s σ H xs us Q I r h
  obtain ⟨p, ns, rfl, hq, hne, q⟩ := h
  obtain ⟨u, rfl, rx⟩ := vals1 r
  cases rx
  have hh := I.ok.hd hc
  obtain ⟨its, rv, pl, _⟩ := I.list hq
  have hi := intsAre_of rv
  have hl : s.heap.IsList p its.toArray := pl.isList
  obtain ⟨ol, hol, _⟩ := id hl
  have hlen : its.length = ns.length := hi.length
  refine call_max_walk (wpAny_pyIter_list hl ⟨s.heap.objs.size, _, _, _, _, _, fun i j => decide (ns.getD i 0 > ns.getD j 0), rfl, Walks.list (A := X.A.in1) hh s.heap.objs.size p (Nat.ne_of_lt (Heap.lt_size hol)) its.toArray,
    ⟨⟨_, Heap.get?_push_size _ rfl, rfl, rfl⟩, hl.at fun o e => Heap.get?_push_of_some _ e⟩, ?_, by rw [List.size_toArray]; omega, CmpOf.ints_gt (fun i => ns.getD i 0) (fun i v e => ints_val hi e), fun v h' tk hP hk => ?_⟩)
  · intro b hb
    show b < (s.heap.push _).objs.size
    rw [Heap.size_push]
    rcases List.mem_cons.mp hb with e | hb
    · rw [e]; exact Nat.lt_succ_self _
    · rw [List.mem_singleton.mp hb]; exact Nat.lt_succ_of_lt (Heap.lt_size hol)
  · obtain ⟨h1, h2⟩ := argBest_gt (fun i => ns.getD i 0) (its.toArray.size - 1)
    rw [List.size_toArray] at h1 h2
    obtain ⟨t, rfl⟩ := ints_val hi hP
    have hm : ∀ i, i < ns.length → ns.getD i 0 ∈ ns := fun i hi' => by rw [List.getD_eq_getElem?_getD, List.getElem?_eq_getElem hi']; exact List.getElem_mem hi'
    refine ⟨.int _, H, I.kept (t' := tk) fun b u e => hk b u (fun z => absurd (Heap.lt_size e) (by rw [List.mem_singleton.mp z]; exact Nat.lt_irrefl _)) (Heap.get?_push_of_some _ e), ⟨t, rfl⟩, q _ (hm _ (by rw [List.size_toArray]; omega)) fun a ha => ?_⟩
    obtain ⟨j, hj, rfl⟩ := List.mem_iff_getElem.mp ha
    have e := h2 j (by omega)
    have ej : ns.getD j 0 = ns[j] := by rw [List.getD_eq_getElem?_getD, List.getElem?_eq_getElem hj]; rfl
    rw [ej] at e
    rw [List.size_toArray]
    exact e

/-- xs.index(k), k is there -/
def rIndex : V → List V → Hp → VK → Prop := fun x vs H Q => ∃ (l : Addr) (ns : List Int) (k : Int), x = .ref l ∧ vs = [.int k] ∧ H l = some (.lst (ns.map V.int)) ∧ k ∈ ns ∧ ns.length ≤ 1000 ∧ Q (.int (ns.idxOf k : Nat)) H
/-! ### lists compared -/
def eqVs : List V → List V → Bool
  | [], [] => true
  | x :: xs, y :: ys => eqV x y && eqVs xs ys
  | _, _ => false
theorem eqVs_len : ∀ {xs ys : List V}, xs.length ≠ ys.length → eqVs xs ys = false
  | [], [], h => absurd rfl h
  | [], _ :: _, _ => rfl
  | _ :: _, [], _ => rfl
  | x :: xs, y :: ys, h => by
    show (eqV x y && eqVs xs ys) = false
    rw [eqVs_len (xs := xs) (ys := ys) (fun z => h (by simp [z])), Bool.and_false]
theorem eqVs_all : ∀ (xs ys : List V), xs.length = ys.length → eqVs xs ys = (List.range xs.length).all fun i => eqV (xs.getD i .non) (ys.getD i .non)
  | [], [], _ => rfl
  | x :: xs, y :: ys, h => by
    show (eqV x y && eqVs xs ys) = _
    rw [List.length_cons, List.range_succ_eq_map, List.all_cons, List.all_map, eqVs_all xs ys (by simpa using h)]
    rfl
def rEqL (K : PySem.W.Frag) (neg : Bool) : R2 := fun x y H Q => ∃ p b xs ys, x = .ref p ∧ y = .ref b ∧ SqL K H p xs ∧ SqL K H b ys ∧ xs.all flatV = true ∧ ys.all flatV = true ∧ Q (.bl (if neg then !eqVs xs ys else eqVs xs ys)) H
theorem flat_at {xs : List V} (h : xs.all flatV = true) {i : Nat} (hi : i < xs.length) : flatV (xs.getD i .non) = true := by
  rw [List.getD_eq_getElem?_getD, List.getElem?_eq_getElem hi]
  exact List.all_eq_true.mp h _ (List.getElem_mem hi)
theorem rel_at {xs : List V} {its : List Value} (r : Vals xs its) {i : Nat} (hi : i < its.toArray.size) : RelV (xs.getD i .non) its.toArray[i] := by
  have hx : i < xs.length := by rw [r.length]; simpa using hi
  obtain ⟨u, hu, ru⟩ := r.get (i := i) (x := xs[i]) (List.getElem?_eq_getElem hx)
  rw [List.getElem?_eq_getElem (by simpa using hi)] at hu
  rw [List.getD_eq_getElem?_getD, List.getElem?_eq_getElem hx]
  have e : its.toArray[i] = u := by simpa using Option.some.inj hu
  rw [e]; exact ru
theorem op_neL (hu : X.A.units < cLine) : OpR X (compareOp .NotEq) (rEqL X.K true) := by
  intro pins s σ H x y v u Q I rx ry h
  obtain ⟨p, b, xs, ys, rfl, rfl, hp, hb, fx, fy, q⟩ := h
  cases rx
  cases ry
  obtain ⟨its, r1, p1, _⟩ := I.list hp
  obtain ⟨jts, r2, p2, _⟩ := I.list hb
  have l1 := r1.length
  have l2 := r2.length
  simp only [if_true] at q
  by_cases e : xs.length = ys.length
  · rw [eqVs_all _ _ e] at q
    refine SeqAt.RcNeAt.lists (e := fun i => eqV (xs.getD i .non) (ys.getD i .non)) p1.isList p2.isList (by simp only [List.size_toArray]; omega) hu (fun j h1 h2 => eqAt_V (rel_at r1 h1) (rel_at r2 h2) (flat_at fx (by simp only [List.size_toArray] at h1; omega)) (flat_at fy (by simp only [List.size_toArray] at h2; omega))) _ _ _ _ ?_
    rw [List.size_toArray, ← l1]
    exact ⟨.bl _, H, I, rfl, q⟩
  · rw [eqVs_len e] at q
    refine SeqAt.RcNeAt.lists_lengths p1.isList p2.isList (by simp only [List.size_toArray, bne_iff_ne]; omega) hu _ _ _ _ ?_
    exact ⟨.bl true, H, I, rfl, q⟩

/-! ### isinstance -/
/-- isinstance(x, T) of a built-in type -/
theorem call_isi : CallR X (.builtin "isinstance") (fun xs H Q => ∃ x T t b, xs = [x, .ty T] ∧ TyOf X.K H x t ∧ PySem.W.kitOne X.K t (.type T) = some b ∧ Q (.bl b) H) := by
  intro pins s σ H xs us Q I r h
  obtain ⟨x, T, t, b, rfl, ty, e, q⟩ := h
  obtain ⟨u, w', rfl, rx, ry⟩ := vals2 r
  cases (show w' = Value.type T from ry)
  exact isinst_ok I rx ty e fun tk => ⟨.bl b, H, I.tok tk, rfl, q⟩
def tyVals : List String → List Value := fun l => l.map Value.type
end
end L2

set_option linter.all false
set_option maxHeartbeats 4000000
namespace SS
open PySem PyProof.Rows

/-- the second number of a pair -/
def K2 (xs : Array Keyed) (i : Nat) : Int := match xs[i]? with
  | some p => numOf p.2
  | none => 0
/-- up to k in order, of like keys the lesser second number ahead -/
def Up (xs : Array Keyed) (k : Nat) : Prop := ∀ i j, i < j → j < k → K xs i < K xs j ∨ (K xs i = K xs j ∧ K2 xs i < K2 xs j)
/-- the other way about -/
def Dn (xs : Array Keyed) (k : Nat) : Prop := ∀ i j, i < j → j < k → K xs j < K xs i ∨ (K xs i = K xs j ∧ K2 xs j < K2 xs i)
/-- from k on nothing was moved, and what stands ahead came from ahead -/
structure Left (xs : Array Keyed) (k : Nat) : Prop where
  same : ∀ i, k ≤ i → i < xs.size → K2 xs i = i
  ahead : ∀ i, i < k → i < xs.size → K2 xs i < k

section
variable {prog : Program} {w : World} {A : Around} {E : Value → Shared → Prop} {s : Shared} {a₀ : Array Keyed}

/-- between two turns of the falling loop: g: where the group of like keys at the end begins -/
structure Fall (xs : Array Keyed) (x g : Nat) : Prop where
  lt : g < x
  d1 : Dn xs g
  d2 : ∀ i j, i < g → g ≤ j → j < x → K xs j < K xs i
  d3 : ∀ i, g ≤ i → i < x → K xs i = K xs (x - 1) ∧ K2 xs i = i
  same : ∀ i, x ≤ i → i < xs.size → K2 xs i = i
  ahead : ∀ i, i < g → i < xs.size → K2 xs i < g

end
end SS

set_option linter.all false
set_option maxHeartbeats 4000000
set_option maxRecDepth 100000
namespace SS
open PySem PyProof.Rows

/-- n places, as ints: their values bear the places themselves -/
def Places (vs : List Value) (n : Nat) : Prop := vs.length = n ∧ ∀ (i : Nat) v, vs[i]? = some v → ∃ t, v = .int (i : Int) t
/-- what the sort by key makes of n places -/
structure Sorted (key : Nat → Int) (n : Nat) (ps : List Nat) : Prop where
  perm : ps.Perm (List.range n)
  ord : ∀ (i j p q : Nat), i < j → ps[i]? = some p → ps[j]? = some q → key p < key q ∨ (key p = key q ∧ p < q)

section
variable {keys : Array Value} {vs : List Value} {n : Nat} {key : Nat → Int} {xs : Array Keyed}
def psOf (xs : Array Keyed) : List Nat := xs.toList.map fun q => (numOf q.2).toNat
end

section
variable {prog : Program} {w : World} {A : Around} {E : Value → Shared → Prop} {s : Shared} {a f : Addr} {vs : List Value} {n e0 : Nat} {key : Nat → Int} {P : PySem.Fin → Shared → Prop}

/-- kept but at a -/
def But (a : Addr) (h h' : Heap) : Prop := ∀ b o, b ≠ a → h.get? b = some o → h'.get? b = some o

end

section
variable {prog : Program} {w : World} {A : Around} {E : Value → Shared → Prop} {s : Shared}
end
end SS

set_option linter.all false
set_option maxHeartbeats 4000000
set_option maxRecDepth 100000
namespace L2
open PySem PySem.Spec PyProof.Rows

/-- the def's table of codes at P: empty, or with the lambda's one -/
def Tb (P : Addr) (lp : Pos) (lq : Str) (H : Hp) : Prop :=
  ∃ ps, H P = some (.tbl ps) ∧ (ps = #[] ∨ ∃ c', ps = #[rawInt lp.line, rawInt lp.col, .ref c'] ∧ H c' = some (.ext fun h => h.CodeRec (.ref c') lq))
/-- all but the table is as it was -/
structure Sm (P : Addr) (lp : Pos) (lq : Str) (H H' : Hp) : Prop where
  all : ∀ b o, b ≠ P → H b = some o → H' b = some o
  tb : Tb P lp lq H → Tb P lp lq H'
section
variable {X : Cx} {pins : List (Addr × Obj)} {σ : St} {H : Hp} {s : Shared} {P c : Addr} {lp : Pos} {la : Arguments} {lb : Expr} {lsc : Scope} {own : List Str} {cap : List Nat}

/-- what is wanted behind sorted(range(n), key=lambda place: -rests[place]) -/
def SortQ (K : PySem.W.Frag) (P : Addr) (lp : Pos) (lq : Str) (i : Nat) (σ : St) (Q : VK) (vs : List V) (H' : Hp) : Prop :=
  ∃ (r : Addr) (n : Nat) (H1 : Hp) (a : Addr) (rs : List Int), vs = [.ref r] ∧ H1 r = none ∧ H' = upd H1 r (.rng 0 (n : Int)) ∧ n < 64 ∧ Tb P lp lq H1 ∧ σ[i]? = some (some (.ref a)) ∧ SqL K H1 a (rs.map V.int) ∧ a ≠ P ∧ rs.length = n ∧
    ∀ (ps : List Nat) (H2 : Hp) (l : Addr), SS.Sorted (fun p => -(rs.getD p 0)) n ps → (∀ b o, b ≠ P → H1 b = some o → H2 b = some o) → Tb P lp lq H2 → H1 l = none → H2 l = some (.lst (ps.map fun p : Nat => V.int (p : Int))) → Q (.ref l) H2
abbrev rRng : List V → Hp → VK → Prop := fun xs H Q => ∃ j : Int, xs = [.int j] ∧ ∀ p, H p = none → Q (.ref p) (upd H p (.rng 0 j))
def tSort (K : PySem.W.Frag) (P : Addr) (lp : Pos) (lq : Str) (ta : TE) (i : Nat) : TE := fun σ H Q => tCons (tCB rRng (tCons ta tNil)) tNil σ H (SortQ K P lp lq i σ Q)
end
end L2

set_option linter.all false
set_option maxHeartbeats 4000000
set_option maxRecDepth 100000
namespace L2
open PySem PySem.Spec PyProof.Rows

end L2

set_option linter.all false
set_option maxHeartbeats 4000000
set_option maxRecDepth 100000
namespace L2
open PySem PySem.Spec PyProof.Rows

section
variable {X : Cx} {tg : Expr}
/-- a list or a tuple walked -/
def iSeq (K : PySem.W.Frag) (tl : TE) : TI := fun σ H R => tl σ H fun x H1 => ∃ a, x = .ref a ∧ (((∃ xs, SqL K H1 a xs) ∧ R (Itl K a) H1) ∨ ((∃ xs, SqT K H1 a xs) ∧ R (Itt K a) H1))
theorem pi_seq {l : Expr} {tl : TE} (hl : PE X l tl) : PI X tg l (iSeq X.K tl) := by
  intro pins s σ H R I h
  refine thn (hl pins s σ H _ I h) fun v s1 ⟨x, H1, I1, r1, q1⟩ => ?_
  obtain ⟨a, e, q⟩ := q1
  subst e
  cases r1
  rcases q with ⟨⟨xs, hq⟩, q⟩ | ⟨⟨xs, hq⟩, q⟩
  · obtain ⟨its, rv, p, hz⟩ := I1.list hq
    refine wpAny_pyIter_list p.isList ?_
    refine ⟨s1.heap.objs.size, [s1.heap.objs.size], _, _, H1, rfl, I1.kept (t' := s1.toks) fun b o e => Heap.get?_push_of_some _ e, turn_list a _, ⟨_, Heap.get?_push_size _ rfl, rfl, rfl⟩, fun b hb => ?_, q⟩
    have e : b = s1.heap.objs.size := by simpa using hb
    subst e
    exact I1.fpOk (Nat.le_refl _) (I1.hok.fresh (Nat.le_refl _))
  · obtain ⟨its, rv, p, hz⟩ := I1.tuple hq
    refine wpAny_pyIter_tuple (show s1.heap.IsTuple a its.toArray from p) ?_
    refine ⟨s1.heap.objs.size, [s1.heap.objs.size], _, _, H1, rfl, I1.kept (t' := s1.toks) fun b o e => Heap.get?_push_of_some _ e, turn_tuple a _, ⟨_, Heap.get?_push_size _ rfl, rfl, rfl⟩, fun b hb => ?_, q⟩
    have e : b = s1.heap.objs.size := by simpa using hb
    subst e
    exact I1.fpOk (Nat.le_refl _) (I1.hok.fresh (Nat.le_refl _))
end

/-! ### what a block over a list, a tuple, a range comes to; one name as its target -/
section
variable {K : PySem.W.Frag} {a : Addr} {xs : List V} {y : Str} {cap : List Nat} {tt : TT} {te : TE} {σ : St} {Z : List V → Hp → Prop} {H1 : Hp}
theorem wk_one (y : Str) (cap : List Nat) (σ : St) (x : V) : Wk (capS [y] cap σ) ((capS [y] cap σ).set 0 (some x)) := Wk.set (by show (none :: _ : St)[0]? = some none; rfl)
theorem blk_list (Pv : Nat → List V → Hp → Prop) (h0 : Pv 0 [] H1) (hS : ∀ i acc H, Pv i acc H → SqL K H a xs) (hz : ∀ i acc H, Pv i acc H → acc.length < sizeLine)
    (step : ∀ i x acc H (R : List V → Hp → Prop), (∀ acc' H', Pv (i + 1) acc' H' → R acc' H') → xs[i]? = some x → Pv i acc H → tt ((capS [y] cap σ).set 0 (some x)) H fun b H5 => if b = true then te ((capS [y] cap σ).set 0 (some x)) H5 fun v H6 => R (acc ++ [v]) H6 else R acc H5)
    (hd : ∀ acc H, Pv xs.length acc H → Z acc H) : tBlk [y] cap (gName 0) tt te σ Z (Itl K a) H1 := by
  refine ⟨fun i m acc H => m = xs.length - i ∧ i ≤ xs.length ∧ Pv i acc H, ⟨_, rfl, Nat.zero_le _, h0⟩, ?_⟩
  rintro i m acc H ⟨rfl, hi, p⟩
  refine ⟨hz i acc H p, ?_⟩
  have q := hS i acc H p
  by_cases hlt : i < xs.length
  · refine .inr ⟨⟨xs, xs[i], q, List.getElem?_eq_getElem hlt⟩, fun x H3 yl => ?_⟩
    obtain ⟨e, yx⟩ := yl
    subst e
    exact ⟨wk_one y cap σ x, step i x acc H3 (fun acc' H' => ∃ m', m' < xs.length - i ∧ m' = xs.length - (i + 1) ∧ i + 1 ≤ xs.length ∧ Pv (i + 1) acc' H') (fun acc' H' p' => ⟨_, by omega, rfl, hlt, p'⟩) (yx xs q) p⟩
  · have e : i = xs.length := by omega
    subst e
    exact .inl ⟨⟨xs, q, Nat.le_refl _⟩, hd acc H p⟩
theorem blk_tup (Pv : Nat → List V → Hp → Prop) (h0 : Pv 0 [] H1) (hS : ∀ i acc H, Pv i acc H → SqT K H a xs) (hz : ∀ i acc H, Pv i acc H → acc.length < sizeLine)
    (step : ∀ i x acc H (R : List V → Hp → Prop), (∀ acc' H', Pv (i + 1) acc' H' → R acc' H') → xs[i]? = some x → Pv i acc H → tt ((capS [y] cap σ).set 0 (some x)) H fun b H5 => if b = true then te ((capS [y] cap σ).set 0 (some x)) H5 fun v H6 => R (acc ++ [v]) H6 else R acc H5)
    (hd : ∀ acc H, Pv xs.length acc H → Z acc H) : tBlk [y] cap (gName 0) tt te σ Z (Itt K a) H1 := by
  refine ⟨fun i m acc H => m = xs.length - i ∧ i ≤ xs.length ∧ Pv i acc H, ⟨_, rfl, Nat.zero_le _, h0⟩, ?_⟩
  rintro i m acc H ⟨rfl, hi, p⟩
  refine ⟨hz i acc H p, ?_⟩
  have q := hS i acc H p
  by_cases hlt : i < xs.length
  · refine .inr ⟨⟨xs, xs[i], q, List.getElem?_eq_getElem hlt⟩, fun x H3 yl => ?_⟩
    obtain ⟨e, yx⟩ := yl
    subst e
    exact ⟨wk_one y cap σ x, step i x acc H3 (fun acc' H' => ∃ m', m' < xs.length - i ∧ m' = xs.length - (i + 1) ∧ i + 1 ≤ xs.length ∧ Pv (i + 1) acc' H') (fun acc' H' p' => ⟨_, by omega, rfl, hlt, p'⟩) (yx xs q) p⟩
  · have e : i = xs.length := by omega
    subst e
    exact .inl ⟨⟨xs, q, Nat.le_refl _⟩, hd acc H p⟩
theorem blk_rng {n : Nat} (Pv : Nat → List V → Hp → Prop) (h0 : Pv 0 [] H1) (hz : ∀ i acc H, Pv i acc H → acc.length < sizeLine)
    (step : ∀ i acc H (R : List V → Hp → Prop), (∀ acc' H', Pv (i + 1) acc' H' → R acc' H') → i < n → Pv i acc H → tt ((capS [y] cap σ).set 0 (some (.int (0 + (i : Int))))) H fun b H5 => if b = true then te ((capS [y] cap σ).set 0 (some (.int (0 + (i : Int))))) H5 fun v H6 => R (acc ++ [v]) H6 else R acc H5)
    (hd : ∀ acc H, Pv n acc H → Z acc H) : tBlk [y] cap (gName 0) tt te σ Z (Itr 0 n) H1 := by
  refine ⟨fun i m acc H => m = n - i ∧ i ≤ n ∧ Pv i acc H, ⟨_, rfl, Nat.zero_le _, h0⟩, ?_⟩
  rintro i m acc H ⟨rfl, hi, p⟩
  refine ⟨hz i acc H p, ?_⟩
  by_cases hlt : i < n
  · refine .inr ⟨hlt, fun x H3 yl => ?_⟩
    obtain ⟨e, yx⟩ := yl
    subst e
    subst yx
    exact ⟨wk_one y cap σ _, step i acc H3 (fun acc' H' => ∃ m', m' < n - i ∧ m' = n - (i + 1) ∧ i + 1 ≤ n ∧ Pv (i + 1) acc' H') (fun acc' H' p' => ⟨_, by omega, rfl, hlt, p'⟩) hlt p⟩
  · have e : i = n := by omega
    subst e
    exact .inl ⟨Nat.le_refl _, hd acc H p⟩
/-- each item by a function, nothing changed -/
theorem blk_map {W : Type} (f : W → V) (inj : W → V) {ws : List W} (hS : SqL K H1 a (ws.map inj) ∨ SqT K H1 a (ws.map inj)) (hz : ws.length < sizeLine)
    (he : ∀ w ∈ ws, ∀ Q : VK, Q (f w) H1 → te ((capS [y] cap σ).set 0 (some (inj w))) H1 Q) (hd : Z (ws.map f) H1) :
    ((∃ xs, SqL K H1 a xs) ∧ tBlk [y] cap (gName 0) tYes te σ Z (Itl K a) H1) ∨ ((∃ xs, SqT K H1 a xs) ∧ tBlk [y] cap (gName 0) tYes te σ Z (Itt K a) H1) := by
  have stp : ∀ i x acc H (R : List V → Hp → Prop), (∀ acc' H', (acc' = (ws.take (i + 1)).map f ∧ H' = H1) → R acc' H') → (ws.map inj)[i]? = some x → (acc = (ws.take i).map f ∧ H = H1) →
      tYes ((capS [y] cap σ).set 0 (some x)) H fun b H5 => if b = true then te ((capS [y] cap σ).set 0 (some x)) H5 fun v H6 => R (acc ++ [v]) H6 else R acc H5 := by
    rintro i x acc H R k hx ⟨rfl, rfl⟩
    rw [List.getElem?_map] at hx
    cases e : ws[i]? with
    | none => rw [e] at hx; cases hx
    | some w =>
      rw [e] at hx
      cases hx
      unfold tYes
      dsimp only
      rw [if_pos rfl]
      refine he w (List.mem_of_getElem? e) _ (k _ _ ⟨?_, rfl⟩)
      rw [List.take_add_one, e]
      simp
  have fin : ∀ acc H, (acc = (ws.take (ws.map inj).length).map f ∧ H = H1) → Z acc H := by
    rintro acc H ⟨rfl, rfl⟩
    rw [List.length_map, List.take_length]
    exact hd
  have len : ∀ (i : Nat) acc (H : Hp), (acc = (ws.take i).map f ∧ H = H1) → acc.length < sizeLine := by
    rintro i acc H ⟨rfl, _⟩
    rw [List.length_map, List.length_take]
    omega
  rcases hS with h | h
  · exact .inl ⟨⟨_, h⟩, blk_list (fun i acc H => acc = (ws.take i).map f ∧ H = H1) ⟨by simp, rfl⟩ (fun i acc H p => by rw [p.2]; exact h) len stp fin⟩
  · exact .inr ⟨⟨_, h⟩, blk_tup (fun i acc H => acc = (ws.take i).map f ∧ H = H1) ⟨by simp, rfl⟩ (fun i acc H p => by rw [p.2]; exact h) len stp fin⟩
end
end L2

set_option linter.all false
set_option maxHeartbeats 4000000
set_option maxRecDepth 100000
namespace L2
open PySem PySem.Spec PyProof.Rows
section
variable {X : Cx}
/-- two tuples of flat values compared -/
def rEqT (K : PySem.W.Frag) : R2 := fun x y H Q => ∃ p b xs ys, x = .ref p ∧ y = .ref b ∧ SqT K H p xs ∧ SqT K H b ys ∧ xs.all flatV = true ∧ ys.all flatV = true ∧ Q (.bl (eqVs xs ys)) H
theorem eqVs_minAll : ∀ (xs ys : List V), eqVs xs ys = ((List.range (min xs.length ys.length)).all (fun i => eqV (xs.getD i .non) (ys.getD i .non)) && xs.length == ys.length) := by
  intro xs ys
  by_cases e : xs.length = ys.length
  · rw [eqVs_all _ _ e, e, Nat.min_self]; simp
  · rw [eqVs_len e, beq_eq_false_iff_ne.mpr e, Bool.and_false]
theorem op_eqT (hu : X.A.units < cLine) : OpR X (compareOp .Eq) (rEqT X.K) := by
  intro pins s σ H x y v u Q I rx ry h
  obtain ⟨p, b, xs, ys, rfl, rfl, hp, hb, fx, fy, q⟩ := h
  cases rx
  cases ry
  obtain ⟨its, r1, p1, _⟩ := I.tuple hp
  obtain ⟨jts, r2, p2, _⟩ := I.tuple hb
  have l1 := r1.length
  have l2 := r2.length
  refine SeqAt.eq_tupleAt (e := fun i => eqV (xs.getD i .non) (ys.getD i .non)) (show s.heap.IsTuple p its.toArray from p1) (show s.heap.IsTuple b jts.toArray from p2) hu (fun j h1 h2 => eqAt_V (rel_at r1 h1) (rel_at r2 h2) (flat_at fx (by simp only [List.size_toArray] at h1; omega)) (flat_at fy (by simp only [List.size_toArray] at h2; omega))) ?_
  rw [List.size_toArray, List.size_toArray, ← l1, ← l2, ← eqVs_minAll]
  exact ⟨.bl _, H, I, rfl, q⟩
/-- xs.insert(i, y), i from 0 to the length -/
def rInsert : V → List V → Hp → VK → Prop := fun x vs H Q => ∃ l xs i y, x = .ref l ∧ vs = [.int i, y] ∧ H l = some (.lst xs) ∧ 0 ≤ i ∧ i ≤ xs.length ∧ xs.length ≤ 900 ∧ Q .non (upd H l (.lst (xs.take i.toNat ++ y :: xs.drop i.toNat)))
end

section
variable {X : Cx} {K : PySem.W.Frag}
/-! the rules that name the written part, for blocks -/
theorem ix_tupK (e : X.K = K) : IxR X (rIxT K) := by subst e; exact ix_tup
end

/-! ### isinstance by names of types -/
def tyNames : List String := ["NoneType", "bool", "int", "str", "list", "tuple", "dict"]
def subTy (S T : String) : Bool := S == T || (S == "bool" && T == "int")
def kitAll (K : PySem.W.Frag) : Bool := tyNames.all fun S => tyNames.all fun T => PySem.W.kitOne K (.type S) (.type T) == some (subTy S T)
theorem kit_of {K : PySem.W.Frag} (h : kitAll K = true) {S T : String} (hS : tyNames.contains S = true) (hT : tyNames.contains T = true) : PySem.W.kitOne K (.type S) (.type T) = some (subTy S T) := by
  have h1 := List.all_eq_true.mp h S (by simpa using hS)
  have h2 := List.all_eq_true.mp h1 T (by simpa using hT)
  exact beq_iff_eq.mp h2
/-- v is of a type of these, by its name -/
structure Is (K : PySem.W.Frag) (H : Hp) (v : V) (S : String) : Prop where
  ty : TyOf K H v (.type S)
  mem : tyNames.contains S = true
section
variable {K : PySem.W.Frag} {H : Hp}
end
/-- a number from 0 on -/
def numV : V → Bool
  | .int i => decide (0 ≤ i)
  | _ => false
def intV : V → Bool
  | .int _ => true
  | _ => false
def blV : V → Bool
  | .bl _ => true
  | _ => false
end L2

set_option linter.all false
set_option maxHeartbeats 4000000
set_option maxRecDepth 100000
namespace HT
open PySem PyProof.Rows
section
open PySem.SeqAt
open PySem.AutoSeq1 (wpAny_loadPart')
open PySem.MeetsSeq PySem.MeetsSeq2 PySem.MeetsSeq3
end
section
variable {prog : Program} {w : World} {A : Around} {E : Value → Shared → Prop} {s : Shared}
end
end HT
namespace PySem
open Sem (wp)

section
variable {prog : Program} {w : World} {A : Around} {R : Result → Shared → Prop} {I : Addr} {fp wr : List Addr} {n : Nat} {P : Nat → Value → Prop} {St : Nat → Heap → Prop}
/-- two items compared, where the heap is as it must be -/
def CmpH (prog : Program) (w : World) (A : Around) (op : CmpOp) (OK : Heap → Prop) (P : Nat → Value → Prop) (bt : Nat → Nat → Bool) : Prop :=
  ∀ i j vi vj (s : Shared) (Q : Value → Shared → Prop) (E : Value → Shared → Prop), OK s.heap → P i vi → P j vj → Q (.bool (bt i j)) s → wpAny (model prog w) A (richCompare op vi vj) Q E s
end
section
variable {prog : Program} {w : World} {A : Around} {E : Value → Shared → Prop} {s : Shared}
end

section
variable {prog : Program} {w : World} {A : Around} {R : Result → Shared → Prop} {I : Addr} {fp wr : List Addr} {n : Nat} {P : Nat → Value → Prop} {St : Nat → Heap → Prop}
end
section
variable {prog : Program} {w : World} {A : Around} {E : Value → Shared → Prop} {s : Shared}
end

end PySem

set_option linter.all false
set_option maxHeartbeats 4000000
set_option maxRecDepth 100000
namespace L2
open PySem PySem.Spec PyProof.Rows
/-- pairs of ints, by the first, then the second -/
def ltP (a b : Int × Int) : Prop := a.1 < b.1 ∨ (a.1 = b.1 ∧ a.2 < b.2)
instance (a b : Int × Int) : Decidable (ltP a b) := inferInstanceAs (Decidable (_ ∨ _))
/-- a list of pairs -/
def PairsAt (K : PySem.W.Frag) (H : Hp) (p : Addr) (ps : List (Int × Int)) : Prop :=
  ∃ as : List Addr, SqL K H p (as.map V.ref) ∧ as.length = ps.length ∧ ∀ (i : Nat) (a : Addr) (q : Int × Int), as[i]? = some a → ps[i]? = some q → SqT K H a [.int q.1, .int q.2]
section
variable {X : Cx}
def rGtT (K : PySem.W.Frag) : R2 := fun x y H Q => ∃ a b ns ms, x = .ref a ∧ y = .ref b ∧ SqT K H a (ns.map V.int) ∧ SqT K H b (ms.map V.int) ∧ Q (.bl (HT.lexLt ms ns)) H
end
end L2

set_option linter.all false
namespace SM
/-- one more at each of these places -/
def addAt (f : List Int) (ps : List Nat) : List Int := ps.foldl (fun f p => f.set p (f.getD p 0 + 1)) f
def markAt (l : List Int) (ps : List Nat) : List Int := ps.foldl (fun l p => l.set p (-1)) l
/-- first place of the greatest -/
def idxMax (l : List Int) : Nat := l.idxOf (l.foldl max (l.headD 0))
/-- the law's own turns -/
def turns : Nat → List Int → List Int → List Int × List Int
  | 0, f, l => (f, l)
  | n + 1, f, l => turns n (f.set (idxMax l) (f.getD (idxMax l) 0 + 1)) (l.set (idxMax l) (-1))

end SM

set_option linter.all false
namespace SM
/-- the law's own share -/
def baseL (t : Int) (ws : List Int) : List Int := ws.map fun w => t * w / ws.sum
def restL (t : Int) (ws : List Int) : List Int := ws.map fun w => t * w % ws.sum
def leftN (t : Int) (ws : List Int) : Int := t - (baseL t ws).sum
def dueL (t : Int) (ws : List Int) : List Int := if ws.sum = 0 then ws.map fun _ => 0 else (turns (leftN t ws).toNat (baseL t ws) (restL t ws)).1

end SM

set_option linter.all false
set_option maxHeartbeats 1000000
namespace SM
def posS : List Int → Int
  | [] => 0
  | x :: l => (if x < 0 then 0 else x) + posS l
/-- what k turns come to -/
structure Turned (S : Int) (n : Nat) (rs f0 : List Int) (k : Nat) (f l : List Int) (U : Nat → Bool) : Prop where
  fl : f.length = rs.length
  ll : l.length = rs.length
  fv : ∀ i, i < rs.length → f.getD i 0 = f0.getD i 0 + if U i = true then 1 else 0
  lv : ∀ i, i < rs.length → l.getD i 0 = if U i = true then -1 else rs.getD i 0
  ord : ∀ i j, i < rs.length → j < rs.length → U i = true → U j = false → rs.getD j 0 < rs.getD i 0 ∨ (rs.getD i 0 = rs.getD j 0 ∧ i < j)
  pos : ∀ i, i < rs.length → U i = true → 0 < rs.getD i 0
  big : ((n : Int) - k) * S ≤ posS l
  sum : f.sum = f0.sum + k
/-- the due row: rounded down or up -/
structure Due (t : Int) (ws row : List Int) (U : Nat → Bool) : Prop where
  len : row.length = ws.length
  val : ∀ i, i < ws.length → row.getD i 0 = t * ws.getD i 0 / ws.sum + if U i = true then 1 else 0
  ord : ∀ i j, i < ws.length → j < ws.length → U i = true → U j = false → t * ws.getD j 0 % ws.sum < t * ws.getD i 0 % ws.sum ∨ (t * ws.getD i 0 % ws.sum = t * ws.getD j 0 % ws.sum ∧ i < j)
  pos : ∀ i, i < ws.length → U i = true → 0 < t * ws.getD i 0 % ws.sum
  sum : row.sum = t
end SM

set_option linter.all false
set_option maxHeartbeats 1000000
namespace SM
end SM
namespace SM
end SM
namespace SM
end SM

set_option linter.all false
set_option maxHeartbeats 4000000
set_option maxRecDepth 100000
namespace L2
open PySem
end L2
namespace L2
open PySem
/-- ints and truths -/
def IB (x : V) : Prop := (∃ i, x = .int i) ∨ ∃ b, x = .bl b
structure IBL (xs : List V) : Prop where
  n : xs.length ≤ 70
  ib : ∀ x ∈ xs, IB x
theorem eqV_refl {x : V} (h : flatV x = true) : eqV x x = true := by
  cases x <;> first | rfl | (simp [eqV]; done) | (cases h)
theorem eqVs_refl : ∀ {xs : List V}, xs.all flatV = true → eqVs xs xs = true
  | [], _ => rfl
  | x :: xs, h => by
    rw [List.all_cons, Bool.and_eq_true] at h
    show (eqV x x && eqVs xs xs) = true
    rw [eqV_refl h.1, eqVs_refl h.2]; rfl
/-- a row that may be the due one: what is_share is to say of it -/
inductive RowV (H : Hp) (ds : List Int) : V → Bool → Prop where
  | lst {l : Addr} {xs : List V} (e : H l = some (.lst xs)) (h : IBL xs) : RowV H ds (.ref l) (xs.all intV && eqVs xs (ds.map V.int))
  | tup {l : Addr} {xs : List V} (e : H l = some (.tup xs)) (h : IBL xs) : RowV H ds (.ref l) false
  | non : RowV H ds .non false
  | str (x : Str) : RowV H ds (.str x) false
end L2
namespace L2
open PySem
theorem eqV' {i j : Int} (c : decide (V.int i = V.int j) = true) : i = j := by have e := of_decide_eq_true c; injection e
theorem seqIx_nat {n a : Nat} (h : a < n) : seqIndex? (a : Int) n = some a := by
  unfold seqIndex?
  have h0 : ¬ ((a : Int) < 0) := by omega
  simp only [h0, if_false]
  rw [if_pos (by simp; omega)]
  simp
end L2
namespace L2
open PySem PySem.Spec PyProof.Rows
end L2

set_option linter.all false
set_option maxHeartbeats 4000000
set_option maxRecDepth 100000
namespace PySem
open Sem (wp)
/-- a list (b) or a tuple walked: its iterator at i stands at k -/
def SeqIt (h : Heap) (b : Bool) (i l : Addr) (k : Nat) (xs : Array Value) : Prop :=
  (b = true ∧ h.IsListIter i l k ∧ h.IsList l xs) ∨ (b = false ∧ h.IsTupleIter i l k ∧ h.IsTuple l xs)
section
variable {h h' : Heap} {b : Bool} {i l c : Addr} {k : Nat} {xs : Array Value}
end
section
variable {prog : Program} {w : World} {A : Around} {E : Value → Shared → Prop} {s : Shared}
/-- the zip at z, its two iterators at k -/
structure ZipSt (h : Heap) (b1 b2 : Bool) (z TI TO i1 i2 l1 l2 : Addr) (f0 : Value) (k : Nat) (xs ys : Array Value) : Prop where
  z : IsZip h z TI TO f0
  ti : IsPair h TI (.ref i1) (.ref i2)
  to : ∃ a b, IsPair h TO a b
  a : SeqIt h b1 i1 l1 k xs
  b : SeqIt h b2 i2 l2 k ys
/-- zip of a tuple and a list is made -/
abbrev zt1 (h : Heap) (l1 : Addr) : Heap := h.push { cls := .type "tuple_iterator", data := .fields #[.ref l1, .int 0 0] }
abbrev zt2 (h : Heap) (l1 l2 : Addr) : Heap := (zt1 h l1).push { cls := .type "list_iterator", data := .fields #[.ref l2, .int 0 0] }
abbrev zt3 (h : Heap) (l1 l2 : Addr) : Heap := (zt2 h l1 l2).push { cls := .type "tuple", data := .seq #[.ref h.objs.size, .ref (zt1 h l1).objs.size] }
abbrev zt4 (h : Heap) (l1 l2 : Addr) : Heap := (zt3 h l1 l2).push { cls := .type "tuple", data := .seq #[.none, .none] }
abbrev zt5 (h : Heap) (l1 l2 : Addr) : Heap := (zt4 h l1 l2).push { cls := .type "zip", data := .fields #[.none, .bool false, .bool false, .ref (zt2 h l1 l2).objs.size, .ref (zt3 h l1 l2).objs.size] }
end
end PySem

set_option linter.all false
set_option maxHeartbeats 4000000
set_option maxRecDepth 100000
namespace L2
open PySem PySem.Spec PyProof.Rows
section
variable {X : Cx} {pins : List (Addr × Obj)} {σ : St} {H : Hp} {s : Shared} {h' : Heap}
/-- .. and a new thing is tracked -/
theorem Inv.turnedT {t' : Nat} {ch : List Addr} {T : Addr} {o : HO} (I : Inv X pins σ H s) (k : ∀ b o, b ∉ ch → s.heap.get? b = some o → h'.get? b = some o) (hf : ∀ b ∈ ch, FpOk X pins H b)
    (hT : s.heap.objs.size ≤ T) (new : ObjOk X.prog X.w (upd H T o) h' T o) : Inv X pins σ (upd H T o) { s with heap := h', toks := t' } := by
  have fT : H T = none := I.hok.fresh hT
  have nit : ∀ b u, H b = some u → b ∉ ch := fun b u e z => by rw [(hf b z).1] at e; cases e
  have neT : ∀ b u, s.heap.get? b = some u → b ≠ T := fun b u e => Nat.ne_of_lt (Nat.lt_of_lt_of_le (Heap.lt_size e) hT)
  refine I.step (g' := s.gens) (d' := s.drawn) (ch := ch) (fun b hb => ?_) (fun b o _ _ hc e _ => k b o hc e) (fun b o _ _ hc e _ => ⟨o.slots, k b o hc e⟩) (fun b o _ e n => by rw [upd_ne (neT b o e)]; exact n)
    (fun b o hc e => ⟨o, k b o hc e⟩) (fun b xs e => by rw [upd_ne (ne_of_none e fT)]; exact e) (fun b u v e => by rw [upd_ne (ne_of_none e fT)]; exact e) (fun b ps e => ⟨#[], by rw [upd_ne (ne_of_none e fT), e]; simp⟩) (fun m hm => ?_) (fun b u e => ?_) I.bare
  · obtain ⟨_, f1, _, f3, f4, f5⟩ := hf b hb
    exact ⟨f3, f1, f4, f5⟩
  · obtain ⟨o, es, ep, ho, r⟩ := hm
    exact ⟨o, es, ep, k _ o (fun z => (hf _ z).2.1 rfl) ho, r⟩
  · by_cases hb : b = T
    · subst hb; rw [upd_same] at e; cases e; exact new
    · rw [upd_ne hb] at e
      refine (I.hok b u e).stay (fun c v hc q => k c v ?_ q) (fun c q => by rw [upd_ne (ne_of_none q fT)]; exact q) fun c xs q => by rw [upd_ne (ne_of_none q fT)]; exact q
      rcases hc with z | z
      · rw [z]; exact nit b u e
      · exact nit c _ z
end
/-- a list (true) or a tuple -/
def SqX (K : PySem.W.Frag) (b : Bool) (H : Hp) (a : Addr) (xs : List V) : Prop := (b = true ∧ SqL K H a xs) ∨ (b = false ∧ SqT K H a xs)
def ItPos (h : Heap) (b : Bool) (i l : Addr) (k : Nat) : Prop := (b = true ∧ h.IsListIter i l k) ∨ (b = false ∧ h.IsTupleIter i l k)
/-- two walked at once: a new pair each turn -/
def Itz (K : PySem.W.Frag) (b1 b2 : Bool) (a b : Addr) : It :=
  ⟨fun i H => ∃ xs ys x y, SqX K b1 H a xs ∧ SqX K b2 H b ys ∧ xs[i]? = some x ∧ ys[i]? = some y,
   fun i H v H' => ∃ T x y, v = .ref T ∧ H T = none ∧ H' = upd H T (.tup [x, y]) ∧ (∀ xs, SqX K b1 H a xs → xs[i]? = some x) ∧ (∀ ys, SqX K b2 H b ys → ys[i]? = some y),
   fun i H => ∃ xs ys, SqX K b1 H a xs ∧ SqX K b2 H b ys ∧ (xs.length ≤ i ∨ ys.length ≤ i)⟩
section
variable {X : Cx} {pins : List (Addr × Obj)} {σ : St} {H : Hp} {s : Shared}
end
section
variable {X : Cx}
def iZip (K : PySem.W.Frag) (ta : TA) : TI := fun σ H R => ta σ H fun vs H1 => ∃ (a b : Addr) (xs ys : List V) (q : Bool), vs = [.ref a, .ref b] ∧ SqX K q H1 a xs ∧ SqL K H1 b ys ∧ R (Itz K q true a b) H1
end
/-! ### blocks over anything -/
section
variable {J : It} {own : List Str} {cap : List Nat} {g : TG} {tt : TT} {te : TE} {σ : St} {Z : List V → Hp → Prop} {H1 : Hp}
theorem blk_any (n : Nat) (Pv : Nat → List V → Hp → Prop) (h0 : Pv 0 [] H1) (hz : ∀ i acc H, Pv i acc H → acc.length < sizeLine) (hgo : ∀ i acc H, i < n → Pv i acc H → J.go i H) (hst : ∀ acc H, Pv n acc H → J.stop n H)
    (step : ∀ i x acc H H3 (R : List V → Hp → Prop), (∀ acc' H', Pv (i + 1) acc' H' → R acc' H') → i < n → Pv i acc H → J.yld i H x H3 → g x (capS own cap σ) H3 fun σ4 H4 => Wk (capS own cap σ) σ4 ∧ tt σ4 H4 fun b H5 =>
      if b = true then te σ4 H5 fun v H6 => R (acc ++ [v]) H6 else R acc H5)
    (hd : ∀ acc H, Pv n acc H → Z acc H) : tBlk own cap g tt te σ Z J H1 := by
  refine ⟨fun i m acc H => m = n - i ∧ i ≤ n ∧ Pv i acc H, ⟨_, rfl, Nat.zero_le _, h0⟩, ?_⟩
  rintro i m acc H ⟨rfl, hi, p⟩
  refine ⟨hz i acc H p, ?_⟩
  by_cases hlt : i < n
  · refine .inr ⟨hgo i acc H hlt p, fun x H3 yl => ?_⟩
    exact step i x acc H H3 (fun acc' H' => ∃ m', m' < n - i ∧ m' = n - (i + 1) ∧ i + 1 ≤ n ∧ Pv (i + 1) acc' H') (fun acc' H' p' => ⟨_, by omega, rfl, hlt, p'⟩) hlt p yl
  · have e : i = n := by omega
    subst e
    exact .inl ⟨hst acc H p, hd acc H p⟩
end
/-- two names as the target -/
def g2 (K : PySem.W.Frag) : TG := gTup K 2 (gCons (gName 0) (gCons (gName 1) gNil))
section
variable {K : PySem.W.Frag} {a b : Addr} {y1 y2 : Str} {cap : List Nat} {te : TE} {σ : St} {Z : List V → Hp → Prop} {H1 : Hp} {q : Bool}
end
end L2

set_option linter.all false
set_option maxHeartbeats 4000000
set_option maxRecDepth 100000
namespace L2
open PySem PySem.Spec PyProof.Rows
/-- == of things within things -/
inductive DEq (K : PySem.W.Frag) (H : Hp) : Nat → V → V → Bool → Prop where
  | flat {n : Nat} {x y : V} (fx : flatV x = true) (fy : flatV y = true) : DEq K H n x y (eqV x y)
  | same {n : Nat} (a : Addr) : DEq K H n (.ref a) (.ref a) true
  | lst {n : Nat} {a b : Addr} {xs ys : List V} (e : Nat → Bool) (ne : a ≠ b) (ha : SqL K H a xs) (hb : SqL K H b ys) (hl : xs.length = ys.length)
      (h : ∀ i, i < xs.length → DEq K H n (xs.getD i .non) (ys.getD i .non) (e i)) : DEq K H (n + 1) (.ref a) (.ref b) ((List.range xs.length).all e)
  | lstN {n : Nat} {a b : Addr} {xs ys : List V} (ha : SqL K H a xs) (hb : SqL K H b ys) (hl : xs.length ≠ ys.length) : DEq K H (n + 1) (.ref a) (.ref b) false
section
variable {X : Cx} {pins : List (Addr × Obj)} {σ : St} {H : Hp} {s : Shared}
def rEqD (K : PySem.W.Frag) (neg : Bool) : R2 := fun x y H Q => ∃ (p b : Addr) (xs ys : List V) (n : Nat) (e : Nat → Bool), x = .ref p ∧ y = .ref b ∧ SqL K H p xs ∧ SqL K H b ys ∧ n ≤ 60 ∧
  ((xs.length = ys.length ∧ (∀ i, i < xs.length → DEq K H n (xs.getD i .non) (ys.getD i .non) (e i)) ∧ Q (.bl (if neg then !(List.range xs.length).all e else (List.range xs.length).all e)) H) ∨ (xs.length ≠ ys.length ∧ Q (.bl neg) H))
end
/-- four names as the target -/
def g4 (K : PySem.W.Frag) : TG := gTup K 4 (gCons (gName 0) (gCons (gName 1) (gCons (gName 2) (gCons (gName 3) gNil))))
section
variable {K : PySem.W.Frag} {a : Addr} {y y1 y2 y3 y4 : Str} {cap : List Nat} {te : TE} {σ : St} {Z : List V → Hp → Prop} {H1 : Hp}
end
section
variable {X : Cx} {K : PySem.W.Frag} {pos : Pos}
theorem pg_tupK {es : List Expr} {k : Nat} {t : TGs} {n : Nat} (eK : X.K = K) (hc : X.calm = true) (h : PGs X es t)
    (hn : (assignEach es X.env).length = n) (hst : (assignEach es X.env).findIdx? (·.1) = none) : PG X (.Tuple es k pos) (gTup K n t) := by
  subst eK; exact pg_tup hc h hn hst
end
end L2

set_option linter.all false
set_option maxHeartbeats 1000000
namespace FM
open SM
/-- a part: begin, least, most, weight -/
structure Pt where
  b : Int
  l : Int
  m : Int
  w : Int
  deriving DecidableEq
structure GoodPt (p : Pt) : Prop where
  l0 : 0 ≤ p.l
  lb : p.l ≤ p.b
  bm : p.b ≤ p.m
  m9 : p.m ≤ 9999
  w0 : 0 ≤ p.w
  w9 : p.w ≤ 9999
def wts (ps : List Pt) (rooms : List Int) : List Int := List.zipWith (fun p r => if 0 < r then p.w else 0) ps rooms
def given (lack : Int) (ps : List Pt) (rooms : List Int) : List Int := List.zipWith min (dueL lack (wts ps rooms)) rooms
/-- the rooms and what lacks behind k rounds -/
def st (ps : List Pt) (lack : Int) : Nat → List Int × Int
  | 0 => (ps.map fun p => p.m - p.b, lack)
  | k + 1 => (List.zipWith (· - ·) (st ps lack k).1 (given (st ps lack k).2 ps (st ps lack k).1), (st ps lack k).2 - (given (st ps lack k).2 ps (st ps lack k).1).sum)
def gv (ps : List Pt) (lack : Int) (k : Nat) : List Int := given (st ps lack k).2 ps (st ps lack k).1
structure Ends (ps : List Pt) (lack : Int) (i : Nat) : Prop where
  on : ∀ k, k < i → 0 < (st ps lack k).2 ∧ (gv ps lack k).sum ≠ 0
  off : ¬ 0 < (st ps lack i).2 ∨ (gv ps lack i).sum = 0
/-- the sizes behind k rounds -/
def szs (ps : List Pt) (rooms : List Int) : List Int := List.zipWith (fun p r => p.m - r) ps rooms
/-- what is taken -/
def above (ps : List Pt) : List Int := ps.map fun p => p.b - p.l
def taken (total : Int) (ps : List Pt) : Int := min ((ps.map fun p => p.b).sum - total) (above ps).sum
/-- the rounds and the sizes that are due -/
inductive Fill (total : Int) (ps : List Pt) : List (List Int) → List Int → Prop where
  | none (h : (ps.map fun p => p.b).sum > total) (h0 : taken total ps = 0) : Fill total ps [] (ps.map fun p => p.b)
  | less (h : (ps.map fun p => p.b).sum > total) (h0 : taken total ps ≠ 0) : Fill total ps [dueL (taken total ps) (above ps)] (List.zipWith (· - ·) (ps.map fun p => p.b) (dueL (taken total ps) (above ps)))
  | more (i : Nat) (h : ¬ (ps.map fun p => p.b).sum > total) (e : Ends ps (total - (ps.map fun p => p.b).sum) i) : Fill total ps ((List.range i).map (gv ps (total - (ps.map fun p => p.b).sum))) (szs ps (st ps (total - (ps.map fun p => p.b).sum) i).1)
/-- sizes by the rounds alone -/
def behind (sign : Int) (rows : List (List Int)) (sz : List Int) : List Int := rows.foldl (fun sz row => List.zipWith (fun s n => s + sign * n) sz row) sz
end FM


set_option linter.all false
set_option maxHeartbeats 1000000
namespace FM
open SM
section
variable {ps : List Pt} {lack : Int}
end
end FM

set_option linter.all false
set_option maxHeartbeats 4000000
set_option maxRecDepth 100000
namespace L2
open PySem PySem.Spec PyProof.Rows
/-- a list walked, with its places -/
def Ite (K : PySem.W.Frag) (a : Addr) : It :=
  ⟨fun i H => ∃ xs x, SqL K H a xs ∧ xs[i]? = some x,
   fun i H v H' => ∃ T x, v = .ref T ∧ H T = none ∧ H' = upd H T (.tup [.int i, x]) ∧ ∀ xs, SqL K H a xs → xs[i]? = some x,
   fun i H => ∃ xs, SqL K H a xs ∧ xs.length ≤ i⟩
section
variable {X : Cx}
def iEnum (K : PySem.W.Frag) (ta : TA) : TI := fun σ H R => ta σ H fun vs H1 => ∃ (a : Addr) (xs : List V), vs = [.ref a] ∧ SqL K H1 a xs ∧ R (Ite K a) H1
end
/-- a loop over anything -/
theorem for_any {J : It} {g : TG} {tb : TS} {D : Ends} {σ : St} {H : Hp} (n : Nat) (Pv : Nat → St → Hp → Prop) (h0 : Pv 0 σ H) (hgo : ∀ i σ H, i < n → Pv i σ H → J.go i H) (hst : ∀ σ H, Pv n σ H → J.stop n H)
    (hs : ∀ i x σ H H', i < n → Pv i σ H → J.yld i H x H' → g x σ H' fun σ2 H2 => tb { D with nx := Pv (i + 1), ct := Pv (i + 1), bk := D.nx } σ2 H2) (hd : ∀ σ H, Pv n σ H → D.nx σ H) :
    ∃ W : Nat → Nat → St → Hp → Prop, (∃ m, W 0 m σ H) ∧ ∀ i m σ H, W i m σ H →
      (J.stop i H ∧ D.nx σ H) ∨ (J.go i H ∧ ∃ N : St → Hp → Prop, (∀ σ' H', N σ' H' → ∃ m', m' < m ∧ W (i + 1) m' σ' H') ∧ ∀ x H', J.yld i H x H' → g x σ H' fun σ2 H2 => tb { D with nx := N, ct := N, bk := D.nx } σ2 H2) := by
  refine ⟨fun i m σ H => m = n - i ∧ i ≤ n ∧ Pv i σ H, ⟨n, by simp, Nat.zero_le _, h0⟩, ?_⟩
  rintro i m σ H ⟨rfl, hi, p⟩
  by_cases hlt : i < n
  · exact .inr ⟨hgo i σ H hlt p, Pv (i + 1), fun σ' H' p' => ⟨n - (i + 1), by omega, rfl, hlt, p'⟩, fun x H' y => hs i x σ H H' hlt p y⟩
  · have e : i = n := by omega
    subst e
    exact .inl ⟨hst σ H p, hd σ H p⟩
end L2

set_option linter.all false
namespace L2
open PySem PySem.W PyProof.Rows
/-- an exception that flies behind a call, up to the callers' frames: B holds all that was known, and all that is told -/
def CXW (P : Program) (w : World) : CXT := fun outer H s E e s' => ∃ (a C : Addr) (a0 : Value) (H' : Hp) (B : Heap), e = .ref a ∧ s'.os = s.os ∧ AllBare s'.gens ∧ Un (frs outer) [] H H' s.heap s'.heap ∧ HOk P w H' s'.heap ∧
  Heap.FlyingW B outer a (.ref C) a0 s'.heap ∧ (∀ b o, s.heap.get? b = some o → H b = none → b ∉ frs outer → B.get? b = some o) ∧ (∀ b u o, H' b = some u → s'.heap.get? b = some o → B.get? b = some o) ∧
  (∀ b o, s.heap.get? b = some o → b ∉ frs outer → ∃ o', B.get? b = some o') ∧ E (.ref C) none H'
section
variable {P : Program} {w : World} {K : PySem.W.Frag} {mg : Str → Option Value} {base : Heap} {N : List Str} {qual : Str} {scope : Scope} {f : Addr} {cd : Value} {A : Around} {outer : List Env} {s : Shared} {H : Hp} {E : XK}
end
end L2

set_option linter.all false
namespace L2
open PySem PySem.W PyProof.Rows
/-- what this body wants of an exception that it makes -/
def RaisesTo (X : Cx) (E : XK) : Prop := ∀ (pins : List (Addr × Obj)) (σ : St) (H1 : Hp) (s1 : Shared) (a C : Addr) (args : List Value) (h1 : Heap), Inv X pins σ H1 s1 → Heap.MadeExcOf s1.heap h1 a (.ref C) args → E (.ref C) none H1 → X.xe (.ref a) { s1 with heap := h1 }
/-- raise C(..), C an own exception -/
def tRaise (E : XK) (C : Addr) (ta : TA) : TS := fun _ σ H => ta σ H fun _ H1 => E (.ref C) none H1
end L2

set_option linter.all false
namespace L2
open PySem PySem.W PyProof.Rows
section
variable {X : Cx} {pins : List (Addr × Obj)} {σ : St} {H H' H1 : Hp} {s s' s1 : Shared}
/-- an exception object -/
abbrev excO (a C : Addr) : HO := .ext fun h => ∃ oe ws, h.get? a = some oe ∧ oe.cls = .ref C ∧ oe.data = .fields ws
end
end L2

set_option linter.all false
namespace L2
open PySem PySem.W PyProof.Rows
section
variable {M : Model} {A : Around} {E : Value → Shared → Prop}
variable {nm q : Str} {C N : Addr} {bs bm : List Value} {hdct : Bool} {sn : List Str} {sub : List Value} {ab : Bool} {col : Option Bool} {dd : Option Addr} {k0 k1 k2 k3 k5 : Option Value} {newId : String}
variable {nm' q' : Str} {C0 N' : Addr} {bs' bm0 : List Value} {hdct' : Bool} {sn' : List Str} {sub' : List Value} {ab' : Bool} {col' : Option Bool} {dd' : Option Addr} {j0 j1 j2 j3 j5 : Option Value} {newId' : String}
end
section
variable {X : Cx} {pins : List (Addr × Obj)} {σ : St} {H : Hp} {s : Shared}
/-- the context of a suite that handles the exception at a -/
abbrev Cx.held (X : Cx) (a : Addr) : Cx := { X with A := X.A.mark (some (.ref a)), calm := false, xe := fun _ _ => False }
end
end L2

set_option linter.all false
set_option maxRecDepth 100000
namespace L2
open PySem PySem.W PyProof.Rows
/-- the class at C is the one at C0 or below it -/
def belowIn (K : Frag) (C C0 : Addr) : Bool := match K.lookup C with
  | some ⟨_, _, .cls cd, _⟩ => cd.mro.contains (.ref C0)
  | _ => false
/-- try: f(..) except C0 as the i-th name: .. -/
def tTry (sp : Sp) (K : Frag) (C0 : Addr) (i : Nat) (t : TA) (ts : TS) : TS := fun D σ H => t σ H fun vs H1 => sp vs H1 (fun _ H2 => D.nx σ H2) fun cls _ H2 => ∃ C bm nid, cls = .ref C ∧ excIn K C bm nid = true ∧ belowIn K C C0 = true ∧
  ∀ a, H2 a = none → ts { nx := fun σ' H' => D.nx (σ'.set i none) H', rt := D.rt, bk := fun σ' H' => D.bk (σ'.set i none) H', ct := fun σ' H' => D.ct (σ'.set i none) H' } (σ.set i (some (.ref a))) (upd H2 a (excO a C))
section
variable {X : Cx} {k : Nat} {f : Addr} {fd : FuncData} {ps : List Str} {sp : Sp} {x c n : Str} {p cpos epos np hpos pos : Pos} {e : Expr} {es : List Expr} {b₀ : Stmt} {suite : List Stmt} {t : TA} {ts : TS} {i : Nat} {C0 : Addr} {bmB : List Value} {newId : String}
end
end L2

set_option linter.all false
set_option maxRecDepth 100000
namespace L2
open PySem PySem.W PySem.Spec PySem.Calls PyProof.Rows
section
variable {prog : Program} {w : World} {A : Around} {E : Value → Shared → Prop} {h : Heap} {g : Array GenState} {d : Drawn} {t : Nat} {os : OsState} {K : Frag} {a C : Addr} {o : Obj}
/-- what the fragment tells of an own exception class, for isinstance -/
structure ExcIsi (K : Frag) (C : Addr) : Prop where
  obj : mroIn K C (.type "object") = some true
  base : mroIn K C (.type "BaseException") = some true
  cls : findIn K (.ref C) "__class__" = some (some (.builtin "object.__class__"))
  ga : findIn K (.ref C) "__getattribute__" = some (some (.builtin "BaseException.__getattribute__"))
  no : findIn K (.ref C) "__getattr__" = some none
end
end L2

set_option linter.all false
set_option maxRecDepth 100000
namespace L2
open PySem PySem.W PySem.Spec PySem.Calls PyProof.Rows
section
variable {X : Cx}
end
end L2

set_option linter.all false
set_option maxRecDepth 100000
namespace L2
open PySem PySem.W PySem.Spec PySem.Calls PyProof.Rows
/-- room, though an exception is being handled -/
structure RoomU (k : Nat) (A : Around) : Prop where
  dp : A.depth + 3 * k + 5 < recursionLimit
  un : A.units + 16 * k + 200 < cLine
/-- a def that may be called from a suite that handles an exception -/
structure FnOkU (P : Program) (w : World) (K : PySem.W.Frag) (mg : Str → Option Value) (base : Heap) (k : Nat) (f : Addr) (fd : FuncData) (ps : List Str) (sp : Sp) : Prop where
  len : ∀ vs H Q E, sp vs H Q E → vs.length = ps.length
  run : ∀ (A : Around) (outer : List Env) (s : Shared) (H : Hp) (args : Args) (us : List Value) (vs : List V) (Q : VK) (E : XK), RoomU k A → Env0 P w K mg base A outer s H → BindsTo s fd args (ps.zip us) → Vals vs us → sp vs H Q E →
    codeAny (model P w) A (.call (.ref f) args) (CR CX0 outer P w H s Q E) s
/-- the body's context -/
abbrev cxU (P : Program) (w : World) (K : PySem.W.Frag) (mg : Str → Option Value) (base : Heap) (N : List Str) (qual : Str) (scope : Scope) (f : Addr) (cd : Value) (A : Around) (outer : List Env) (s : Shared) (H : Hp) : Cx :=
  { cxOf CX0 P w K mg base N qual scope f cd A outer s H E0 with calm := false, xe := fun _ _ => False }
end L2

set_option linter.all false
set_option maxRecDepth 100000
namespace L2
open PySem PySem.W PySem.Spec PySem.Calls PyProof.Rows
abbrev bmVE : List Value := [.type "ValueError", .type "Exception", .type "BaseException", .type "object"]
/-- the classes at cs stand below the one at pe, each beside the others -/
def clsAll (K : Frag) (pe : Addr) (cs : List Addr) : Bool := decide cs.Nodup && excIn K pe bmVE "ValueError.__new__" && cs.all fun c => excIn K c bmVE "ValueError.__new__" && belowIn K c pe && (mroIn K c (.type "object") == some true) && (mroIn K c (.type "BaseException") == some true) &&
  (findIn K (.ref c) "__class__" == some (some (.builtin "object.__class__"))) && (findIn K (.ref c) "__getattribute__" == some (some (.builtin "BaseException.__getattribute__"))) && (findIn K (.ref c) "__getattr__" == some none) &&
  (kitOne K (.ref c) (.type "ValueError") == some true) && cs.all fun c' => kitOne K (.ref c) (.ref c') == some (c == c')
structure ClsAt (K : Frag) (pe : Addr) (cs : List Addr) (c : Addr) : Prop where
  exc : excIn K c bmVE "ValueError.__new__" = true
  below : belowIn K c pe = true
  isi : ExcIsi K c
  ve : kitOne K (.ref c) (.type "ValueError") = some true
  each : ∀ c' ∈ cs, kitOne K (.ref c) (.ref c') = some (c == c')
end L2

set_option linter.all false
set_option maxRecDepth 100000
namespace L2
open PySem PySem.W PySem.Spec PySem.Calls PyProof.Rows
/-- {i: v}, two whole numbers -/
def tD1 (i v : Int) : TE := fun _ H Q => ∀ a, H a = none → Q (.ref a) (upd H a (.dK [(.inl i, .int v)]))
end L2

set_option linter.all false
set_option maxHeartbeats 4000000
set_option maxRecDepth 100000
namespace L2
open PySem PySem.W PySem.Spec PySem.Calls PyProof.Rows
section
variable {X : Cx}
/-- != of two tuples of like lengths -/
def rNeT (K : PySem.W.Frag) : R2 := fun x y H Q => ∃ (p b : Addr) (xs ys : List V) (n : Nat) (e : Nat → Bool), x = .ref p ∧ y = .ref b ∧ SqT K H p xs ∧ SqT K H b ys ∧ n ≤ 60 ∧
  xs.length = ys.length ∧ (∀ i, i < xs.length → DEq K H n (xs.getD i .non) (ys.getD i .non) (e i)) ∧ Q (.bl (!(List.range xs.length).all e)) H
/-- a dict of one pair with itself -/
def rNeK : R2 := fun x y H Q => ∃ (p : Addr) (k v : Int), x = .ref p ∧ y = .ref p ∧ H p = some (.dK [(.inl k, .int v)]) ∧ Q (.bl false) H
end
end L2

set_option linter.all false
set_option maxHeartbeats 4000000
set_option maxRecDepth 100000
namespace L2
open PySem PySem.W PySem.Spec PySem.Calls PyProof.Rows
/-- {} -/
def tD0 : TE := fun _ H Q => ∀ a, H a = none → Q (.ref a) (upd H a (.dK []))
theorem pe_dict0 {X : Cx} {pos : Pos} : PE X (.Dict [] [] pos) tD0 := by
  intro pins s σ H Q I h
  refine wpAny_Dict_empty ?_
  refine ⟨.ref s.heap.objs.size, upd H s.heap.objs.size (.dK []), I.laid (t' := s.toks) (fun b u e => Heap.get?_push_of_some _ e) (Nat.le_refl _) ?_, rfl, h _ (I.hok.fresh (Nat.le_refl _))⟩
  refine ⟨by show 0 ≤ sizeLine; decide, beq_eq_false_iff_ne.mpr (Ne.symm (Nat.ne_of_lt (Nat.lt_trans (show sysModules < mainGlobals by decide) (let ⟨_, _, _, e, _⟩ := I.mod.glob.keeps I.bk; Heap.lt_size e)))), [], .nil, Heap.DictOf.new s.heap⟩
/-- an empty dict with itself -/
def rNeK0 : R2 := fun x y H Q => ∃ (p : Addr), x = .ref p ∧ y = .ref p ∧ H p = some (.dK []) ∧ Q (.bl false) H
end L2

-- CHANGE: your row's module here, as the last of these rows
set_option Elab.async false
set_option linter.all false
set_option maxRecDepth 100000
/-! THE HAND LAYER, for ints, bools, texts, own classes, DICTS (int and text keys), calls, loops. Paste it whole ahead of your own text; what your proof does not reach may be deleted. -/
namespace L2
open PySem PySem.Spec PyProof.Rows

end L2

namespace L2
open PySem PySem.Spec PyProof.Rows

section
variable (P : Program) (w : World)
end

section
variable {P : Program} {w : World} {H H' : Hp} {h h' : Heap} {a : Addr} {o : HO}
end

section
variable {P : Program} {w : World} {H : Hp} {h h' : Heap} {x e : Addr} {o' : HO}
end

section
variable {fs fs' ex ex' : List Addr} {H H1 H2 : Hp} {h h1 h2 h' : Heap} {a x e : Addr} {o : HO}
end

end L2

namespace L2
open PySem PySem.Spec PyProof.Rows

section
variable {X : Cx} {pins : List (Addr × Obj)} {σ : List (Option V)} {H H' : Hp} {s : Shared} {h' : Heap}

end

end L2

namespace L2
open PySem PySem.Spec PyProof.Rows
section
variable {X : Cx}

variable {a b : Expr} {ta tb : TE} {pos : Pos}
/-! ### and, or, not -/
variable {tA tB' : TT} {rest : List Expr}
end
end L2

namespace L2
open PySem PySem.Spec PyProof.Rows

section
variable {X : Cx} {pins : List (Addr × Obj)} {σ : St} {H : Hp} {s : Shared} {a : Addr} {xs ys : List V}
end

section
variable {X : Cx} {pins : List (Addr × Obj)} {σ : St} {H : Hp} {s : Shared} {E : Value → Shared → Prop}
end

/-! ### blocks and small statements -/
section
variable {X : Cx} {st : Stmt} {rest : List Stmt} {t u : TS} {e : Expr} {te : TE} {pos : Pos}
end

section
variable {X : Cx} {pos : Pos}
end

/-! ### while -/
section
variable {X : Cx} {pos : Pos}
end

end L2

namespace L2
open PySem PySem.Spec PyProof.Rows
section
variable {X : Cx} {tg : Expr}
end

end L2

namespace L2
open PySem PySem.Spec PyProof.Rows

section
variable {X : Cx} {a b c : Expr} {ta tb tc : TE} {pos : Pos}

end

section
variable {X : Cx} {a b c : Expr} {ta tb tc : TE} {pos : Pos}
end
end L2

namespace L2
open PySem PySem.Spec PyProof.Rows

section
variable {prog : Program} {w : World} {A : Around} {E : Value → Shared → Prop} {s : Shared} {K : PySem.W.Frag} {x dx C f : Addr} {mA : Str → Option Value} {name : Str} {v : Value}

end

section
variable {P : Program} {w : World} {H H' : Hp} {h h' : Heap} {a C dx : Addr} {fs fs' : List (Str × V)}
end

section
variable {X : Cx} {pins : List (Addr × Obj)} {σ : St} {H : Hp} {s : Shared} {a C dx : Addr} {fs : List (Str × V)} {f : Str} {v : V} {A : Around} {E : Value → Shared → Prop}

end

section
variable {X : Cx} {o e value : Expr} {f : Str} {pos pos' tpos : Pos} {ta tv : TE}
end

/-! ### isinstance -/
section
variable {X : Cx} {pins : List (Addr × Obj)} {σ : St} {H : Hp} {s : Shared} {A : Around} {E : Value → Shared → Prop} {Q : Value → Shared → Prop} {c : Value} {b : Bool}
end
end L2

namespace L2
open PySem PySem.Spec PyProof.Rows

section
variable {X : Cx} {e : Expr} {es : List Expr} {te : TE} {t : TA} {pos : Pos}
end

section
variable {X : Cx} {pins : List (Addr × Obj)} {σ : St} {H : Hp} {s s' : Shared}
end

section
variable {X : Cx} {CX : CXT} {k : Nat} {f C : Addr} {fd : FuncData} {ps : List Str} {sp : Sp} {dvs : List V} {ds : List Value} {E : XK} {x m : Str} {p pos apos : Pos} {e o : Expr} {es : List Expr} {ta : TE} {t : TA}

end

section
variable {X : Cx} {CX : CXT} {k : Nat} {f C : Addr} {fd : FuncData} {ps ks : List Str} {sp : Sp} {E : XK} {x m : Str} {p pos apos kpos : Pos} {e o : Expr} {es : List Expr} {kws : List Keyword} {te ta : TE} {t tk : TA} {nm : Option Str}
variable {g : List Value → List Value → List Value} {gV : List V → List V → List V}
end

end L2

namespace L2
open PySem PySem.Spec PyProof.Rows
section
variable {X : Cx} {x : Str} {p pos : Pos} {e : Expr} {es : List Expr} {t : TA} {id T : String} {r : List V → Hp → VK → Prop}

end
end L2

namespace L2
open PySem PySem.Spec PyProof.Rows

/-! ### lists of pairs as tables -/
section
variable {κ : Type} [DecidableEq κ]
def valV (kvs : List (κ × V)) (k : κ) : Option V := (kvs.find? fun kv => decide (kv.1 = k)).map (·.2)
/-- in its place, or at the end -/
def putK (kvs : List (κ × V)) (k : κ) (v : V) : List (κ × V) :=
  if (kvs.any fun kv => decide (kv.1 = k)) = true then kvs.map (fun kv => if kv.1 = k then (kv.1, v) else kv) else kvs ++ [(k, v)]
def dropK (kvs : List (κ × V)) (k : κ) : List (κ × V) := kvs.filter fun kv => decide (kv.1 ≠ k)

theorem valV_pos {p : κ × V} {r : List (κ × V)} {k : κ} (e : p.1 = k) : valV (p :: r) k = some p.2 := by simp [valV, List.find?_cons, e]
theorem valV_neg {p : κ × V} {r : List (κ × V)} {k : κ} (e : ¬ p.1 = k) : valV (p :: r) k = valV r k := by simp [valV, List.find?_cons, e]
theorem valV_any (k : κ) : ∀ kvs : List (κ × V), (kvs.any fun kv => decide (kv.1 = k)) = (valV kvs k).isSome
  | [] => rfl
  | p :: r => by
    rw [List.any_cons]
    by_cases e : p.1 = k
    · simp only [valV_pos e, decide_eq_true e, Bool.true_or, Option.isSome_some]
    · rw [valV_neg e, decide_eq_false e, Bool.false_or]; exact valV_any k r
theorem valV_map (k j : κ) (y : V) : ∀ kvs : List (κ × V), valV (kvs.map fun kv => if kv.1 = k then (kv.1, y) else kv) j = (valV kvs j).map fun x => if j = k then y else x
  | [] => rfl
  | p :: r => by
    have ih := valV_map k j y r
    rw [List.map_cons]
    by_cases h : p.1 = k
    · rw [if_pos h]
      by_cases e : p.1 = j
      · rw [valV_pos (p := (p.1, y)) e, valV_pos e, Option.map_some, if_pos (e.symm.trans h)]
      · rw [valV_neg (p := (p.1, y)) e, valV_neg e, ih]
    · rw [if_neg h]
      by_cases e : p.1 = j
      · rw [valV_pos (p := p) e, valV_pos e, Option.map_some, if_neg (fun z => h (e.trans z))]
      · rw [valV_neg (p := p) e, valV_neg e, ih]
theorem valV_snoc (k j : κ) (y : V) : ∀ kvs : List (κ × V), valV kvs k = none → valV (kvs ++ [(k, y)]) j = if j = k then some y else valV kvs j
  | [], _ => by
    by_cases e : k = j
    · rw [if_pos e.symm]; exact valV_pos (p := (k, y)) e
    · rw [if_neg (fun z => e z.symm)]; exact valV_neg (p := (k, y)) e
  | p :: r, hn => by
    rw [List.cons_append]
    have hk : ¬ p.1 = k := fun z => by rw [valV_pos z] at hn; cases hn
    rw [valV_neg hk] at hn
    have ih := valV_snoc k j y r hn
    by_cases e : p.1 = j
    · rw [valV_pos e, valV_pos e, if_neg (fun z => hk (e.trans z))]
    · rw [valV_neg e, valV_neg e, ih]
theorem valV_put (kvs : List (κ × V)) (k j : κ) (y : V) : valV (putK kvs k y) j = if j = k then some y else valV kvs j := by
  unfold putK
  by_cases a : (kvs.any fun kv => decide (kv.1 = k)) = true
  · rw [if_pos a, valV_map]
    rw [valV_any] at a
    by_cases e : j = k
    · obtain ⟨x, hx⟩ := Option.isSome_iff_exists.mp a
      rw [if_pos e, e, hx, Option.map_some, if_pos rfl]
    · rw [if_neg e]
      cases valV kvs j with
      | none => rfl
      | some x => rw [Option.map_some, if_neg e]
  · rw [if_neg a]
    refine valV_snoc k j y kvs ?_
    rw [valV_any] at a
    cases q : valV kvs k with
    | none => rfl
    | some x => rw [q] at a; exact (a rfl).elim
theorem length_putK (kvs : List (κ × V)) (k : κ) (v : V) : (putK kvs k v).length ≤ kvs.length + 1 := by
  unfold putK
  split
  · rw [List.length_map]; omega
  · rw [List.length_append, List.length_cons, List.length_nil]; omega
theorem putK_new {kvs : List (κ × V)} {k : κ} (v : V) (h : valV kvs k = none) : putK kvs k v = kvs ++ [(k, v)] := by
  unfold putK
  rw [valV_any, h]
  exact if_neg (by decide)

theorem RelO.isSome_eq {o : Option V} {u : Option Value} (r : RelO o u) : o.isSome = u.isSome := by
  cases o with
  | none => cases u with
    | none => rfl
    | some _ => exact (show False from r).elim
  | some _ => cases u with
    | none => exact (show False from r).elim
    | some _ => rfl
/-- raw tables of the same keys -/
theorem KV.val {kvs : List (κ × V)} {vs : List (κ × Value)} (r : KV kvs vs) (k : κ) : RelO (valV kvs k) (valueAt vs k) := by
  unfold KV at r
  induction r with
  | nil => exact True.intro
  | @cons p q ps qs h t ih =>
    obtain ⟨h1, h2⟩ := h
    by_cases e : p.1 = k
    · have e' : q.1 = k := h1.symm.trans e
      have b : valueAt (q :: qs) k = some q.2 := by simp [valueAt, List.find?_cons, e']
      rw [valV_pos e, b]; exact h2
    · have e' : ¬ q.1 = k := fun z => e (h1.trans z)
      have b : valueAt (q :: qs) k = valueAt qs k := by simp [valueAt, List.find?_cons, e']
      rw [valV_neg e, b]; exact ih
theorem KV.any {kvs : List (κ × V)} {vs : List (κ × Value)} (r : KV kvs vs) (k : κ) : (kvs.any fun kv => decide (kv.1 = k)) = vs.any fun kv => decide (kv.1 = k) := by
  unfold KV at r
  induction r with
  | nil => rfl
  | cons h t ih => rw [List.any_cons, List.any_cons, ih, h.1]
theorem KV.repl {kvs : List (κ × V)} {vs : List (κ × Value)} (r : KV kvs vs) (k : κ) {y : V} {u : Value} (ry : RelV y u) :
    KV (kvs.map fun kv => if kv.1 = k then (kv.1, y) else kv) (vs.map fun kv => if kv.1 = k then (kv.1, u) else kv) := by
  unfold KV at r ⊢
  induction r with
  | nil => exact .nil
  | @cons p q ps qs h t ih =>
    rw [List.map_cons, List.map_cons]
    refine .cons ?_ ih
    obtain ⟨h1, h2⟩ := h
    by_cases e : p.1 = k
    · rw [if_pos e, if_pos (h1.symm.trans e)]; exact ⟨h1, ry⟩
    · rw [if_neg e, if_neg (fun z => e (h1.trans z))]; exact ⟨h1, h2⟩
theorem KV.put {kvs : List (κ × V)} {vs : List (κ × Value)} (r : KV kvs vs) (k : κ) {y : V} {u : Value} (ry : RelV y u) : KV (putK kvs k y) (stored vs k u) := by
  unfold putK stored
  rw [r.any k]
  by_cases e : (vs.any fun kv => decide (kv.1 = k)) = true
  · rw [if_pos e, if_pos e]; exact r.repl k ry
  · rw [if_neg e, if_neg e]; exact Paired.snoc r ⟨rfl, ry⟩
theorem KV.length {kvs : List (κ × V)} {vs : List (κ × Value)} (r : KV kvs vs) : kvs.length = vs.length := Paired.length r
end


/-! ### a tracked dict, its keys ints and texts or tuples of these -/
theorem kV_is {P : Program} {w : World} {k : Key} {u : Value} (r : RelV (kV k) u) : (mixKind P w).is k u = true := by
  cases k with
  | inl i => obtain ⟨t, e⟩ := (show ∃ t, u = Value.int i t from r); subst e; exact mixKind_int P w i t
  | inr x => obtain ⟨t, e⟩ := (show ∃ t, u = Value.str x t from r); subst e; exact mixKind_str P w x t
theorem items_are {P : Program} {w : World} : ∀ {ks : List Key} {us : List Value}, Vals (ks.map kV) us → ItemsAre (mixKind P w) ks us
  | [], _, r => by rw [List.map_nil] at r; cases r; exact .nil
  | k :: ks, _, r => by
    rw [List.map_cons] at r
    cases r with
    | cons h t => exact .cons (kV_is h) (items_are t)

/-- raw entries of a dict with tuple keys -/
abbrev KT (H : Hp) : List (List Key × V) → List (List Key × Addr × Value) → Prop := Paired fun p q => p.1 = q.1 ∧ H q.2.1 = some (.tup (p.1.map kV)) ∧ RelV p.2 q.2.2
theorem KT.val {H : Hp} {kvs : List (List Key × V)} {xs : List (List Key × Addr × Value)} (r : KT H kvs xs) (k : List Key) : RelO (valV kvs k) ((atKey xs k).map (·.2)) := by
  induction r with
  | nil => exact True.intro
  | @cons p q ps qs h t ih =>
    obtain ⟨h1, _, h2⟩ := h
    by_cases e : p.1 = k
    · have e' : q.1 = k := h1.symm.trans e
      have b : atKey (q :: qs) k = some q.2 := by simp [atKey, List.find?_cons, e']
      rw [valV_pos e, b]; exact h2
    · have e' : ¬ q.1 = k := fun z => e (h1.trans z)
      have b : atKey (q :: qs) k = atKey qs k := by simp [atKey, List.find?_cons, e']
      rw [valV_neg e, b]; exact ih
theorem KT.repl {H : Hp} {kvs : List (List Key × V)} {xs : List (List Key × Addr × Value)} (r : KT H kvs xs) (k : List Key) {y : V} {u : Value} (ry : RelV y u) :
    KT H (kvs.map fun kv => if kv.1 = k then (kv.1, y) else kv) (xs.map (putAt k u)) := by
  induction r with
  | nil => exact .nil
  | @cons p q ps qs h t ih =>
    rw [List.map_cons, List.map_cons]
    refine .cons ?_ ih
    obtain ⟨h1, h2, h3⟩ := h
    unfold putAt
    by_cases e : p.1 = k
    · rw [if_pos e, if_pos (h1.symm.trans e)]; exact ⟨h1, h2, ry⟩
    · rw [if_neg e, if_neg (fun z => e (h1.trans z))]; exact ⟨h1, h2, h3⟩
theorem KT.put {H : Hp} {kvs : List (List Key × V)} {xs : List (List Key × Addr × Value)} (r : KT H kvs xs) (k : List Key) {b : Addr} {y : V} {u : Value} (hb : H b = some (.tup (k.map kV))) (ry : RelV y u) :
    KT H (putK kvs k y) (storedH xs k b u) := by
  have e : (kvs.any fun kv => decide (kv.1 = k)) = (atKey xs k).isSome := by
    rw [valV_any, (r.val k).isSome_eq, Option.isSome_map]
  unfold putK storedH
  rw [e]
  by_cases q : (atKey xs k).isSome = true
  · rw [if_pos q, if_pos q]; exact r.repl k ry
  · rw [if_neg q, if_neg q]; exact Paired.snoc r ⟨rfl, hb, ry⟩
theorem KT.keeps {H H' : Hp} {kvs : List (List Key × V)} {xs : List (List Key × Addr × Value)} (r : KT H kvs xs) (ht : ∀ b ys, H b = some (.tup ys) → H' b = some (.tup ys)) : KT H' kvs xs :=
  Paired.mapP r fun _ _ z => ⟨z.1, ht _ _ z.2.1, z.2.2⟩

section
variable {P : Program} {w : World} {H : Hp} {h : Heap} {a : Addr}
theorem rd_of {u : HO} (ok : HOk P w H h) (e : Rd H a u) : ObjOk P w H h a u := e.ok ok
theorem dk_rd {kvs : List (Key × V)} (ok : HOk P w H h) (e : Rd H a (.dK kvs)) : kvs.length ≤ sizeLine ∧ (a == sysModules) = false ∧ ∃ vs, KV kvs vs ∧ h.DictOf (mixKind P w) a vs :=
  show ObjOk P w H h a (.dK kvs) from rd_of ok e
theorem dk_of {kvs : List (Key × V)} (ok : HOk P w H h) (e : H a = some (.dK kvs)) : kvs.length ≤ sizeLine ∧ (a == sysModules) = false ∧ ∃ vs, KV kvs vs ∧ h.DictOf (mixKind P w) a vs := dk_rd ok (.inl e)
/-- a tracked tuple of ints and texts is a key -/
theorem key_of {ks : List Key} (ok : HOk P w H h) (e : H a = some (.tup (ks.map kV))) : (tupleKind (mixKind P w)).is h ks a := by
  obtain ⟨_, its, r, o, h1, h2, n, h3⟩ := (show ObjOk P w H h a (.tup (ks.map kV)) from ok a _ e)
  exact ⟨o, its.toArray, n, h1, h2, h3, by simpa using items_are r⟩
theorem dt_rd {kvs : List (List Key × V)} (ok : HOk P w H h) (e : Rd H a (.dT kvs)) : kvs.length ≤ sizeLine ∧ (a == sysModules) = false ∧
    ∃ xs, KT H kvs xs ∧ h.DictOfH (tupleKind (mixKind P w)) a xs := by
  obtain ⟨z, y, xs, r, o, es, ep, h1, h2, h3, h4, h5⟩ := (show ObjOk P w H h a (.dT kvs) from rd_of ok e)
  refine ⟨z, y, xs, r, o, es, ep, h1, h2, h3, h4, fun x hx => ?_, h5⟩
  have all : ∀ {l : List (List Key × V)} {m : List (List Key × Addr × Value)}, KT H l m → ∀ x ∈ m, (tupleKind (mixKind P w)).is h x.1 x.2.1 := by
    intro l m q
    induction q with
    | nil => intro x hx; exact nomatch hx
    | @cons p q ps qs hq t ih =>
      intro x hx
      rcases List.mem_cons.mp hx with e | hx
      · subst e
        exact key_of ok (by rw [← hq.1]; exact hq.2.1)
      · exact ih x hx
  exact all r x hx
theorem dt_of {kvs : List (List Key × V)} (ok : HOk P w H h) (e : H a = some (.dT kvs)) : kvs.length ≤ sizeLine ∧ (a == sysModules) = false ∧
    ∃ xs, KT H kvs xs ∧ h.DictOfH (tupleKind (mixKind P w)) a xs := dt_rd ok (.inl e)
end

/-- what the dict at a holds at the key y -/
def DGet (H : Hp) (a : Addr) (y : V) (r : Option V) : Prop :=
  (∃ kvs k, Rd H a (.dK kvs) ∧ y = kV k ∧ r = valV kvs k) ∨ ∃ kvs k b, Rd H a (.dT kvs) ∧ y = .ref b ∧ H b = some (.tup (k.map kV)) ∧ r = valV kvs k
/-- the heap behind a[y] = v -/
def DPut (H : Hp) (a : Addr) (y v : V) (H' : Hp) : Prop :=
  (∃ kvs k, H a = some (.dK kvs) ∧ y = kV k ∧ kvs.length < sizeLine ∧ H' = upd H a (.dK (putK kvs k v))) ∨
  ∃ kvs k b, H a = some (.dT kvs) ∧ y = .ref b ∧ H b = some (.tup (k.map kV)) ∧ kvs.length < sizeLine ∧ H' = upd H a (.dT (putK kvs k v))
theorem DGet.k {H : Hp} {a : Addr} {kvs : List (Key × V)} {k : Key} (e : H a = some (.dK kvs)) : DGet H a (kV k) (valV kvs k) := .inl ⟨kvs, k, .inl e, rfl, rfl⟩
theorem DPut.k {H : Hp} {a : Addr} {kvs : List (Key × V)} {k : Key} {v : V} (e : H a = some (.dK kvs)) (hl : kvs.length < sizeLine) : DPut H a (kV k) v (upd H a (.dK (putK kvs k v))) := .inl ⟨kvs, k, e, rfl, hl, rfl⟩
section
variable {X : Cx} {pins : List (Addr × Obj)} {σ : St} {H : Hp} {s : Shared} {a : Addr} {y v : V} {u r : Value} {o : Option V} {A : Around} {E : Value → Shared → Prop}

theorem Inv.big (I : Inv X pins σ H s) : sysModules < s.heap.objs.size := by
  have h : mainGlobals < s.heap.objs.size := (I.mod.glob.keeps I.bk).lt
  exact Nat.lt_trans (by decide) h

/-- d[y], there -/
theorem d_getItem {Q : Value → Shared → Prop} (hu : A.units + 1 < cLine) (I : Inv X pins σ H s) (g : DGet H a y (some v)) (ry : RelV y u) (h : ∀ w' s', Inv X pins σ H s' → RelV v w' → Q w' s') :
    wpAny (model X.prog X.w) A (getItem (.ref a) u) Q E s := by
  rcases g with ⟨kvs, k, e, ey, l⟩ | ⟨kvs, k, b, e, ey, eb, l⟩
  · subst ey
    obtain ⟨z, hd, vs, rel, dd⟩ := dk_rd I.hok e
    obtain ⟨w', hw, rw'⟩ := RelO.some_of (v := v) (o := valueAt vs k) (by rw [l]; exact rel.val k)
    exact wpAny_getItem_of (kV_is ry) dd.mapOf hw (h w' _ (I.tok _) rw')
  · subst ey
    cases (show u = Value.ref b from ry)
    obtain ⟨z, hd, xs, rel, dd⟩ := dt_rd I.hok e
    obtain ⟨w', hw, rw'⟩ := RelO.some_of (v := v) (o := (atKey xs k).map (·.2)) (by rw [l]; exact rel.val k)
    obtain ⟨p, hp, hp2⟩ := Option.map_eq_some_iff.mp hw
    refine wpAny_getItem_heap (tupleKind_room_in1 hu) (key_of I.hok eb) dd hp ?_
    rw [hp2]
    exact h w' _ (I.tok _) rw'
/-- a dict's object is replaced -/
theorem d_write {h' : Heap} {t' : Nat} {ob : HO} (I : Inv X pins σ H s) (mu : Mut (H a)) (hs : Heap.SameBut a s.heap h') (he : ∃ q, h'.get? a = some q) (new : ObjOk X.prog X.w (upd H a ob) h' a ob) :
    Inv X pins σ (upd H a ob) { s with heap := h', toks := t' } :=
  I.write (x := a) (e := a) mu (.inl rfl) (fun b q hb z => (hs.2 b hb).trans z) he new
theorem dk_new {P : Program} {w : World} {H' : Hp} {h' : Heap} {kvs : List (Key × V)} {vs : List (Key × Value)} (z : kvs.length ≤ sizeLine) (hd : (a == sysModules) = false) (rel : KV kvs vs) (dd : h'.DictOf (mixKind P w) a vs) :
    ObjOk P w H' h' a (.dK kvs) := ⟨z, hd, vs, rel, dd⟩
/-- d[y] = v -/
theorem d_setItem {H' : Hp} {Q : Unit → Shared → Prop} (hu : A.units + 1 < cLine) (I : Inv X pins σ H s) (g : DPut H a y v H') (ry : RelV y u) (rv : RelV v r) (h : ∀ s', Inv X pins σ H' s' → Q () s') :
    wpAny (model X.prog X.w) A (setItem (.ref a) u r) Q E s := by
  rcases g with ⟨kvs, k, e, ey, l, eH⟩ | ⟨kvs, k, b, e, ey, eb, l, eH⟩
  · subst ey eH
    obtain ⟨z, hd, vs, rel, dd⟩ := dk_of I.hok e
    have hz : vs.length ≤ sizeLine := by rw [← rel.length]; exact z
    have hl : (putK kvs k v).length ≤ sizeLine := by have := length_putK kvs k v; omega
    refine wpAny_setItem_pairs (hsz := hz) (kV_is ry) dd fun h' dd' hs => h _ ?_
    have he : ∃ q, h'.get? a = some q := let ⟨q, _, _, hq, _⟩ := dd'; ⟨q, hq⟩
    exact d_write I (by rw [e]; exact True.intro) hs he (dk_new hl hd (rel.put k rv) dd')
  · subst ey eH
    cases (show u = Value.ref b from ry)
    obtain ⟨z, hd, xs, rel, dd⟩ := dt_of I.hok e
    have hz : xs.length ≤ sizeLine := by rw [← Paired.length rel]; exact z
    have hl : (putK kvs k v).length ≤ sizeLine := by have := length_putK kvs k v; omega
    refine wpAny_setItem_heap (hsz := hz) (tupleKind_room_in1 hu) (key_of I.hok eb) dd fun h' dd' hs => h _ ?_
    obtain ⟨q, es, ep, hq, h2, h3, h4, _, h5⟩ := dd'
    refine d_write I (by rw [e]; exact True.intro) hs ⟨q, hq⟩ ⟨hl, hd, _, (rel.put k eb rv).keeps fun c ys ec => ?_, q, es, ep, hq, h2, h3, h4, h5⟩
    rw [upd_ne (ne_of ec e (fun z => nomatch z))]
    exact ec
end

section
variable {X : Cx} {pins : List (Addr × Obj)} {σ : St} {H : Hp} {s : Shared} {a : Addr} {kvs : List (Key × V)} {k : Key} {u : Value} {A : Around} {E : Value → Shared → Prop}
/-- d.clear() -/
theorem d_clear {Q : Value → Shared → Prop} (I : Inv X pins σ H s) (e : H a = some (.dK kvs)) (h : ∀ s', Inv X pins σ (upd H a (.dK [])) s' → Q .none s') : wpAny (model X.prog X.w) A (call (.builtin "dict.clear") [.ref a]) Q E s := by
  obtain ⟨z, hd, vs, rel, dd⟩ := dk_of I.hok e
  refine call_meetsIn PySem.F.slot_dict_clear dd.typeIs PySem.F.entry_dict_clear (PySem.F.args_dict_clear_1 _) (meets_dict_clear (mixKind X.prog X.w) a) ⟨vs, dd, by rw [← rel.length]; exact z, fun h' dd' hs => h _ ?_⟩
  have he : ∃ q, h'.get? a = some q := let ⟨q, _, _, hq, _⟩ := dd'; ⟨q, hq⟩
  exact d_write (t' := s.toks) I (by rw [e]; exact True.intro) hs he (dk_new (Nat.zero_le _) hd .nil dd')
end


/-! ### readings and rules -/
/-- the element of a subscription, not a slice -/
def NoSl (i : Expr) : Prop := ∀ ov iv, subscripted i false ov iv = operate [ov, iv] (getItem ov iv)
theorem subD_of {prog : Program} {w : World} {A : Around} {E : Value → Shared → Prop} {s : Shared} {env : Env} {value slice : Expr} {pos : Pos} {T id : String} {Q : Value → Shared → Prop}
    (hl : typeLookup (.type T) "__getitem__" = pure (some (.builtin id))) (hs : NoSl slice)
    (h : wpAny (model prog w) A (eval value env) (fun o s₁ => wpAny (model prog w) A (eval slice env) (fun i s₂ => s₂.TypeIs o T ∧ wpAny (model prog w) A (getItem o i) Q E s₂) E s₁) E s) :
    wpAny (model prog w) A (eval (.Subscript value slice pos) env) Q E s := by
  refine Subscript_ (wpAny_mono h (fun o s₁ h₁ => wpAny_mono h₁ (fun i s₂ h₂ => ?_) fun _ _ x => x) fun _ _ x => x)
  obtain ⟨hT, h₂⟩ := h₂
  unfold subscriptTail
  refine wpAny_bind ?_
  rw [getitemInPython_of_ne hT.not_modules]
  refine wpAny_bind (wpAny_specialOf hT hl ?_)
  have fin : wpAny (model prog w) A (subscripted slice false o i) (fun r s₃ => wpAny (model prog w) A (letTemporaryGo value o r >>= fun _ => pure r) Q E s₃) E s₂ := by
    rw [hs o i]
    exact wpAny_operating (wpAny_mono h₂ (fun r s₃ h₃ => wpAny_bind (wpAny_letTemporaryGo (wpAny_pure h₃))) fun _ _ x => x)
  first
    | exact wpAny_pure (wpAny_bind fin)
    | exact wpAny_bind (wpAny_pure (wpAny_bind fin))
    | exact wpAny_bind fin

theorem dict_typeIs {X : Cx} {pins : List (Addr × Obj)} {σ : St} {H : Hp} {s : Shared} {a : Addr} {y : V} {o : Option V} (I : Inv X pins σ H s) (g : DGet H a y o) : s.TypeIs (.ref a) "dict" := by
  rcases g with ⟨kvs, k, e, _, _⟩ | ⟨kvs, k, b, e, _, _, _⟩
  · obtain ⟨_, _, vs, _, dd⟩ := dk_rd I.hok e
    exact dd.typeIs
  · obtain ⟨_, _, xs, _, dd⟩ := dt_rd I.hok e
    exact dd.typeIs
/-- d[y] -/
def tDGet (td ty : TE) : TE := fun σ H Q => td σ H fun x H1 => ty σ H1 fun y H2 => ∃ a v, x = .ref a ∧ DGet H2 a y (some v) ∧ Q v H2
/-- y in d, y not in d -/
def tDIn (ty td : TE) : TE := fun σ H Q => ty σ H fun y H1 => td σ H1 fun x H2 => ∃ a o, x = .ref a ∧ DGet H2 a y o ∧ Q (.bl o.isSome) H2
def tDNotIn (ty td : TE) : TE := fun σ H Q => ty σ H fun y H1 => td σ H1 fun x H2 => ∃ a o, x = .ref a ∧ DGet H2 a y o ∧ Q (.bl (!o.isSome)) H2
/-- d[y] = v -/
def sDPut (td ty tv : TE) : TS := fun D σ H => tv σ H fun v H1 => td σ H1 fun x H2 => ty σ H2 fun y H3 => ∃ a H4, x = .ref a ∧ DPut H3 a y v H4 ∧ D.nx σ H4
/-- d[y] op= v -/
def sDAug (td ty tv : TE) (rd : V → V → Hp → VK → Prop) : TS := fun D σ H => td σ H fun x H1 => ty σ H1 fun y H2 => ∃ a v, x = .ref a ∧ DGet H2 a y (some v) ∧
  tv σ H2 fun y2 H3 => rd v y2 H3 fun z H4 => ∃ H5, DPut H4 a y z H5 ∧ D.nx σ H5
/-- del d[y] -/
def sDDel (td ty : TE) : TS := fun D σ H => td σ H fun x H1 => ty σ H1 fun y H2 => ∃ a kvs k, x = .ref a ∧ H2 a = some (.dK kvs) ∧ y = kV k ∧ (valV kvs k).isSome = true ∧ D.nx σ (upd H2 a (.dK (dropK kvs k)))

section
variable {X : Cx} {o i e value : Expr} {pos pos' tpos : Pos} {td ty tv : TE}
theorem pe_dget (hu : X.A.units + 1 < cLine) (ho : PE X o td) (hi : PE X i ty) (hs : NoSl i) : PE X (.Subscript o i pos) (tDGet td ty) := by
  intro pins s σ H Q I h
  refine subD_of PySem.F.slot_dict_getitem.lookup hs (thn (ho pins s σ H _ I h) fun u s1 ⟨x, H1, I1, rx, q1⟩ => thn (hi pins s1 σ H1 _ I1 q1) fun iv s2 ⟨y, H2, I2, ry, a, v, ex, g, q2⟩ => ?_)
  subst ex
  obtain rfl : u = Value.ref a := rx
  exact ⟨dict_typeIs I2 g, d_getItem hu I2 g ry fun w' s3 I3 rw' => ⟨v, H2, I3, rw', q2⟩⟩
theorem ps_dput (hu : X.A.units + 1 < cLine) (ho : PE X o td) (hi : PE X i ty) (hv : PE X value tv) (hs : swapsWith value (some (.Subscript o i pos')) pos.line X.env = pure false) :
    PS X (.Assign [.Subscript o i pos'] value pos) (sDPut td ty tv) := by
  intro pins s σ H D I h
  refine wpAny_Assign_Subscript (thn (hv pins s σ H _ I h) fun r s1 ⟨v, H1, I1, rv, q1⟩ => thn (ho pins s1 σ H1 _ I1 q1) fun u s2 ⟨x, H2, I2, rx, q2⟩ => thn (hi pins s2 σ H2 _ I2 q2) fun iv s3 ⟨y, H3, I3, ry, a, H4, ex, g, q3⟩ => ?_) hs
  subst ex
  obtain rfl : u = Value.ref a := rx
  exact d_setItem hu I3 g ry rv fun s4 I4 => ⟨σ, H4, I4, q3⟩
end


/-! ### displays -/
theorem dk_empty {P : Program} {w : World} {H : Hp} (h : Heap) (hb : sysModules < h.objs.size) : ObjOk P w H (h.push { cls := .type "dict", data := .dict #[] }) h.objs.size (.dK []) :=
  ⟨Nat.zero_le _, beq_eq_false_iff_ne.mpr (Ne.symm (Nat.ne_of_lt hb)), [], .nil, Heap.DictOf.new h⟩
/-- {}, to be a dict of the kind that is wanted -/
def tDNewK : TE := fun _ H Q => ∀ p, H p = none → Q (.ref p) (upd H p (.dK []))
def tDNewT : TE := fun _ H Q => ∀ p, H p = none → Q (.ref p) (upd H p (.dT []))
section
variable {X : Cx} {pos : Pos}
end

/-- the pairs of a display, from the left -/
def tPairs : List (TE × TE) → St → Hp → (List (V × V) → Hp → Prop) → Prop
  | [], _, H, Q => Q [] H
  | (tk, tv) :: r, σ, H, Q => tk σ H fun x H1 => tv σ H1 fun y H2 => tPairs r σ H2 fun ps H3 => Q ((x, y) :: ps) H3
abbrev VV : List (V × V) → List (Value × Value) → Prop := Paired fun p q => RelV p.1 q.1 ∧ RelV p.2 q.2
def PPs (X : Cx) (pos : Pos) (keys : List (Option Expr)) (values : List Expr) (trs : List (TE × TE)) : Prop :=
  ∀ (pins : List (Addr × Obj)) (s : Shared) (σ : St) (H : Hp) (Q : List (V × V) → Hp → Prop), Inv X pins σ H s → tPairs trs σ H Q →
    wpAny (model X.prog X.w) X.A (evalPairs (pairTrees keys values X.env pos)) (fun vs s' => ∃ ps H', Inv X pins σ H' s' ∧ VV ps vs ∧ Q ps H') X.xe s
theorem pps_nil {X : Cx} {pos : Pos} : PPs X pos [] [] [] := fun pins s σ H Q I h => pairTrees_nil_walk ⟨[], H, I, .nil, h⟩
theorem pps_cons {X : Cx} {pos : Pos} {k v : Expr} {ks : List (Option Expr)} {vs : List Expr} {tk tv : TE} {trs : List (TE × TE)} (hk : PE X k tk) (hv : PE X v tv) (hr : PPs X pos ks vs trs) :
    PPs X pos (some k :: ks) (v :: vs) ((tk, tv) :: trs) := fun pins s σ H Q I h =>
  pairTrees_cons_walk (thn (hk pins s σ H _ I h) fun u s1 ⟨x, H1, I1, rx, q1⟩ => thn (hv pins s1 σ H1 _ I1 q1) fun w2 s2 ⟨y, H2, I2, ry, q2⟩ =>
    thn (hr pins s2 σ H2 _ I2 q2) fun ws s3 ⟨ps, H3, I3, rel, q3⟩ => ⟨(x, y) :: ps, H3, I3, .cons ⟨rx, ry⟩ rel, q3⟩)

def mergeK (kvs more : List (Key × V)) : List (Key × V) := more.foldl (fun acc kv => putK acc kv.1 kv.2) kvs
theorem KV.merge : ∀ {more : List (Key × V)} {rs : List (Key × Value)} {kvs : List (Key × V)} {vs : List (Key × Value)}, KV more rs → KV kvs vs → KV (mergeK kvs more) (merged vs rs) := by
  intro more rs kvs vs r
  unfold KV at r
  induction r generalizing kvs vs with
  | nil => intro q; exact q
  | @cons p q ps qs h t ih =>
    intro r0
    have e : KV (putK kvs p.1 p.2) (stored vs q.1 q.2) := by
      have := r0.put p.1 h.2
      rw [← h.1]; exact this
    exact ih e
theorem length_mergeK : ∀ (more kvs : List (Key × V)), (mergeK kvs more).length ≤ kvs.length + more.length
  | [], kvs => by show kvs.length ≤ kvs.length + 0; omega
  | p :: r, kvs => by
    have h1 := length_mergeK r (putK kvs p.1 p.2)
    have h2 := length_putK kvs p.1 p.2
    show (mergeK (putK kvs p.1 p.2) r).length ≤ _
    rw [List.length_cons]; omega
theorem carries_of {P : Program} {w : World} : ∀ {kvs : List (Key × V)} {ws : List (Value × Value)}, VV (kvs.map fun kv => (kV kv.1, kv.2)) ws → ∃ rs, Carries (mixKind P w) ws rs ∧ KV kvs rs
  | [], _, r => by rw [List.map_nil] at r; cases r; exact ⟨[], True.intro, .nil⟩
  | p :: kvs, _, r => by
    rw [List.map_cons] at r
    cases r with
    | @cons a b as bs h t =>
      obtain ⟨rs, c, q⟩ := carries_of (P := P) (w := w) t
      obtain ⟨b1, b2⟩ := b
      exact ⟨(p.1, b2) :: rs, ⟨kV_is h.1, rfl, c⟩, .cons ⟨rfl, h.2⟩ q⟩
/-- {k: v, ..} with keys ints and texts; the new dict stands empty while the pairs are made -/
def tDisp (trs : List (TE × TE)) : TE := fun σ H Q => ∀ p, H p = none → tPairs trs σ (upd H p (.dK [])) fun ps H2 => H2 p = some (.dK []) ∧ ∃ kvs : List (Key × V), ps = kvs.map (fun kv => (kV kv.1, kv.2)) ∧ kvs.length ≤ 15 ∧ Q (.ref p) (upd H2 p (.dK (mergeK [] kvs)))
theorem pe_disp {X : Cx} {pos : Pos} {keys : List (Option Expr)} {values : List Expr} {trs : List (TE × TE)} (h : PPs X pos keys values trs) (hall : keys.all (·.isSome) = true) (hl : keys.length = values.length) (h0 : keys ≠ [])
    (h15 : keys.length ≤ 15) : PE X (.Dict keys values pos) (tDisp trs) := by
  intro pins s σ H Q I q
  have hn := I.hok.fresh (Nat.le_refl s.heap.objs.size)
  have I1 := I.laid (a := s.heap.objs.size) (o := .dK []) (h' := s.heap.push { cls := .type "dict", data := .dict #[] }) (t' := s.toks) (fun _ _ q => Heap.get?_push_of_some _ q) (Nat.le_refl _) (dk_empty s.heap I.big)
  refine wpAny_Dict_walk (knd := mixKind X.prog X.w) hall hl h0 h15 (thn (h pins _ σ _ _ I1 (q _ hn)) fun ws s2 ⟨ps, H2, I2, rel, e, kvs, ep, lk, q2⟩ => ?_)
  subst ep
  obtain ⟨rs, c, rk⟩ := carries_of (P := X.prog) (w := X.w) rel
  obtain ⟨z, hd, vs0, r0, dd⟩ := dk_of I2.hok e
  cases r0
  refine ⟨rs, c, dd, fun h' dd' hs => ⟨.ref s.heap.objs.size, _, ?_, rfl, q2⟩⟩
  have hz : (mergeK [] kvs).length ≤ sizeLine := by
    have h1 := length_mergeK kvs []
    rw [List.length_nil] at h1
    rw [sizeLine_eq]; omega
  have he : ∃ q, h'.get? s.heap.objs.size = some q := let ⟨q, _, _, hq, _⟩ := dd'; ⟨q, hq⟩
  exact d_write I2 (by rw [e]; exact True.intro) hs he (dk_new hz hd (rk.merge .nil) dd')


/-! ### methods -/
/-- a method call o.m(e) of a built-in, with one argument: what must be seen of the text -/
structure M1 (X : Cx) (o : Expr) (m : Str) (apos : Pos) (e : Expr) (cpos : Pos) : Prop where
  base : attributeBase o m X.env (eval o X.env) = eval o X.env
  few : ((backTo cpos (starEach [e] X.env)).all (fun x => !x.1) && (backToKw cpos (keywordEach [] X.env)).all (fun x => x.1.isSome)
    && decide (([e] : List Expr).length + ([] : List Keyword).length + (if ([] : List Keyword).isEmpty then 0 else 1) < 30)) = true
  line : (apos.endLine == cpos.line) = true
  trees : backTo cpos (starEach [e] X.env) = [(false, eval e X.env)]
structure M2 (X : Cx) (o : Expr) (m : Str) (apos : Pos) (e f : Expr) (cpos : Pos) : Prop where
  base : attributeBase o m X.env (eval o X.env) = eval o X.env
  few : ((backTo cpos (starEach [e, f] X.env)).all (fun x => !x.1) && (backToKw cpos (keywordEach [] X.env)).all (fun x => x.1.isSome)
    && decide (([e, f] : List Expr).length + ([] : List Keyword).length + (if ([] : List Keyword).isEmpty then 0 else 1) < 30)) = true
  line : (apos.endLine == cpos.line) = true
  trees : backTo cpos (starEach [e, f] X.env) = [(false, eval e X.env), (false, eval f X.env)]

/-- a is a dict, whatever its keys -/
def IsD (H : Hp) (a : Addr) : Prop := (∃ kvs, Rd H a (.dK kvs)) ∨ ∃ kvs, Rd H a (.dT kvs)
section
variable {X : Cx} {pins : List (Addr × Obj)} {σ : St} {H : Hp} {s : Shared} {a : Addr} {y d : V} {u r : Value} {o : Option V} {A : Around} {E : Value → Shared → Prop}
end

def tDGet1 (td ty : TE) : TE := fun σ H Q => td σ H fun x H1 => ∃ a, x = .ref a ∧ IsD H1 a ∧ ty σ H1 fun y H2 => ∃ o, DGet H2 a y o ∧ Q (o.getD .non) H2
def tDGet2 (td ty tx : TE) : TE := fun σ H Q => td σ H fun x H1 => ∃ a, x = .ref a ∧ IsD H1 a ∧ ty σ H1 fun y H2 => tx σ H2 fun z H3 => ∃ o, DGet H3 a y o ∧ Q (o.getD z) H3
/-- d.pop(k): there; d.pop(k, x): there or not -/
def tDPop1 (td ty : TE) : TE := fun σ H Q => td σ H fun x H1 => ∃ a, x = .ref a ∧ IsD H1 a ∧ ty σ H1 fun y H2 => ∃ kvs k v, H2 a = some (.dK kvs) ∧ y = kV k ∧ valV kvs k = some v ∧ Q v (upd H2 a (.dK (dropK kvs k)))
def tDPop2 (td ty tx : TE) : TE := fun σ H Q => td σ H fun x H1 => ∃ a, x = .ref a ∧ IsD H1 a ∧ ty σ H1 fun y H2 => tx σ H2 fun z H3 => ∃ kvs k, H3 a = some (.dK kvs) ∧ y = kV k ∧
  (∀ v, valV kvs k = some v → Q v (upd H3 a (.dK (dropK kvs k)))) ∧ (valV kvs k = none → Q z H3)
section
variable {X : Cx} {o e f : Expr} {apos cpos : Pos} {td ty tx : TE}
end

/-! ### dict(d): a copy -/
section
variable {X : Cx} {pins : List (Addr × Obj)} {σ : St} {H : Hp} {s : Shared} {a : Addr} {kvs : List (Key × V)} {A : Around} {E : Value → Shared → Prop}
theorem d_copyOf {Q : Value → Shared → Prop} (I : Inv X pins σ H s) (e : Rd H a (.dK kvs)) (h : ∀ p s', H p = none → Inv X pins σ (upd H p (.dK kvs)) s' → Q (.ref p) s') : wpAny (model X.prog X.w) A (call (.type "dict") [.ref a]) Q E s := by
  obtain ⟨z, hd, vs, rel, dd⟩ := dk_rd I.hok e
  refine kt_call_dict hd dd (by rw [← rel.length]; exact z) fun h' dd' hs => ?_
  refine h _ _ (I.hok.fresh (Nat.le_refl _)) (I.laid (a := s.heap.objs.size) (o := .dK kvs) (t' := s.toks) (fun b q hq => ?_) (Nat.le_refl _) (dk_new z (beq_eq_false_iff_ne.mpr (Ne.symm (Nat.ne_of_lt I.big))) rel dd'))
  exact (hs.2 b (Nat.ne_of_lt (Heap.lt_size hq))).trans (Heap.get?_push_of_some _ hq)
end


section
variable {X : Cx} {pins : List (Addr × Obj)} {σ : St} {H : Hp} {s : Shared} {a : Addr} {y : V} {u : Value} {A : Around} {E : Value → Shared → Prop}
end
end L2

namespace Att
open PySem PySem.W PySem.Calls PyProof.Rows

/-! ### rules over ANY heap (no ledger) from facts about the written part K: the library's own take a ledger (News) for what they write -/
section
variable {prog : Program} {w : World} {A : Around} {E : Value → Shared → Prop} {s : Shared} {K : Frag}

end
end Att

namespace L2
open PySem PySem.Spec PyProof.Rows

end L2

namespace L2
open PySem PySem.Spec PyProof.Rows

end L2

/-! SHORT WORDS over the layer: a def of the text, its body, what a loop and a test want. -/
namespace L2
open PySem PySem.Spec PyProof.Rows

section
variable {P : Program} {w : World} {K : PySem.W.Frag} {mg : Str → Option Value} {base : Heap}
end
/-! ### expressions in short: the name that stands in the i-th slot -/
section
variable {X : Cx}
end

/-! ### a dict's pairs: keys that differ -/
section
variable {κ : Type} [DecidableEq κ]
theorem valV_not {kvs : List (κ × V)} {k : κ} (h : valV kvs k = none) : ¬ k ∈ kvs.map (·.1) := by
  intro m
  obtain ⟨p, hp, e⟩ := List.mem_map.mp m
  have q : (kvs.any fun kv => decide (kv.1 = k)) = true := List.any_eq_true.mpr ⟨p, hp, decide_eq_true e⟩
  rw [valV_any, h] at q
  exact absurd q (by simp)
theorem valV_in {kvs : List (κ × V)} {k : κ} {v : V} (h : valV kvs k = some v) : k ∈ kvs.map (·.1) := by
  have q : (kvs.any fun kv => decide (kv.1 = k)) = true := by
    rw [valV_any, h]
    all_goals rfl
  obtain ⟨p, hp, e⟩ := List.any_eq_true.mp q
  exact List.mem_map.mpr ⟨p, hp, of_decide_eq_true e⟩
theorem nd_snoc : ∀ {l : List κ} {k : κ}, l.Nodup → ¬ k ∈ l → (l ++ [k]).Nodup
  | [], k, _, _ => by simp
  | a :: r, k, h, hk => by
    obtain ⟨h1, h2⟩ := List.nodup_cons.mp h
    show (a :: (r ++ [k])).Nodup
    refine List.nodup_cons.mpr ⟨fun m => ?_, nd_snoc h2 fun m => hk (List.mem_cons.mpr (Or.inr m))⟩
    rcases List.mem_append.mp m with q | q
    · exact h1 q
    · exact hk (List.mem_cons.mpr (Or.inl (List.mem_singleton.mp q).symm))
theorem nd_putK {kvs : List (κ × V)} {k : κ} (v : V) (hn : (kvs.map (·.1)).Nodup) (h : valV kvs k = none) : ((putK kvs k v).map (·.1)).Nodup := by
  rw [putK_new v h, List.map_append]
  exact nd_snoc hn (valV_not h)
end
end L2


set_option linter.all false
set_option maxHeartbeats 4000000
set_option maxRecDepth 100000
namespace L2
open PySem PySem.W PySem.Spec PySem.Calls PyProof.Rows
/-- a value that is alike to itself, wherever it lies -/
def plainV : V → Bool
  | .byt _ => false
  | .flt _ => false
  | _ => true
theorem eqAt_self {A : Around} {s : Shared} {x : V} {u v : Value} (h : plainV x = true) (ru : RelV x u) (rv : RelV x v) : SeqAt.EqAt A s u v true := by
  cases x with
  | non => cases ru; cases rv; exact SeqAt.EqAt.same _
  | bl b => cases ru; cases rv; exact SeqAt.EqAt.same _
  | int i =>
    obtain ⟨t, rfl⟩ := ru; obtain ⟨t', rfl⟩ := rv
    have := SeqAt.EqAt.int_int (A := A) (s := s) i t i t'
    rwa [beq_self_eq_true] at this
  | str x =>
    obtain ⟨t, rfl⟩ := ru; obtain ⟨t', rfl⟩ := rv
    have := SeqAt.EqAt.str_str (A := A) (s := s) x t x t'
    rwa [beq_self_eq_true] at this
  | ref a => cases ru; cases rv; exact SeqAt.EqAt.same _
  | ty n => cases ru; cases rv; exact SeqAt.EqAt.same _
  | byt b => cases h
  | flt b => cases h
section
variable {X : Cx}
/-- two dicts of the same pairs -/
def rSame (neg : Bool) : R2 := fun x y H Q => ∃ (p b : Addr) (kvs : List (Key × V)), x = .ref p ∧ y = .ref b ∧ H p = some (.dK kvs) ∧ H b = some (.dK kvs) ∧ (kvs.map (·.1)).Nodup ∧
  (∀ kv ∈ kvs, plainV kv.2 = true) ∧ Q (.bl (!neg)) H
/-- dict(d): a copy -/
theorem call_dict : CallR X (.type "dict") (fun xs H Q => ∃ a kvs, xs = [V.ref a] ∧ H a = some (.dK kvs) ∧ ∀ p, H p = none → Q (.ref p) (upd H p (.dK kvs))) := by
  intro pins s σ H xs us Q I r h
  obtain ⟨a, kvs, rfl, ha, q⟩ := h
  obtain ⟨u, rfl, ru⟩ := vals1 r
  cases ru
  exact d_copyOf I (.inl ha) fun p s' hp I' => ⟨.ref p, _, I', rfl, q p hp⟩
end
end L2

set_option linter.all false
set_option maxHeartbeats 4000000
set_option maxRecDepth 100000
namespace L2
open PySem PySem.Spec PyProof.Rows
/-- the signs of a text, each a text -/
def signs (z : Str) : List V := z.cps.toList.map fun c => V.str ⟨#[c]⟩
/-- a text walked, with its places -/
def Its (z : Str) : It :=
  ⟨fun i _ => i < z.cps.size,
   fun i H v H' => ∃ T c, v = .ref T ∧ H T = none ∧ H' = upd H T (.tup [.int i, .str ⟨#[c]⟩]) ∧ z.cps[i]? = some c,
   fun i _ => z.cps.size ≤ i⟩
theorem vals_get : ∀ {xs : List V} {its : List Value}, xs.length = its.length → (∀ (j : Nat) x v, xs[j]? = some x → its[j]? = some v → RelV x v) → Vals xs its
  | [], [], _, _ => .nil
  | x :: xs, v :: its, hl, h => .cons (h 0 x v rfl rfl) (vals_get (by simpa using hl) fun j x v a b => h (j + 1) x v (by simpa using a) (by simpa using b))
section
variable {X : Cx}
def iEnumS (ta : TA) : TI := fun σ H R => ta σ H fun vs H1 => ∃ z : Str, vs = [.str z] ∧ R (Its z) H1
/-- sep.join(texts) -/
def rJoin (K : PySem.W.Frag) : V → List V → Hp → VK → Prop := fun x vs H Q => ∃ (sep : Str) (p : Addr) (ts : List Str), x = .str sep ∧ vs = [.ref p] ∧ SqL K H p (ts.map V.str) ∧ (ts.map (·.length)).sum + ts.length * sep.length ≤ 1000 ∧ Q (.str (Str.join sep ts)) H
/-- a piece of a text -/
def rSlS : V → Option Int → Option Int → Hp → VK → Prop := fun x lo hi H Q => ∃ (z : Str) (a b : Nat), x = .str z ∧ ((lo = none ∧ a = 0) ∨ lo = some (a : Int)) ∧ ((hi = none ∧ b = z.length) ∨ hi = some (b : Int)) ∧ a ≤ b ∧ b ≤ z.length ∧ z.length ≤ 1000 ∧
  Q (.str ⟨((z.cps.toList.drop a).take (b - a)).toArray⟩) H
theorem slice_plain {z : Str} {lo hi : Option Int} {a b : Nat} (hlo : (lo = none ∧ a = 0) ∨ lo = some (a : Int)) (hhi : (hi = none ∧ b = z.length) ∨ hi = some (b : Int)) (hab : a ≤ b) (hb : b ≤ z.length) :
    Txt.slice z lo hi = ⟨((z.cps.toList.drop a).take (b - a)).toArray⟩ := by
  have e : Builtin.Str.strSliceIndices lo hi 1 z.length = Builtin.Str.strSliceIndices (some (a : Int)) (some (b : Int)) 1 z.length := by
    have e2 : Builtin.Str.strSliceIndices lo hi 1 z.length = Builtin.Str.strSliceIndices (some (a : Int)) hi 1 z.length := by
      rcases hlo with ⟨rfl, rfl⟩ | rfl
      · rw [StrLaws.sliceIdx_none_lo]; rfl
      · rfl
    rw [e2]
    rcases hhi with ⟨rfl, rfl⟩ | rfl
    · rw [StrLaws.sliceIdx_none_hi]
    · rfl
  unfold Txt.slice
  rw [e]
  split
  · rename_i h
    rw [StrLaws.strSliceIndices_plain hab hb] at h
    have hl : b - a = z.length := by simpa using h
    have ea : a = 0 := by omega
    have eb : b = z.cps.toList.length := by rw [Array.length_toList]; show b = z.length; omega
    subst ea
    rw [eb, List.drop_zero, Nat.sub_zero, List.take_length]
  · rw [StrLaws.sliced_plain z hab hb]
theorem sl_str : SlR X rSlS := by
  intro pins s σ H x v vl vu lo hi sl Q I rx hs pl pu h
  obtain ⟨z, a, b, rfl, hlo, hhi, hab, hb, hz, q⟩ := h
  obtain ⟨t, rfl⟩ := rx
  obtain ⟨l, rfl, el⟩ : ∃ l : Option (Int × Tok), vl = partValue l ∧ l.map (·.1) = lo := by
    cases pl with
    | none => exact ⟨none, rfl, rfl⟩
    | int i t => exact ⟨some (i, t), rfl, rfl⟩
  obtain ⟨u, rfl, eu⟩ : ∃ l : Option (Int × Tok), vu = partValue l ∧ l.map (·.1) = hi := by
    cases pu with
    | none => exact ⟨none, rfl, rfl⟩
    | int i t => exact ⟨some (i, t), rfl, rfl⟩
  refine ⟨"str", _, F.slot_str_getitem.lookup, typeIs_str _ _ _, wpAny_getItem_str_slice (l := l) (u := u) (st := none) hs rfl ?_⟩
  unfold sliceMade slicePicked
  rw [el, eu]
  have hS : ∀ y : Str, y = Txt.slice z lo hi → y.length ≤ sizeLine ∧ ∀ t' k, EP X pins σ Q (.str y t') { s with toks := k } := fun y ey => by
    refine ⟨by rw [ey]; exact Nat.le_trans (Txt.slice_le z lo hi) (Nat.le_of_lt (small1000 hz)), fun t' k => ?_⟩
    rw [ey, slice_plain hlo hhi hab hb]
    exact ⟨.str ⟨((z.cps.toList.drop a).take (b - a)).toArray⟩, H, I.tok _, ⟨_, rfl⟩, q⟩
  exact post_val_or_str (hS _ rfl)
/-- two lists of like tuples -/
def rNeTs (K : PySem.W.Frag) : R2 := fun x y H Q => ∃ (p b : Addr) (ts : List (Addr × Addr × List V)), x = .ref p ∧ y = .ref b ∧ SqL K H p (ts.map fun t => V.ref t.1) ∧ SqL K H b (ts.map fun t => V.ref t.2.1) ∧
  (∀ t ∈ ts, SqT K H t.1 t.2.2 ∧ SqT K H t.2.1 t.2.2 ∧ t.2.2.all plainV = true) ∧ Q (.bl false) H
end
end L2

set_option linter.all false
set_option maxHeartbeats 4000000
set_option maxRecDepth 100000
namespace L2
open PySem PySem.W PySem.Spec PySem.Calls PyProof.Rows
/-- alike, whatever lies where -/
inductive Alk (K : PySem.W.Frag) (H : Hp) : V → V → Prop
  | same {x : V} (h : plainV x = true) : Alk K H x x
  | tup {a b : Addr} {xs : List V} (ha : SqT K H a xs) (hb : SqT K H b xs) (h : xs.all plainV = true) : Alk K H (.ref a) (.ref b)
  | lst {a b : Addr} {xs : List V} (ha : SqL K H a xs) (hb : SqL K H b xs) (h : xs.all plainV = true) : Alk K H (.ref a) (.ref b)
section
variable {X : Cx} {pins : List (Addr × Obj)} {σ : St} {H : Hp} {s : Shared}
theorem plain_at {xs : List V} (h : xs.all plainV = true) {k : Nat} (hk : k < xs.length) : plainV (xs.getD k .non) = true := by
  rw [List.getD_eq_getElem?_getD, List.getElem?_eq_getElem hk]
  exact List.all_eq_true.mp h _ (List.getElem_mem hk)
theorem alk_at (I : Inv X pins σ H s) {x y : V} (d : Alk X.K H x y) {A : Around} {u v : Value} (rx : RelV x u) (ry : RelV y v) (hu : A.units + 2 < cLine) : SeqAt.EqAt A s u v true := by
  cases d with
  | same h => exact eqAt_self h rx ry
  | @tup a b xs ha hb h =>
    cases rx
    cases ry
    by_cases ne : a = b
    · rw [ne]; exact SeqAt.EqAt.same _
    obtain ⟨as, ra, pa, _⟩ := I.tuple ha
    obtain ⟨bs, rb, pb, _⟩ := I.tuple hb
    have la := ra.length
    have lb := rb.length
    have rc := SeqAt.RcAt.tuples (A := A) (e := fun _ => true) pa pb (by omega) (fun k g1 g2 => eqAt_self (x := xs.getD k .non) (plain_at h (by simp only [List.size_toArray] at g1; omega)) (rel_at ra g1) (rel_at rb g2))
    have ee : (List.all (List.range (min as.toArray.size bs.toArray.size)) (fun _ => true) && as.toArray.size == bs.toArray.size) = true := by
      simp only [List.size_toArray]
      rw [← la, ← lb]
      simp
    rw [ee] at rc
    exact SeqAt.EqAt.of_refs ne rc
  | @lst a b xs ha hb h =>
    cases rx
    cases ry
    by_cases ne : a = b
    · rw [ne]; exact SeqAt.EqAt.same _
    obtain ⟨as, ra, pa, _⟩ := I.list ha
    obtain ⟨bs, rb, pb, _⟩ := I.list hb
    have la := ra.length
    have lb := rb.length
    have rc := SeqAt.RcAt.lists (A := A) (e := fun _ => true) pa.isList pb.isList (by simp only [List.size_toArray]; omega) (by omega) (fun k g1 g2 => eqAt_self (x := xs.getD k .non) (plain_at h (by simp only [List.size_toArray] at g1; omega)) (rel_at ra g1) (rel_at rb g2))
    have ee : (List.all (List.range as.toArray.size) (fun _ => true)) = true := by simp
    rw [ee] at rc
    exact SeqAt.EqAt.of_refs ne rc
/-- two lists of like things -/
def rAlk (K : PySem.W.Frag) (neg : Bool) : R2 := fun x y H Q => ∃ (p b : Addr) (xs ys : List V), x = .ref p ∧ y = .ref b ∧ SqL K H p xs ∧ SqL K H b ys ∧ xs.length = ys.length ∧
  (∀ i, i < xs.length → Alk K H (xs.getD i .non) (ys.getD i .non)) ∧ Q (.bl (!neg)) H
end
end L2
namespace L2
open PySem PyProof.Rows
/-- the two ways of an if that both go on -/
theorem seq_joinI {t u : TS} {D : Ends} {σ : St} {H : Hp} (R : St → Hp → Prop) (h1 : ∀ N : St → Hp → Prop, (∀ σ' H', R σ' H' → N σ' H') → t { D with nx := N } σ H) (h2 : ∀ σ' H', R σ' H' → u D σ' H') : tSeq t u D σ H := h1 (u D) h2
end L2

/-! words, joined by one blank -/
set_option linter.all false
namespace WM
open PySem
def jn : List (List Nat) → List Nat
  | [] => []
  | [x] => x
  | x :: y :: r => x ++ 32 :: jn (y :: r)
abbrev bl : Str := Str.ofString " "
theorem bl_cps : bl = ⟨#[32]⟩ := by decide +kernel
abbrev J (ws : List Str) : Str := Str.join bl ws
def ls (z : Str) : List Nat := z.cps.toList
/-- a word -/
structure Wo (w : Str) : Prop where
  n0 : 1 ≤ w.length
  n1 : w.length ≤ 20
  nb : 32 ∉ ls w
/-- rows of words, as broken by a width -/
structure Brk (wide : Int) (gs : List (List Str)) : Prop where
  ne : ∀ g ∈ gs, g ≠ []
  fit : ∀ g ∈ gs, 2 ≤ g.length → ((J g).length : Int) ≤ wide
  full : ∀ (k : Nat) (g h : List Str) (w : Str), gs[k]? = some g → gs[k + 1]? = some h → h.head? = some w → wide < ((J g).length : Int) + 1 + (w.length : Int)
end WM

set_option linter.all false
set_option maxHeartbeats 4000000
set_option maxRecDepth 100000
namespace L2
open PySem PySem.Spec PySem.Calls PyProof.Rows
open Builtin Builtin.Str
section
variable {X : Cx}
theorem strVals {l : List (Str × Tok)} {ts : List Str} (h : l.map (·.1) = ts) : Vals (ts.map V.str) (strValues l) := by
  subst h
  induction l with
  | nil => exact .nil
  | cons p l ih => exact .cons ⟨_, rfl⟩ ih
/-- text.split(sep) -/
def rSplit : V → List V → Hp → VK → Prop := fun x vs H Q => ∃ (z sep : Str), x = .str z ∧ vs = [.str sep] ∧ (sep.length == 0) = false ∧ z.length ≤ 500 ∧ (Txt.split z sep).length ≤ 900 ∧ ∀ l, H l = none → Q (.ref l) (upd H l (.lst ((Txt.split z sep).map V.str)))
theorem mt_split : MtM X "str.split" rSplit := by
  intro pins s σ H x vs v us Q I rx rv h
  obtain ⟨x, y, rfl, rfl, hy, hz, hn, q⟩ := h
  obtain ⟨t, rfl⟩ := rx
  obtain ⟨u0, rfl, ru⟩ := rv.one
  obtain ⟨u, rfl⟩ := ru
  have fin : ∀ (l : List (Str × Tok)) (k : Nat), l.map (·.1) = Txt.split x y → EP X pins σ Q (.ref s.heap.objs.size) { s with toks := k, heap := s.heap.push { cls := .type "list", data := .seq (strValues l).toArray } } := fun l k e => by
    refine ⟨.ref s.heap.objs.size, _, I.laid (t' := k) (o := .lst ((Txt.split x y).map V.str)) (fun b ob q => Heap.get?_push_of_some _ q) (Nat.le_refl _) ?_, rfl, q _ (I.hok.fresh (Nat.le_refl _))⟩
    exact ⟨by rw [List.length_map]; exact Nat.le_of_lt (small1000 (by omega)), _, 0, strVals e, Heap.get?_push_size _ rfl⟩
  have hsz : x.length ≤ sizeLine := Nat.le_of_lt (small1000 (by omega))
  cases h1 : (decide (x.length < y.length) || decide (strKind x < strKind y))
  · cases hf : (occurrences x y 0 x.length (x.length + 1)).isEmpty
    · have hs2 : (partsBetween x (occurrences x y 0 x.length (x.length + 1)) y.length).length ≤ sizeLine := by
        have e : Txt.split x y = partsBetween x (occurrences x y 0 x.length (x.length + 1)) y.length := (if_neg (ne_true_of_eq_false h1)).trans (if_neg (ne_true_of_eq_false hf))
        rw [← e]; exact Nat.le_of_lt (small1000 (by omega))
      refine call_meets F.slot_str_split (typeIs_str _ _ _) F.entry_str_split (F.args_str_split_2 _ _) (meets_str_split_sep x y t u h1 hy hf hsz hs2) ?_
      show wants _ _ _ { s with toks := _, heap := s.heap.push { cls := .type "list", data := .seq (strsFrom s.toks (partsBetween x (occurrences x y 0 x.length (x.length + 1)) y.length)).toArray } }
      rw [strsFrom_eq]
      exact fin (numbered s.toks _) _ ((numbered_texts _ _).trans ((if_neg (ne_true_of_eq_false h1)).trans (if_neg (ne_true_of_eq_false hf))).symm)
    · exact call_meets F.slot_str_split (typeIs_str _ _ _) F.entry_str_split (F.args_str_split_2 _ _) (meets_str_split_not_found x y t u h1 hy hf)
        (fin [(x, t)] _ ((if_neg (ne_true_of_eq_false h1)).trans (if_pos hf)).symm)
  · exact call_meets F.slot_str_split (typeIs_str _ _ _) F.entry_str_split (F.args_str_split_2 _ _) (meets_str_split_cannot_occur x y t u h1)
      (fin [(x, t)] _ (if_pos h1).symm)
/-- a text times nought or one -/
theorem op_rep01 : OpR X (binaryOp .Mult) (fun x y H Q => ∃ (z : Str) (k : Int), x = .str z ∧ y = .int k ∧ ((k = 0 ∧ Q (.str Str.empty) H) ∨ (k = 1 ∧ Q (.str z) H))) := by
  intro pins s σ H x y v u Q I rx ry h
  obtain ⟨z, k, rfl, rfl, h⟩ := h
  obtain ⟨t, rfl⟩ := rx
  obtain ⟨t', rfl⟩ := ry
  rcases h with ⟨rfl, q⟩ | ⟨rfl, q⟩
  · exact P.mul_str_none (by decide) (by decide) ⟨.str Str.empty, H, I.tok _, ⟨_, rfl⟩, q⟩
  · refine P.mul_str (by decide) (fun _ h => absurd h (by simp)) (fun _ h => absurd h (by simp)) ?_
    rw [if_neg (by decide), if_pos (by simp)]
    exact ⟨.str z, H, I, ⟨_, rfl⟩, q⟩
end
end L2

set_option linter.all false
set_option maxHeartbeats 4000000
set_option maxRecDepth 100000
namespace L2
open PySem PySem.Spec PyProof.Rows
/-- a text, n times -/
def repS (z : Str) (n : Nat) : Str := ⟨(List.replicate n z.cps.toList).flatten.toArray⟩
section
variable {X : Cx}
end
end L2
namespace L2
open PySem PyProof.Rows
end L2

set_option linter.all false
set_option maxHeartbeats 4000000
set_option maxRecDepth 100000
namespace PySem
open Sem (wp)
namespace F
theorem owner_rev : Manifest.owners.lookup (String.ofList ['d', 'e', 's', 'r', 'e', 'v', 'e', 'r'].reverse) = some Manifest.sig_reversed := by kernel_rfl
theorem slot_rev_next : Slot "reversed" "__next__" "reversed.__next__" :=
  .of (owner := "reversed") (n := "__next__") (by rw [typeLookup_type, builtinLookup_eq_fast]; kernel_rfl) (by decide +kernel) (by decide +kernel) (by decide +kernel)
    (by first | exact .inl (by decide +kernel) | exact .inr (by decide +kernel)) (by rw [isSubtype_type]; kernel_rfl)
theorem entry_rev_next : entryFor table "reversed.__next__" = some Builtin.«reversed.__next__» := entryFor_of_tree (by kernel_rfl)
theorem args_rev_next_1 (a : Value) : argsOk "reversed.__next__" ⟨[a], []⟩ := by
  unfold argsOk; rw [signature?_of (id := "reversed.__next__") (n := ['_', '_', 't', 'x', 'e', 'n', '_', '_']) (o := ['d', 'e', 's', 'r', 'e', 'v', 'e', 'r']) (by kernel_rfl) owner_rev]; kernel_rfl
theorem slot_rev_iter : Slot "reversed" "__iter__" "reversed.__iter__" :=
  .of (owner := "reversed") (n := "__iter__") (by rw [typeLookup_type, builtinLookup_eq_fast]; kernel_rfl) (by decide +kernel) (by decide +kernel) (by decide +kernel)
    (by first | exact .inl (by decide +kernel) | exact .inr (by decide +kernel)) (by rw [isSubtype_type]; kernel_rfl)
theorem args_rev_iter_1 (a : Value) : argsOk "reversed.__iter__" ⟨[a], []⟩ := by
  unfold argsOk; rw [signature?_of (id := "reversed.__iter__") (n := ['_', '_', 'r', 'e', 't', 'i', '_', '_']) (o := ['d', 'e', 's', 'r', 'e', 'v', 'e', 'r']) (by kernel_rfl) owner_rev]; kernel_rfl
theorem entry_rev_iter : entryFor table "reversed.__iter__" = some Builtin.«dict_keyiterator.__iter__» :=
  entryFor_alias (id' := "dict_keyiterator.__iter__") (by kernel_rfl) (by first | rfl | decide +kernel | (unfold String.splitOn; simp +decide [String.splitOnAux])) (by decide +kernel) (by kernel_rfl)
theorem slot_rev_hint : Slot "reversed" "__length_hint__" "reversed.__length_hint__" :=
  .of (owner := "reversed") (n := "__length_hint__") (by rw [typeLookup_type, builtinLookup_eq_fast]; kernel_rfl) (by decide +kernel) (by decide +kernel) (by decide +kernel)
    (by first | exact .inl (by decide +kernel) | exact .inr (by decide +kernel)) (by rw [isSubtype_type]; kernel_rfl)
theorem entry_rev_hint : entryFor table "reversed.__length_hint__" = some Builtin.«reversed.__length_hint__» := entryFor_of_tree (by kernel_rfl)
theorem args_rev_hint_1 (a : Value) : argsOk "reversed.__length_hint__" ⟨[a], []⟩ := by
  unfold argsOk; rw [signature?_of (id := "reversed.__length_hint__") (n := ['_', '_', 't', 'n', 'i', 'h', '_', 'h', 't', 'g', 'n', 'e', 'l', '_', '_']) (o := ['d', 'e', 's', 'r', 'e', 'v', 'e', 'r']) (by kernel_rfl) owner_rev]; kernel_rfl
theorem slot_rev_init : Slot "reversed" "__init__" "object.__init__" :=
  .of (owner := "object") (n := "__init__") (by rw [typeLookup_type, builtinLookup_eq_fast]; kernel_rfl) (by decide +kernel) (by decide +kernel) (by decide +kernel)
    (by first | exact .inl (by decide +kernel) | exact .inr (by decide +kernel)) (by rw [isSubtype_type]; kernel_rfl)
theorem rv_mro : mroOf (.type "reversed") = pure [.type "reversed", .type "object"] := by rw [mroOf_type]; kernel_rfl
theorem rv_new : typeLookup (.type "reversed") "__new__" = pure (some (.builtin "reversed.__new__")) := by rw [typeLookup_type, builtinLookup_eq_fast]; kernel_rfl
theorem rv_made : Bind.madeBy (.type "reversed") = pure (some "reversed.__new__") := madeBy_type rv_mro rv_new (by decide +kernel)
theorem rv_typeCall (a : Value) : checkTypeCall "reversed" ⟨[a], []⟩ = pure () := by kernel_rfl
theorem rv_newCall (a : Value) : checkBuiltinCall "reversed.__new__" ⟨[.type "reversed", a], []⟩ = pure () := by kernel_rfl
theorem rv_entry_new : entryFor table "reversed.__new__" = some Builtin.«reversed.__new__» := entryFor_of_tree (by kernel_rfl)
theorem rv_sub : isSubtype (.type "reversed") (.type "reversed") = pure true := by rw [isSubtype_type]; kernel_rfl
theorem called_rev : TypeCalled "reversed" "reversed.__new__" "object.__init__" :=
  ⟨by decide +kernel, by decide +kernel, ⟨_, _, rv_mro⟩, rv_made, by decide +kernel, by rw [isSubtype_type]; kernel_rfl, slot_rev_init⟩
theorem nolen_rev : typeLookup (.type "reversed") "__len__" = pure none := by rw [typeLookup_type, builtinLookup_eq_fast]; kernel_rfl
theorem norev_tuple : typeLookup (.type "tuple") "__reversed__" = pure none := by rw [typeLookup_type, builtinLookup_eq_fast]; kernel_rfl
end F
end PySem

set_option linter.all false
set_option maxHeartbeats 4000000
set_option maxRecDepth 100000
namespace PySem
open Sem (wp)
def revO (t : Addr) (i : Int) : Obj := { cls := .type "reversed", data := .fields #[.ref t, rawInt i] }
def Heap.IsRev (h : Heap) (a t : Addr) (i : Int) : Prop := ∃ o, h.get? a = some o ∧ o.cls = .type "reversed" ∧ o.data = .fields #[.ref t, rawInt i]
section
variable {prog : Program} {w : World} {A : Around} {E : Value → Shared → Prop} {s : Shared}
theorem Heap.IsRev.typeIs {a t : Addr} {i : Int} (x : s.heap.IsRev a t i) : s.TypeIs (.ref a) "reversed" := let ⟨o, ho, hc, _⟩ := x; ⟨o, ho, hc⟩
theorem Heap.IsRev.at {h h' : Heap} {a t : Addr} {i : Int} (x : h.IsRev a t i) (e : ∀ o, h.get? a = some o → h'.get? a = some o) : h'.IsRev a t i := let ⟨o, ho, r⟩ := x; ⟨o, e _ ho, r⟩
theorem rv_newClass (a : Value) : Builtin.SmallTypes.newClass "reversed" ⟨[.type "reversed", a], []⟩ = pure (.type "reversed", [a]) := by
  unfold Builtin.SmallTypes.newClass
  simp only [isType, F.rv_sub, pure_bind, Bool.not_true, Bool.false_eq_true, if_false]
theorem rv_meets (t : Addr) (items : Array Value) (hfit : (items.size : Int) < 2 ^ 63) :
    Meets (Builtin.«reversed.__new__» ⟨[.type "reversed", .ref t], []⟩) (fun _ R s => PyProof.Rows.IsTup s.heap t items ∧ ∀ tk, R (.ok (.ret (.ref s.heap.objs.size))) { s with heap := s.heap.push (revO t ((items.size : Int) - 1)), toks := tk }) := fun prog w A R s h => by
  obtain ⟨ht, h⟩ := h
  unfold Builtin.«reversed.__new__»
  refine wpAny_bind (wpAny_of_eq (rv_newClass _) ?_)
  try dsimp only
  refine wpAny_bind (wpAny_of_eq (a := ()) (by first | rfl | kernel_rfl) ?_)
  refine wpAny_bind (wpAny_of_eq (a := ()) (by first | rfl | kernel_rfl) ?_)
  try dsimp only
  refine wpAny_bind (wpAny_specialOf ht.typeIs F.norev_tuple ?_)
  try dsimp only
  refine wpAny_bind ?_
  show wpAny _ _ (isInstance (Value.ref t) (.type "dict") >>= _) _ _ _
  refine wpAny_bind (wpAny_isInstance (b := false) ht.typeIs F.sub_tuple_dict ?_)
  rw [if_neg (by decide)]
  refine wpAny_bind (wpAny_specialOf ht.typeIs PyProof.Rows.slot_tuple_getitem.lookup ?_)
  dsimp only
  rw [if_pos (by decide)]
  refine wpAny_pure ?_
  rw [if_neg (by decide)]
  refine wpAny_bind (PyProof.Rows.len_tuple ht hfit ?_)
  refine wpAny_bind (m := asInt? _) (wpAny_pure ?_)
  dsimp only
  unfold Builtin.SmallTypes.newRecord
  refine wpAny_bind (wpAny_newObj_type (data := .fields #[.ref t, rawInt ((items.size : Int) - 1)]) ?_)
  exact wpAny_pure (h _)
theorem call_rev_tuple {t : Addr} {items : Array Value} {Q : Value → Shared → Prop} (ht : PyProof.Rows.IsTup s.heap t items) (hfit : (items.size : Int) < 2 ^ 63)
    (h : ∀ tk, Q (.ref s.heap.objs.size) { s with heap := s.heap.push (revO t ((items.size : Int) - 1)), toks := tk }) : wpAny (model prog w) A (call (.type "reversed") [.ref t]) Q E s :=
  callType_new F.called_rev (by decide) (F.rv_typeCall _) (F.rv_newCall _) (fun obj => F.args_object_init_2 obj _) F.rv_entry_new (rv_meets t items hfit) ⟨ht, fun tk => ⟨⟨_, Heap.get?_push_size _ rfl, rfl⟩, h tk⟩⟩
theorem rv_next {it t : Addr} {i : Nat} {items : Array Value} {x : Value} {Q : Option Value → Shared → Prop} (hit : s.heap.IsRev it t (i : Int)) (ht : PyProof.Rows.IsTup s.heap t items) (hi : (i : Int) < 2 ^ 63) (hx : items[i]? = some x)
    (hQ : ∀ h' tk, h'.IsRev it t ((i : Int) - 1) → Heap.SameBut it s.heap h' → Q (some x) { s with heap := h', toks := tk }) : wpAny (model prog w) A (pyNext (.ref it)) Q E s := by
  obtain ⟨o, ho, hc, hd⟩ := id hit
  unfold pyNext
  refine wpAny_bind (wpAny_attempt (wpAny_callSpecial?_slot (name := Str.ofString "__next__") hit.typeIs F.slot_rev_next (wpAny_call_entry F.slot_rev_next hit.typeIs F.entry_rev_next ?_ (F.args_rev_next_1 _))))
  unfold Builtin.«reversed.__next__»
  refine wpAny_bind (wpAny_of_eq (a := (Value.ref it, [])) rfl ?_)
  try dsimp only
  refine wpAny_bind (wpAny_field ho hd (x := .ref t) rfl ?_)
  refine wpAny_bind (wpAny_field ho hd (x := rawInt (i : Int)) rfl ?_)
  show wpAny _ _ (if (i : Int) < 0 then _ else _) _ _ s
  rw [if_neg (by omega)]
  refine wpAny_bind (wpAny_specialOf ht.typeIs PyProof.Rows.slot_tuple_getitem.lookup ?_)
  rw [if_neg (by simp)]
  refine wpAny_bind (wpAny_mkInt ?_)
  have hsz : i < items.size := (Array.getElem?_eq_some_iff.mp hx).1
  refine wpAny_bind (wpAny_attempt (PyProof.Rows.getItem_tuple (s := { s with toks := s.toks + 1 }) (j := i) ht (by omega) hi ?_ hx ?_))
  · unfold seqIndex?
    have e : (if (i : Int) < 0 then (i : Int) + (items.size : Int) else (i : Int)) = (i : Int) := if_neg (by omega)
    simp [hsz, e]
  · dsimp only
    refine wpAny_bind (wpAny_field ho hd (x := rawInt (i : Int)) rfl ?_)
    dsimp only [rawInt]
    refine wpAny_bind (wpAny_setField ho hd (by simp) ?_)
    refine wpAny_pure ⟨x, rfl, wpAny_pure (hQ _ _ ?_ (Heap.SameBut.update ..))⟩
    exact ⟨_, Heap.get?_update_self _ ho (Obj.isFreed_of_fields (Obj.data_mapFields hd _)), (Obj.cls_mapFields ..).trans hc, by
      rw [Obj.data_mapFields hd]; simp [rawInt]⟩
theorem rv_end {it t : Addr} {Q : Option Value → Shared → Prop} (hh : A.handled = none) (hit : s.heap.IsRev it t (-1))
    (hQ : ∀ h', Heap.ExtBut it s.heap h' → Q none { s with heap := h' }) : wpAny (model prog w) A (pyNext (.ref it)) Q E s := by
  obtain ⟨o, ho, hc, hd⟩ := id hit
  unfold pyNext
  refine wpAny_bind (wpAny_attempt (wpAny_callSpecial?_slot (name := Str.ofString "__next__") hit.typeIs F.slot_rev_next (wpAny_call_entry F.slot_rev_next hit.typeIs F.entry_rev_next ?_ (F.args_rev_next_1 _))))
  unfold Builtin.«reversed.__next__»
  refine wpAny_bind (wpAny_of_eq (a := (Value.ref it, [])) rfl ?_)
  try dsimp only
  refine wpAny_bind (wpAny_field ho hd (x := .ref t) rfl ?_)
  refine wpAny_bind (wpAny_field ho hd (x := rawInt (-1)) rfl ?_)
  show wpAny _ _ (if (-1 : Int) < 0 then _ else _) _ _ s
  rw [if_pos (by decide)]
  refine wpAny_bind (wpAny_rule ?_)
  refine wpAny_bind ?_
  show wpAny _ _ (setField (Value.ref it) 1 (rawInt (-1)) >>= fun _ => setField (Value.ref it) 0 .none) _ _ _
  refine wpAny_bind (wpAny_setField ho hd (by simp) ?_)
  refine wpAny_setField (Heap.get?_update_self _ ho (Obj.isFreed_of_fields (Obj.data_mapFields hd _))) (Obj.data_mapFields hd _) (by simp) ?_
  show wpAny _ _ (Builtin.SmallTypes.stopIteration >>= _) _ _ _
  refine wpAny_bind ?_
  show wpAny _ _ (newExc (.type "StopIteration") [] >>= _) _ _ _
  refine wpAny_bind ?_
  simp only [newExc, newTuple]
  refine wpAny_bind (wpAny_newObj_type ?_ (by size_fits))
  refine wpAny_bind (m := firstArgMember _ _) (wpAny_of_eq (a := Value.none) (by first | rfl | (simp only [firstArgMember]; rfl)) ?_)
  refine wpAny_newObj_type ?_ (by size_fits)
  simp only [raiseNew]
  refine wpAny_bind (wpAny_handled ?_)
  first | rw [show A.in1.handled = none from hh] | rw [hh]
  refine wpAny_bind (wpAny_pure (wpAny_throw ?_))
  refine wpAny_bind (wpAny_isInstance (T := "StopIteration") (b := true) ⟨_, Heap.get?_push_size _ rfl, rfl⟩ isSubtype_stop ?_)
  rw [if_pos rfl]
  have e1 : Heap.ExtBut it s.heap (s.heap.update it (Obj.mapFields fun x => x.setIfInBounds 1 (rawInt (-1)))) := (Heap.SameBut.update ..).extBut
  have e2 : Heap.ExtBut it (s.heap.update it (Obj.mapFields fun x => x.setIfInBounds 1 (rawInt (-1)))) ((s.heap.update it (Obj.mapFields fun x => x.setIfInBounds 1 (rawInt (-1)))).update it (Obj.mapFields fun x => x.setIfInBounds 0 Value.none)) := (Heap.SameBut.update ..).extBut
  exact wpAny_pure (hQ _ (((e1.trans e2).push _).push _))
theorem rv_iter {it t : Addr} {i : Int} {Q : Value → Shared → Prop} (hit : s.heap.IsRev it t i) (h : Q (.ref it) s) : wpAny (model prog w) A (pyIter (.ref it)) Q E s := by
  refine wpAny_pyIter_slot hit.typeIs F.slot_rev_iter (wpAny_call_entry F.slot_rev_iter hit.typeIs F.entry_rev_iter ?_ (F.args_rev_iter_1 _))
  show wpAny _ _ (ret (.ref it)) _ _ s
  exact wpAny_pure ⟨_, rfl, "reversed", _, hit.typeIs, F.slot_rev_next.lookup, h⟩
theorem Walks.tupRev {prog : Program} {w : World} {A : Around} (hh : A.handled = none) (I t : Addr) (hne : t ≠ I) (items : Array Value) (hfit : (items.size : Int) < 2 ^ 63) :
    Walks prog w A I [I, t] [I] items.size (fun i v => items[items.size - 1 - i]? = some v) (fun i h => i ≤ items.size ∧ h.IsRev I t ((items.size : Int) - 1 - (i : Int)) ∧ PyProof.Rows.IsTup h t items) where
  sub := fun b hb => by simp at hb; simp [hb]
  frame := fun _ _ _ x hk => ⟨x.1, x.2.1.at fun o e => hk I (by simp) o e, let ⟨o, ho, r⟩ := x.2.2; ⟨o, hk t (by simp) o ho, r⟩⟩
  item := fun i s Q E hi x hQ => by
    have e : (items.size : Int) - 1 - (i : Int) = ((items.size - 1 - i : Nat) : Int) := by omega
    have hit := x.2.1
    rw [e] at hit
    have hx : items[items.size - 1 - i]? = some (items[items.size - 1 - i]'(by omega)) := Array.getElem?_eq_getElem (by omega)
    refine rv_next hit x.2.2 (by omega) hx fun h' tk hit' hs' => ?_
    have e2 : ((items.size - 1 - i : Nat) : Int) - 1 = (items.size : Int) - 1 - ((i + 1 : Nat) : Int) := by omega
    rw [e2] at hit'
    exact hQ _ h' tk hx ⟨hi, hit', let ⟨o, ho, r⟩ := x.2.2; ⟨o, (hs'.2 t hne).trans ho, r⟩⟩ fun b o hb eo => hs'.extBut b o (fun h => hb (by simp [h])) eo
  done := fun s Q E x hQ => by
    have e : (items.size : Int) - 1 - (items.size : Int) = -1 := by omega
    have hit := x.2.1
    rw [e] at hit
    exact rv_end hh hit fun h' he' => hQ h' s.toks fun b o hb eo => he' b o (fun h => hb (by simp [h])) eo
  self := fun _ _ _ _ x hQ => rv_iter x.2.1 hQ
/-- how many are to come -/
theorem rv_hint {I t : Addr} {items : Array Value} {Q : Value → Shared → Prop} (hfit : (items.size : Int) < 2 ^ 63) (hit : s.heap.IsRev I t ((items.size : Int) - 1)) (ht : PyProof.Rows.IsTup s.heap t items)
    (h : ∀ u tk, s.toks ≤ tk → Q (.int (items.size : Int) u) { s with toks := tk }) : wpAny (model prog w) A (call (.builtin "reversed.__length_hint__") [.ref I]) Q E s := by
  obtain ⟨o, ho, hc, hd⟩ := id hit
  refine wpAny_call_entry F.slot_rev_hint hit.typeIs F.entry_rev_hint ?_ (F.args_rev_hint_1 _)
  unfold Builtin.«reversed.__length_hint__»
  refine wpAny_bind (wpAny_of_eq (a := Value.ref I) rfl ?_)
  refine wpAny_bind (wpAny_field ho hd (x := .ref t) rfl ?_)
  rw [if_neg (show ¬ ((Value.ref t == Value.none) = true) from Bool.false_ne_true)]
  refine wpAny_bind (PyProof.Rows.len_tuple ht hfit ?_)
  refine wpAny_bind (m := asInt? _) (wpAny_pure ?_)
  dsimp only
  refine wpAny_bind (wpAny_field (s := { s with toks := s.toks + 1 + 1 }) ho hd (x := rawInt ((items.size : Int) - 1)) rfl ?_)
  dsimp only [rawInt]
  rw [if_neg (by omega)]
  refine wpAny_bind (wpAny_mkInt (wpAny_pure ⟨_, rfl, ?_⟩))
  rw [show (items.size : Int) - 1 + 1 = (items.size : Int) by omega]
  exact h _ _ (Nat.le_succ_of_le (Nat.le_succ_of_le (Nat.le_succ _)))
end
section
variable {prog : Program} {w : World} {A : Around} {s : Shared} {R : Result → Shared → Prop}
theorem rv_extend (hh : A.handled = none) {I t S : Addr} {items : Array Value} {res : Value} {c₀ : Nat} (hfit : (items.size : Int) < 2 ^ 63) (hn : items.size ≤ sizeLine) (hit : s.heap.IsRev I t ((items.size : Int) - 1)) (ht : PyProof.Rows.IsTup s.heap t items) (h1 : S ≠ I) (h2 : S ≠ t) (h3 : t ≠ I)
    (hS : s.heap.get? S = some { cls := .type "list", data := .seq #[] c₀ })
    (hR : ∀ s' acc' c', Moved [S, I] (fun a b => b = a) s s' → s'.heap.get? S = some { cls := .type "list", dict := none, data := .seq acc' c', slots := #[] } → ItemsOf (fun i v => items[items.size - 1 - i]? = some v) acc' items.size → R (.ok (.ret res)) s') :
    wpAny (model prog w) A.in1 (Builtin.List.listExtendWith (.ref S) (.ref I) res)
      (fun fin s' => match fin with | .done f => R (.ok f) s' | .again c' => c'.quiet = true ∧ codeAny (model prog w) A c' R s') (fun e s' => R (.error e) s') s := by
  have W := (Walks.tupRev (prog := prog) (w := w) (A := A.in1) hh I t h3 items hfit).toS
  have hSf : S ∉ [I, t] := by simp [h1, h2]
  unfold Builtin.List.listExtendWith
  refine wpAny_bind (wpAny_typeOf hit.typeIs ?_)
  have z1 : Builtin.List.listSameRef (.ref S) (.ref I) = false := by simp [Builtin.List.listSameRef, h1]
  have z2 : (Value.type "reversed" == Value.type "list") = false := by decide
  have z3 : (Value.type "reversed" == Value.type "tuple") = false := by decide
  simp only [z1, z2, z3, Bool.or_false, Bool.false_eq_true, if_false]
  refine wpAny_bind (rv_iter hit ?_)
  refine wpAny_bind (wpAny_holding ?_)
  unfold Builtin.List.listLengthHint
  refine wpAny_bind (wpAny_specialOf hit.typeIs F.nolen_rev ?_)
  show wpAny _ A.in1 (specialOf (Value.ref I) (Str.ofString "__length_hint__") >>= _) _ _ _
  refine wpAny_bind (wpAny_specialOf hit.typeIs F.slot_rev_hint.lookup ?_)
  (generalize hid : ("reversed.__length_hint__" : String) = id0; (fail_if_success (clear hid id0)); wp_delta; rw [show splitId id0 = some ("reversed", "__length_hint__") from by subst hid; decide +kernel]; subst hid)
  refine wpAny_bind (wpAny_isInstance (b := true) hit.typeIs F.rv_sub ?_)
  rw [if_neg (by decide)]
  dsimp only
  rw [if_neg (by decide +kernel)]
  refine wpAny_bind (wpAny_rule ?_)
  refine wpAny_bind (wpAny_of_eq (F.slot_rev_hint.bind _) ?_)
  show wpAny _ A.in1 (Sem.attempt (call (Value.builtin "reversed.__length_hint__") [Value.ref I]) >>= _) _ _ _
  refine wpAny_bind (wpAny_attempt (rv_hint hfit hit ht fun u tk htk => ?_))
  show wpAny _ A.in1 (asInt? (Value.int (items.size : Int) u) >>= _) _ _ _
  have ea : asInt? (Value.int (items.size : Int) u) = pure (some (items.size : Int)) := rfl
  rw [ea, pure_bind]
  dsimp only
  have hf : Builtin.List.listFitsIndex (items.size : Int) = true := by
    unfold Builtin.List.listFitsIndex
    rw [Bool.and_eq_true]
    exact ⟨decide_eq_true (by omega), decide_eq_true hfit⟩
  have hl : Builtin.List.listTooLong (items.size : Int).toNat = false := by
    unfold Builtin.List.listTooLong
    rw [Int.toNat_natCast]
    exact decide_eq_false (Nat.not_lt.mpr hn)
  rw [hf, hl]
  rw [if_neg (show ¬ ((!true) = true) by decide), if_neg (show ¬ ((items.size : Int) < 0) by omega), if_neg Bool.false_ne_true]
  refine wpAny_pure ?_
  have fin : ∀ (h' : Heap) (c1 : Nat), (∀ b o, b ≠ S → s.heap.get? b = some o → h'.get? b = some o) → h'.get? S = some { cls := .type "list", data := .seq #[] c1 } →
      wpAny (model prog w) A.in1 (again (.builtin "list.extend.loop" ⟨[.ref S, .ref I, res], []⟩))
        (fun fin s' => match fin with | .done f => R (.ok f) s' | .again c' => c'.quiet = true ∧ codeAny (model prog w) A c' R s') (fun e s' => R (.error e) s') { s with heap := h', toks := tk } := fun h' c1 oth hS3 => by
    have hst : (0 : Nat) ≤ items.size ∧ s.heap.IsRev I t ((items.size : Int) - 1 - ((0 : Nat) : Int)) ∧ PyProof.Rows.IsTup s.heap t items := ⟨Nat.zero_le _, by rw [show (items.size : Int) - 1 - ((0 : Nat) : Int) = (items.size : Int) - 1 by omega]; exact hit, ht⟩
    refine wpAny_pure ⟨plainId_quiet F.plain_extend_loop _, codeAny_extend_loopS W hn _ hSf _ items.size 0 _ _ _ rfl (Nat.zero_le _)
      (W.frame 0 s h' tk hst htk fun b hb o e => oth b o (fun h => hSf (h ▸ hb)) e) hS3 (ItemsOf.nil _) fun s' acc' c' hm hS' hacc => ?_⟩
    have m0 : Moved [S, I] (fun a b => b = a) s { s with heap := h', toks := tk } := (Moved.refl (wr := [S, I]) (G := fun a b => b = a) fun _ => rfl).then_heap htk fun b o hb e => oth b o (fun h => hb (by rw [h]; exact List.mem_cons_self)) e
    exact hR s' acc' c' (Moved.trans W.gtrans m0 hm) hS' hacc
  by_cases hz : items.size = 0
  · rw [if_neg (by rw [hz]; decide)]
    exact fin s.heap _ (fun _ _ _ e => e) hS
  · have hb : ((items.size : Int) != 0) = true := by simp; exact fun e => hz (by rw [e]; rfl)
    rw [hb, Bool.true_or, if_pos rfl]
    refine wpAny_bind (wpAny_rule ?_)
    refine wpAny_bind ?_
    show wpAny _ A.in1 (updateSeq S (·.push .none) >>= fun _ => updateSeq S (·.pop)) _ _ _
    refine wpAny_bind (wpAny_updateSeq (hz := Nat.zero_le _) (_hz' := Nat.succ_le_succ (Nat.zero_le _)) hS rfl ?_)
    have hS₂ := Heap.get?_update_self (Obj.mapSeq (·.push Value.none)) hS rfl
    refine wpAny_updateSeq (hz := Nat.le_trans (show (1 : Nat) ≤ 1000 by decide) (show 1000 ≤ sizeLine by decide)) (_hz' := Nat.zero_le _) hS₂ rfl ?_
    have hS₃ := Heap.get?_update_self (Obj.mapSeq (·.pop)) hS₂ rfl
    exact fin _ _ (fun b o hb e => (Heap.get?_update_other _ _ (Ne.symm hb)).trans ((Heap.get?_update_other _ _ (Ne.symm hb)).trans e)) hS₃
theorem rv_init (hh : A.handled = none) {I t S : Addr} {items : Array Value} (hfit : (items.size : Int) < 2 ^ 63) (hn : items.size ≤ sizeLine) (hit : s.heap.IsRev I t ((items.size : Int) - 1)) (ht : PyProof.Rows.IsTup s.heap t items) (h1 : S ≠ I) (h2 : S ≠ t) (h3 : t ≠ I)
    (hS : s.heap.get? S = some { cls := .type "list", data := .seq #[] })
    (hR : ∀ s' acc' c', Moved [S, I] (fun a b => b = a) s s' → s'.heap.get? S = some { cls := .type "list", dict := none, data := .seq acc' c', slots := #[] } → ItemsOf (fun i v => items[items.size - 1 - i]? = some v) acc' items.size → R (.ok (.ret .none)) s') :
    wpAny (model prog w) A.in1 (Builtin.«list.__init__» ⟨[.ref S, .ref I], []⟩)
      (fun fin s' => match fin with | .done f => R (.ok f) s' | .again c' => c'.quiet = true ∧ codeAny (model prog w) A c' R s') (fun e s' => R (.error e) s') s := by
  have W := (Walks.tupRev (prog := prog) (w := w) (A := A.in1) hh I t h3 items hfit).toS
  show wpAny _ A.in1 (do let old ← Builtin.List.listItems (.ref S); Builtin.List.listUpdate (.ref S) (fun _ => #[]); letGo old.toList.reverse; Builtin.List.listExtendWith (.ref S) (.ref I) .none) _ _ s
  refine wpAny_bind ?_
  unfold Builtin.List.listItems
  refine wpAny_bind (wpAny_seqItems hS rfl (wpAny_pure ?_))
  show wpAny _ A.in1 (updateSeq S (fun _ => #[]) >>= fun _ => letGo (#[] : Array Value).toList.reverse >>= fun _ => Builtin.List.listExtendWith (.ref S) (.ref I) .none) _ _ s
  refine wpAny_bind (wpAny_updateSeq (hz := Nat.zero_le _) (_hz' := Nat.zero_le _) hS rfl ?_)
  have hS₂ := Heap.get?_update_self (Obj.mapSeq (fun _ => (#[] : Array Value))) hS rfl
  have oth : ∀ b o, b ≠ S → s.heap.get? b = some o → (s.heap.update S (Obj.mapSeq (fun _ => (#[] : Array Value)))).get? b = some o :=
    fun b o hb e => (Heap.get?_update_other _ _ (Ne.symm hb)).trans e
  refine wpAny_bind (wpAny_letGo ?_)
  refine rv_extend hh hfit hn (hit.at fun o e => oth I o (Ne.symm h1) e) (let ⟨o, ho, r⟩ := ht; ⟨o, oth t o (Ne.symm h2) ho, r⟩) h1 h2 h3 hS₂ fun s' acc' c' hm hS' hacc => ?_
  have m0 : Moved [S, I] (fun a b => b = a) s { s with heap := s.heap.update S (Obj.mapSeq (fun _ => (#[] : Array Value))) } := (Moved.refl (wr := [S, I]) (G := fun a b => b = a) fun _ => rfl).then_heap (Nat.le_refl _) fun b o hb e => oth b o (fun h => hb (by rw [h]; exact List.mem_cons_self)) e
  exact hR s' acc' c' (Moved.trans W.gtrans m0 hm) hS' hacc
end
section
variable {prog : Program} {w : World} {A : Around} {E : Value → Shared → Prop} {s : Shared}
theorem rv_list (hh : A.handled = none) {I t : Addr} {items : Array Value} {Q : Value → Shared → Prop} (hfit : (items.size : Int) < 2 ^ 63) (hn : items.size ≤ sizeLine) (hit : s.heap.IsRev I t ((items.size : Int) - 1)) (ht : PyProof.Rows.IsTup s.heap t items) (h3 : t ≠ I)
    (hQ : ∀ s' c', Moved [s.heap.objs.size, I] (fun a b => b = a) { s with heap := s.heap.push { cls := .type "list", data := .seq #[] } } s' →
      s'.heap.get? s.heap.objs.size = some { cls := .type "list", dict := none, data := .seq items.reverse c', slots := #[] } → Q (.ref s.heap.objs.size) s') :
    wpAny (model prog w) A (call (.type "list") [.ref I]) Q E s := by
  have lI : I < s.heap.objs.size := let ⟨o, ho, _⟩ := hit; Heap.lt_size ho
  have lt : t < s.heap.objs.size := ht.lt
  refine callType_codes (Q₁ := fun obj s₁ => obj = .ref s.heap.objs.size ∧ s₁ = { s with heap := s.heap.push { cls := .type "list", data := .seq #[] } }) F.called_list (F.typeCall_list_1 _) F.entry_list_init
    (code_list_new _ ⟨rfl, rfl⟩) fun obj s₁ h₁ => ?_
  obtain ⟨rfl, rfl⟩ := h₁
  have hS : (s.heap.push { cls := .type "list", data := .seq #[] }).get? s.heap.objs.size = some { cls := .type "list", data := .seq #[] } := Heap.get?_push_size _ rfl
  refine ⟨⟨_, hS, rfl⟩, F.args_list_init_2 _ _, rv_init (A := A.in1) hh hfit hn (hit.at fun o e => Heap.get?_push_of_some _ e) (ht.push _) (Nat.ne_of_gt lI) (Nat.ne_of_gt lt) h3 hS fun s' acc' c' hm hS' hacc => ?_⟩
  refine ⟨rfl, hQ s' c' hm ?_⟩
  have e : acc' = items.reverse := by
    apply Array.ext (by rw [hacc.1, Array.size_reverse])
    intro i h1 h2
    have h4 := hacc.2 i acc'[i] (Array.getElem?_eq_getElem h1)
    rw [Array.getElem_reverse]
    rw [hacc.1] at h1
    exact (Option.some.inj ((Array.getElem?_eq_getElem (by omega)).symm.trans h4)).symm
  rw [← e]; exact hS'
end
end PySem

set_option linter.all false
set_option maxHeartbeats 4000000
set_option maxRecDepth 100000
namespace L2
open PySem PySem.W PySem.Spec PyProof.Rows
section
variable {X : Cx} {K : PySem.W.Frag}
end
/-- each of these classes is below that one, as isinstance sees it -/
def clsUp (K : Frag) (pe : Addr) (cs : List Addr) : Bool := cs.all fun c => kitOne K (.ref c) (.ref pe) == some true && belowIn K c c
/-- try: the j-th name(..) except C0 as the i-th name: .. -/
def tTryV (j : Nat) (f : Addr) (sp : Sp) (K : Frag) (C0 : Addr) (i : Nat) (t : TA) (ts : TS) : TS := fun D σ H => σ[j]? = some (some (.ref f)) ∧ tTry sp K C0 i t ts D σ H
section
variable {X : Cx} {k j : Nat} {f : Addr} {fd : FuncData} {ps : List Str} {sp : Sp} {x c n : Str} {p cpos epos np hpos pos : Pos} {e : Expr} {es : List Expr} {b₀ : Stmt} {suite : List Stmt} {t : TA} {ts : TS} {i : Nat} {C0 : Addr} {bmB : List Value} {newId : String}
end
/-- list(reversed(t)), t a tuple -/
theorem pe_listRev {X : Cx} {e : Expr} {t : TE} {p1 p2 pos2 pos : Pos} (hg1 : Gl X "list") (n1 : X.mg "list" = none) (b1 : bootBuiltins "list" = some (.type "list")) (hg2 : Gl X "reversed") (n2 : X.mg "reversed" = none) (b2 : bootBuiltins "reversed" = some (.type "reversed")) (he : PE X e t) (hc : X.calm = true := by rfl)
    (hs : starEach [e] X.env = [(false, eval e X.env)] := by rfl) :
    PE X (.Call (.Name "list" p1) [.Call (.Name "reversed" p2) [e] [] pos2] [] pos) (fun σ H Q => t σ H fun x H1 => ∃ p ys, x = .ref p ∧ SqT X.K H1 p ys ∧ ∀ l, H1 l = none → Q (.ref l) (upd H1 l (.lst ys.reverse))) := by
  intro pins s σ H Q I h
  refine wpAny_Call_Name_kw (ld_blt I hg1 n1 b1 ?_)
  refine PyProof.Rows.callWith_type1 ?_ rfl rfl
  show wpAny _ _ (spliced ((false, eval (.Call (.Name "reversed" p2) [e] [] pos2) X.env) :: backTo pos (starEach [] X.env))) _ _ s
  refine Calls.spliced_cons ?_
  refine wpAny_Call_Name_kw (ld_blt I hg2 n2 b2 ?_)
  refine PyProof.Rows.callWith_type1 ?_ hs rfl
  rw [hs]
  show wpAny _ _ (spliced ((false, eval e X.env) :: backTo pos2 (starEach [] X.env))) _ _ s
  refine Calls.spliced_cons (thn (he pins s σ H _ I h) fun u s1 ⟨x, H1, I1, r1, p, ys, ex, hq, q⟩ => ?_)
  subst ex
  cases r1
  refine Calls.spliced_nil ?_
  obtain ⟨its, rv, pl, hz⟩ := I1.tuple hq
  have hlen := rv.length
  have hn := line63
  have hfit : ((its.toArray.size : Nat) : Int) < 2 ^ 63 := by simp only [List.size_toArray] <;> omega
  have hsz : its.toArray.size ≤ sizeLine := by simp only [List.size_toArray] <;> omega
  refine call_rev_tuple pl hfit fun tk => ?_
  refine Calls.spliced_nil ?_
  have lp : p < s1.heap.objs.size := pl.lt
  refine rv_list (s := { s1 with heap := s1.heap.push (revO p (((its.toArray.size : Nat) : Int) - 1)), toks := tk }) (I1.ok.hd hc) hfit hsz ⟨_, Heap.get?_push_size _ rfl, rfl, rfl⟩ (pl.push _) (Nat.ne_of_lt lp) fun s' c' hm hS' => ?_
  have e1 : (s1.heap.push (revO p (((its.toArray.size : Nat) : Int) - 1))).objs.size = s1.heap.objs.size + 1 := Heap.size_push ..
  dsimp only at hS' hm ⊢
  rw [e1] at hS' hm ⊢
  obtain ⟨h5, g5, d5, t5, o5⟩ := s'
  obtain ⟨k1, k2, k3, k4, k5⟩ := hm
  dsimp only at k1 k2 k3 k4 hS' ⊢
  subst k2 k3 k4
  have kp : ∀ b o, s1.heap.get? b = some o → h5.get? b = some o := fun b o eb => k1 b o (fun hm => by
    have lt := Heap.lt_size eb
    rcases List.mem_cons.mp hm with e | hm
    · rw [e] at lt; exact absurd lt (Nat.not_lt.mpr (Nat.le_succ _))
    · rw [List.mem_singleton.mp hm] at lt; exact Nat.lt_irrefl _ lt) (Heap.get?_push_of_some _ (Heap.get?_push_of_some _ eb))
  refine ⟨.ref (s1.heap.objs.size + 1), _, I1.laid (t' := t5) kp (Nat.le_succ _) (show ObjOk X.prog X.w _ h5 _ (.lst ys.reverse) from ⟨by rw [List.length_reverse]; omega, its.reverse, c', Vals.reverse rv, ?_⟩), rfl, q _ (I1.hok.fresh (Nat.le_succ _))⟩
  rw [hS']
  simp
end L2

set_option linter.all false
set_option maxHeartbeats 4000000
set_option maxRecDepth 100000
namespace PySem
open PyProof.Rows
/-- the texts that were met, each once -/
def metS : List Str → List Str
  | [] => []
  | x :: l => if l.contains x then metS l else x :: metS l
/-- one more -/
def stepS (σ : List Str) (v : Str) : List Str := if σ.any (· == v) then σ else σ ++ [v]
def firstS (val : Nat → Str) (n : Nat) : List Str := ((List.range n).map val).foldl stepS []
section
variable {prog : Program} {w : World} {A : Around} {R : Result → Shared → Prop} {I : Addr} {fp wr : List Addr} {G : Array GenState → Array GenState → Prop} {n : Nat} {P : Nat → Value → Prop} {St : Nat → Shared → Prop}
end
end PySem

set_option linter.all false
set_option maxHeartbeats 4000000
set_option maxRecDepth 100000
namespace PySem
open PyProof.Rows
namespace F
end F
section
variable {prog : Program} {w : World} {A : Around} {E : Value → Shared → Prop} {s : Shared}
abbrev setO (led : Bool) : Obj := { cls := .type "set", dict := none, data := .set #[] 0 (.fresh 0 0 led) }
end
end PySem

set_option linter.all false
set_option maxHeartbeats 4000000
set_option maxRecDepth 100000
namespace L2
open PySem PySem.W PySem.Spec PyProof.Rows
/-- how many of the texts are unlike -/
def manyS (ns : List Str) : Nat := (firstS (fun i => ns.getD i Str.empty) ns.length).length
end L2

set_option linter.all false
set_option maxHeartbeats 4000000
set_option maxRecDepth 100000
namespace L2
open PySem PySem.W PySem.Spec PyProof.Rows
/-- a text walked sign by sign -/
def Itc (z : Str) : It :=
  ⟨fun i _ => i < z.cps.size, fun i H v H' => H' = H ∧ ∃ c, v = .str ⟨#[c]⟩ ∧ z.cps[i]? = some c, fun i _ => z.cps.size ≤ i⟩
section
variable {X : Cx} {tg : Expr}
def iStrC (tl : TE) : TI := fun σ H R => tl σ H fun x H1 => ∃ z : Str, x = .str z ∧ R (Itc z) H1
end
section
variable {z : Str} {y : Str} {cap : List Nat} {tt : TT} {te : TE} {σ : St} {Z : List V → Hp → Prop} {H1 : Hp}
end
/-- a tuple of texts, as the text's own part shows it -/
def tupIn (K : Frag) (a : Addr) (ss : List Str) : Bool := match K.lookup a with
  | some ⟨.type "tuple", _, .seq its _, _⟩ => decide (its.size ≤ 1000) && (its.toList.map fun v => match v with | .str x _ => some x | _ => none) == ss.map some
  | _ => false
end L2

set_option linter.all false
set_option maxHeartbeats 4000000
set_option maxRecDepth 100000
namespace L2
open PySem PySem.W PyProof.Rows
/-- try: return f(..) is None except C0 as the i-th name: .. -/
def tTryR (sp : Sp) (K : Frag) (C0 : Addr) (i : Nat) (t : TA) (ts : TS) : TS := fun D σ H => t σ H fun vs H1 => sp vs H1 (fun v H2 => D.rt (.bl (decide (v = .non))) H2) fun cls _ H2 => ∃ C bm nid, cls = .ref C ∧ excIn K C bm nid = true ∧ belowIn K C C0 = true ∧
  ∀ a, H2 a = none → ts { nx := fun σ' H' => D.nx (σ'.set i none) H', rt := D.rt, bk := fun σ' H' => D.bk (σ'.set i none) H', ct := fun σ' H' => D.ct (σ'.set i none) H' } (σ.set i (some (.ref a))) (upd H2 a (excO a C))
section
variable {X : Cx} {k : Nat} {f : Addr} {fd : FuncData} {ps : List Str} {sp : Sp} {x c n : Str} {p cpos epos np hpos pos rpos kp : Pos} {kc : _} {e : Expr} {es : List Expr} {b₀ : Stmt} {suite : List Stmt} {t : TA} {ts : TS} {i : Nat} {C0 : Addr} {bmB : List Value} {newId : String}
end
end L2

set_option linter.all false
set_option maxHeartbeats 4000000
set_option maxRecDepth 100000
namespace L2
open PySem PySem.W PySem.Spec PyProof.Rows
/-- t + u of tuples, empty ones too -/
def rCatE (K : PySem.W.Frag) : R2 := fun x y H Q => ∃ a b xs ys, x = .ref a ∧ y = .ref b ∧ SqT K H a xs ∧ SqT K H b ys ∧ xs.length + ys.length ≤ sizeLine ∧ (xs = [] → Q (.ref b) H) ∧ (xs ≠ [] → ys = [] → Q (.ref a) H) ∧ (xs ≠ [] → ys ≠ [] → ∀ p, H p = none → Q (.ref p) (upd H p (.tup (xs ++ ys))))
section
variable {X : Cx}
theorem cat_nil {A : Around} {E : Value → Shared → Prop} {P : Program} {w : World} {s : Shared} {t b : Addr} {ws : List Value} {Q : Value → Shared → Prop} (ht : IsTup s.heap t ([] : List Value).toArray) (hb : IsTup s.heap b ws.toArray) (h : Q (.ref b) s) : wpAny (model P w) A (binaryOp .Add (.ref t) (.ref b)) Q E s := by
  obtain ⟨⟨c1, d1, a1, l1⟩, ho, hc, n, hd⟩ := id ht
  obtain ⟨⟨c2, d2, a2, l2⟩, ho2, hc2, n2, hd2⟩ := id hb
  simp only at hc hd hc2 hd2
  subst hc hd hc2 hd2
  exact concat_meets ⟨_, ho, rfl⟩ ⟨_, ho2, rfl⟩ noFill_tuple_add seq_tuple_add PySem.F.slot_tuple_add PySem.F.entry_tuple_add (PySem.F.args_tuple_add_2 _ _) (tuple_addW0 t b _ ws.toArray n n2 d1 d2 l1 l2 rfl) ⟨ho, ho2, h⟩
theorem op_catE : OpR X (binaryOp .Add) (rCatE X.K) := by
  intro pins s σ H x y v u Q I rx ry h
  obtain ⟨a, b, xs, ys, rfl, rfl, ha, hb, hz, q0, q1, q2⟩ := h
  cases rx
  cases ry
  obtain ⟨its, r1, p1, _⟩ := I.tuple ha
  obtain ⟨its2, r2, p2, _⟩ := I.tuple hb
  by_cases hx : xs = []
  · have e : its = [] := r1.nil_iff.mpr hx
    subst e
    exact cat_nil p1 p2 ⟨.ref b, H, I, rfl, q0 hx⟩
  · refine HT.cat_tup p1 p2 (fun z => hx (r1.nil_iff.mp z)) (fun z => ⟨.ref a, H, I, rfl, q1 hx (r2.nil_iff.mp z)⟩) (fun z => ?_) (by rw [← r1.length, ← r2.length]; exact hz)
    refine ⟨.ref s.heap.objs.size, _, I.laid (t' := s.toks) (o := .tup (xs ++ ys)) (fun b ob q => Heap.get?_push_of_some _ q) (Nat.le_refl _) ?_, rfl, q2 hx (fun w => z (r2.nil_iff.mpr w)) _ (I.hok.fresh (Nat.le_refl _))⟩
    exact ⟨by rw [List.length_append]; exact hz, its ++ its2, r1.append r2, IsTup.new _ _⟩
end
end L2

set_option linter.all false
set_option maxHeartbeats 4000000
set_option maxRecDepth 100000
namespace L2
open PySem PySem.W PySem.Spec PySem.Calls PyProof.Rows
open Builtin Builtin.Str
section
variable {X : Cx}
/-- text.split(sep), a long text -/
def rSplitB : V → List V → Hp → VK → Prop := fun x vs H Q => ∃ (z sep : Str), x = .str z ∧ vs = [.str sep] ∧ (sep.length == 0) = false ∧ z.length ≤ 100000 ∧ (Txt.split z sep).length ≤ 900 ∧ ∀ l, H l = none → Q (.ref l) (upd H l (.lst ((Txt.split z sep).map V.str)))
/-- text.partition(sep) -/
def rPart : V → List V → Hp → VK → Prop := fun x vs H Q => ∃ (z sep : Str), x = .str z ∧ vs = [.str sep] ∧ (sep.length == 0) = false ∧ z.length ≤ 100000 ∧ ∀ p, H p = none → Q (.ref p) (upd H p (.tup [.str (Txt.partition z sep).1, .str (Txt.partition z sep).2.1, .str (Txt.partition z sep).2.2]))
/-- text.lstrip(signs) -/
def rLstrip : V → List V → Hp → VK → Prop := fun x vs H Q => ∃ (z y : Str), x = .str z ∧ vs = [.str y] ∧ z.length ≤ 100000 ∧ Q (.str (Txt.lstripChars z y)) H
/-- sep.join(texts), long ones -/
def rJoinB (K : PySem.W.Frag) : V → List V → Hp → VK → Prop := fun x vs H Q => ∃ (sep : Str) (p : Addr) (ts : List Str), x = .str sep ∧ vs = [.ref p] ∧ SqL K H p (ts.map V.str) ∧ (ts.map (·.length)).sum + ts.length * sep.length ≤ 100000 ∧ Q (.str (Str.join sep ts)) H
end
/-- a list walked from behind -/
def Itv (K : PySem.W.Frag) (a : Addr) (xs : List V) : It :=
  ⟨fun i H => SqL K H a xs ∧ i < xs.length, fun i H v H' => H' = H ∧ xs.reverse[i]? = some v, fun i H => xs.length ≤ i⟩
theorem turn_rev {P : Program} {w : World} {K : PySem.W.Frag} {tg : Expr} (l : Addr) (xs : List V) (it : Addr) : Turn P w K tg (Itv K l xs) [it] it (fun i h => i ≤ xs.length ∧ h.IsRevIter it l ((xs.length : Int) - 1 - (i : Int))) where
  mem := by simp
  obj := fun i h st b hb => by
    have e : b = it := by simpa using hb
    subst e
    obtain ⟨_, o, e, c, d⟩ := st
    exact ⟨o, e, fun v z => by rw [d] at z; cases z⟩
  keep := fun i h h' st k => ⟨st.1, st.2.at fun o e => k it (by simp) o e⟩
  item := by
    intro X hP hw hK hc i pins s σ H E I hf st hg
    subst hP hw hK
    obtain ⟨hx, hi⟩ := hg
    obtain ⟨f0, f1, f2, f3, f4, f5⟩ := hf it (by simp)
    obtain ⟨its, rx, pl, _⟩ := I.list hx
    have lx := rx.length
    have e : (xs.length : Int) - 1 - (i : Int) = ((xs.length - 1 - i : Nat) : Int) := by omega
    have hit := st.2
    rw [e] at hit
    have ex : xs[xs.length - 1 - i]? = some (xs[xs.length - 1 - i]'(by omega)) := List.getElem?_eq_getElem (by omega)
    obtain ⟨u, hu, ru⟩ := rx.get ex
    refine wpAny_pyNext_rev_item hit pl.isList (x := u) (by simpa using hu) fun h' hit' sb => ?_
    have I1 : Inv X pins σ H { s with heap := h', toks := s.toks } := I.turned (t' := s.toks) (fun b o hb e => sb.extBut b o (by simpa using hb) e) f0 f1 f3 f4 f5
    have e2 : ((xs.length - 1 - i : Nat) : Int) - 1 = (xs.length : Int) - 1 - ((i + 1 : Nat) : Int) := by omega
    rw [e2] at hit'
    obtain ⟨o, eo, cl, d⟩ := id hit'
    refine ⟨_, rfl, go_of (s := { s with heap := h' }) eo cl d (by decide) ⟨_, H, I1, ru, ⟨rfl, ?_⟩, ⟨hi, hit'⟩, fun b hb => (hf b hb).1⟩⟩
    rw [List.getElem?_reverse hi]; exact ex
  done := by
    intro X hP hw hK hc i pins s σ H E I hf st hg
    subst hP hw hK
    obtain ⟨f0, f1, f2, f3, f4, f5⟩ := hf it (by simp)
    have hg' : xs.length ≤ i := hg
    have e : i = xs.length := Nat.le_antisymm st.1 hg'
    subst e
    have hit := st.2
    rw [show (xs.length : Int) - 1 - (xs.length : Int) = -1 by omega] at hit
    exact wpAny_pyNext_rev_end (I.ok.hd hc) hit fun h' eb => ⟨rfl, I.turned (t' := s.toks) (fun b o hb e => eb b o (by simpa using hb) e) f0 f1 f3 f4 f5⟩
  self := fun A i s Q E st h => wpAny_pyIter_revIter st.2 h
section
variable {X : Cx} {tg : Expr}
theorem boot_reversed : bootBuiltins "reversed" = some (.type "reversed") := by decide +kernel
def iRev (K : PySem.W.Frag) (ta : TA) : TI := fun σ H R => ta σ H fun vs H1 => ∃ (a : Addr) (xs : List V), vs = [.ref a] ∧ SqL K H1 a xs ∧ R (Itv K a xs) H1
theorem pi_rev {a : Expr} {ta : TA} {p pos : Pos} (hg : Gl X "reversed") (hm : X.mg "reversed" = none) (ha : PA X [a] ta) (hs : starEach [a] X.env = [(false, eval a X.env)] := by rfl) :
    PI X tg (.Call (.Name "reversed" p) [a] [] pos) (iRev X.K ta) := by
  intro pins s σ H R I h
  refine Call_ (ld_blt I hg hm boot_reversed (PyProof.Rows.callWith_type1 (thn (ha pos pins s σ H _ I h) fun us s1 ⟨vs, H1, I1, r1, q1⟩ => ?_) hs rfl))
  obtain ⟨a, xs, e, hx, hR⟩ := q1
  subst e
  cases r1 with
  | cons r rr =>
    cases rr
    cases r
    obtain ⟨its, rx, pl, _⟩ := I1.list hx
    have lx := rx.length
    refine call_reversed_list pl.isList ?_
    have hit : (s1.heap.push (revObj a ((its.toArray.size : Int) - 1))).IsRevIter s1.heap.objs.size a ((xs.length : Int) - 1 - ((0 : Nat) : Int)) := ⟨_, Heap.get?_push_size _ rfl, rfl, by
      show Data.fields _ = _
      rw [show (its.toArray.size : Int) - 1 = (xs.length : Int) - 1 - ((0 : Nat) : Int) by simp only [List.size_toArray]; omega]⟩
    refine wpAny_pyIter_revIter hit ⟨_, [s1.heap.objs.size], _, _, H1, rfl, I1.kept (t' := s1.toks) (fun b o e => Heap.get?_push_of_some _ e), turn_rev a xs _, ⟨Nat.zero_le _, hit⟩, fun c hc => ?_, hR⟩
    have e : c = s1.heap.objs.size := by simpa using hc
    subst e
    exact I1.fpOk (Nat.le_refl _) (I1.hok.fresh (Nat.le_refl _))
end
/-- a loop over a list from behind -/
theorem for_rev {K : PySem.W.Frag} {a : Addr} {xs : List V} {g : TG} {tb : TS} {D : Ends} {σ : St} {H : Hp} (Pv : Nat → St → Hp → Prop) (h0 : Pv 0 σ H) (hl : ∀ i σ H, i < xs.length → Pv i σ H → SqL K H a xs)
    (hs : ∀ i x σ H, xs.reverse[i]? = some x → Pv i σ H → g x σ H fun σ2 H2 => tb { D with nx := Pv (i + 1), ct := Pv (i + 1), bk := D.nx } σ2 H2) (hd : ∀ σ H, Pv xs.length σ H → D.nx σ H) :
    ∃ W : Nat → Nat → St → Hp → Prop, (∃ m, W 0 m σ H) ∧ ∀ i m σ H, W i m σ H →
      ((Itv K a xs).stop i H ∧ D.nx σ H) ∨ ((Itv K a xs).go i H ∧ ∃ N : St → Hp → Prop, (∀ σ' H', N σ' H' → ∃ m', m' < m ∧ W (i + 1) m' σ' H') ∧ ∀ x H', (Itv K a xs).yld i H x H' → g x σ H' fun σ2 H2 => tb { D with nx := N, ct := N, bk := D.nx } σ2 H2) :=
  for_any xs.length Pv h0 (fun i σ H hi p => ⟨hl i σ H hi p, hi⟩) (fun σ H p => Nat.le_refl _) (fun i x σ H H' hi p y => by
    obtain ⟨e, y⟩ := y
    subst e
    exact hs i x σ _ y p) hd
end L2

set_option linter.all false
set_option maxHeartbeats 4000000
set_option maxRecDepth 100000
namespace PySem
open Sem (wp)
namespace F
theorem lk_list_keys : typeLookup (.type "list") "keys" = pure none := am_miss_of_fast (by kernel_rfl)
theorem lk_list_getattr : typeLookup (.type "list") "__getattr__" = pure none := am_miss_of_fast (by kernel_rfl)
theorem entry_update_loop : entryFor table "dict.update.loop" = some Builtin.«dict.update.loop» := entryFor_of_tree (by kernel_rfl)
theorem plain_update_loop : plainId "dict.update.loop" = true := by decide +kernel
end F
section
variable {prog : Program} {w : World} {A : Around} {E : Value → Shared → Prop}
theorem keys_entry {a : Addr} {items : Array Value} {n : Nat} {h : Heap} {g : Array GenState} {d : Drawn} {t : Nat} {os : OsState} {tk : Tok} {Q : Fin → Shared → Prop} (hx : h.get? a = some { cls := .type "list", data := .seq items n }) (hh : A.handled = none)
    (hq : ∀ h' tk' e, Heap.NewAttrErr h h' e (.ref a) "keys" → E (.ref e) ⟨h', g, d, tk', os⟩) :
    wpAny (model prog w) A (Builtin.«object.__getattribute__» ⟨[.ref a, .str "keys" tk], []⟩) Q E ⟨h, g, d, t, os⟩ := by
  have hT : (⟨h, g, d, t, os⟩ : Shared).TypeIs (.ref a) "list" := ⟨_, hx, rfl⟩
  have f4 := F.lk_list_keys
  have f5 := F.lk_list_getattr
  unfold Builtin.«object.__getattribute__»
  repeat (any_goals (first | assumption | wp_step))
  exact wpAny_raiseAttrError hh hq (attrMsg_fits (by decide +kernel) (by decide +kernel))
theorem keys_by {a : Addr} {items : Array Value} {n : Nat} {h : Heap} {g : Array GenState} {d : Drawn} {t : Nat} {os : OsState} {tk : Tok} {Q : Value → Shared → Prop} (hx : h.get? a = some { cls := .type "list", data := .seq items n }) (hh : A.handled = none)
    (hq : ∀ h' tk' e, Heap.NewAttrErr h h' e (.ref a) "keys" → E (.ref e) ⟨h', g, d, tk', os⟩) :
    wpAny (model prog w) A (getAttrBy (.ref a) (.str "keys" tk) false) Q E ⟨h, g, d, t, os⟩ := by
  have hT : (⟨h, g, d, t, os⟩ : Shared).TypeIs (.ref a) "list" := ⟨_, hx, rfl⟩
  have f1 := sub_AttributeError
  have f2 := F.slot_list_getattribute.lookup
  have f3 := F.slot_list_getattribute.bind (.ref a)
  have f5 := F.lk_list_getattr
  repeat (any_goals (first | assumption | wp_step))
  refine codeAny_call_builtin F.slot_list_getattribute.plain F.entry_list_ga (F.slot_list_getattribute.check _ _ _ _ _ _ _ _ hT (F.args_list_getattribute_2 _ _) (keys_entry hx hh fun h' tk' e x => ?_))
  obtain ⟨t', u', he⟩ := x.there
  show wpAny _ _ (getattributeRaised _ _ _ _ _ _ _) _ _ _
  unfold getattributeRaised
  repeat (any_goals (first | assumption | wp_step))
  exact hq _ _ _ x
theorem keys_none {s : Shared} {a : Addr} {items : Array Value} {n : Nat} {Q : Option Value → Shared → Prop} (hx : s.heap.get? a = some { cls := .type "list", data := .seq items n }) (hh : A.handled = none)
    (hq : ∀ h' tk, (∀ b ob, s.heap.get? b = some ob → h'.get? b = some ob) → Q none { s with heap := h', toks := tk }) : wpAny (model prog w) A (getAttr? (.ref a) "keys") Q E s := by
  obtain ⟨h, g, d, t, os⟩ := s
  have f1 := sub_AttributeError
  unfold getAttr? getAttrBy?
  refine wpAny_bind (wpAny_mkText (wpAny_bind (wpAny_attempt (keys_by hx hh fun h' tk' e x => ?_))))
  obtain ⟨t', u', he⟩ := x.there
  dsimp only
  refine wpAny_bind (wpAny_isInstance (T := "AttributeError") (b := true) ⟨_, he, rfl⟩ sub_AttributeError ?_)
  rw [if_pos rfl]
  exact wpAny_pure (hq _ _ x.keeps)
/-- the loop over pairs -/
theorem pairs_loop {K : Type} [DecidableEq K] {knd : KeyKind prog w K} (hh : A.handled = none) {d it l : Addr} {items : Array Value} (ps : List (K × Value)) (hn : items.size = ps.length) (hsz : ps.length ≤ 10000) (h1 : d ≠ it) (h2 : d ≠ l) (h3 : it ≠ l) {R : Result → Shared → Prop} :
    ∀ (m i : Nat) (s : Shared) (kvs : List (K × Value)), i + m = ps.length → kvs.length ≤ i → s.heap.IsListIter it l i → s.heap.IsList l items → s.heap.DictOf knd d kvs →
      (∀ (j : Nat) (p : K × Value), ps[j]? = some p → ∃ T key, items[j]? = some (.ref T) ∧ T ≠ d ∧ T ≠ it ∧ (∃ o n, s.heap.get? T = some o ∧ o.cls = .type "tuple" ∧ o.data = .seq #[key, p.2] n) ∧ knd.is p.1 key = true) →
      (∀ h' tk, h'.DictOf knd d (merged kvs (ps.drop i)) → (∀ b ob, b ≠ d → b ≠ it → s.heap.get? b = some ob → h'.get? b = some ob) → R (.ok (.ret .none)) { s with heap := h', toks := tk }) →
      codeAny (model prog w) A (.builtin "dict.update.loop" ⟨[.ref d, .ref it, rawInt (i : Int), .none], []⟩) R s := by
  intro m
  induction m with
  | zero =>
    intro i s kvs hi hk hit hl hd hp hR
    have ei : i = ps.length := by omega
    refine codeAny_builtin F.entry_update_loop ?_
    rw [Around.under_plainId F.plain_update_loop _]
    show wpAny _ A.in1 (pyNext (.ref it) >>= _) _ _ s
    refine wpAny_bind (wpAny_pyNext_list_end hh hit hl (by rw [Array.getElem?_eq_none (by omega)]) fun h' eb => ?_)
    show wpAny _ _ (Builtin.Dict.addKeywords d [] >>= fun _ => ret .none) _ _ _
    refine wpAny_bind (wpAny_pure (wpAny_pure ?_))
    refine hR h' s.toks ?_ fun b ob b1 b2 e => eb b ob b2 e
    rw [List.drop_eq_nil_of_le (by omega)]
    exact hd.extBut eb h1
  | succ m ih =>
    intro i s kvs hi hk hit hl hd hp hR
    have hlt : i < ps.length := by omega
    obtain ⟨T, key, hT, t1, t2, ⟨ot, nt, hg, hgc, hgd⟩, hkey⟩ := hp i ps[i] (List.getElem?_eq_getElem hlt)
    refine codeAny_builtin F.entry_update_loop ?_
    rw [Around.under_plainId F.plain_update_loop _]
    show wpAny _ A.in1 (pyNext (.ref it) >>= _) _ _ s
    refine wpAny_bind (wpAny_pyNext_list_item hit hl hT fun h' hit' sb => ?_)
    have hg' : h'.get? T = some ot := (sb.2 T t2).trans hg
    have hd' : h'.DictOf knd d kvs := hd.sameBut sb h1
    refine wpAny_bind (wpAny_holding (wpAny_bind ?_))
    refine wpAny_tryCatch ?_
    unfold Builtin.Dict.pairItems
    refine wpAny_bind (wpAny_typeOf (s := { s with heap := h' }) (T := "tuple") ⟨_, hg', hgc⟩ ?_)
    rw [if_pos (by decide)]
    refine wpAny_bind (wpAny_seqItems (s := { s with heap := h' }) hg' hgd (wpAny_pure ?_))
    show wpAny _ _ (holding [key, ps[i].2] (dictSet d key ps[i].2)) _ _ _
    refine wpAny_holding (wpAny_dictSet_pairs (s := { s with heap := h' }) hkey hd' (fun hz hd2 sb2 => ?_) (Nat.le_trans (show kvs.length ≤ 10000 by omega) (by decide)))
    refine wpAny_pure ⟨plainId_quiet F.plain_update_loop _, ?_⟩
    have ei : rawInt ((i : Int) + 1) = rawInt ((i + 1 : Nat) : Int) := by rw [Int.natCast_add]; rfl
    rw [ei]
    refine ih (i + 1) _ (stored kvs ps[i].1 ps[i].2) (by omega) ?_ ?_ ?_ hd2 ?_ ?_
    · unfold stored
      split
      · rw [List.length_map]; omega
      · rw [List.length_append]; simp; omega
    · exact hit'.at fun o e => (sb2.2 it h1.symm).trans e
    · exact hl.at fun o e => (sb2.2 l h2.symm).trans ((sb.2 l h3.symm).trans e)
    · intro j q hq
      obtain ⟨T', key', a1, a2, a3, ⟨o', n', a4, a6, a7⟩, a5⟩ := hp j q hq
      exact ⟨T', key', a1, a2, a3, ⟨o', n', (sb2.2 T' a2).trans ((sb.2 T' a3).trans a4), a6, a7⟩, a5⟩
    · intro h3' tk hd3 kp
      refine hR h3' tk ?_ fun b ob b1 b2 e => kp b ob b1 b2 ((sb2.2 b b1).trans ((sb.2 b b2).trans e))
      rw [List.drop_eq_getElem_cons hlt]
      exact hd3
/-- dict(list of pairs) -/
theorem call_dict_pairs {K : Type} [DecidableEq K] {knd : KeyKind prog w K} {s : Shared} (hh : A.handled = none) {l : Addr} {items : Array Value} {nl : Nat} (ps : List (K × Value)) (hn : items.size = ps.length) (hsz : ps.length ≤ 10000) {Q : Value → Shared → Prop}
    (hl : s.heap.get? l = some { cls := .type "list", data := .seq items nl })
    (hp : ∀ (j : Nat) (p : K × Value), ps[j]? = some p → ∃ T key, items[j]? = some (.ref T) ∧ (∃ o n, s.heap.get? T = some o ∧ o.cls = .type "tuple" ∧ o.data = .seq #[key, p.2] n) ∧ knd.is p.1 key = true)
    (hq : ∀ h' tk, h'.DictOf knd s.heap.objs.size (merged [] ps) → (∀ b ob, s.heap.get? b = some ob → h'.get? b = some ob) → Q (.ref s.heap.objs.size) { s with heap := h', toks := tk }) :
    wpAny (model prog w) A (call (.type "dict") [.ref l]) Q E s := by
  refine callType_codes (Q₁ := fun obj s₁ => obj = .ref s.heap.objs.size ∧ s₁ = { s with heap := s.heap.push { cls := .type "dict", data := .dict #[] } }) F.kt_called_dict (F.kt_typeCall_dict_1 _) F.entry_dict_init (kt_code_dict_new _ ⟨rfl, rfl⟩) ?_
  rintro obj s₁ ⟨rfl, rfl⟩
  have hnew : (s.heap.push { cls := .type "dict", data := .dict #[] }).DictOf knd s.heap.objs.size [] := Heap.DictOf.new s.heap
  have hl' : (s.heap.push { cls := .type "dict", data := .dict #[] }).get? l = some { cls := .type "list", data := .seq items nl } := Heap.get?_push_of_some _ hl
  have lt := Heap.lt_size hl
  refine ⟨hnew.typeIs, F.args_dict_init_2 _ _, ?_⟩
  unfold Builtin.«dict.__init__»
  refine wpAny_bind ?_
  unfold Builtin.Dict.selfAndRest
  refine wpAny_bind (wpAny_notOrdered_dict hnew.typeIs ?_)
  show wpAny _ _ (pure (s.heap.objs.size, [Value.ref l])) _ _ _
  refine wpAny_pure ?_
  show wpAny _ _ (Builtin.Dict.updateFrom "dict.__init__" s.heap.objs.size (.ref l) [] .none) _ _ _
  unfold Builtin.Dict.updateFrom
  refine wpAny_bind (wpAny_typeOf (T := "list") ⟨_, hl', rfl⟩ ?_)
  rw [if_pos (by decide)]
  refine wpAny_bind (keys_none (s := { s with heap := s.heap.push { cls := .type "dict", data := .dict #[] } }) hl' hh fun h1 tk1 kp1 => ?_)
  dsimp only [Option.isNone]
  rw [if_pos rfl]
  refine wpAny_bind (wpAny_rule ?_)
  have hl1 : h1.get? l = some { cls := .type "list", data := .seq items nl } := kp1 _ _ hl'
  have li : h1.IsList l items := ⟨_, hl1, rfl, _, rfl⟩
  refine wpAny_bind (wpAny_pyIter_list (s := { s with heap := h1, toks := tk1 }) li ?_)
  have sz1 : s.heap.objs.size < h1.objs.size := by
    obtain ⟨o, es, ep, ho, _⟩ := hnew
    exact Heap.lt_size (kp1 _ _ ho)
  have d1 : h1.DictOf knd s.heap.objs.size [] := by
    obtain ⟨o, es, ep, ho, r⟩ := hnew
    exact ⟨o, es, ep, kp1 _ _ ho, r⟩
  refine wpAny_pure ⟨plainId_quiet F.plain_update_loop _, pairs_loop (A := A.in1) (knd := knd) (l := l) (items := items) hh ps hn hsz (Nat.ne_of_lt sz1) (Nat.ne_of_gt lt) (Nat.ne_of_gt (Heap.lt_size hl1)) ps.length 0 _ [] (by omega) (Nat.le_refl _) ⟨_, Heap.get?_push_size _ rfl, rfl, rfl⟩ (li.push _) (d1.push _) (fun j p hj => ?_) (fun h' tk hd kp => ?_)⟩
  · obtain ⟨T, key, a1, ⟨o, n, a2, a4, a5⟩, a3⟩ := hp j p hj
    have ltT := Heap.lt_size a2
    exact ⟨T, key, a1, Nat.ne_of_lt ltT, Nat.ne_of_lt (Nat.lt_trans ltT sz1), ⟨o, n, Heap.get?_push_of_some _ (kp1 _ _ (Heap.get?_push_of_some _ a2)), a4, a5⟩, a3⟩
  · rw [List.drop_zero] at hd
    refine ⟨rfl, hq h' tk hd fun b ob e => ?_⟩
    have ltb := Heap.lt_size e
    exact kp b ob (Nat.ne_of_lt ltb) (Nat.ne_of_lt (Nat.lt_trans ltb sz1)) (Heap.get?_push_of_some _ (kp1 _ _ (Heap.get?_push_of_some _ e)))
end
end PySem

set_option linter.all false
set_option maxHeartbeats 4000000
set_option maxRecDepth 100000
namespace L2
open PySem PySem.W PySem.Spec PySem.Calls PyProof.Rows
/-- the pairs of a list of tuples -/
inductive PrsAt (H : Hp) : List Addr → List (Key × V) → Prop where
  | nil : PrsAt H [] []
  | cons {t : Addr} {ts : List Addr} {kv : Key × V} {kvs : List (Key × V)} (h : H t = some (.tup [kV kv.1, kv.2])) (r : PrsAt H ts kvs) : PrsAt H (t :: ts) (kv :: kvs)
theorem PrsAt.len {H : Hp} {ts : List Addr} {kvs : List (Key × V)} (h : PrsAt H ts kvs) : ts.length = kvs.length := by
  induction h with
  | nil => rfl
  | cons _ _ ih => rw [List.length_cons, List.length_cons, ih]
theorem PrsAt.same {H H' : Hp} {ts : List Addr} {kvs : List (Key × V)} (h : PrsAt H ts kvs) (s : ∀ b xs, H b = some (.tup xs) → H' b = some (.tup xs)) : PrsAt H' ts kvs := by
  induction h with
  | nil => exact .nil
  | cons e _ ih => exact .cons (s _ _ e) ih
theorem PrsAt.append {H : Hp} {ts ts' : List Addr} {kvs kvs' : List (Key × V)} (h : PrsAt H ts kvs) (g : PrsAt H ts' kvs') : PrsAt H (ts ++ ts') (kvs ++ kvs') := by
  induction h with
  | nil => exact g
  | cons e _ ih => exact .cons e ih
section
variable {X : Cx}
theorem prs_vals {P : Program} {w : World} {H : Hp} {h : Heap} (ok : HOk P w H h) : ∀ {ts : List Addr} {kvs : List (Key × V)}, PrsAt H ts kvs → ∃ ps : List (Key × Value), KV kvs ps ∧ ∀ (j : Nat) (p : Key × Value), ps[j]? = some p → ∃ T key, (ts.map fun t => Value.ref t)[j]? = some (.ref T) ∧ (∃ o n, h.get? T = some o ∧ o.cls = .type "tuple" ∧ o.data = .seq #[key, p.2] n) ∧ (mixKind P w).is p.1 key = true := by
  intro ts kvs x
  induction x with
  | nil => exact ⟨[], .nil, fun j p e => by cases e⟩
  | @cons t ts kv kvs e _ ih =>
    obtain ⟨ps, h1, h2⟩ := ih
    obtain ⟨z, its, r, o, e1, e2, n, e3⟩ := ok t _ e
    cases r with
    | cons r0 r =>
    cases r with
    | cons r1 r =>
    cases r
    refine ⟨(kv.1, _) :: ps, .cons ⟨rfl, r1⟩ h1, fun j p hj => ?_⟩
    cases j with
    | zero => cases hj; exact ⟨t, _, rfl, ⟨o, n, e1, e2, e3⟩, kV_is r0⟩
    | succ j => exact h2 j p (by simpa using hj)
/-- dict(list of pairs) -/
theorem call_dictP (hc : X.calm = true) : CallR X (.type "dict") (fun xs H Q => ∃ (l : Addr) (ts : List Addr) (kvs : List (Key × V)), xs = [V.ref l] ∧ H l = some (.lst (ts.map V.ref)) ∧ PrsAt H ts kvs ∧ kvs.length ≤ 1000 ∧ ∀ p, H p = none → Q (.ref p) (upd H p (.dK (mergeK [] kvs)))) := by
  intro pins s σ H xs us Q I r h
  obtain ⟨l, ts, kvs, rfl, hl, hp, hz, q⟩ := h
  obtain ⟨u, rfl, ru⟩ := vals1 r
  cases ru
  obtain ⟨z, its, n, rv, e⟩ := I.hok l _ hl
  obtain ⟨ps, rel, hps⟩ := prs_vals I.hok hp
  have eits : its = ts.map fun t => Value.ref t := by
    clear hp hps hl e z q
    have : ∀ {ts : List Addr} {its : List Value}, Vals (ts.map V.ref) its → its = ts.map fun t => Value.ref t := by
      intro ts
      induction ts with
      | nil => intro its h; cases h; rfl
      | cons t ts ih => intro its h; cases h with
        | cons a b => cases a; rw [ih b]; rfl
    exact this rv
  have lr := rel.length
  have lt := hp.len
  refine call_dict_pairs (knd := mixKind X.prog X.w) (I.ok.hd hc) ps (by rw [eits]; simp; omega) (by omega) e (fun j p hj => ?_) fun h' tk hd kp => ?_
  · obtain ⟨T, key, a1, a2, a3⟩ := hps j p hj
    exact ⟨T, key, by rw [eits]; simpa using a1, a2, a3⟩
  · refine ⟨.ref s.heap.objs.size, _, I.laid (a := s.heap.objs.size) (o := .dK (mergeK [] kvs)) (t' := tk) kp (Nat.le_refl _) (dk_new ?_ (beq_eq_false_iff_ne.mpr (Ne.symm (Nat.ne_of_lt I.big))) (KV.merge rel .nil) hd), rfl, q _ (I.hok.fresh (Nat.le_refl _))⟩
    exact Nat.le_trans (length_mergeK kvs []) (Nat.le_of_lt (small1000 (by simp; omega)))
/-- keys that are unlike: the pairs as they are -/
theorem mergeK_app : ∀ (more kvs : List (Key × V)), ((kvs ++ more).map (·.1)).Nodup → mergeK kvs more = kvs ++ more
  | [], kvs, _ => by show kvs = kvs ++ []; simp
  | kv :: more, kvs, h => by
    have h1 : valV kvs kv.1 = none := by
      cases e : valV kvs kv.1 with
      | none => rfl
      | some v =>
        exfalso
        have := valV_in e
        rw [List.map_append, List.nodup_append] at h
        exact h.2.2 _ this _ (List.mem_cons_self ..) rfl
    show mergeK (putK kvs kv.1 kv.2) more = _
    rw [putK_new _ h1, mergeK_app more (kvs ++ [(kv.1, kv.2)]) (by rw [List.append_assoc]; exact h), List.append_assoc]; rfl
theorem mergeK_nd {kvs : List (Key × V)} (h : (kvs.map (·.1)).Nodup) : mergeK [] kvs = kvs := mergeK_app kvs [] h
/-- d.clear() -/
theorem mt_clearD : MtM X "dict.clear" (fun x vs H Q => ∃ a kvs, x = .ref a ∧ vs = [] ∧ H a = some (.dK kvs) ∧ Q .non (upd H a (.dK []))) := by
  intro pins s σ H x vs v us Q I rx rv h
  obtain ⟨a, kvs, rfl, rfl, ha, q⟩ := h
  cases rx
  cases rv
  exact d_clear I ha fun s' I' => ⟨.non, _, I', rfl, q⟩
end
end L2

set_option linter.all false
set_option maxHeartbeats 4000000
set_option maxRecDepth 100000
namespace PySem
open PySem.W
theorem mxd_args (a d : Value) : argsOk "max" ⟨[a], [(Str.ofString "default", d)]⟩ := by unfold argsOk; kernel_rfl
section
variable {prog : Program} {w : World} {A : Around} {E : Value → Shared → Prop}
/-- the best so far -/
def MxSt (items : Array Value) (ns : List Int) (sl : Addr) (i : Nat) (h : Heap) : Prop :=
  ∃ c, (i = 0 ∧ h.get? sl = some { cls := .type "list", data := .seq #[] c }) ∨
    ∃ b vb, items[b]? = some vb ∧ b < i ∧ (∀ j, j < i → ns.getD j 0 ≤ ns.getD b 0) ∧ h.get? sl = some { cls := .type "list", data := .seq #[vb, vb] c }
theorem mxd_loop (hh : A.handled = none) {it l sl : Addr} {items : Array Value} (ns : List Int) (dv : Value) (hi : ∀ (j : Nat) (v : Value), items[j]? = some v → ∃ t, v = .int (ns.getD j 0) t) (hn : items.size = ns.length) (n1 : sl ≠ it) (n2 : sl ≠ l) (n3 : it ≠ l) {R : Result → Shared → Prop} :
    ∀ (m i : Nat) (s : Shared), i + m = ns.length → s.heap.IsListIter it l i → s.heap.IsList l items → MxSt items ns sl i s.heap →
      (∀ h', (∀ b o, b ≠ sl → b ≠ it → s.heap.get? b = some o → h'.get? b = some o) → (ns = [] → R (.ok (.ret dv)) { s with heap := h' }) ∧ (∀ b vb, items[b]? = some vb → (∀ j, j < ns.length → ns.getD j 0 ≤ ns.getD b 0) → R (.ok (.ret vb)) { s with heap := h' })) →
      codeAny (model prog w) A (.builtin "max.loop" ⟨[.ref it, .none, .ref sl], [(Str.ofString "default", dv)]⟩) R s := by
  have hcmp : CmpOf prog w A.in1 .Gt (fun i v => ∃ t, v = Value.int (ns.getD i 0) t) (fun i j => decide (ns.getD i 0 > ns.getD j 0)) := CmpOf.ints_gt (fun i => ns.getD i 0) fun i v e => e
  have enm : (toString "max" ++ toString ".loop" : String) = "max.loop" := by decide
  intro m
  induction m with
  | zero =>
    intro i s hm hit hl ⟨c, hS⟩ hR
    refine codeAny_builtin F.entry_max_loop ?_
    rw [Around.under_plainId F.plain_max_loop _]
    rcases hS with ⟨i0, hS⟩ | ⟨b, vb, hb, hbi, hbest, hS⟩
    · show wpAny _ A.in1 (seqItems? (.ref sl) >>= _) _ _ s
      refine wpAny_bind (wpAny_seqItems hS rfl ?_)
      show wpAny _ A.in1 (tryCatch (pyNext (.ref it)) _ >>= _) _ _ s
      refine wpAny_bind (wpAny_tryCatch (wpAny_pyNext_list_end hh hit hl (Array.getElem?_eq_none (by omega)) fun h' eb => ?_))
      refine wpAny_bind (wpAny_rule (wpAny_pure ?_))
      exact (hR h' fun b o _ b2 e => eb b o b2 e).1 (List.length_eq_zero_iff.mp (by omega))
    · show wpAny _ A.in1 (seqItems? (.ref sl) >>= _) _ _ s
      refine wpAny_bind (wpAny_seqItems hS rfl ?_)
      show wpAny _ A.in1 (tryCatch (pyNext (.ref it)) _ >>= _) _ _ s
      refine wpAny_bind (wpAny_tryCatch (wpAny_pyNext_list_end hh hit hl (Array.getElem?_eq_none (by omega)) fun h' eb => ?_))
      have hS' : h'.get? sl = some { cls := .type "list", data := .seq #[vb, vb] c } := eb _ _ n1 hS
      show wpAny _ A.in1 (updateSeq sl (fun _ => #[]) >>= _) _ _ _
      refine wpAny_bind ?_
      refine wpAny_updateSeq (hz := by show 2 ≤ sizeLine; decide) (_hz' := Nat.zero_le _) hS' rfl (wpAny_bind (wpAny_letGo (wpAny_pure ?_)))
      refine (hR _ fun b o b1 b2 e => (Heap.get?_update_other _ _ (Ne.symm b1)).trans (eb b o b2 e)).2 b vb hb fun j hj => hbest j (by omega)
  | succ m ih =>
    intro i s hm hit hl ⟨c, hS⟩ hR
    have hlt : i < items.size := by omega
    obtain ⟨v, hv⟩ : ∃ v, items[i]? = some v := ⟨_, Array.getElem?_eq_getElem hlt⟩
    refine codeAny_builtin F.entry_max_loop ?_
    rw [Around.under_plainId F.plain_max_loop _]
    rcases hS with ⟨i0, hS⟩ | ⟨b, vb, hb, hbi, hbest, hS⟩
    · show wpAny _ A.in1 (seqItems? (.ref sl) >>= _) _ _ s
      refine wpAny_bind (wpAny_seqItems hS rfl ?_)
      show wpAny _ A.in1 (tryCatch (pyNext (.ref it)) _ >>= _) _ _ s
      refine wpAny_bind (wpAny_tryCatch (wpAny_pyNext_list_item hit hl hv fun h' hit' sb => ?_))
      have hS' : h'.get? sl = some { cls := .type "list", data := .seq #[] c } := (sb.2 sl n1).trans hS
      show wpAny _ A.in1 (updateSeq sl (fun _ => #[v, v]) >>= _) _ _ _
      refine wpAny_bind ?_
      refine wpAny_updateSeq (hz := Nat.zero_le _) (_hz' := by show 2 ≤ sizeLine + 1; decide) hS' rfl ?_
      rw [enm]
      refine wpAny_pure ⟨plainId_quiet F.plain_max_loop _, ih (i + 1) _ (by omega) ?_ ?_ ⟨_, .inr ⟨i, v, hv, Nat.lt_succ_self _, fun j hj => ?_, Heap.get?_update_self _ hS' rfl⟩⟩ fun h2 kp => hR h2 fun b o b1 b2 e => kp b o b1 b2 ((Heap.get?_update_other _ _ (Ne.symm b1)).trans ((sb.2 b b2).trans e))⟩
      · exact hit'.at fun o e => (Heap.get?_update_other _ _ n1).trans e
      · exact hl.at fun o e => (Heap.get?_update_other _ _ n2).trans ((sb.2 l n3.symm).trans e)
      · have : j = i := by omega
        rw [this]; exact Int.le_refl _
    · show wpAny _ A.in1 (seqItems? (.ref sl) >>= _) _ _ s
      refine wpAny_bind (wpAny_seqItems hS rfl ?_)
      show wpAny _ A.in1 (tryCatch (pyNext (.ref it)) _ >>= _) _ _ s
      refine wpAny_bind (wpAny_tryCatch (wpAny_pyNext_list_item hit hl hv fun h' hit' sb => ?_))
      have hS' : h'.get? sl = some { cls := .type "list", data := .seq #[vb, vb] c } := (sb.2 sl n1).trans hS
      show wpAny _ A.in1 (tryCatch (holding [v, v] (richCompare .Gt v vb >>= _)) _ >>= _) _ _ { s with heap := h' }
      refine wpAny_bind (wpAny_tryCatch (wpAny_holding (wpAny_bind (hcmp i b v vb _ _ _ (hi i v hv) (hi b vb hb) ?_))))
      refine wpAny_bind (wpAny_holding (wpAny_truthy_bool ?_))
      refine wpAny_bind (wpAny_letGo (wpAny_pure ?_))
      by_cases hc : ns.getD i 0 > ns.getD b 0
      · rw [if_pos (show (fun i j => decide (ns.getD i 0 > ns.getD j 0)) i b = true from decide_eq_true hc)]
        refine wpAny_bind ?_
        refine wpAny_updateSeq (hz := by show 2 ≤ sizeLine; decide) (_hz' := by show 2 ≤ sizeLine + 1; decide) hS' rfl (wpAny_bind (wpAny_letGo ?_))
        rw [enm]
        refine wpAny_pure ⟨plainId_quiet F.plain_max_loop _, ih (i + 1) _ (by omega) ?_ ?_ ⟨_, .inr ⟨i, v, hv, Nat.lt_succ_self _, fun j hj => ?_, Heap.get?_update_self _ hS' rfl⟩⟩ fun h2 kp => hR h2 fun b o b1 b2 e => kp b o b1 b2 ((Heap.get?_update_other _ _ (Ne.symm b1)).trans ((sb.2 b b2).trans e))⟩
        · exact hit'.at fun o e => (Heap.get?_update_other _ _ n1).trans e
        · exact hl.at fun o e => (Heap.get?_update_other _ _ n2).trans ((sb.2 l n3.symm).trans e)
        · rcases Nat.lt_or_ge j i with h | h
          · have := hbest j h; omega
          · have : j = i := by omega
            rw [this]; exact Int.le_refl _
      · rw [if_neg (show ¬ (fun i j => decide (ns.getD i 0 > ns.getD j 0)) i b = true from fun z => hc (of_decide_eq_true z))]
        refine wpAny_bind (wpAny_letGo ?_)
        rw [enm]
        refine wpAny_pure ⟨plainId_quiet F.plain_max_loop _, ih (i + 1) _ (by omega) hit' (hl.at fun o e => (sb.2 l n3.symm).trans e) ⟨c, .inr ⟨b, vb, hb, by omega, fun j hj => ?_, hS'⟩⟩ fun h2 kp => hR h2 fun b o b1 b2 e => kp b o b1 b2 ((sb.2 b b2).trans e)⟩
        rcases Nat.lt_or_ge j i with h | h
        · exact hbest j h
        · have : j = i := by omega
          rw [this]; omega
theorem call_max_default (hh : A.handled = none) {s : Shared} {l : Addr} {items : Array Value} (ns : List Int) (dv : Value) (hi : ∀ (j : Nat) (v : Value), items[j]? = some v → ∃ t, v = .int (ns.getD j 0) t) (hn : items.size = ns.length) (hl : s.heap.IsList l items) {Q : Value → Shared → Prop}
    (hq : ∀ h', (∀ b o, s.heap.get? b = some o → h'.get? b = some o) → (ns = [] → Q dv { s with heap := h' }) ∧ (∀ b vb, items[b]? = some vb → (∀ j, j < ns.length → ns.getD j 0 ≤ ns.getD b 0) → Q vb { s with heap := h' })) :
    wpAny (model prog w) A (call (.builtin "max") [.ref l] [(Str.ofString "default", dv)]) Q E s := by
  have enm : (toString "max" ++ toString ".loop" : String) = "max.loop" := by decide
  obtain ⟨ol, hol, _⟩ := id hl
  have lt := Heap.lt_size hol
  refine PyProof.Rows.kmb_tree PySem.F.kind_max PySem.F.plain_max PySem.F.entry_max (mxd_args _ _) ?_
  show wpAny _ A.in1 (Builtin.Builtins.bindParams "max" ["key", "default"] 0 ⟨[], [(Str.ofString "default", dv)]⟩ >>= _) _ _ s
  refine wpAny_bind (wpAny_of_eq (show Builtin.Builtins.bindParams "max" ["key", "default"] 0 ⟨[], [(Str.ofString "default", dv)]⟩ = pure [none, some dv] from rfl) ?_)
  refine wpAny_bind (wpAny_pure (wpAny_bind (wpAny_pyIter_list hl ?_)))
  refine wpAny_bind (wpAny_newList ?_ (Nat.zero_le _))
  rw [enm]
  have es : (s.heap.push { cls := .type "list_iterator", data := .fields #[.ref l, .int 0 0] }).objs.size = s.heap.objs.size + 1 := Heap.size_push ..
  refine wpAny_pure ⟨plainId_quiet F.plain_max_loop _, mxd_loop (items := items) (l := l) hh ns dv hi hn ?_ ?_ (Nat.ne_of_gt lt) ns.length 0 _ (by omega) ⟨_, Heap.get?_push_of_some _ (Heap.get?_push_size _ rfl), rfl, rfl⟩ ((hl.push _).push _) ⟨_, .inl ⟨rfl, Heap.get?_push_size _ rfl⟩⟩ fun h' kp => ?_⟩
  · rw [es]; exact Nat.succ_ne_self _
  · rw [es]; exact Nat.ne_of_gt (Nat.lt_succ_of_lt lt)
  · refine hq h' fun b o e => ?_
    have lb := Heap.lt_size e
    exact kp b o (by rw [es]; exact Nat.ne_of_lt (Nat.lt_succ_of_lt lb)) (Nat.ne_of_lt lb) (Heap.get?_push_of_some _ (Heap.get?_push_of_some _ e))
end
end PySem

set_option linter.all false
set_option maxHeartbeats 4000000
set_option maxRecDepth 100000
namespace L2
open PySem PySem.Spec PySem.Calls PyProof.Rows
section
variable {X : Cx}
theorem boot_max : bootBuiltins "max" = some (.builtin "max") := by decide +kernel
/-- max(numbers, default=a number) -/
def tMaxD (K : PySem.W.Frag) (te td : TE) : TE := fun σ H Q => tCons te tNil σ H fun vs H1 => td σ H1 fun y H2 => ∃ (l : Addr) (ns : List Int), vs = [.ref l] ∧ SqL K H2 l (ns.map V.int) ∧ (ns = [] → Q y H2) ∧ (∀ M, M ∈ ns → (∀ a ∈ ns, a ≤ M) → Q (.int M) H2)
theorem pe_maxD {e d : Expr} {te td : TE} {p pos kpos : Pos} (hg : Gl X "max") (hm : X.mg "max" = none) (he : PE X e te) (hd : PE X d td) (hc : X.calm = true := by rfl) (hs : starEach [e] X.env = (false, eval e X.env) :: starEach [] X.env := by rfl) :
    PE X (.Call (.Name "max" p) [e] [⟨some "default", d, kpos⟩] pos) (tMaxD X.K te td) := by
  intro pins s σ H Q I h
  refine wpAny_Call_Name_kw (ld_blt I hg hm boot_max ?_)
  have pA : PA X [e] (tCons te tNil) := pa_cons he pa_nil hs
  refine callWith_kw (he := by rw [hs]; rfl) (hplain := by rw [hs]; rfl) (thn (pA pos pins s σ H _ I h) fun us s1 q1 => ?_)
  obtain ⟨vs, H1, I1, r1, q⟩ := q1
  show wpAny _ _ (evalAll [do let v ← eval d X.env; standAt pos; pure v]) _ _ s1
  refine wpAny_evalAll_cons (wpAny_bind (thn (hd pins s1 σ H1 _ I1 q) fun vd s2 ⟨y, H2, I2, ry, l, ns, ex, hl, q0, q1⟩ => wpAny_bind (wpAny_standAt (wpAny_pure ?_))))
  refine wpAny_evalAll_nil ?_
  subst ex
  obtain ⟨ux, rfl, rx⟩ := vals1 r1
  cases rx
  show wpAny _ _ (call (.builtin "max") [.ref l] [(Str.ofString "default", vd)]) _ _ s2
  obtain ⟨its, rv, pl, _⟩ := I2.list hl
  have hi := intsAre_of rv
  have hlen : its.length = ns.length := hi.length
  refine call_max_default (I2.ok.hd hc) ns vd (fun j v e => ints_val hi (by simpa using e)) (by simpa using hlen) pl.isList fun h' kp => ⟨fun e0 => ?_, fun b vb hb hbest => ?_⟩
  · exact ⟨y, H2, I2.kept (t' := s2.toks) kp, ry, q0 e0⟩
  · obtain ⟨t, rfl⟩ := ints_val hi (i := b) (v := vb) (by simpa using hb)
    have hb' : b < ns.length := by have := (List.getElem?_eq_some_iff.mp (show its[b]? = some _ by simpa using hb)).1; omega
    refine ⟨.int (ns.getD b 0), H2, I2.kept (t' := s2.toks) kp, ⟨_, rfl⟩, q1 _ ?_ fun a ha => ?_⟩
    · rw [List.getD_eq_getElem?_getD, List.getElem?_eq_getElem hb']; exact List.getElem_mem hb'
    · obtain ⟨j, hj, rfl⟩ := List.mem_iff_getElem.mp ha
      have := hbest j hj
      rwa [List.getD_eq_getElem?_getD, List.getElem?_eq_getElem hj] at this
end
end L2

set_option linter.all false
set_option maxHeartbeats 4000000
set_option maxRecDepth 100000
namespace L2
open PySem PySem.Spec PySem.Calls PyProof.Rows
section
variable {X : Cx} {pins : List (Addr × Obj)} {σ : St} {H : Hp} {s : Shared} {d : Addr} {kvs : List (Key × V)} {o : Obj}
/-- a dict is held as it is while it is walked -/
theorem Inv.freeze (I : Inv X pins σ H s) (e : H d = some (.dK kvs)) : ∃ o, s.heap.get? d = some o ∧ Inv X pins σ (upd H d (.frz o (.dK kvs))) s := by
  obtain ⟨z, hd, vs, rel, dd⟩ := dk_of I.hok e
  obtain ⟨o, es, ep, ho, _⟩ := id dd
  exact ⟨o, ho, d_write (t' := s.toks) I (by rw [e]; exact True.intro) (Heap.SameBut.refl _ _) ⟨o, ho⟩ ⟨ho, dk_new z hd rel dd⟩⟩
/-- and let go again -/
theorem Inv.thaw (I : Inv X pins σ H s) (e : H d = some (.frz o (.dK kvs))) (hx : ∀ o u, X.H₀ d ≠ some (.frz o u)) : Inv X pins σ (upd H d (.dK kvs)) s := by
  have nn : ∀ b, H b = none → b ≠ d := fun b h z => by rw [z, e] at h; cases h
  refine ⟨I.ok, I.os, I.bare, ⟨I.base.keep, I.base.slot, fun b q h1 h2 h3 => ?_, I.base.there, fun b xs h1 => ?_, fun b q u h1 => ?_, fun b ps h1 => ?_⟩, I.loc, I.cell, ?_, fun x c h1 => ?_, fun p hp => ?_, fun b u h1 => ?_, I.len⟩
  · have h := I.base.free b q h1 h2 h3
    rw [upd_ne (nn b h)]; exact h
  · have h := I.base.tups b xs h1
    rw [upd_ne fun z => by rw [z, e] at h; cases h]; exact h
  · have h := I.base.frzs b q u h1
    rw [upd_ne fun z => hx q u (by rw [← z]; exact h1)]; exact h
  · obtain ⟨more, h⟩ := I.base.tbls b ps h1
    exact ⟨more, by rw [upd_ne fun z => by rw [z, e] at h; cases h]; exact h⟩
  · rw [upd_ne (nn _ I.free)]; exact I.free
  · rw [upd_ne (nn _ (I.freeC x c h1))]; exact I.freeC x c h1
  · obtain ⟨a1, a2, a3⟩ := I.pin p hp
    exact ⟨a1, by rw [upd_ne (nn _ a2)]; exact a2, a3⟩
  · have own : ∀ b c, H b = some (.own c) → upd H d (.dK kvs) b = some (.own c) := fun b c h => by rw [upd_ne fun z => by rw [z, e] at h; cases h]; exact h
    have tup : ∀ b xs, H b = some (.tup xs) → upd H d (.dK kvs) b = some (.tup xs) := fun b xs h => by rw [upd_ne fun z => by rw [z, e] at h; cases h]; exact h
    by_cases hb : b = d
    · subst hb
      rw [upd_same] at h1
      cases h1
      exact ObjOk.stay (I.hok b _ e).2 (fun _ _ _ q => q) (fun c h => own c _ h) tup
    · rw [upd_ne hb] at h1
      exact ObjOk.stay (I.hok b u h1) (fun _ _ _ q => q) (fun c h => own c _ h) tup
/-- an expression behind which a walked dict is let go -/
def tThaw (H0 : Hp) (t : TE) : TE := fun σ H Q => t σ H fun v H' => ∃ d o kvs, H' d = some (.frz o (.dK kvs)) ∧ (∀ o u, H0 d ≠ some (.frz o u)) ∧ Q v (upd H' d (.dK kvs))
theorem pe_thaw {e : Expr} {t : TE} (h : PE X e t) : PE X e (tThaw X.H₀ t) := fun pins s σ H Q I hw =>
  thn (h pins s σ H _ I hw) fun v s1 ⟨x, H1, I1, r1, d, o, kvs, e1, hx, q⟩ => ⟨x, _, I1.thaw e1 hx, r1, q⟩
theorem kV_rel {P : Program} {w : World} {k : Key} {u : Value} (h : (mixKind P w).is k u = true) : RelV (kV k) u := by
  rcases keyIs_shape (k := k) (v := u) h with ⟨i, t, rfl, rfl⟩ | ⟨x, t, rfl, rfl⟩
  · exact ⟨t, rfl⟩
  · exact ⟨t, rfl⟩
theorem KV.get {κ : Type} {kvs : List (κ × V)} {vs : List (κ × Value)} (r : KV kvs vs) : ∀ {i : Nat} {kv : κ × V}, kvs[i]? = some kv → ∃ u, vs[i]? = some (kv.1, u) ∧ RelV kv.2 u := by
  induction r with
  | nil => intro i kv h; cases h
  | @cons p q l m h _ ih =>
    intro i kv e
    cases i with
    | zero =>
      cases e
      obtain ⟨a, b⟩ := q
      obtain ⟨h1, h2⟩ := h
      exact ⟨b, by rw [h1]; rfl, h2⟩
    | succ i => exact ih (by simpa using e)
end
/-- the keys of a dict, walked -/
def Itk (d : Addr) (o : Obj) (kvs : List (Key × V)) : It :=
  ⟨fun i H => H d = some (.frz o (.dK kvs)) ∧ i < kvs.length, fun i H v H' => H' = H ∧ ∃ kv, kvs[i]? = some kv ∧ v = kV kv.1, fun i H => H d = some (.frz o (.dK kvs)) ∧ kvs.length ≤ i⟩
theorem frz_at {P : Program} {w : World} {H : Hp} {h : Heap} {d : Addr} {o : Obj} {kvs : List (Key × V)} (ok : HOk P w H h) (e : H d = some (.frz o (.dK kvs))) {es : Array DictEntry} {ep : Nat} (he : o.data = .dict es ep) :
    (d == sysModules) = false ∧ ∃ vs, KV kvs vs ∧ h.DictAt (mixKind P w) d vs ep := by
  obtain ⟨e1, z, hd, vs, rel, o', es', ep', ho, hc, hdat, r⟩ := ok d _ e
  rw [e1] at ho
  cases ho
  rw [he] at hdat
  cases hdat
  exact ⟨hd, vs, rel, o, es, e1, hc, he, r⟩
theorem turn_keys {P : Program} {w : World} {K : PySem.W.Frag} {tg : Expr} (d : Addr) (o : Obj) (kvs : List (Key × V)) (it : Addr) {es : Array DictEntry} {ep : Nat} (he : o.data = .dict es ep) (hne : d ≠ it) : Turn P w K tg (Itk d o kvs) [it] it (fun i h => i ≤ kvs.length ∧ h.IsKeyIter it d i kvs.length ep) where
  mem := by simp
  obj := fun i h st b hb => by
    have e : b = it := by simpa using hb
    subst e
    obtain ⟨_, q, e1, c, dd⟩ := st
    exact ⟨q, e1, fun v z => by rw [dd] at z; cases z⟩
  keep := fun i h h' st k => ⟨st.1, st.2.at fun q e => k it (by simp) q e⟩
  item := by
    intro X hP hw hK hc i pins s σ H E I hf st hg
    subst hP hw hK
    obtain ⟨hd, hi⟩ := hg
    obtain ⟨f0, f1, f2, f3, f4, f5⟩ := hf it (by simp)
    obtain ⟨_, vs, rel, da⟩ := frz_at I.hok hd he
    have hl := rel.length
    obtain ⟨u, hu, ru⟩ := rel.get (List.getElem?_eq_getElem hi)
    have st2 := st.2
    rw [hl] at st2
    refine wpAny_pyNext_dict_item st2 da hu fun key h' hkey hit' sb => ?_
    rw [← hl] at hit'
    have I1 : Inv X pins σ H { s with heap := h', toks := s.toks } := I.turned (t' := s.toks) (fun b q hb e => sb.extBut b q (by simpa using hb) e) f0 f1 f3 f4 f5
    obtain ⟨q, eq, cl, dd⟩ := id hit'
    exact ⟨_, rfl, go_of (s := { s with heap := h' }) eq cl dd (by decide) ⟨_, H, I1, kV_rel hkey, ⟨rfl, _, List.getElem?_eq_getElem hi, rfl⟩, ⟨hi, hit'⟩, fun b hb => (hf b hb).1⟩⟩
  done := by
    intro X hP hw hK hc i pins s σ H E I hf st hg
    subst hP hw hK
    obtain ⟨hd, hge⟩ := hg
    obtain ⟨f0, f1, f2, f3, f4, f5⟩ := hf it (by simp)
    have e : i = kvs.length := Nat.le_antisymm st.1 hge
    subst e
    obtain ⟨_, vs, rel, da⟩ := frz_at I.hok hd he
    have st2 := st.2
    rw [rel.length] at st2
    exact wpAny_pyNext_dict_end (I.ok.hd hc) st2 da (by simp) fun h' eb => ⟨rfl, I.turned (t' := s.toks) (fun b q hb e => eb b q (by simpa using hb) e) f0 f1 f3 f4 f5⟩
  self := fun A i s Q E st h => wpAny_pyIter_keyiter st.2 h
section
variable {X : Cx} {tg : Expr}
def iKeys (tl : TE) : TI := fun σ H R => tl σ H fun x H1 => ∃ d kvs, x = .ref d ∧ H1 d = some (.dK kvs) ∧ ∀ o, R (Itk d o kvs) (upd H1 d (.frz o (.dK kvs)))
theorem pi_keys {l : Expr} {tl : TE} (hl : PE X l tl) : PI X tg l (iKeys tl) := by
  intro pins s σ H R I h
  refine thn (hl pins s σ H _ I h) fun v s1 ⟨x, H1, I1, r1, d, kvs, ex, hd, q⟩ => ?_
  subst ex
  cases r1
  obtain ⟨o, ho, I2⟩ := I1.freeze hd
  obtain ⟨z, hsd, vs, rel, dd⟩ := dk_of I1.hok hd
  obtain ⟨o', es, ep, ho', hc, he, r⟩ := dd
  rw [ho] at ho'
  cases ho'
  refine wpAny_pyIter_dict (knd := mixKind X.prog X.w) (kvs := vs) (ep := ep) hsd ⟨o, es, ho, hc, he, r⟩ ?_
  have lt := Heap.lt_size ho
  refine ⟨s1.heap.objs.size, [s1.heap.objs.size], _, _, _, rfl, I2.kept (t' := s1.toks) fun b q e => Heap.get?_push_of_some _ e, turn_keys d o kvs _ he (Nat.ne_of_lt lt), ⟨Nat.zero_le _, ⟨_, Heap.get?_push_size _ rfl, rfl, by rw [rel.length]; rfl⟩⟩, fun b hb => ?_, q o⟩
  have e : b = s1.heap.objs.size := by simpa using hb
  subst e
  exact I2.fpOk (Nat.le_refl _) (I2.hok.fresh (Nat.le_refl _))
end
section
variable {y : Str} {cap : List Nat} {tt : TT} {te : TE} {σ : St} {Z : List V → Hp → Prop} {H1 : Hp} {d : Addr} {o : Obj} {kvs : List (Key × V)}
theorem blk_keys (Pv : Nat → List V → Hp → Prop) (h0 : Pv 0 [] H1) (hS : ∀ i acc H, Pv i acc H → H d = some (.frz o (.dK kvs))) (hz : ∀ i acc H, Pv i acc H → acc.length < sizeLine)
    (step : ∀ i kv acc H (R : List V → Hp → Prop), (∀ acc' H', Pv (i + 1) acc' H' → R acc' H') → kvs[i]? = some kv → Pv i acc H → tt ((capS [y] cap σ).set 0 (some (kV kv.1))) H fun b H5 => if b = true then te ((capS [y] cap σ).set 0 (some (kV kv.1))) H5 fun v H6 => R (acc ++ [v]) H6 else R acc H5)
    (hd : ∀ acc H, Pv kvs.length acc H → Z acc H) : tBlk [y] cap (gName 0) tt te σ Z (Itk d o kvs) H1 := by
  refine ⟨fun i m acc H => m = kvs.length - i ∧ i ≤ kvs.length ∧ Pv i acc H, ⟨_, rfl, Nat.zero_le _, h0⟩, ?_⟩
  rintro i m acc H ⟨rfl, hi, p⟩
  refine ⟨hz i acc H p, ?_⟩
  have q := hS i acc H p
  rcases Nat.lt_or_ge i kvs.length with hlt | hge
  · refine .inr ⟨⟨q, hlt⟩, fun x H3 yl => ?_⟩
    obtain ⟨e, kv, ek, ex⟩ := yl
    subst e ex
    exact ⟨wk_one y cap σ _, step i kv acc H3 (fun acc' H' => ∃ m', m' < kvs.length - i ∧ m' = kvs.length - (i + 1) ∧ i + 1 ≤ kvs.length ∧ Pv (i + 1) acc' H') (fun acc' H' p' => ⟨_, by omega, rfl, hlt, p'⟩) ek p⟩
  · have e : i = kvs.length := by omega
    subst e
    exact .inl ⟨⟨q, Nat.le_refl _⟩, hd acc H p⟩
end
end L2

set_option linter.all false
set_option maxHeartbeats 4000000
set_option maxRecDepth 100000
namespace PySem
theorem ent_itit : entryFor table "dict_itemiterator.__iter__" = some Builtin.«dict_keyiterator.__iter__» :=
  entryFor_alias (id' := "dict_keyiterator.__iter__") (by kernel_rfl) (by first | rfl | decide +kernel) (by decide +kernel) (by kernel_rfl)
theorem iter_itit {prog : Program} {w : World} {A : Around} {E : Value → Shared → Prop} {s : Shared} {it d : Addr} {i n ep : Nat} {ok ov : Value} {Q : Value → Shared → Prop} (hit : IsItemIter s.heap it d i n ep ok ov) (h : Q (.ref it) s) : wpAny (model prog w) A (pyIter (.ref it)) Q E s := by
  have hT : s.TypeIs (.ref it) "dict_itemiterator" := ⟨_, hit, rfl⟩
  refine wpAny_pyIter_slot hT F.slot_dict_itemiterator_iter (wpAny_call_entry F.slot_dict_itemiterator_iter hT ent_itit ?_ (F.args_dict_itemiterator_iter_1 _))
  show wpAny _ _ (ret (.ref it)) _ _ s
  exact wpAny_pure ⟨_, rfl, "dict_itemiterator", _, hT, F.slot_dict_itemiterator_next.lookup, h⟩
end PySem
namespace L2
open PySem PySem.Spec PySem.Calls PyProof.Rows
/-- the pairs of a dict, walked -/
def Iti (d : Addr) (o : Obj) (kvs : List (Key × V)) : It :=
  ⟨fun i H => H d = some (.frz o (.dK kvs)) ∧ i < kvs.length, fun i H v H' => ∃ T kv, v = .ref T ∧ H T = none ∧ H' = upd H T (.tup [kV kv.1, kv.2]) ∧ kvs[i]? = some kv, fun i H => H d = some (.frz o (.dK kvs)) ∧ kvs.length ≤ i⟩
theorem turn_items {P : Program} {w : World} {K : PySem.W.Frag} {ts : List Expr} {kk : Nat} {tp : Pos} (d : Addr) (o : Obj) (kvs : List (Key × V)) (it : Addr) {es : Array DictEntry} {ep : Nat} (he : o.data = .dict es ep) (hne : d ≠ it) :
    Turn P w K (.Tuple ts kk tp) (Iti d o kvs) [it] it (fun i h => i ≤ kvs.length ∧ ∃ ok ov, IsItemIter h it d i kvs.length ep ok ov) where
  mem := by simp
  obj := fun i h st b hb => by
    have e : b = it := by simpa using hb
    subst e
    obtain ⟨_, ok, ov, e1⟩ := st
    exact ⟨_, e1, fun v z => by cases z⟩
  keep := fun i h h' st k => let ⟨h1, ok, ov, e1⟩ := st; ⟨h1, ok, ov, k it (by simp) _ e1⟩
  item := by
    intro X hP hw hK hc i pins s σ H E I hf st hg
    subst hP hw hK
    obtain ⟨hd, hi⟩ := hg
    obtain ⟨_, ok, ov, e1⟩ := st
    obtain ⟨_, vs, rel, da⟩ := frz_at I.hok hd he
    have hl := rel.length
    obtain ⟨u, hu, ru⟩ := rel.get (List.getElem?_eq_getElem hi)
    rw [hl] at e1
    refine wpAny_pyNext_items_item e1 da hu fun key h' hkey out tu sz kp => ?_
    refine ⟨_, rfl, wpAny_letOwnedTupleGo_items (s := { s with heap := h' }) out fun h2 z2 sb => ?_⟩
    rw [← hl] at z2
    have le : it < s.heap.objs.size := Heap.lt_size e1
    have kp2 : ∀ b q, b ∉ [it] → s.heap.get? b = some q → h2.get? b = some q := fun b q hb e => by
      have nb : b ≠ it := by simpa using hb
      exact (sb.2 b nb).trans (kp b q nb e)
    have t2 : h2.get? s.heap.objs.size = some { cls := .type "tuple", data := .seq #[key, u] } := (sb.2 _ (Nat.ne_of_gt le)).trans tu
    have fT : H s.heap.objs.size = none := I.hok.fresh (Nat.le_refl _)
    have IN : Inv X pins σ (upd H s.heap.objs.size (.tup [kV kvs[i].1, kvs[i].2])) { s with heap := h2, toks := s.toks } := I.turnedT (t' := s.toks) (ch := [it]) kp2 hf (Nat.le_refl _)
      ⟨Nat.le_of_lt (small1000 (by show 2 ≤ 1000; decide)), [key, u], .cons (kV_rel hkey) (.cons ru .nil), _, t2, rfl, _, rfl⟩
    refine ⟨.ref s.heap.objs.size, _, IN, rfl, ⟨_, kvs[i], rfl, fT, rfl, List.getElem?_eq_getElem hi⟩, ⟨hi, _, _, z2⟩, fun b hb => ?_⟩
    have e : b = it := by simpa using hb
    subst e
    rw [upd_ne (Nat.ne_of_lt le)]; exact (hf b hb).1
  done := by
    intro X hP hw hK hc i pins s σ H E I hf st hg
    subst hP hw hK
    obtain ⟨hd, hge⟩ := hg
    obtain ⟨h1, ok, ov, e1⟩ := st
    obtain ⟨f0, f1, f2, f3, f4, f5⟩ := hf it (by simp)
    have e : i = kvs.length := Nat.le_antisymm h1 hge
    subst e
    obtain ⟨_, vs, rel, da⟩ := frz_at I.hok hd he
    rw [rel.length] at e1
    exact wpAny_pyNext_items_end (I.ok.hd hc) e1 da (by simp) fun h' eb => ⟨rfl, I.turned (t' := s.toks) (fun b q hb e => eb b q (by simpa using hb) e) f0 f1 f3 f4 f5⟩
  self := fun A i s Q E st h => let ⟨_, ok, ov, e1⟩ := st; iter_itit e1 h
section
variable {X : Cx}
def iItems (tl : TE) : TI := fun σ H R => tl σ H fun x H1 => ∃ d kvs, x = .ref d ∧ H1 d = some (.dK kvs) ∧ ∀ o, R (Iti d o kvs) (upd H1 d (.frz o (.dK kvs)))
theorem pi_items {l : Expr} {tl : TE} {ts : List Expr} {kk : Nat} {tp apos cpos : Pos} (hl : PE X l tl)
    (hbase : attributeBase l "items" X.env (eval l X.env) = eval l X.env := by rfl) (hline : (apos.endLine == cpos.line) = true := by rfl) : PI X (.Tuple ts kk tp) (.Call (.Attribute l "items" apos) [] [] cpos) (iItems tl) := by
  intro pins s σ H R I h
  refine wpAny_Call_method0_late hbase hline (thn (hl pins s σ H _ I h) fun v s1 ⟨x, H1, I1, r1, d, kvs, ex, hd, q⟩ => ?_)
  subst ex
  cases r1
  obtain ⟨o, ho, I2⟩ := I1.freeze hd
  obtain ⟨z, hsd, vs, rel, dd⟩ := dk_of I1.hok hd
  obtain ⟨o', es, ep, ho', hc, he, r⟩ := id dd
  rw [ho] at ho'
  cases ho'
  have lt := Heap.lt_size ho
  refine ⟨"dict", "dict.items", PySem.F.plainAttrs_dict, PySem.F.slot_dict_items, PySem.F.type_dict_items, dd.typeIs, fun a e => ?_, Calls.callWith_builtin rfl (PySem.evalArgs_none ?_)⟩
  · cases e
    exact ⟨o, ho, hc.2.1⟩
  refine call_meetsIn PySem.F.slot_dict_items dd.typeIs PySem.F.entry_dict_items (PySem.F.args_dict_items_1 _) (meets_dict_items (mixKind X.prog X.w) d hsd) ⟨⟨vs, dd⟩, ?_⟩
  refine wpAny_pyIter_items (knd := mixKind X.prog X.w) (kvs := vs) (ep := ep) (s := { s1 with heap := s1.heap.push { cls := .type "dict_items", data := .fields #[.ref d] } }) ⟨_, Heap.get?_push_size _ rfl, rfl, rfl⟩ ⟨o, es, Heap.get?_push_of_some _ ho, hc, he, r⟩ ?_
  have sz : (s1.heap.push { cls := .type "dict_items", data := .fields #[.ref d] }).objs.size = s1.heap.objs.size + 1 := Heap.size_push ..
  refine ⟨_, [(s1.heap.push { cls := .type "dict_items", data := .fields #[.ref d] }).objs.size], _, _, _, rfl, I2.kept (t' := s1.toks) fun b q e => Heap.get?_push_of_some _ (Heap.get?_push_of_some _ e), turn_items d o kvs _ he ?_, ⟨Nat.zero_le _, .none, .none, ?_⟩, fun b hb => ?_, q o⟩
  · rw [sz]; exact Nat.ne_of_lt (Nat.lt_succ_of_lt lt)
  · show Heap.get? _ _ = _
    rw [rel.length]; exact Heap.get?_push_size _ rfl
  · have e : b = (s1.heap.push { cls := .type "dict_items", data := .fields #[.ref d] }).objs.size := by simpa using hb
    have ge : s1.heap.objs.size ≤ b := by rw [e, sz]; exact Nat.le_succ _
    exact I2.fpOk ge (I2.hok.fresh ge)
end
end L2

set_option linter.all false
set_option maxHeartbeats 4000000
set_option maxRecDepth 100000
namespace PySem.W
open PySem PySem.Calls PyProof.Rows PyProof.V PySem.Spec
section
variable {prog : Program} {w : World} {K : Type} [DecidableEq K] {knd : KeyKind prog w K} {A : Around} {E : Value → Shared → Prop} {s : Shared}
/-- these two are alike, here -/
def EqW (prog : Program) (w : World) (A : Around) (s : Shared) (u v : Value) : Prop := ∀ (E : Value → Shared → Prop) (Q : Bool → Shared → Prop), Q true s → wpAny (model prog w) A (eqBool u v) Q E s
theorem same_true {nm : String} {a b : Addr} {ka kb : List (K × Value)} {Q : Bool → Shared → Prop} (ha : (a == sysModules) = false) (hb : (b == sysModules) = false) (da : s.heap.DictOf knd a ka) (db : s.heap.DictOf knd b kb) (hlen : ka.length = kb.length)
    (hit : ∀ p ∈ ka, ∃ y, valueAt kb p.1 = some y ∧ EqW prog w A s p.2 y) (h : Q true s) : wpAny (model prog w) A (Builtin.Dict.samePairs nm a b) Q E s := by
  obtain ⟨o1, e1, ep1, g1, _, d1, k1, p1, _⟩ := da
  obtain ⟨o2, e2, ep2, g2, _, d2, k2, p2, _⟩ := db
  have l1 : ka.length = e1.size := by rw [← p1.length]; exact Array.length_toList
  have l2 : kb.length = e2.size := by rw [← p2.length]; exact Array.length_toList
  have hs : e1.size = e2.size := by omega
  have look : ∀ k, findBy knd.is e2 k = valueAt kb k := fun k => by
    rw [← p2.find k]
    clear l2 p2 k2 d2 g2 hs
    obtain ⟨l⟩ := e2
    simp [findBy]
  unfold Builtin.Dict.samePairs Builtin.Dict.showsAll
  rw [if_neg (show ¬ (a == sysModules) = true from by rw [ha]; decide), if_neg (show ¬ (b == sysModules) = true from by rw [hb]; decide)]
  refine wpAny_bind (wpAny_pure (wpAny_bind (wpAny_pure (wpAny_bind (wpAny_dictEntries g1 d1 ?_)))))
  dsimp only
  refine wpAny_bind (wpAny_dictEntries g2 d2 ?_)
  rw [if_neg (by rw [hs]; simp)]
  refine wpAny_bind (wpAny_dictEpoch g1 d1 (wpAny_bind ?_))
  rw [Std.Legacy.Range.forIn_eq_forIn_range']
  simp only [Std.Legacy.Range.size, Nat.sub_zero, Nat.add_sub_cancel, Nat.div_one]
  refine wpAny_forIn_list _ (fun rest q s' => s' = s ∧ q = (none, ()) ∧ ∃ i, rest = List.range' i (e1.size - i) ∧ i ≤ e1.size) _ ?_ ?_ _ _ ⟨rfl, rfl, 0, by simp, Nat.zero_le _⟩
  · rintro j rest q s' ⟨rfl, rfl, i, hr, hi⟩
    have hlt : i < e1.size := by
      rcases Nat.lt_or_ge i e1.size with z | z
      · exact z
      · rw [Nat.sub_eq_zero_of_le z] at hr; cases hr
    rw [show e1.size - i = (e1.size - (i + 1)) + 1 by omega, List.range'_succ] at hr
    injection hr with hj hrest
    subst hj
    refine wpAny_bind (wpAny_dictEntries g1 d1 ?_)
    rw [Array.getElem?_eq_getElem hlt]
    have hlt' : j < ka.length := by omega
    obtain ⟨hkey, hval⟩ := p1.get? (i := j) (e := e1[j]) (k := ka[j].1) (v := ka[j].2) (by rw [Array.getElem?_toList]; exact Array.getElem?_eq_getElem hlt) (List.getElem?_eq_getElem hlt')
    obtain ⟨k', hk', hh⟩ := k1 e1[j] (Array.getElem_mem hlt)
    rw [knd.inj _ _ _ hk' hkey] at hh
    obtain ⟨y, hy, heq⟩ := hit ka[j] (List.getElem_mem hlt')
    show wpAny _ _ (holding [e1[j].key, e1[j].val] _ >>= _) _ _ _
    rw [hh]
    refine wpAny_bind (wpAny_holding (wpAny_bind (wpAny_dictFind_of hkey g2 d2 k2 ?_)))
    cases hj : e2.findIdx? fun e => knd.is ka[j].1 e.key with
    | none =>
      have : valueAt kb ka[j].1 = none := by rw [← look, findBy_of_findIdx?, hj]
      rw [this] at hy; cases hy
    | some m =>
      obtain ⟨hm, _, _⟩ := Array.findIdx?_eq_some_iff_getElem.mp hj
      have hv : valueAt kb ka[j].1 = some e2[m].val := by
        rw [← look, findBy_of_findIdx?, hj]
        simp [Array.getElem?_eq_getElem hm]
      refine wpAny_bind (wpAny_dictEntries g2 d2 ?_)
      rw [Array.getElem?_eq_getElem hm]
      have ey : e2[m].val = y := Option.some.inj (hv.symm.trans hy)
      rw [← ey, ← hval] at heq
      refine wpAny_holding (heq _ _ ?_)
      show wpAny _ _ (if (!true) = true then _ else _) _ _ _
      rw [if_neg (show ¬ (!true) = true by decide)]
      refine wpAny_bind (wpAny_dictEpoch g1 d1 ?_)
      rw [if_neg (by simp)]
      exact wpAny_pure ⟨rfl, rfl, j + 1, hrest, hlt⟩
  · rintro q s' ⟨rfl, rfl, i, hr, hi⟩
    exact wpAny_pure h
/-- == of dicts that are alike -/
theorem rc_true {a b : Addr} {ka kb : List (K × Value)} {Q : Value → Shared → Prop} (ha : (a == sysModules) = false) (hb : (b == sysModules) = false) (da : s.heap.DictOf knd a ka) (db : s.heap.DictOf knd b kb) (hu : A.units < cLine) (hlen : ka.length = kb.length)
    (hit : ∀ p ∈ ka, ∃ y, valueAt kb p.1 = some y ∧ EqW prog w A.in1 s p.2 y) (h : Q (.bool true) s) : wpAny (model prog w) A (compareOp .Eq (.ref a) (.ref b)) Q E s := by
  refine wpAny_richCompare_same_room (op := .Eq) da.typeIs db.typeIs PySem.F.slot_dict_eq (wpAny_call_entry PySem.F.slot_dict_eq da.typeIs PySem.F.entry_dict_eq ?_ (PySem.F.args_dict_eq_2 _ _)) hu
  have two : ∀ {Q0 : Value × Value → Shared → Prop}, Q0 (.ref a, .ref b) s → wpAny (model prog w) A.in1 (Builtin.Dict.dictSlotArgs "__eq__" ⟨[.ref a, .ref b], []⟩) Q0 E s := fun {Q0} h0 => by
    unfold Builtin.Dict.dictSlotArgs; exact wpAny_bind (wpAny_notOrdered_dict da.typeIs (wpAny_pure h0))
  refine wpAny_bind (two (wpAny_bind (wpAny_isInstance (T := "dict") db.typeIs PySem.F.sub_dict_dict ?_)))
  simp only [Bool.not_true, Bool.false_eq_true, if_false]
  refine wpAny_bind (wpAny_pure (wpAny_bind (wpAny_pure (wpAny_bind (same_true ha hb da db hlen hit (wpAny_pure ⟨_, rfl, fun x => (nomatch x), h⟩))))))
theorem rc_ne {a b : Addr} {ka kb : List (K × Value)} {Q : Value → Shared → Prop} (ha : (a == sysModules) = false) (hb : (b == sysModules) = false) (da : s.heap.DictOf knd a ka) (db : s.heap.DictOf knd b kb) (hu : A.units < cLine) (hlen : ka.length = kb.length)
    (hit : ∀ p ∈ ka, ∃ y, valueAt kb p.1 = some y ∧ EqW prog w A.in1 s p.2 y) (h : Q (.bool false) s) : wpAny (model prog w) A (compareOp .NotEq (.ref a) (.ref b)) Q E s := by
  refine wpAny_richCompare_same_room (op := .NotEq) da.typeIs db.typeIs PySem.F.slot_dict_ne (wpAny_call_entry PySem.F.slot_dict_ne da.typeIs PySem.F.entry_dict_ne ?_ (PySem.F.args_dict_ne_2 _ _)) hu
  have two : ∀ {Q0 : Value × Value → Shared → Prop}, Q0 (.ref a, .ref b) s → wpAny (model prog w) A.in1 (Builtin.Dict.dictSlotArgs "__ne__" ⟨[.ref a, .ref b], []⟩) Q0 E s := fun {Q0} h0 => by
    unfold Builtin.Dict.dictSlotArgs; exact wpAny_bind (wpAny_notOrdered_dict da.typeIs (wpAny_pure h0))
  refine wpAny_bind (two (wpAny_bind (wpAny_isInstance (T := "dict") db.typeIs PySem.F.sub_dict_dict ?_)))
  simp only [Bool.not_true, Bool.false_eq_true, if_false]
  refine wpAny_bind (wpAny_pure (wpAny_bind (wpAny_pure (wpAny_bind (same_true ha hb da db hlen hit (wpAny_pure ⟨_, rfl, fun x => (nomatch x), h⟩))))))
/-- two dicts as things in another -/
theorem eqw_dicts {a b : Addr} {ka kb : List (K × Value)} (ha : (a == sysModules) = false) (hb : (b == sysModules) = false) (da : s.heap.DictOf knd a ka) (db : s.heap.DictOf knd b kb) (hu : A.units < cLine) (hlen : ka.length = kb.length)
    (hit : ∀ p ∈ ka, ∃ y, valueAt kb p.1 = some y ∧ EqW prog w A.in1 s p.2 y) : EqW prog w A s (.ref a) (.ref b) := fun E Q hq => by
  unfold eqBool
  refine wpAny_holding ?_
  refine wpAny_ite_split (fun hab => wpAny_bind (wpAny_rule (wpAny_pure hq))) (fun _ => ?_)
  exact wpAny_bind (show wpAny _ _ (compareOp .Eq (.ref a) (.ref b)) _ _ _ from rc_true ha hb da db hu hlen hit (wpAny_truthy_bool hq))
end
end PySem.W

set_option linter.all false
set_option maxHeartbeats 4000000
set_option maxRecDepth 100000
namespace L2
open PySem PySem.Spec PySem.Calls PyProof.Rows PySem.W
/-- alike, or dicts of things that are alike -/
inductive AlkD (K : PySem.W.Frag) (H : Hp) : V → V → Prop
  | alk {x y : V} (h : Alk K H x y) : AlkD K H x y
  | dic {a b : Addr} {kvs kvs' : List (Key × V)} (ha : H a = some (.dK kvs)) (hb : H b = some (.dK kvs')) (hl : kvs.length = kvs'.length) (h : ∀ kv ∈ kvs, ∃ v', valV kvs' kv.1 = some v' ∧ Alk K H kv.2 v') : AlkD K H (.ref a) (.ref b)
section
variable {X : Cx} {pins : List (Addr × Obj)} {σ : St} {H : Hp} {s : Shared}
theorem KV.mem {κ : Type} {kvs : List (κ × V)} {vs : List (κ × Value)} (r : KV kvs vs) {p : κ × Value} (hp : p ∈ vs) : ∃ kv ∈ kvs, kv.1 = p.1 ∧ RelV kv.2 p.2 := by
  induction r with
  | nil => cases hp
  | @cons a b l m h _ ih =>
    rcases List.mem_cons.mp hp with rfl | hp
    · exact ⟨a, List.mem_cons_self .., h.1, h.2⟩
    · obtain ⟨kv, h1, h2⟩ := ih hp
      exact ⟨kv, List.mem_cons_of_mem _ h1, h2⟩
theorem KV.find {kvs : List (Key × V)} {vs : List (Key × Value)} (r : KV kvs vs) {k : Key} {v : V} (h : valV kvs k = some v) : ∃ y, valueAt vs k = some y ∧ RelV v y := by
  have e := r.val k
  rw [h] at e
  cases ev : valueAt vs k with
  | none => rw [ev] at e; exact absurd e (by intro z; cases z)
  | some y => rw [ev] at e; exact ⟨y, rfl, e⟩
theorem eqw_alk (I : Inv X pins σ H s) {x y : V} (d : Alk X.K H x y) {A : Around} {u v : Value} (rx : RelV x u) (ry : RelV y v) (hu : A.units + 2 < cLine) : PySem.W.EqW X.prog X.w A s u v := fun E Q hq => alk_at I d rx ry hu X.prog X.w E Q hq
theorem eqw_alkD (I : Inv X pins σ H s) {x y : V} (d : AlkD X.K H x y) {A : Around} {u v : Value} (rx : RelV x u) (ry : RelV y v) (hu : A.units + 8 < cLine) : PySem.W.EqW X.prog X.w A s u v := by
  cases d with
  | alk h => exact eqw_alk I h rx ry (by omega)
  | dic ha hb hl h =>
    cases rx
    cases ry
    obtain ⟨_, h1, va, ra, da⟩ := dk_of I.hok ha
    obtain ⟨_, h2, vb, rb, db⟩ := dk_of I.hok hb
    refine PySem.W.eqw_dicts h1 h2 da db (by omega) (by rw [← ra.length, ← rb.length]; exact hl) fun p hp => ?_
    obtain ⟨kv, hk, e1, e2⟩ := ra.mem hp
    obtain ⟨v', ev, hv⟩ := h kv hk
    obtain ⟨y, hy, ry⟩ := rb.find ev
    exact ⟨y, by rw [← e1]; exact hy, eqw_alk I hv e2 ry (by show A.units + 1 + 2 < cLine; omega)⟩
/-- two dicts that are alike -/
def rDD (K : PySem.W.Frag) (neg : Bool) : R2 := fun x y H Q => ∃ (p b : Addr) (kvs kvs' : List (Key × V)), x = .ref p ∧ y = .ref b ∧ H p = some (.dK kvs) ∧ H b = some (.dK kvs') ∧ kvs.length = kvs'.length ∧ (∀ kv ∈ kvs, ∃ v', valV kvs' kv.1 = some v' ∧ AlkD K H kv.2 v') ∧ Q (.bl (!neg)) H
theorem op_eqDD (hu : X.A.units + 64 < cLine) : OpR X (compareOp .Eq) (rDD X.K false) := by
  intro pins s σ H x y v u Q I rx ry h
  obtain ⟨p, b, kvs, kvs', rfl, rfl, hp, hb, hl, hh, q⟩ := h
  cases rx
  cases ry
  obtain ⟨_, h1, va, ra, da⟩ := dk_of I.hok hp
  obtain ⟨_, h2, vb, rb, db⟩ := dk_of I.hok hb
  refine PySem.W.rc_true h1 h2 da db (by omega) (by rw [← ra.length, ← rb.length]; exact hl) (fun p hp => ?_) ⟨.bl true, H, I, rfl, q⟩
  obtain ⟨kv, hk, e1, e2⟩ := ra.mem hp
  obtain ⟨v', ev, hv⟩ := hh kv hk
  obtain ⟨y, hy, ry⟩ := rb.find ev
  exact ⟨y, by rw [← e1]; exact hy, eqw_alkD I hv e2 ry (by show X.A.units + 1 + 8 < cLine; omega)⟩
theorem op_neDD (hu : X.A.units + 64 < cLine) : OpR X (compareOp .NotEq) (rDD X.K true) := by
  intro pins s σ H x y v u Q I rx ry h
  obtain ⟨p, b, kvs, kvs', rfl, rfl, hp, hb, hl, hh, q⟩ := h
  cases rx
  cases ry
  obtain ⟨_, h1, va, ra, da⟩ := dk_of I.hok hp
  obtain ⟨_, h2, vb, rb, db⟩ := dk_of I.hok hb
  refine PySem.W.rc_ne h1 h2 da db (by omega) (by rw [← ra.length, ← rb.length]; exact hl) (fun p hp => ?_) ⟨.bl false, H, I, rfl, q⟩
  obtain ⟨kv, hk, e1, e2⟩ := ra.mem hp
  obtain ⟨v', ev, hv⟩ := hh kv hk
  obtain ⟨y, hy, ry⟩ := rb.find ev
  exact ⟨y, by rw [← e1]; exact hy, eqw_alkD I hv e2 ry (by show X.A.units + 1 + 8 < cLine; omega)⟩
/-- list(d): its keys -/
theorem call_listD (hc : X.calm = true) : CallR X (.type "list") (fun xs H Q => ∃ d kvs, xs = [V.ref d] ∧ H d = some (.dK kvs) ∧ ∀ l, H l = none → Q (.ref l) (upd H l (.lst (kvs.map fun kv => kV kv.1)))) := by
  intro pins s σ H xs us Q I r h
  obtain ⟨d, kvs, rfl, hd, q⟩ := h
  obtain ⟨u, rfl, ru⟩ := vals1 r
  cases ru
  obtain ⟨z, hsd, vs, rel, o, es, ep, ho, hcc, he, rr⟩ := dk_of I.hok hd
  have hl := rel.length
  refine kdl_call (kdl_dict (knd := mixKind X.prog X.w) (kvs := vs) (ep := ep) hsd) (I.ok.hd hc) ⟨o, es, ho, hcc, he, rr⟩ (by omega) fun h' tk acc c kp e it => ?_
  obtain ⟨hsz, hit⟩ := it
  have hv : Vals (kvs.map fun kv => kV kv.1) acc.toList := by
    refine vals_get (by rw [List.length_map, show acc.toList.length = acc.size from Array.length_toList, hsz]; exact hl) fun j x v a b => ?_
    obtain ⟨k, y, ek, hk⟩ := hit j v (by simpa using b)
    rw [List.getElem?_map] at a
    cases ekv : kvs[j]? with
    | none => rw [ekv] at a; cases a
    | some kv =>
      rw [ekv] at a
      cases a
      obtain ⟨u, hu, _⟩ := rel.get ekv
      rw [hu] at ek
      cases ek
      exact kV_rel hk
  exact ⟨.ref s.heap.objs.size, _, I.laid (t' := tk) kp (Nat.le_refl _) (show ObjOk X.prog X.w _ h' _ (.lst (kvs.map fun kv => kV kv.1)) from ⟨by rw [List.length_map]; exact z, acc.toList, c, hv, by simpa using e⟩), rfl, q _ (I.hok.fresh (Nat.le_refl _))⟩
/-- d.update(e) -/
theorem mt_updateD : MtM X "dict.update" (fun x vs H Q => ∃ a b kvs more, x = .ref a ∧ vs = [.ref b] ∧ a ≠ b ∧ H a = some (.dK kvs) ∧ H b = some (.dK more) ∧ kvs.length + more.length ≤ 1000 ∧ Q .non (upd H a (.dK (mergeK kvs more)))) := by
  intro pins s σ H x vs v us Q I rx rv h
  obtain ⟨a, b, kvs, more, rfl, rfl, ne, ha, hb, hz, q⟩ := h
  cases rx
  obtain ⟨u, rfl, ru⟩ := rv.one
  cases ru
  obtain ⟨_, h1, va, ra, da⟩ := dk_of I.hok ha
  obtain ⟨_, h2, vb, rb, db⟩ := dk_of I.hok hb
  have l1 := ra.length
  have l2 := rb.length
  refine call_meetsIn PySem.F.slot_dict_update da.typeIs PySem.F.entry_dict_update (PySem.F.args_dict_update_2 _ _) (meets_dict_update (mixKind X.prog X.w) a b ne h2) ⟨va, vb, da, db, Nat.le_of_lt (small1000 (by omega)), fun h' dd' _ hs => ?_⟩
  have he : ∃ q, h'.get? a = some q := let ⟨q, _, _, hq, _⟩ := dd'; ⟨q, hq⟩
  exact ⟨.non, _, d_write (t' := s.toks) I (by rw [ha]; exact True.intro) hs he (dk_new (Nat.le_trans (length_mergeK more kvs) (Nat.le_of_lt (small1000 (by omega)))) h1 (KV.merge rb ra) dd'), rfl, q⟩
end
end L2

set_option linter.all false
set_option maxHeartbeats 4000000
set_option maxRecDepth 100000
namespace L2
open PySem PySem.Spec PySem.Calls PyProof.Rows
section
variable {K : PySem.W.Frag} {H1 : Hp} {a : Addr} {y1 y2 : Str} {cap : List Nat} {σ : St} {te : TE} {Z : List V → Hp → Prop}
theorem wk_twoP (y1 y2 : Str) (cap : List Nat) (σ : St) (x1 x2 : V) : Wk (capS [y1, y2] cap σ) (((capS [y1, y2] cap σ).set 0 (some x1)).set 1 (some x2)) := by
  refine ⟨by simp, fun i v e => ?_⟩
  match i with
  | 0 => cases e
  | 1 => cases e
  | i + 2 => exact e
/-- pairs, each by a function; nothing changed -/
theorem blk_pairs {α : Type} (adr : α → Addr) (v1 v2 : α → V) (f : α → V) {xs : List α} (hS : SqL K H1 a (xs.map fun x => V.ref (adr x)) ∨ SqT K H1 a (xs.map fun x => V.ref (adr x))) (hz : xs.length < sizeLine)
    (ht : ∀ x ∈ xs, SqT K H1 (adr x) [v1 x, v2 x])
    (he : ∀ x ∈ xs, ∀ Q : VK, Q (f x) H1 → te (((capS [y1, y2] cap σ).set 0 (some (v1 x))).set 1 (some (v2 x))) H1 Q) (hd : Z (xs.map f) H1) :
    ((∃ xs, SqL K H1 a xs) ∧ tBlk [y1, y2] cap (g2 K) tYes te σ Z (Itl K a) H1) ∨ ((∃ xs, SqT K H1 a xs) ∧ tBlk [y1, y2] cap (g2 K) tYes te σ Z (Itt K a) H1) := by
  have stp : ∀ (i : Nat) (x : V) (acc : List V) (H : Hp) (R : List V → Hp → Prop), (∀ acc' H', (acc' = (xs.take (i + 1)).map f ∧ H' = H1) → R acc' H') → i < xs.length → (acc = (xs.take i).map f ∧ H = H1) → (xs.map fun x => V.ref (adr x))[i]? = some x →
      g2 K x (capS [y1, y2] cap σ) H fun σ4 H4 => Wk (capS [y1, y2] cap σ) σ4 ∧ tYes σ4 H4 fun b H5 => if b = true then te σ4 H5 fun v H6 => R (acc ++ [v]) H6 else R acc H5 := by
    rintro i x acc H R k hi ⟨rfl, rfl⟩ hx
    rw [List.getElem?_map, List.getElem?_eq_getElem hi] at hx
    cases hx
    have hm : xs[i] ∈ xs := List.getElem_mem hi
    refine ⟨_, _, rfl, ht _ hm, rfl, _, _, rfl, _, _, rfl, rfl, wk_twoP y1 y2 cap σ _ _, ?_⟩
    unfold tYes
    dsimp only
    rw [if_pos rfl]
    refine he _ hm _ (k _ _ ⟨?_, rfl⟩)
    rw [List.take_add_one, List.getElem?_eq_getElem hi, List.map_append]; rfl
  have len : ∀ (i : Nat) acc (H : Hp), (acc = (xs.take i).map f ∧ H = H1) → acc.length < sizeLine := by
    rintro i acc H ⟨rfl, _⟩
    rw [List.length_map, List.length_take]; omega
  have fin : ∀ acc H, (acc = (xs.take xs.length).map f ∧ H = H1) → Z acc H := by
    rintro acc H ⟨rfl, rfl⟩
    rw [List.take_length]; exact hd
  have at_ : ∀ i (hi : i < xs.length), (xs.map fun x => V.ref (adr x))[i]? = some (V.ref (adr (xs[i]'hi))) := fun i hi => by rw [List.getElem?_map, List.getElem?_eq_getElem hi]; rfl
  rcases hS with h | h
  · refine .inl ⟨⟨_, h⟩, blk_any xs.length (fun i acc H => acc = (xs.take i).map f ∧ H = H1) ⟨by simp, rfl⟩ len (fun i acc H hi p => ⟨xs.map fun x => V.ref (adr x), _, p.2 ▸ h, at_ i hi⟩) (fun acc H p => ⟨xs.map fun x => V.ref (adr x), p.2 ▸ h, by rw [List.length_map]; exact Nat.le_refl _⟩) (fun i x acc H H3 R k hi p yl => ?_) fin⟩
    obtain ⟨e, yx⟩ := yl
    subst e
    exact stp i x acc _ R k hi p (yx _ (p.2 ▸ h))
  · refine .inr ⟨⟨_, h⟩, blk_any xs.length (fun i acc H => acc = (xs.take i).map f ∧ H = H1) ⟨by simp, rfl⟩ len (fun i acc H hi p => ⟨xs.map fun x => V.ref (adr x), _, p.2 ▸ h, at_ i hi⟩) (fun acc H p => ⟨xs.map fun x => V.ref (adr x), p.2 ▸ h, by rw [List.length_map]; exact Nat.le_refl _⟩) (fun i x acc H H3 R k hi p yl => ?_) fin⟩
    obtain ⟨e, yx⟩ := yl
    subst e
    exact stp i x acc _ R k hi p (yx _ (p.2 ▸ h))
end
end L2

set_option linter.all false
set_option maxHeartbeats 4000000
set_option maxRecDepth 100000
namespace KP
open PySem L2
/-! the text by places -/
def top (i : Nat) : Stmt := PySem.Challenge.pw_panehouse_k31_needs.main.body.getD i (.Pass ⟨0, 0, 0, 0⟩)
abbrev s_boxes_of : Stmt := top 1
abbrev s_limited : Stmt := top 3
abbrev s_gaps_of : Stmt := top 5
abbrev s_limited_wide : Stmt := top 6
abbrev s_words_needs : Stmt := top 7
abbrev s_kids_needs : Stmt := top 8
abbrev s_need_of : Stmt := top 9
abbrev s_needs_of : Stmt := top 10
abbrev s_l_cell_at : Stmt := top 12
abbrev s_l_mix : Stmt := top 13
abbrev s_l_whole : Stmt := top 14
abbrev s_l_text : Stmt := top 15
abbrev s_l_names : Stmt := top 16
abbrev s_l_box : Stmt := top 17
abbrev s_l_all : Stmt := top 18
abbrev s_l_shape : Stmt := top 19
abbrev s_l_shapes : Stmt := top 20
abbrev s_l_limited : Stmt := top 21
abbrev s_l_needs_in : Stmt := top 22
abbrev s_l_needs : Stmt := top 23
abbrev s_l_pair_is : Stmt := top 24
abbrev s_l_flow_by : Stmt := top 25
abbrev s_law : Stmt := top 26
-- boxes_of: 0=doc 1=boxes 2=waiting 3=box
abbrev N_boxes_of : List Str := ["doc", "boxes", "waiting", "box"]
abbrev P_boxes_of : List Str := ["doc"]
theorem sc_boxes_of : FnScope N_boxes_of P_boxes_of (defScope s_boxes_of) := ⟨rfl, rfl, rfl, by decide +kernel, rfl, by decide +kernel, by decide +kernel⟩
-- limited: 0=n 1=least 2=most
abbrev N_limited : List Str := ["n", "least", "most"]
abbrev P_limited : List Str := ["n", "least", "most"]
theorem sc_limited : FnScope N_limited P_limited (defScope s_limited) := ⟨rfl, rfl, rfl, by decide +kernel, rfl, by decide +kernel, by decide +kernel⟩
-- gaps_of: 0=shape 1=many
abbrev N_gaps_of : List Str := ["shape", "many"]
abbrev P_gaps_of : List Str := ["shape", "many"]
theorem sc_gaps_of : FnScope N_gaps_of P_gaps_of (defScope s_gaps_of) := ⟨rfl, rfl, rfl, by decide +kernel, rfl, by decide +kernel, by decide +kernel⟩
-- limited_wide: 0=shape 1=wide
abbrev N_limited_wide : List Str := ["shape", "wide"]
abbrev P_limited_wide : List Str := ["shape", "wide"]
theorem sc_limited_wide : FnScope N_limited_wide P_limited_wide (defScope s_limited_wide) := ⟨rfl, rfl, rfl, by decide +kernel, rfl, by decide +kernel, by decide +kernel⟩
-- words_needs: 0=text
abbrev N_words_needs : List Str := ["text"]
abbrev P_words_needs : List Str := ["text"]
theorem sc_words_needs : FnScope N_words_needs P_words_needs (defScope s_words_needs) := ⟨rfl, rfl, rfl, by decide +kernel, rfl, by decide +kernel, by decide +kernel⟩
-- kids_needs: 0=box 1=shape 2=pairs 3=leasts 4=holds 5=gaps 6=many
abbrev N_kids_needs : List Str := ["box", "shape", "pairs", "leasts", "holds", "gaps", "many"]
abbrev P_kids_needs : List Str := ["box", "shape", "pairs"]
theorem sc_kids_needs : FnScope N_kids_needs P_kids_needs (defScope s_kids_needs) := ⟨rfl, rfl, rfl, by decide +kernel, rfl, by decide +kernel, by decide +kernel⟩
-- need_of: 0=box 1=shapes 2=needs 3=shape 4=inner 5=sizes
abbrev N_need_of : List Str := ["box", "shapes", "needs", "shape", "inner", "sizes"]
abbrev P_need_of : List Str := ["box", "shapes", "needs"]
theorem sc_need_of : FnScope N_need_of P_need_of (defScope s_need_of) := ⟨rfl, rfl, rfl, by decide +kernel, rfl, by decide +kernel, by decide +kernel⟩
-- needs_of: 0=doc 1=shapes 2=boxes 3=needs 4=box
abbrev N_needs_of : List Str := ["doc", "shapes", "boxes", "needs", "box"]
abbrev P_needs_of : List Str := ["doc", "shapes"]
theorem sc_needs_of : FnScope N_needs_of P_needs_of (defScope s_needs_of) := ⟨rfl, rfl, rfl, by decide +kernel, rfl, by decide +kernel, by decide +kernel⟩
-- _law_cell_at: 0=_law_script 1=_law_k
abbrev N_l_cell_at : List Str := ["_law_script", "_law_k"]
abbrev P_l_cell_at : List Str := ["_law_script", "_law_k"]
theorem sc_l_cell_at : FnScope N_l_cell_at P_l_cell_at (defScope s_l_cell_at) := ⟨rfl, rfl, rfl, by decide +kernel, rfl, by decide +kernel, by decide +kernel⟩
-- _law_mix: 0=_law_state 1=_law_cell
abbrev N_l_mix : List Str := ["_law_state", "_law_cell"]
abbrev P_l_mix : List Str := ["_law_state", "_law_cell"]
theorem sc_l_mix : FnScope N_l_mix P_l_mix (defScope s_l_mix) := ⟨rfl, rfl, rfl, by decide +kernel, rfl, by decide +kernel, by decide +kernel⟩
-- _law_whole: 0=_law_got
abbrev N_l_whole : List Str := ["_law_got"]
abbrev P_l_whole : List Str := ["_law_got"]
theorem sc_l_whole : FnScope N_l_whole P_l_whole (defScope s_l_whole) := ⟨rfl, rfl, rfl, by decide +kernel, rfl, by decide +kernel, by decide +kernel⟩
-- _law_text: 0=_law_state 1=_law_signs 2=_law_text_here 3=_law_k 4=_law_word 5=_law_step
abbrev N_l_text : List Str := ["_law_state", "_law_signs", "_law_text_here", "_law_k", "_law_word", "_law_step"]
abbrev P_l_text : List Str := ["_law_state"]
theorem sc_l_text : FnScope N_l_text P_l_text (defScope s_l_text) := ⟨rfl, rfl, rfl, by decide +kernel, rfl, by decide +kernel, by decide +kernel⟩
-- _law_names: 0=_law_state 1=_law_many 2=_law_signs 3=_law_base 4=_law_k 5=_law_at 6=_law_first
abbrev N_l_names : List Str := ["_law_state", "_law_many", "_law_signs", "_law_base", "_law_k", "_law_at", "_law_first"]
abbrev P_l_names : List Str := ["_law_state", "_law_many"]
theorem sc_l_names : FnScope N_l_names P_l_names (defScope s_l_names) := ⟨rfl, rfl, rfl, by decide +kernel, rfl, by decide +kernel, by decide +kernel⟩
-- _law_box: 0=_law_state 1=_law_names_here 2=_law_deep 3=_law_name 4=_law_kind 5=_law_kids 6=_law_k 7=_law_more
abbrev N_l_box : List Str := ["_law_state", "_law_names_here", "_law_deep", "_law_name", "_law_kind", "_law_kids", "_law_k", "_law_more"]
abbrev P_l_box : List Str := ["_law_state", "_law_names_here", "_law_deep"]
theorem sc_l_box : FnScope N_l_box P_l_box (defScope s_l_box) := ⟨rfl, rfl, rfl, by decide +kernel, rfl, by decide +kernel, by decide +kernel⟩
-- _law_all: 0=_law_box_here 1=_law_got 2=_law_kid
abbrev N_l_all : List Str := ["_law_box_here", "_law_got", "_law_kid"]
abbrev P_l_all : List Str := ["_law_box_here"]
theorem sc_l_all : FnScope N_l_all P_l_all (defScope s_l_all) := ⟨rfl, rfl, rfl, by decide +kernel, rfl, by decide +kernel, by decide +kernel⟩
-- _law_shape: 0=_law_state 1=_law_shape_here 2=_law_word 3=_law_way
abbrev N_l_shape : List Str := ["_law_state", "_law_shape_here", "_law_word", "_law_way"]
abbrev P_l_shape : List Str := ["_law_state"]
theorem sc_l_shape : FnScope N_l_shape P_l_shape (defScope s_l_shape) := ⟨rfl, rfl, rfl, by decide +kernel, rfl, by decide +kernel, by decide +kernel⟩
-- _law_shapes: 0=_law_state 1=_law_doc 2=_law_shapes_here 3=_law_box_here
abbrev N_l_shapes : List Str := ["_law_state", "_law_doc", "_law_shapes_here", "_law_box_here"]
abbrev P_l_shapes : List Str := ["_law_state", "_law_doc"]
theorem sc_l_shapes : FnScope N_l_shapes P_l_shapes (defScope s_l_shapes) := ⟨rfl, rfl, rfl, by decide +kernel, rfl, by decide +kernel, by decide +kernel⟩
-- _law_limited: 0=_law_number 1=_law_least 2=_law_limit
abbrev N_l_limited : List Str := ["_law_number", "_law_least", "_law_limit"]
abbrev P_l_limited : List Str := ["_law_number", "_law_least", "_law_limit"]
theorem sc_l_limited : FnScope N_l_limited P_l_limited (defScope s_l_limited) := ⟨rfl, rfl, rfl, by decide +kernel, rfl, by decide +kernel, by decide +kernel⟩
-- _law_needs_in: 0=_law_box_here 1=_law_shapes_here 2=_law_got 3=_law_kids 4=_law_shape_here 5=_law_pair 6=_law_side 7=_law_numbers 8=_law_number
abbrev N_l_needs_in : List Str := ["_law_box_here", "_law_shapes_here", "_law_got", "_law_kids", "_law_shape_here", "_law_pair", "_law_side", "_law_numbers", "_law_number"]
abbrev P_l_needs_in : List Str := ["_law_box_here", "_law_shapes_here", "_law_got"]
theorem sc_l_needs_in : FnScope N_l_needs_in P_l_needs_in (defScope s_l_needs_in) := ⟨rfl, rfl, rfl, by decide +kernel, rfl, by decide +kernel, by decide +kernel⟩
-- _law_needs: 0=_law_doc 1=_law_shapes_here 2=_law_got
abbrev N_l_needs : List Str := ["_law_doc", "_law_shapes_here", "_law_got"]
abbrev P_l_needs : List Str := ["_law_doc", "_law_shapes_here"]
theorem sc_l_needs : FnScope N_l_needs P_l_needs (defScope s_l_needs) := ⟨rfl, rfl, rfl, by decide +kernel, rfl, by decide +kernel, by decide +kernel⟩
-- _law_pair_is: 0=_law_got 1=_law_due
abbrev N_l_pair_is : List Str := ["_law_got", "_law_due"]
abbrev P_l_pair_is : List Str := ["_law_got", "_law_due"]
theorem sc_l_pair_is : FnScope N_l_pair_is P_l_pair_is (defScope s_l_pair_is) := ⟨rfl, rfl, rfl, by decide +kernel, rfl, by decide +kernel, by decide +kernel⟩
-- _law_flow_by: 0=_law_state 1=_law_kids 2=_law_doc 3=_law_shapes_here 4=_law_box_here
abbrev N_l_flow_by : List Str := ["_law_state", "_law_kids", "_law_doc", "_law_shapes_here", "_law_box_here"]
abbrev P_l_flow_by : List Str := ["_law_state"]
theorem sc_l_flow_by : FnScope N_l_flow_by P_l_flow_by (defScope s_l_flow_by) := ⟨rfl, rfl, rfl, by decide +kernel, rfl, by decide +kernel, by decide +kernel⟩
-- law: 0=_law_script 1=_law_state 2=_law_names_here 3=_law_doc 4=_law_shapes_here 5=_law_due 6=_law_kept 7=_law_got 8=_law_box_here 9=_law_needs_here 10=_law_kid 11=_law_flow 12=_law_forms
abbrev N_law : List Str := ["_law_script", "_law_state", "_law_names_here", "_law_doc", "_law_shapes_here", "_law_due", "_law_kept", "_law_got", "_law_box_here", "_law_needs_here", "_law_kid", "_law_flow", "_law_forms"]
abbrev P_law : List Str := ["_law_script"]
theorem sc_law : FnScope N_law P_law (defScope s_law) := ⟨rfl, rfl, rfl, by decide +kernel, rfl, by decide +kernel, by decide +kernel⟩
/-- the addresses of the defs, as the top has made them -/
structure Adr where
  f_boxes_of : Addr
  d_boxes_of : FuncData
  f_limited : Addr
  d_limited : FuncData
  f_gaps_of : Addr
  d_gaps_of : FuncData
  f_limited_wide : Addr
  d_limited_wide : FuncData
  f_words_needs : Addr
  d_words_needs : FuncData
  f_kids_needs : Addr
  d_kids_needs : FuncData
  f_need_of : Addr
  d_need_of : FuncData
  f_needs_of : Addr
  d_needs_of : FuncData
  f_l_cell_at : Addr
  d_l_cell_at : FuncData
  f_l_mix : Addr
  d_l_mix : FuncData
  f_l_whole : Addr
  d_l_whole : FuncData
  f_l_text : Addr
  d_l_text : FuncData
  f_l_names : Addr
  d_l_names : FuncData
  f_l_box : Addr
  d_l_box : FuncData
  f_l_all : Addr
  d_l_all : FuncData
  f_l_shape : Addr
  d_l_shape : FuncData
  f_l_shapes : Addr
  d_l_shapes : FuncData
  f_l_limited : Addr
  d_l_limited : FuncData
  f_l_needs_in : Addr
  d_l_needs_in : FuncData
  f_l_needs : Addr
  d_l_needs : FuncData
  f_l_pair_is : Addr
  d_l_pair_is : FuncData
  f_l_flow_by : Addr
  d_l_flow_by : FuncData
  f_law : Addr
  d_law : FuncData
structure Txt (K : PySem.W.Frag) (mg : Str → Option Value) (A : Adr) : Prop where
  F_boxes_of : Fun K "boxes_of" "boxes_of" s_boxes_of A.f_boxes_of A.d_boxes_of
  b_boxes_of : Binds K A.d_boxes_of P_boxes_of []
  m_boxes_of : mg "boxes_of" = some (.ref A.f_boxes_of)
  F_limited : Fun K "limited" "limited" s_limited A.f_limited A.d_limited
  b_limited : Binds K A.d_limited P_limited []
  m_limited : mg "limited" = some (.ref A.f_limited)
  F_gaps_of : Fun K "gaps_of" "gaps_of" s_gaps_of A.f_gaps_of A.d_gaps_of
  b_gaps_of : Binds K A.d_gaps_of P_gaps_of []
  m_gaps_of : mg "gaps_of" = some (.ref A.f_gaps_of)
  F_limited_wide : Fun K "limited_wide" "limited_wide" s_limited_wide A.f_limited_wide A.d_limited_wide
  b_limited_wide : Binds K A.d_limited_wide P_limited_wide []
  m_limited_wide : mg "limited_wide" = some (.ref A.f_limited_wide)
  F_words_needs : Fun K "words_needs" "words_needs" s_words_needs A.f_words_needs A.d_words_needs
  b_words_needs : Binds K A.d_words_needs P_words_needs []
  m_words_needs : mg "words_needs" = some (.ref A.f_words_needs)
  F_kids_needs : Fun K "kids_needs" "kids_needs" s_kids_needs A.f_kids_needs A.d_kids_needs
  b_kids_needs : Binds K A.d_kids_needs P_kids_needs []
  m_kids_needs : mg "kids_needs" = some (.ref A.f_kids_needs)
  F_need_of : Fun K "need_of" "need_of" s_need_of A.f_need_of A.d_need_of
  b_need_of : Binds K A.d_need_of P_need_of []
  m_need_of : mg "need_of" = some (.ref A.f_need_of)
  F_needs_of : Fun K "needs_of" "needs_of" s_needs_of A.f_needs_of A.d_needs_of
  b_needs_of : Binds K A.d_needs_of P_needs_of []
  m_needs_of : mg "needs_of" = some (.ref A.f_needs_of)
  F_l_cell_at : Fun K "_law_cell_at" "_law_cell_at" s_l_cell_at A.f_l_cell_at A.d_l_cell_at
  b_l_cell_at : Binds K A.d_l_cell_at P_l_cell_at []
  m_l_cell_at : mg "_law_cell_at" = some (.ref A.f_l_cell_at)
  F_l_mix : Fun K "_law_mix" "_law_mix" s_l_mix A.f_l_mix A.d_l_mix
  b_l_mix : Binds K A.d_l_mix P_l_mix []
  m_l_mix : mg "_law_mix" = some (.ref A.f_l_mix)
  F_l_whole : Fun K "_law_whole" "_law_whole" s_l_whole A.f_l_whole A.d_l_whole
  b_l_whole : Binds K A.d_l_whole P_l_whole []
  m_l_whole : mg "_law_whole" = some (.ref A.f_l_whole)
  F_l_text : Fun K "_law_text" "_law_text" s_l_text A.f_l_text A.d_l_text
  b_l_text : Binds K A.d_l_text P_l_text []
  m_l_text : mg "_law_text" = some (.ref A.f_l_text)
  F_l_names : Fun K "_law_names" "_law_names" s_l_names A.f_l_names A.d_l_names
  b_l_names : Binds K A.d_l_names P_l_names []
  m_l_names : mg "_law_names" = some (.ref A.f_l_names)
  F_l_box : Fun K "_law_box" "_law_box" s_l_box A.f_l_box A.d_l_box
  b_l_box : Binds K A.d_l_box P_l_box []
  m_l_box : mg "_law_box" = some (.ref A.f_l_box)
  F_l_all : Fun K "_law_all" "_law_all" s_l_all A.f_l_all A.d_l_all
  b_l_all : Binds K A.d_l_all P_l_all []
  m_l_all : mg "_law_all" = some (.ref A.f_l_all)
  F_l_shape : Fun K "_law_shape" "_law_shape" s_l_shape A.f_l_shape A.d_l_shape
  b_l_shape : Binds K A.d_l_shape P_l_shape []
  m_l_shape : mg "_law_shape" = some (.ref A.f_l_shape)
  F_l_shapes : Fun K "_law_shapes" "_law_shapes" s_l_shapes A.f_l_shapes A.d_l_shapes
  b_l_shapes : Binds K A.d_l_shapes P_l_shapes []
  m_l_shapes : mg "_law_shapes" = some (.ref A.f_l_shapes)
  F_l_limited : Fun K "_law_limited" "_law_limited" s_l_limited A.f_l_limited A.d_l_limited
  b_l_limited : Binds K A.d_l_limited P_l_limited []
  m_l_limited : mg "_law_limited" = some (.ref A.f_l_limited)
  F_l_needs_in : Fun K "_law_needs_in" "_law_needs_in" s_l_needs_in A.f_l_needs_in A.d_l_needs_in
  b_l_needs_in : Binds K A.d_l_needs_in P_l_needs_in []
  m_l_needs_in : mg "_law_needs_in" = some (.ref A.f_l_needs_in)
  F_l_needs : Fun K "_law_needs" "_law_needs" s_l_needs A.f_l_needs A.d_l_needs
  b_l_needs : Binds K A.d_l_needs P_l_needs []
  m_l_needs : mg "_law_needs" = some (.ref A.f_l_needs)
  F_l_pair_is : Fun K "_law_pair_is" "_law_pair_is" s_l_pair_is A.f_l_pair_is A.d_l_pair_is
  b_l_pair_is : Binds K A.d_l_pair_is P_l_pair_is []
  m_l_pair_is : mg "_law_pair_is" = some (.ref A.f_l_pair_is)
  F_l_flow_by : Fun K "_law_flow_by" "_law_flow_by" s_l_flow_by A.f_l_flow_by A.d_l_flow_by
  b_l_flow_by : Binds K A.d_l_flow_by P_l_flow_by []
  m_l_flow_by : mg "_law_flow_by" = some (.ref A.f_l_flow_by)
  F_law : Fun K "law" "law" s_law A.f_law A.d_law
  b_law : Binds K A.d_law P_law []
  m_law : mg "law" = some (.ref A.f_law)
  n_all : mg "all" = none
  n_bool : mg "bool" = none
  n_dict : mg "dict" = none
  n_int : mg "int" = none
  n_isinstance : mg "isinstance" = none
  n_len : mg "len" = none
  n_list : mg "list" = none
  n_max : mg "max" = none
  n_min : mg "min" = none
  n_range : mg "range" = none
  n_reversed : mg "reversed" = none
  n_str : mg "str" = none
  n_sum : mg "sum" = none
  n_tuple : mg "tuple" = none
  kit : kitAll K = true
end KP

set_option linter.all false
set_option maxHeartbeats 4000000
set_option maxRecDepth 100000
namespace KP
open PySem L2 PyProof.Rows

theorem b_isinstance : bootBuiltins "isinstance" = some (.builtin "isinstance") := by decide +kernel
theorem b_int : bootBuiltins "int" = some (.type "int") := by decide +kernel
theorem b_bool : bootBuiltins "bool" = some (.type "bool") := by decide +kernel
theorem b_list : bootBuiltins "list" = some (.type "list") := by decide +kernel
theorem b_tuple : bootBuiltins "tuple" = some (.type "tuple") := by decide +kernel
theorem b_all : bootBuiltins "all" = some (.builtin "all") := by decide +kernel
theorem b_sum : bootBuiltins "sum" = some (.builtin "sum") := by decide +kernel
theorem b_max : bootBuiltins "max" = some (.builtin "max") := by decide +kernel
theorem b_min : bootBuiltins "min" = some (.builtin "min") := by decide +kernel
theorem b_len : bootBuiltins "len" = some (.builtin "len") := by decide +kernel

/-- a list or a tuple of ints, tracked -/
def WT (H : Hp) (p : Addr) (ws : List Int) : Prop := H p = some (.lst (ws.map V.int)) ∨ H p = some (.tup (ws.map V.int))
theorem same_upd {H : Hp} {p : Addr} (h : H p = none) (o : HO) : Same H (upd H p o) := fun b u q => by rw [upd_ne (ne_of_none q h)]; exact q
theorem small {n : Nat} (h : n ≤ 1000) : n ≤ sizeLine := Nat.le_of_lt (small1000 h)
theorem atI_int {xs : List Int} {j : Nat} (h : j < xs.length) : atI (xs.map V.int) (j : Int) = some (.int (xs.getD j 0)) := by
  refine atI_nat ?_
  rw [List.getElem?_map, List.getElem?_eq_getElem h, List.getD_eq_getElem?_getD, List.getElem?_eq_getElem h]; rfl
theorem atI_mem {xs : List V} {i : Int} (h0 : 0 ≤ i) (h : i < xs.length) : ∃ v, atI xs i = some v ∧ v ∈ xs := by
  obtain ⟨k, rfl⟩ := Int.eq_ofNat_of_zero_le h0
  have hk : k < xs.length := by omega
  exact ⟨xs[k], atI_nat (List.getElem?_eq_getElem hk), List.getElem_mem hk⟩

section
variable {P : Program} {w : World} {K : PySem.W.Frag} {mg : Str → Option Value} {base : Heap} {A : Adr}

def spCell (K : PySem.W.Frag) : Sp := fun vs H Q _ => ∃ (a : Addr) (ns : List Int) (k : Int), vs = [.ref a, .int k] ∧ SqL K H a (ns.map V.int) ∧ ns.length ≤ 63 ∧ 0 ≤ k ∧ ∀ v : Int, Q (.int v) H
theorem ok_cell (T : Txt K mg A) : FnOk P w K mg base CX0 1 A.f_l_cell_at A.d_l_cell_at P_l_cell_at (spCell K) := by
  refine T.F_l_cell_at.ok sc_l_cell_at (fun vs H Q E h => ?_) (fun cdv B outer s H vs Q E hr h => ?_)
  · obtain ⟨a, ns, k, rfl, _⟩ := h; rfl
  obtain ⟨a, ns, k, rfl, hS, hn, h0, q⟩ := h
  refine ⟨_, pss_cons (ps_if (pt_cmpR op_lt (pv 1) (pe_callB call_len_seq rfl T.n_len b_len (pa_cons (pv 0) pa_nil)) (nomark _)) (pss_one (ps_ret (pe_ix ix_list (pv 0) (pv 1) (fun _ _ => rfl)))) pss_nil) (pss_one (ps_ret pe_int)), ?_⟩
  refine ⟨_, rfl, _, rfl, a, _, rfl, .inl hS, _, _, rfl, rfl, _, rfl, ite2 (fun c => ?_) (fun c => ?_)⟩
  · have c' : k < (((ns.map V.int).length : Nat) : Int) := of_decide_eq_true c
    rw [List.length_map] at c'
    obtain ⟨j, rfl⟩ := Int.eq_ofNat_of_zero_le h0
    exact ⟨_, rfl, _, rfl, a, _, _, _, rfl, rfl, hS, atI_int (by omega), q _⟩
  · exact q 0

/-- the law's state: a list of one number -/
def St (st : Addr) (H : Hp) : Prop := ∃ s : Int, H st = some (.lst [.int s]) ∧ 0 ≤ s ∧ s < 2147483648
/-- all but the state is as it was -/
structure Ms (st : Addr) (H H' : Hp) : Prop where
  keep : ∀ b o, b ≠ st → H b = some o → H' b = some o
  st : St st H'
theorem Ms.trans {st : Addr} {H H1 H2 : Hp} (a : Ms st H H1) (b : Ms st H1 H2) : Ms st H H2 := ⟨fun c o n h => b.keep c o n (a.keep c o n h), b.st⟩
theorem Ms.of {st : Addr} {H H' : Hp} (h : St st H) (e : Same H H') : Ms st H H' := ⟨fun b o _ q => e b o q, let ⟨s, a, b⟩ := h; ⟨s, e _ _ a, b⟩⟩
theorem Ms.grow {st : Addr} {H H1 H2 : Hp} (a : Ms st H H1) (e : Same H1 H2) : Ms st H H2 := a.trans (.of a.st e)
/-- the script: not the state, or of the written part -/
def Off (K : PySem.W.Frag) (a st : Addr) (xs : List V) : Prop := a ≠ st ∨ ∀ H : Hp, SqL K H a xs
theorem Ms.free {st : Addr} {H H' : Hp} (m : Ms st H H') (hs : St st H) {l : Addr} (h : H' l = none) : H l = none := by
  cases q : H l with
  | none => rfl
  | some o =>
    by_cases e : l = st
    · obtain ⟨s, a, _⟩ := m.st
      rw [e, a] at h; cases h
    · rw [m.keep l o e q] at h; cases h

def spMix : Sp := fun vs H Q _ => ∃ (p : Addr) (c : Int), vs = [.ref p, .int c] ∧ St p H ∧ ∀ (r : Int) (H' : Hp), 0 ≤ r → r < 2147483648 → Ms p H H' → (∀ b, H b = none → H' b = none) → Q (.int r) H'
theorem ok_mix (T : Txt K mg A) : FnOk P w K mg base CX0 1 A.f_l_mix A.d_l_mix P_l_mix spMix := by
  refine T.F_l_mix.ok sc_l_mix (fun vs H Q E h => ?_) (fun cdv B outer s H vs Q E hr h => ?_)
  · obtain ⟨p, c, rfl, _⟩ := h; rfl
  obtain ⟨p, c, rfl, ⟨s0, hp, h0, h1⟩, q⟩ := h
  refine ⟨_, pss_cons (ps_asg (pe_op op_mod (pe_op op_add (pe_op op_add (pe_op op_mul (pe_ix ix_list (pv 0) pe_int (fun _ _ => rfl)) pe_int) (pe_op op_mul (pv 1) pe_int)) pe_int) pe_int) (pg_sub (pv 0) pe_int set_list))
    (pss_one (ps_ret (pe_op op_fdiv (pe_op op_mod (pe_op op_mul (pe_ix ix_list (pv 0) pe_int (fun _ _ => rfl)) (pe_ix ix_list (pv 0) pe_int (fun _ _ => rfl))) pe_int) pe_int))), ?_⟩
  refine ⟨_, rfl, p, _, _, _, rfl, rfl, .of hp, rfl, _, _, rfl, rfl, .inl ⟨by omega, by omega⟩, _, rfl, _, _, rfl, rfl, .inr ⟨by decide, by decide⟩, _, _, rfl, rfl, _, _, rfl, rfl, _, _, rfl, rfl, (by show (0 : Int) < 2147483647; decide), ?_⟩
  refine ⟨_, rfl, p, _, _, 0, rfl, rfl, hp, rfl, ?_⟩
  generalize hs1 : (s0 * 48271 + c * 16807 + 11) % 2147483647 = s1
  have b0 : 0 ≤ s1 := by rw [← hs1]; exact Int.emod_nonneg _ (by decide)
  have b1 : s1 < 2147483647 := by rw [← hs1]; exact Int.emod_lt_of_pos _ (by decide)
  refine ⟨_, rfl, p, _, _, _, rfl, rfl, .of upd_same, rfl, _, rfl, p, _, _, _, rfl, rfl, .of upd_same, rfl, _, _, rfl, rfl, .inl ⟨by omega, by omega⟩, _, _, rfl, rfl, (by show (0 : Int) < 2147483647; decide), _, _, rfl, rfl, ⟨by decide, by decide⟩, ?_⟩
  generalize hz : s1 * s1 % 2147483647 = z
  have c0 : 0 ≤ z := by rw [← hz]; exact Int.emod_nonneg _ (by decide)
  have c1 : z < 2147483647 := by rw [← hz]; exact Int.emod_lt_of_pos _ (by decide)
  refine q _ _ (by omega) (by omega) ⟨fun b o n e => by rw [upd_ne n]; exact e, ⟨s1, by rw [upd_same]; show some (HO.lst [V.int ((s0 * 48271 + c * 16807 + 11) % 2147483647)]) = _; rw [hs1], b0, by omega⟩⟩ fun b e => ?_
  rw [upd_ne (fun z => by rw [z, hp] at e; cases e)]; exact e
end
end KP

set_option linter.all false
set_option maxHeartbeats 4000000
set_option maxRecDepth 100000
namespace KP
open PySem L2 PyProof.Rows
section
variable {P : Program} {w : World} {K : PySem.W.Frag} {mg : Str → Option Value} {base : Heap} {A : Adr}
theorem St.ne {st : Addr} {H : Hp} (h : St st H) {l : Addr} (e : H l = none) : l ≠ st := fun z => by obtain ⟨s, a, _⟩ := h; rw [z, a] at e; cases e
theorem Ms.set {st : Addr} {H H' : Hp} (m : Ms st H H') {l : Addr} (o : HO) (e : H l = none) (n : l ≠ st) : Ms st H (upd H' l o) :=
  ⟨fun b u hb q => by rw [upd_ne (ne_of_none q e)]; exact m.keep b u hb q, let ⟨s, a, b⟩ := m.st; ⟨s, by rw [upd_ne n.symm]; exact a, b⟩⟩
theorem Ms.new {st : Addr} {H H' : Hp} (m : Ms st H H') {l : Addr} (o : HO) (e : H' l = none) : Ms st H (upd H' l o) := m.grow (same_upd e o)
theorem St.mk' {H : Hp} {st : Addr} (c : Int) : St st (upd H st (.lst [.int (1 + c % 2147483646)])) :=
  ⟨1 + c % 2147483646, upd_same, by have := Int.emod_nonneg c (show (2147483646 : Int) ≠ 0 by decide); omega, by have := Int.emod_lt_of_pos c (show (0 : Int) < 2147483646 by decide); omega⟩
theorem ix_any {H : Hp} {p : Addr} {xs : List V} {i : Int} {Q : VK} (hS : SqL K H p xs) (h0 : 0 ≤ i) (h1 : i < xs.length) (hq : ∀ v ∈ xs, Q v H) : rIxL K (.ref p) (.int i) H Q := by
  obtain ⟨v, hv, hm⟩ := atI_mem h0 h1
  exact ⟨p, xs, i, v, rfl, rfl, hS, hv, hq v hm⟩
theorem seqIx_natE {n a : Nat} {i : Int} (e : i = (a : Int)) (h : a < n) : seqIndex? i n = some a := by subst e; exact seqIx_nat h
end
end KP

set_option linter.all false
set_option maxHeartbeats 4000000
set_option maxRecDepth 100000
namespace KP
open PySem L2 PyProof.Rows
section
variable {P : Program} {w : World} {K : PySem.W.Frag} {mg : Str → Option Value} {base : Heap} {A : Adr}
def lim (n a b : Int) : Int := if (if b < n then b else n) > a then (if b < n then b else n) else a
theorem dget_s {H : Hp} {a : Addr} {kvs : List (Key × V)} {x : Str} {v : V} (hd : H a = some (.dK kvs)) (e : valV kvs (.inr x) = some v) : DGet H a (.str x) (some v) := by
  rw [← e]; exact DGet.k (k := .inr x) hd
theorem dput_s {H : Hp} {a : Addr} {kvs : List (Key × V)} {x : Str} {v : V} (hd : H a = some (.dK kvs)) (hl : kvs.length < 1000) : DPut H a (.str x) v (upd H a (.dK (putK kvs (.inr x) v))) :=
  DPut.k (k := .inr x) hd (small1000 (Nat.le_of_lt hl))
def spWhole : Sp := fun vs H Q _ => ∃ i : Int, vs = [.int i] ∧ Q (.bl true) H
theorem ok_whole (T : Txt K mg A) : FnOk P w K mg base CX0 1 A.f_l_whole A.d_l_whole P_l_whole spWhole := by
  refine T.F_l_whole.ok sc_l_whole (fun vs H Q E h => ?_) (fun cdv B outer s H vs Q E hr h => ?_)
  · obtain ⟨i, rfl, _⟩ := h; rfl
  obtain ⟨i, rfl, q⟩ := h
  refine ⟨_, pss_one (ps_ret (pe_and (pe_callB call_isi rfl T.n_isinstance b_isinstance (pa_cons (pv 0) (pa_cons (pe_bltn rfl T.n_int b_int (v := .ty "int") rfl) pa_nil))) (pe_one (pe_not (pe_callB call_isi rfl T.n_isinstance b_isinstance (pa_cons (pv 0) (pa_cons (pe_bltn rfl T.n_bool b_bool (v := .ty "bool") rfl) pa_nil))))))), ?_⟩
  refine ⟨_, rfl, _, "int", _, true, rfl, .int i, ?_, _, rfl, ?_⟩
  · unfold PySem.W.kitOne; rfl
  exact iteT ⟨_, rfl, _, "bool", _, false, rfl, .int i, kit_of T.kit (S := "int") (T := "bool") rfl rfl, _, rfl, q⟩
def spLim : Sp := fun vs H Q _ => ∃ n a b : Int, vs = [.int n, .int a, .int b] ∧ Q (.int (lim n a b)) H
theorem ok_limited (T : Txt K mg A) : FnOk P w K mg base CX0 1 A.f_limited A.d_limited P_limited spLim := by
  refine T.F_limited.ok sc_limited (fun vs H Q E h => ?_) (fun cdv B outer s H vs Q E hr h => ?_)
  · obtain ⟨n, a, b, rfl, _⟩ := h; rfl
  obtain ⟨n, a, b, rfl, q⟩ := h
  refine ⟨_, pss_one (ps_ret (pe_callB (call_max2 rfl) rfl T.n_max b_max (pa_cons (pv 1) (pa_cons (pe_callB (call_min2 rfl) rfl T.n_min b_min (pa_cons (pv 0) (pa_cons (pv 2) pa_nil))) pa_nil)))), ?_⟩
  exact ⟨_, rfl, _, rfl, _, rfl, _, _, rfl, _, _, rfl, q⟩
structure Bnd (kvs : List (Key × V)) (a b : Int) : Prop where
  nn : 0 ≤ a
  lo : valV kvs (.inr "leastw") = some (.int a)
  hi : valV kvs (.inr "mostw") = some (.int b)
def spLimW : Sp := fun vs H Q _ => ∃ (d : Addr) (kvs : List (Key × V)) (n a b : Int), vs = [.ref d, .int n] ∧ H d = some (.dK kvs) ∧ Bnd kvs a b ∧ Q (.int (lim n a b)) H
theorem ok_limited_wide (T : Txt K mg A) : FnOk P w K mg base CX0 2 A.f_limited_wide A.d_limited_wide P_limited_wide spLimW := by
  have G_limited : FnOk P w K mg base CX0 1 A.f_limited A.d_limited P_limited spLim := ok_limited T
  refine T.F_limited_wide.ok sc_limited_wide (fun vs H Q E h => ?_) (fun cdv B outer s H vs Q E hr h => ?_)
  · obtain ⟨d, kvs, n, a, b, rfl, _⟩ := h; rfl
  obtain ⟨d, kvs, n, a, b, rfl, hd, bd, q⟩ := h
  refine ⟨_, pss_one (ps_ret (pe_call G_limited hr rfl T.m_limited T.F_limited.kp T.b_limited .nil pass0 (pa_cons (pv 1) (pa_cons (pe_dget (hu_of hr) (pv 0) pe_str (fun _ _ => rfl)) (pa_cons (pe_dget (hu_of hr) (pv 0) pe_str (fun _ _ => rfl)) pa_nil))))), ?_⟩
  exact ⟨_, rfl, _, rfl, d, _, rfl, dget_s hd bd.lo, _, rfl, d, _, rfl, dget_s hd bd.hi, n, a, b, rfl, q⟩
/-- what stands under wide -/
inductive Way where
  | hold | fixed (n : Int) | share (n : Int)
def Way.vs : Way → List V
  | .hold => [.str "hold"]
  | .fixed n => [.str "fixed", .int n]
  | .share n => [.str "share", .int n]
structure Shp (H : Hp) (d : Addr) (kvs : List (Key × V)) (t : Addr) (y : Way) (a b : Int) : Prop where
  ad : H d = some (.dK kvs)
  wide : valV kvs (.inr "wide") = some (.ref t)
  tup : H t = some (.tup y.vs)
  bd : Bnd kvs a b
theorem sHF : ¬ (V.str "hold" = V.str "fixed") := by decide +kernel
theorem sSF : ¬ (V.str "share" = V.str "fixed") := by decide +kernel
theorem iteN {c A B : Prop} [Decidable c] (hc : ¬ c) (h : B) : if decide c = true then A else B := by rw [decide_eq_false hc]; exact iteF h
theorem iteY {c A B : Prop} [Decidable c] (hc : c) (h : A) : if decide c = true then A else B := by rw [decide_eq_true hc]; exact iteT h
theorem ok_l_limited (T : Txt K mg A) : FnOk P w K mg base CX0 1 A.f_l_limited A.d_l_limited P_l_limited spLim := by
  refine T.F_l_limited.ok sc_l_limited (fun vs H Q E h => ?_) (fun cdv B outer s H vs Q E hr h => ?_)
  · obtain ⟨n, a, b, rfl, _⟩ := h; rfl
  obtain ⟨n, a, b, rfl, q⟩ := h
  refine ⟨_, @pss_cons _ _ _ _ _ (ps_if (pt_cmpR op_gt (pv 0) (pv 2) (nomark _)) (pss_one (ps_set (i := 0) sc_l_limited.nd rfl (Or.inl rfl) (pv 2))) pss_nil)
    (@pss_cons _ _ _ _ _ (ps_if (pt_cmpR op_lt (pv 0) (pv 1) (nomark _)) (pss_one (ps_set (i := 0) sc_l_limited.nd rfl (Or.inl rfl) (pv 1))) pss_nil)
    (pss_one (ps_ret (pv 0)))), ?_⟩
  have fin : ∀ r : Int, r = lim n a b → Q (.int r) H := fun r e => by rw [e]; exact q
  refine ⟨_, rfl, _, rfl, _, _, rfl, rfl, _, rfl, ite2 (fun c => ?_) (fun c => ?_)⟩
  · have c' : b < n := of_decide_eq_true c
    refine ⟨_, rfl, _, rfl, _, rfl, _, _, rfl, rfl, _, rfl, ite2 (fun c2 => ?_) (fun c2 => ?_)⟩
    · have c2' : b < a := of_decide_eq_true c2
      exact ⟨_, rfl, _, rfl, fin _ (by unfold lim; rw [if_pos c']; rw [if_neg (by omega)])⟩
    · have c2' : ¬ b < a := fun z => c2 (decide_eq_true z)
      refine ⟨_, rfl, fin _ ?_⟩
      unfold lim; rw [if_pos c']; split <;> omega
  · have c' : ¬ b < n := fun z => c (decide_eq_true z)
    refine ⟨_, rfl, _, rfl, _, _, rfl, rfl, _, rfl, ite2 (fun c2 => ?_) (fun c2 => ?_)⟩
    · have c2' : n < a := of_decide_eq_true c2
      exact ⟨_, rfl, _, rfl, fin _ (by unfold lim; rw [if_neg c']; rw [if_neg (by omega)])⟩
    · have c2' : ¬ n < a := fun z => c2 (decide_eq_true z)
      refine ⟨_, rfl, fin _ ?_⟩
      unfold lim; rw [if_neg c']; split <;> omega
end
end KP

set_option linter.all false
set_option maxHeartbeats 4000000
set_option maxRecDepth 100000
namespace KP
open PySem L2 PyProof.Rows
section
variable {P : Program} {w : World} {K : PySem.W.Frag} {mg : Str → Option Value} {base : Heap} {A : Adr}
/-- all but two objects is as it was -/
def Kp (st d : Addr) (H H' : Hp) : Prop := ∀ b o, b ≠ st → b ≠ d → H b = some o → H' b = some o
theorem Kp.refl (st d : Addr) (H : Hp) : Kp st d H H := fun _ _ _ _ h => h
theorem Kp.trans {st d : Addr} {H H1 H2 : Hp} (a : Kp st d H H1) (b : Kp st d H1 H2) : Kp st d H H2 := fun c o n m h => b c o n m (a c o n m h)
theorem Kp.ms {st d : Addr} {H H' : Hp} (m : Ms st H H') : Kp st d H H' := fun b o n _ h => m.keep b o n h
theorem Kp.same {st d : Addr} {H H' : Hp} (m : Same H H') : Kp st d H H' := fun b o _ _ h => m b o h
theorem Kp.upd {st d : Addr} {H : Hp} (o' : HO) : Kp st d H (upd H d o') := fun b o _ n h => by rw [upd_ne n]; exact h
theorem nd_put {κ : Type} [DecidableEq κ] {kvs : List (κ × V)} {k : κ} {v : V} (h : (kvs.map (·.1)).Nodup) : ((putK kvs k v).map (·.1)).Nodup := by
  cases e : valV kvs k with
  | none => exact nd_putK v h e
  | some u =>
    have a : (kvs.any fun kv => decide (kv.1 = k)) = true := by rw [valV_any, e]; rfl
    unfold putK
    rw [if_pos a, List.map_map]
    have : ((fun x : κ × V => x.1) ∘ fun kv => if kv.1 = k then (kv.1, v) else kv) = fun x => x.1 := by
      funext x; show (if x.1 = k then (x.1, v) else x).1 = x.1; split <;> rfl
    rw [this]; exact h
theorem pl_put {κ : Type} [DecidableEq κ] {kvs : List (κ × V)} {k : κ} {v : V} (h : ∀ kv ∈ kvs, plainV kv.2 = true) (hv : plainV v = true) : ∀ kv ∈ putK kvs k v, plainV kv.2 = true := by
  intro kv hk
  unfold putK at hk
  split at hk
  · obtain ⟨x, hx, rfl⟩ := List.mem_map.mp hk
    split
    · exact hv
    · exact h x hx
  · rcases List.mem_append.mp hk with hk | hk
    · exact h kv hk
    · rw [List.mem_singleton.mp hk]; exact hv
/-- a dict in the making -/
structure Bld (st d : Addr) (H H' : Hp) (kvs : List (Key × V)) (n : Nat) : Prop where
  ms : Ms st H H'
  ad : H' d = some (.dK kvs)
  nd : (kvs.map (·.1)).Nodup
  pl : ∀ kv ∈ kvs, plainV kv.2 = true
  len : kvs.length ≤ n
theorem Bld.ne {st d : Addr} {H H' : Hp} {kvs : List (Key × V)} {n : Nat} (b : Bld st d H H' kvs n) : d ≠ st := fun z => by
  obtain ⟨s, e, _⟩ := b.ms.st
  have := b.ad
  rw [z, e] at this; cases this
theorem Bld.step {st d : Addr} {H H' H'' : Hp} {kvs : List (Key × V)} {n : Nat} (b : Bld st d H H' kvs n) (m : Ms st H' H'') : Bld st d H H'' kvs n := ⟨b.ms.trans m, m.keep _ _ b.ne b.ad, b.nd, b.pl, b.len⟩
theorem Bld.grow {st d : Addr} {H H' H'' : Hp} {kvs : List (Key × V)} {n : Nat} (b : Bld st d H H' kvs n) (m : Same H' H'') : Bld st d H H'' kvs n := ⟨b.ms.grow m, m _ _ b.ad, b.nd, b.pl, b.len⟩
theorem Bld.put {st d : Addr} {H H' : Hp} {kvs : List (Key × V)} {n : Nat} (b : Bld st d H H' kvs n) (hd : H d = none) (k : Key) {v : V} (hv : plainV v = true) : Bld st d H (upd H' d (.dK (putK kvs k v))) (putK kvs k v) (n + 1) :=
  ⟨b.ms.set _ hd b.ne, upd_same, nd_put b.nd, pl_put b.pl hv, by have := length_putK kvs k v; have := b.len; omega⟩
theorem val_put {kvs : List (Key × V)} {k j : Key} {v : V} (h : j ≠ k) : valV (putK kvs k v) j = valV kvs j := by rw [valV_put, if_neg h]
theorem val_at {kvs : List (Key × V)} {k : Key} {v : V} : valV (putK kvs k v) k = some v := by rw [valV_put, if_pos rfl]
/-- what is asked of a shape, its dict aside -/
structure Fx (H : Hp) (kvs : List (Key × V)) (t : Addr) (y : Way) : Prop where
  wide : valV kvs (.inr "wide") = some (.ref t)
  tup : H t = some (.tup y.vs)
theorem Fx.kp {st d : Addr} {H H' H0 : Hp} {kvs kvs' : List (Key × V)} {t : Addr} {y : Way} {n : Nat} (f : Fx H kvs t y) (b : Bld st d H0 H kvs n) (k : Kp st d H H') (e : valV kvs' (.inr "wide") = valV kvs (.inr "wide")) : Fx H' kvs' t y := by
  refine ⟨e.trans f.wide, k _ _ (fun z => ?_) (fun z => ?_) f.tup⟩
  · obtain ⟨s, e, _⟩ := b.ms.st
    have := f.tup
    rw [z, e] at this; cases this
  · have := b.ad
    rw [← z, f.tup] at this; cases this
def spShape : Sp := fun vs H Q _ => ∃ st : Addr, vs = [.ref st] ∧ St st H ∧ ∀ (d t : Addr) (kvs : List (Key × V)) (y : Way) (a b : Int) (H' : Hp), Ms st H H' → H d = none → Shp H' d kvs t y a b → (∃ pad gap : Int, valV kvs (.inr "pad") = some (.int pad) ∧ valV kvs (.inr "gap") = some (.int gap)) → kvs.length ≤ 16 → (kvs.map (·.1)).Nodup → (∀ kv ∈ kvs, plainV kv.2 = true) → Q (.ref d) H'
theorem iW : (Sum.inr (Str.ofString "wide") : Key) ≠ Sum.inr (Str.ofString "high") := by decide +kernel
theorem lW : ("least" ++ "w" : Str) = "leastw" := by decide +kernel
theorem mW : ("most" ++ "w" : Str) = "mostw" := by decide +kernel
theorem pvl {xs : List V} (h : xs.all plainV = true) {v : V} (hv : v ∈ xs) : plainV v = true := List.all_eq_true.mp h v hv
theorem ok_shape (T : Txt K mg A) : FnOk P w K mg base CX0 2 A.f_l_shape A.d_l_shape P_l_shape spShape := by
  have G_l_mix : FnOk P w K mg base CX0 1 A.f_l_mix A.d_l_mix P_l_mix spMix := ok_mix T
  refine T.F_l_shape.ok sc_l_shape (fun vs H Q E h => ?_) (fun cdv B outer s H vs Q E hr h => ?_)
  · obtain ⟨st, rfl, _⟩ := h; rfl
  obtain ⟨st, rfl, hst, q⟩ := h
  refine ⟨_, @pss_cons _ _ _ _ _ (ps_set (i := 1) sc_l_shape.nd rfl (Or.inl rfl) pe_dict0)
    (@pss_cons _ _ _ _ _ (ps_for PassesOwn.never rfl (pi_list (pe_lst (pa_cons pe_str (pa_cons pe_str pa_nil)))) (pg_name (i := 2) sc_l_shape.nd rfl (Or.inl rfl)) (@pss_cons _ _ _ _ _ (ps_set (i := 3) sc_l_shape.nd rfl (Or.inl rfl) (pe_op op_mod (pe_call G_l_mix hr rfl T.m_l_mix T.F_l_mix.kp T.b_l_mix .nil pass0 (pa_cons (pv 0) (pa_cons pe_int pa_nil))) pe_int))
    (@pss_cons _ _ _ _ _ (ps_dput (hu_of hr) (pv 1) (pv 2) (pe_tup (pa_cons pe_str pa_nil)) rfl)
    (@pss_cons _ _ _ _ _ (ps_if (pt_cmpR op_eq (pv 3) pe_int (nomark _)) (pss_one (ps_dput (hu_of hr) (pv 1) (pv 2) (pe_tup (pa_cons pe_str (pa_cons (pe_op op_mod (pe_call G_l_mix hr rfl T.m_l_mix T.F_l_mix.kp T.b_l_mix .nil pass0 (pa_cons (pv 0) (pa_cons pe_int pa_nil))) pe_int) pa_nil))) rfl)) pss_nil)
    (pss_one (ps_if (pt_cmpR op_gt (pv 3) pe_int (nomark _)) (pss_one (ps_dput (hu_of hr) (pv 1) (pv 2) (pe_tup (pa_cons pe_str (pa_cons (pe_op op_add pe_int (pe_op op_mod (pe_call G_l_mix hr rfl T.m_l_mix T.F_l_mix.kp T.b_l_mix .nil pass0 (pa_cons (pv 0) (pa_cons pe_int pa_nil))) (pe_ix ix_list (pe_lst (pa_cons pe_int (pa_cons pe_int pa_nil))) (pe_op op_mod (pe_call G_l_mix hr rfl T.m_l_mix T.F_l_mix.kp T.b_l_mix .nil pass0 (pa_cons (pv 0) (pa_cons pe_int pa_nil))) pe_int) (fun _ _ => rfl)))) pa_nil))) rfl)) pss_nil))))))
    (@pss_cons _ _ _ _ _ (ps_for PassesOwn.never rfl (pi_list (pe_lst (pa_cons pe_str (pa_cons pe_str pa_nil)))) (pg_name (i := 2) sc_l_shape.nd rfl (Or.inl rfl)) (@pss_cons _ _ _ _ _ (ps_dput (hu_of hr) (pv 1) (pe_op op_add_str pe_str (pv 2)) (pe_ix ix_list (pe_lst (pa_cons pe_int (pa_cons pe_int (pa_cons pe_int (pa_cons (pe_op op_mod (pe_call G_l_mix hr rfl T.m_l_mix T.F_l_mix.kp T.b_l_mix .nil pass0 (pa_cons (pv 0) (pa_cons pe_int pa_nil))) pe_int) pa_nil))))) (pe_op op_mod (pe_call G_l_mix hr rfl T.m_l_mix T.F_l_mix.kp T.b_l_mix .nil pass0 (pa_cons (pv 0) (pa_cons pe_int pa_nil))) pe_int) (fun _ _ => rfl)) rfl)
    (pss_one (ps_dput (hu_of hr) (pv 1) (pe_op op_add_str pe_str (pv 2)) (pe_ix ix_list (pe_lst (pa_cons pe_int (pa_cons pe_int (pa_cons pe_int (pa_cons (pe_op op_mod (pe_call G_l_mix hr rfl T.m_l_mix T.F_l_mix.kp T.b_l_mix .nil pass0 (pa_cons (pv 0) (pa_cons pe_int pa_nil))) pe_int) pa_nil))))) (pe_op op_mod (pe_call G_l_mix hr rfl T.m_l_mix T.F_l_mix.kp T.b_l_mix .nil pass0 (pa_cons (pv 0) (pa_cons pe_int pa_nil))) pe_int) (fun _ _ => rfl)) rfl))))
    (@pss_cons _ _ _ _ _ (ps_dput (hu_of hr) (pv 1) pe_str (pe_ix ix_list (pe_lst (pa_cons pe_int (pa_cons pe_int (pa_cons pe_int (pa_cons pe_int pa_nil))))) (pe_op op_mod (pe_call G_l_mix hr rfl T.m_l_mix T.F_l_mix.kp T.b_l_mix .nil pass0 (pa_cons (pv 0) (pa_cons pe_int pa_nil))) pe_int) (fun _ _ => rfl)) rfl)
    (@pss_cons _ _ _ _ _ (ps_dput (hu_of hr) (pv 1) pe_str (pe_ix ix_list (pe_lst (pa_cons pe_int (pa_cons pe_int (pa_cons pe_int (pa_cons pe_int pa_nil))))) (pe_op op_mod (pe_call G_l_mix hr rfl T.m_l_mix T.F_l_mix.kp T.b_l_mix .nil pass0 (pa_cons (pv 0) (pa_cons pe_int pa_nil))) pe_int) (fun _ _ => rfl)) rfl)
    (@pss_cons _ _ _ _ _ (ps_dput (hu_of hr) (pv 1) pe_str (pe_cmpR op_eq (pe_op op_mod (pe_call G_l_mix hr rfl T.m_l_mix T.F_l_mix.kp T.b_l_mix .nil pass0 (pa_cons (pv 0) (pa_cons pe_int pa_nil))) pe_int) pe_int (nomark _)) rfl)
    (@pss_cons _ _ _ _ _ (ps_dput (hu_of hr) (pv 1) pe_str (pe_cmpR op_eq (pe_op op_mod (pe_call G_l_mix hr rfl T.m_l_mix T.F_l_mix.kp T.b_l_mix .nil pass0 (pa_cons (pv 0) (pa_cons pe_int pa_nil))) pe_int) pe_int (nomark _)) rfl)
    (@pss_cons _ _ _ _ _ (ps_dput (hu_of hr) (pv 1) pe_str (pe_ix ix_list (pe_lst (pa_cons pe_str (pa_cons pe_str (pa_cons pe_str pa_nil)))) (pe_op op_mod (pe_call G_l_mix hr rfl T.m_l_mix T.F_l_mix.kp T.b_l_mix .nil pass0 (pa_cons (pv 0) (pa_cons pe_int pa_nil))) pe_int) (fun _ _ => rfl)) rfl)
    (@pss_cons _ _ _ _ _ (ps_dput (hu_of hr) (pv 1) pe_str (pe_ix ix_list (pe_lst (pa_cons pe_str (pa_cons pe_str (pa_cons pe_str pa_nil)))) (pe_op op_mod (pe_call G_l_mix hr rfl T.m_l_mix T.F_l_mix.kp T.b_l_mix .nil pass0 (pa_cons (pv 0) (pa_cons pe_int pa_nil))) pe_int) (fun _ _ => rfl)) rfl)
    (pss_one (ps_ret (pv 1))))))))))), ?_⟩
  refine fun d hd => ?_
  have nds : d ≠ st := hst.ne hd
  have b0 : Bld st d H (upd H d (.dK [])) [] 0 := ⟨.new (.of hst (fun _ _ h => h)) _ hd, upd_same, List.nodup_nil, fun _ h => (nomatch h), Nat.le_refl _⟩
  generalize upd H d (.dK []) = H0 at b0 ⊢
  refine ⟨(by show 2 ≤ sizeLine; decide), fun l1 hl1 => ?_⟩
  have k1 := same_upd hl1 (.lst [.str "wide", .str "high"])
  have b1 := b0.grow k1
  have e1 : upd H0 l1 (.lst [.str "wide", .str "high"]) l1 = _ := upd_same
  generalize upd H0 l1 (.lst [.str "wide", .str "high"]) = H1 at b1 e1 k1 ⊢
  have n1s : l1 ≠ st := b0.ms.st.ne hl1
  have n1d : l1 ≠ d := fun z => by rw [z, b0.ad] at hl1; cases hl1
  refine ⟨l1, rfl, ⟨_, .of e1⟩, for_list (K := K) (a := l1) (xs := [.str "wide", .str "high"])
    (fun i σ H' => ∃ (kvs : List (Key × V)) (w2 w3 : Option V), σ = [some (.ref st), some (.ref d), w2, w3] ∧ Bld st d H H' kvs (3 * i) ∧ H' l1 = some (.lst [.str "wide", .str "high"]) ∧ (1 ≤ i → ∃ t y, Fx H' kvs t y))
    ⟨[], none, none, rfl, b1, e1, fun z => absurd z (by decide)⟩ (fun i σ H' _ ⟨_, _, _, _, _, e, _⟩ => .of e) ?_ ?_⟩
  · rintro i x σ H' hx ⟨kvs, w2, w3, rfl, b, el, hF⟩
    obtain ⟨wd, rfl, hwd⟩ : ∃ wd : Str, x = .str wd ∧ ((i = 0 ∧ wd = "wide") ∨ (i = 1 ∧ wd = "high")) := by
      match i, hx with
      | 0, hx => cases hx; exact ⟨_, rfl, .inl ⟨rfl, rfl⟩⟩
      | 1, hx => cases hx; exact ⟨_, rfl, .inr ⟨rfl, rfl⟩⟩
    have fin : ∀ (kvs' : List (Key × V)) (H2 : Hp) (t : Addr) (y : Way) (w3 : Option V), Bld st d H H2 kvs' (3 * (i + 1)) → Kp st d H' H2 → valV kvs' (.inr wd) = some (.ref t) → H2 t = some (.tup y.vs) → (∀ j : Key, j ≠ .inr wd → valV kvs' j = valV kvs j) →
        ∃ (kvs : List (Key × V)) (w2 w3' : Option V), [some (.ref st), some (.ref d), some (.str wd), w3] = [some (.ref st), some (.ref d), w2, w3'] ∧ Bld st d H H2 kvs (3 * (i + 1)) ∧ H2 l1 = some (.lst [.str "wide", .str "high"]) ∧ (1 ≤ i + 1 → ∃ t y, Fx H2 kvs t y) := by
      intro kvs' H2 t y w3 b2 kp e1 e2 e3
      refine ⟨kvs', _, _, rfl, b2, kp _ _ n1s n1d el, fun _ => ?_⟩
      rcases hwd with ⟨rfl, rfl⟩ | ⟨rfl, rfl⟩
      · exact ⟨t, y, e1, e2⟩
      · obtain ⟨t', y', f⟩ := hF (by decide)
        exact ⟨t', y', f.kp b kp (e3 _ iW)⟩
    refine ⟨_, rfl, st, 0, rfl, b.ms.st, fun r H2 r0 r1 m2 f2 => ⟨_, _, rfl, rfl, (by show (0:Int) < 5; decide), ?_⟩⟩
    have b2 := b.step m2
    have kp2 : Kp st d H' H2 := .ms m2
    have hi : i ≤ 1 := by (rcases hwd with ⟨rfl, _⟩ | ⟨rfl, _⟩ <;> decide)
    show tSeq _ _ _ [some (.ref st), some (.ref d), some (.str wd), some (.int (r % 5))] H2
    generalize hwy : r % 5 = wy
    refine ⟨(by show 1 ≤ sizeLine; decide), fun t ht => ⟨_, rfl, _, rfl, d, _, rfl, dput_s (same_upd ht _ _ _ b2.ad) (by have := b2.len; omega), ?_⟩⟩
    have b3 := (b2.grow (same_upd ht (.tup [.str "hold"]))).put hd (.inr wd) (v := .ref t) rfl
    have kp3 := kp2.trans (.trans (.same (same_upd ht (.tup [.str "hold"]))) (.upd (.dK (putK kvs (.inr wd) (.ref t)))))
    have ntd : t ≠ d := fun z => by rw [z, b2.ad] at ht; cases ht
    have et : upd (upd H2 t (.tup [.str "hold"])) d (.dK (putK kvs (.inr wd) (.ref t))) t = some (.tup (Way.hold).vs) := by rw [upd_ne ntd, upd_same]; rfl
    generalize upd (upd H2 t (.tup [.str "hold"])) d (.dK (putK kvs (.inr wd) (.ref t))) = H3 at b3 kp3 et ⊢
    refine ⟨_, rfl, rfl, _, rfl, ite2 (fun c => ?_) (fun c => ?_)⟩
    · have c' : wy = 1 := eqV' c
      refine ⟨_, rfl, st, 0, rfl, b3.ms.st, fun r H4 r0 r1 m4 f4 => ⟨_, _, rfl, rfl, (by show (0:Int) < 13; decide), (by show 2 ≤ sizeLine; decide), fun t2 ht2 => ?_⟩⟩
      have b4 := b3.step m4
      refine ⟨_, rfl, _, rfl, d, _, rfl, dput_s (same_upd ht2 _ _ _ b4.ad) (by have := b4.len; omega), ?_⟩
      have b5 := (b4.grow (same_upd ht2 (.tup [.str "fixed", .int (r % 13)]))).put hd (.inr wd) (v := .ref t2) rfl
      have nt : t2 ≠ d := fun z => by rw [z, b4.ad] at ht2; cases ht2
      refine ⟨_, rfl, _, _, rfl, rfl, _, rfl, ite2 (fun c2 => ?_) (fun c2 => ?_)⟩
      · have : 2 < wy := of_decide_eq_true c2
        omega
      refine fin _ _ t2 (.fixed (r % 13)) _ ⟨b5.ms, b5.ad, b5.nd, b5.pl, by have := b5.len; omega⟩ (kp3.trans (.trans (.ms m4) (.trans (.same (same_upd ht2 _)) (.upd _)))) val_at ?_ fun j hj => ?_
      · rw [upd_ne nt, upd_same]; rfl
      · rw [val_put hj, val_put hj]
    · refine ⟨_, rfl, _, _, rfl, rfl, _, rfl, ite2 (fun c2 => ?_) (fun c2 => ?_)⟩
      · refine ⟨_, rfl, st, 0, rfl, b3.ms.st, fun r H4 r0 r1 m4 f4 => ⟨(by show 2 ≤ sizeLine; decide), fun l2 hl2 => ⟨_, rfl, st, 0, rfl, (b3.ms.trans (m4.grow (same_upd hl2 _))).st, fun r' H5 r0' r1' m5 f5 => ⟨_, _, rfl, rfl, (by show (0:Int) < 2; decide), ?_⟩⟩⟩⟩
        have b4 := b3.step m4
        have nl2 : l2 ≠ st := b4.ms.st.ne hl2
        have b5 := (b4.grow (same_upd hl2 _)).step m5
        have kp5 := kp3.trans (.trans (.ms m4) (.trans (.same (same_upd hl2 _)) (.ms m5)))
        have a0 := Int.emod_nonneg r' (show (2:Int) ≠ 0 by decide)
        have a1 := Int.emod_lt_of_pos r' (show (0:Int) < 2 by decide)
        refine ix_any (.of (m5.keep _ _ nl2 upd_same)) a0 (by simpa using a1) fun v hv => ?_
        obtain ⟨m, rfl, hm⟩ : ∃ m : Int, v = .int m ∧ 0 < m := by
          have : v = .int 3 ∨ v = .int 99 := by simpa using hv
          rcases this with rfl | rfl
          · exact ⟨_, rfl, by decide⟩
          · exact ⟨_, rfl, by decide⟩
        refine ⟨_, _, rfl, rfl, hm, _, _, rfl, rfl, (by show 2 ≤ sizeLine; decide), fun t2 ht2 => ?_⟩
        refine ⟨_, rfl, _, rfl, d, _, rfl, dput_s (same_upd ht2 _ _ _ b5.ad) (by have := b5.len; omega), ?_⟩
        have b6 := (b5.grow (same_upd ht2 (.tup [.str "share", .int (1 + r % m)]))).put hd (.inr wd) (v := .ref t2) rfl
        have nt : t2 ≠ d := fun z => by rw [z, b5.ad] at ht2; cases ht2
        refine fin _ _ t2 (.share (1 + r % m)) _ ⟨b6.ms, b6.ad, b6.nd, b6.pl, by have := b6.len; omega⟩ (kp5.trans (.trans (.same (same_upd ht2 _)) (.upd _))) val_at ?_ fun j hj => ?_
        · rw [upd_ne nt, upd_same]; rfl
        · rw [val_put hj, val_put hj]
      · exact fin _ _ t .hold _ ⟨b3.ms, b3.ad, b3.nd, b3.pl, by have := b3.len; omega⟩ kp3 val_at et fun j hj => val_put hj
  rintro σ H' ⟨kvs, w2, w3, rfl, b, el, hF⟩
  obtain ⟨t, y, f⟩ := hF (by decide)
  replace b : Bld st d H H' kvs 6 := b
  clear hF el e1 b1 k1 n1s n1d b0
  -- the bounds
  refine ⟨(by show 2 ≤ sizeLine; decide), fun l2 hl2 => ?_⟩
  have n2s : l2 ≠ st := b.ms.st.ne hl2
  have n2d : l2 ≠ d := fun z => by rw [z, b.ad] at hl2; cases hl2
  have k2 := same_upd hl2 (.lst [.str "w", .str "h"])
  have b2 := b.grow k2
  have f2 := f.kp b (.same k2) rfl
  have e2 : upd H' l2 (.lst [.str "w", .str "h"]) l2 = _ := upd_same
  generalize upd H' l2 (.lst [.str "w", .str "h"]) = H2 at b2 e2 f2 ⊢
  refine ⟨l2, rfl, ⟨_, .of e2⟩, for_list (K := K) (a := l2) (xs := [.str "w", .str "h"])
    (fun i σ H' => ∃ (kvs : List (Key × V)) (w2 w3 : Option V) (t : Addr) (y : Way), σ = [some (.ref st), some (.ref d), w2, w3] ∧ Bld st d H H' kvs (6 + 2 * i) ∧ H' l2 = some (.lst [.str "w", .str "h"]) ∧ Fx H' kvs t y ∧ (1 ≤ i → ∃ a b, Bnd kvs a b))
    ⟨kvs, _, _, t, y, rfl, b2, e2, f2, fun z => absurd z (by decide)⟩ (fun i σ H' _ ⟨_, _, _, _, _, _, _, e, _⟩ => .of e) ?_ ?_⟩
  · clear b2 f2 e2 b f k2 hl2
    rintro i x σ H' hx ⟨kvs, w2, w3, t, y, rfl, b, el, f, hB⟩
    obtain ⟨wd, rfl, hwd⟩ : ∃ wd : Str, x = .str wd ∧ ((i = 0 ∧ wd = "w") ∨ (i = 1 ∧ wd = "h")) := by
      match i, hx with
      | 0, hx => cases hx; exact ⟨_, rfl, .inl ⟨rfl, rfl⟩⟩
      | 1, hx => cases hx; exact ⟨_, rfl, .inr ⟨rfl, rfl⟩⟩
    have hi : i ≤ 1 := by (rcases hwd with ⟨rfl, _⟩ | ⟨rfl, _⟩ <;> decide)
    have hwl : ("least" : Str).length + wd.length ≤ sizeLine ∧ ("most" : Str).length + wd.length ≤ sizeLine := by
      rcases hwd with ⟨_, rfl⟩ | ⟨_, rfl⟩ <;> exact ⟨by decide +kernel, by decide +kernel⟩
    refine ⟨_, rfl, st, 0, rfl, b.ms.st, fun r H3 r0 r1 m3 f3 => ⟨_, _, rfl, rfl, (by show (0:Int) < 9; decide), (by show 4 ≤ sizeLine; decide), fun l3 hl3 => ⟨_, rfl, st, 0, rfl, (b.ms.trans (m3.grow (same_upd hl3 _))).st, fun r' H4 r0' r1' m4 f4 => ⟨_, _, rfl, rfl, (by show (0:Int) < 4; decide), ?_⟩⟩⟩⟩
    have b3 := b.step m3
    have nl3 : l3 ≠ st := b3.ms.st.ne hl3
    have b4 := (b3.grow (same_upd hl3 _)).step m4
    have kp4 : Kp st d H' H4 := .trans (.ms m3) (.trans (.same (same_upd hl3 _)) (.ms m4))
    refine ix_any (.of (m4.keep _ _ nl3 upd_same)) (Int.emod_nonneg r' (show (4:Int) ≠ 0 by decide)) (by simpa using Int.emod_lt_of_pos r' (show (0:Int) < 4 by decide)) fun v hv => ?_
    obtain ⟨lo, rfl, lo0⟩ : ∃ m : Int, v = .int m ∧ 0 ≤ m := by
      have : v = .int 0 ∨ v = .int (r % 9) := by simpa using hv
      rcases this with rfl | rfl
      · exact ⟨_, rfl, by decide⟩
      · exact ⟨_, rfl, Int.emod_nonneg r (by decide)⟩
    clear hv
    refine ⟨_, rfl, _, rfl, _, _, rfl, rfl, hwl.1, d, _, rfl, dput_s b4.ad (by have := b4.len; omega), ?_⟩
    have b5 := b4.put hd (.inr ("least" ++ wd)) (v := .int lo) rfl
    have kp5 := kp4.trans (.upd (.dK (putK kvs (.inr ("least" ++ wd)) (.int lo))))
    generalize upd H4 d (.dK (putK kvs (.inr ("least" ++ wd)) (.int lo))) = H5 at b5 kp5 ⊢
    refine ⟨_, rfl, st, 0, rfl, b5.ms.st, fun r H6 r0 r1 m6 f6 => ⟨_, _, rfl, rfl, (by show (0:Int) < 15; decide), (by show 4 ≤ sizeLine; decide), fun l6 hl6 => ⟨_, rfl, st, 0, rfl, (b5.ms.trans (m6.grow (same_upd hl6 _))).st, fun r' H7 r0' r1' m7 f7 => ⟨_, _, rfl, rfl, (by show (0:Int) < 4; decide), ?_⟩⟩⟩⟩
    have b6 := b5.step m6
    have nl6 : l6 ≠ st := b6.ms.st.ne hl6
    have b7 := (b6.grow (same_upd hl6 _)).step m7
    have kp7 := kp5.trans (.trans (.ms m6) (.trans (.same (same_upd hl6 _)) (.ms m7)))
    refine ix_any (.of (m7.keep _ _ nl6 upd_same)) (Int.emod_nonneg r' (show (4:Int) ≠ 0 by decide)) (by simpa using Int.emod_lt_of_pos r' (show (0:Int) < 4 by decide)) fun v hv => ?_
    obtain ⟨hi', rfl⟩ : ∃ m : Int, v = .int m := by
      have : v = .int 400 ∨ v = .int (r % 15) := by simpa using hv
      rcases this with rfl | rfl <;> exact ⟨_, rfl⟩
    clear hv
    refine ⟨_, rfl, _, rfl, _, _, rfl, rfl, hwl.2, d, _, rfl, dput_s b7.ad (by have := b7.len; omega), ?_⟩
    have b8 := b7.put hd (.inr ("most" ++ wd)) (v := .int hi') rfl
    have kp8 := kp7.trans (.upd (.dK (putK (putK kvs (.inr ("least" ++ wd)) (.int lo)) (.inr ("most" ++ wd)) (.int hi'))))
    refine ⟨_, _, _, t, y, rfl, ⟨b8.ms, b8.ad, b8.nd, b8.pl, by have := b8.len; omega⟩, kp8 _ _ n2s n2d el, f.kp b kp8 ?_, fun _ => ?_⟩
    · rcases hwd with ⟨_, rfl⟩ | ⟨_, rfl⟩ <;> rw [val_put (by decide +kernel), val_put (by decide +kernel)]
    · rcases hwd with ⟨_, rfl⟩ | ⟨rfl, rfl⟩
      · refine ⟨lo, hi', lo0, ?_, ?_⟩
        · rw [val_put (by decide +kernel), lW]; exact val_at
        · rw [mW]; exact val_at
      · obtain ⟨a, b', hb⟩ := hB (by decide)
        refine ⟨a, b', hb.nn, ?_, ?_⟩
        · rw [val_put (by decide +kernel), val_put (by decide +kernel)]; exact hb.lo
        · rw [val_put (by decide +kernel), val_put (by decide +kernel)]; exact hb.hi
  clear b2 f2 e2 b f k2 hl2 t y kvs
  rintro σ H' ⟨kvs, w2, w3, t, y, rfl, b, el, f, hB⟩
  obtain ⟨a, b', bd⟩ := hB (by decide)
  clear hB el n2s n2d
  replace b : Bld st d H H' kvs 10 := b
  -- what else there is
  have one : ∀ (x : Str) {kvs : List (Key × V)} {n : Nat} {H' H'' : Hp} {v : V}, Bld st d H H' kvs n → n < 900 → Fx H' kvs t y → Bnd kvs a b' → Kp st d H' H'' → H'' d = some (.dK kvs) → Ms st H H'' → plainV v = true → (Sum.inr (Str.ofString "wide") : Key) ≠ .inr x → (Sum.inr (Str.ofString "leastw") : Key) ≠ .inr x → (Sum.inr (Str.ofString "mostw") : Key) ≠ .inr x →
      DPut H'' d (.str x) v (upd H'' d (.dK (putK kvs (.inr x) v))) ∧ Bld st d H (upd H'' d (.dK (putK kvs (.inr x) v))) (putK kvs (.inr x) v) (n + 1) ∧ Fx (upd H'' d (.dK (putK kvs (.inr x) v))) (putK kvs (.inr x) v) t y ∧ Bnd (putK kvs (.inr x) v) a b' := by
    intro x kvs n H' H'' v b hn f bd kp e ms hv h1 h2 h3
    refine ⟨dput_s e (by have := b.len; omega), Bld.put ⟨ms, e, b.nd, b.pl, b.len⟩ hd (.inr x) hv, f.kp b (kp.trans (.upd _)) (val_put h1), ⟨bd.nn, ?_, ?_⟩⟩
    · rw [val_put h2]; exact bd.lo
    · rw [val_put h3]; exact bd.hi
  refine ⟨(by show 4 ≤ sizeLine; decide), fun l hl => ⟨_, rfl, st, 0, rfl, (b.ms.grow (same_upd hl _)).st, fun r H2 r0 r1 m2 f2 => ⟨_, _, rfl, rfl, (by show (0:Int) < 4; decide), ix_any (.of (m2.keep _ _ (b.ms.st.ne hl) upd_same)) (Int.emod_nonneg r (show (4:Int) ≠ 0 by decide)) (by simpa using Int.emod_lt_of_pos r (show (0:Int) < 4 by decide)) fun v hv => ?_⟩⟩⟩
  have hv' := pvl rfl hv
  obtain ⟨dp, b, f, bd⟩ := one "pad" b (by decide) f bd (.trans (.same (same_upd hl _)) (.ms m2)) (m2.keep _ _ b.ne (same_upd hl _ _ _ b.ad)) ((b.ms.grow (same_upd hl _)).trans m2) hv' (by decide +kernel) (by decide +kernel) (by decide +kernel)
  refine ⟨_, rfl, d, _, rfl, dp, ?_⟩
  clear dp
  obtain ⟨pad, ep⟩ : ∃ pad : Int, v = .int pad := by
    have : v = .int 0 ∨ v = .int 1 ∨ v = .int 2 := by simpa using hv
    rcases this with e | e | e <;> exact ⟨_, e⟩
  have hp : valV (putK kvs (.inr "pad") v) (.inr "pad") = some (.int pad) := by rw [← ep]; exact val_at
  revert b f
  generalize upd H2 d (.dK (putK kvs (.inr "pad") v)) = H3
  intro b f
  clear hv' hv f2 m2 r1 r0 hl
  generalize putK kvs (.inr "pad") v = k1 at b f bd hp
  refine ⟨(by show 4 ≤ sizeLine; decide), fun l hl => ⟨_, rfl, st, 0, rfl, (b.ms.grow (same_upd hl _)).st, fun r H2 r0 r1 m2 f2 => ⟨_, _, rfl, rfl, (by show (0:Int) < 4; decide), ix_any (.of (m2.keep _ _ (b.ms.st.ne hl) upd_same)) (Int.emod_nonneg r (show (4:Int) ≠ 0 by decide)) (by simpa using Int.emod_lt_of_pos r (show (0:Int) < 4 by decide)) fun v hv => ?_⟩⟩⟩
  have hv' := pvl rfl hv
  obtain ⟨dp, b, f, bd⟩ := one "gap" b (by decide) f bd (.trans (.same (same_upd hl _)) (.ms m2)) (m2.keep _ _ b.ne (same_upd hl _ _ _ b.ad)) ((b.ms.grow (same_upd hl _)).trans m2) hv' (by decide +kernel) (by decide +kernel) (by decide +kernel)
  refine ⟨_, rfl, d, _, rfl, dp, ?_⟩
  clear dp
  obtain ⟨gap, eg⟩ : ∃ gap : Int, v = .int gap := by
    have : v = .int 0 ∨ v = .int 1 ∨ v = .int 2 := by simpa using hv
    rcases this with e | e | e <;> exact ⟨_, e⟩
  have hg : valV (putK k1 (.inr "gap") v) (.inr "gap") = some (.int gap) := by rw [← eg]; exact val_at
  replace hp : valV (putK k1 (.inr "gap") v) (.inr "pad") = some (.int pad) := (val_put (by decide +kernel)).trans hp
  revert b f
  generalize upd H2 d (.dK (putK k1 (.inr "gap") v)) = H3
  intro b f
  clear hv' hv f2 m2 r1 r0 hl
  generalize putK k1 (.inr "gap") v = k2 at b f bd hp hg
  refine ⟨_, rfl, st, 0, rfl, b.ms.st, fun r H2 r0 r1 m2 f2 => ⟨_, _, rfl, rfl, (by show (0:Int) < 2; decide), rfl, ?_⟩⟩
  obtain ⟨dp, b, f, bd⟩ := one "over" (v := .bl (decide (V.int (r % 2) = V.int 1))) b (by decide) f bd (.ms m2) (m2.keep _ _ b.ne b.ad) (b.ms.trans m2) rfl (by decide +kernel) (by decide +kernel) (by decide +kernel)
  refine ⟨_, rfl, d, _, rfl, dp, ?_⟩
  clear dp
  revert b f
  generalize upd H2 d (.dK (putK k2 (.inr "over") (.bl (decide (V.int (r % 2) = V.int 1))))) = H3
  intro b f
  replace hp : valV (putK k2 (.inr "over") (.bl (decide (V.int (r % 2) = V.int 1)))) (.inr "pad") = some (.int pad) := (val_put (by decide +kernel)).trans hp
  replace hg : valV (putK k2 (.inr "over") (.bl (decide (V.int (r % 2) = V.int 1)))) (.inr "gap") = some (.int gap) := (val_put (by decide +kernel)).trans hg
  generalize putK k2 (.inr "over") (.bl (decide (V.int (r % 2) = V.int 1))) = k3 at b f bd hp hg
  refine ⟨_, rfl, st, 0, rfl, b.ms.st, fun r H2 r0 r1 m2 f2 => ⟨_, _, rfl, rfl, (by show (0:Int) < 2; decide), rfl, ?_⟩⟩
  obtain ⟨dp, b, f, bd⟩ := one "able" (v := .bl (decide (V.int (r % 2) = V.int 1))) b (by decide) f bd (.ms m2) (m2.keep _ _ b.ne b.ad) (b.ms.trans m2) rfl (by decide +kernel) (by decide +kernel) (by decide +kernel)
  refine ⟨_, rfl, d, _, rfl, dp, ?_⟩
  clear dp
  revert b f
  generalize upd H2 d (.dK (putK k3 (.inr "able") (.bl (decide (V.int (r % 2) = V.int 1))))) = H3
  intro b f
  replace hp : valV (putK k3 (.inr "able") (.bl (decide (V.int (r % 2) = V.int 1)))) (.inr "pad") = some (.int pad) := (val_put (by decide +kernel)).trans hp
  replace hg : valV (putK k3 (.inr "able") (.bl (decide (V.int (r % 2) = V.int 1)))) (.inr "gap") = some (.int gap) := (val_put (by decide +kernel)).trans hg
  generalize putK k3 (.inr "able") (.bl (decide (V.int (r % 2) = V.int 1))) = k4 at b f bd hp hg
  refine ⟨(by show 3 ≤ sizeLine; decide), fun l hl => ⟨_, rfl, st, 0, rfl, (b.ms.grow (same_upd hl _)).st, fun r H2 r0 r1 m2 f2 => ⟨_, _, rfl, rfl, (by show (0:Int) < 3; decide), ix_any (.of (m2.keep _ _ (b.ms.st.ne hl) upd_same)) (Int.emod_nonneg r (show (3:Int) ≠ 0 by decide)) (by simpa using Int.emod_lt_of_pos r (show (0:Int) < 3 by decide)) fun v hv => ?_⟩⟩⟩
  have hv' := pvl rfl hv
  obtain ⟨dp, b, f, bd⟩ := one "fill" b (by decide) f bd (.trans (.same (same_upd hl _)) (.ms m2)) (m2.keep _ _ b.ne (same_upd hl _ _ _ b.ad)) ((b.ms.grow (same_upd hl _)).trans m2) hv' (by decide +kernel) (by decide +kernel) (by decide +kernel)
  refine ⟨_, rfl, d, _, rfl, dp, ?_⟩
  clear dp
  revert b f
  generalize upd H2 d (.dK (putK k4 (.inr "fill") v)) = H3
  intro b f
  clear hv' hv f2 m2 r1 r0 hl
  replace hp : valV (putK k4 (.inr "fill") v) (.inr "pad") = some (.int pad) := (val_put (by decide +kernel)).trans hp
  replace hg : valV (putK k4 (.inr "fill") v) (.inr "gap") = some (.int gap) := (val_put (by decide +kernel)).trans hg
  generalize putK k4 (.inr "fill") v = k5 at b f bd hp hg
  refine ⟨(by show 3 ≤ sizeLine; decide), fun l hl => ⟨_, rfl, st, 0, rfl, (b.ms.grow (same_upd hl _)).st, fun r H2 r0 r1 m2 f2 => ⟨_, _, rfl, rfl, (by show (0:Int) < 3; decide), ix_any (.of (m2.keep _ _ (b.ms.st.ne hl) upd_same)) (Int.emod_nonneg r (show (3:Int) ≠ 0 by decide)) (by simpa using Int.emod_lt_of_pos r (show (0:Int) < 3 by decide)) fun v hv => ?_⟩⟩⟩
  have hv' := pvl rfl hv
  obtain ⟨dp, b, f, bd⟩ := one "ink" b (by decide) f bd (.trans (.same (same_upd hl _)) (.ms m2)) (m2.keep _ _ b.ne (same_upd hl _ _ _ b.ad)) ((b.ms.grow (same_upd hl _)).trans m2) hv' (by decide +kernel) (by decide +kernel) (by decide +kernel)
  refine ⟨_, rfl, d, _, rfl, dp, ?_⟩
  clear dp
  revert b f
  generalize upd H2 d (.dK (putK k5 (.inr "ink") v)) = H3
  intro b f
  clear hv' hv f2 m2 r1 r0 hl
  replace hp : valV (putK k5 (.inr "ink") v) (.inr "pad") = some (.int pad) := (val_put (by decide +kernel)).trans hp
  replace hg : valV (putK k5 (.inr "ink") v) (.inr "gap") = some (.int gap) := (val_put (by decide +kernel)).trans hg
  generalize putK k5 (.inr "ink") v = k6 at b f bd hp hg
  exact ⟨_, rfl, q d t k6 y a b' _ b.ms hd ⟨b.ad, f.wide, f.tup, bd⟩ ⟨pad, gap, hp, hg⟩ b.len b.nd b.pl⟩
end
end KP

set_option linter.all false
set_option maxHeartbeats 4000000
set_option maxRecDepth 100000
namespace KP
open PySem L2 PyProof.Rows
open WM (bl)
theorem atNm {xs : List Nat} {i : Int} (h0 : 0 ≤ i) (h : i < xs.length) : ∃ c, atI xs i = some c ∧ c ∈ xs := by
  obtain ⟨k, rfl⟩ := Int.eq_ofNat_of_zero_le h0
  have hk : k < xs.length := by omega
  exact ⟨xs[k], atI_nat (List.getElem?_eq_getElem hk), List.getElem_mem hk⟩
abbrev sgN : Str := Str.ofString "abcdefghijklmnopqrstuvwxyz0123456789"
theorem sgN_len : sgN.cps.toList.length = 36 := by decide +kernel
theorem sgN_nd : ∀ p q : Fin 36, sgN.cps.toList.getD p.val 0 = sgN.cps.toList.getD q.val 0 → p = q := by decide +kernel
abbrev sgn : Str := Str.ofString "abcdefghijklmnopqrstuvwxyzABCDEFGHIJKLMNOPQRSTUVWXYZ0123456789"
theorem sgn_len : sgn.cps.toList.length = 62 := by decide +kernel
theorem bl1 : bl.length = 1 := by rw [WM.bl_cps]; rfl
/-- which sign the k-th name has -/
def naJ (f : Int) (k : Nat) : Nat := ((f + (0 + (k : Int))) % 26).toNat
theorem naJ_in (f : Int) (k : Nat) : (f + (0 + (k : Int))) % 26 = (naJ f k : Int) ∧ naJ f k < 26 := by
  have h0 := Int.emod_nonneg (f + (0 + (k : Int))) (show (26 : Int) ≠ 0 by decide)
  have h1 := Int.emod_lt_of_pos (f + (0 + (k : Int))) (show (0 : Int) < 26 by decide)
  unfold naJ; omega
/-- the k-th name: a sign put into a text -/
def na (b : Str) (p : Nat) (f : Int) (k : Nat) : Str := ⟨((b.cps.toList.drop 0).take (p - 0)).toArray⟩ ++ ⟨#[sgN.cps.toList.getD (naJ f k) 0]⟩ ++ ⟨((b.cps.toList.drop p).take (b.length - p)).toArray⟩
theorem na_list (b : Str) (p : Nat) (f : Int) (k : Nat) : (na b p f k).cps.toList = (b.cps.toList.drop 0).take (p - 0) ++ sgN.cps.toList.getD (naJ f k) 0 :: (b.cps.toList.drop p).take (b.length - p) := by
  unfold na
  show (_ ++ _ : Array Nat).toList = _
  rw [Array.toList_append]
  show (_ ++ _ : Array Nat).toList ++ _ = _
  rw [Array.toList_append, List.append_assoc]; rfl
theorem na_len {b : Str} {p : Nat} {f : Int} {k : Nat} : (na b p f k).length ≤ b.length + 1 := by
  have e : (na b p f k).length = (na b p f k).cps.toList.length := (Array.length_toList).symm
  have h : b.cps.toList.length = b.length := Array.length_toList
  rw [e, na_list, List.length_append, List.length_cons, List.length_take, List.length_take, List.length_drop, List.length_drop]
  omega
theorem na_inj {b : Str} {p : Nat} {f : Int} {i j : Nat} (hi : i < 26) (hj : j < 26) (e : na b p f i = na b p f j) : i = j := by
  have e2 : (na b p f i).cps.toList = (na b p f j).cps.toList := by rw [e]
  rw [na_list, na_list] at e2
  have e3 := List.append_cancel_left e2
  injection e3 with e4 _
  obtain ⟨a1, a2⟩ := naJ_in f i
  obtain ⟨b1, b2⟩ := naJ_in f j
  have e5 := congrArg Fin.val (sgN_nd ⟨naJ f i, by omega⟩ ⟨naJ f j, by omega⟩ e4)
  dsimp only at e5
  have e6 : (f + (0 + (i : Int))) % 26 = (f + (0 + (j : Int))) % 26 := by rw [a1, b1, e5]
  omega
theorem na_nd (b : Str) (p : Nat) (f : Int) : ∀ n : Nat, n ≤ 26 → ((List.range n).map (na b p f)).Nodup := by
  intro n hn
  refine List.pairwise_map.mpr (List.Pairwise.imp_of_mem (fun {i j} hi hj hne e => ?_) (List.nodup_range (n := n)))
  exact hne (na_inj (by have := List.mem_range.mp hi; omega) (by have := List.mem_range.mp hj; omega) e)
section
variable {P : Program} {w : World} {K : PySem.W.Frag} {mg : Str → Option Value} {base : Heap} {A : Adr}
def spNamesK : Sp := fun vs H Q _ => ∃ (st : Addr) (n : Nat), vs = [.ref st, .int n] ∧ St st H ∧ n ≤ 12 ∧ ∀ (l : Addr) (ns : List Str) (H' : Hp), H l = none → Ms st H H' → H' l = some (.lst (ns.map V.str)) → ns.length = n → ns.Nodup → (∀ x ∈ ns, x.length ≤ 8) → Q (.ref l) H'
abbrev sc_l_names_0 : Scope := (match defBody s_l_names with | _ :: _ :: _ :: _ :: _ :: (.Return (some (.ListComp _ _ sc _)) _) :: _ => sc | _ => defScope s_l_names)
theorem blk_l_names_0 : Blk (defScope s_l_names) N_l_names sc_l_names_0 ["_law_k"] [2, 3, 5, 6] := ⟨rfl, by decide +kernel, by decide +kernel, by decide +kernel, by decide +kernel⟩
theorem nd_l_names_0 : (capN N_l_names ["_law_k"] [2, 3, 5, 6]).Nodup := by decide +kernel
seal PE PS PSs PA PT PI PG in
theorem ok_names (T : Txt K mg A) : FnOk P w K mg base CX0 2 A.f_l_names A.d_l_names P_l_names spNamesK := by
  have G_l_mix : FnOk P w K mg base CX0 1 A.f_l_mix A.d_l_mix P_l_mix spMix := ok_mix T
  refine T.F_l_names.ok sc_l_names (fun vs H Q E h => ?_) (fun cdv B outer s H vs Q E hr h => ?_)
  · obtain ⟨st, n, rfl, _⟩ := h; rfl
  obtain ⟨st, n, rfl, hst, hn, q⟩ := h
  refine ⟨_, @pss_cons _ _ _ _ _ (ps_set (i := 2) sc_l_names.nd rfl (Or.inr rfl) pe_str)
    (@pss_cons _ _ _ _ _ (ps_set (i := 3) sc_l_names.nd rfl (Or.inr rfl) (pe_ix ix_str (pv 2) (pe_op op_mod (pe_call G_l_mix hr rfl T.m_l_mix T.F_l_mix.kp T.b_l_mix .nil pass0 (pa_cons (pv 0) (pa_cons pe_int pa_nil))) pe_int) (fun _ _ => rfl)))
    (@pss_cons _ _ _ _ _ (ps_for PassesOwn.never rfl (pi_range1 rfl T.n_range (pa_cons (pe_op op_mod (pe_call G_l_mix hr rfl T.m_l_mix T.F_l_mix.kp T.b_l_mix .nil pass0 (pa_cons (pv 0) (pa_cons pe_int pa_nil))) pe_int) pa_nil)) (pg_name (i := 4) sc_l_names.nd rfl (Or.inl rfl)) (pss_one (ps_set (i := 3) sc_l_names.nd rfl (Or.inr rfl) (pe_op op_add_str (pv 3) (pe_ix ix_str (pv 2) (pe_op op_mod (pe_call G_l_mix hr rfl T.m_l_mix T.F_l_mix.kp T.b_l_mix .nil pass0 (pa_cons (pv 0) (pa_cons pe_int pa_nil))) pe_int) (fun _ _ => rfl))))))
    (@pss_cons _ _ _ _ _ (ps_set (i := 5) sc_l_names.nd rfl (Or.inr rfl) (pe_op op_mod (pe_call G_l_mix hr rfl T.m_l_mix T.F_l_mix.kp T.b_l_mix .nil pass0 (pa_cons (pv 0) (pa_cons pe_int pa_nil))) (pe_op op_add (pe_callB call_len_str rfl T.n_len b_len (pa_cons (pv 3) pa_nil)) pe_int)))
    (@pss_cons _ _ _ _ _ (ps_set (i := 6) sc_l_names.nd rfl (Or.inr rfl) (pe_op op_mod (pe_call G_l_mix hr rfl T.m_l_mix T.F_l_mix.kp T.b_l_mix .nil pass0 (pa_cons (pv 0) (pa_cons pe_int pa_nil))) pe_int))
    (pss_one (ps_ret (pe_comp blk_l_names_0 rfl (pi_range1 rfl T.n_range (pa_cons (pv 1) pa_nil)) (fun _ _ _ _ _ => pg_name (i := 0) nd_l_names_0 rfl (.inl rfl)) (fun _ _ _ _ _ => pif_nil) (fun _ _ _ _ _ => pe_op op_add_str (pe_op op_add_str (pe_slice sl_str (pv 2) po_none (po_some (pv 3))) (pe_ix ix_str (pv 1) (pe_op op_mod (pe_op op_add (pv 4) (pv 0)) pe_int) (fun _ _ => rfl))) (pe_slice sl_str (pv 2) (po_some (pv 3)) po_none))))))))), ?_⟩
  refine ⟨_, rfl, _, rfl, st, 0, rfl, hst, fun r H1 r0 r1 m1 f1 => ⟨_, _, rfl, rfl, (by show (0:Int) < 26; decide), ?_⟩⟩
  obtain ⟨c0, hc0, _⟩ := atNm (xs := sgN.cps.toList) (Int.emod_nonneg r (show (26:Int) ≠ 0 by decide)) (by rw [sgN_len]; have := Int.emod_lt_of_pos r (show (0:Int) < 26 by decide); omega)
  refine ⟨sgN, _, c0, rfl, rfl, (by decide +kernel), hc0, ?_⟩
  refine ⟨_, rfl, st, 0, rfl, m1.st, fun r2 H2 _ _ m2 _ => ⟨_, _, rfl, rfl, (by show (0:Int) < 6; decide), _, rfl, by omega, by omega, for_range (n := (r2 % 6).toNat) (fun i σ H' => ∃ (b : Str) (v4 : Option V), σ = [some (.ref st), some (.int n), some (.str sgN), some (.str b), v4, none, none] ∧ Ms st H H' ∧ b.length = i + 1)
    ⟨_, none, rfl, m1.trans m2, rfl⟩ ?_ ?_⟩⟩
  · rintro i σ H3 hi ⟨b, v4, rfl, m3, lb⟩
    refine ⟨_, rfl, _, rfl, _, rfl, st, 0, rfl, m3.st, fun rc H5 _ _ m5 _ => ⟨_, _, rfl, rfl, (by show (0:Int) < 36; decide), ?_⟩⟩
    obtain ⟨c, hc, _⟩ := atNm (xs := sgN.cps.toList) (Int.emod_nonneg rc (show (36:Int) ≠ 0 by decide)) (by rw [sgN_len]; exact Int.emod_lt_of_pos rc (show (0:Int) < 36 by decide))
    refine ⟨sgN, _, c, rfl, rfl, (by decide +kernel), hc, _, _, rfl, rfl, small (by show b.length + 1 ≤ 1000; omega), ?_⟩
    exact ⟨b ++ ⟨#[c]⟩, _, rfl, m3.trans m5, by rw [Str.length_append, lb]; rfl⟩
  rintro σ H3 ⟨b, v4, rfl, m3, lb⟩
  refine ⟨_, rfl, st, 0, rfl, m3.st, fun r4 H4 _ _ m4 _ => ⟨_, rfl, b, rfl, small (by omega), _, _, rfl, rfl, _, _, rfl, rfl, (by show (0:Int) < (b.length : Int) + 1; omega), ?_⟩⟩
  have p0 := Int.emod_nonneg r4 (show (b.length : Int) + 1 ≠ 0 by omega)
  have p1 := Int.emod_lt_of_pos r4 (show (0:Int) < (b.length : Int) + 1 by omega)
  obtain ⟨p, hp⟩ := Int.eq_ofNat_of_zero_le p0
  rw [hp] at p1
  clear p0
  refine ⟨_, rfl, st, 0, rfl, m4.st, fun r5 H5 _ _ m5 _ => ⟨_, _, rfl, rfl, (by show (0:Int) < 26; decide), ?_⟩⟩
  have m6 := (m3.trans m4).trans m5
  refine ⟨_, rfl, _, rfl, by omega, by omega, blk_rng (n := ((n : Nat) : Int).toNat) (fun i acc H' => H' = H5 ∧ acc = ((List.range i).map (na b p (r5 % 26))).map V.str ∧ i ≤ n) ⟨rfl, rfl, Nat.zero_le _⟩ (fun i acc H' z => ?_) (fun i acc H' R k hi z => ?_) fun acc H' z => ?_⟩
  · rw [z.2.1, List.length_map, List.length_map, List.length_range]; exact small1000 (by have := z.2.2; omega)
  · obtain ⟨rfl, rfl, h⟩ := z
    dsimp only [tYes]; rw [if_pos rfl]
    obtain ⟨j1, j2⟩ := naJ_in (r5 % 26) i
    refine ⟨_, rfl, _, rfl, _, rfl, b, 0, p, rfl, .inl ⟨rfl, rfl⟩, .inr (congrArg some hp), Nat.zero_le _, by omega, by omega, _, rfl, _, rfl, _, rfl, _, _, rfl, rfl, _, _, rfl, rfl, (by show (0:Int) < 26; decide), sgN, _, sgN.cps.toList.getD (naJ (r5 % 26) i) 0, rfl, rfl, (by decide +kernel), ?_, ?_⟩
    · rw [j1]
      refine atI_nat ?_
      have h := sgN_len
      rw [List.getD_eq_getElem?_getD, List.getElem?_eq_getElem (by omega)]; rfl
    have hl : b.cps.toList.length = b.length := Array.length_toList
    refine ⟨_, _, rfl, rfl, ?_, _, rfl, _, rfl, _, rfl, b, p, b.length, rfl, .inr (congrArg some hp), .inl ⟨rfl, rfl⟩, by omega, Nat.le_refl _, by omega, _, _, rfl, rfl, ?_, ?_⟩
    · show ((b.cps.toList.drop 0).take (p - 0)).toArray.size + 1 ≤ sizeLine
      rw [List.size_toArray, List.length_take]; exact small (by omega)
    · rw [Str.length_append]
      show ((b.cps.toList.drop 0).take (p - 0)).toArray.size + 1 + ((b.cps.toList.drop p).take (b.length - p)).toArray.size ≤ sizeLine
      rw [List.size_toArray, List.size_toArray, List.length_take, List.length_take]; exact small (by omega)
    · refine k _ _ ⟨rfl, ?_, by omega⟩
      rw [List.range_succ, List.map_append, List.map_append]; rfl
  · obtain ⟨rfl, rfl, _⟩ := z
    intro l hl
    refine q l ((List.range n).map (na b p (r5 % 26))) _ (m6.free hst hl) (m6.new _ hl) (by rw [upd_same]; rfl) (by rw [List.length_map, List.length_range]) (na_nd _ _ _ _ (by omega)) fun x hx => ?_
    obtain ⟨k, _, rfl⟩ := List.mem_map.mp hx
    have := na_len (b := b) (p := p) (f := r5 % 26) (k := k)
    omega
def spText80 : Sp := fun vs H Q _ => ∃ st : Addr, vs = [.ref st] ∧ St st H ∧ ∀ (z : Str) (H' : Hp), Ms st H H' → z.length ≤ 80 → Q (.str z) H'
seal PE PS PSs PA PT PI PG in
theorem ok_text (T : Txt K mg A) : FnOk P w K mg base CX0 2 A.f_l_text A.d_l_text P_l_text spText80 := by
  have G_l_mix : FnOk P w K mg base CX0 1 A.f_l_mix A.d_l_mix P_l_mix spMix := ok_mix T
  refine T.F_l_text.ok sc_l_text (fun vs H Q E h => ?_) (fun cdv B outer s H vs Q E hr h => ?_)
  · obtain ⟨st, rfl, _⟩ := h; rfl
  obtain ⟨st, rfl, hst, q⟩ := h
  refine ⟨_, @pss_cons _ _ _ _ _ (ps_set (i := 1) sc_l_text.nd rfl (Or.inl rfl) pe_str)
    (@pss_cons _ _ _ _ _ (ps_set (i := 2) sc_l_text.nd rfl (Or.inl rfl) pe_str)
    (@pss_cons _ _ _ _ _ (ps_for PassesOwn.never rfl (pi_range1 rfl T.n_range (pa_cons (pe_op op_mod (pe_call G_l_mix hr rfl T.m_l_mix T.F_l_mix.kp T.b_l_mix .nil pass0 (pa_cons (pv 0) (pa_cons pe_int pa_nil))) pe_int) pa_nil)) (pg_name (i := 3) sc_l_text.nd rfl (Or.inl rfl)) (@pss_cons _ _ _ _ _ (ps_set (i := 4) sc_l_text.nd rfl (Or.inl rfl) pe_str)
    (@pss_cons _ _ _ _ _ (ps_for PassesOwn.never rfl (pi_range1 rfl T.n_range (pa_cons (pe_op op_add pe_int (pe_op op_mod (pe_call G_l_mix hr rfl T.m_l_mix T.F_l_mix.kp T.b_l_mix .nil pass0 (pa_cons (pv 0) (pa_cons pe_int pa_nil))) (pe_ix ix_list (pe_lst (pa_cons pe_int (pa_cons pe_int (pa_cons pe_int pa_nil)))) (pe_op op_mod (pe_call G_l_mix hr rfl T.m_l_mix T.F_l_mix.kp T.b_l_mix .nil pass0 (pa_cons (pv 0) (pa_cons pe_int pa_nil))) pe_int) (fun _ _ => rfl)))) pa_nil)) (pg_name (i := 5) sc_l_text.nd rfl (Or.inl rfl)) (pss_one (ps_set (i := 4) sc_l_text.nd rfl (Or.inl rfl) (pe_op op_add_str (pv 4) (pe_ix ix_str (pv 1) (pe_op op_mod (pe_call G_l_mix hr rfl T.m_l_mix T.F_l_mix.kp T.b_l_mix .nil pass0 (pa_cons (pv 0) (pa_cons pe_int pa_nil))) pe_int) (fun _ _ => rfl))))))
    (pss_one (ps_if (pt_cmpR op_le (pe_op op_add (pe_op op_add (pe_callB call_len_str rfl T.n_len b_len (pa_cons (pv 2) pa_nil)) pe_int) (pe_callB call_len_str rfl T.n_len b_len (pa_cons (pv 4) pa_nil))) pe_int (nomark _)) (pss_one (ps_set (i := 2) sc_l_text.nd rfl (Or.inl rfl) (pe_op op_add_str (pe_op op_add_str (pv 2) (pe_op op_rep01 pe_str (pe_callTy call_int1 rfl T.n_int b_int (pa_cons (pe_cmpR op_ne (pv 2) pe_str (nomark _)) pa_nil)))) (pv 4)))) pss_nil)))))
    (pss_one (ps_ret (pv 2))))), ?_⟩
  have small500 : ∀ {n : Nat}, n ≤ 500 → n ≤ sizeLine := fun h => Nat.le_of_lt (small1000 (by omega))
  refine ⟨_, rfl, st, 0, rfl, hst, fun r H1 r0 r1 m1 f1 => ⟨_, _, rfl, rfl, (by show (0:Int) < 9; decide), _, rfl, by omega, by omega, for_range (n := (r % 9).toNat) (fun i σ H' => ∃ (z : Str) (v3 v4 v5 : Option V), σ = [some (.ref st), some (.str sgn), some (.str z), v3, v4, v5] ∧ Ms st H H' ∧ z.length ≤ 80)
    ⟨_, none, none, none, rfl, m1, (by decide +kernel)⟩ ?_ ?_⟩⟩
  · rintro i σ Hs hi ⟨z, v3, v4, v5, rfl, Ms0, lz⟩
    refine ⟨_, rfl, st, 0, rfl, Ms0.st, fun ra H2 _ _ m2 _ => ⟨(by show 3 ≤ sizeLine; decide), fun l hl => ⟨_, rfl, st, 0, rfl, (m2.grow (same_upd hl _)).st, fun rb H3 _ _ m3 _ => ⟨_, _, rfl, rfl, (by show (0:Int) < 3; decide), ?_⟩⟩⟩⟩
    have nl : l ≠ st := m2.st.ne hl
    refine ix_any (.of (m3.keep _ _ nl upd_same)) (Int.emod_nonneg rb (show (3:Int) ≠ 0 by decide)) (by simpa using Int.emod_lt_of_pos rb (show (0:Int) < 3 by decide)) fun v hv => ?_
    obtain ⟨m, rfl, hm, hm20⟩ : ∃ m : Int, v = .int m ∧ 0 < m ∧ m ≤ 20 := by
      have : v = .int 4 ∨ v = .int 9 ∨ v = .int 20 := by simpa using hv
      rcases this with rfl | rfl | rfl <;> exact ⟨_, rfl, by decide, by decide⟩
    have a0 := Int.emod_nonneg ra (show m ≠ 0 by omega)
    have a1 := Int.emod_lt_of_pos ra hm
    have M3 : Ms st Hs H3 := (m2.grow (same_upd hl _)).trans m3
    refine ⟨_, _, rfl, rfl, hm, _, _, rfl, rfl, _, rfl, by omega, by omega, for_range (n := (1 + ra % m).toNat) (fun j σ H' => ∃ (wd : Str) (v5 : Option V), σ = [some (.ref st), some (.str sgn), some (.str z), some (.int (0 + (i : Int))), some (.str wd), v5] ∧ Ms st Hs H' ∧ wd.length = j)
      ⟨_, v5, rfl, M3, (by decide +kernel)⟩ ?_ ?_⟩
    · rintro j σ H4 hj ⟨wd, v5, rfl, M4, lw⟩
      refine ⟨_, rfl, _, rfl, _, rfl, st, 0, rfl, M4.st, fun rc H5 _ _ m5 _ => ⟨_, _, rfl, rfl, (by show (0:Int) < 62; decide), ?_⟩⟩
      obtain ⟨c, hc, hcm⟩ := atNm (xs := sgn.cps.toList) (Int.emod_nonneg rc (show (62:Int) ≠ 0 by decide)) (by rw [sgn_len]; exact Int.emod_lt_of_pos rc (show (0:Int) < 62 by decide))
      refine ⟨_, _, c, rfl, rfl, (by decide +kernel), hc, _, _, rfl, rfl, small500 (by show wd.length + 1 ≤ 500; omega), ?_⟩
      exact ⟨wd ++ ⟨#[c]⟩, _, rfl, M4.trans m5, by rw [Str.length_append, lw]; rfl⟩
    · rintro σ H4 ⟨wd, v5, rfl, M4, lw⟩
      refine ⟨_, rfl, z, rfl, small500 (by omega), _, _, rfl, rfl, _, rfl, wd, rfl, small500 (by omega), _, _, rfl, rfl, _, _, rfl, rfl, _, rfl, ite2 (fun c => ?_) (fun c => ?_)⟩
      · have c' : (z.length : Int) + 1 + (wd.length : Int) ≤ 80 := of_decide_eq_true c
        refine ⟨_, rfl, _, rfl, rfl, .inr ⟨_, rfl, _, _, rfl, rfl, ?_⟩⟩
        by_cases e : V.str z = V.str (Str.ofString "")
        · have e0 : decide (V.str z = V.str (Str.ofString "")) = true := decide_eq_true e
          refine .inl ⟨by rw [e0]; rfl, _, _, rfl, rfl, small500 (by show z.length + 0 ≤ 500; omega), _, rfl, _, _, rfl, rfl, ?_, ?_⟩
          · show (z ++ Str.empty).length + wd.length ≤ sizeLine
            rw [Str.length_append]; exact small500 (by show z.length + 0 + wd.length ≤ 500; omega)
          · refine ⟨_, _, _, _, rfl, Ms0.trans M4, ?_⟩
            show (z ++ Str.empty ++ wd).length ≤ 80
            rw [Str.length_append, Str.length_append]; show z.length + 0 + wd.length ≤ 80; omega
        · have e0 : decide (V.str z = V.str (Str.ofString "")) = false := decide_eq_false e
          refine .inr ⟨by rw [e0]; rfl, _, _, rfl, rfl, small500 (by show z.length + bl.length ≤ 500; rw [bl1]; omega), _, rfl, _, _, rfl, rfl, ?_, ?_⟩
          · show (z ++ bl).length + wd.length ≤ sizeLine
            rw [Str.length_append, bl1]; exact small500 (by omega)
          · refine ⟨_, _, _, _, rfl, Ms0.trans M4, ?_⟩
            show (z ++ bl ++ wd).length ≤ 80
            rw [Str.length_append, Str.length_append, bl1]; omega
      · exact ⟨z, _, _, _, rfl, Ms0.trans M4, lz⟩
  · rintro σ Hs ⟨z, v3, v4, v5, rfl, Ms0, lz⟩
    exact ⟨_, rfl, q z Hs Ms0 lz⟩
end
end KP

set_option linter.all false
set_option maxHeartbeats 4000000
set_option maxRecDepth 100000
namespace KP
open PySem L2 PyProof.Rows
/-- a box with its address -/
inductive Bt where
  | mk (a : Addr) (k n : Str) (m : V) (ks : List Bt)
namespace Bt
def a : Bt → Addr | .mk a _ _ _ _ => a
def k : Bt → Str | .mk _ k _ _ _ => k
def n : Bt → Str | .mk _ _ n _ _ => n
def m : Bt → V | .mk _ _ _ m _ => m
def ks : Bt → List Bt | .mk _ _ _ _ ks => ks
end Bt
mutual
/-- all boxes, each ahead of its kids -/
def pre : Bt → List Bt
  | .mk a k n m ks => .mk a k n m ks :: preL ks
def preL : List Bt → List Bt
  | [] => []
  | b :: r => pre b ++ preL r
end
mutual
def dp : Bt → Nat
  | .mk _ _ _ _ ks => dpL ks + 1
def dpL : List Bt → Nat
  | [] => 0
  | b :: r => max (dp b) (dpL r)
end
theorem pre_eq (t : Bt) : pre t = t :: preL t.ks := by cases t; rw [pre]; rfl
theorem dp_eq (t : Bt) : dp t = dpL t.ks + 1 := by cases t; rw [dp]; rfl
theorem preL_cons (b : Bt) (r : List Bt) : preL (b :: r) = pre b ++ preL r := by rw [preL]
theorem preL_nil : preL [] = [] := by rw [preL]
theorem preL_app (l r : List Bt) : preL (l ++ r) = preL l ++ preL r := by
  induction l with
  | nil => rw [preL_nil]; rfl
  | cons b l ih => rw [List.cons_append, preL_cons, preL_cons, ih, List.append_assoc]
theorem preL_snoc (l : List Bt) (b : Bt) : preL (l ++ [b]) = preL l ++ pre b := by rw [preL_app, preL_cons, preL_nil, List.append_nil]
theorem dp_kid {t b : Bt} (h : b ∈ t.ks) : dp b < dp t := by
  rw [dp_eq t]
  have : ∀ l : List Bt, b ∈ l → dp b ≤ dpL l := by
    intro l
    induction l with
    | nil => intro h; cases h
    | cons x r ih =>
      intro h
      rw [dpL]
      rcases List.mem_cons.mp h with rfl | h
      · exact Nat.le_max_left _ _
      · exact Nat.le_trans (ih h) (Nat.le_max_right _ _)
  exact Nat.lt_succ_of_le (this _ h)
theorem dpL_le {l : List Bt} {d : Nat} (h : ∀ b ∈ l, dp b ≤ d) : dpL l ≤ d := by
  induction l with
  | nil => rw [dpL]; exact Nat.zero_le _
  | cons x r ih => rw [dpL]; exact Nat.max_le.mpr ⟨h x (List.mem_cons_self ..), ih fun b hb => h b (List.mem_cons_of_mem _ hb)⟩
theorem self_pre (t : Bt) : t ∈ pre t := by rw [pre_eq]; exact List.mem_cons_self ..
theorem mem_preL {l : List Bt} {c : Bt} : c ∈ preL l ↔ ∃ b ∈ l, c ∈ pre b := by
  induction l with
  | nil => rw [preL_nil]; simp
  | cons x r ih => rw [preL_cons, List.mem_append, ih]; simp
theorem kid_pre {t b : Bt} (h : b ∈ t.ks) : b ∈ preL t.ks := mem_preL.mpr ⟨b, h, self_pre b⟩
theorem pre_trans : ∀ (d : Nat) {t b c : Bt}, dp t ≤ d → b ∈ pre t → c ∈ pre b → c ∈ pre t
  | 0, t, _, _, h, _, _ => by rw [dp_eq] at h; omega
  | d + 1, t, b, c, h, hb, hc => by
    rw [pre_eq] at hb ⊢
    rcases List.mem_cons.mp hb with rfl | hb
    · rw [← pre_eq]; exact hc
    · obtain ⟨x, hx, hbx⟩ := mem_preL.mp hb
      exact List.mem_cons_of_mem _ (mem_preL.mpr ⟨x, hx, pre_trans d (by have := dp_kid hx; omega) hbx hc⟩)
/-- kids come later -/
def Later : List Bt → Prop
  | [] => True
  | b :: s => (∀ c ∈ b.ks, c ∈ s) ∧ Later s
theorem Later.app : ∀ {l r : List Bt}, Later l → Later r → Later (l ++ r)
  | [], _, _, h => h
  | _ :: _, _, h, h2 => ⟨fun c hc => List.mem_append_left _ (h.1 c hc), Later.app h.2 h2⟩
theorem later_pre : ∀ (d : Nat) (t : Bt), dp t ≤ d → Later (pre t)
  | 0, t, h => by rw [dp_eq] at h; omega
  | d + 1, t, h => by
    rw [pre_eq]
    refine ⟨fun c hc => kid_pre hc, ?_⟩
    have : ∀ l : List Bt, (∀ b ∈ l, b ∈ t.ks) → Later (preL l) := by
      intro l
      induction l with
      | nil => intro _; rw [preL_nil]; trivial
      | cons x r ih =>
        intro hl
        rw [preL_cons]
        exact (later_pre d x (by have := dp_kid (hl x (List.mem_cons_self ..)); omega)).app (ih fun b hb => hl b (List.mem_cons_of_mem _ hb))
    exact this _ fun _ h => h
theorem Later.drop : ∀ {l : List Bt} (i : Nat) {b : Bt}, Later l → l[i]? = some b → ∀ c ∈ b.ks, c ∈ l.drop (i + 1)
  | [], i, b, _, h => by simp at h
  | x :: s, 0, b, h, e => by cases e; exact h.1
  | x :: s, i + 1, b, h, e => Later.drop (l := s) i h.2 e
/-- what a box has in its more -/
structure Mo (b : Bt) : Prop where
  wd : b.k = "words" → ∃ z : Str, b.m = .str z ∧ z.length ≤ 80
  gr : b.k = "grid" → ∃ i : Int, b.m = .int i ∧ 1 ≤ i ∧ i ≤ 9
/-- a box in the heap -/
structure Nd (H : Hp) (b : Bt) : Prop where
  ex : ∃ tg kt, H b.a = some (.tup [.str b.k, .str b.n, .ref tg, b.m, .ref kt]) ∧ H kt = some (.tup (b.ks.map fun c => V.ref c.a))
  mo : Mo b
theorem Nd.same {H H' : Hp} {b : Bt} (h : Nd H b) (s : Same H H') : Nd H' b := by
  obtain ⟨tg, kt, e1, e2⟩ := h.ex
  exact ⟨⟨tg, kt, s _ _ e1, s _ _ e2⟩, h.mo⟩
/-- tuples stay -/
def Tups (H H' : Hp) : Prop := ∀ b vs, H b = some (.tup vs) → H' b = some (.tup vs)
theorem Tups.of {H H' : Hp} (s : Same H H') : Tups H H' := fun b vs e => s b _ e
theorem Tups.trans {H H1 H2 : Hp} (a : Tups H H1) (b : Tups H1 H2) : Tups H H2 := fun c vs e => b c vs (a c vs e)
theorem Tups.ms {st : Addr} {H H' : Hp} (hs : St st H) (m : Ms st H H') : Tups H H' := fun b vs e => m.keep b _ (fun z => by obtain ⟨s, a, _⟩ := hs; rw [z, a] at e; cases e) e
theorem Tups.upd {H : Hp} {a : Addr} {o o' : HO} (h : H a = some o) (ho : ∀ vs, o ≠ .tup vs) : Tups H (upd H a o') := fun b vs e => by
  rw [upd_ne (fun z => by rw [z, h] at e; injection e with e; exact ho vs e)]; exact e
theorem Nd.tups {H H' : Hp} {b : Bt} (h : Nd H b) (s : Tups H H') : Nd H' b := by
  obtain ⟨tg, kt, e1, e2⟩ := h.ex
  exact ⟨⟨tg, kt, s _ _ e1, s _ _ e2⟩, h.mo⟩
def BtAt (H : Hp) (t : Bt) : Prop := ∀ b ∈ pre t, Nd H b
theorem BtAt.tups {H H' : Hp} {t : Bt} (h : BtAt H t) (s : Tups H H') : BtAt H' t := fun b hb => (h b hb).tups s
theorem BtAt.same {H H' : Hp} {t : Bt} (h : BtAt H t) (s : Same H H') : BtAt H' t := h.tups (.of s)
theorem BtAt.self {H : Hp} {t : Bt} (h : BtAt H t) : Nd H t := h t (self_pre t)
theorem BtAt.sub {H : Hp} {t b : Bt} (h : BtAt H t) (hb : b ∈ pre t) : BtAt H b := fun c hc => h c (pre_trans _ (Nat.le_refl _) hb hc)
theorem BtAt.kid {H : Hp} {t b : Bt} (h : BtAt H t) (hb : b ∈ t.ks) : BtAt H b := h.sub (by rw [pre_eq]; exact List.mem_cons_of_mem _ (kid_pre hb))
theorem BtAt.mk {H : Hp} {t : Bt} (h : Nd H t) (k : ∀ b ∈ t.ks, BtAt H b) : BtAt H t := fun b hb => by
  rw [pre_eq] at hb
  rcases List.mem_cons.mp hb with rfl | hb
  · exact h
  · obtain ⟨x, hx, hbx⟩ := mem_preL.mp hb
    exact k x hx b hbx
theorem ks_len {t : Bt} : t.ks.length < (pre t).length := by
  have : ∀ l : List Bt, l.length ≤ (preL l).length := by
    intro l
    induction l with
    | nil => simp
    | cons x r ih => rw [preL_cons, List.length_append, pre_eq, List.length_cons, List.length_cons]; omega
  rw [pre_eq, List.length_cons]
  exact Nat.lt_succ_of_le (this _)
end KP

set_option linter.all false
set_option maxHeartbeats 4000000
set_option maxRecDepth 100000
namespace KP
open PySem L2 PyProof.Rows
/-- all but the state and the list of names is as it was -/
structure Bs (st nl : Addr) (H H' : Hp) (rest : List Str) : Prop where
  kp : Kp st nl H H'
  st : St st H'
  nl : H' nl = some (.lst (rest.map V.str))
theorem Bs.ne {st nl : Addr} {H H' : Hp} {rest : List Str} (b : Bs st nl H H' rest) : nl ≠ st := fun z => by
  obtain ⟨s, e, _⟩ := b.st
  have h := b.nl
  rw [z, e] at h
  cases rest with
  | nil => cases h
  | cons x r => injection h with h; injection h with h; rw [List.map_cons] at h; injection h with h; cases h
theorem Bs.grow {st nl : Addr} {H H' H'' : Hp} {rest : List Str} (b : Bs st nl H H' rest) (s : Same H' H'') : Bs st nl H H'' rest :=
  ⟨b.kp.trans (.same s), let ⟨x, a, c⟩ := b.st; ⟨x, s _ _ a, c⟩, s _ _ b.nl⟩
theorem Bs.step {st nl : Addr} {H H' H'' : Hp} {rest : List Str} (b : Bs st nl H H' rest) (m : Ms st H' H'') : Bs st nl H H'' rest :=
  ⟨b.kp.trans (.ms m), m.st, m.keep _ _ b.ne b.nl⟩
theorem Bs.trans {st nl : Addr} {H H' H'' : Hp} {rest r2 : List Str} (b : Bs st nl H H' rest) (c : Bs st nl H' H'' r2) : Bs st nl H H'' r2 := ⟨b.kp.trans c.kp, c.st, c.nl⟩
theorem Bs.free {st nl : Addr} {H H' : Hp} {rest : List Str} (b : Bs st nl H H' rest) {l : Addr} (h : H' l = none) : H l = none ∧ l ≠ st ∧ l ≠ nl := by
  have h1 : l ≠ st := b.st.ne h
  have h2 : l ≠ nl := fun z => by rw [z, b.nl] at h; cases h
  refine ⟨?_, h1, h2⟩
  cases q : H l with
  | none => rfl
  | some o => rw [b.kp l o h1 h2 q] at h; cases h
theorem Bs.set {st nl : Addr} {H H' : Hp} {rest : List Str} (b : Bs st nl H H' rest) {l : Addr} (o : HO) (h : H l = none) (h1 : l ≠ st) (h2 : l ≠ nl) : Bs st nl H (upd H' l o) rest :=
  ⟨fun c u n m e => by rw [upd_ne (ne_of_none e h)]; exact b.kp c u n m e, let ⟨x, a, c⟩ := b.st; ⟨x, by rw [upd_ne h1.symm]; exact a, c⟩, by rw [upd_ne h2.symm]; exact b.nl⟩
theorem Bs.tups {st nl : Addr} {H H' H'' : Hp} {rest : List Str} (b : Bs st nl H H' rest) (k : Kp st nl H' H'') : Tups H' H'' := fun c vs e =>
  k c _ (fun z => by obtain ⟨s, a, _⟩ := b.st; rw [z, a] at e; cases e) (fun z => by have a := b.nl; rw [← z, e] at a; cases a) e
theorem seq_setC {v : V} {i : Nat} {u : TS} {D : Ends} {σ : L2.St} {H : Hp} (h : u D (σ.set i (some v)) H) : tSeq (tAsg (tC v) (gName i)) u D σ H := h
def knd : List V := [.str "row", .str "flow", .str "column", .str "grid", .str "pile", .str "words", .str "blank"]
theorem gW : (Str.ofString "words" : Str) ≠ "grid" := by decide +kernel
theorem gB : (Str.ofString "blank" : Str) ≠ "grid" := by decide +kernel
theorem wB : (Str.ofString "blank" : Str) ≠ "words" := by decide +kernel
section
variable {P : Program} {w : World} {K : PySem.W.Frag} {mg : Str → Option Value} {base : Heap} {A : Adr}
def spBoxT (n : Nat) : Sp := fun vs H Q _ => ∃ (st nl : Addr) (ns : List Str) (d : Int), vs = [.ref st, .ref nl, .int d] ∧ Bs st nl H H ns ∧ ns ≠ [] ∧ ns.length ≤ 12 ∧ 0 ≤ d ∧ d ≤ 4 ∧ 5 ≤ d + n ∧
  ∀ (t : Bt) (rest : List Str) (H' : Hp), Bs st nl H H' rest → ns = (pre t).map Bt.n ++ rest → BtAt H' t → dp t ≤ n → Q (.ref t.a) H'
seal PE PS PSs PA PT PI PG in
theorem box_step (T : Txt K mg A) (n : Nat) (G_l_box : FnOk P w K mg base CX0 (n + 2) A.f_l_box A.d_l_box P_l_box (spBoxT n)) : FnOk P w K mg base CX0 (n + 1 + 2) A.f_l_box A.d_l_box P_l_box (spBoxT (n + 1)) := by
  have G_l_mix : FnOk P w K mg base CX0 (n + 2) A.f_l_mix A.d_l_mix P_l_mix spMix := (ok_mix T).mono (by omega)
  have G_l_text : FnOk P w K mg base CX0 (n + 2) A.f_l_text A.d_l_text P_l_text spText80 := (ok_text T).mono (by omega)
  refine T.F_l_box.ok sc_l_box (fun vs H Q E h => ?_) (fun cdv B outer s H vs Q E hr h => ?_)
  · obtain ⟨st, nl, ns, d, rfl, _⟩ := h; rfl
  obtain ⟨st, nl, ns, d, rfl, b0, hne, hn, d0, d4, dn, q⟩ := h
  refine ⟨_, @pss_cons _ _ _ _ _ (ps_set (i := 3) sc_l_box.nd rfl (Or.inl rfl) (pe_bm PySem.F.plainAttrs_list PySem.F.slot_list_pop PySem.F.type_list_pop mt_popAt (pv 1) (pa_cons pe_int pa_nil)))
    (@pss_cons _ _ _ _ _ (ps_set (i := 4) sc_l_box.nd rfl (Or.inl rfl) (pe_ix ix_list (pe_lst (pa_cons pe_str (pa_cons pe_str (pa_cons pe_str (pa_cons pe_str (pa_cons pe_str (pa_cons pe_str (pa_cons pe_str pa_nil)))))))) (pe_op op_mod (pe_call G_l_mix hr rfl T.m_l_mix T.F_l_mix.kp T.b_l_mix .nil pass0 (pa_cons (pv 0) (pa_cons pe_int pa_nil))) (pe_ix ix_list (pe_lst (pa_cons pe_int (pa_cons pe_int (pa_cons pe_int pa_nil)))) (pe_callB (call_min2 rfl) rfl T.n_min b_min (pa_cons (pv 2) (pa_cons pe_int pa_nil))) (fun _ _ => rfl))) (fun _ _ => rfl)))
    (@pss_cons _ _ _ _ _ (ps_if (pt_cmpR op_eq (pv 2) pe_int (nomark _)) (pss_one (ps_set (i := 4) sc_l_box.nd rfl (Or.inl rfl) (pe_ix ix_list (pe_lst (pa_cons pe_str (pa_cons pe_str pa_nil))) (pe_op op_mod (pe_call G_l_mix hr rfl T.m_l_mix T.F_l_mix.kp T.b_l_mix .nil pass0 (pa_cons (pv 0) (pa_cons pe_int pa_nil))) pe_int) (fun _ _ => rfl)))) pss_nil)
    (@pss_cons _ _ _ _ _ (ps_if (pt_cmpR op_eq (pv 4) pe_str (nomark _)) (pss_one (ps_ret (pe_tup (pa_cons (pv 4) (pa_cons (pv 3) (pa_cons (pe_tup pa_nil) (pa_cons (pe_call G_l_text hr rfl T.m_l_text T.F_l_text.kp T.b_l_text .nil pass0 (pa_cons (pv 0) pa_nil)) (pa_cons (pe_tup pa_nil) pa_nil)))))))) pss_nil)
    (@pss_cons _ _ _ _ _ (ps_if (pt_cmpR op_eq (pv 4) pe_str (nomark _)) (pss_one (ps_ret (pe_tup (pa_cons (pv 4) (pa_cons (pv 3) (pa_cons (pe_tup pa_nil) (pa_cons pe_non (pa_cons (pe_tup pa_nil) pa_nil)))))))) pss_nil)
    (@pss_cons _ _ _ _ _ (ps_set (i := 5) sc_l_box.nd rfl (Or.inl rfl) (pe_lst pa_nil))
    (@pss_cons _ _ _ _ _ (ps_for PassesOwn.never rfl (pi_range1 rfl T.n_range (pa_cons (pe_ix ix_list (pe_lst (pa_cons pe_int (pa_cons pe_int (pa_cons pe_int (pa_cons pe_int (pa_cons pe_int (pa_cons pe_int (pa_cons pe_int (pa_cons pe_int pa_nil))))))))) (pe_op op_mod (pe_call G_l_mix hr rfl T.m_l_mix T.F_l_mix.kp T.b_l_mix .nil pass0 (pa_cons (pv 0) (pa_cons pe_int pa_nil))) pe_int) (fun _ _ => rfl)) pa_nil)) (pg_name (i := 6) sc_l_box.nd rfl (Or.inl rfl)) (pss_one (ps_if (pt_cmpR op_gt (pe_callB call_len_seq rfl T.n_len b_len (pa_cons (pv 1) pa_nil)) pe_int (nomark _)) (pss_one (ps_expr (pe_bm PySem.F.plainAttrs_list PySem.F.slot_list_append PySem.F.type_list_append mt_append (pv 5) (pa_cons (pe_call G_l_box hr rfl T.m_l_box T.F_l_box.kp T.b_l_box .nil pass0 (pa_cons (pv 0) (pa_cons (pv 1) (pa_cons (pe_op op_add (pv 2) pe_int) pa_nil)))) pa_nil)))) pss_nil)))
    (@pss_cons _ _ _ _ _ (ps_set (i := 7) sc_l_box.nd rfl (Or.inl rfl) pe_non)
    (@pss_cons _ _ _ _ _ (ps_if (pt_cmpR op_eq (pv 4) pe_str (nomark _)) (pss_one (ps_set (i := 7) sc_l_box.nd rfl (Or.inl rfl) (pe_op op_add pe_int (pe_op op_mod (pe_call G_l_mix hr rfl T.m_l_mix T.F_l_mix.kp T.b_l_mix .nil pass0 (pa_cons (pv 0) (pa_cons pe_int pa_nil))) (pe_ix ix_list (pe_lst (pa_cons pe_int (pa_cons pe_int pa_nil))) (pe_op op_mod (pe_call G_l_mix hr rfl T.m_l_mix T.F_l_mix.kp T.b_l_mix .nil pass0 (pa_cons (pv 0) (pa_cons pe_int pa_nil))) pe_int) (fun _ _ => rfl)))))) pss_nil)
    (pss_one (ps_ret (pe_tup (pa_cons (pv 4) (pa_cons (pv 3) (pa_cons (pe_tup pa_nil) (pa_cons (pv 7) (pa_cons (pe_callTy call_tuple_of rfl T.n_tuple b_tuple (pa_cons (pv 5) pa_nil)) pa_nil)))))))))))))))), ?_⟩
  cases ns with
  | nil => exact absurd rfl hne
  | cons x r =>
  refine ⟨_, rfl, .inl ⟨rfl, _, .of b0.nl⟩, nl, _, 0, 0, .str x, rfl, rfl, b0.nl, by decide, by decide, seqIx_natE (a := 0) rfl (by simp), rfl, ?_⟩
  have b1 : Bs st nl H (upd H nl (.lst (r.map V.str))) r := ⟨.upd _, let ⟨s, a, c⟩ := b0.st; ⟨s, by rw [upd_ne b0.ne.symm]; exact a, c⟩, upd_same⟩
  show tSeq _ _ _ [some (.ref st), some (.ref nl), some (.int d), some (.str x), none, none, none, none] (upd H nl (.lst (r.map V.str)))
  generalize upd H nl (.lst (r.map V.str)) = H1 at b1 ⊢
  refine ⟨(by show 7 ≤ sizeLine; decide), fun l1 hl1 => ⟨_, rfl, st, 0, rfl, (b1.grow (same_upd hl1 _)).st, fun ra H2 ra0 ra1 m2 _ => ⟨(by show 3 ≤ sizeLine; decide), fun l2 hl2 => ⟨_, rfl, d, 2, rfl, ?_⟩⟩⟩⟩
  have b2 := (b1.grow (same_upd hl1 (.lst knd))).step m2
  have e1 : H2 l1 = some (.lst knd) := m2.keep _ _ ((b1.free hl1).2.1) upd_same
  refine ix_any (.of upd_same) (by split <;> omega) (by show (if (2 : Int) < d then (2 : Int) else d) < 3; split <;> omega) fun v hv => ?_
  obtain ⟨m, rfl, hm0, hm⟩ : ∃ m : Int, v = .int m ∧ 0 < m ∧ m ≤ 7 := by
    have : v = .int 5 ∨ v = .int 7 := by simpa using hv
    rcases this with rfl | rfl <;> exact ⟨_, rfl, by decide, by decide⟩
  have a0 := Int.emod_nonneg ra (show m ≠ 0 by omega)
  have a1 := Int.emod_lt_of_pos ra hm0
  have b3 := b2.grow (same_upd hl2 (.lst [.int 5, .int 7, .int 7]))
  refine ⟨_, _, rfl, rfl, hm0, ix_any (xs := knd) (.of (same_upd hl2 _ _ _ e1)) a0 (by show ra % m < 7; omega) fun v hv => ?_⟩
  obtain ⟨kd, rfl⟩ : ∃ kd : Str, v = .str kd := by
    have : v = .str "row" ∨ v = .str "flow" ∨ v = .str "column" ∨ v = .str "grid" ∨ v = .str "pile" ∨ v = .str "words" ∨ v = .str "blank" := by simpa [knd] using hv
    rcases this with rfl | rfl | rfl | rfl | rfl | rfl | rfl <;> exact ⟨_, rfl⟩
  clear hv e1 hl2 hl1 b2 m2
  dsimp only [gName]
  show tSeq _ _ _ _ _
  generalize upd H2 l2 (.lst [.int 5, .int 7, .int 7]) = H3 at b3 ⊢
  refine seq_joinI (fun σ' H' => ∃ kd : Str, σ' = [some (.ref st), some (.ref nl), some (.int d), some (.str x), some (.str kd), none, none, none] ∧ Bs st nl H H' r ∧ (d = 4 → kd = "words" ∨ kd = "blank")) (fun N hN => ?_) ?_
  · refine ⟨_, rfl, rfl, _, rfl, ite2 (fun c => ?_) (fun c => ?_)⟩
    · refine ⟨(by show 2 ≤ sizeLine; decide), fun l hl => ⟨_, rfl, st, 0, rfl, (b3.grow (same_upd hl _)).st, fun ra H2 ra0 ra1 m2 _ => ⟨_, _, rfl, rfl, (by show (0:Int) < 2; decide), ?_⟩⟩⟩
      refine ix_any (.of (m2.keep _ _ ((b3.free hl).2.1) upd_same)) (Int.emod_nonneg ra (show (2:Int) ≠ 0 by decide)) (by simpa using Int.emod_lt_of_pos ra (show (0:Int) < 2 by decide)) fun v hv => ?_
      have : v = .str "words" ∨ v = .str "blank" := by simpa using hv
      rcases this with rfl | rfl
      · exact hN _ _ ⟨_, rfl, (b3.grow (same_upd hl _)).step m2, fun _ => .inl rfl⟩
      · exact hN _ _ ⟨_, rfl, (b3.grow (same_upd hl _)).step m2, fun _ => .inr rfl⟩
    · exact hN _ _ ⟨kd, rfl, b3, fun e => absurd (decide_eq_true (congrArg V.int e)) c⟩
  clear b3 kd H3 b1 b0
  rintro σ' H1 ⟨kd, rfl, b1, h4⟩
  refine ⟨_, rfl, rfl, _, rfl, ite2 (fun c => ?_) (fun c => ?_)⟩
  · have ek : kd = "words" := by have e := of_decide_eq_true c; injection e
    subst ek
    refine ⟨_, rfl, _, rfl, small (by simp), fun t1 ht1 => ⟨_, rfl, st, rfl, (b1.grow (same_upd ht1 _)).st, fun z H2 m2 lz => ⟨small (by simp), fun t2 ht2 => ⟨small (by simp), fun t3 ht3 => ?_⟩⟩⟩⟩
    have b4 := ((b1.grow (same_upd ht1 _)).step m2).grow ((same_upd ht2 (.tup [])).trans (same_upd ht3 (.tup [.str "words", .str x, .ref t1, .str z, .ref t2])))
    refine q (.mk t3 "words" x (.str z) []) r _ b4 (by rw [pre_eq]; show _ = x :: (List.map _ (preL [])) ++ r; rw [preL_nil]; rfl) (.mk ⟨⟨t1, t2, upd_same, same_upd ht3 _ _ _ upd_same⟩, fun _ => ⟨z, rfl, lz⟩, fun e => absurd e gW⟩ fun b h => nomatch h) ?_
    rw [dp_eq]; show dpL [] + 1 ≤ n + 1; rw [dpL]; omega
  have nw : kd ≠ "words" := fun e => c (decide_eq_true (by rw [e]))
  clear c
  refine ⟨_, rfl, rfl, _, rfl, ite2 (fun c => ?_) (fun c => ?_)⟩
  · have ek : kd = "blank" := by have e := of_decide_eq_true c; injection e
    subst ek
    refine ⟨_, rfl, _, rfl, small (by simp), fun t1 ht1 => ⟨small (by simp), fun t2 ht2 => ⟨small (by simp), fun t3 ht3 => ?_⟩⟩⟩
    have b4 := b1.grow ((same_upd ht1 (.tup [])).trans ((same_upd ht2 (.tup [])).trans (same_upd ht3 (.tup [.str "blank", .str x, .ref t1, .non, .ref t2]))))
    refine q (.mk t3 "blank" x .non []) r _ b4 (by rw [pre_eq]; show _ = x :: (List.map _ (preL [])) ++ r; rw [preL_nil]; rfl) (.mk ⟨⟨t1, t2, upd_same, same_upd ht3 _ _ _ upd_same⟩, fun e => absurd e wB, fun e => absurd e gB⟩ fun b h => nomatch h) ?_
    rw [dp_eq]; show dpL [] + 1 ≤ n + 1; rw [dpL]; omega
  have nb : kd ≠ "blank" := fun e => c (decide_eq_true (by rw [e]))
  clear c
  have d3 : d ≤ 3 := by
    by_cases e : d = 4
    · rcases h4 e with h | h
      · exact absurd h nw
      · exact absurd h nb
    · omega
  refine ⟨small (by simp), fun kl hkl => ?_⟩
  obtain ⟨f0, f1, f2⟩ := b1.free hkl
  refine ⟨(by show 8 ≤ sizeLine; decide), fun l hl => ⟨_, rfl, st, 0, rfl, ((b1.grow (same_upd hkl _)).grow (same_upd hl _)).st, fun ra H2 ra0 ra1 m2 _ => ⟨_, _, rfl, rfl, (by show (0:Int) < 8; decide), ?_⟩⟩⟩
  have b2 := ((b1.grow (same_upd hkl (.lst []))).grow (same_upd hl _)).step m2
  have e2 : H2 kl = some (.lst []) := m2.keep _ _ f1 (same_upd hl _ _ _ upd_same)
  refine ix_any (.of (m2.keep _ _ (((b1.grow (same_upd hkl (.lst []))).free hl).2.1) upd_same)) (Int.emod_nonneg ra (show (8:Int) ≠ 0 by decide)) (by simpa using Int.emod_lt_of_pos ra (show (0:Int) < 8 by decide)) fun v hv => ?_
  obtain ⟨m, rfl, hm0, hm⟩ : ∃ m : Int, v = .int m ∧ 0 ≤ m ∧ m ≤ 11 := by
    have : v = .int 0 ∨ v = .int 1 ∨ v = .int 2 ∨ v = .int 3 ∨ v = .int 4 ∨ v = .int 5 ∨ v = .int 7 ∨ v = .int 11 := by simpa using hv
    rcases this with rfl | rfl | rfl | rfl | rfl | rfl | rfl | rfl <;> exact ⟨_, rfl, by decide, by decide⟩
  clear hv hl
  refine ⟨_, rfl, by omega, by omega, for_range (n := m.toNat) (fun i σ H' => ∃ (kids : List Bt) (rest : List Str) (v6 : Option V), σ = [some (.ref st), some (.ref nl), some (.int d), some (.str x), some (.str kd), some (.ref kl), v6, none] ∧ Bs st nl H H' rest ∧ H' kl = some (.lst (kids.map fun c => V.ref c.a)) ∧ r = (preL kids).map Bt.n ++ rest ∧ (∀ c ∈ kids, BtAt H' c ∧ dp c ≤ n) ∧ kids.length ≤ i)
    ⟨[], r, none, rfl, b2, e2, by rw [preL_nil]; rfl, fun c h => (nomatch h), Nat.le_refl _⟩ ?_ ?_⟩
  · rintro i σ H3 hi ⟨kids, rest, v6, rfl, b3, e3, er, hk, lk⟩
    refine ⟨_, rfl, nl, _, rfl, .inl (.of b3.nl), _, _, rfl, rfl, _, rfl, ite2 (fun c => ?_) (fun c => ?_)⟩
    · have c' : (0 : Int) < (((rest.map V.str).length : Nat) : Int) := of_decide_eq_true c
      rw [List.length_map] at c'
      have lr := congrArg List.length er
      rw [List.length_append] at lr
      rw [List.length_cons] at hn
      refine ⟨_, rfl, .inl ⟨rfl, _, .of e3⟩, _, rfl, _, rfl, _, rfl, _, _, rfl, rfl, st, nl, rest, d + 1, rfl, ⟨.refl _ _ _, b3.st, b3.nl⟩, (fun z => by rw [z] at c'; simp at c'), by omega, by omega, by omega, by omega, fun t rest2 H4 b4 en bt dt => ?_⟩
      have e4 := b4.kp _ _ f1 f2 e3
      refine ⟨kl, _, _, rfl, rfl, e4, by rw [List.length_map]; exact small1000 (by omega), ?_⟩
      have tp : Tups H3 (upd H4 kl (.lst (kids.map (fun c => V.ref c.a) ++ [V.ref t.a]))) := (b3.tups b4.kp).trans (.upd e4 fun vs z => nomatch z)
      refine ⟨kids ++ [t], rest2, _, rfl, (b3.trans b4).set _ f0 f1 f2, by rw [upd_same, List.map_append]; rfl, by rw [er, en, preL_snoc, List.map_append, List.append_assoc], fun c hc => ?_, by rw [List.length_append, List.length_singleton]; omega⟩
      rcases List.mem_append.mp hc with hc | hc
      · exact ⟨(hk c hc).1.tups tp, (hk c hc).2⟩
      · rw [List.mem_singleton.mp hc]
        exact ⟨bt.tups (.upd e4 fun vs z => nomatch z), dt⟩
    · exact ⟨kids, rest, _, rfl, b3, e3, er, hk, by omega⟩
  rintro σ H3 ⟨kids, rest, v6, rfl, b3, e3, er, hk, lk⟩
  dsimp only
  refine seq_setC ?_
  refine seq_joinI (fun σ' H' => ∃ mo : V, σ' = [some (.ref st), some (.ref nl), some (.int d), some (.str x), some (.str kd), some (.ref kl), v6, some mo] ∧ Bs st nl H H' rest ∧ Kp st nl H3 H' ∧ (kd = "grid" → ∃ i : Int, mo = .int i ∧ 1 ≤ i ∧ i ≤ 9)) (fun N hN => ?_) ?_
  · refine ⟨_, rfl, rfl, _, rfl, ite2 (fun c => ?_) (fun c => ?_)⟩
    · refine ⟨_, rfl, st, 0, rfl, b3.st, fun ra H4 ra0 ra1 m4 _ => ⟨(by show 2 ≤ sizeLine; decide), fun l hl => ⟨_, rfl, st, 0, rfl, ((b3.step m4).grow (same_upd hl _)).st, fun rb H5 rb0 rb1 m5 _ => ⟨_, _, rfl, rfl, (by show (0:Int) < 2; decide), ?_⟩⟩⟩⟩
      refine ix_any (.of (m5.keep _ _ (((b3.step m4).free hl).2.1) upd_same)) (Int.emod_nonneg rb (show (2:Int) ≠ 0 by decide)) (by simpa using Int.emod_lt_of_pos rb (show (0:Int) < 2 by decide)) fun v hv => ?_
      obtain ⟨g, rfl, hg0, hg⟩ : ∃ m : Int, v = .int m ∧ 0 < m ∧ m ≤ 9 := by
        have : v = .int 4 ∨ v = .int 9 := by simpa using hv
        rcases this with rfl | rfl <;> exact ⟨_, rfl, by decide, by decide⟩
      have a0 := Int.emod_nonneg ra (show g ≠ 0 by omega)
      have a1 := Int.emod_lt_of_pos ra hg0
      refine ⟨_, _, rfl, rfl, hg0, _, _, rfl, rfl, hN _ _ ⟨_, rfl, ((b3.step m4).grow (same_upd hl _)).step m5, .trans (.ms m4) (.trans (.same (same_upd hl _)) (.ms m5)), fun _ => ⟨_, rfl, by omega, by omega⟩⟩⟩
    · exact hN _ _ ⟨_, rfl, b3, .refl _ _ _, fun e => absurd (decide_eq_true (by rw [e])) c⟩
  rintro σ' H4 ⟨mo, rfl, b4, k4, hg⟩
  have e4 := k4 _ _ f1 f2 e3
  refine ⟨_, rfl, _, rfl, small (by simp), fun t1 ht1 => ⟨_, rfl, _, rfl, kl, _, rfl, .inl ⟨.of (same_upd ht1 _ _ _ e4), fun t2 ht2 => ⟨small (by simp), fun t3 ht3 => ?_⟩⟩⟩⟩
  have s5 := (same_upd ht1 (.tup [])).trans ((same_upd ht2 (.tup (kids.map fun c => V.ref c.a))).trans (same_upd ht3 (.tup [.str kd, .str x, .ref t1, mo, .ref t2])))
  refine q (.mk t3 kd x mo kids) rest _ (b4.grow s5) (by rw [pre_eq]; show x :: r = x :: ((preL kids).map Bt.n) ++ rest; rw [er]; rfl) (.mk ⟨⟨t1, t2, upd_same, same_upd ht3 _ _ _ upd_same⟩, fun e => absurd e nw, hg⟩ fun c hc => (hk c hc).1.tups ((b3.tups k4).trans (.of s5))) ?_
  rw [dp_eq]; show dpL kids + 1 ≤ n + 1
  have := dpL_le fun c hc => (hk c hc).2
  omega
theorem ok_box (T : Txt K mg A) : ∀ n, FnOk P w K mg base CX0 (n + 2) A.f_l_box A.d_l_box P_l_box (spBoxT n)
  | 0 => ⟨fun vs H Q E h => by obtain ⟨_, _, _, d, _, _, _, _, _, h1, h2, _⟩ := h; omega, fun _ _ _ _ _ _ vs Q E _ _ _ _ h => by obtain ⟨_, _, _, d, _, _, _, _, _, h1, h2, _⟩ := h; omega⟩
  | n + 1 => box_step T n (ok_box T n)
end
end KP

set_option linter.all false
set_option maxHeartbeats 4000000
set_option maxRecDepth 100000
namespace KP
open PySem L2 PyProof.Rows
theorem b_reversed : bootBuiltins "reversed" = some (.type "reversed") := by decide +kernel
theorem b_dict : bootBuiltins "dict" = some (.type "dict") := by decide +kernel
theorem b_str : bootBuiltins "str" = some (.type "str") := by decide +kernel
theorem ite_no {b : Bool} {A B : Prop} (hc : b = false) (h : B) : if b = true then A else B := by rw [hc]; exact iteF h
theorem ite_yes {b : Bool} {A B : Prop} (hc : b = true) (h : A) : if b = true then A else B := by rw [hc]; exact iteT h
/-- the boxes' addresses -/
abbrev rfs (l : List Bt) : List V := l.map fun c => V.ref c.a
theorem rfs_at {l : List Bt} {i : Nat} {x : V} (h : (rfs l)[i]? = some x) : ∃ c, l[i]? = some c ∧ x = .ref c.a := by
  rw [List.getElem?_map] at h
  cases e : l[i]? with
  | none => rw [e] at h; cases h
  | some c => rw [e] at h; cases h; exact ⟨c, rfl, rfl⟩
theorem take_snoc {α : Type} {l : List α} {i : Nat} {c : α} (h : l[i]? = some c) : l.take (i + 1) = l.take i ++ [c] := by rw [List.take_add_one, h]; rfl
theorem preL_take {l : List Bt} {i : Nat} : (preL (l.take i)).length ≤ (preL l).length := by
  have : preL l = preL (l.take i) ++ preL (l.drop i) := by rw [← preL_app, List.take_append_drop]
  rw [this, List.length_append]; omega
section
variable {P : Program} {w : World} {K : PySem.W.Frag} {mg : Str → Option Value} {base : Heap} {A : Adr}
def spAll (n : Nat) : Sp := fun vs H Q _ => ∃ t : Bt, vs = [.ref t.a] ∧ BtAt H t ∧ dp t ≤ n ∧ (pre t).length ≤ 40 ∧
  ∀ (l : Addr) (H' : Hp), H l = none → Same H H' → H' l = some (.lst (rfs (pre t))) → Q (.ref l) H'
seal PE PS PSs PA PT PI PG in
theorem all_step (T : Txt K mg A) (n : Nat) (G_l_all : FnOk P w K mg base CX0 n A.f_l_all A.d_l_all P_l_all (spAll n)) : FnOk P w K mg base CX0 (n + 1) A.f_l_all A.d_l_all P_l_all (spAll (n + 1)) := by
  refine T.F_l_all.ok sc_l_all (fun vs H Q E h => ?_) (fun cdv B outer s H vs Q E hr h => ?_)
  · obtain ⟨t, rfl, _⟩ := h; rfl
  obtain ⟨t, rfl, bt, hd, h40, q⟩ := h
  refine ⟨_, @pss_cons _ _ _ _ _ (ps_set (i := 1) sc_l_all.nd rfl (Or.inl rfl) (pe_lst (pa_cons (pv 0) pa_nil)))
    (@pss_cons _ _ _ _ _ (ps_for PassesOwn.never rfl (pi_tup (pe_ix ix_tup (pv 0) pe_int (fun _ _ => rfl))) (pg_name (i := 2) sc_l_all.nd rfl (Or.inl rfl)) (pss_one (ps_set (i := 1) sc_l_all.nd rfl (Or.inl rfl) (pe_op op_cat (pv 1) (pe_call G_l_all hr rfl T.m_l_all T.F_l_all.kp T.b_l_all .nil pass0 (pa_cons (pv 2) pa_nil))))))
    (pss_one (ps_ret (pv 1)))), ?_⟩
  obtain ⟨tg, kt, e1, e2⟩ := bt.self.ex
  refine ⟨_, rfl, small (by simp), fun l hl => ?_⟩
  have s0 := same_upd hl (.lst [V.ref t.a])
  have e0 : upd H l (.lst [V.ref t.a]) l = some (.lst [V.ref t.a]) := upd_same
  generalize upd H l (.lst [V.ref t.a]) = H0 at s0 e0 ⊢
  have h40' := h40
  rw [pre_eq, List.length_cons] at h40'
  refine ⟨_, rfl, t.a, _, _, _, rfl, rfl, .of (s0 _ _ e1), rfl, kt, rfl, ⟨_, .of (s0 _ _ e2)⟩, for_tup (K := K) (a := kt) (xs := rfs t.ks) (fun i σ H' => ∃ (l : Addr) (v2 : Option V), σ = [some (.ref t.a), some (.ref l), v2] ∧ Same H H' ∧ H l = none ∧ H' l = some (.lst (rfs (t :: preL (t.ks.take i)))))
    ⟨l, none, rfl, s0, hl, by rw [List.take_zero, preL_nil]; exact e0⟩ (fun i σ H' _ ⟨_, _, _, s1, _⟩ => .of (s1 _ _ e2)) ?_ ?_⟩
  · rintro i x σ H1 hx ⟨l1, v2, rfl, s1, f1, e3⟩
    obtain ⟨c, hc, rfl⟩ := rfs_at hx
    have hcm := List.mem_of_getElem? hc
    have lt : (preL (t.ks.take (i + 1))).length ≤ (preL t.ks).length := preL_take
    rw [take_snoc hc, preL_snoc, List.length_append] at lt
    refine ⟨_, rfl, _, rfl, c, rfl, (bt.kid hcm).same s1, by have := dp_kid hcm; omega, by omega, fun l2 H2 f2 s2 e4 => ?_⟩
    refine ⟨l1, l2, _, _, rfl, rfl, s2 _ _ e3, e4, by rw [List.length_map, List.length_map, List.length_cons]; exact small (by omega), fun p hp => ⟨p, _, rfl, s1.trans (s2.trans (same_upd hp _)), ?_, ?_⟩⟩
    · cases e : H p with
      | none => rfl
      | some o => rw [s2 _ _ (s1 _ _ e)] at hp; cases hp
    · rw [upd_same, take_snoc hc, preL_snoc, ← List.map_append, List.cons_append]
  · rintro σ H1 ⟨l1, v2, rfl, s1, f1, e3⟩
    refine ⟨_, rfl, q l1 H1 f1 s1 ?_⟩
    rw [e3, List.take_of_length_le (by rw [List.length_map]; exact Nat.le_refl _), pre_eq]
theorem ok_all (T : Txt K mg A) : ∀ n, FnOk P w K mg base CX0 n A.f_l_all A.d_l_all P_l_all (spAll n)
  | 0 => ⟨fun vs H Q E h => by obtain ⟨t, _, _, h1, _⟩ := h; rw [dp_eq] at h1; omega, fun _ _ _ _ _ _ vs Q E _ _ _ _ h => by obtain ⟨t, _, _, h1, _⟩ := h; rw [dp_eq] at h1; omega⟩
  | n + 1 => all_step T n (ok_all T n)
theorem last_map {α : Type} (f : α → V) (l : List α) (a : α) : ((l ++ [a]).map f)[((l ++ [a]).map f).length - 1]? = some (f a) := by
  simp
theorem preL_len (l : List Bt) : l.length ≤ (preL l).length := by
  induction l with
  | nil => simp
  | cons x r ih => rw [preL_cons, List.length_append, pre_eq, List.length_cons, List.length_cons]; omega
def spBoxesT : Sp := fun vs H Q _ => ∃ t : Bt, vs = [.ref t.a] ∧ BtAt H t ∧ (pre t).length ≤ 40 ∧
  ∀ (l : Addr) (H' : Hp), H l = none → Same H H' → H' l = some (.lst (rfs (pre t))) → Q (.ref l) H'
seal PE PS PSs PA PT PI PG in
theorem ok_boxes_of (T : Txt K mg A) : FnOk P w K mg base CX0 1 A.f_boxes_of A.d_boxes_of P_boxes_of spBoxesT := by
  refine T.F_boxes_of.ok sc_boxes_of (fun vs H Q E h => ?_) (fun cdv B outer s H vs Q E hr h => ?_)
  · obtain ⟨t, rfl, _⟩ := h; rfl
  obtain ⟨t, rfl, bt, h40, q⟩ := h
  refine ⟨_, @pss_cons _ _ _ _ _ (ps_set (i := 1) sc_boxes_of.nd rfl (Or.inl rfl) (pe_lst pa_nil))
    (@pss_cons _ _ _ _ _ (ps_set (i := 2) sc_boxes_of.nd rfl (Or.inl rfl) (pe_lst (pa_cons (pv 0) pa_nil)))
    (@pss_cons _ _ _ _ _ (ps_while PassesOwn.never (pt_truth (pv 2) (fun _ => rfl)) (@pss_cons _ _ _ _ _ (ps_set (i := 3) sc_boxes_of.nd rfl (Or.inl rfl) (pe_bm0 PySem.F.plainAttrs_list PySem.F.slot_list_pop PySem.F.type_list_pop mt_pop (pv 2)))
    (@pss_cons _ _ _ _ _ (ps_expr (pe_bm PySem.F.plainAttrs_list PySem.F.slot_list_append PySem.F.type_list_append mt_append (pv 1) (pa_cons (pv 3) pa_nil)))
    (pss_one (ps_expr (pe_bm PySem.F.plainAttrs_list PySem.F.slot_list_extend PySem.F.type_list_extend mt_extend (pv 2) (pa_cons (pe_listRev rfl T.n_list b_list rfl T.n_reversed b_reversed (pe_ix ix_tup (pv 3) pe_int (fun _ _ => rfl))) pa_nil)))))))
    (pss_one (ps_ret (pv 1))))), ?_⟩
  refine ⟨small (by simp), fun l1 hl1 => ⟨_, rfl, small (by simp), fun l2 hl2 => ?_⟩⟩
  have s1 := same_upd hl1 (.lst [])
  have s2 := same_upd hl2 (.lst [V.ref t.a])
  have n12 : l1 ≠ l2 := fun e => by rw [← e, upd_same] at hl2; cases hl2
  have hl2' : H l2 = none := by rw [upd_ne n12.symm] at hl2; exact hl2
  refine ⟨fun m σ H1 => ∃ (ds zs : List Bt) (v3 : Option V), σ = [some (.ref t.a), some (.ref l1), some (.ref l2), v3] ∧ Same H H1 ∧ H1 l1 = some (.lst (rfs ds)) ∧ H1 l2 = some (.lst (rfs zs.reverse)) ∧
      ds ++ preL zs = pre t ∧ m = (preL zs).length,
    ⟨_, [], [t], none, rfl, s1.trans s2, by rw [upd_ne n12, upd_same]; rfl, upd_same, by rw [preL_cons, preL_nil]; simp, rfl⟩, ?_⟩
  rintro m σ H1 ⟨ds, zs, v3, rfl, s3, e1, e2, eo, rfl⟩
  cases zs with
  | nil =>
    refine ⟨_, rfl, _, .inl ⟨_, .of e2, rfl⟩, ite_no (by simp) ?_⟩
    refine ⟨_, rfl, q l1 H1 hl1 s3 ?_⟩
    rw [e1, ← eo, preL_nil, List.append_nil]
  | cons b zs =>
    refine ⟨_, rfl, _, .inl ⟨_, .of e2, rfl⟩, ite_yes (by simp) ?_⟩
    refine ⟨fun σ' H' => _, fun σ' H' h => h, ?_⟩
    have hb : b ∈ pre t := by rw [← eo, preL_cons, pre_eq b]; simp
    obtain ⟨tg, kt, b1, b3⟩ := (bt b hb).ex
    have er : rfs (b :: zs).reverse = (zs.reverse ++ [b]).map fun c => V.ref c.a := by rw [List.reverse_cons]
    rw [er] at e2
    have len1 := congrArg List.length eo
    rw [List.length_append, preL_cons, List.length_append, pre_eq b, List.length_cons] at len1
    have len2 := preL_len zs
    have len3 := preL_len b.ks
    have n40 : 100 ≤ sizeLine := by decide
    refine ⟨_, rfl, .inl ⟨rfl, _, .of e2⟩, l2, _, _, rfl, rfl, e2, last_map _ _ _, ?_⟩
    have ed : ((zs.reverse ++ [b]).map fun c => V.ref c.a).dropLast = rfs zs.reverse := by rw [List.map_append]; exact List.dropLast_concat
    rw [ed]
    have k1 : upd H1 l2 (.lst (rfs zs.reverse)) l1 = some (.lst (rfs ds)) := by rw [upd_ne n12]; exact e1
    refine ⟨_, rfl, .inl ⟨rfl, _, .of k1⟩, _, rfl, l1, _, _, rfl, rfl, k1, by rw [List.length_map]; omega, ?_⟩
    have k2 : upd (upd H1 l2 (.lst (rfs zs.reverse))) l1 (.lst (rfs ds ++ [V.ref b.a])) l2 = some (.lst (rfs zs.reverse)) := by rw [upd_ne n12.symm, upd_same]
    have k3 : upd (upd H1 l2 (.lst (rfs zs.reverse))) l1 (.lst (rfs ds ++ [V.ref b.a])) l1 = some (.lst (rfs ds ++ [V.ref b.a])) := upd_same
    have s4 : Same H (upd (upd H1 l2 (.lst (rfs zs.reverse))) l1 (.lst (rfs ds ++ [V.ref b.a]))) := fun b u e => by
      rw [upd_ne (ne_of_none e hl1), upd_ne (ne_of_none e hl2')]; exact s3 _ _ e
    generalize upd (upd H1 l2 (.lst (rfs zs.reverse))) l1 (.lst (rfs ds ++ [V.ref b.a])) = H2 at k2 k3 s4 ⊢
    refine ⟨_, rfl, .inl ⟨rfl, _, .of k2⟩, _, rfl, b.a, _, _, _, rfl, rfl, .of (s4 _ _ b1), rfl, kt, rfs b.ks, rfl, .of (s4 _ _ b3), fun l3 hl3 => ?_⟩
    have n3 : l3 ≠ l2 := fun e => by rw [e, k2] at hl3; cases hl3
    have n4 : l3 ≠ l1 := fun e => by rw [e, k3] at hl3; cases hl3
    have s5 := same_upd hl3 (.lst (rfs b.ks).reverse)
    refine ⟨l2, l3, _, _, rfl, rfl, s5 _ _ k2, upd_same, by simp only [List.length_map, List.length_reverse]; omega, ?_⟩
    refine ⟨_, ?_, ds ++ [b], b.ks ++ zs, some (.ref b.a), rfl, fun b u e => by rw [upd_ne (ne_of_none e hl2')]; exact s5 _ _ (s4 _ _ e), ?_, ?_, ?_, rfl⟩
    · rw [preL_app, preL_cons, pre_eq b, List.length_append, List.length_append, List.length_cons]; omega
    · rw [upd_ne n12, s5 _ _ k3]; show _ = some (HO.lst (List.map _ (ds ++ [b]))); rw [List.map_append]; rfl
    · rw [upd_same, ← List.map_reverse, ← List.map_append, ← List.reverse_append]
    · rw [← eo, preL_cons, preL_app, pre_eq b]; simp
end
end KP

set_option linter.all false
set_option maxHeartbeats 4000000
set_option maxRecDepth 100000
namespace KP
open PySem L2 PyProof.Rows
/-- a shape: its dict, the tuple of its width, and what they say -/
structure Sh where
  d : Addr
  t : Addr
  kvs : List (Key × V)
  y : Way
  lo : Int
  hi : Int
  pad : Int
  gap : Int
structure ShAt (H : Hp) (s : Sh) : Prop where
  shp : Shp H s.d s.kvs s.t s.y s.lo s.hi
  pad : valV s.kvs (.inr "pad") = some (.int s.pad)
  gap : valV s.kvs (.inr "gap") = some (.int s.gap)
  len : s.kvs.length ≤ 20
  nd : (s.kvs.map (·.1)).Nodup
  pl : ∀ kv ∈ s.kvs, plainV kv.2 = true
theorem ShAt.keep {H H' : Hp} {s : Sh} (h : ShAt H s) (k : ∀ b o, b = s.d ∨ b = s.t → H b = some o → H' b = some o) : ShAt H' s :=
  ⟨⟨k _ _ (.inl rfl) h.shp.ad, h.shp.wide, k _ _ (.inr rfl) h.shp.tup, h.shp.bd⟩, h.pad, h.gap, h.len, h.nd, h.pl⟩
theorem ShAt.same {H H' : Hp} {s : Sh} (h : ShAt H s) (k : Same H H') : ShAt H' s := h.keep fun b o _ e => k b o e
theorem ShAt.ms {st : Addr} {H H' : Hp} {s : Sh} (h : ShAt H s) (hs : St st H) (m : Ms st H H') : ShAt H' s := h.keep fun b o hb e => m.keep b o (fun z => by
  obtain ⟨x, a, _⟩ := hs
  rw [z] at hb
  rcases hb with hb | hb
  · have := h.shp.ad; rw [← hb, a] at this; cases this
  · have := h.shp.tup; rw [← hb, a] at this; cases this) e
theorem ShAt.upd {H : Hp} {s : Sh} {a : Addr} {o' : HO} (h : ShAt H s) (n1 : a ≠ s.d) (hd : ∃ o, H a = some o ∧ ∀ vs, o ≠ .tup vs) : ShAt (upd H a o') s := h.keep fun b o hb e => by
  obtain ⟨oa, ea, nt⟩ := hd
  rw [upd_ne (fun z => by
    rw [z] at hb
    rcases hb with hb | hb
    · exact n1 hb
    · have := h.shp.tup; rw [← hb, ea] at this; injection this with this; exact nt _ this)]
  exact e
/-- the shapes by their names -/
structure Shs (H : Hp) (sd : Addr) (ns : List Str) (f : Str → Sh) : Prop where
  ad : H sd = some (.dK (ns.map fun n => (Sum.inr n, V.ref (f n).d)))
  at_ : ∀ n ∈ ns, ShAt H (f n)
  inj : ∀ m ∈ ns, ∀ n ∈ ns, (f m).d = (f n).d → m = n
  ne : ∀ n ∈ ns, (f n).d ≠ sd
theorem val_map {α : Type} {ns : List Str} {g : Str → V} {n : Str} (h : n ∈ ns) : valV (ns.map fun n => ((Sum.inr n : Key), g n)) (.inr n) = some (g n) := by
  induction ns with
  | nil => cases h
  | cons x r ih =>
    by_cases e : x = n
    · subst e
      rw [List.map_cons]; unfold valV; simp
    · have h' : n ∈ r := by
        rcases List.mem_cons.mp h with h | h
        · exact absurd h.symm e
        · exact h
      have := ih h'
      rw [List.map_cons]
      unfold valV at this ⊢
      rw [List.find?_cons]
      have ne : decide ((Sum.inr x : Key) = Sum.inr n) = false := decide_eq_false fun z => e (by injection z)
      simp only [ne]
      exact this
theorem val_map_none {ns : List Str} {g : Str → V} {n : Str} (h : n ∉ ns) : valV (ns.map fun n => ((Sum.inr n : Key), g n)) (.inr n) = none := by
  induction ns with
  | nil => rfl
  | cons x r ih =>
    have := ih fun z => h (List.mem_cons_of_mem _ z)
    rw [List.map_cons]
    unfold valV at this ⊢
    rw [List.find?_cons]
    have ne : decide ((Sum.inr x : Key) = Sum.inr n) = false := decide_eq_false fun z => h (by injection z with z; rw [z]; exact List.mem_cons_self ..)
    simp only [ne]
    exact this
theorem put_new {ns : List Str} {g g' : Str → V} {n : Str} (h : n ∉ ns) (e : ∀ m ∈ ns, g' m = g m) : putK (ns.map fun n => ((Sum.inr n : Key), g n)) (.inr n) (g' n) = (ns ++ [n]).map fun n => ((Sum.inr n : Key), g' n) := by
  unfold putK
  have a : ((ns.map fun n => ((Sum.inr n : Key), g n)).any fun kv => decide (kv.1 = Sum.inr n)) = false := by rw [valV_any, val_map_none h]; rfl
  rw [if_neg (by rw [a]; simp), List.map_append]
  congr 1
  exact List.map_congr_left fun m hm => by rw [e m hm]
theorem Shs.get {H : Hp} {sd : Addr} {ns : List Str} {f : Str → Sh} (h : Shs H sd ns f) {n : Str} (hn : n ∈ ns) : DGet H sd (.str n) (some (.ref (f n).d)) := dget_s h.ad (val_map (α := Unit) hn)
theorem Shs.same {H H' : Hp} {sd : Addr} {ns : List Str} {f : Str → Sh} (h : Shs H sd ns f) (k : Same H H') : Shs H' sd ns f := ⟨k _ _ h.ad, fun n hn => (h.at_ n hn).same k, h.inj, h.ne⟩
theorem Shs.ms {st : Addr} {H H' : Hp} {sd : Addr} {ns : List Str} {f : Str → Sh} (h : Shs H sd ns f) (hs : St st H) (m : Ms st H H') : Shs H' sd ns f :=
  ⟨m.keep _ _ (fun z => by obtain ⟨x, a, _⟩ := hs; have := h.ad; rw [z, a] at this; cases this) h.ad, fun n hn => (h.at_ n hn).ms hs m, h.inj, h.ne⟩
section
variable {P : Program} {w : World} {K : PySem.W.Frag} {mg : Str → Option Value} {base : Heap} {A : Adr}
abbrev nmsT (t : Bt) : List Str := (pre t).map Bt.n
def spShapes (n : Nat) : Sp := fun vs H Q _ => ∃ (st : Addr) (t : Bt), vs = [.ref st, .ref t.a] ∧ St st H ∧ BtAt H t ∧ dp t ≤ n ∧ (pre t).length ≤ 40 ∧ (nmsT t).Nodup ∧
  ∀ (sd : Addr) (f : Str → Sh) (H' : Hp), Ms st H H' → H sd = none → Shs H' sd (nmsT t) f → (∀ n ∈ nmsT t, H (f n).d = none) → Q (.ref sd) H'
seal PE PS PSs PA PT PI PG in
theorem ok_shapes (T : Txt K mg A) (n : Nat) : FnOk P w K mg base CX0 (n + 3) A.f_l_shapes A.d_l_shapes P_l_shapes (spShapes n) := by
  have G_l_all : FnOk P w K mg base CX0 (n + 2) A.f_l_all A.d_l_all P_l_all (spAll n) := (ok_all T n).mono (by omega)
  have G_l_shape : FnOk P w K mg base CX0 (n + 2) A.f_l_shape A.d_l_shape P_l_shape spShape := (ok_shape T).mono (by omega)
  refine T.F_l_shapes.ok sc_l_shapes (fun vs H Q E h => ?_) (fun cdv B outer s H vs Q E hr h => ?_)
  · obtain ⟨st, t, rfl, _⟩ := h; rfl
  obtain ⟨st, t, rfl, hst, bt, hd, h40, hnd, q⟩ := h
  refine ⟨_, @pss_cons _ _ _ _ _ (ps_set (i := 2) sc_l_shapes.nd rfl (Or.inl rfl) pe_dict0)
    (@pss_cons _ _ _ _ _ (ps_for PassesOwn.never rfl (pi_list (pe_call G_l_all hr rfl T.m_l_all T.F_l_all.kp T.b_l_all .nil pass0 (pa_cons (pv 1) pa_nil))) (pg_name (i := 3) sc_l_shapes.nd rfl (Or.inl rfl)) (pss_one (ps_dput (hu_of hr) (pv 2) (pe_ix ix_tup (pv 3) pe_int (fun _ _ => rfl)) (pe_call G_l_shape hr rfl T.m_l_shape T.F_l_shape.kp T.b_l_shape .nil pass0 (pa_cons (pv 0) pa_nil)) rfl)))
    (pss_one (ps_ret (pv 2)))), ?_⟩
  refine fun sd hsd => ?_
  have s0 := same_upd hsd (.dK [])
  have m0 : Ms st H (upd H sd (.dK [])) := .of hst s0
  have e0 : upd H sd (.dK []) sd = some (.dK []) := upd_same
  generalize upd H sd (.dK []) = H0 at s0 m0 e0 ⊢
  refine ⟨_, rfl, t, rfl, bt.same s0, hd, h40, fun l H1 f1 s1 e1 => ?_⟩
  have m1 := m0.grow s1
  have nst : sd ≠ st := hst.ne hsd
  have nls : l ≠ st := m0.st.ne f1
  have nld : l ≠ sd := fun z => by rw [z, e0] at f1; cases f1
  have len : (nmsT t).length ≤ 40 := by rw [List.length_map]; exact h40
  refine ⟨l, rfl, ⟨_, .of e1⟩, for_list (K := K) (a := l) (xs := rfs (pre t)) (fun i σ H' => ∃ (f : Str → Sh) (v3 : Option V), σ = [some (.ref st), some (.ref t.a), some (.ref sd), v3] ∧ Ms st H H' ∧ H' l = some (.lst (rfs (pre t))) ∧ Shs H' sd ((nmsT t).take i) f ∧ ∀ n ∈ (nmsT t).take i, H (f n).d = none)
    ⟨fun _ => ⟨0, 0, [], .hold, 0, 0, 0, 0⟩, none, rfl, m1, e1, ⟨s1 _ _ e0, fun n h => (by simp at h), fun n h => (by simp at h), fun n h => (by simp at h)⟩, fun n h => (by simp at h)⟩ (fun i σ H' _ ⟨_, _, _, _, e, _⟩ => .of e) ?_ ?_⟩
  · rintro i x σ H2 hx ⟨f, v3, rfl, m2, e2, S, hfr⟩
    obtain ⟨c, hc, rfl⟩ := rfs_at hx
    have hcn : (nmsT t)[i]? = some c.n := by rw [List.getElem?_map, hc]; rfl
    have hnew : c.n ∉ (nmsT t).take i := fun z => by
      obtain ⟨j, hj⟩ := List.mem_iff_getElem?.mp z
      have hji : j < i := by
        rcases Nat.lt_or_ge j i with h | h
        · exact h
        · rw [List.getElem?_eq_none (by rw [List.length_take]; omega)] at hj; cases hj
      rw [List.getElem?_take, if_pos hji] at hj
      have l1 : j < (nmsT t).length := (List.getElem?_eq_some_iff.mp hj).1
      have := (List.getElem?_inj l1 hnd).mp (hj.trans hcn.symm)
      omega
    refine ⟨_, rfl, st, rfl, m2.st, fun d tt kvs y a b H3 m3 fd sp ⟨pad, gap, hp, hg⟩ hl hnd2 hpl => ?_⟩
    have n1 : l ≠ d := fun z => by rw [← z, e2] at fd; cases fd
    have n2 : sd ≠ d := fun z => by rw [← z, S.ad] at fd; cases fd
    have S3 := S.ms m2.st m3
    let s' : Sh := ⟨d, tt, kvs, y, a, b, pad, gap⟩
    have hs' : ShAt H3 s' := ⟨sp, hp, hg, by show kvs.length ≤ 20; omega, hnd2, hpl⟩
    let f' : Str → Sh := fun n => if n = c.n then s' else f n
    have fe : f' c.n = s' := if_pos rfl
    have fo : ∀ m ∈ (nmsT t).take i, f' m = f m := fun m hm => if_neg fun z => hnew (by rw [← z]; exact hm)
    have bc := (bt c (List.mem_of_getElem? hc)).tups (.ms hst (m2.trans m3))
    obtain ⟨tg, kt, b1, b2⟩ := bc.ex
    refine ⟨_, rfl, _, rfl, c.a, _, _, _, rfl, rfl, .of b1, rfl, sd, _, rfl, dput_s S3.ad (by rw [List.length_map, List.length_take]; omega), ?_⟩
    have ep : putK (((nmsT t).take i).map fun n => ((Sum.inr n : Key), V.ref (f n).d)) (.inr c.n) (.ref d) = ((nmsT t).take (i + 1)).map fun n => ((Sum.inr n : Key), V.ref (f' n).d) := by
      rw [take_snoc hcn]
      have := put_new (g := fun n => V.ref (f n).d) (g' := fun n => V.ref (f' n).d) hnew fun m hm => by show V.ref (f' m).d = _; rw [fo m hm]
      rw [← this]
      show _ = putK _ _ (V.ref (f' c.n).d)
      rw [fe]
    rw [ep]
    have old : ∀ n ∈ (nmsT t).take i, (f n).d ≠ d := fun n hn z => by
      have := (S.at_ n hn).shp.ad
      rw [z, fd] at this; cases this
    refine ⟨f', _, rfl, ?_, ?_, ⟨upd_same, ?_, ?_, ?_⟩, fun n hn => ?_⟩
    rotate_right
    · rw [take_snoc hcn] at hn
      rcases List.mem_append.mp hn with hn | hn
      · rw [fo n hn]; exact hfr n hn
      · rw [List.mem_singleton.mp hn, fe]; exact m2.free hst fd
    · exact (m2.trans m3).set _ hsd nst
    · rw [upd_ne nld]; exact m3.keep _ _ nls e2
    · intro n hn
      rw [take_snoc hcn] at hn
      rcases List.mem_append.mp hn with hn | hn
      · rw [fo n hn]; exact (S3.at_ n hn).upd (S3.ne n hn).symm ⟨_, S3.ad, fun vs z => nomatch z⟩
      · rw [List.mem_singleton.mp hn, fe]; exact hs'.upd n2 ⟨_, S3.ad, fun vs z => nomatch z⟩
    · intro m hm n hn e
      rw [take_snoc hcn] at hm hn
      rcases List.mem_append.mp hm with hm | hm
      · rcases List.mem_append.mp hn with hn | hn
        · rw [fo m hm, fo n hn] at e; exact S.inj m hm n hn e
        · rw [List.mem_singleton.mp hn, fo m hm, fe] at e; exact absurd e (old m hm)
      · rcases List.mem_append.mp hn with hn | hn
        · rw [List.mem_singleton.mp hm, fo n hn, fe] at e; exact absurd e.symm (old n hn)
        · rw [List.mem_singleton.mp hm, List.mem_singleton.mp hn]
    · intro n hn
      rw [take_snoc hcn] at hn
      rcases List.mem_append.mp hn with hn | hn
      · rw [fo n hn]; exact S.ne n hn
      · rw [List.mem_singleton.mp hn, fe]; exact n2.symm
  · rintro σ H2 ⟨f, v3, rfl, m2, e2, S, hfr⟩
    rw [List.take_of_length_le (by rw [List.length_map, List.length_map]; exact Nat.le_refl _)] at S hfr
    exact ⟨_, rfl, q sd f H2 m2 hsd S hfr⟩
end
end KP

set_option linter.all false
set_option maxHeartbeats 4000000
set_option maxRecDepth 100000
namespace KP
open PySem L2 PyProof.Rows
open WM (bl)
/-- the greatest, 0 of none -/
def mx0 (l : List Int) : Int := l.max?.getD 0
theorem mx0_eq {l : List Int} {M : Int} (h : M ∈ l) (hb : ∀ a ∈ l, a ≤ M) : mx0 l = M := by
  unfold mx0
  rw [List.max?_eq_some_iff.mpr ⟨h, hb⟩]; rfl
theorem mx0_zero {l : List Int} {M : Int} (h0 : ∀ a ∈ l, 0 ≤ a) (h : M ∈ l ++ [0]) (hb : ∀ a ∈ l ++ [0], a ≤ M) : mx0 l = M := by
  rcases List.mem_append.mp h with h | h
  · exact mx0_eq h fun a ha => hb a (List.mem_append_left _ ha)
  · have e := List.mem_singleton.mp h
    subst e
    cases l with
    | nil => rfl
    | cons x r =>
      refine mx0_eq ?_ fun a ha => hb a (List.mem_append_left _ ha)
      have h1 := h0 x (List.mem_cons_self ..)
      have h2 := hb x (List.mem_append_left _ (List.mem_cons_self ..))
      have : x = 0 := by omega
      rw [this]; exact List.mem_cons_self ..
def gapN (g n : Int) : Int := g * (if n - 1 > 0 then n - 1 else 0)
def wmx (z : Str) : Int := mx0 ((Txt.split z bl).map fun w => (w.length : Int))
def more1 : V → Int
  | .int i => i
  | _ => 1
def wdsP : V → Int × Int
  | .str z => (wmx z, z.length)
  | _ => (0, 0)
abbrev fs (ps : List (Int × Int)) : List Int := ps.map fun p => p.1
abbrev sn (ps : List (Int × Int)) : List Int := ps.map fun p => p.2
/-- what is in a box, across -/
def nIn (k : Str) (m : V) (g : Int) (ps : List (Int × Int)) : Int × Int :=
  if k = "words" then wdsP m
  else if k = "row" then ((fs ps).sum + gapN g ps.length, (sn ps).sum + gapN g ps.length)
  else if k = "flow" then (mx0 (fs ps), (sn ps).sum + gapN g ps.length)
  else if k = "grid" then (more1 m * mx0 (fs ps) + gapN g (more1 m), more1 m * mx0 (sn ps) + gapN g (more1 m))
  else (1 * mx0 (fs ps) + gapN g 1, 1 * mx0 (sn ps) + gapN g 1)
def szI (s : Sh) (x : Int) : Int := match s.y with
  | .fixed n => n
  | _ => x + 2 * s.pad
def sz (s : Sh) (x : Int) : Int := lim (szI s x) s.lo s.hi
def ndP (s : Sh) (k : Str) (m : V) (ps : List (Int × Int)) : Int × Int := (sz s (nIn k m s.gap ps).1, sz s (nIn k m s.gap ps).2)
mutual
/-- what a box needs -/
def N (f : Str → Sh) : Bt → Int × Int
  | .mk _ k n m ks => ndP (f n) k m (NL f ks)
def NL (f : Str → Sh) : List Bt → List (Int × Int)
  | [] => []
  | b :: r => N f b :: NL f r
end
theorem NL_eq (f : Str → Sh) (l : List Bt) : NL f l = l.map (N f) := by
  induction l with
  | nil => rw [NL]; rfl
  | cons b r ih => rw [NL, ih]; rfl
theorem N_eq (f : Str → Sh) (t : Bt) : N f t = ndP (f t.n) t.k t.m (t.ks.map (N f)) := by
  cases t; rw [N, NL_eq]; rfl
theorem lim_ge (n a b : Int) : a ≤ lim n a b := by unfold lim; split <;> split <;> omega
theorem J_len_eq : ∀ {xs : List Str}, xs ≠ [] → (WM.J xs).length + 1 = (xs.map (·.length)).sum + xs.length
  | [], h => absurd rfl h
  | [x], _ => by show x.length + 1 = _; simp
  | x :: y :: r, _ => by
    have ih := J_len_eq (xs := y :: r) (by simp)
    show (x ++ bl ++ WM.J (y :: r)).length + 1 = _
    rw [Str.length_append, Str.length_append, bl1, List.map_cons, List.sum_cons, List.length_cons]
    omega
theorem split_ne (z : Str) : Txt.split z bl ≠ [] := fun e => by have := PyProof.Rows.split_pos z bl; rw [e] at this; exact absurd this (by decide)
theorem split_len (z : Str) : (Txt.split z bl).length ≤ z.length + 1 := by
  have h1 := StrLaws.join_split z bl
  have h2 := J_len_eq (split_ne z)
  have h3 : (WM.J (Txt.split z bl)).length = z.length := by
    have : WM.J (Txt.split z bl) = z := h1
    rw [this]
  omega
end KP

set_option linter.all false
set_option maxHeartbeats 4000000
set_option maxRecDepth 100000
namespace KP
open PySem L2 PyProof.Rows
open WM (bl)
section
variable {P : Program} {w : World} {K : PySem.W.Frag} {mg : Str → Option Value} {base : Heap} {A : Adr}
def spGaps : Sp := fun vs H Q _ => ∃ (s : Sh) (n : Int), vs = [.ref s.d, .int n] ∧ ShAt H s ∧ n ≤ 1000 ∧ Q (.int (gapN s.gap n)) H
theorem ok_gaps_of (T : Txt K mg A) : FnOk P w K mg base CX0 1 A.f_gaps_of A.d_gaps_of P_gaps_of spGaps := by
  refine T.F_gaps_of.ok sc_gaps_of (fun vs H Q E h => ?_) (fun cdv B outer s H vs Q E hr h => ?_)
  · obtain ⟨s, n, rfl, _⟩ := h; rfl
  obtain ⟨sh, n, rfl, hs, hn, q⟩ := h
  refine ⟨_, pss_one (ps_ret (pe_op op_mul (pe_dget (hu_of hr) (pv 0) pe_str (fun _ _ => rfl)) (pe_callB (call_max2 rfl) rfl T.n_max b_max (pa_cons pe_int (pa_cons (pe_op op_sub (pv 1) pe_int) pa_nil))))), ?_⟩
  refine ⟨_, rfl, sh.d, _, rfl, dget_s hs.shp.ad hs.gap, _, rfl, _, _, rfl, rfl, 0, _, rfl, _, _, rfl, rfl, .inr ⟨?_, ?_⟩, q⟩
  · split <;> omega
  · split <;> omega
def spWordsN : Sp := fun vs H Q _ => ∃ z : Str, vs = [.str z] ∧ z.length ≤ 80 ∧ ∀ (a : Addr) (H' : Hp), H a = none → Same H H' → H' a = some (.tup [.int (wmx z), .int z.length]) → Q (.ref a) H'
abbrev sc_words_needs_0 : Scope := (match defBody s_words_needs with | (.Return (some (.Tuple ((.Call _ ((.ListComp _ _ sc _) :: _) _ _) :: _) _ _)) _) :: _ => sc | _ => defScope s_words_needs)
theorem blk_words_needs_0 : Blk (defScope s_words_needs) N_words_needs sc_words_needs_0 ["word"] [] := ⟨rfl, by decide +kernel, by decide +kernel, by decide +kernel, by decide +kernel⟩
theorem nd_words_needs_0 : (capN N_words_needs ["word"] []).Nodup := by decide +kernel
seal PE PS PSs PA PT PI PG in
theorem ok_words_needs (T : Txt K mg A) : FnOk P w K mg base CX0 1 A.f_words_needs A.d_words_needs P_words_needs spWordsN := by
  refine T.F_words_needs.ok sc_words_needs (fun vs H Q E h => ?_) (fun cdv B outer s H vs Q E hr h => ?_)
  · obtain ⟨z, rfl, _⟩ := h; rfl
  obtain ⟨z, rfl, hz, q⟩ := h
  refine ⟨_, pss_one (ps_ret (pe_tup (pa_cons (pe_callB (call_maxL rfl) rfl T.n_max b_max (pa_cons (pe_comp blk_words_needs_0 rfl (pi_seq (pe_bm PySem.F.plainAttrs_str PySem.F.slot_str_split PySem.F.type_str_split mt_split (pv 0) (pa_cons pe_str pa_nil))) (fun _ _ _ _ _ => pg_name (i := 0) nd_words_needs_0 rfl (.inl rfl)) (fun _ _ _ _ _ => pif_nil) (fun _ _ _ _ _ => pe_callB call_len_str rfl T.n_len b_len (pa_cons (pv 0) pa_nil))) pa_nil)) (pa_cons (pe_callB call_len_str rfl T.n_len b_len (pa_cons (pv 0) pa_nil)) pa_nil)))), ?_⟩
  have hl := split_len z
  refine ⟨_, rfl, rfl, z, bl, rfl, rfl, (by rw [bl1]; rfl), by omega, by omega, fun sl hsl => ⟨sl, rfl, blk_map (fun w : Str => V.int w.length) V.str (.inl (.of upd_same)) (small1000 (by omega)) (fun x hx Q hQ => ?_) fun al hal => ?_⟩⟩
  · refine ⟨_, rfl, x, rfl, small ?_, hQ⟩
    have : ∀ l : List Str, x ∈ l → x.length ≤ (l.map (·.length)).sum := by
      intro l
      induction l with
      | nil => intro h; cases h
      | cons y r ih =>
        intro h
        rw [List.map_cons, List.sum_cons]
        rcases List.mem_cons.mp h with rfl | h
        · omega
        · have := ih h; omega
    have h1 := this _ hx
    have h2 := J_len_eq (split_ne z)
    have h3 : (WM.J (Txt.split z bl)).length = z.length := by
      have : WM.J (Txt.split z bl) = z := StrLaws.join_split z bl
      rw [this]
    have h4 := List.length_pos_iff.mpr (split_ne z)
    omega
  have s1 := same_upd hsl (.lst ((Txt.split z bl).map V.str))
  have s2 := same_upd hal (.lst ((Txt.split z bl).map fun w : Str => V.int w.length))
  refine ⟨al, (Txt.split z bl).map (fun w => (w.length : Int)), rfl, .of (by rw [upd_same, List.map_map]; rfl), by rw [List.length_map]; exact List.length_pos_iff.mpr (split_ne z), fun M hM hb => ?_⟩
  have eM : wmx z = M := mx0_eq hM hb
  refine ⟨_, rfl, z, rfl, small (by omega), small (by simp), fun t ht => q t _ ?_ (s1.trans (s2.trans (same_upd ht _))) (by rw [upd_same, eM])⟩
  cases e : H t with
  | none => rfl
  | some o => rw [s2 _ _ (s1 _ _ e)] at ht; cases ht
/-- pairs of numbers in the heap -/
abbrev Pr : Type := Addr × Int × Int
abbrev PrAt (H : Hp) (p : Pr) : Prop := H p.1 = some (.tup [.int p.2.1, .int p.2.2])
abbrev prs (ps : List Pr) : List (Int × Int) := ps.map fun p => p.2
theorem kF : (Str.ofString "flow" : Str) ≠ "words" ∧ (Str.ofString "flow" : Str) ≠ "row" := by decide +kernel
theorem kG : (Str.ofString "grid" : Str) ≠ "words" ∧ (Str.ofString "grid" : Str) ≠ "row" ∧ (Str.ofString "grid" : Str) ≠ "flow" := by decide +kernel
def spKids : Sp := fun vs H Q _ => ∃ (b : Bt) (s : Sh) (pl : Addr) (ps : List Pr), vs = [.ref b.a, .ref s.d, .ref pl] ∧ Nd H b ∧ ShAt H s ∧ H pl = some (.lst (ps.map fun p => V.ref p.1)) ∧ (∀ p ∈ ps, PrAt H p) ∧ ps.length ≤ 40 ∧ b.k ≠ "words" ∧
  ∀ (a : Addr) (H' : Hp), H a = none → Same H H' → H' a = some (.tup [.int (nIn b.k b.m s.gap (prs ps)).1, .int (nIn b.k b.m s.gap (prs ps)).2]) → Q (.ref a) H'
abbrev sc_kids_needs_0 : Scope := (match defBody s_kids_needs with | (.Assign _ (.ListComp _ _ sc _) _) :: _ => sc | _ => defScope s_kids_needs)
theorem blk_kids_needs_0 : Blk (defScope s_kids_needs) N_kids_needs sc_kids_needs_0 ["least", "hold"] [] := ⟨rfl, by decide +kernel, by decide +kernel, by decide +kernel, by decide +kernel⟩
theorem nd_kids_needs_0 : (capN N_kids_needs ["least", "hold"] []).Nodup := by decide +kernel
abbrev sc_kids_needs_1 : Scope := (match defBody s_kids_needs with | _ :: (.Assign _ (.ListComp _ _ sc _) _) :: _ => sc | _ => defScope s_kids_needs)
theorem blk_kids_needs_1 : Blk (defScope s_kids_needs) N_kids_needs sc_kids_needs_1 ["least", "hold"] [] := ⟨rfl, by decide +kernel, by decide +kernel, by decide +kernel, by decide +kernel⟩
theorem nd_kids_needs_1 : (capN N_kids_needs ["least", "hold"] []).Nodup := by decide +kernel
seal PE PS PSs PA PT PI PG in
theorem ok_kids_needs (T : Txt K mg A) : FnOk P w K mg base CX0 2 A.f_kids_needs A.d_kids_needs P_kids_needs spKids := by
  have G_gaps_of : FnOk P w K mg base CX0 1 A.f_gaps_of A.d_gaps_of P_gaps_of spGaps := ok_gaps_of T
  refine T.F_kids_needs.ok sc_kids_needs (fun vs H Q E h => ?_) (fun cdv B outer s H vs Q E hr h => ?_)
  · obtain ⟨b, s, pl, ps, rfl, _⟩ := h; rfl
  obtain ⟨b, sh, pl, ps, rfl, hb, hs, hp, hpa, h40, nw, q⟩ := h
  refine ⟨_, @pss_cons _ _ _ _ _ (ps_setComp (i := 3) blk_kids_needs_0 rfl (pi_seq (pv 2)) (fun _ _ _ _ _ => pg_tupK (K := K) (n := 2) rfl rfl (pgs_cons (pg_name (i := 0) nd_kids_needs_0 rfl (.inl rfl)) (pgs_cons (pg_name (i := 1) nd_kids_needs_0 rfl (.inl rfl)) pgs_nil)) rfl rfl) (fun _ _ _ _ _ => pif_nil) (fun _ _ _ _ _ => pv 0) sc_kids_needs.nd rfl rfl)
    (@pss_cons _ _ _ _ _ (ps_setComp (i := 4) blk_kids_needs_1 rfl (pi_seq (pv 2)) (fun _ _ _ _ _ => pg_tupK (K := K) (n := 2) rfl rfl (pgs_cons (pg_name (i := 0) nd_kids_needs_1 rfl (.inl rfl)) (pgs_cons (pg_name (i := 1) nd_kids_needs_1 rfl (.inl rfl)) pgs_nil)) rfl rfl) (fun _ _ _ _ _ => pif_nil) (fun _ _ _ _ _ => pv 1) sc_kids_needs.nd rfl rfl)
    (@pss_cons _ _ _ _ _ (ps_set (i := 5) sc_kids_needs.nd rfl (Or.inl rfl) (pe_call G_gaps_of hr rfl T.m_gaps_of T.F_gaps_of.kp T.b_gaps_of .nil pass0 (pa_cons (pv 1) (pa_cons (pe_callB call_len_seq rfl T.n_len b_len (pa_cons (pv 2) pa_nil)) pa_nil))))
    (@pss_cons _ _ _ _ _ (ps_if (pt_cmpR op_eq (pe_ix ix_tup (pv 0) pe_int (fun _ _ => rfl)) pe_str (nomark _)) (pss_one (ps_ret (pe_tup (pa_cons (pe_op op_add (pe_callB (call_sum rfl) rfl T.n_sum b_sum (pa_cons (pv 3) pa_nil)) (pv 5)) (pa_cons (pe_op op_add (pe_callB (call_sum rfl) rfl T.n_sum b_sum (pa_cons (pv 4) pa_nil)) (pv 5)) pa_nil))))) pss_nil)
    (@pss_cons _ _ _ _ _ (ps_if (pt_cmpR op_eq (pe_ix ix_tup (pv 0) pe_int (fun _ _ => rfl)) pe_str (nomark _)) (pss_one (ps_ret (pe_tup (pa_cons (pe_maxD rfl T.n_max (pv 3) pe_int) (pa_cons (pe_op op_add (pe_callB (call_sum rfl) rfl T.n_sum b_sum (pa_cons (pv 4) pa_nil)) (pv 5)) pa_nil))))) pss_nil)
    (@pss_cons _ _ _ _ _ (ps_set (i := 6) sc_kids_needs.nd rfl (Or.inl rfl) pe_int)
    (@pss_cons _ _ _ _ _ (ps_if (pt_cmpR op_eq (pe_ix ix_tup (pv 0) pe_int (fun _ _ => rfl)) pe_str (nomark _)) (pss_one (ps_set (i := 6) sc_kids_needs.nd rfl (Or.inl rfl) (pe_ix ix_tup (pv 0) pe_int (fun _ _ => rfl)))) pss_nil)
    (@pss_cons _ _ _ _ _ (ps_set (i := 5) sc_kids_needs.nd rfl (Or.inl rfl) (pe_call G_gaps_of hr rfl T.m_gaps_of T.F_gaps_of.kp T.b_gaps_of .nil pass0 (pa_cons (pv 1) (pa_cons (pv 6) pa_nil))))
    (pss_one (ps_ret (pe_tup (pa_cons (pe_op op_add (pe_op op_mul (pv 6) (pe_maxD rfl T.n_max (pv 3) pe_int)) (pv 5)) (pa_cons (pe_op op_add (pe_op op_mul (pv 6) (pe_maxD rfl T.n_max (pv 4) pe_int)) (pv 5)) pa_nil)))))))))))), ?_⟩
  obtain ⟨tg, kt, b1, b2⟩ := hb.ex
  refine ⟨_, rfl, pl, rfl, blk_pairs (fun p : Pr => p.1) (fun p => .int p.2.1) (fun p => .int p.2.2) (fun p => .int p.2.1) (.inl (.of hp)) (small1000 (by omega)) (fun p h => .of (hpa p h)) (fun p h Q hQ => ⟨_, rfl, hQ⟩) fun l1 hl1 => ?_⟩
  have s1 := same_upd hl1 (.lst (ps.map fun p => V.int p.2.1))
  have e1 : upd H l1 (.lst (ps.map fun p => V.int p.2.1)) l1 = some (.lst ((fs (prs ps)).map V.int)) := by rw [upd_same, List.map_map, List.map_map]; rfl
  generalize upd H l1 (.lst (ps.map fun p => V.int p.2.1)) = H1 at s1 e1 ⊢
  refine ⟨_, rfl, pl, rfl, blk_pairs (fun p : Pr => p.1) (fun p => .int p.2.1) (fun p => .int p.2.2) (fun p => .int p.2.2) (.inl (.of (s1 _ _ hp))) (small1000 (by omega)) (fun p h => .of (s1 _ _ (hpa p h))) (fun p h Q hQ => ⟨_, rfl, hQ⟩) fun l2 hl2 => ?_⟩
  have s2 := same_upd hl2 (.lst (ps.map fun p => V.int p.2.2))
  have e2 : upd H1 l2 (.lst (ps.map fun p => V.int p.2.2)) l2 = some (.lst ((sn (prs ps)).map V.int)) := by rw [upd_same, List.map_map, List.map_map]; rfl
  have e1' := s2 _ _ e1
  have s3 := s1.trans s2
  generalize upd H1 l2 (.lst (ps.map fun p => V.int p.2.2)) = H2 at s3 e1' e2 ⊢
  clear s1 s2 e1 hl1 hl2
  have lp : (prs ps).length = ps.length := List.length_map _
  have fr : ∀ (a : Addr), H2 a = none → H a = none := fun a h => by
    cases e : H a with
    | none => rfl
    | some o => rw [s3 _ _ e] at h; cases h
  refine ⟨_, rfl, _, rfl, pl, _, rfl, .inl (.of (s3 _ _ hp)), sh, _, rfl, hs.same s3, by rw [List.length_map]; omega, ?_⟩
  rw [List.length_map]
  have b1' := s3 _ _ b1
  refine ⟨_, rfl, b.a, _, _, _, rfl, rfl, .of b1', rfl, rfl, _, rfl, ite2 (fun c => ?_) (fun c => ?_)⟩
  · have ek : b.k = "row" := by have e := of_decide_eq_true c; injection e
    have en : nIn b.k b.m sh.gap (prs ps) = ((fs (prs ps)).sum + gapN sh.gap ps.length, (sn (prs ps)).sum + gapN sh.gap ps.length) := by unfold nIn; rw [if_neg nw, if_pos ek, lp]
    refine ⟨_, rfl, l1, _, rfl, .inl (.of e1'), _, rfl, _, _, rfl, rfl, _, rfl, l2, _, rfl, .inl (.of e2), _, rfl, _, _, rfl, rfl, small (by simp), fun t ht => q t _ (fr t ht) (s3.trans (same_upd ht _)) (by rw [upd_same, en])⟩
  have nr : b.k ≠ "row" := fun e => c (decide_eq_true (by rw [e]))
  clear c
  refine ⟨_, rfl, b.a, _, _, _, rfl, rfl, .of b1', rfl, rfl, _, rfl, ite2 (fun c => ?_) (fun c => ?_)⟩
  · have ek : b.k = "flow" := by have e := of_decide_eq_true c; injection e
    have en : nIn b.k b.m sh.gap (prs ps) = (mx0 (fs (prs ps)), (sn (prs ps)).sum + gapN sh.gap ps.length) := by unfold nIn; rw [if_neg nw, if_neg nr, if_pos ek, lp]
    refine ⟨_, rfl, l1, fs (prs ps), rfl, .of e1', fun e0 => ?_, fun M hM hb => ?_⟩
    · exact ⟨_, rfl, l2, _, rfl, .inl (.of e2), _, rfl, _, _, rfl, rfl, small (by simp), fun t ht => q t _ (fr t ht) (s3.trans (same_upd ht _)) (by rw [upd_same, en, e0]; rfl)⟩
    · exact ⟨_, rfl, l2, _, rfl, .inl (.of e2), _, rfl, _, _, rfl, rfl, small (by simp), fun t ht => q t _ (fr t ht) (s3.trans (same_upd ht _)) (by rw [upd_same, en, mx0_eq hM hb])⟩
  have nf : b.k ≠ "flow" := fun e => c (decide_eq_true (by rw [e]))
  clear c
  dsimp only [tNext]
  refine seq_setC ?_
  refine seq_joinI (fun σ' H' => ∃ m : Int, σ' = [some (.ref b.a), some (.ref sh.d), some (.ref pl), some (.ref l1), some (.ref l2), some (.int (gapN sh.gap ps.length)), some (.int m)] ∧ H' = H2 ∧ 1 ≤ m ∧ m ≤ 9 ∧ nIn b.k b.m sh.gap (prs ps) = (m * mx0 (fs (prs ps)) + gapN sh.gap m, m * mx0 (sn (prs ps)) + gapN sh.gap m)) (fun N hN => ?_) ?_
  · refine ⟨_, rfl, b.a, _, _, _, rfl, rfl, .of b1', rfl, rfl, _, rfl, ite2 (fun c => ?_) (fun c => ?_)⟩
    · have ek : b.k = "grid" := by have e := of_decide_eq_true c; injection e
      obtain ⟨i, ei, i1, i9⟩ := hb.mo.gr ek
      refine ⟨_, rfl, b.a, _, _, _, rfl, rfl, .of b1', rfl, hN _ _ ⟨i, by rw [ei]; rfl, rfl, i1, i9, ?_⟩⟩
      unfold nIn; rw [if_neg nw, if_neg nr, if_neg nf, if_pos ek, ei]; rfl
    · have ng : b.k ≠ "grid" := fun e => c (decide_eq_true (by rw [e]))
      refine hN _ _ ⟨1, rfl, rfl, by decide, by decide, ?_⟩
      unfold nIn; rw [if_neg nw, if_neg nr, if_neg nf, if_neg ng]
  rintro σ' H' ⟨m, rfl, rfl, m1, m9, en⟩
  refine ⟨_, rfl, _, rfl, sh, m, rfl, hs.same s3, by omega, ?_⟩
  have cm : ∀ j : Int, CMul m j := fun j => .inl ⟨by omega, by omega⟩
  have two : ∀ M : Int, mx0 (fs (prs ps)) = M → (∀ t, H' t = none → sn (prs ps) = [] → Q (.ref t) (upd H' t (.tup [.int (m * M + gapN sh.gap m), .int (m * 0 + gapN sh.gap m)]))) ∧ (∀ t, H' t = none → ∀ M', M' ∈ sn (prs ps) → (∀ a ∈ sn (prs ps), a ≤ M') → Q (.ref t) (upd H' t (.tup [.int (m * M + gapN sh.gap m), .int (m * M' + gapN sh.gap m)]))) := fun M eM =>
    ⟨fun t ht e0 => q t _ (fr t ht) (s3.trans (same_upd ht _)) (by rw [upd_same, en, e0, eM]; rfl), fun t ht M' hM' hb' => q t _ (fr t ht) (s3.trans (same_upd ht _)) (by rw [upd_same, en, eM, mx0_eq hM' hb'])⟩
  refine ⟨_, rfl, _, rfl, l1, fs (prs ps), rfl, .of e1', fun e0 => ?_, fun M hM hb => ?_⟩
  · obtain ⟨t1, t2⟩ := two 0 (by rw [e0]; rfl)
    refine ⟨_, _, rfl, rfl, cm _, _, rfl, _, _, rfl, rfl, _, rfl, _, rfl, l2, sn (prs ps), rfl, .of e2, fun e0 => ?_, fun M' hM' hb' => ?_⟩
    · exact ⟨_, _, rfl, rfl, cm _, _, rfl, _, _, rfl, rfl, small (by simp), fun t ht => t1 t ht e0⟩
    · exact ⟨_, _, rfl, rfl, cm _, _, rfl, _, _, rfl, rfl, small (by simp), fun t ht => t2 t ht M' hM' hb'⟩
  · obtain ⟨t1, t2⟩ := two M (mx0_eq hM hb)
    refine ⟨_, _, rfl, rfl, cm _, _, rfl, _, _, rfl, rfl, _, rfl, _, rfl, l2, sn (prs ps), rfl, .of e2, fun e0 => ?_, fun M' hM' hb' => ?_⟩
    · exact ⟨_, _, rfl, rfl, cm _, _, rfl, _, _, rfl, rfl, small (by simp), fun t ht => t1 t ht e0⟩
    · exact ⟨_, _, rfl, rfl, cm _, _, rfl, _, _, rfl, rfl, small (by simp), fun t ht => t2 t ht M' hM' hb'⟩
end
end KP

set_option linter.all false
set_option maxHeartbeats 4000000
set_option maxRecDepth 100000
namespace KP
open PySem L2 PyProof.Rows
section
variable {P : Program} {w : World} {K : PySem.W.Frag} {mg : Str → Option Value} {base : Heap} {A : Adr}
/-- the needs of the kids are in the dict -/
structure Kn (H : Hp) (f : Str → Sh) (b : Bt) (kvs : List (Key × V)) (g : Str → Addr) : Prop where
  nd : ∀ c ∈ b.ks, Nd H c
  val : ∀ c ∈ b.ks, valV kvs (.inr c.n) = some (.ref (g c.n))
  pr : ∀ c ∈ b.ks, PrAt H (g c.n, N f c)
def spNeedOf : Sp := fun vs H Q _ => ∃ (b : Bt) (sd nd : Addr) (ns : List Str) (f : Str → Sh) (kvs : List (Key × V)) (g : Str → Addr), vs = [.ref b.a, .ref sd, .ref nd] ∧ Nd H b ∧ Shs H sd ns f ∧ b.n ∈ ns ∧ H nd = some (.dK kvs) ∧ Kn H f b kvs g ∧ b.ks.length ≤ 40 ∧
  ∀ (a : Addr) (H' : Hp), H a = none → Same H H' → H' a = some (.tup [.int (N f b).1, .int (N f b).2]) → Q (.ref a) H'
abbrev sc_need_of_0 : Scope := (match defBody s_need_of with | _ :: (.If _ _ ((.Assign _ (.Call _ (_ :: _ :: (.ListComp _ _ sc _) :: _) _ _) _) :: _) _) :: _ => sc | _ => defScope s_need_of)
theorem blk_need_of_0 : Blk (defScope s_need_of) N_need_of sc_need_of_0 ["kid"] [2] := ⟨rfl, by decide +kernel, by decide +kernel, by decide +kernel, by decide +kernel⟩
theorem nd_need_of_0 : (capN N_need_of ["kid"] [2]).Nodup := by decide +kernel
abbrev sc_need_of_1 : Scope := (match defBody s_need_of with | _ :: _ :: (.Assign _ (.ListComp _ _ sc _) _) :: _ => sc | _ => defScope s_need_of)
theorem blk_need_of_1 : Blk (defScope s_need_of) N_need_of sc_need_of_1 ["size"] [3] := ⟨rfl, by decide +kernel, by decide +kernel, by decide +kernel, by decide +kernel⟩
theorem nd_need_of_1 : (capN N_need_of ["size"] [3]).Nodup := by decide +kernel
abbrev sc_need_of_2 : Scope := (match defBody s_need_of with | _ :: _ :: _ :: (.If _ ((.Assign _ (.ListComp _ _ sc _) _) :: _) _ _) :: _ => sc | _ => defScope s_need_of)
theorem blk_need_of_2 : Blk (defScope s_need_of) N_need_of sc_need_of_2 ["size"] [3] := ⟨rfl, by decide +kernel, by decide +kernel, by decide +kernel, by decide +kernel⟩
theorem nd_need_of_2 : (capN N_need_of ["size"] [3]).Nodup := by decide +kernel
abbrev sc_need_of_3 : Scope := (match defBody s_need_of with | _ :: _ :: _ :: _ :: (.Return (some (.Call _ ((.ListComp _ _ sc _) :: _) _ _)) _) :: _ => sc | _ => defScope s_need_of)
theorem blk_need_of_3 : Blk (defScope s_need_of) N_need_of sc_need_of_3 ["size"] [3] := ⟨rfl, by decide +kernel, by decide +kernel, by decide +kernel, by decide +kernel⟩
theorem nd_need_of_3 : (capN N_need_of ["size"] [3]).Nodup := by decide +kernel
seal PE PS PSs PA PT PI PG in
theorem ok_need_of (T : Txt K mg A) : FnOk P w K mg base CX0 3 A.f_need_of A.d_need_of P_need_of spNeedOf := by
  have G_words_needs : FnOk P w K mg base CX0 2 A.f_words_needs A.d_words_needs P_words_needs spWordsN := (ok_words_needs T).mono (by omega)
  have G_kids_needs : FnOk P w K mg base CX0 2 A.f_kids_needs A.d_kids_needs P_kids_needs spKids := ok_kids_needs T
  have G_limited_wide : FnOk P w K mg base CX0 2 A.f_limited_wide A.d_limited_wide P_limited_wide spLimW := ok_limited_wide T
  refine T.F_need_of.ok sc_need_of (fun vs H Q E h => ?_) (fun cdv B outer s H vs Q E hr h => ?_)
  · obtain ⟨b, sd, nd, ns, f, kvs, g, rfl, _⟩ := h; rfl
  obtain ⟨b, sd, nd, ns, f, kvs, g, rfl, hb, S, hn, hnd, kn, h40, q⟩ := h
  refine ⟨_, @pss_cons _ _ _ _ _ (ps_set (i := 3) sc_need_of.nd rfl (Or.inr rfl) (pe_dget (hu_of hr) (pv 1) (pe_ix ix_tup (pv 0) pe_int (fun _ _ => rfl)) (fun _ _ => rfl)))
    (@pss_cons _ _ _ _ _ (ps_if (pt_cmpR op_eq (pe_ix ix_tup (pv 0) pe_int (fun _ _ => rfl)) pe_str (nomark _)) (pss_one (ps_set (i := 4) sc_need_of.nd rfl (Or.inl rfl) (pe_call G_words_needs hr rfl T.m_words_needs T.F_words_needs.kp T.b_words_needs .nil pass0 (pa_cons (pe_ix ix_tup (pv 0) pe_int (fun _ _ => rfl)) pa_nil)))) (pss_one (ps_set (i := 4) sc_need_of.nd rfl (Or.inl rfl) (pe_call G_kids_needs hr rfl T.m_kids_needs T.F_kids_needs.kp T.b_kids_needs .nil pass0 (pa_cons (pv 0) (pa_cons (pv 3) (pa_cons (pe_comp blk_need_of_0 rfl (pi_seq (pe_ix ix_tup (pv 0) pe_int (fun _ _ => rfl))) (fun _ _ _ _ _ => pg_name (i := 0) nd_need_of_0 rfl (.inl rfl)) (fun _ _ _ _ _ => pif_nil) (fun _ _ _ _ _ => pe_dget (hu_of hr) (pv 1) (pe_ix (ix_tupK (K := K) rfl) (pv 0) pe_int (fun _ _ => rfl)) (fun _ _ => rfl))) pa_nil)))))))
    (@pss_cons _ _ _ _ _ (ps_setComp (i := 5) blk_need_of_1 rfl (pi_seq (pv 4)) (fun _ _ _ _ _ => pg_name (i := 0) nd_need_of_1 rfl (.inl rfl)) (fun _ _ _ _ _ => pif_nil) (fun _ _ _ _ _ => pe_op op_add (pv 0) (pe_op op_mul pe_int (pe_dget (hu_of hr) (pv 1) pe_str (fun _ _ => rfl)))) sc_need_of.nd rfl rfl)
    (@pss_cons _ _ _ _ _ (ps_if (pt_cmpR op_eq (pe_ix ix_tup (pe_dget (hu_of hr) (pv 3) pe_str (fun _ _ => rfl)) pe_int (fun _ _ => rfl)) pe_str (nomark _)) (pss_one (ps_setComp (i := 5) blk_need_of_2 rfl (pi_seq (pv 4)) (fun _ _ _ _ _ => pg_name (i := 0) nd_need_of_2 rfl (.inl rfl)) (fun _ _ _ _ _ => pif_nil) (fun _ _ _ _ _ => pe_ix (ix_tupK (K := K) rfl) (pe_dget (hu_of hr) (pv 1) pe_str (fun _ _ => rfl)) pe_int (fun _ _ => rfl)) sc_need_of.nd rfl rfl)) pss_nil)
    (pss_one (ps_ret (pe_callTy call_tuple_of rfl T.n_tuple b_tuple (pa_cons (pe_comp blk_need_of_3 rfl (pi_seq (pv 5)) (fun _ _ _ _ _ => pg_name (i := 0) nd_need_of_3 rfl (.inl rfl)) (fun _ _ _ _ _ => pif_nil) (fun _ _ _ _ _ => pe_call G_limited_wide hr rfl T.m_limited_wide T.F_limited_wide.kp T.b_limited_wide .nil pass0 (pa_cons (pv 1) (pa_cons (pv 0) pa_nil)))) pa_nil))))))), ?_⟩
  obtain ⟨tg, kt, b1, b2⟩ := hb.ex
  have hs := S.at_ _ hn
  have hg := S.get hn
  rw [N_eq] at q
  generalize f b.n = sh at hs hg q
  refine ⟨_, rfl, _, rfl, b.a, _, _, _, rfl, rfl, .of b1, rfl, sd, _, rfl, hg, ?_⟩
  dsimp only [gName]
  show tSeq _ _ _ _ _
  refine seq_joinI (fun σ' H' => ∃ (l : Addr) (x y : Int), σ' = [some (.ref b.a), some (.ref sd), some (.ref nd), some (.ref sh.d), some (.ref l), none] ∧ Same H H' ∧ H' l = some (.tup ([x, y].map V.int)) ∧ nIn b.k b.m sh.gap (b.ks.map (N f)) = (x, y)) (fun N' hN => ?_) ?_
  · refine ⟨_, rfl, b.a, _, _, _, rfl, rfl, .of b1, rfl, rfl, _, rfl, ite2 (fun c => ?_) (fun c => ?_)⟩
    · have ek : b.k = "words" := by have e := of_decide_eq_true c; injection e
      obtain ⟨z, ez, lz⟩ := hb.mo.wd ek
      refine ⟨_, rfl, b.a, _, _, _, rfl, rfl, .of b1, rfl, z, by rw [ez]; rfl, lz, fun a H1 fa s1 e1 => hN _ _ ⟨a, wmx z, z.length, rfl, s1, e1, ?_⟩⟩
      unfold nIn; rw [if_pos ek, ez]; rfl
    · have nw : b.k ≠ "words" := fun e => c (decide_eq_true (by rw [e]))
      refine ⟨_, rfl, _, rfl, _, rfl, b.a, _, _, _, rfl, rfl, .of b1, rfl, kt, rfl, blk_map (fun c : Bt => V.ref (g c.n)) (fun c => V.ref c.a) (.inr (.of b2)) (small1000 (by omega)) (fun c hc Q hQ => ?_) fun l hl => ?_⟩
      · obtain ⟨tg', kt', c1, c2⟩ := (kn.nd c hc).ex
        exact ⟨_, rfl, _, rfl, c.a, _, _, _, rfl, rfl, .of c1, rfl, nd, _, rfl, dget_s hnd (kn.val c hc), hQ⟩
      · have s1 := same_upd hl (.lst (b.ks.map fun c => V.ref (g c.n)))
        refine ⟨b, sh, l, b.ks.map (fun c => (g c.n, N f c)), rfl, hb.same s1, hs.same s1, by rw [upd_same, List.map_map]; rfl, fun p hp => ?_, by rw [List.length_map]; exact h40, nw, fun a H2 fa s2 e2 => hN _ _ ⟨a, _, _, rfl, s1.trans s2, e2, ?_⟩⟩
        · obtain ⟨c, hc, rfl⟩ := List.mem_map.mp hp
          exact s1 _ _ (kn.pr c hc)
        · rw [prs, List.map_map]; rfl
  rintro σ' H1 ⟨l, x, y, rfl, s1, e1, en⟩
  unfold ndP at q
  rw [en] at q
  have hs1 := hs.same s1
  refine ⟨_, rfl, l, rfl, blk_map (fun v : Int => V.int (v + 2 * sh.pad)) V.int (.inr (.of e1)) (small1000 (by simp)) (fun v _ Q hQ => ?_) fun l2 hl2 => ?_⟩
  · exact ⟨_, rfl, _, rfl, sh.d, _, rfl, dget_s hs1.shp.ad hs1.pad, _, _, rfl, rfl, .inl ⟨by decide, by decide⟩, _, _, rfl, rfl, hQ⟩
  have s2 := same_upd hl2 (.lst ([x, y].map fun v : Int => V.int (v + 2 * sh.pad)))
  have e2 : upd H1 l2 (.lst ([x, y].map fun v : Int => V.int (v + 2 * sh.pad))) l2 = some (.lst ([x + 2 * sh.pad, y + 2 * sh.pad].map V.int)) := upd_same
  generalize upd H1 l2 (.lst ([x, y].map fun v : Int => V.int (v + 2 * sh.pad))) = H2 at s2 e2 ⊢
  have hs2 := hs1.same s2
  dsimp only
  show tSeq _ _ _ _ _
  refine seq_joinI (fun σ' H' => ∃ l2 : Addr, σ' = [some (.ref b.a), some (.ref sd), some (.ref nd), some (.ref sh.d), some (.ref l), some (.ref l2)] ∧ Same H H' ∧ H' l2 = some (.lst ([szI sh x, szI sh y].map V.int))) (fun N' hN => ?_) ?_
  · have hold : (∀ n, sh.y ≠ .fixed n) → N' _ _ := fun h => hN _ _ ⟨l2, rfl, s1.trans s2, by
      rw [e2]; unfold szI
      cases e : sh.y with
      | fixed n => exact absurd e (h n)
      | hold => rfl
      | share n => rfl⟩
    have tup := hs2.shp.tup
    cases ey : sh.y with
    | hold =>
      rw [ey] at tup
      refine ⟨_, rfl, sh.d, _, rfl, dget_s hs2.shp.ad hs2.shp.wide, sh.t, _, _, _, rfl, rfl, .of tup, rfl, rfl, _, rfl, iteN sHF (hold fun n z => by rw [ey] at z; cases z)⟩
    | share n =>
      rw [ey] at tup
      refine ⟨_, rfl, sh.d, _, rfl, dget_s hs2.shp.ad hs2.shp.wide, sh.t, _, _, _, rfl, rfl, .of tup, rfl, rfl, _, rfl, iteN sSF (hold fun n z => by rw [ey] at z; cases z)⟩
    | fixed n =>
      rw [ey] at tup
      refine ⟨_, rfl, sh.d, _, rfl, dget_s hs2.shp.ad hs2.shp.wide, sh.t, _, _, _, rfl, rfl, .of tup, rfl, rfl, _, rfl, iteY rfl ?_⟩
      refine ⟨_, rfl, l, rfl, blk_map (fun v : Int => V.int n) V.int (.inr (.of (s2 _ _ e1))) (small1000 (by simp)) (fun v _ Q hQ => ?_) fun l3 hl3 => ?_⟩
      · exact ⟨_, rfl, sh.d, _, rfl, dget_s hs2.shp.ad hs2.shp.wide, sh.t, _, _, _, rfl, rfl, .of tup, rfl, hQ⟩
      · refine hN _ _ ⟨l3, rfl, (s1.trans s2).trans (same_upd hl3 _), ?_⟩
        rw [upd_same]; unfold szI; rw [ey]; rfl
  rintro σ' H3 ⟨l3, rfl, s3, e3⟩
  have hs3 := hs.same s3
  refine ⟨_, rfl, l3, rfl, blk_map (fun v : Int => V.int (lim v sh.lo sh.hi)) V.int (.inl (.of e3)) (small1000 (by simp)) (fun v _ Q hQ => ?_) fun l4 hl4 => ?_⟩
  · exact ⟨_, rfl, _, rfl, sh.d, _, v, sh.lo, sh.hi, rfl, hs3.shp.ad, hs3.shp.bd, hQ⟩
  · have s4 := same_upd hl4 (.lst ([szI sh x, szI sh y].map fun v : Int => V.int (lim v sh.lo sh.hi)))
    refine ⟨l4, _, rfl, .inl ⟨.of upd_same, fun t ht => q t _ ?_ (s3.trans (s4.trans (same_upd ht _))) upd_same⟩⟩
    cases e : H t with
    | none => rfl
    | some o => rw [s4 _ _ (s3 _ _ e)] at ht; cases ht
end
end KP

set_option linter.all false
set_option maxHeartbeats 4000000
set_option maxRecDepth 100000
namespace KP
open PySem L2 PyProof.Rows
theorem new_at {l : List Str} (hnd : l.Nodup) {i : Nat} {n : Str} (h : l[i]? = some n) : n ∉ l.take i := fun z => by
  obtain ⟨j, hj⟩ := List.mem_iff_getElem?.mp z
  have hji : j < i := by
    rcases Nat.lt_or_ge j i with h | h
    · exact h
    · rw [List.getElem?_eq_none (by rw [List.length_take]; omega)] at hj; cases hj
  rw [List.getElem?_take, if_pos hji] at hj
  have l1 : j < l.length := (List.getElem?_eq_some_iff.mp hj).1
  have := (List.getElem?_inj l1 hnd).mp (hj.trans h.symm)
  omega
theorem later_rev {l : List Bt} (hl : Later l) {i : Nat} {b : Bt} (h : l.reverse[i]? = some b) : ∀ c ∈ b.ks, c ∈ l.reverse.take i := by
  have hi : i < l.length := by have := (List.getElem?_eq_some_iff.mp h).1; rwa [List.length_reverse] at this
  rw [List.getElem?_reverse hi] at h
  intro c hc
  have := hl.drop _ h c hc
  rw [List.take_reverse, List.mem_reverse]
  have e : l.length - i = l.length - 1 - i + 1 := by omega
  rw [e]; exact this
theorem ks_le {t b : Bt} (h : b ∈ pre t) : b.ks.length ≤ (pre t).length := by
  have : ∀ (d : Nat) (t : Bt), dp t ≤ d → b ∈ pre t → (pre b).length ≤ (pre t).length := by
    intro d
    induction d with
    | zero => intro t h; rw [dp_eq] at h; omega
    | succ d ih =>
      intro t hd hb
      rw [pre_eq t] at hb
      rcases List.mem_cons.mp hb with rfl | hb
      · exact Nat.le_refl _
      · obtain ⟨x, hx, hbx⟩ := mem_preL.mp hb
        have h1 := ih x (by have := dp_kid hx; omega) hbx
        obtain ⟨l, r, e⟩ := List.append_of_mem hx
        rw [pre_eq t, e, preL_app, preL_cons, List.length_cons, List.length_append, List.length_append]
        omega
  exact Nat.le_trans (Nat.le_of_lt ks_len) (this _ t (Nat.le_refl _) h)
/-- a dict from names to refs -/
abbrev dN (ns : List Str) (g : Str → Addr) : List (Key × V) := ns.map fun n => (Sum.inr n, V.ref (g n))
section
variable {P : Program} {w : World} {K : PySem.W.Frag} {mg : Str → Option Value} {base : Heap} {A : Adr}
def spNeedsOf : Sp := fun vs H Q _ => ∃ (t : Bt) (sd : Addr) (ns : List Str) (f : Str → Sh), vs = [.ref t.a, .ref sd] ∧ BtAt H t ∧ Shs H sd ns f ∧ (∀ b ∈ pre t, b.n ∈ ns) ∧ (pre t).length ≤ 40 ∧ (nmsT t).Nodup ∧
  ∀ (a : Addr) (g : Str → Addr) (H' : Hp), H a = none → Same H H' → H' a = some (.dK (dN (nmsT t) g)) → (∀ b ∈ pre t, PrAt H' (g b.n, N f b)) → Q (.ref a) H'
abbrev sc_needs_of_0 : Scope := (match defBody s_needs_of with | _ :: _ :: _ :: (.Return (some (.Call _ ((.ListComp _ _ sc _) :: _) _ _)) _) :: _ => sc | _ => defScope s_needs_of)
theorem blk_needs_of_0 : Blk (defScope s_needs_of) N_needs_of sc_needs_of_0 ["box"] [3] := ⟨rfl, by decide +kernel, by decide +kernel, by decide +kernel, by decide +kernel⟩
theorem nd_needs_of_0 : (capN N_needs_of ["box"] [3]).Nodup := by decide +kernel
seal PE PS PSs PA PT PI PG in
theorem ok_needs_of (T : Txt K mg A) : FnOk P w K mg base CX0 4 A.f_needs_of A.d_needs_of P_needs_of spNeedsOf := by
  have G_boxes_of : FnOk P w K mg base CX0 3 A.f_boxes_of A.d_boxes_of P_boxes_of spBoxesT := (ok_boxes_of T).mono (by omega)
  have G_need_of : FnOk P w K mg base CX0 3 A.f_need_of A.d_need_of P_need_of spNeedOf := ok_need_of T
  refine T.F_needs_of.ok sc_needs_of (fun vs H Q E h => ?_) (fun cdv B outer s H vs Q E hr h => ?_)
  · obtain ⟨t, sd, ns, f, rfl, _⟩ := h; rfl
  obtain ⟨t, sd, ns, f, rfl, bt, S, hns, h40, hnd, q⟩ := h
  refine ⟨_, @pss_cons _ _ _ _ _ (ps_set (i := 2) sc_needs_of.nd rfl (Or.inl rfl) (pe_call G_boxes_of hr rfl T.m_boxes_of T.F_boxes_of.kp T.b_boxes_of .nil pass0 (pa_cons (pv 0) pa_nil)))
    (@pss_cons _ _ _ _ _ (ps_set (i := 3) sc_needs_of.nd rfl (Or.inr rfl) pe_dict0)
    (@pss_cons _ _ _ _ _ (ps_for PassesOwn.never rfl (pi_rev rfl T.n_reversed (pa_cons (pv 2) pa_nil)) (pg_name (i := 4) sc_needs_of.nd rfl (Or.inl rfl)) (pss_one (ps_dput (hu_of hr) (pv 3) (pe_ix ix_tup (pv 4) pe_int (fun _ _ => rfl)) (pe_call G_need_of hr rfl T.m_need_of T.F_need_of.kp T.b_need_of .nil pass0 (pa_cons (pv 4) (pa_cons (pv 1) (pa_cons (pv 3) pa_nil)))) rfl)))
    (pss_one (ps_ret (pe_callTy (call_dictP rfl) rfl T.n_dict b_dict (pa_cons (pe_comp blk_needs_of_0 rfl (pi_seq (pv 2)) (fun _ _ _ _ _ => pg_name (i := 0) nd_needs_of_0 rfl (.inl rfl)) (fun _ _ _ _ _ => pif_nil) (fun _ _ _ _ _ => pe_tup (pa_cons (pe_ix (ix_tupK (K := K) rfl) (pv 0) pe_int (fun _ _ => rfl)) (pa_cons (pe_dget (hu_of hr) (pv 1) (pe_ix (ix_tupK (K := K) rfl) (pv 0) pe_int (fun _ _ => rfl)) (fun _ _ => rfl)) pa_nil)))) pa_nil)))))), ?_⟩
  refine ⟨_, rfl, t, rfl, bt, h40, fun l H1 fl s1 e1 => fun nd hdd => ?_⟩
  have s2 := s1.trans (same_upd hdd (.dK []))
  have fnd : H nd = none := by
    cases e : H nd with
    | none => rfl
    | some o => rw [s1 _ _ e] at hdd; cases hdd
  have nld : l ≠ nd := fun z => by rw [← z, e1] at hdd; cases hdd
  have lat := later_pre _ t (Nat.le_refl _)
  have hndr : (nmsT t).reverse.Nodup := List.pairwise_reverse.mpr (hnd.imp fun h => h.symm)
  have ll : (rfs (pre t)).length = (pre t).length := List.length_map _
  refine ⟨_, rfl, l, _, rfl, .of (same_upd hdd _ _ _ e1), for_rev (K := K) (a := l) (xs := rfs (pre t)) (fun i σ H' => ∃ (g : Str → Addr) (v4 : Option V), σ = [some (.ref t.a), some (.ref sd), some (.ref l), some (.ref nd), v4] ∧ Same H H' ∧ H' l = some (.lst (rfs (pre t))) ∧ H' nd = some (.dK (dN ((nmsT t).reverse.take i) g)) ∧ ∀ b ∈ (pre t).reverse.take i, PrAt H' (g b.n, N f b))
    ⟨fun _ => 0, none, rfl, s2, same_upd hdd _ _ _ e1, upd_same, fun b h => (by simp at h)⟩ (fun i σ H' _ ⟨_, _, _, _, e, _⟩ => .of e) ?_ ?_⟩
  · rintro i x σ H2 hx ⟨g, v4, rfl, s2, e2, e3, hp⟩
    rw [← List.map_reverse] at hx
    obtain ⟨b, hb, rfl⟩ := rfs_at hx
    have hbm : b ∈ pre t := List.mem_reverse.mp (List.mem_of_getElem? hb)
    have hbn : (nmsT t).reverse[i]? = some b.n := by rw [← List.map_reverse, List.getElem?_map, hb]; rfl
    have hnew := new_at hndr hbn
    have kids := later_rev lat hb
    have kn : ∀ c ∈ b.ks, c.n ∈ (nmsT t).reverse.take i := fun c hc => by
      rw [← List.map_reverse, ← List.map_take]; exact List.mem_map.mpr ⟨c, kids c hc, rfl⟩
    have bt2 := bt.same s2
    have lk : b.ks.length ≤ 40 := Nat.le_trans (ks_le hbm) h40
    refine ⟨_, rfl, _, rfl, _, rfl, b, sd, nd, ns, f, _, g, rfl, bt2 b hbm, S.same s2, hns b hbm, e3, ⟨fun c hc => bt2 c (pre_trans _ (Nat.le_refl _) hbm (by rw [pre_eq]; exact List.mem_cons_of_mem _ (kid_pre hc))), fun c hc => val_map (α := Unit) (g := fun n => V.ref (g n)) (kn c hc), fun c hc => hp c (kids c hc)⟩, lk, fun a H3 fa s3 e4 => ?_⟩
    obtain ⟨tg, kt, b1, b2⟩ := ((bt2 b hbm).same s3).ex
    have na : a ≠ nd := fun z => by rw [z, e3] at fa; cases fa
    refine ⟨_, rfl, _, rfl, b.a, _, _, _, rfl, rfl, .of b1, rfl, nd, _, rfl, dput_s (s3 _ _ e3) (by rw [List.length_map, List.length_take, List.length_reverse, List.length_map]; omega), ?_⟩
    let g' : Str → Addr := fun n => if n = b.n then a else g n
    have ge : g' b.n = a := if_pos rfl
    have go : ∀ m ∈ (nmsT t).reverse.take i, g' m = g m := fun m hm => if_neg fun z => hnew (by rw [← z]; exact hm)
    have ep : putK (dN ((nmsT t).reverse.take i) g) (.inr b.n) (.ref a) = dN ((nmsT t).reverse.take (i + 1)) g' := by
      rw [take_snoc hbn]
      have := put_new (g := fun n => V.ref (g n)) (g' := fun n => V.ref (g' n)) hnew fun m hm => by show V.ref (g' m) = _; rw [go m hm]
      rw [ge] at this
      exact this
    rw [ep]
    have tp : Tups H3 (upd H3 nd (.dK (dN ((nmsT t).reverse.take (i + 1)) g'))) := .upd (s3 _ _ e3) fun vs z => nomatch z
    refine ⟨g', _, rfl, fun c u e => by rw [upd_ne (ne_of_none e fnd)]; exact s3 _ _ (s2 _ _ e), by rw [upd_ne nld]; exact s3 _ _ e2, upd_same, fun c hc => ?_⟩
    rw [take_snoc hb] at hc
    rcases List.mem_append.mp hc with hc | hc
    · have hcn : c.n ∈ (nmsT t).reverse.take i := by rw [← List.map_reverse, ← List.map_take]; exact List.mem_map.mpr ⟨c, hc, rfl⟩
      rw [go _ hcn]; exact tp _ _ (s3 _ _ (hp c hc))
    · rw [List.mem_singleton.mp hc, ge]; exact tp _ _ e4
  rintro σ H2 ⟨g, v4, rfl, s2, e2, e3, hp⟩
  rw [ll, List.take_of_length_le (by rw [List.length_reverse, List.length_map]; exact Nat.le_refl _)] at e3
  rw [ll, List.take_of_length_le (by rw [List.length_reverse]; exact Nat.le_refl _)] at hp
  have hp' : ∀ b ∈ pre t, PrAt H2 (g b.n, N f b) := fun b hb => hp b (List.mem_reverse.mpr hb)
  have bt2 := bt.same s2
  refine ⟨_, rfl, l, rfl, .inl ⟨⟨_, .of e2⟩, blk_list (xs := rfs (pre t)) (fun i acc H' => ∃ ts : List Addr, acc = ts.map V.ref ∧ ts.length = i ∧ i ≤ 40 ∧ Same H2 H' ∧ PrsAt H' ts (dN ((nmsT t).take i) g)) ⟨[], rfl, rfl, Nat.zero_le _, .refl _, .nil⟩ (fun i acc H' ⟨_, _, _, _, s, _⟩ => .of (s _ _ e2)) (fun i acc H' ⟨_, ea, el, hi, _⟩ => ?_) (fun i x acc H' R k hx z => ?_) fun acc H' z => ?_⟩⟩
  · rw [ea, List.length_map, el]; exact small1000 (by omega)
  · obtain ⟨ts, rfl, el, hi, s3, pr⟩ := z
    obtain ⟨b, hb, rfl⟩ := rfs_at hx
    have hbm := List.mem_of_getElem? hb
    have hbn : (nmsT t)[i]? = some b.n := by rw [List.getElem?_map, hb]; rfl
    obtain ⟨tg, kt, b1, b2⟩ := ((bt2 b hbm).same s3).ex
    dsimp only [tYes]; rw [if_pos rfl]
    refine ⟨_, rfl, b.a, _, _, _, rfl, rfl, .of b1, rfl, _, rfl, _, rfl, b.a, _, _, _, rfl, rfl, .of b1, rfl, nd, _, rfl, dget_s (s3 _ _ e3) (val_map (α := Unit) (g := fun n => V.ref (g n)) (List.mem_reverse.mpr (List.mem_map.mpr ⟨b, hbm, rfl⟩))), small (by simp), fun tt ht => k _ _ ⟨ts ++ [tt], by rw [List.map_append]; rfl, by rw [List.length_append, el]; rfl, ?_, s3.trans (same_upd ht _), ?_⟩⟩
    · have := (List.getElem?_eq_some_iff.mp hb).1; omega
    · rw [take_snoc hbn, dN, List.map_append]
      exact (pr.same fun b xs e => same_upd ht _ _ _ e).append (.cons upd_same .nil)
  · obtain ⟨ts, rfl, el, hi, s3, pr⟩ := z
    rw [ll, List.take_of_length_le (by rw [List.length_map]; exact Nat.le_refl _)] at pr
    intro l4 hl4
    have s4 := same_upd hl4 (.lst (ts.map V.ref))
    refine ⟨l4, ts, _, rfl, upd_same, pr.same fun b xs e => s4 _ _ e, by rw [List.length_map, List.length_map]; omega, fun p hp4 => ?_⟩
    have s5 := same_upd hp4 (.dK (mergeK [] (dN (nmsT t) g)))
    have hk : ((dN (nmsT t) g).map (·.1)).Nodup := by
      rw [List.map_map]
      exact List.pairwise_map.mpr (List.Pairwise.imp (fun h z => h (by injection z)) hnd)
    have em : mergeK [] (dN (nmsT t) g) = dN (nmsT t) g := mergeK_nd hk
    rw [em] at s5 ⊢
    refine q p g _ ?_ (s2.trans (s3.trans (s4.trans s5))) upd_same fun b hb => s5 _ _ (s4 _ _ (s3 _ _ (hp' b hb)))
    cases e : H p with
    | none => rfl
    | some o => rw [s4 _ _ (s3 _ _ (s2 _ _ e))] at hp4; cases hp4
end
end KP

set_option linter.all false
set_option maxHeartbeats 4000000
set_option maxRecDepth 100000
namespace KP
open PySem L2 PyProof.Rows
open WM (bl)
mutual
/-- all boxes, each behind its kids -/
def post : Bt → List Bt
  | .mk a k n m ks => postL ks ++ [.mk a k n m ks]
def postL : List Bt → List Bt
  | [] => []
  | b :: r => post b ++ postL r
end
theorem post_eq (t : Bt) : post t = postL t.ks ++ [t] := by cases t; rw [post]; rfl
theorem postL_cons (b : Bt) (r : List Bt) : postL (b :: r) = post b ++ postL r := by rw [postL]
theorem postL_nil : postL [] = [] := by rw [postL]
theorem postL_app (l r : List Bt) : postL (l ++ r) = postL l ++ postL r := by
  induction l with
  | nil => rw [postL_nil]; rfl
  | cons b l ih => rw [List.cons_append, postL_cons, postL_cons, ih, List.append_assoc]
theorem postL_snoc (l : List Bt) (b : Bt) : postL (l ++ [b]) = postL l ++ post b := by rw [postL_app, postL_cons, postL_nil, List.append_nil]
theorem post_perm : ∀ (d : Nat) (t : Bt), dp t ≤ d → (post t).Perm (pre t)
  | 0, t, h => by rw [dp_eq] at h; omega
  | d + 1, t, h => by
    have : ∀ l : List Bt, (∀ b ∈ l, b ∈ t.ks) → (postL l).Perm (preL l) := by
      intro l
      induction l with
      | nil => intro _; rw [postL_nil, preL_nil]
      | cons x r ih =>
        intro hl
        rw [postL_cons, preL_cons]
        exact (post_perm d x (by have := dp_kid (hl x (List.mem_cons_self ..)); omega)).append (ih fun b hb => hl b (List.mem_cons_of_mem _ hb))
    rw [post_eq, pre_eq]
    exact List.perm_append_comm.trans ((this _ fun _ h => h).cons t)
abbrev psN (t : Bt) : List Str := (post t).map Bt.n
theorem post_len (t : Bt) : (post t).length = (pre t).length := (post_perm _ t (Nat.le_refl _)).length_eq
theorem postL_len : ∀ l : List Bt, (postL l).length = (preL l).length
  | [] => by rw [postL_nil, preL_nil]
  | b :: r => by rw [postL_cons, preL_cons, List.length_append, List.length_append, post_len, postL_len r]
/-- all but one object is as it was -/
def Kg (gd : Addr) (H H' : Hp) : Prop := ∀ b o, b ≠ gd → H b = some o → H' b = some o
theorem Kg.refl (gd : Addr) (H : Hp) : Kg gd H H := fun _ _ _ h => h
theorem Kg.trans {gd : Addr} {H H1 H2 : Hp} (a : Kg gd H H1) (b : Kg gd H1 H2) : Kg gd H H2 := fun c o n h => b c o n (a c o n h)
theorem Kg.same {gd : Addr} {H H' : Hp} (s : Same H H') : Kg gd H H' := fun b o _ h => s b o h
theorem Kg.upd {gd : Addr} {H : Hp} (o' : HO) : Kg gd H (upd H gd o') := fun b o n h => by rw [upd_ne n]; exact h
theorem Kg.tups {gd : Addr} {H H' : Hp} (k : Kg gd H H') {o : HO} (h : H gd = some o) (ho : ∀ vs, o ≠ .tup vs) : Tups H H' := fun b vs e => k b _ (fun z => by rw [z, h] at e; injection e with e; exact ho vs e) e
theorem Kg.shs {gd sd : Addr} {H H' : Hp} {ns : List Str} {f : Str → Sh} (k : Kg gd H H') (S : Shs H sd ns f) {o : HO} (h : H gd = some o) (ho : ∀ vs, o ≠ .tup vs) (n1 : gd ≠ sd) (n2 : ∀ n ∈ ns, (f n).d ≠ gd) : Shs H' sd ns f :=
  ⟨k _ _ n1.symm S.ad, fun n hn => (S.at_ n hn).keep fun b o' hb e => k b o' (fun z => by
    rw [z] at hb
    rcases hb with hb | hb
    · exact n2 n hn hb.symm
    · have := (S.at_ n hn).shp.tup; rw [← hb, h] at this; injection this with this; exact ho _ this) e, S.inj, S.ne⟩
def pk (i : Nat) (p : Int × Int) : Int := if i = 0 then p.1 else p.2
theorem pk_at {i : Nat} (hi : i < 2) (p : Int × Int) : atI [V.int p.1, V.int p.2] (0 + (i : Int)) = some (.int (pk i p)) := by
  match i, hi with
  | 0, _ => rfl
  | 1, _ => rfl
theorem sz_ge (s : Sh) (x : Int) : s.lo ≤ sz s x := lim_ge _ _ _
theorem N_ge {H : Hp} {f : Str → Sh} {c : Bt} (h : ShAt H (f c.n)) (i : Nat) : 0 ≤ pk i (N f c) := by
  have := h.shp.bd.nn
  rw [N_eq]; unfold pk ndP
  have h1 := sz_ge (f c.n) (nIn c.k c.m (f c.n).gap (c.ks.map (N f))).1
  have h2 := sz_ge (f c.n) (nIn c.k c.m (f c.n).gap (c.ks.map (N f))).2
  split <;> dsimp only <;> omega
/-- what the law reckons, side by side -/
theorem side_eq {k : Str} {m : V} {g : Int} {ps : List (Int × Int)} {i : Nat} (hi : i < 2) {v1 v2 v3 : Int}
    (h1 : v1 = if k = "row" ∨ (k = "flow" ∧ i = 1) then (ps.map (pk i)).sum + gapN g ps.length else mx0 (ps.map (pk i)))
    (h2 : v2 = if k = "grid" then v1 * more1 m + g * (more1 m - 1) else v1)
    (h3 : v3 = if k = "words" then pk i (wdsP m) else v2) (hg : k = "grid" → 1 ≤ more1 m) : v3 = pk i (nIn k m g ps) := by
  have hp : ps.map (pk i) = if i = 0 then fs ps else sn ps := by
    match i, hi with
    | 0, _ => rfl
    | 1, _ => rfl
  have e1 : (i = 1) = ¬ (i = 0) := by match i, hi with | 0, _ => simp | 1, _ => simp
  rw [hp] at h1
  rw [h3, h2, h1]
  unfold nIn
  by_cases kw : k = "words"
  · rw [if_pos kw, if_pos kw]
  rw [if_neg kw, if_neg kw]
  by_cases kr : k = "row"
  · have kg : k ≠ "grid" := fun e => kG.2.1 (e.symm.trans kr)
    rw [if_neg kg, if_pos (.inl kr), if_pos kr]
    unfold pk; split <;> rfl
  rw [if_neg kr]
  by_cases kf : k = "flow"
  · have kg : k ≠ "grid" := fun e => kG.2.2 (e.symm.trans kf)
    rw [if_neg kg, if_pos kf]
    by_cases i0 : i = 0
    · rw [if_neg (fun z => by rcases z with z | z; exact kr z; omega)]
      unfold pk; rw [if_pos i0, if_pos i0]
    · rw [if_pos (.inr ⟨kf, by omega⟩)]
      unfold pk; rw [if_neg i0, if_neg i0]
  rw [if_neg kf]
  have no : ¬ (k = "row" ∨ k = "flow" ∧ i = 1) := fun z => by
    rcases z with z | z
    · exact kr z
    · exact kf z.1
  rw [if_neg no]
  by_cases kg : k = "grid"
  · rw [if_pos kg, if_pos kg]
    have hm := hg kg
    have eg : gapN g (more1 m) = g * (more1 m - 1) := by
      unfold gapN
      split
      · rfl
      · have : more1 m = 1 := by omega
        rw [this]; simp
    unfold pk
    split <;> rw [eg, Int.mul_comm]
  · rw [if_neg kg, if_neg kg]
    have eg : gapN g 1 = 0 := by unfold gapN; simp
    unfold pk
    split <;> rw [eg] <;> omega
end KP

set_option linter.all false
set_option maxHeartbeats 4000000
set_option maxRecDepth 100000
namespace KP
open PySem L2 PyProof.Rows
open WM (bl)
theorem word_len {z x : Str} (hx : x ∈ Txt.split z bl) (lz : z.length ≤ 80) : x.length ≤ 1000 := by
  have : ∀ l : List Str, x ∈ l → x.length ≤ (l.map (·.length)).sum := by
    intro l
    induction l with
    | nil => intro h; cases h
    | cons y r ih =>
      intro h
      rw [List.map_cons, List.sum_cons]
      rcases List.mem_cons.mp h with rfl | h
      · omega
      · have := ih h; omega
  have h1 := this _ hx
  have h2 := J_len_eq (split_ne z)
  have h3 : (WM.J (Txt.split z bl)).length = z.length := by
    have : WM.J (Txt.split z bl) = z := StrLaws.join_split z bl
    rw [this]
  have h4 := List.length_pos_iff.mpr (split_ne z)
  omega
section
variable {P : Program} {w : World} {K : PySem.W.Frag} {mg : Str → Option Value} {base : Heap} {A : Adr}
def spNeedsIn (n : Nat) : Sp := fun vs H Q _ => ∃ (t : Bt) (sd gd : Addr) (ns : List Str) (f : Str → Sh) (ms : List Str) (g : Str → Addr), vs = [.ref t.a, .ref sd, .ref gd] ∧ BtAt H t ∧ dp t ≤ n ∧ Shs H sd ns f ∧ gd ≠ sd ∧ (∀ n ∈ ns, (f n).d ≠ gd) ∧ (∀ b ∈ pre t, b.n ∈ ns) ∧ H gd = some (.dK (dN ms g)) ∧ (ms ++ psN t).Nodup ∧ ms.length + (pre t).length ≤ 40 ∧
  ∀ (g' : Str → Addr) (H' : Hp), Kg gd H H' → H' gd = some (.dK (dN (ms ++ psN t) g')) → (∀ m ∈ ms, g' m = g m) → (∀ b ∈ pre t, PrAt H' (g' b.n, N f b)) → Q (.ref (g' t.n)) H'
abbrev sc_l_needs_in_0 : Scope := (match defBody s_l_needs_in with | (.Assign _ (.ListComp _ _ sc _) _) :: _ => sc | _ => defScope s_l_needs_in)
theorem blk_l_needs_in_0 : Blk (defScope s_l_needs_in) N_l_needs_in sc_l_needs_in_0 ["_law_kid"] [1, 2] := ⟨rfl, by decide +kernel, by decide +kernel, by decide +kernel, by decide +kernel⟩
theorem nd_l_needs_in_0 : (capN N_l_needs_in ["_law_kid"] [1, 2]).Nodup := by decide +kernel
abbrev sc_l_needs_in_1 : Scope := (match defBody s_l_needs_in with | _ :: _ :: _ :: (.For _ _ ((.Assign _ (.ListComp _ _ sc _) _) :: _) _ _) :: _ => sc | _ => defScope s_l_needs_in)
theorem blk_l_needs_in_1 : Blk (defScope s_l_needs_in) N_l_needs_in sc_l_needs_in_1 ["_law_kid"] [6] := ⟨rfl, by decide +kernel, by decide +kernel, by decide +kernel, by decide +kernel⟩
theorem nd_l_needs_in_1 : (capN N_l_needs_in ["_law_kid"] [6]).Nodup := by decide +kernel
abbrev sc_l_needs_in_2 : Scope := (match defBody s_l_needs_in with | _ :: _ :: _ :: (.For _ _ (_ :: _ :: _ :: _ :: (.If _ ((.Assign _ (.Subscript (.List ((.Call _ ((.ListComp _ _ sc _) :: _) _ _) :: _) _) _ _) _) :: _) _ _) :: _) _ _) :: _ => sc | _ => defScope s_l_needs_in)
theorem blk_l_needs_in_2 : Blk (defScope s_l_needs_in) N_l_needs_in sc_l_needs_in_2 ["_law_word"] [] := ⟨rfl, by decide +kernel, by decide +kernel, by decide +kernel, by decide +kernel⟩
theorem nd_l_needs_in_2 : (capN N_l_needs_in ["_law_word"] []).Nodup := by decide +kernel
seal PE PS PSs PA PT PI PG in
theorem needs_in_step (T : Txt K mg A) (n : Nat) (G_l_needs_in : FnOk P w K mg base CX0 (n + 1) A.f_l_needs_in A.d_l_needs_in P_l_needs_in (spNeedsIn n)) : FnOk P w K mg base CX0 (n + 1 + 1) A.f_l_needs_in A.d_l_needs_in P_l_needs_in (spNeedsIn (n + 1)) := by
  have G_l_limited : FnOk P w K mg base CX0 (n + 1) A.f_l_limited A.d_l_limited P_l_limited spLim := (ok_l_limited T).mono (by omega)
  refine T.F_l_needs_in.ok sc_l_needs_in (fun vs H Q E h => ?_) (fun cdv B outer s H vs Q E hr h => ?_)
  · obtain ⟨t, sd, gd, ns, f, ms, g, rfl, _⟩ := h; rfl
  obtain ⟨t, sd, gd, ns, f, ms, g, rfl, bt, hd, S, ngs, ngd, hns, eg, hnd, h40, q⟩ := h
  refine ⟨_, @pss_cons _ _ _ _ _ (ps_setComp (i := 3) blk_l_needs_in_0 rfl (pi_seq (pe_ix ix_tup (pv 0) pe_int (fun _ _ => rfl))) (fun _ _ _ _ _ => pg_name (i := 0) nd_l_needs_in_0 rfl (.inl rfl)) (fun _ _ _ _ _ => pif_nil) (fun _ _ _ _ _ => pe_call G_l_needs_in hr rfl T.m_l_needs_in T.F_l_needs_in.kp T.b_l_needs_in .nil pass0 (pa_cons (pv 0) (pa_cons (pv 1) (pa_cons (pv 2) pa_nil)))) sc_l_needs_in.nd rfl rfl)
    (@pss_cons _ _ _ _ _ (ps_set (i := 4) sc_l_needs_in.nd rfl (Or.inl rfl) (pe_dget (hu_of hr) (pv 1) (pe_ix ix_tup (pv 0) pe_int (fun _ _ => rfl)) (fun _ _ => rfl)))
    (@pss_cons _ _ _ _ _ (ps_set (i := 5) sc_l_needs_in.nd rfl (Or.inl rfl) (pe_lst pa_nil))
    (@pss_cons _ _ _ _ _ (ps_for PassesOwn.never rfl (pi_range1 rfl T.n_range (pa_cons pe_int pa_nil)) (pg_name (i := 6) sc_l_needs_in.nd rfl (Or.inr rfl)) (@pss_cons _ _ _ _ _ (ps_setComp (i := 7) blk_l_needs_in_1 rfl (pi_seq (pv 3)) (fun _ _ _ _ _ => pg_name (i := 0) nd_l_needs_in_1 rfl (.inl rfl)) (fun _ _ _ _ _ => pif_nil) (fun _ _ _ _ _ => pe_ix (ix_tupK (K := K) rfl) (pv 0) (pv 1) (fun _ _ => rfl)) sc_l_needs_in.nd rfl rfl)
    (@pss_cons _ _ _ _ _ (ps_set (i := 8) sc_l_needs_in.nd rfl (Or.inl rfl) (pe_callB (call_maxL rfl) rfl T.n_max b_max (pa_cons (pe_op op_cat (pv 7) (pe_lst (pa_cons pe_int pa_nil))) pa_nil)))
    (@pss_cons _ _ _ _ _ (ps_if (PW.pt (pw_or (pt_cmpR op_eq (pe_ix ix_tup (pv 0) pe_int (fun _ _ => rfl)) pe_str (nomark _)) (pw_or1 (PW.pt (pw_and (pt_cmpR op_eq (pe_ix ix_tup (pv 0) pe_int (fun _ _ => rfl)) pe_str (nomark _)) (pw_and1 (pt_cmpR op_eq (pv 6) pe_int (nomark _)))))))) (pss_one (ps_set (i := 8) sc_l_needs_in.nd rfl (Or.inl rfl) (pe_op op_add (pe_callB (call_sum rfl) rfl T.n_sum b_sum (pa_cons (pv 7) pa_nil)) (pe_op op_mul (pe_dget (hu_of hr) (pv 4) pe_str (fun _ _ => rfl)) (pe_callB (call_max2 rfl) rfl T.n_max b_max (pa_cons pe_int (pa_cons (pe_op op_sub (pe_callB call_len_seq rfl T.n_len b_len (pa_cons (pv 7) pa_nil)) pe_int) pa_nil))))))) pss_nil)
    (@pss_cons _ _ _ _ _ (ps_if (pt_cmpR op_eq (pe_ix ix_tup (pv 0) pe_int (fun _ _ => rfl)) pe_str (nomark _)) (pss_one (ps_set (i := 8) sc_l_needs_in.nd rfl (Or.inl rfl) (pe_op op_add (pe_op op_mul (pv 8) (pe_ix ix_tup (pv 0) pe_int (fun _ _ => rfl))) (pe_op op_mul (pe_dget (hu_of hr) (pv 4) pe_str (fun _ _ => rfl)) (pe_op op_sub (pe_ix ix_tup (pv 0) pe_int (fun _ _ => rfl)) pe_int))))) pss_nil)
    (@pss_cons _ _ _ _ _ (ps_if (pt_cmpR op_eq (pe_ix ix_tup (pv 0) pe_int (fun _ _ => rfl)) pe_str (nomark _)) (pss_one (ps_set (i := 8) sc_l_needs_in.nd rfl (Or.inl rfl) (pe_ix ix_list (pe_lst (pa_cons (pe_callB (call_maxL rfl) rfl T.n_max b_max (pa_cons (pe_comp blk_l_needs_in_2 rfl (pi_seq (pe_bm PySem.F.plainAttrs_str PySem.F.slot_str_split PySem.F.type_str_split mt_split (pe_ix ix_tup (pv 0) pe_int (fun _ _ => rfl)) (pa_cons pe_str pa_nil))) (fun _ _ _ _ _ => pg_name (i := 0) nd_l_needs_in_2 rfl (.inl rfl)) (fun _ _ _ _ _ => pif_nil) (fun _ _ _ _ _ => pe_callB call_len_str rfl T.n_len b_len (pa_cons (pv 0) pa_nil))) pa_nil)) (pa_cons (pe_callB call_len_str rfl T.n_len b_len (pa_cons (pe_ix ix_tup (pv 0) pe_int (fun _ _ => rfl)) pa_nil)) pa_nil))) (pv 6) (fun _ _ => rfl)))) pss_nil)
    (@pss_cons _ _ _ _ _ (ps_set (i := 8) sc_l_needs_in.nd rfl (Or.inl rfl) (pe_op op_add (pv 8) (pe_op op_mul pe_int (pe_dget (hu_of hr) (pv 4) pe_str (fun _ _ => rfl)))))
    (@pss_cons _ _ _ _ _ (ps_if (pt_cmpR op_eq (pe_ix ix_tup (pe_dget (hu_of hr) (pv 4) pe_str (fun _ _ => rfl)) pe_int (fun _ _ => rfl)) pe_str (nomark _)) (pss_one (ps_set (i := 8) sc_l_needs_in.nd rfl (Or.inl rfl) (pe_ix ix_tup (pe_dget (hu_of hr) (pv 4) pe_str (fun _ _ => rfl)) pe_int (fun _ _ => rfl)))) pss_nil)
    (pss_one (ps_expr (pe_bm PySem.F.plainAttrs_list PySem.F.slot_list_append PySem.F.type_list_append mt_append (pv 5) (pa_cons (pe_call G_l_limited hr rfl T.m_l_limited T.F_l_limited.kp T.b_l_limited .nil pass0 (pa_cons (pv 8) (pa_cons (pe_dget (hu_of hr) (pv 4) pe_str (fun _ _ => rfl)) (pa_cons (pe_dget (hu_of hr) (pv 4) pe_str (fun _ _ => rfl)) pa_nil)))) pa_nil))))))))))))
    (@pss_cons _ _ _ _ _ (ps_dput (hu_of hr) (pv 2) (pe_ix ix_tup (pv 0) pe_int (fun _ _ => rfl)) (pe_callTy call_tuple_of rfl T.n_tuple b_tuple (pa_cons (pv 5) pa_nil)) rfl)
    (pss_one (ps_ret (pe_dget (hu_of hr) (pv 2) (pe_ix ix_tup (pv 0) pe_int (fun _ _ => rfl)) (fun _ _ => rfl)))))))), ?_⟩
  obtain ⟨tg, kt, b1, b2⟩ := bt.self.ex
  have nodk : ∀ (kvs : List (Key × V)) (vs : List V), HO.dK kvs ≠ .tup vs := fun _ _ z => nomatch z
  have hpl : (preL t.ks).length + 1 = (pre t).length := by rw [pre_eq t, List.length_cons]
  have hkl := preL_len t.ks
  have hall : ∀ i, (ms ++ (postL (t.ks.take i)).map Bt.n).Nodup := fun i => by
    have e : psN t = (postL (t.ks.take i)).map Bt.n ++ ((postL (t.ks.drop i)).map Bt.n ++ [t.n]) := by
      rw [psN, post_eq, ← List.take_append_drop i t.ks, postL_app, List.map_append, List.map_append, List.append_assoc]
      rw [List.take_append_drop]; rfl
    rw [e, ← List.append_assoc] at hnd
    exact (List.nodup_append.mp hnd).1
  -- the kids
  refine ⟨_, rfl, t.a, _, _, _, rfl, rfl, .of b1, rfl, kt, rfl, .inr ⟨⟨_, .of b2⟩, blk_tup (xs := rfs t.ks) (fun i acc H' => ∃ g' : Str → Addr, acc = (t.ks.take i).map (fun c => V.ref (g' c.n)) ∧ Kg gd H H' ∧ H' gd = some (.dK (dN (ms ++ (postL (t.ks.take i)).map Bt.n) g')) ∧ (∀ m ∈ ms, g' m = g m) ∧ ∀ b ∈ preL (t.ks.take i), PrAt H' (g' b.n, N f b))
    ⟨g, rfl, .refl _ _, by rw [List.take_zero, postL_nil]; rw [List.map_nil, List.append_nil]; exact eg, fun _ _ => rfl, fun b h => (by rw [List.take_zero, preL_nil] at h; cases h)⟩ (fun i acc H' ⟨_, _, kg, _⟩ => .of (kg.tups eg (nodk _) _ _ b2)) (fun i acc H' ⟨_, ea, _⟩ => ?_) (fun i x acc H' R k hx z => ?_) fun acc H1 z => ?_⟩⟩
  · rw [ea, List.length_map, List.length_take]; exact small1000 (by omega)
  · obtain ⟨g1, rfl, kg, e1, hg1, hp1⟩ := z
    obtain ⟨c, hc, rfl⟩ := rfs_at hx
    have hcm := List.mem_of_getElem? hc
    dsimp only [tYes]; rw [if_pos rfl]
    have tp := kg.tups eg (nodk _)
    have l1 : (preL (t.ks.take (i + 1))).length ≤ (preL t.ks).length := preL_take
    have hnd2 := hall (i + 1)
    rw [take_snoc hc, postL_snoc, List.map_append, ← List.append_assoc] at hnd2
    rw [take_snoc hc, preL_snoc, List.length_append] at l1
    refine ⟨_, rfl, _, rfl, _, rfl, c, sd, gd, ns, f, _, g1, rfl, (bt.kid hcm).tups tp, by have := dp_kid hcm; omega, kg.shs S eg (nodk _) ngs ngd, ngs, ngd, fun b hb => hns b (by rw [pre_eq]; exact List.mem_cons_of_mem _ (mem_preL.mpr ⟨c, hcm, hb⟩)), e1, hnd2, by rw [List.length_append, List.length_map, postL_len]; omega, fun g2 H2 kg2 e2 hg2 hp2 => k _ _ ⟨g2, ?_, kg.trans kg2, ?_, fun m hm => (hg2 m (List.mem_append_left _ hm)).trans (hg1 m hm), fun b hb => ?_⟩⟩
    · rw [take_snoc hc, List.map_append]
      congr 1
      refine List.map_congr_left fun d hdm => ?_
      have : d.n ∈ ms ++ (postL (t.ks.take i)).map Bt.n := List.mem_append_right _ (List.mem_map.mpr ⟨d, ?_, rfl⟩)
      · rw [hg2 _ this]
      · obtain ⟨l, r, e⟩ := List.append_of_mem hdm
        rw [e, postL_app, postL_cons, post_eq]; simp
    · rw [e2, take_snoc hc, postL_snoc, List.map_append, ← List.append_assoc]
    · rw [take_snoc hc, preL_snoc] at hb
      rcases List.mem_append.mp hb with hb | hb
      · have hbn : b.n ∈ ms ++ (postL (t.ks.take i)).map Bt.n := by
          refine List.mem_append_right _ (List.mem_map.mpr ⟨b, ?_, rfl⟩)
          obtain ⟨x, hx, hbx⟩ := mem_preL.mp hb
          have h1 := (post_perm _ x (Nat.le_refl _)).mem_iff.mpr hbx
          obtain ⟨l, r, e⟩ := List.append_of_mem hx
          rw [e, postL_app, postL_cons]
          exact List.mem_append_right _ (List.mem_append_left _ h1)
        rw [hg2 _ hbn]
        exact kg2.tups e1 (nodk _) _ _ (hp1 b hb)
      · exact hp2 b hb
  obtain ⟨g1, rfl, kg, e1, hg1, hp1⟩ := z
  rw [List.take_of_length_le (by rw [List.length_map]; exact Nat.le_refl _)] at e1 hp1 ⊢
  intro kl hkl0
  have s1 := same_upd hkl0 (.lst (t.ks.map fun c => V.ref (g1 c.n)))
  have ekl : upd H1 kl (.lst (t.ks.map fun c => V.ref (g1 c.n))) kl = some (.lst (t.ks.map fun c => V.ref (g1 c.n))) := upd_same
  have kgs : kl ≠ gd := fun z => by rw [z, e1] at hkl0; cases hkl0
  generalize upd H1 kl (.lst (t.ks.map fun c => V.ref (g1 c.n))) = H2 at s1 ekl ⊢
  have S2 : Shs H2 sd ns f := (kg.shs S eg (nodk _) ngs ngd).same s1
  have hn := hns t (self_pre t)
  have hs := S2.at_ _ hn
  have hg := S2.get hn
  have b12 := s1 _ _ (kg.tups eg (nodk _) _ _ b1)
  have eN := N_eq f t
  have hlo : ∀ c ∈ t.ks, ∀ i, 0 ≤ pk i (N f c) := fun c hc i => N_ge (S2.at_ c.n (hns c (by rw [pre_eq]; exact List.mem_cons_of_mem _ (kid_pre hc)))) i
  generalize f t.n = sh at hs hg eN
  have hpk : ∀ c ∈ t.ks, PrAt H2 (g1 c.n, N f c) := fun c hc => s1 _ _ (hp1 c (kid_pre hc))
  obtain ⟨ps, eps⟩ : ∃ ps, ps = t.ks.map (N f) := ⟨_, rfl⟩
  have lps : ps.length = t.ks.length := by rw [eps, List.length_map]
  have epk : ∀ i, ps.map (pk i) = t.ks.map fun c => pk i (N f c) := fun i => by rw [eps, List.map_map]; rfl
  rw [← eps] at eN
  refine ⟨_, rfl, _, rfl, t.a, _, _, _, rfl, rfl, .of b12, rfl, sd, _, rfl, hg, small (by simp), fun pl hpl0 => ?_⟩
  refine ⟨_, rfl, by decide, by decide, for_range (n := 2) (fun i σ H' => ∃ v6 v7 v8 : Option V, σ = [some (.ref t.a), some (.ref sd), some (.ref gd), some (.ref kl), some (.ref sh.d), some (.ref pl), v6, v7, v8] ∧ Same H2 H' ∧ H' pl = some (.lst (([(N f t).1, (N f t).2].take i).map V.int)))
    ⟨none, none, none, rfl, same_upd hpl0 _, upd_same⟩ ?_ ?_⟩
  · rintro i σ H3 hi ⟨v6, v7, v8, rfl, s3, e3⟩
    refine ⟨_, rfl, kl, rfl, blk_map (fun c : Bt => V.int (pk i (N f c))) (fun c => V.ref (g1 c.n)) (.inl (.of (s3 _ _ ekl))) (small1000 (by omega)) (fun c hc Q hQ => ?_) fun nl hnl => ?_⟩
    · exact ⟨_, rfl, _, rfl, g1 c.n, _, _, _, rfl, rfl, .of (s3 _ _ (hpk c hc)), pk_at hi _, hQ⟩
    refine ⟨_, rfl, small (by simp), fun zl hzl => ⟨nl, zl, _, _, rfl, rfl, same_upd hzl _ _ _ upd_same, upd_same, by rw [List.length_map]; exact small (by show t.ks.length + 1 ≤ 1000; omega), fun ml hml => ⟨ml, ps.map (pk i) ++ [0], rfl, .of (by rw [upd_same, List.map_append, epk, List.map_map]; rfl), by simp, fun M hM hb => ?_⟩⟩⟩
    have eM : mx0 (ps.map (pk i)) = M := mx0_zero (fun a ha => by rw [epk] at ha; obtain ⟨c, hc, rfl⟩ := List.mem_map.mp ha; exact hlo c hc i) hM hb
    have s4 := (same_upd hnl (.lst (t.ks.map fun c => V.int (pk i (N f c))))).trans ((same_upd hzl (.lst [.int 0])).trans (same_upd hml (.lst (t.ks.map (fun c => V.int (pk i (N f c))) ++ [.int 0]))))
    have en : upd (upd (upd H3 nl (.lst (t.ks.map fun c => V.int (pk i (N f c))))) zl (.lst [.int 0])) ml (.lst (t.ks.map (fun c => V.int (pk i (N f c))) ++ [.int 0])) nl = some (.lst ((ps.map (pk i)).map V.int)) := by
      refine same_upd hml _ _ _ (same_upd hzl _ _ _ ?_)
      rw [upd_same, epk, List.map_map]; rfl
    dsimp only [gName]
    show tSeq _ _ _ _ _
    generalize upd (upd (upd H3 nl (.lst (t.ks.map fun c => V.int (pk i (N f c))))) zl (.lst [.int 0])) ml (.lst (t.ks.map (fun c => V.int (pk i (N f c))) ++ [.int 0])) = H4 at s4 en ⊢
    have s5 := s3.trans s4
    have e5 := s4 _ _ e3
    have b5 := s5 _ _ b12
    have hs5 := hs.same s5
    clear hml hzl hnl s4 e3
    have done : ∀ (v : Int) (N' : L2.St → Hp → Prop), True := fun _ _ => trivial
    have hlen : (((ps.map (pk i)).map V.int).length : Int) = (ps.length : Int) := by rw [List.length_map, List.length_map]
    refine seq_joinI (fun σ' H' => ∃ v : Int, σ' = [some (.ref t.a), some (.ref sd), some (.ref gd), some (.ref kl), some (.ref sh.d), some (.ref pl), some (.int (0 + (i : Int))), some (.ref nl), some (.int v)] ∧ H' = H4 ∧ v = if t.k = "row" ∨ (t.k = "flow" ∧ i = 1) then (ps.map (pk i)).sum + gapN sh.gap ps.length else mx0 (ps.map (pk i))) (fun N' hN => ?_) ?_
    · have yes : (t.k = "row" ∨ (t.k = "flow" ∧ i = 1)) → ∀ r : Int, r = (ps.map (pk i)).sum + sh.gap * (if (((ps.map (pk i)).map V.int).length : Int) - 1 > 0 then (((ps.map (pk i)).map V.int).length : Int) - 1 else 0) → N' [some (.ref t.a), some (.ref sd), some (.ref gd), some (.ref kl), some (.ref sh.d), some (.ref pl), some (.int (0 + (i : Int))), some (.ref nl), some (.int r)] H4 := fun c r er => hN _ _ ⟨_, rfl, rfl, by rw [if_pos c, er, hlen]; rfl⟩
      have no : ¬ (t.k = "row" ∨ (t.k = "flow" ∧ i = 1)) → N' [some (.ref t.a), some (.ref sd), some (.ref gd), some (.ref kl), some (.ref sh.d), some (.ref pl), some (.int (0 + (i : Int))), some (.ref nl), some (.int M)] H4 := fun c => hN _ _ ⟨_, rfl, rfl, by rw [if_neg c, eM]⟩
      have cm : CMul sh.gap (if (((ps.map (pk i)).map V.int).length : Int) - 1 > 0 then (((ps.map (pk i)).map V.int).length : Int) - 1 else 0) := .inr (by rw [hlen]; split <;> omega)
      refine ⟨_, rfl, t.a, _, _, _, rfl, rfl, .of b5, rfl, rfl, _, rfl, ite2 (fun c => ?_) (fun c => ?_)⟩
      · have ek : t.k = "row" := by have e := of_decide_eq_true c; injection e
        refine iteT ⟨_, rfl, nl, _, rfl, .inl (.of en), _, rfl, sh.d, _, rfl, dget_s hs5.shp.ad hs5.gap, _, rfl, nl, _, rfl, .inl (.of en), _, _, rfl, rfl, 0, _, rfl, _, _, rfl, rfl, cm, _, _, rfl, rfl, yes (.inl ek) _ rfl⟩
      · have nk : t.k ≠ "row" := fun e => c (decide_eq_true (by rw [e]))
        refine ⟨_, rfl, t.a, _, _, _, rfl, rfl, .of b5, rfl, rfl, _, rfl, ite2 (fun c => ?_) (fun c => ?_)⟩
        · have ek : t.k = "flow" := by have e := of_decide_eq_true c; injection e
          refine ⟨_, rfl, rfl, _, rfl, ite2 (fun c => ?_) (fun c => ?_)⟩
          · have ei : i = 1 := by have := eqV' c; omega
            refine ⟨_, rfl, nl, _, rfl, .inl (.of en), _, rfl, sh.d, _, rfl, dget_s hs5.shp.ad hs5.gap, _, rfl, nl, _, rfl, .inl (.of en), _, _, rfl, rfl, 0, _, rfl, _, _, rfl, rfl, cm, _, _, rfl, rfl, yes (.inr ⟨ek, ei⟩) _ rfl⟩
          · have ei : i ≠ 1 := fun z => c (decide_eq_true (by rw [z]; rfl))
            exact no fun z => by rcases z with z | z; exact nk z; exact ei z.2
        · have nf : t.k ≠ "flow" := fun e => c (decide_eq_true (by rw [e]))
          exact iteF (no fun z => by rcases z with z | z; exact nk z; exact nf z.1)
    rintro σ' H' ⟨v1, rfl, rfl, h1⟩
    refine seq_joinI (fun σ' H'' => ∃ v : Int, σ' = [some (.ref t.a), some (.ref sd), some (.ref gd), some (.ref kl), some (.ref sh.d), some (.ref pl), some (.int (0 + (i : Int))), some (.ref nl), some (.int v)] ∧ H'' = H' ∧ v = if t.k = "grid" then v1 * more1 t.m + sh.gap * (more1 t.m - 1) else v1) (fun N' hN => ?_) ?_
    · refine ⟨_, rfl, t.a, _, _, _, rfl, rfl, .of b5, rfl, rfl, _, rfl, ite2 (fun c => ?_) (fun c => ?_)⟩
      · have ek : t.k = "grid" := by have e := of_decide_eq_true c; injection e
        obtain ⟨m, em, m1, m9⟩ := bt.self.mo.gr ek
        have b6 := b5
        rw [em] at b6
        refine ⟨_, rfl, _, rfl, t.a, _, _, _, rfl, rfl, .of b6, rfl, _, _, rfl, rfl, .inr ⟨by omega, by omega⟩, _, rfl, sh.d, _, rfl, dget_s hs5.shp.ad hs5.gap, _, rfl, t.a, _, _, _, rfl, rfl, .of b6, rfl, _, _, rfl, rfl, _, _, rfl, rfl, .inr ⟨by omega, by omega⟩, _, _, rfl, rfl, hN _ _ ⟨_, rfl, rfl, by rw [if_pos ek, em]; rfl⟩⟩
      · exact hN _ _ ⟨_, rfl, rfl, by rw [if_neg fun e => c (decide_eq_true (by rw [e]))]⟩
    rintro σ' H'' ⟨v2, rfl, rfl, h2⟩
    refine seq_joinI (fun σ' H6 => ∃ v : Int, σ' = [some (.ref t.a), some (.ref sd), some (.ref gd), some (.ref kl), some (.ref sh.d), some (.ref pl), some (.int (0 + (i : Int))), some (.ref nl), some (.int v)] ∧ Same H'' H6 ∧ v = if t.k = "words" then pk i (wdsP t.m) else v2) (fun N' hN => ?_) ?_
    · refine ⟨_, rfl, t.a, _, _, _, rfl, rfl, .of b5, rfl, rfl, _, rfl, ite2 (fun c => ?_) (fun c => ?_)⟩
      · have ek : t.k = "words" := by have e := of_decide_eq_true c; injection e
        obtain ⟨z, ez, lz⟩ := bt.self.mo.wd ek
        have b6 := b5
        rw [ez] at b6
        have hl := split_len z
        refine ⟨_, rfl, t.a, _, _, _, rfl, rfl, .of b6, rfl, rfl, z, bl, rfl, rfl, (by rw [bl1]; rfl), by omega, by omega, fun sl hsl => ⟨sl, rfl, blk_map (fun w : Str => V.int w.length) V.str (.inl (.of upd_same)) (small1000 (by omega)) (fun x hx Q hQ => ⟨_, rfl, x, rfl, small (word_len hx lz), hQ⟩) fun al hal => ?_⟩⟩
        have s6 := (same_upd hsl (.lst ((Txt.split z bl).map V.str))).trans (same_upd hal (.lst ((Txt.split z bl).map fun w : Str => V.int w.length)))
        refine ⟨al, (Txt.split z bl).map (fun w => (w.length : Int)), rfl, .of (by rw [upd_same, List.map_map]; rfl), by rw [List.length_map]; exact List.length_pos_iff.mpr (split_ne z), fun M' hM' hb' => ?_⟩
        have eM' : wmx z = M' := mx0_eq hM' hb'
        refine ⟨_, rfl, t.a, _, _, _, rfl, rfl, .of (s6 _ _ b6), rfl, z, rfl, small (by omega), small (by simp), fun dl hdl => ⟨_, rfl, dl, _, _, _, rfl, rfl, .of upd_same, pk_at hi (M', (z.length : Int)), hN _ _ ⟨_, rfl, s6.trans (same_upd hdl _), by rw [if_pos ek, ez, ← eM']; rfl⟩⟩⟩
      · exact hN _ _ ⟨_, rfl, .refl _, by rw [if_neg fun e => c (decide_eq_true (by rw [e]))]⟩
    rintro σ' H6 ⟨v3, rfl, s6, h3⟩
    have eX : v3 = pk i (nIn t.k t.m sh.gap ps) := side_eq hi h1 h2 h3 fun ek => by obtain ⟨m, em, m1, m9⟩ := bt.self.mo.gr ek; rw [em]; exact m1
    have s7 := s5.trans s6
    have e7 := s6 _ _ e5
    have hs7 := hs.same s7
    refine ⟨_, rfl, _, rfl, sh.d, _, rfl, dget_s hs7.shp.ad hs7.pad, _, _, rfl, rfl, .inl ⟨by decide, by decide⟩, _, _, rfl, rfl, ?_⟩
    dsimp only [gName]
    show tSeq _ _ _ _ _
    refine seq_joinI (fun σ' H7 => ∃ v : Int, σ' = [some (.ref t.a), some (.ref sd), some (.ref gd), some (.ref kl), some (.ref sh.d), some (.ref pl), some (.int (0 + (i : Int))), some (.ref nl), some (.int v)] ∧ H7 = H6 ∧ v = szI sh v3) (fun N' hN => ?_) ?_
    · have hold : (∀ n, sh.y ≠ .fixed n) → N' _ _ := fun h => hN _ _ ⟨v3 + 2 * sh.pad, rfl, rfl, by
        unfold szI
        cases e : sh.y with
        | fixed n => exact absurd e (h n)
        | hold => rfl
        | share n => rfl⟩
      have tup := hs7.shp.tup
      cases ey : sh.y with
      | hold =>
        rw [ey] at tup
        exact ⟨_, rfl, sh.d, _, rfl, dget_s hs7.shp.ad hs7.shp.wide, sh.t, _, _, _, rfl, rfl, .of tup, rfl, rfl, _, rfl, iteN sHF (hold fun n z => by rw [ey] at z; cases z)⟩
      | share n =>
        rw [ey] at tup
        exact ⟨_, rfl, sh.d, _, rfl, dget_s hs7.shp.ad hs7.shp.wide, sh.t, _, _, _, rfl, rfl, .of tup, rfl, rfl, _, rfl, iteN sSF (hold fun n z => by rw [ey] at z; cases z)⟩
      | fixed n =>
        rw [ey] at tup
        exact ⟨_, rfl, sh.d, _, rfl, dget_s hs7.shp.ad hs7.shp.wide, sh.t, _, _, _, rfl, rfl, .of tup, rfl, rfl, _, rfl, iteY rfl ⟨_, rfl, sh.d, _, rfl, dget_s hs7.shp.ad hs7.shp.wide, sh.t, _, _, _, rfl, rfl, .of tup, rfl, hN _ _ ⟨_, rfl, rfl, by unfold szI; rw [ey]⟩⟩⟩
    rintro σ' H7 ⟨v4, rfl, rfl, h4⟩
    have eL : lim v4 sh.lo sh.hi = pk i (N f t) := by
      rw [h4, eN, eX]
      unfold ndP pk sz; split <;> rfl
    refine ⟨_, rfl, .inl ⟨rfl, _, .of e7⟩, _, rfl, _, rfl, sh.d, _, rfl, dget_s hs7.shp.ad hs7.shp.bd.lo, _, rfl, sh.d, _, rfl, dget_s hs7.shp.ad hs7.shp.bd.hi, v4, sh.lo, sh.hi, rfl, pl, _, _, rfl, rfl, e7, by rw [List.length_map, List.length_take]; exact small1000 (Nat.le_trans (Nat.min_le_left _ _) (by omega)), ?_⟩
    refine ⟨_, _, _, rfl, fun b o e => by rw [upd_ne (ne_of_none e hpl0)]; exact s7 _ _ e, ?_⟩
    rw [upd_same, eL]
    match i, hi with
    | 0, _ => rfl
    | 1, _ => rfl
  · rintro σ H3 ⟨v6, v7, v8, rfl, s3, e3⟩
    have kg3 : Kg gd H H3 := kg.trans ((Kg.same s1).trans (.same s3))
    have e4 := s3 _ _ (s1 _ _ e1)
    refine ⟨_, rfl, pl, _, rfl, .inl ⟨.of e3, fun a ha => ?_⟩⟩
    have s5 := same_upd ha (.tup (([(N f t).1, (N f t).2].take 2).map V.int))
    have e5 := s5 _ _ e4
    have b5 := s5 _ _ (s3 _ _ b12)
    have ea : upd H3 a (.tup (([(N f t).1, (N f t).2].take 2).map V.int)) a = some (.tup [.int (N f t).1, .int (N f t).2]) := upd_same
    have kg5 := kg3.trans (Kg.same s5)
    have pr5 : ∀ b ∈ preL t.ks, PrAt (upd H3 a (.tup (([(N f t).1, (N f t).2].take 2).map V.int))) (g1 b.n, N f b) := fun b hb => s5 _ _ (s3 _ _ (s1 _ _ (hp1 b hb)))
    generalize upd H3 a (.tup (([(N f t).1, (N f t).2].take 2).map V.int)) = H5 at e5 b5 ea kg5 pr5 ⊢
    have ens : psN t = (postL t.ks).map Bt.n ++ [t.n] := by rw [psN, post_eq, List.map_append]; rfl
    have hnew : t.n ∉ ms ++ (postL t.ks).map Bt.n := fun z => by
      rw [ens, ← List.append_assoc] at hnd
      exact (List.nodup_append.mp hnd).2.2 _ z _ (List.mem_singleton.mpr rfl) rfl
    let g' : Str → Addr := fun n => if n = t.n then a else g1 n
    have ge : g' t.n = a := if_pos rfl
    have go : ∀ m ∈ ms ++ (postL t.ks).map Bt.n, g' m = g1 m := fun m hm => if_neg fun z => hnew (by rw [← z]; exact hm)
    have ep : putK (dN (ms ++ (postL t.ks).map Bt.n) g1) (.inr t.n) (.ref a) = dN (ms ++ psN t) g' := by
      have := put_new (g := fun n => V.ref (g1 n)) (g' := fun n => V.ref (g' n)) hnew fun m hm => by show V.ref (g' m) = _; rw [go m hm]
      rw [ge] at this
      rw [ens, ← List.append_assoc]
      exact this
    refine ⟨_, rfl, _, rfl, t.a, _, _, _, rfl, rfl, .of b5, rfl, gd, _, rfl, dput_s e5 (by rw [List.length_map, List.length_append, List.length_map, postL_len]; omega), ?_⟩
    rw [ep]
    have tp : Tups H5 (upd H5 gd (.dK (dN (ms ++ psN t) g'))) := .upd e5 (nodk _)
    refine ⟨_, rfl, _, rfl, t.a, _, _, _, rfl, rfl, .of (tp _ _ b5), rfl, gd, _, rfl, dget_s upd_same (val_map (α := Unit) (g := fun n => V.ref (g' n)) (by rw [ens]; simp)), ?_⟩
    refine q g' _ (kg5.trans (.upd _)) upd_same (fun m hm => (go m (List.mem_append_left _ hm)).trans (hg1 m hm)) fun b hb => ?_
    rw [pre_eq] at hb
    rcases List.mem_cons.mp hb with rfl | hb
    · rw [ge]; exact tp _ _ ea
    · have hbn : b.n ∈ ms ++ (postL t.ks).map Bt.n := by
        refine List.mem_append_right _ (List.mem_map.mpr ⟨b, ?_, rfl⟩)
        obtain ⟨x, hx, hbx⟩ := mem_preL.mp hb
        have h1 := (post_perm _ x (Nat.le_refl _)).mem_iff.mpr hbx
        obtain ⟨l, r, e⟩ := List.append_of_mem hx
        rw [e, postL_app, postL_cons]
        exact List.mem_append_right _ (List.mem_append_left _ h1)
      rw [go _ hbn]; exact tp _ _ (pr5 b hb)
theorem ok_needs_in (T : Txt K mg A) : ∀ n, FnOk P w K mg base CX0 (n + 1) A.f_l_needs_in A.d_l_needs_in P_l_needs_in (spNeedsIn n)
  | 0 => ⟨fun vs H Q E h => by obtain ⟨t, _, _, _, _, _, _, _, _, h1, _⟩ := h; rw [dp_eq] at h1; omega, fun _ _ _ _ _ _ vs Q E _ _ _ _ h => by obtain ⟨t, _, _, _, _, _, _, _, _, h1, _⟩ := h; rw [dp_eq] at h1; omega⟩
  | n + 1 => needs_in_step T n (ok_needs_in T n)
end
end KP

set_option linter.all false
set_option maxHeartbeats 4000000
set_option maxRecDepth 100000
namespace KP
open PySem L2 PyProof.Rows
section
variable {P : Program} {w : World} {K : PySem.W.Frag} {mg : Str → Option Value} {base : Heap} {A : Adr}
theorem psN_nd {t : Bt} (h : (nmsT t).Nodup) : (psN t).Nodup := ((post_perm _ t (Nat.le_refl _)).map Bt.n).nodup_iff.mpr h
def spNeeds (n : Nat) : Sp := fun vs H Q _ => ∃ (t : Bt) (sd : Addr) (ns : List Str) (f : Str → Sh), vs = [.ref t.a, .ref sd] ∧ BtAt H t ∧ dp t ≤ n ∧ Shs H sd ns f ∧ (∀ b ∈ pre t, b.n ∈ ns) ∧ (pre t).length ≤ 40 ∧ (nmsT t).Nodup ∧
  ∀ (a : Addr) (g : Str → Addr) (H' : Hp), H a = none → Same H H' → H' a = some (.dK (dN (psN t) g)) → (∀ b ∈ pre t, PrAt H' (g b.n, N f b)) → Q (.ref a) H'
seal PE PS PSs PA PT PI PG in
theorem ok_needs (T : Txt K mg A) (n : Nat) : FnOk P w K mg base CX0 (n + 2) A.f_l_needs A.d_l_needs P_l_needs (spNeeds n) := by
  have G_l_needs_in : FnOk P w K mg base CX0 (n + 1) A.f_l_needs_in A.d_l_needs_in P_l_needs_in (spNeedsIn n) := ok_needs_in T n
  refine T.F_l_needs.ok sc_l_needs (fun vs H Q E h => ?_) (fun cdv B outer s H vs Q E hr h => ?_)
  · obtain ⟨t, sd, ns, f, rfl, _⟩ := h; rfl
  obtain ⟨t, sd, ns, f, rfl, bt, hd, S, hns, h40, hnd, q⟩ := h
  refine ⟨_, @pss_cons _ _ _ _ _ (ps_set (i := 2) sc_l_needs.nd rfl (Or.inl rfl) pe_dict0)
    (@pss_cons _ _ _ _ _ (ps_expr (pe_call G_l_needs_in hr rfl T.m_l_needs_in T.F_l_needs_in.kp T.b_l_needs_in .nil pass0 (pa_cons (pv 0) (pa_cons (pv 1) (pa_cons (pv 2) pa_nil)))))
    (pss_one (ps_ret (pv 2)))), ?_⟩
  refine fun gd hgd => ?_
  have s1 := same_upd hgd (.dK [])
  have S1 := S.same s1
  have n1 : gd ≠ sd := fun z => by have := S.ad; rw [← z, hgd] at this; cases this
  have n2 : ∀ n ∈ ns, (f n).d ≠ gd := fun n hn z => by have := (S.at_ n hn).shp.ad; rw [z, hgd] at this; cases this
  refine ⟨_, rfl, _, rfl, _, rfl, t, sd, gd, ns, f, [], fun _ => 0, rfl, bt.same s1, hd, S1, n1, n2, hns, upd_same, psN_nd hnd, by simpa using h40, fun g' H' kg e _ hp => ?_⟩
  refine ⟨_, rfl, q gd g' H' hgd (fun b o e => kg b o (ne_of_none e hgd) (s1 _ _ e)) e hp⟩
def spPairIs : Sp := fun vs H Q _ => ∃ (a b : Addr) (p : Int × Int), vs = [.ref a, .ref b] ∧ PrAt H (a, p) ∧ PrAt H (b, p) ∧ Q (.bl true) H
seal PE PS PSs PA PT PI PG in
theorem ok_pair_is (T : Txt K mg A) : FnOk P w K mg base CX0 2 A.f_l_pair_is A.d_l_pair_is P_l_pair_is spPairIs := by
  have G_l_whole : FnOk P w K mg base CX0 1 A.f_l_whole A.d_l_whole P_l_whole spWhole := ok_whole T
  refine T.F_l_pair_is.ok sc_l_pair_is (fun vs H Q E h => ?_) (fun cdv B outer s H vs Q E hr h => ?_)
  · obtain ⟨a, b, p, rfl, _⟩ := h; rfl
  obtain ⟨a, b, p, rfl, ha, hb, q⟩ := h
  refine ⟨_, @pss_cons _ _ _ _ _ (ps_if (PW.pt (pw_or (pt_not (pt_val (pe_callB call_isi rfl T.n_isinstance b_isinstance (pa_cons (pv 0) (pa_cons (pe_bltn rfl T.n_tuple b_tuple (v := .ty "tuple") rfl) pa_nil))))) (pw_or (pt_cmpR op_ne (pe_callB call_len_seq rfl T.n_len b_len (pa_cons (pv 0) pa_nil)) pe_int (nomark _)) (pw_or (pt_not (pt_val (pe_call G_l_whole hr rfl T.m_l_whole T.F_l_whole.kp T.b_l_whole .nil pass0 (pa_cons (pe_ix ix_tup (pv 0) pe_int (fun _ _ => rfl)) pa_nil)))) (pw_or1 (pt_not (pt_val (pe_call G_l_whole hr rfl T.m_l_whole T.F_l_whole.kp T.b_l_whole .nil pass0 (pa_cons (pe_ix ix_tup (pv 0) pe_int (fun _ _ => rfl)) pa_nil))))))))) (pss_one (ps_ret pe_bl)) pss_nil)
    (pss_one (ps_ret (pe_cmpR (op_eqT hr.units0) (pv 0) (pv 1) (nomark _)))), ?_⟩
  refine ⟨_, rfl, _, "tuple", _, true, rfl, .tup ha, ?_, _, rfl, iteF ?_⟩
  · unfold PySem.W.kitOne; rfl
  refine ⟨_, rfl, a, _, rfl, .inr (.of ha), rfl, _, rfl, ite_no rfl ?_⟩
  refine ⟨_, rfl, a, _, _, _, rfl, rfl, .of ha, rfl, p.1, rfl, _, rfl, iteF ?_⟩
  refine ⟨_, rfl, a, _, _, _, rfl, rfl, .of ha, rfl, p.2, rfl, _, rfl, iteF ?_⟩
  refine ⟨_, rfl, _, rfl, a, b, _, _, rfl, rfl, .of ha, .of hb, rfl, rfl, ?_⟩
  have e : eqVs [V.int p.1, V.int p.2] [V.int p.1, V.int p.2] = true := by simp [eqVs, eqV]
  rw [e]; exact q
end
end KP

set_option linter.all false
set_option maxHeartbeats 4000000
set_option maxRecDepth 100000
namespace KP
open PySem L2 PyProof.Rows
theorem len_put {kvs : List (Key × V)} {k : Key} {u v : V} (h : valV kvs k = some u) : (putK kvs k v).length = kvs.length := by
  unfold putK
  rw [if_pos (by rw [valV_any, h]; rfl), List.length_map]
/-- a value put under a key that is there -/
structure Has (kvs : List (Key × V)) (n : Nat) : Prop where
  nd : (kvs.map (·.1)).Nodup
  pl : ∀ kv ∈ kvs, plainV kv.2 = true
  len : kvs.length ≤ n
theorem Has.put {kvs : List (Key × V)} {n : Nat} (h : Has kvs n) {k : Key} {u v : V} (e : valV kvs k = some u) (hv : plainV v = true) : Has (putK kvs k v) n :=
  ⟨nd_put h.nd, pl_put h.pl hv, by rw [len_put e]; exact h.len⟩
/-- one shape is another, its dict the same one -/
theorem Shs.set {H : Hp} {sd : Addr} {ns : List Str} {f : Str → Sh} (S : Shs H sd ns f) {n : Str} (hn : n ∈ ns) {s' : Sh} (ed : s'.d = (f n).d) (hs : ShAt (upd H s'.d (.dK s'.kvs)) s') : Shs (upd H s'.d (.dK s'.kvs)) sd ns (fun m => if m = n then s' else f m) := by
  have eD : ∀ m, (if m = n then s' else f m).d = (f m).d := fun m => by
    by_cases e : m = n
    · rw [if_pos e, ed, e]
    · rw [if_neg e]
  have hd : H s'.d = some (.dK (f n).kvs) := by rw [ed]; exact (S.at_ n hn).shp.ad
  refine ⟨?_, fun m hm => ?_, fun a ha b hb e => ?_, fun m hm => ?_⟩
  · rw [upd_ne (by rw [ed]; exact (S.ne n hn).symm), S.ad]
    congr 2
    exact List.map_congr_left fun m _ => by rw [eD]
  · by_cases e : m = n
    · rw [if_pos e]; exact hs
    · rw [if_neg e]
      exact (S.at_ m hm).upd (fun z => e (S.inj m hm n hn (by rw [← z, ed]))) ⟨_, hd, fun vs z => nomatch z⟩
  · rw [eD, eD] at e; exact S.inj a ha b hb e
  · rw [eD]; exact S.ne m hm
end KP

set_option linter.all false
set_option maxHeartbeats 4000000
set_option maxRecDepth 100000
namespace KP
open PySem L2 PyProof.Rows
def kN (k : Nat) : Str := Str.ofString "k" ++ Str.ofString (toString (0 + (k : Int)))
theorem kN_nd : ∀ m : Fin 7, (Str.ofString "top" :: (List.range m.val).map kN).Nodup := by decide +kernel
theorem kN_log : ∀ i : Fin 7, (0 + (i.val : Int)).natAbs.log2 < 1920 := by decide +kernel
theorem kN_len : ∀ i : Fin 7, (Str.ofString "k").length + (Str.ofString (toString (0 + (i.val : Int)))).length ≤ 1000 := by decide +kernel
theorem fG : (Str.ofString "flow" : Str) ≠ "grid" := by decide +kernel
def upd3 (t : Addr) : List (Key × V) := [(.inr (Str.ofString "wide"), .ref t), (.inr (Str.ofString "leastw"), .int 0), (.inr (Str.ofString "mostw"), .int 400)]
theorem upd3_nd (t : Addr) : ((upd3 t).map (·.1)).Nodup := by show [(Sum.inr (Str.ofString "wide") : Key), .inr (Str.ofString "leastw"), .inr (Str.ofString "mostw")].Nodup; decide +kernel
def put3 (kvs : List (Key × V)) (t : Addr) : List (Key × V) := putK (putK (putK kvs (.inr (Str.ofString "wide")) (.ref t)) (.inr (Str.ofString "leastw")) (.int 0)) (.inr (Str.ofString "mostw")) (.int 400)
theorem sh3 {H H' : Hp} {s : Sh} (h : ShAt H s) {t : Addr} {y : Way} (e : H' s.d = some (.dK (put3 s.kvs t))) (et : H' t = some (.tup y.vs)) : ShAt H' ⟨s.d, t, put3 s.kvs t, y, 0, 400, s.pad, s.gap⟩ := by
  have h0 : Has s.kvs 20 := ⟨h.nd, h.pl, h.len⟩
  have h1 := h0.put h.shp.wide (v := .ref t) rfl
  have l1 : valV (putK s.kvs (.inr (Str.ofString "wide")) (.ref t)) (.inr (Str.ofString "leastw")) = some (.int s.lo) := (val_put (by decide +kernel)).trans h.shp.bd.lo
  have h2 := h1.put l1 (v := .int 0) rfl
  have l2 : valV (putK (putK s.kvs (.inr (Str.ofString "wide")) (.ref t)) (.inr (Str.ofString "leastw")) (.int 0)) (.inr (Str.ofString "mostw")) = some (.int s.hi) := (val_put (by decide +kernel)).trans ((val_put (by decide +kernel)).trans h.shp.bd.hi)
  have h3 := h2.put l2 (v := .int 400) rfl
  refine ⟨⟨e, ?_, et, Int.le_refl _, ?_, ?_⟩, ?_, ?_, h3.len, h3.nd, h3.pl⟩
  · exact (val_put (by decide +kernel)).trans ((val_put (by decide +kernel)).trans val_at)
  · exact (val_put (by decide +kernel)).trans val_at
  · exact val_at
  · exact (val_put (by decide +kernel)).trans ((val_put (by decide +kernel)).trans ((val_put (by decide +kernel)).trans h.pad))
  · exact (val_put (by decide +kernel)).trans ((val_put (by decide +kernel)).trans ((val_put (by decide +kernel)).trans h.gap))
def upd2 (t : Addr) (g : Int) : List (Key × V) := [(.inr (Str.ofString "wide"), .ref t), (.inr (Str.ofString "gap"), .int g)]
theorem upd2_nd (t : Addr) (g : Int) : ((upd2 t g).map (·.1)).Nodup := by show [(Sum.inr (Str.ofString "wide") : Key), .inr (Str.ofString "gap")].Nodup; decide +kernel
def put2 (kvs : List (Key × V)) (t : Addr) (g : Int) : List (Key × V) := putK (putK kvs (.inr (Str.ofString "wide")) (.ref t)) (.inr (Str.ofString "gap")) (.int g)
theorem sh2 {H H' : Hp} {s : Sh} (h : ShAt H s) {t : Addr} {y : Way} {g : Int} (e : H' s.d = some (.dK (put2 s.kvs t g))) (et : H' t = some (.tup y.vs)) : ShAt H' ⟨s.d, t, put2 s.kvs t g, y, s.lo, s.hi, s.pad, g⟩ := by
  have h0 : Has s.kvs 20 := ⟨h.nd, h.pl, h.len⟩
  have h1 := h0.put h.shp.wide (v := .ref t) rfl
  have l1 : valV (putK s.kvs (.inr (Str.ofString "wide")) (.ref t)) (.inr (Str.ofString "gap")) = some (.int s.gap) := (val_put (by decide +kernel)).trans h.gap
  have h2 := h1.put l1 (v := .int g) rfl
  refine ⟨⟨e, ?_, et, h.shp.bd.nn, ?_, ?_⟩, ?_, ?_, h2.len, h2.nd, h2.pl⟩
  · exact (val_put (by decide +kernel)).trans val_at
  · exact (val_put (by decide +kernel)).trans ((val_put (by decide +kernel)).trans h.shp.bd.lo)
  · exact (val_put (by decide +kernel)).trans ((val_put (by decide +kernel)).trans h.shp.bd.hi)
  · exact (val_put (by decide +kernel)).trans ((val_put (by decide +kernel)).trans h.pad)
  · exact val_at
section
variable {P : Program} {w : World} {K : PySem.W.Frag} {mg : Str → Option Value} {base : Heap} {A : Adr}
def spFlowBy : Sp := fun vs H Q _ => ∃ st : Addr, vs = [.ref st] ∧ St st H ∧ ∀ (pr sd : Addr) (t : Bt) (f : Str → Sh) (H' : Hp), Ms st H H' → H' pr = some (.tup [.ref t.a, .ref sd]) → BtAt H' t → dp t ≤ 2 → (pre t).length ≤ 40 → (nmsT t).Nodup → Shs H' sd (nmsT t) f → Q (.ref pr) H'
abbrev sc_l_flow_by_0 : Scope := (match defBody s_l_flow_by with | (.Assign _ (.Call _ ((.ListComp _ _ sc _) :: _) _ _) _) :: _ => sc | _ => defScope s_l_flow_by)
theorem blk_l_flow_by_0 : Blk (defScope s_l_flow_by) N_l_flow_by sc_l_flow_by_0 ["_law_k"] [] := ⟨rfl, by decide +kernel, by decide +kernel, by decide +kernel, by decide +kernel⟩
theorem nd_l_flow_by_0 : (capN N_l_flow_by ["_law_k"] []).Nodup := by decide +kernel
seal PE PS PSs PA PT PI PG in
theorem ok_flow_by (T : Txt K mg A) : FnOk P w K mg base CX0 6 A.f_l_flow_by A.d_l_flow_by P_l_flow_by spFlowBy := by
  have G_l_mix : FnOk P w K mg base CX0 5 A.f_l_mix A.d_l_mix P_l_mix spMix := (ok_mix T).mono (by omega)
  have G_l_shapes : FnOk P w K mg base CX0 5 A.f_l_shapes A.d_l_shapes P_l_shapes (spShapes 2) := ok_shapes T 2
  refine T.F_l_flow_by.ok sc_l_flow_by (fun vs H Q E h => ?_) (fun cdv B outer s H vs Q E hr h => ?_)
  · obtain ⟨st, rfl, _⟩ := h; rfl
  obtain ⟨st, rfl, hst, q⟩ := h
  refine ⟨_, @pss_cons _ _ _ _ _ (ps_set (i := 1) sc_l_flow_by.nd rfl (Or.inl rfl) (pe_callTy call_tuple_of rfl T.n_tuple b_tuple (pa_cons (pe_comp blk_l_flow_by_0 rfl (pi_range1 rfl T.n_range (pa_cons (pe_op op_add pe_int (pe_op op_mod (pe_call G_l_mix hr rfl T.m_l_mix T.F_l_mix.kp T.b_l_mix .nil pass0 (pa_cons (pv 0) (pa_cons pe_int pa_nil))) pe_int)) pa_nil)) (fun _ _ _ _ _ => pg_name (i := 0) nd_l_flow_by_0 rfl (.inl rfl)) (fun _ _ _ _ _ => pif_nil) (fun _ _ _ _ _ => pe_tup (pa_cons pe_str (pa_cons (pe_op op_add_str pe_str (pe_callTy call_str_int rfl T.n_str b_str (pa_cons (pv 0) pa_nil))) (pa_cons (pe_tup pa_nil) (pa_cons pe_non (pa_cons (pe_tup pa_nil) pa_nil))))))) pa_nil)))
    (@pss_cons _ _ _ _ _ (ps_set (i := 2) sc_l_flow_by.nd rfl (Or.inl rfl) (pe_tup (pa_cons pe_str (pa_cons pe_str (pa_cons (pe_tup pa_nil) (pa_cons pe_non (pa_cons (pv 1) pa_nil)))))))
    (@pss_cons _ _ _ _ _ (ps_set (i := 3) sc_l_flow_by.nd rfl (Or.inl rfl) (pe_call G_l_shapes hr rfl T.m_l_shapes T.F_l_shapes.kp T.b_l_shapes .nil pass0 (pa_cons (pv 0) (pa_cons (pv 2) pa_nil))))
    (@pss_cons _ _ _ _ _ (ps_for PassesOwn.never rfl (pi_tup (pe_op op_catE (pv 1) (pe_tup (pa_cons (pv 2) pa_nil)))) (pg_name (i := 4) sc_l_flow_by.nd rfl (Or.inl rfl)) (pss_one (ps_expr (pe_bm PySem.F.plainAttrs_dict PySem.F.slot_dict_update PySem.F.type_dict_update mt_updateD (pe_dget (hu_of hr) (pv 3) (pe_ix ix_tup (pv 4) pe_int (fun _ _ => rfl)) (fun _ _ => rfl)) (pa_cons (pe_disp (pps_cons pe_str (pe_tup (pa_cons pe_str (pa_cons (pe_op op_add pe_int (pe_op op_mod (pe_call G_l_mix hr rfl T.m_l_mix T.F_l_mix.kp T.b_l_mix .nil pass0 (pa_cons (pv 0) (pa_cons pe_int pa_nil))) pe_int)) pa_nil))) (pps_cons pe_str pe_int (pps_cons pe_str pe_int pps_nil))) rfl rfl (fun h => nomatch h) (by decide)) pa_nil)))))
    (@pss_cons _ _ _ _ _ (ps_expr (pe_bm PySem.F.plainAttrs_dict PySem.F.slot_dict_update PySem.F.type_dict_update mt_updateD (pe_dget (hu_of hr) (pv 3) pe_str (fun _ _ => rfl)) (pa_cons (pe_disp (pps_cons pe_str (pe_tup (pa_cons pe_str pa_nil)) (pps_cons pe_str (pe_op op_add pe_int (pe_op op_mod (pe_call G_l_mix hr rfl T.m_l_mix T.F_l_mix.kp T.b_l_mix .nil pass0 (pa_cons (pv 0) (pa_cons pe_int pa_nil))) pe_int)) pps_nil)) rfl rfl (fun h => nomatch h) (by decide)) pa_nil)))
    (pss_one (ps_ret (pe_tup (pa_cons (pv 2) (pa_cons (pv 3) pa_nil))))))))), ?_⟩
  refine ⟨_, rfl, st, 0, rfl, hst, fun r H1 r0 r1 m1 _ => ⟨_, _, rfl, rfl, (by show (0:Int) < 5; decide), _, _, rfl, rfl, ?_⟩⟩
  obtain ⟨m, em⟩ := Int.eq_ofNat_of_zero_le (show 0 ≤ 2 + r % 5 by omega)
  have hm : 2 ≤ m ∧ m ≤ 6 := by omega
  refine ⟨_, rfl, by omega, by omega, blk_rng (n := (2 + r % 5).toNat) (fun i acc H' => ∃ kids : List Bt, acc = rfs kids ∧ kids.length = i ∧ kids.map Bt.n = (List.range i).map kN ∧ Same H1 H' ∧ (∀ c ∈ kids, BtAt H' c ∧ dp c ≤ 1 ∧ pre c = [c]) ∧ i ≤ 6) ⟨[], rfl, rfl, rfl, .refl _, fun c h => (nomatch h), by omega⟩ (fun i acc H' ⟨kids, ea, el, _, _, _, h6⟩ => ?_) (fun i acc H' R k hi z => ?_) fun acc H2 z => ?_⟩
  · rw [ea, List.length_map, el]; exact small1000 (by omega)
  · obtain ⟨kids, rfl, el, en, s1, hk, h6⟩ := z
    have hi7 : i < 6 := by omega
    dsimp only [tYes]; rw [if_pos rfl]
    refine ⟨_, rfl, _, rfl, kN_log ⟨i, by omega⟩, _, _, rfl, rfl, small (kN_len ⟨i, by omega⟩), small (by simp), fun t1 ht1 => ⟨small (by simp), fun t2 ht2 => ⟨small (by simp), fun t3 ht3 => k _ _ ⟨kids ++ [.mk t3 "blank" (kN i) .non []], by show _ = List.map _ (kids ++ _); rw [List.map_append]; rfl, by rw [List.length_append, el]; rfl, by rw [List.map_append, en, List.range_succ, List.map_append]; rfl, ?_, fun c hc => ?_, by omega⟩⟩⟩⟩
    · exact s1.trans ((same_upd ht1 _).trans ((same_upd ht2 _).trans (same_upd ht3 _)))
    · rcases List.mem_append.mp hc with hc | hc
      · exact ⟨(hk c hc).1.same ((same_upd ht1 _).trans ((same_upd ht2 _).trans (same_upd ht3 _))), (hk c hc).2⟩
      · rw [List.mem_singleton.mp hc]
        refine ⟨.mk ⟨⟨t1, t2, upd_same, same_upd ht3 _ _ _ upd_same⟩, fun e => absurd e wB, fun e => absurd e gB⟩ (fun b h => (nomatch h)), ?_, ?_⟩
        · rw [dp_eq]; show dpL [] + 1 ≤ 1; rw [dpL]; omega
        · rw [pre_eq]; show _ :: preL [] = _; rw [preL_nil]
  obtain ⟨kids, rfl, el, en, s2, hk, h6⟩ := z
  have elm : kids.length = m := by rw [el, em]; rfl
  intro kl hkl
  have s3 := same_upd hkl (.lst (rfs kids))
  refine ⟨kl, _, rfl, .inl ⟨.of upd_same, fun kt hkt => ?_⟩⟩
  have s4 := same_upd hkt (.tup (rfs kids))
  refine ⟨small (by simp), fun tg htg => ⟨_, rfl, small (by simp), fun d hd => ?_⟩⟩
  have s5 := (same_upd htg (.tup [])).trans (same_upd hd (.tup [.str "flow", .str "top", .ref tg, .non, .ref kt]))
  have ekt : ∀ H', Same (upd (upd H2 kl (.lst (rfs kids))) kt (.tup (rfs kids))) H' → H' kt = some (.tup (rfs kids)) := fun H' s => s _ _ upd_same
  have bt0 : BtAt (upd (upd (upd (upd H2 kl (.lst (rfs kids))) kt (.tup (rfs kids))) tg (.tup [])) d (.tup [.str "flow", .str "top", .ref tg, .non, .ref kt])) (.mk d "flow" "top" .non kids) :=
    .mk ⟨⟨tg, kt, upd_same, ekt _ s5⟩, fun e => absurd e kF.1, fun e => absurd e fG⟩ fun b hb => (hk b hb).1.same (s3.trans (s4.trans s5))
  have ekt' := ekt _ s5
  have m5 : Ms st H (upd (upd (upd (upd H2 kl (.lst (rfs kids))) kt (.tup (rfs kids))) tg (.tup [])) d (.tup [.str "flow", .str "top", .ref tg, .non, .ref kt])) := m1.grow (s2.trans (s3.trans (s4.trans s5)))
  generalize upd (upd (upd (upd H2 kl (.lst (rfs kids))) kt (.tup (rfs kids))) tg (.tup [])) d (.tup [.str "flow", .str "top", .ref tg, .non, .ref kt]) = H5 at bt0 ekt' m5 ⊢
  clear ekt s5 s4 s3
  obtain ⟨t, et⟩ : ∃ t : Bt, t = .mk d "flow" "top" .non kids := ⟨_, rfl⟩
  have hta : t.a = d := by rw [et]; rfl
  have htn : t.n = "top" := by rw [et]; rfl
  have htk : t.ks = kids := by rw [et]; rfl
  have hpl : preL kids = kids := by
    have : ∀ l : List Bt, (∀ c ∈ l, pre c = [c]) → preL l = l := by
      intro l
      induction l with
      | nil => intro _; exact preL_nil
      | cons x r ih => intro h; rw [preL_cons, h x (List.mem_cons_self ..), ih fun c hc => h c (List.mem_cons_of_mem _ hc)]; rfl
    exact this _ fun c hc => (hk c hc).2.2
  have hpre : pre t = t :: kids := by rw [pre_eq, htk, hpl]
  have hnms : nmsT t = Str.ofString "top" :: (List.range m).map kN := by
    rw [nmsT, hpre, List.map_cons, en, htn, em]; rfl
  have hnd : (nmsT t).Nodup := by rw [hnms]; exact kN_nd ⟨m, by omega⟩
  have hdp : dp t ≤ 2 := by
    rw [dp_eq, htk]
    have := dpL_le fun c hc => (hk c hc).2.1
    omega
  have h40 : (pre t).length ≤ 40 := by rw [hpre, List.length_cons]; omega
  rw [← et] at bt0
  clear et
  rw [← hta]
  refine ⟨_, rfl, _, rfl, st, t, rfl, m5.st, bt0, hdp, h40, hnd, fun sd f H6 m6 fsd S hfr => ?_⟩
  have bt6 := bt0.tups (.ms m5.st m6)
  have ekt6 := Tups.ms m5.st m6 _ _ ekt'
  have M6 := m5.trans m6
  have fr : ∀ n ∈ nmsT t, H (f n).d = none ∧ (f n).d ≠ st := fun n hn => ⟨m5.free hst (hfr n hn), m5.st.ne (hfr n hn)⟩
  refine ⟨_, rfl, _, rfl, small (by simp), fun dt hdt => ⟨kt, dt, _, _, rfl, rfl, .of (same_upd hdt _ _ _ ekt6), .of upd_same, by rw [List.length_map]; exact small (by show kids.length + 1 ≤ 1000; omega), (fun e => ?_), (fun _ e => (nomatch e)), fun _ _ p hp => ?_⟩⟩
  · have := congrArg List.length e
    rw [List.length_map, elm, List.length_nil] at this
    omega
  have s7 := (same_upd hdt (.tup [V.ref t.a])).trans (same_upd hp (.tup (rfs kids ++ [V.ref t.a])))
  have ep : upd (upd H6 dt (.tup [V.ref t.a])) p (.tup (rfs kids ++ [V.ref t.a])) p = some (.tup (rfs (kids ++ [t]))) := by rw [upd_same]; show _ = some (HO.tup (List.map _ (kids ++ [t]))); rw [List.map_append]; rfl
  have M7 := M6.grow s7
  have S7 := S.same s7
  have bt7 := bt6.same s7
  generalize upd (upd H6 dt (.tup [V.ref t.a])) p (.tup (rfs kids ++ [V.ref t.a])) = H7 at s7 ep M7 S7 bt7 ⊢
  -- one shape changed
  have one : ∀ {H' : Hp} {f : Str → Sh} {n : Str} {s' : Sh}, Ms st H H' → Shs H' sd (nmsT t) f → (∀ n ∈ nmsT t, H (f n).d = none ∧ (f n).d ≠ st) → n ∈ nmsT t → s'.d = (f n).d → ShAt (upd H' s'.d (.dK s'.kvs)) s' →
      Ms st H (upd H' s'.d (.dK s'.kvs)) ∧ Tups H' (upd H' s'.d (.dK s'.kvs)) ∧ Shs (upd H' s'.d (.dK s'.kvs)) sd (nmsT t) (fun m => if m = n then s' else f m) ∧ ∀ m ∈ nmsT t, H (if m = n then s' else f m).d = none ∧ (if m = n then s' else f m).d ≠ st := by
    intro H' f n s' ms S hf hn ed hs
    have a := (S.at_ n hn).shp.ad
    refine ⟨?_, ?_, S.set hn ed hs, fun m hm => ?_⟩
    · rw [ed]; exact ms.set _ (hf n hn).1 (hf n hn).2
    · rw [ed]; exact .upd a fun vs z => nomatch z
    · by_cases e : m = n
      · rw [if_pos e, ed]; exact hf n hn
      · rw [if_neg e]; exact hf m hm
  refine ⟨p, rfl, ⟨_, .of ep⟩, for_tup (K := K) (a := p) (xs := rfs (kids ++ [t])) (fun i σ H' => ∃ (f : Str → Sh) (v4 : Option V), σ = [some (.ref st), some (.ref kt), some (.ref t.a), some (.ref sd), v4] ∧ Ms st H H' ∧ Tups H7 H' ∧ Shs H' sd (nmsT t) f ∧ ∀ n ∈ nmsT t, H (f n).d = none ∧ (f n).d ≠ st)
    ⟨f, none, rfl, M7, fun _ _ e => e, S7, fr⟩ (fun i σ H' _ ⟨_, _, _, _, tp, _⟩ => .of (tp _ _ ep)) ?_ ?_⟩
  · rintro i x σ H8 hx ⟨f, v4, rfl, M8, tp, S8, fr⟩
    obtain ⟨c, hc, rfl⟩ := rfs_at hx
    have hcm : c ∈ pre t := by
      rw [hpre]
      rcases List.mem_append.mp (List.mem_of_getElem? hc) with h | h
      · exact List.mem_cons_of_mem _ h
      · rw [List.mem_singleton.mp h]; exact List.mem_cons_self ..
    have hcn : c.n ∈ nmsT t := List.mem_map.mpr ⟨c, hcm, rfl⟩
    obtain ⟨tg', kt', c1, c2⟩ := ((bt7.tups tp) c hcm).ex
    have hs := S8.at_ _ hcn
    refine ⟨_, rfl, _, rfl, c.a, _, _, _, rfl, rfl, .of c1, rfl, sd, _, rfl, S8.get hcn, (.inr (.inr (.inl ⟨rfl, .inl ⟨_, hs.shp.ad⟩⟩))), fun dd hdd => ?_⟩
    have M9 := M8.grow (same_upd hdd (.dK []))
    refine ⟨_, rfl, st, 0, rfl, M9.st, fun r H9 _ _ m9 _ => ⟨_, _, rfl, rfl, (by show (0:Int) < 5; decide), _, _, rfl, rfl, small (by simp), fun t' ht' => ?_⟩⟩
    have ndd : dd ≠ st := M8.st.ne hdd
    have e9 : H9 dd = some (.dK []) := m9.keep _ _ ndd upd_same
    have s10 := same_upd ht' (.tup (Way.fixed (1 + r % 5)).vs)
    have M10 := (M9.trans m9).grow s10
    have S10 := ((S8.same (same_upd hdd (.dK []))).ms M9.st m9).same s10
    have hs10 := S10.at_ _ hcn
    have n1 : (f c.n).d ≠ dd := fun z => by have := hs.shp.ad; rw [z, hdd] at this; cases this
    have tp10 : Tups H8 (upd H9 t' (.tup (Way.fixed (1 + r % 5)).vs)) := (Tups.of (same_upd hdd (.dK []))).trans ((Tups.ms M9.st m9).trans (.of s10))
    refine ⟨s10 _ _ e9, upd3 t', rfl, by show 3 ≤ 15; decide, ?_⟩
    rw [mergeK_nd (upd3_nd t')]
    have e10 := s10 _ _ e9
    have a10 := hs10.shp.ad
    have M11 : Ms st H (upd (upd H9 t' (.tup (Way.fixed (1 + r % 5)).vs)) dd (.dK (upd3 t'))) := by
      have : H dd = none := M8.free hst hdd
      exact M10.set _ this ndd
    have n2 : dd ≠ sd := fun z => by have := S8.ad; rw [← z, hdd] at this; cases this
    have n3 : ∀ n ∈ nmsT t, (f n).d ≠ dd := fun n hn z => by have := (S8.at_ n hn).shp.ad; rw [z, hdd] at this; cases this
    have S11 := (Kg.upd (gd := dd) (H := upd H9 t' (.tup (Way.fixed (1 + r % 5)).vs)) (.dK (upd3 t'))).shs S10 e10 (fun vs z => nomatch z) n2 n3
    have tp11 : Tups H8 (upd (upd H9 t' (.tup (Way.fixed (1 + r % 5)).vs)) dd (.dK (upd3 t'))) := tp10.trans (.upd e10 fun vs z => nomatch z)
    have et11 : upd (upd H9 t' (.tup (Way.fixed (1 + r % 5)).vs)) dd (.dK (upd3 t')) t' = some (.tup (Way.fixed (1 + r % 5)).vs) := Tups.upd e10 (fun vs z => nomatch z) _ _ upd_same
    have ed11 : upd (upd H9 t' (.tup (Way.fixed (1 + r % 5)).vs)) dd (.dK (upd3 t')) dd = some (.dK (upd3 t')) := upd_same
    have hs11 := S11.at_ _ hcn
    refine ⟨(f c.n).d, dd, (f c.n).kvs, upd3 t', rfl, rfl, n1, hs11.shp.ad, ed11, (by have := hs11.len; show (f c.n).kvs.length + 3 ≤ 1000; omega), ?_⟩
    obtain ⟨o1, o2, o3, o4⟩ := one (s' := ⟨(f c.n).d, t', put3 (f c.n).kvs t', .fixed (1 + r % 5), 0, 400, (f c.n).pad, (f c.n).gap⟩) M11 S11 fr hcn rfl (sh3 hs11 upd_same (Tups.upd hs11.shp.ad (fun vs z => nomatch z) _ _ et11))
    exact ⟨_, _, rfl, o1, tp.trans (tp11.trans o2), o3, o4⟩
  · rintro σ H8 ⟨f, v4, rfl, M8, tp, S8, fr⟩
    have htop : t.n ∈ nmsT t := List.mem_map.mpr ⟨t, self_pre t, rfl⟩
    rw [htn] at htop
    have hs := S8.at_ _ htop
    refine ⟨_, rfl, sd, _, rfl, S8.get htop, (.inr (.inr (.inl ⟨rfl, .inl ⟨_, hs.shp.ad⟩⟩))), fun dd hdd => ⟨small (by simp), fun t' ht' => ?_⟩⟩
    have s9 := (same_upd hdd (.dK [])).trans (same_upd ht' (.tup (Way.hold).vs))
    have M9 := M8.grow s9
    refine ⟨_, rfl, st, 0, rfl, M9.st, fun r H9 _ _ m9 _ => ⟨_, _, rfl, rfl, (by show (0:Int) < 2; decide), _, _, rfl, rfl, ?_⟩⟩
    have ndd : dd ≠ st := M8.st.ne hdd
    have e10 : H9 dd = some (.dK []) := m9.keep _ _ ndd (same_upd ht' _ _ _ upd_same)
    have et10 : H9 t' = some (.tup (Way.hold).vs) := Tups.ms M9.st m9 _ _ upd_same
    have M10 := M9.trans m9
    have S10 := (S8.same s9).ms M9.st m9
    have n1 : (f (Str.ofString "top")).d ≠ dd := fun z => by have := hs.shp.ad; rw [z, hdd] at this; cases this
    have tp10 : Tups H8 H9 := (Tups.of s9).trans (Tups.ms M9.st m9)
    refine ⟨e10, upd2 t' (1 + r % 2), rfl, by show 2 ≤ 15; decide, ?_⟩
    rw [mergeK_nd (upd2_nd t' (1 + r % 2))]
    have M11 : Ms st H (upd H9 dd (.dK (upd2 t' (1 + r % 2)))) := M10.set _ (M8.free hst hdd) ndd
    have n2 : dd ≠ sd := fun z => by have := S8.ad; rw [← z, hdd] at this; cases this
    have n3 : ∀ n ∈ nmsT t, (f n).d ≠ dd := fun n hn z => by have := (S8.at_ n hn).shp.ad; rw [z, hdd] at this; cases this
    have S11 := (Kg.upd (gd := dd) (H := H9) (.dK (upd2 t' (1 + r % 2)))).shs S10 e10 (fun vs z => nomatch z) n2 n3
    have tp11 : Tups H8 (upd H9 dd (.dK (upd2 t' (1 + r % 2)))) := tp10.trans (.upd e10 fun vs z => nomatch z)
    have et11 : upd H9 dd (.dK (upd2 t' (1 + r % 2))) t' = some (.tup (Way.hold).vs) := Tups.upd e10 (fun vs z => nomatch z) _ _ et10
    have hs11 := S11.at_ _ htop
    refine ⟨(f (Str.ofString "top")).d, dd, (f (Str.ofString "top")).kvs, upd2 t' (1 + r % 2), rfl, rfl, n1, hs11.shp.ad, upd_same, (by have := hs11.len; show (f (Str.ofString "top")).kvs.length + 2 ≤ 1000; omega), ?_⟩
    obtain ⟨o1, o2, o3, o4⟩ := one (s' := ⟨(f (Str.ofString "top")).d, t', put2 (f (Str.ofString "top")).kvs t' (1 + r % 2), .hold, (f (Str.ofString "top")).lo, (f (Str.ofString "top")).hi, (f (Str.ofString "top")).pad, 1 + r % 2⟩) M11 S11 fr htop rfl (sh2 hs11 upd_same (Tups.upd hs11.shp.ad (fun vs z => nomatch z) _ _ et11))
    have btE := bt7.tups (tp.trans (tp11.trans o2))
    refine ⟨_, rfl, _, rfl, small (by simp), fun pr hpr => ?_⟩
    exact q pr sd t _ _ (o1.grow (same_upd hpr _)) upd_same (btE.same (same_upd hpr _)) hdp h40 hnd (o3.same (same_upd hpr _))
end
end KP

set_option linter.all false
set_option maxHeartbeats 4000000
set_option maxRecDepth 100000
namespace KP
open PySem L2 PyProof.Rows
section
variable {P : Program} {w : World} {K : PySem.W.Frag} {mg : Str → Option Value} {base : Heap} {A : Adr}
theorem val_mem {kvs : List (Key × V)} (h : (kvs.map (·.1)).Nodup) {kv : Key × V} (hk : kv ∈ kvs) : valV kvs kv.1 = some kv.2 := by
  induction kvs with
  | nil => cases hk
  | cons x r ih =>
    rw [List.map_cons, List.nodup_cons] at h
    unfold valV at ih ⊢
    rw [List.find?_cons]
    by_cases e : x.1 = kv.1
    · rw [decide_eq_true e]
      rcases List.mem_cons.mp hk with rfl | hk
      · rfl
      · exact absurd (List.mem_map.mpr ⟨kv, hk, e.symm⟩) h.1
    · rw [decide_eq_false e]
      rcases List.mem_cons.mp hk with rfl | hk
      · exact absurd rfl e
      · exact ih h.2 hk
theorem alike_needs {H : Hp} {t : Bt} {f : Str → Sh} {g1 g2 : Str → Addr} (h1 : ∀ b ∈ pre t, PrAt H (g1 b.n, N f b)) (h2 : ∀ b ∈ pre t, PrAt H (g2 b.n, N f b)) :
    (dN (nmsT t) g1).length = (dN (psN t) g2).length ∧ ∀ kv ∈ dN (nmsT t) g1, ∃ v', valV (dN (psN t) g2) kv.1 = some v' ∧ AlkD K H kv.2 v' := by
  refine ⟨by rw [List.length_map, List.length_map, List.length_map, List.length_map, post_len], fun kv hkv => ?_⟩
  obtain ⟨n, hn, rfl⟩ := List.mem_map.mp hkv
  obtain ⟨b, hb, rfl⟩ := List.mem_map.mp hn
  exact ⟨.ref (g2 b.n), val_map (α := Unit) (g := fun n => V.ref (g2 n)) (((post_perm _ t (Nat.le_refl _)).map Bt.n).mem_iff.mpr hn), .alk (.tup (.of (h1 b hb)) (.of (h2 b hb)) rfl)⟩
def spLaw (K : PySem.W.Frag) : Sp := fun vs H Q _ => ∃ (a : Addr) (ns : List Int), vs = [.ref a] ∧ SqL K H a (ns.map V.int) ∧ ns.length ≤ 63 ∧ ∀ H', Q (.bl true) H'
abbrev sc_law_0 : Scope := (match defBody s_law with | _ :: _ :: _ :: _ :: _ :: _ :: (.Assign _ (.Call _ ((.ListComp _ _ sc _) :: _) _ _) _) :: _ => sc | _ => defScope s_law)
theorem blk_law_0 : Blk (defScope s_law) N_law sc_law_0 ["_law_name", "_law_shape_here"] [] := ⟨rfl, by decide +kernel, by decide +kernel, by decide +kernel, by decide +kernel⟩
theorem nd_law_0 : (capN N_law ["_law_name", "_law_shape_here"] []).Nodup := by decide +kernel
abbrev sc_law_1 : Scope := (match defBody s_law with | _ :: _ :: _ :: _ :: _ :: _ :: _ :: _ :: (.If (.BoolOp _ (_ :: (.Compare _ _ ((.ListComp _ _ sc _) :: _) _) :: _) _) _ _ _) :: _ => sc | _ => defScope s_law)
theorem blk_law_1 : Blk (defScope s_law) N_law sc_law_1 ["_law_box_here"] [] := ⟨rfl, by decide +kernel, by decide +kernel, by decide +kernel, by decide +kernel⟩
theorem nd_law_1 : (capN N_law ["_law_box_here"] []).Nodup := by decide +kernel
abbrev sc_law_2 : Scope := (match defBody s_law with | _ :: _ :: _ :: _ :: _ :: _ :: _ :: _ :: _ :: (.If (.UnaryOp _ (.Call _ ((.ListComp _ _ sc _) :: _) _ _) _) _ _ _) :: _ => sc | _ => defScope s_law)
theorem blk_law_2 : Blk (defScope s_law) N_law sc_law_2 ["_law_name"] [5, 7] := ⟨rfl, by decide +kernel, by decide +kernel, by decide +kernel, by decide +kernel⟩
theorem nd_law_2 : (capN N_law ["_law_name"] [5, 7]).Nodup := by decide +kernel
seal PE PS PSs PA PT PI PG in
theorem ok_law (T : Txt K mg A) : FnOk P w K mg base CX0 9 A.f_law A.d_law P_law (spLaw K) := by
  have G_l_mix : FnOk P w K mg base CX0 8 A.f_l_mix A.d_l_mix P_l_mix spMix := (ok_mix T).mono (by omega)
  have G_l_cell_at : FnOk P w K mg base CX0 8 A.f_l_cell_at A.d_l_cell_at P_l_cell_at (spCell K) := (ok_cell T).mono (by omega)
  have G_l_names : FnOk P w K mg base CX0 8 A.f_l_names A.d_l_names P_l_names spNamesK := (ok_names T).mono (by omega)
  have G_l_box : FnOk P w K mg base CX0 8 A.f_l_box A.d_l_box P_l_box (spBoxT 5) := (ok_box T 5).mono (by omega)
  have G_l_shapes : FnOk P w K mg base CX0 8 A.f_l_shapes A.d_l_shapes P_l_shapes (spShapes 5) := (ok_shapes T 5).mono (by omega)
  have G_l_needs : FnOk P w K mg base CX0 8 A.f_l_needs A.d_l_needs P_l_needs (spNeeds 5) := (ok_needs T 5).mono (by omega)
  have G_needs_of : FnOk P w K mg base CX0 8 A.f_needs_of A.d_needs_of P_needs_of spNeedsOf := (ok_needs_of T).mono (by omega)
  have G_need_of : FnOk P w K mg base CX0 8 A.f_need_of A.d_need_of P_need_of spNeedOf := (ok_need_of T).mono (by omega)
  have G_l_all : FnOk P w K mg base CX0 8 A.f_l_all A.d_l_all P_l_all (spAll 5) := (ok_all T 5).mono (by omega)
  have G_l_pair_is : FnOk P w K mg base CX0 8 A.f_l_pair_is A.d_l_pair_is P_l_pair_is spPairIs := (ok_pair_is T).mono (by omega)
  have G_l_flow_by : FnOk P w K mg base CX0 8 A.f_l_flow_by A.d_l_flow_by P_l_flow_by spFlowBy := (ok_flow_by T).mono (by omega)
  refine T.F_law.ok sc_law (fun vs H Q E h => ?_) (fun cdv B outer s H vs Q E hr h => ?_)
  · obtain ⟨a, ns, rfl, _⟩ := h; rfl
  obtain ⟨a, ns, rfl, hS, hn, q⟩ := h
  refine ⟨_, @pss_cons _ _ _ _ _ (ps_set (i := 1) sc_law.nd rfl (Or.inl rfl) (pe_lst (pa_cons (pe_op op_add pe_int (pe_op op_mod (pe_call G_l_cell_at hr rfl T.m_l_cell_at T.F_l_cell_at.kp T.b_l_cell_at .nil pass0 (pa_cons (pv 0) (pa_cons pe_int pa_nil))) pe_int)) pa_nil)))
    (@pss_cons _ _ _ _ _ (ps_expr (pe_call G_l_mix hr rfl T.m_l_mix T.F_l_mix.kp T.b_l_mix .nil pass0 (pa_cons (pv 1) (pa_cons (pe_call G_l_cell_at hr rfl T.m_l_cell_at T.F_l_cell_at.kp T.b_l_cell_at .nil pass0 (pa_cons (pv 0) (pa_cons pe_int pa_nil))) pa_nil))))
    (@pss_cons _ _ _ _ _ (ps_set (i := 2) sc_law.nd rfl (Or.inl rfl) (pe_call G_l_names hr rfl T.m_l_names T.F_l_names.kp T.b_l_names .nil pass0 (pa_cons (pv 1) (pa_cons (pe_op op_add pe_int (pe_op op_mod (pe_call G_l_mix hr rfl T.m_l_mix T.F_l_mix.kp T.b_l_mix .nil pass0 (pa_cons (pv 1) (pa_cons pe_int pa_nil))) pe_int)) pa_nil))))
    (@pss_cons _ _ _ _ _ (ps_set (i := 3) sc_law.nd rfl (Or.inl rfl) (pe_call G_l_box hr rfl T.m_l_box T.F_l_box.kp T.b_l_box .nil pass0 (pa_cons (pv 1) (pa_cons (pv 2) (pa_cons pe_int pa_nil)))))
    (@pss_cons _ _ _ _ _ (ps_set (i := 4) sc_law.nd rfl (Or.inl rfl) (pe_call G_l_shapes hr rfl T.m_l_shapes T.F_l_shapes.kp T.b_l_shapes .nil pass0 (pa_cons (pv 1) (pa_cons (pv 3) pa_nil))))
    (@pss_cons _ _ _ _ _ (ps_set (i := 5) sc_law.nd rfl (Or.inr rfl) (pe_call G_l_needs hr rfl T.m_l_needs T.F_l_needs.kp T.b_l_needs .nil pass0 (pa_cons (pv 3) (pa_cons (pv 4) pa_nil))))
    (@pss_cons _ _ _ _ _ (ps_set (i := 6) sc_law.nd rfl (Or.inl rfl) (pe_callTy (call_dictP rfl) rfl T.n_dict b_dict (pa_cons (pe_thaw (pe_comp blk_law_0 rfl (pi_items (pv 4)) (fun _ _ _ _ _ => pg_tupK (K := K) (n := 2) rfl rfl (pgs_cons (pg_name (i := 0) nd_law_0 rfl (.inl rfl)) (pgs_cons (pg_name (i := 1) nd_law_0 rfl (.inl rfl)) pgs_nil)) rfl rfl) (fun _ _ _ _ _ => pif_nil) (fun _ _ _ _ _ => pe_tup (pa_cons (pv 0) (pa_cons (pe_callTy call_dict rfl T.n_dict b_dict (pa_cons (pv 1) pa_nil)) pa_nil))))) pa_nil)))
    (@pss_cons _ _ _ _ _ (ps_set (i := 7) sc_law.nd rfl (Or.inr rfl) (pe_call G_needs_of hr rfl T.m_needs_of T.F_needs_of.kp T.b_needs_of .nil pass0 (pa_cons (pv 3) (pa_cons (pv 4) pa_nil))))
    (@pss_cons _ _ _ _ _ (ps_if (PW.pt (pw_or (pt_not (pt_val (pe_callB call_isi rfl T.n_isinstance b_isinstance (pa_cons (pv 7) (pa_cons (pe_bltn rfl T.n_dict b_dict (v := .ty "dict") rfl) pa_nil))))) (pw_or1 (pt_cmpR (op_neL hr.units0) (pe_callTy (call_listD rfl) rfl T.n_list b_list (pa_cons (pv 7) pa_nil)) (pe_comp blk_law_1 rfl (pi_seq (pe_call G_l_all hr rfl T.m_l_all T.F_l_all.kp T.b_l_all .nil pass0 (pa_cons (pv 3) pa_nil))) (fun _ _ _ _ _ => pg_name (i := 0) nd_law_1 rfl (.inl rfl)) (fun _ _ _ _ _ => pif_nil) (fun _ _ _ _ _ => pe_ix (ix_tupK (K := K) rfl) (pv 0) pe_int (fun _ _ => rfl))) (nomark _))))) (pss_one (ps_ret pe_bl)) pss_nil)
    (@pss_cons _ _ _ _ _ (ps_if (pt_not (pt_val (pe_callB (call_all rfl) rfl T.n_all b_all (pa_cons (pe_thaw (pe_comp blk_law_2 rfl (pi_keys (pv 7)) (fun _ _ _ _ _ => pg_name (i := 0) nd_law_2 rfl (.inl rfl)) (fun _ _ _ _ _ => pif_nil) (fun _ _ _ _ _ => pe_call G_l_pair_is hr rfl T.m_l_pair_is T.F_l_pair_is.kp T.b_l_pair_is .nil pass0 (pa_cons (pe_dget (hu_of hr) (pv 2) (pv 0) (fun _ _ => rfl)) (pa_cons (pe_dget (hu_of hr) (pv 1) (pv 0) (fun _ _ => rfl)) pa_nil))))) pa_nil)))) (pss_one (ps_ret pe_bl)) pss_nil)
    (@pss_cons _ _ _ _ _ (ps_for PassesOwn.never rfl (pi_list (pe_call G_l_all hr rfl T.m_l_all T.F_l_all.kp T.b_l_all .nil pass0 (pa_cons (pv 3) pa_nil))) (pg_name (i := 8) sc_law.nd rfl (Or.inl rfl)) (@pss_cons _ _ _ _ _ (ps_set (i := 9) sc_law.nd rfl (Or.inl rfl) pe_dict0)
    (@pss_cons _ _ _ _ _ (ps_for PassesOwn.never rfl (pi_tup (pe_ix ix_tup (pv 8) pe_int (fun _ _ => rfl))) (pg_name (i := 10) sc_law.nd rfl (Or.inl rfl)) (pss_one (ps_dput (hu_of hr) (pv 9) (pe_ix ix_tup (pv 10) pe_int (fun _ _ => rfl)) (pe_dget (hu_of hr) (pv 5) (pe_ix ix_tup (pv 10) pe_int (fun _ _ => rfl)) (fun _ _ => rfl)) rfl)))
    (pss_one (ps_if (pt_not (pt_val (pe_call G_l_pair_is hr rfl T.m_l_pair_is T.F_l_pair_is.kp T.b_l_pair_is .nil pass0 (pa_cons (pe_call G_need_of hr rfl T.m_need_of T.F_need_of.kp T.b_need_of .nil pass0 (pa_cons (pv 8) (pa_cons (pv 4) (pa_cons (pv 9) pa_nil)))) (pa_cons (pe_dget (hu_of hr) (pv 5) (pe_ix ix_tup (pv 8) pe_int (fun _ _ => rfl)) (fun _ _ => rfl)) pa_nil))))) (pss_one (ps_ret pe_bl)) pss_nil)))))
    (@pss_cons _ _ _ _ _ (ps_expr (pe_bm0 PySem.F.plainAttrs_dict PySem.F.slot_dict_clear PySem.F.type_dict_clear mt_clearD (pv 7)))
    (@pss_cons _ _ _ _ _ (ps_asg (pe_call G_l_flow_by hr rfl T.m_l_flow_by T.F_l_flow_by.kp T.b_l_flow_by .nil pass0 (pa_cons (pv 1) pa_nil)) (pg_tup rfl (pgs_cons (pg_name (i := 11) sc_law.nd rfl (Or.inl rfl)) (pgs_cons (pg_name (i := 12) sc_law.nd rfl (Or.inl rfl)) pgs_nil))))
    (@pss_cons _ _ _ _ _ (ps_if (pt_cmpR (op_neDD hr.units) (pe_call G_needs_of hr rfl T.m_needs_of T.F_needs_of.kp T.b_needs_of .nil pass0 (pa_cons (pv 11) (pa_cons (pv 12) pa_nil))) (pe_call G_l_needs hr rfl T.m_l_needs T.F_l_needs.kp T.b_l_needs .nil pass0 (pa_cons (pv 11) (pa_cons (pv 12) pa_nil))) (nomark _)) (pss_one (ps_ret pe_bl)) pss_nil)
    (pss_one (ps_ret (pe_and (pe_cmpR (op_eqDD hr.units) (pv 4) (pv 6) (nomark _)) (pe_one (pe_cmpR (op_eqDD hr.units) (pe_call G_needs_of hr rfl T.m_needs_of T.F_needs_of.kp T.b_needs_of .nil pass0 (pa_cons (pv 3) (pa_cons (pv 4) pa_nil))) (pv 5) (nomark _))))))))))))))))))), ?_⟩
  refine ⟨_, rfl, a, ns, 0, rfl, hS, hn, by decide, fun c0 => ⟨_, _, rfl, rfl, (by show (0:Int) < 2147483646; decide), _, _, rfl, rfl, small (by simp), fun st hst => ?_⟩⟩
  have hSt := St.mk' (H := H) (st := st) c0
  have s1 : Same H (upd H st (.lst [.int (1 + c0 % 2147483646)])) := same_upd hst _
  generalize upd H st (.lst [.int (1 + c0 % 2147483646)]) = H1 at hSt s1 ⊢
  have hS1 := s1.seq hS
  refine ⟨_, rfl, _, rfl, a, ns, 1, rfl, hS1, hn, by decide, fun c1 => ⟨st, c1, rfl, hSt, fun r H2 _ _ m2 _ => ?_⟩⟩
  refine ⟨_, rfl, _, rfl, st, 0, rfl, m2.st, fun r3 H3 r0 r1 m3 _ => ⟨_, _, rfl, rfl, (by show (0:Int) < 12; decide), _, _, rfl, rfl, st, (1 + r3 % 12).toNat, (by rw [Int.toNat_of_nonneg (by omega)]; rfl), m3.st, by omega, fun nl nms H4 fnl m4 enl ln nd h8 => ?_⟩⟩
  refine ⟨_, rfl, _, rfl, st, nl, nms, 0, rfl, ⟨.refl _ _ _, m4.st, enl⟩, (fun z => by rw [z] at ln; simp at ln; omega), by omega, by decide, by decide, by decide, fun t rest H5 b5 en bt dt => ?_⟩
  have hnd : (nmsT t).Nodup := by rw [en] at nd; exact (List.nodup_append.mp nd).1
  have h12 : (pre t).length ≤ 12 := by
    have := congrArg List.length en
    rw [List.length_append, List.length_map] at this; omega
  refine ⟨_, rfl, _, rfl, st, t, rfl, b5.st, bt, dt, by omega, hnd, fun sd f H6 m6 fsd S hfr => ?_⟩
  have bt6 := bt.tups (.ms b5.st m6)
  have hns : ∀ b ∈ pre t, b.n ∈ nmsT t := fun b hb => List.mem_map.mpr ⟨b, hb, rfl⟩
  refine ⟨_, rfl, _, rfl, t, sd, nmsT t, f, rfl, bt6, dt, S, hns, by omega, hnd, fun due g H7 fdue s7 e7 p7 => ?_⟩
  have bt7 := bt6.same s7
  have S7 := S.same s7
  have fHsd : H5 sd = none := fsd
  have fH : ∀ b, H5 b = none → H b = none := fun b hb => by
    cases e : H b with
    | none => rfl
    | some o =>
      by_cases z : b = st
      · rw [z] at e; rw [hst] at e; cases e
      by_cases z2 : b = nl
      · have : H nl = none := by
          cases e3 : H nl with
          | none => rfl
          | some o' =>
            have := (Ms.of hSt (fun _ _ h => h) |>.trans (m2.trans m3)).keep nl o' (fun z => by rw [z, hst] at e3; cases e3) (s1 _ _ e3)
            rw [fnl] at this; cases this
        rw [z2, this] at e; cases e
      have h4 := (m2.trans (m3.trans m4)).keep b o z (s1 _ _ e)
      rw [b5.kp b o z z2 h4] at hb; cases hb
  have sdH : ∀ o u, H sd ≠ some (.frz o u) := fun o u z => by rw [fH sd fHsd] at z; cases z
  -- what is kept
  refine ⟨_, rfl, sd, _, rfl, S7.ad, fun o => blk_any (nmsT t).length (fun i acc H' => ∃ (ts : List Addr) (cp : Str → Addr), acc = ts.map V.ref ∧ ts.length = i ∧ (∀ b u, b ≠ sd → H7 b = some u → H' b = some u) ∧ H' sd = some (.frz o (.dK ((nmsT t).map fun n => (Sum.inr n, V.ref (f n).d)))) ∧ PrsAt H' ts (dN ((nmsT t).take i) cp) ∧ (∀ n ∈ (nmsT t).take i, H' (cp n) = some (.dK (f n).kvs) ∧ cp n ≠ sd ∧ H7 (cp n) = none) ∧ i ≤ 12)
    ⟨[], fun _ => 0, rfl, rfl, fun b u n e => by rw [upd_ne n]; exact e, upd_same, .nil, fun n h => (by simp at h), by omega⟩ (fun i acc H' ⟨ts, _, ea, el, _, _, _, _, h⟩ => ?_) (fun i acc H' hi ⟨_, _, _, _, _, e, _⟩ => ⟨e, by rw [List.length_map]; exact hi⟩) (fun acc H' ⟨_, _, _, _, _, e, _⟩ => ⟨e, by rw [List.length_map]; exact Nat.le_refl _⟩) (fun i x acc H' H'' R k hi z y => ?_) fun acc H' z => ?_⟩
  · rw [ea, List.length_map, el]; exact small1000 (by omega)
  · obtain ⟨ts, cp, rfl, el, kp, ef, pr, hc, h12'⟩ := z
    obtain ⟨Ta, kv, rfl, hT, rfl, hkv⟩ := y
    rw [List.getElem?_map] at hkv
    cases hn : (nmsT t)[i]? with
    | none => rw [hn] at hkv; cases hkv
    | some n =>
    rw [hn] at hkv
    cases hkv
    have hnm := List.mem_of_getElem? hn
    have hnew := new_at hnd hn
    have hs := S7.at_ n hnm
    have s8 := same_upd hT (.tup [kV (Sum.inr n), V.ref (f n).d])
    refine ⟨_, _, rfl, .of upd_same, rfl, _, _, rfl, _, _, rfl, rfl, wk_twoP _ _ _ _ _ _, ?_⟩
    dsimp only [tYes]; rw [if_pos rfl]
    refine ⟨_, rfl, _, rfl, (f n).d, (f n).kvs, rfl, s8 _ _ (kp _ _ (S7.ne n hnm) hs.shp.ad), fun p hp => ⟨small (by simp), fun tt ht => ?_⟩⟩
    have s9 := s8.trans ((same_upd hp (.dK (f n).kvs)).trans (same_upd ht (.tup [kV (Sum.inr n), V.ref p])))
    have fp : H' p = none := by
      cases e : H' p with
      | none => rfl
      | some u => rw [s8 _ _ e] at hp; cases hp
    have np : p ≠ sd := fun z => by rw [z, ef] at fp; cases fp
    have ep : upd (upd (upd H' Ta (.tup [kV (Sum.inr n), V.ref (f n).d])) p (.dK (f n).kvs)) tt (.tup [kV (Sum.inr n), V.ref p]) p = some (.dK (f n).kvs) := same_upd ht _ _ _ upd_same
    let cp' : Str → Addr := fun m => if m = n then p else cp m
    have ce : cp' n = p := if_pos rfl
    have co : ∀ m ∈ (nmsT t).take i, cp' m = cp m := fun m hm => if_neg fun z => hnew (by rw [← z]; exact hm)
    refine k _ _ ⟨ts ++ [tt], cp', by rw [List.map_append]; rfl, by rw [List.length_append, el]; rfl, fun b u nb e => s9 _ _ (kp b u nb e), s9 _ _ ef, ?_, fun m hm => ?_, ?_⟩
    · have e2 : dN ((nmsT t).take (i + 1)) cp' = dN ((nmsT t).take i) cp ++ [(Sum.inr n, V.ref p)] := by
        rw [take_snoc hn, dN, List.map_append]
        congr 1
        · exact List.map_congr_left fun m hm => by rw [co m hm]
        · show [((Sum.inr n : Key), V.ref (cp' n))] = _; rw [ce]
      rw [e2]
      exact (pr.same fun b xs e => s9 _ _ e).append (.cons upd_same .nil)
    · rw [take_snoc hn] at hm
      rcases List.mem_append.mp hm with hm | hm
      · rw [co m hm]; exact ⟨s9 _ _ (hc m hm).1, (hc m hm).2⟩
      · rw [List.mem_singleton.mp hm, ce]
        refine ⟨ep, np, ?_⟩
        cases e : H7 p with
        | none => rfl
        | some u => rw [kp p u np e] at fp; cases fp
    · have := (List.getElem?_eq_some_iff.mp hn).1
      rw [List.length_map] at this; omega
  obtain ⟨ts, cp, rfl, el, kp, ef, pr, hc, _⟩ := z
  rw [List.take_of_length_le (Nat.le_refl _)] at pr hc
  intro l hl
  refine ⟨sd, o, _, same_upd hl _ _ _ ef, sdH, ?_⟩
  have s8 : Same H7 (upd (upd H' l (.lst (ts.map V.ref))) sd (.dK ((nmsT t).map fun n => (Sum.inr n, V.ref (f n).d)))) := fun b u e => by
    by_cases z : b = sd
    · rw [z] at e ⊢; rw [S7.ad] at e; rw [upd_same]; exact e
    · rw [upd_ne z]; exact same_upd hl _ _ _ (kp b u z e)
  have nls : l ≠ sd := fun z => by rw [z, ef] at hl; cases hl
  have el8 : upd (upd H' l (.lst (ts.map V.ref))) sd (.dK ((nmsT t).map fun n => (Sum.inr n, V.ref (f n).d))) l = some (.lst (ts.map V.ref)) := by rw [upd_ne nls]; exact upd_same
  have pr8 : PrsAt (upd (upd H' l (.lst (ts.map V.ref))) sd (.dK ((nmsT t).map fun n => (Sum.inr n, V.ref (f n).d)))) ts (dN (nmsT t) cp) := pr.same fun b xs e => by
    rw [upd_ne (fun z => by rw [z, ef] at e; cases e)]; exact same_upd hl _ _ _ e
  have hc8 : ∀ n ∈ nmsT t, upd (upd H' l (.lst (ts.map V.ref))) sd (.dK ((nmsT t).map fun n => (Sum.inr n, V.ref (f n).d))) (cp n) = some (.dK (f n).kvs) := fun n hn => by
    rw [upd_ne (hc n hn).2.1]; exact same_upd hl _ _ _ (hc n hn).1
  generalize upd (upd H' l (.lst (ts.map V.ref))) sd (.dK ((nmsT t).map fun n => (Sum.inr n, V.ref (f n).d))) = H8 at s8 el8 pr8 hc8 ⊢
  clear nls hl hc pr ef kp
  refine ⟨l, ts, _, rfl, el8, pr8, by rw [List.length_map, List.length_map]; omega, fun kept hkept => ?_⟩
  have hk : ((dN (nmsT t) cp).map (·.1)).Nodup := by
    rw [List.map_map]
    exact List.pairwise_map.mpr (List.Pairwise.imp (fun h z => h (by injection z)) hnd)
  rw [mergeK_nd hk]
  have s9 := s8.trans (same_upd hkept (.dK (dN (nmsT t) cp)))
  have ek9 : upd H8 kept (.dK (dN (nmsT t) cp)) kept = some (.dK (dN (nmsT t) cp)) := upd_same
  have hc9 : ∀ n ∈ nmsT t, upd H8 kept (.dK (dN (nmsT t) cp)) (cp n) = some (.dK (f n).kvs) := fun n hn => same_upd hkept _ _ _ (hc8 n hn)
  generalize upd H8 kept (.dK (dN (nmsT t) cp)) = H9 at s9 ek9 hc9 ⊢
  clear hkept hc8 pr8 el8 s8
  -- what the program tells
  refine ⟨_, rfl, _, rfl, t, sd, nmsT t, f, rfl, bt7.same s9, S7.same s9, hns, by omega, hnd, fun got gg H10 fgot s10 e10 p10 => ?_⟩
  have sA := s9.trans s10
  refine ⟨_, rfl, _, "dict", _, true, rfl, .dK e10, ?_, _, rfl, iteF ?_⟩
  · unfold PySem.W.kitOne; rfl
  refine ⟨_, rfl, got, _, rfl, e10, fun l1 hl1 => ?_⟩
  have sB := same_upd hl1 (.lst ((dN (nmsT t) gg).map fun kv => kV kv.1))
  refine ⟨_, rfl, t, rfl, (bt7.same sA).same sB, dt, by omega, fun l2 H11 fl2 s11 e11 => ⟨l2, rfl, blk_map (fun c : Bt => V.str c.n) (fun c => V.ref c.a) (.inl (.of e11)) (small1000 (by omega)) (fun c hcm Q hQ => ?_) fun l3 hl3 => ?_⟩⟩
  · obtain ⟨tg, kt, c1, c2⟩ := (((bt7.same sA).same sB).same s11 c hcm).ex
    exact ⟨_, rfl, c.a, _, _, _, rfl, rfl, .of c1, rfl, hQ⟩
  have exs : ((dN (nmsT t) gg).map fun kv => kV kv.1) = (pre t).map fun c => V.str c.n := by rw [List.map_map, List.map_map]; rfl
  have flat : ((pre t).map fun c => V.str c.n).all flatV = true := List.all_eq_true.mpr fun v hv => by obtain ⟨c, _, rfl⟩ := List.mem_map.mp hv; rfl
  have eqs : ∀ xs : List Bt, eqVs (xs.map fun c => V.str c.n) (xs.map fun c => V.str c.n) = true := by
    intro xs
    induction xs with
    | nil => rfl
    | cons x r ih => rw [List.map_cons, eqVs, ih]; simp [eqV]
  refine ⟨l1, l3, _, _, rfl, rfl, .of (same_upd hl3 _ _ _ (s11 _ _ (by rw [upd_same, exs]))), .of upd_same, flat, flat, ?_⟩
  refine ⟨_, rfl, ite_no (by rw [eqVs_refl flat]; rfl) ?_⟩
  have sC := sA.trans (sB.trans (s11.trans (same_upd hl3 (.lst ((pre t).map fun c => V.str c.n)))))
  have sD := sB.trans (s11.trans (same_upd hl3 (.lst ((pre t).map fun c => V.str c.n))))
  have eG := sD _ _ e10
  have pG : ∀ b ∈ pre t, PrAt _ (gg b.n, N f b) := fun b hb => sD _ _ (p10 b hb)
  have sE := s10.trans sD
  generalize upd H11 l3 (.lst ((pre t).map fun c => V.str c.n)) = H12 at sC sD eG pG sE ⊢
  clear flat exs hl3 e11 s11 fl2 hl1 sB
  have nG : ∀ b u, H9 b = some u → b ≠ got := fun b u e z => by rw [z, fgot] at e; cases e
  have gH : H got = none := by
    refine fH got (m6.free b5.st ?_)
    cases e : H6 got with
    | none => rfl
    | some u => rw [s9 _ _ (s7 _ _ e)] at fgot; cases fgot
  have gdH : ∀ o u, H got ≠ some (.frz o u) := fun o u z => by rw [gH] at z; cases z
  have e7' := s9 _ _ e7
  have p7' : ∀ b ∈ pre t, PrAt H9 (g b.n, N f b) := fun b hb => s9 _ _ (p7 b hb)
  have valP : ∀ n ∈ nmsT t, valV (dN (psN t) g) (.inr n) = some (.ref (g n)) := fun n hn => val_map (α := Unit) (g := fun n => V.ref (g n)) (((post_perm _ t (Nat.le_refl _)).map Bt.n).mem_iff.mpr hn)
  refine ⟨_, rfl, got, _, rfl, eG, fun o => blk_keys (fun i acc H' => H' = upd H12 got (.frz o (.dK (dN (nmsT t) gg))) ∧ acc = (List.replicate i true).map V.bl ∧ i ≤ 12) ⟨rfl, rfl, by omega⟩ (fun i acc H' z => by rw [z.1, upd_same]) (fun i acc H' z => ?_) (fun i kv acc H' R k hkv z => ?_) fun acc H' z => ?_⟩
  · rw [z.2.1, List.length_map, List.length_replicate]; exact small1000 (by have := z.2.2; omega)
  · obtain ⟨rfl, rfl, h⟩ := z
    rw [List.getElem?_map] at hkv
    cases hn : (nmsT t)[i]? with
    | none => rw [hn] at hkv; cases hkv
    | some n =>
    rw [hn] at hkv
    cases hkv
    have hnm := List.mem_of_getElem? hn
    obtain ⟨b, hb, rfl⟩ := List.mem_map.mp hnm
    have il := (List.getElem?_eq_some_iff.mp hn).1
    rw [List.length_map] at il
    dsimp only [tYes]; rw [if_pos rfl]
    have tpf : ∀ a xs, H12 a = some (.tup xs) → upd H12 got (.frz o (.dK (dN (nmsT t) gg))) a = some (.tup xs) := fun a xs e => by rw [upd_ne (fun z => by rw [z, eG] at e; cases e)]; exact e
    refine ⟨_, rfl, _, rfl, got, _, rfl, .inl ⟨_, .inr b.n, .inr ⟨o, upd_same⟩, rfl, (val_map (α := Unit) (g := fun n => V.ref (gg n)) hnm).symm⟩, _, rfl, _, rfl, due, _, rfl, dget_s (by rw [upd_ne (nG _ _ e7')]; exact sE _ _ e7') (valP _ hnm), gg b.n, g b.n, N f b, rfl, tpf _ _ (pG b hb), tpf _ _ (sE _ _ (p7' b hb)), k _ _ ⟨rfl, ?_, by omega⟩⟩
    rw [List.replicate_succ', List.map_append]; rfl
  obtain ⟨rfl, rfl, _⟩ := z
  intro al hal
  refine ⟨got, o, _, same_upd hal _ _ _ upd_same, gdH, al, List.replicate (dN (nmsT t) gg).length true, rfl, ?_, _, rfl, ?_⟩
  · refine .of ?_
    rw [upd_ne (fun z => by rw [z, upd_same] at hal; cases hal), upd_same]
  have nal : al ≠ got := fun z => by rw [z, upd_same] at hal; cases hal
  have hal' : H12 al = none := by rw [upd_ne nal] at hal; exact hal
  have sF : Same H12 (upd (upd (upd H12 got (.frz o (.dK (dN (nmsT t) gg)))) al (.lst ((List.replicate (dN (nmsT t) gg).length true).map V.bl))) got (.dK (dN (nmsT t) gg))) := fun b u e => by
    by_cases z : b = got
    · rw [z] at e ⊢; rw [eG] at e; rw [upd_same]; exact e
    · rw [upd_ne z, upd_ne (fun z => by rw [z, hal'] at e; cases e), upd_ne z]; exact e
  rw [show (List.replicate (dN (nmsT t) gg).length true).all id = true from List.all_eq_true.mpr fun x hx => by rw [(List.mem_replicate.mp hx).2]; rfl]
  refine iteF ?_
  generalize upd (upd (upd H12 got (.frz o (.dK (dN (nmsT t) gg)))) al (.lst ((List.replicate (dN (nmsT t) gg).length true).map V.bl))) got (.dK (dN (nmsT t) gg)) = H13 at sF ⊢
  have sG := sE.trans sF
  have eG' := sF _ _ eG
  have bt9 := bt7.same s9
  have S9 := S7.same s9
  clear sF sE sD sC pG eG hal hal' nal
  -- each box alone
  refine ⟨_, rfl, t, rfl, bt9.same sG, dt, by omega, fun l5 H14 fl5 s14 e14 => ?_⟩
  have sH := sG.trans s14
  have eG4 := s14 _ _ eG'
  refine ⟨l5, rfl, ⟨_, .of e14⟩, for_list (K := K) (a := l5) (xs := rfs (pre t)) (fun i σ H' => ∃ v8 v9 v10 : Option V, σ = [some (.ref a), some (.ref st), some (.ref nl), some (.ref t.a), some (.ref sd), some (.ref due), some (.ref kept), some (.ref got), v8, v9, v10, none, none] ∧ Same H14 H')
    ⟨none, none, none, rfl, .refl _⟩ (fun i σ H' _ ⟨_, _, _, _, s⟩ => .of (s _ _ e14)) ?_ ?_⟩
  · rintro i x σ H15 hx ⟨v8, v9, v10, rfl, s15⟩
    obtain ⟨c, hc, rfl⟩ := rfs_at hx
    have hcm := List.mem_of_getElem? hc
    have sI := sH.trans s15
    refine fun nd hnd0 => ?_
    have s16 := same_upd hnd0 (.dK [])
    obtain ⟨tg, kt, c1, c2⟩ := ((bt9.same sI) c hcm).ex
    refine ⟨_, rfl, c.a, _, _, _, rfl, rfl, .of (s16 _ _ c1), rfl, kt, rfl, ⟨_, .of (s16 _ _ c2)⟩, for_tup (K := K) (a := kt) (xs := rfs c.ks) (fun j σ H' => ∃ (kvs : List (Key × V)) (v10 : Option V), σ = [some (.ref a), some (.ref st), some (.ref nl), some (.ref t.a), some (.ref sd), some (.ref due), some (.ref kept), some (.ref got), some (.ref c.a), some (.ref nd), v10, none, none] ∧ Same H15 H' ∧ H' nd = some (.dK kvs) ∧ kvs.length ≤ j ∧ ∀ k ∈ c.ks.take j, valV kvs (.inr k.n) = some (.ref (g k.n)))
      ⟨[], v10, rfl, s16, upd_same, Nat.le_refl _, fun k h => (by simp at h)⟩ (fun j σ H' _ ⟨_, _, _, s, _⟩ => .of (s _ _ c2)) ?_ ?_⟩
    · rintro j x σ H16 hx ⟨kvs, v10, rfl, s16, e16, l16, h16⟩
      obtain ⟨k, hk, rfl⟩ := rfs_at hx
      have hkm := List.mem_of_getElem? hk
      have hkp : k ∈ pre t := pre_trans _ (Nat.le_refl _) hcm (by rw [pre_eq]; exact List.mem_cons_of_mem _ (kid_pre hkm))
      obtain ⟨tg', kt', k1, k2⟩ := ((bt9.same (sI.trans s16)) k hkp).ex
      have hj : j < c.ks.length := (List.getElem?_eq_some_iff.mp hk).1
      have hk40 : c.ks.length ≤ 12 := Nat.le_trans (ks_le hcm) h12
      refine ⟨_, rfl, _, rfl, k.a, _, _, _, rfl, rfl, .of k1, rfl, due, _, rfl, dget_s ((sI.trans s16) _ _ e7') (valP _ (hns k hkp)), _, rfl, _, rfl, k.a, _, _, _, rfl, rfl, .of k1, rfl, nd, _, rfl, dput_s e16 (by omega), ?_⟩
      refine ⟨putK kvs (.inr k.n) (.ref (g k.n)), _, rfl, fun b u e => by rw [upd_ne (ne_of_none e hnd0)]; exact s16 _ _ e, upd_same, by have := length_putK kvs (.inr k.n) (.ref (g k.n)); omega, fun m hm => ?_⟩
      rw [valV_put]
      by_cases e : (Sum.inr m.n : Key) = .inr k.n
      · rw [if_pos e]; injection e with e; rw [e]
      · rw [if_neg e]
        rw [take_snoc hk] at hm
        rcases List.mem_append.mp hm with hm | hm
        · exact h16 m hm
        · rw [List.mem_singleton.mp hm] at e; exact absurd rfl e
    · rintro σ H16 ⟨kvs, v10, rfl, s16, e16, l16, h16⟩
      rw [List.length_map, List.take_of_length_le (Nat.le_refl _)] at h16
      have sJ := sI.trans s16
      have hk40 : c.ks.length ≤ 12 := Nat.le_trans (ks_le hcm) h12
      have kin : ∀ k ∈ c.ks, k ∈ pre t := fun k hkm => pre_trans _ (Nat.le_refl _) hcm (by rw [pre_eq]; exact List.mem_cons_of_mem _ (kid_pre hkm))
      refine ⟨_, rfl, _, rfl, _, rfl, c, sd, nd, nmsT t, f, kvs, g, rfl, (bt9.same sJ) c hcm, S9.same sJ, hns c hcm, e16, ⟨fun k hk => (bt9.same sJ) k (kin k hk), h16, fun k hk => sJ _ _ (p7' k (kin k hk))⟩, by omega, fun a' H17 fa s17 e17 => ?_⟩
      have sK := sJ.trans s17
      refine ⟨_, rfl, _, rfl, c.a, _, _, _, rfl, rfl, .of (s17 _ _ (s16 _ _ c1)), rfl, due, _, rfl, dget_s (sK _ _ e7') (valP _ (hns c hcm)), a', g c.n, N f c, rfl, e17, sK _ _ (p7' c hcm), _, rfl, iteF ?_⟩
      exact ⟨_, _, _, rfl, s15.trans (s16.trans s17)⟩
  · rintro σ H15 ⟨v8, v9, v10, rfl, s15⟩
    have sI := sH.trans s15
    have eG5 := s15 _ _ eG4
    have st9 : St st H9 := let ⟨x, a, b⟩ := m6.st; ⟨x, s9 _ _ (s7 _ _ a), b⟩
    refine ⟨_, rfl, (.inr (.inr (.inl ⟨rfl, .inl ⟨_, eG5⟩⟩))), got, _, rfl, rfl, eG5, ?_⟩
    have kH : ∀ b u, H9 b = some u → upd H15 got (.dK []) b = some u := fun b u e => by rw [upd_ne (nG _ _ e)]; exact sI _ _ e
    have stH : St st (upd H15 got (.dK [])) := let ⟨x, a, b⟩ := st9; ⟨x, kH _ _ a, b⟩
    generalize upd H15 got (.dK []) = H16 at kH stH ⊢
    refine ⟨_, rfl, st, rfl, stH, fun pr sd2 t2 f2 H17 m17 epr bt2 dt2 h402 hnd2 S2 => ?_⟩
    refine ⟨_, _, rfl, .of epr, rfl, _, _, rfl, _, _, rfl, rfl, ?_⟩
    have hns2 : ∀ b ∈ pre t2, b.n ∈ nmsT t2 := fun b hb => List.mem_map.mpr ⟨b, hb, rfl⟩
    have k17 : ∀ b u, H9 b = some u → b ≠ st → H17 b = some u := fun b u e n => m17.keep b u n (kH b u e)
    have dst : ∀ b kvs, H9 b = some (.dK kvs) → b ≠ st := fun b kvs e z => by obtain ⟨x, a, _⟩ := st9; rw [z, a] at e; cases e
    have tst : ∀ b vs, H9 b = some (.tup vs) → b ≠ st := fun b vs e z => by obtain ⟨x, a, _⟩ := st9; rw [z, a] at e; cases e
    have tp17 : Tups H9 H17 := fun b vs e => k17 b _ e (tst b vs e)
    have S17 : Shs H17 sd (nmsT t) f := ⟨k17 _ _ S9.ad (dst _ _ S9.ad), fun n hn => (S9.at_ n hn).keep fun b o hb e => k17 b o e (by
      rcases hb with rfl | rfl
      · exact dst _ _ (S9.at_ n hn).shp.ad
      · exact tst _ _ (S9.at_ n hn).shp.tup), S9.inj, S9.ne⟩
    have bt17 := bt9.tups tp17
    have e717 := k17 _ _ e7' (dst _ _ e7')
    have p717 : ∀ b ∈ pre t, PrAt H17 (g b.n, N f b) := fun b hb => tp17 _ _ (p7' b hb)
    have ek17 := k17 _ _ ek9 (dst _ _ ek9)
    have hc17 : ∀ n ∈ nmsT t, H17 (cp n) = some (.dK (f n).kvs) := fun n hn => k17 _ _ (hc9 n hn) (dst _ _ (hc9 n hn))
    refine ⟨_, rfl, _, rfl, t2, sd2, nmsT t2, f2, rfl, bt2, S2, hns2, h402, hnd2, fun x1 g1 H18 fx1 s18 e18 p18 => ?_⟩
    refine ⟨_, rfl, _, rfl, t2, sd2, nmsT t2, f2, rfl, bt2.same s18, by omega, S2.same s18, hns2, h402, hnd2, fun x2 g2 H19 fx2 s19 e19 p19 => ?_⟩
    obtain ⟨al1, al2⟩ := alike_needs (K := K) (fun b hb => s19 _ _ (p18 b hb)) p19
    refine ⟨x1, x2, _, _, rfl, rfl, s19 _ _ e18, e19, al1, al2, _, rfl, ite_no rfl ?_⟩
    have s20 := s18.trans s19
    have S20 := S17.same s20
    refine ⟨_, rfl, _, rfl, sd, kept, _, _, rfl, rfl, S20.ad, s20 _ _ ek17, (List.length_map _).trans (List.length_map _).symm, fun kv hkv => ?_, ?_⟩
    · obtain ⟨n, hn, rfl⟩ := List.mem_map.mp hkv
      have hs := S20.at_ n hn
      exact ⟨.ref (cp n), val_map (α := Unit) (g := fun n => V.ref (cp n)) hn, .dic hs.shp.ad (s20 _ _ (hc17 n hn)) rfl fun kv' hk' => ⟨kv'.2, val_mem hs.nd hk', .same (hs.pl kv' hk')⟩⟩
    refine ⟨_, rfl, ite_yes rfl ?_⟩
    refine ⟨_, rfl, _, rfl, t, sd, nmsT t, f, rfl, bt17.same s20, S20, hns, by omega, hnd, fun x3 g3 H21 fx3 s21 e21 p21 => ?_⟩
    obtain ⟨al3, al4⟩ := alike_needs (K := K) p21 (fun b hb => s21 _ _ (s20 _ _ (p717 b hb)))
    exact ⟨_, rfl, x3, due, _, _, rfl, rfl, e21, s21 _ _ (s20 _ _ e717), al3, al4, q _⟩
end
end KP

set_option Elab.async false
set_option linter.all false
set_option maxHeartbeats 4000000
set_option maxRecDepth 100000
namespace KP
open PySem L2 PyProof.Rows
theorem txt_mk {K : PySem.W.Frag} {h : Heap} {mg : Str → Option Value} (X : K.In h) (G : h.Ns mainGlobals mg)
    {f1 : Addr} {od1 an1 : Option Addr} {sl1 : Array (Option Value)} {oc1 kV1 dc1 pm1 cd1 ct1 : Value}
    {f2 : Addr} {od2 an2 : Option Addr} {sl2 : Array (Option Value)} {oc2 kV2 dc2 pm2 cd2 ct2 : Value}
    {f3 : Addr} {od3 an3 : Option Addr} {sl3 : Array (Option Value)} {oc3 kV3 dc3 pm3 cd3 ct3 : Value}
    {f4 : Addr} {od4 an4 : Option Addr} {sl4 : Array (Option Value)} {oc4 kV4 dc4 pm4 cd4 ct4 : Value}
    {f5 : Addr} {od5 an5 : Option Addr} {sl5 : Array (Option Value)} {oc5 kV5 dc5 pm5 cd5 ct5 : Value}
    {f6 : Addr} {od6 an6 : Option Addr} {sl6 : Array (Option Value)} {oc6 kV6 dc6 pm6 cd6 ct6 : Value}
    {f7 : Addr} {od7 an7 : Option Addr} {sl7 : Array (Option Value)} {oc7 kV7 dc7 pm7 cd7 ct7 : Value}
    {f8 : Addr} {od8 an8 : Option Addr} {sl8 : Array (Option Value)} {oc8 kV8 dc8 pm8 cd8 ct8 : Value}
    {f9 : Addr} {od9 an9 : Option Addr} {sl9 : Array (Option Value)} {oc9 kV9 dc9 pm9 cd9 ct9 : Value}
    {f10 : Addr} {od10 an10 : Option Addr} {sl10 : Array (Option Value)} {oc10 kV10 dc10 pm10 cd10 ct10 : Value}
    {f11 : Addr} {od11 an11 : Option Addr} {sl11 : Array (Option Value)} {oc11 kV11 dc11 pm11 cd11 ct11 : Value}
    {f12 : Addr} {od12 an12 : Option Addr} {sl12 : Array (Option Value)} {oc12 kV12 dc12 pm12 cd12 ct12 : Value}
    {f13 : Addr} {od13 an13 : Option Addr} {sl13 : Array (Option Value)} {oc13 kV13 dc13 pm13 cd13 ct13 : Value}
    {f14 : Addr} {od14 an14 : Option Addr} {sl14 : Array (Option Value)} {oc14 kV14 dc14 pm14 cd14 ct14 : Value}
    {f15 : Addr} {od15 an15 : Option Addr} {sl15 : Array (Option Value)} {oc15 kV15 dc15 pm15 cd15 ct15 : Value}
    {f16 : Addr} {od16 an16 : Option Addr} {sl16 : Array (Option Value)} {oc16 kV16 dc16 pm16 cd16 ct16 : Value}
    {f17 : Addr} {od17 an17 : Option Addr} {sl17 : Array (Option Value)} {oc17 kV17 dc17 pm17 cd17 ct17 : Value}
    {f18 : Addr} {od18 an18 : Option Addr} {sl18 : Array (Option Value)} {oc18 kV18 dc18 pm18 cd18 ct18 : Value}
    {f19 : Addr} {od19 an19 : Option Addr} {sl19 : Array (Option Value)} {oc19 kV19 dc19 pm19 cd19 ct19 : Value}
    {f20 : Addr} {od20 an20 : Option Addr} {sl20 : Array (Option Value)} {oc20 kV20 dc20 pm20 cd20 ct20 : Value}
    {f21 : Addr} {od21 an21 : Option Addr} {sl21 : Array (Option Value)} {oc21 kV21 dc21 pm21 cd21 ct21 : Value}
    {f22 : Addr} {od22 an22 : Option Addr} {sl22 : Array (Option Value)} {oc22 kV22 dc22 pm22 cd22 ct22 : Value}
    {f23 : Addr} {od23 an23 : Option Addr} {sl23 : Array (Option Value)} {oc23 kV23 dc23 pm23 cd23 ct23 : Value}
    (a1 : PySem.W.nsIn K mainGlobals "boxes_of" = some (some (.ref f1))) (l1 : K.lookup f1 = some ⟨oc1, od1, .func (PySem.W.fnOf "boxes_of" "boxes_of" (defArgs s_boxes_of) (defBody s_boxes_of) (defScope s_boxes_of) .none kV1 dc1 pm1 an1 cd1 ct1), sl1⟩) (c1 : PySem.W.codeIn K cd1 "boxes_of" = true) (k1 : PySem.W.keepIn K (.ref f1) = true)
    (a2 : PySem.W.nsIn K mainGlobals "limited" = some (some (.ref f2))) (l2 : K.lookup f2 = some ⟨oc2, od2, .func (PySem.W.fnOf "limited" "limited" (defArgs s_limited) (defBody s_limited) (defScope s_limited) .none kV2 dc2 pm2 an2 cd2 ct2), sl2⟩) (c2 : PySem.W.codeIn K cd2 "limited" = true) (k2 : PySem.W.keepIn K (.ref f2) = true)
    (a3 : PySem.W.nsIn K mainGlobals "gaps_of" = some (some (.ref f3))) (l3 : K.lookup f3 = some ⟨oc3, od3, .func (PySem.W.fnOf "gaps_of" "gaps_of" (defArgs s_gaps_of) (defBody s_gaps_of) (defScope s_gaps_of) .none kV3 dc3 pm3 an3 cd3 ct3), sl3⟩) (c3 : PySem.W.codeIn K cd3 "gaps_of" = true) (k3 : PySem.W.keepIn K (.ref f3) = true)
    (a4 : PySem.W.nsIn K mainGlobals "limited_wide" = some (some (.ref f4))) (l4 : K.lookup f4 = some ⟨oc4, od4, .func (PySem.W.fnOf "limited_wide" "limited_wide" (defArgs s_limited_wide) (defBody s_limited_wide) (defScope s_limited_wide) .none kV4 dc4 pm4 an4 cd4 ct4), sl4⟩) (c4 : PySem.W.codeIn K cd4 "limited_wide" = true) (k4 : PySem.W.keepIn K (.ref f4) = true)
    (a5 : PySem.W.nsIn K mainGlobals "words_needs" = some (some (.ref f5))) (l5 : K.lookup f5 = some ⟨oc5, od5, .func (PySem.W.fnOf "words_needs" "words_needs" (defArgs s_words_needs) (defBody s_words_needs) (defScope s_words_needs) .none kV5 dc5 pm5 an5 cd5 ct5), sl5⟩) (c5 : PySem.W.codeIn K cd5 "words_needs" = true) (k5 : PySem.W.keepIn K (.ref f5) = true)
    (a6 : PySem.W.nsIn K mainGlobals "kids_needs" = some (some (.ref f6))) (l6 : K.lookup f6 = some ⟨oc6, od6, .func (PySem.W.fnOf "kids_needs" "kids_needs" (defArgs s_kids_needs) (defBody s_kids_needs) (defScope s_kids_needs) .none kV6 dc6 pm6 an6 cd6 ct6), sl6⟩) (c6 : PySem.W.codeIn K cd6 "kids_needs" = true) (k6 : PySem.W.keepIn K (.ref f6) = true)
    (a7 : PySem.W.nsIn K mainGlobals "need_of" = some (some (.ref f7))) (l7 : K.lookup f7 = some ⟨oc7, od7, .func (PySem.W.fnOf "need_of" "need_of" (defArgs s_need_of) (defBody s_need_of) (defScope s_need_of) .none kV7 dc7 pm7 an7 cd7 ct7), sl7⟩) (c7 : PySem.W.codeIn K cd7 "need_of" = true) (k7 : PySem.W.keepIn K (.ref f7) = true)
    (a8 : PySem.W.nsIn K mainGlobals "needs_of" = some (some (.ref f8))) (l8 : K.lookup f8 = some ⟨oc8, od8, .func (PySem.W.fnOf "needs_of" "needs_of" (defArgs s_needs_of) (defBody s_needs_of) (defScope s_needs_of) .none kV8 dc8 pm8 an8 cd8 ct8), sl8⟩) (c8 : PySem.W.codeIn K cd8 "needs_of" = true) (k8 : PySem.W.keepIn K (.ref f8) = true)
    (a9 : PySem.W.nsIn K mainGlobals "_law_cell_at" = some (some (.ref f9))) (l9 : K.lookup f9 = some ⟨oc9, od9, .func (PySem.W.fnOf "_law_cell_at" "_law_cell_at" (defArgs s_l_cell_at) (defBody s_l_cell_at) (defScope s_l_cell_at) .none kV9 dc9 pm9 an9 cd9 ct9), sl9⟩) (c9 : PySem.W.codeIn K cd9 "_law_cell_at" = true) (k9 : PySem.W.keepIn K (.ref f9) = true)
    (a10 : PySem.W.nsIn K mainGlobals "_law_mix" = some (some (.ref f10))) (l10 : K.lookup f10 = some ⟨oc10, od10, .func (PySem.W.fnOf "_law_mix" "_law_mix" (defArgs s_l_mix) (defBody s_l_mix) (defScope s_l_mix) .none kV10 dc10 pm10 an10 cd10 ct10), sl10⟩) (c10 : PySem.W.codeIn K cd10 "_law_mix" = true) (k10 : PySem.W.keepIn K (.ref f10) = true)
    (a11 : PySem.W.nsIn K mainGlobals "_law_whole" = some (some (.ref f11))) (l11 : K.lookup f11 = some ⟨oc11, od11, .func (PySem.W.fnOf "_law_whole" "_law_whole" (defArgs s_l_whole) (defBody s_l_whole) (defScope s_l_whole) .none kV11 dc11 pm11 an11 cd11 ct11), sl11⟩) (c11 : PySem.W.codeIn K cd11 "_law_whole" = true) (k11 : PySem.W.keepIn K (.ref f11) = true)
    (a12 : PySem.W.nsIn K mainGlobals "_law_text" = some (some (.ref f12))) (l12 : K.lookup f12 = some ⟨oc12, od12, .func (PySem.W.fnOf "_law_text" "_law_text" (defArgs s_l_text) (defBody s_l_text) (defScope s_l_text) .none kV12 dc12 pm12 an12 cd12 ct12), sl12⟩) (c12 : PySem.W.codeIn K cd12 "_law_text" = true) (k12 : PySem.W.keepIn K (.ref f12) = true)
    (a13 : PySem.W.nsIn K mainGlobals "_law_names" = some (some (.ref f13))) (l13 : K.lookup f13 = some ⟨oc13, od13, .func (PySem.W.fnOf "_law_names" "_law_names" (defArgs s_l_names) (defBody s_l_names) (defScope s_l_names) .none kV13 dc13 pm13 an13 cd13 ct13), sl13⟩) (c13 : PySem.W.codeIn K cd13 "_law_names" = true) (k13 : PySem.W.keepIn K (.ref f13) = true)
    (a14 : PySem.W.nsIn K mainGlobals "_law_box" = some (some (.ref f14))) (l14 : K.lookup f14 = some ⟨oc14, od14, .func (PySem.W.fnOf "_law_box" "_law_box" (defArgs s_l_box) (defBody s_l_box) (defScope s_l_box) .none kV14 dc14 pm14 an14 cd14 ct14), sl14⟩) (c14 : PySem.W.codeIn K cd14 "_law_box" = true) (k14 : PySem.W.keepIn K (.ref f14) = true)
    (a15 : PySem.W.nsIn K mainGlobals "_law_all" = some (some (.ref f15))) (l15 : K.lookup f15 = some ⟨oc15, od15, .func (PySem.W.fnOf "_law_all" "_law_all" (defArgs s_l_all) (defBody s_l_all) (defScope s_l_all) .none kV15 dc15 pm15 an15 cd15 ct15), sl15⟩) (c15 : PySem.W.codeIn K cd15 "_law_all" = true) (k15 : PySem.W.keepIn K (.ref f15) = true)
    (a16 : PySem.W.nsIn K mainGlobals "_law_shape" = some (some (.ref f16))) (l16 : K.lookup f16 = some ⟨oc16, od16, .func (PySem.W.fnOf "_law_shape" "_law_shape" (defArgs s_l_shape) (defBody s_l_shape) (defScope s_l_shape) .none kV16 dc16 pm16 an16 cd16 ct16), sl16⟩) (c16 : PySem.W.codeIn K cd16 "_law_shape" = true) (k16 : PySem.W.keepIn K (.ref f16) = true)
    (a17 : PySem.W.nsIn K mainGlobals "_law_shapes" = some (some (.ref f17))) (l17 : K.lookup f17 = some ⟨oc17, od17, .func (PySem.W.fnOf "_law_shapes" "_law_shapes" (defArgs s_l_shapes) (defBody s_l_shapes) (defScope s_l_shapes) .none kV17 dc17 pm17 an17 cd17 ct17), sl17⟩) (c17 : PySem.W.codeIn K cd17 "_law_shapes" = true) (k17 : PySem.W.keepIn K (.ref f17) = true)
    (a18 : PySem.W.nsIn K mainGlobals "_law_limited" = some (some (.ref f18))) (l18 : K.lookup f18 = some ⟨oc18, od18, .func (PySem.W.fnOf "_law_limited" "_law_limited" (defArgs s_l_limited) (defBody s_l_limited) (defScope s_l_limited) .none kV18 dc18 pm18 an18 cd18 ct18), sl18⟩) (c18 : PySem.W.codeIn K cd18 "_law_limited" = true) (k18 : PySem.W.keepIn K (.ref f18) = true)
    (a19 : PySem.W.nsIn K mainGlobals "_law_needs_in" = some (some (.ref f19))) (l19 : K.lookup f19 = some ⟨oc19, od19, .func (PySem.W.fnOf "_law_needs_in" "_law_needs_in" (defArgs s_l_needs_in) (defBody s_l_needs_in) (defScope s_l_needs_in) .none kV19 dc19 pm19 an19 cd19 ct19), sl19⟩) (c19 : PySem.W.codeIn K cd19 "_law_needs_in" = true) (k19 : PySem.W.keepIn K (.ref f19) = true)
    (a20 : PySem.W.nsIn K mainGlobals "_law_needs" = some (some (.ref f20))) (l20 : K.lookup f20 = some ⟨oc20, od20, .func (PySem.W.fnOf "_law_needs" "_law_needs" (defArgs s_l_needs) (defBody s_l_needs) (defScope s_l_needs) .none kV20 dc20 pm20 an20 cd20 ct20), sl20⟩) (c20 : PySem.W.codeIn K cd20 "_law_needs" = true) (k20 : PySem.W.keepIn K (.ref f20) = true)
    (a21 : PySem.W.nsIn K mainGlobals "_law_pair_is" = some (some (.ref f21))) (l21 : K.lookup f21 = some ⟨oc21, od21, .func (PySem.W.fnOf "_law_pair_is" "_law_pair_is" (defArgs s_l_pair_is) (defBody s_l_pair_is) (defScope s_l_pair_is) .none kV21 dc21 pm21 an21 cd21 ct21), sl21⟩) (c21 : PySem.W.codeIn K cd21 "_law_pair_is" = true) (k21 : PySem.W.keepIn K (.ref f21) = true)
    (a22 : PySem.W.nsIn K mainGlobals "_law_flow_by" = some (some (.ref f22))) (l22 : K.lookup f22 = some ⟨oc22, od22, .func (PySem.W.fnOf "_law_flow_by" "_law_flow_by" (defArgs s_l_flow_by) (defBody s_l_flow_by) (defScope s_l_flow_by) .none kV22 dc22 pm22 an22 cd22 ct22), sl22⟩) (c22 : PySem.W.codeIn K cd22 "_law_flow_by" = true) (k22 : PySem.W.keepIn K (.ref f22) = true)
    (a23 : PySem.W.nsIn K mainGlobals "law" = some (some (.ref f23))) (l23 : K.lookup f23 = some ⟨oc23, od23, .func (PySem.W.fnOf "law" "law" (defArgs s_law) (defBody s_law) (defScope s_law) .none kV23 dc23 pm23 an23 cd23 ct23), sl23⟩) (c23 : PySem.W.codeIn K cd23 "law" = true) (k23 : PySem.W.keepIn K (.ref f23) = true)
    (n_all : PySem.W.nsIn K mainGlobals "all" = some none)
    (n_bool : PySem.W.nsIn K mainGlobals "bool" = some none)
    (n_dict : PySem.W.nsIn K mainGlobals "dict" = some none)
    (n_int : PySem.W.nsIn K mainGlobals "int" = some none)
    (n_isinstance : PySem.W.nsIn K mainGlobals "isinstance" = some none)
    (n_len : PySem.W.nsIn K mainGlobals "len" = some none)
    (n_list : PySem.W.nsIn K mainGlobals "list" = some none)
    (n_max : PySem.W.nsIn K mainGlobals "max" = some none)
    (n_min : PySem.W.nsIn K mainGlobals "min" = some none)
    (n_range : PySem.W.nsIn K mainGlobals "range" = some none)
    (n_reversed : PySem.W.nsIn K mainGlobals "reversed" = some none)
    (n_str : PySem.W.nsIn K mainGlobals "str" = some none)
    (n_sum : PySem.W.nsIn K mainGlobals "sum" = some none)
    (n_tuple : PySem.W.nsIn K mainGlobals "tuple" = some none)
    (kit : kitAll K = true) :
    ∃ A : Adr, (∀ (s : Shared) (u : Value), BindsTo s A.d_law ⟨[u], []⟩ [("_law_script", u)]) ∧ Txt K mg A := by
  have F1 := fun_mk (st := s_boxes_of) l1 c1 k1
  have b1 := F1.binds (ps := P_boxes_of) fun _ _ _ _ _ _ us hl => match us, hl with | [_], _ => rfl
  have F2 := fun_mk (st := s_limited) l2 c2 k2
  have b2 := F2.binds (ps := P_limited) fun _ _ _ _ _ _ us hl => match us, hl with | [_, _, _], _ => rfl
  have F3 := fun_mk (st := s_gaps_of) l3 c3 k3
  have b3 := F3.binds (ps := P_gaps_of) fun _ _ _ _ _ _ us hl => match us, hl with | [_, _], _ => rfl
  have F4 := fun_mk (st := s_limited_wide) l4 c4 k4
  have b4 := F4.binds (ps := P_limited_wide) fun _ _ _ _ _ _ us hl => match us, hl with | [_, _], _ => rfl
  have F5 := fun_mk (st := s_words_needs) l5 c5 k5
  have b5 := F5.binds (ps := P_words_needs) fun _ _ _ _ _ _ us hl => match us, hl with | [_], _ => rfl
  have F6 := fun_mk (st := s_kids_needs) l6 c6 k6
  have b6 := F6.binds (ps := P_kids_needs) fun _ _ _ _ _ _ us hl => match us, hl with | [_, _, _], _ => rfl
  have F7 := fun_mk (st := s_need_of) l7 c7 k7
  have b7 := F7.binds (ps := P_need_of) fun _ _ _ _ _ _ us hl => match us, hl with | [_, _, _], _ => rfl
  have F8 := fun_mk (st := s_needs_of) l8 c8 k8
  have b8 := F8.binds (ps := P_needs_of) fun _ _ _ _ _ _ us hl => match us, hl with | [_, _], _ => rfl
  have F9 := fun_mk (st := s_l_cell_at) l9 c9 k9
  have b9 := F9.binds (ps := P_l_cell_at) fun _ _ _ _ _ _ us hl => match us, hl with | [_, _], _ => rfl
  have F10 := fun_mk (st := s_l_mix) l10 c10 k10
  have b10 := F10.binds (ps := P_l_mix) fun _ _ _ _ _ _ us hl => match us, hl with | [_, _], _ => rfl
  have F11 := fun_mk (st := s_l_whole) l11 c11 k11
  have b11 := F11.binds (ps := P_l_whole) fun _ _ _ _ _ _ us hl => match us, hl with | [_], _ => rfl
  have F12 := fun_mk (st := s_l_text) l12 c12 k12
  have b12 := F12.binds (ps := P_l_text) fun _ _ _ _ _ _ us hl => match us, hl with | [_], _ => rfl
  have F13 := fun_mk (st := s_l_names) l13 c13 k13
  have b13 := F13.binds (ps := P_l_names) fun _ _ _ _ _ _ us hl => match us, hl with | [_, _], _ => rfl
  have F14 := fun_mk (st := s_l_box) l14 c14 k14
  have b14 := F14.binds (ps := P_l_box) fun _ _ _ _ _ _ us hl => match us, hl with | [_, _, _], _ => rfl
  have F15 := fun_mk (st := s_l_all) l15 c15 k15
  have b15 := F15.binds (ps := P_l_all) fun _ _ _ _ _ _ us hl => match us, hl with | [_], _ => rfl
  have F16 := fun_mk (st := s_l_shape) l16 c16 k16
  have b16 := F16.binds (ps := P_l_shape) fun _ _ _ _ _ _ us hl => match us, hl with | [_], _ => rfl
  have F17 := fun_mk (st := s_l_shapes) l17 c17 k17
  have b17 := F17.binds (ps := P_l_shapes) fun _ _ _ _ _ _ us hl => match us, hl with | [_, _], _ => rfl
  have F18 := fun_mk (st := s_l_limited) l18 c18 k18
  have b18 := F18.binds (ps := P_l_limited) fun _ _ _ _ _ _ us hl => match us, hl with | [_, _, _], _ => rfl
  have F19 := fun_mk (st := s_l_needs_in) l19 c19 k19
  have b19 := F19.binds (ps := P_l_needs_in) fun _ _ _ _ _ _ us hl => match us, hl with | [_, _, _], _ => rfl
  have F20 := fun_mk (st := s_l_needs) l20 c20 k20
  have b20 := F20.binds (ps := P_l_needs) fun _ _ _ _ _ _ us hl => match us, hl with | [_, _], _ => rfl
  have F21 := fun_mk (st := s_l_pair_is) l21 c21 k21
  have b21 := F21.binds (ps := P_l_pair_is) fun _ _ _ _ _ _ us hl => match us, hl with | [_, _], _ => rfl
  have F22 := fun_mk (st := s_l_flow_by) l22 c22 k22
  have b22 := F22.binds (ps := P_l_flow_by) fun _ _ _ _ _ _ us hl => match us, hl with | [_], _ => rfl
  have F23 := fun_mk (st := s_law) l23 c23 k23
  have b23 := F23.binds (ps := P_law) fun _ _ _ _ _ _ us hl => match us, hl with | [_], _ => rfl
  refine ⟨⟨f1, PySem.W.fnOf "boxes_of" "boxes_of" (defArgs s_boxes_of) (defBody s_boxes_of) (defScope s_boxes_of) .none kV1 dc1 pm1 an1 cd1 ct1, f2, PySem.W.fnOf "limited" "limited" (defArgs s_limited) (defBody s_limited) (defScope s_limited) .none kV2 dc2 pm2 an2 cd2 ct2, f3, PySem.W.fnOf "gaps_of" "gaps_of" (defArgs s_gaps_of) (defBody s_gaps_of) (defScope s_gaps_of) .none kV3 dc3 pm3 an3 cd3 ct3, f4, PySem.W.fnOf "limited_wide" "limited_wide" (defArgs s_limited_wide) (defBody s_limited_wide) (defScope s_limited_wide) .none kV4 dc4 pm4 an4 cd4 ct4, f5, PySem.W.fnOf "words_needs" "words_needs" (defArgs s_words_needs) (defBody s_words_needs) (defScope s_words_needs) .none kV5 dc5 pm5 an5 cd5 ct5, f6, PySem.W.fnOf "kids_needs" "kids_needs" (defArgs s_kids_needs) (defBody s_kids_needs) (defScope s_kids_needs) .none kV6 dc6 pm6 an6 cd6 ct6, f7, PySem.W.fnOf "need_of" "need_of" (defArgs s_need_of) (defBody s_need_of) (defScope s_need_of) .none kV7 dc7 pm7 an7 cd7 ct7, f8, PySem.W.fnOf "needs_of" "needs_of" (defArgs s_needs_of) (defBody s_needs_of) (defScope s_needs_of) .none kV8 dc8 pm8 an8 cd8 ct8, f9, PySem.W.fnOf "_law_cell_at" "_law_cell_at" (defArgs s_l_cell_at) (defBody s_l_cell_at) (defScope s_l_cell_at) .none kV9 dc9 pm9 an9 cd9 ct9, f10, PySem.W.fnOf "_law_mix" "_law_mix" (defArgs s_l_mix) (defBody s_l_mix) (defScope s_l_mix) .none kV10 dc10 pm10 an10 cd10 ct10, f11, PySem.W.fnOf "_law_whole" "_law_whole" (defArgs s_l_whole) (defBody s_l_whole) (defScope s_l_whole) .none kV11 dc11 pm11 an11 cd11 ct11, f12, PySem.W.fnOf "_law_text" "_law_text" (defArgs s_l_text) (defBody s_l_text) (defScope s_l_text) .none kV12 dc12 pm12 an12 cd12 ct12, f13, PySem.W.fnOf "_law_names" "_law_names" (defArgs s_l_names) (defBody s_l_names) (defScope s_l_names) .none kV13 dc13 pm13 an13 cd13 ct13, f14, PySem.W.fnOf "_law_box" "_law_box" (defArgs s_l_box) (defBody s_l_box) (defScope s_l_box) .none kV14 dc14 pm14 an14 cd14 ct14, f15, PySem.W.fnOf "_law_all" "_law_all" (defArgs s_l_all) (defBody s_l_all) (defScope s_l_all) .none kV15 dc15 pm15 an15 cd15 ct15, f16, PySem.W.fnOf "_law_shape" "_law_shape" (defArgs s_l_shape) (defBody s_l_shape) (defScope s_l_shape) .none kV16 dc16 pm16 an16 cd16 ct16, f17, PySem.W.fnOf "_law_shapes" "_law_shapes" (defArgs s_l_shapes) (defBody s_l_shapes) (defScope s_l_shapes) .none kV17 dc17 pm17 an17 cd17 ct17, f18, PySem.W.fnOf "_law_limited" "_law_limited" (defArgs s_l_limited) (defBody s_l_limited) (defScope s_l_limited) .none kV18 dc18 pm18 an18 cd18 ct18, f19, PySem.W.fnOf "_law_needs_in" "_law_needs_in" (defArgs s_l_needs_in) (defBody s_l_needs_in) (defScope s_l_needs_in) .none kV19 dc19 pm19 an19 cd19 ct19, f20, PySem.W.fnOf "_law_needs" "_law_needs" (defArgs s_l_needs) (defBody s_l_needs) (defScope s_l_needs) .none kV20 dc20 pm20 an20 cd20 ct20, f21, PySem.W.fnOf "_law_pair_is" "_law_pair_is" (defArgs s_l_pair_is) (defBody s_l_pair_is) (defScope s_l_pair_is) .none kV21 dc21 pm21 an21 cd21 ct21, f22, PySem.W.fnOf "_law_flow_by" "_law_flow_by" (defArgs s_l_flow_by) (defBody s_l_flow_by) (defScope s_l_flow_by) .none kV22 dc22 pm22 an22 cd22 ct22, f23, PySem.W.fnOf "law" "law" (defArgs s_law) (defBody s_law) (defScope s_law) .none kV23 dc23 pm23 an23 cd23 ct23⟩, fun s u => .of_eq rfl, ?_⟩
  exact ⟨F1, b1, PySem.W.mg_of X G a1, F2, b2, PySem.W.mg_of X G a2, F3, b3, PySem.W.mg_of X G a3, F4, b4, PySem.W.mg_of X G a4, F5, b5, PySem.W.mg_of X G a5, F6, b6, PySem.W.mg_of X G a6, F7, b7, PySem.W.mg_of X G a7, F8, b8, PySem.W.mg_of X G a8, F9, b9, PySem.W.mg_of X G a9, F10, b10, PySem.W.mg_of X G a10, F11, b11, PySem.W.mg_of X G a11, F12, b12, PySem.W.mg_of X G a12, F13, b13, PySem.W.mg_of X G a13, F14, b14, PySem.W.mg_of X G a14, F15, b15, PySem.W.mg_of X G a15, F16, b16, PySem.W.mg_of X G a16, F17, b17, PySem.W.mg_of X G a17, F18, b18, PySem.W.mg_of X G a18, F19, b19, PySem.W.mg_of X G a19, F20, b20, PySem.W.mg_of X G a20, F21, b21, PySem.W.mg_of X G a21, F22, b22, PySem.W.mg_of X G a22, F23, b23, PySem.W.mg_of X G a23, PySem.W.mg_none_of X G n_all, PySem.W.mg_none_of X G n_bool, PySem.W.mg_none_of X G n_dict, PySem.W.mg_none_of X G n_int, PySem.W.mg_none_of X G n_isinstance, PySem.W.mg_none_of X G n_len, PySem.W.mg_none_of X G n_list, PySem.W.mg_none_of X G n_max, PySem.W.mg_none_of X G n_min, PySem.W.mg_none_of X G n_range, PySem.W.mg_none_of X G n_reversed, PySem.W.mg_none_of X G n_str, PySem.W.mg_none_of X G n_sum, PySem.W.mg_none_of X G n_tuple, kit⟩
end KP
open PySem PySem.W PyProof.Rows
set_option maxRecDepth 100000 in
set_option maxHeartbeats 0 in
theorem PySem.Challenge.cw_panehouse_k31_needs_holds : PySem.Challenge.rw_panehouse_k31_needs.Holds := by
  w_on; o_law; k_head; (case hw => w_witness2)
  k_fill
  refine' L2.walk_ofK (l := PySem.Challenge.rw_panehouse_k31_needs) (n := 63) (k := 9) (x := "_law_script") (CX := L2.CX0) (sp := KP.spLaw) rfl (by decide) rfl ⟨rfl, by decide, by decide⟩ (fun w h Y => PySem.W.kIn_of Y) ?F ?S ?C
  case F =>
    intro w mg fa h KX G hmg
    have T : ∃ A : KP.Adr, (∀ (s : Shared) (u : Value), BindsTo s A.d_law ⟨[u], []⟩ [("_law_script", u)]) ∧ KP.Txt (L2.KOf KX) mg A := by
      dsimp only [L2.KOf]
      refine' KP.txt_mk KX G ?a1 ?l1 ?c1 ?k1 ?a2 ?l2 ?c2 ?k2 ?a3 ?l3 ?c3 ?k3 ?a4 ?l4 ?c4 ?k4 ?a5 ?l5 ?c5 ?k5 ?a6 ?l6 ?c6 ?k6 ?a7 ?l7 ?c7 ?k7 ?a8 ?l8 ?c8 ?k8 ?a9 ?l9 ?c9 ?k9 ?a10 ?l10 ?c10 ?k10 ?a11 ?l11 ?c11 ?k11 ?a12 ?l12 ?c12 ?k12 ?a13 ?l13 ?c13 ?k13 ?a14 ?l14 ?c14 ?k14 ?a15 ?l15 ?c15 ?k15 ?a16 ?l16 ?c16 ?k16 ?a17 ?l17 ?c17 ?k17 ?a18 ?l18 ?c18 ?k18 ?a19 ?l19 ?c19 ?k19 ?a20 ?l20 ?c20 ?k20 ?a21 ?l21 ?c21 ?k21 ?a22 ?l22 ?c22 ?k22 ?a23 ?l23 ?c23 ?k23 ?n_all ?n_bool ?n_dict ?n_int ?n_isinstance ?n_len ?n_list ?n_max ?n_min ?n_range ?n_reversed ?n_str ?n_sum ?n_tuple ?kit
      (case a1 => k_is)
      (case l1 => k_is)
      (case c1 => k_is)
      (case k1 => k_is)
      (case a2 => k_is)
      (case l2 => k_is)
      (case c2 => k_is)
      (case k2 => k_is)
      (case a3 => k_is)
      (case l3 => k_is)
      (case c3 => k_is)
      (case k3 => k_is)
      (case a4 => k_is)
      (case l4 => k_is)
      (case c4 => k_is)
      (case k4 => k_is)
      (case a5 => k_is)
      (case l5 => k_is)
      (case c5 => k_is)
      (case k5 => k_is)
      (case a6 => k_is)
      (case l6 => k_is)
      (case c6 => k_is)
      (case k6 => k_is)
      (case a7 => k_is)
      (case l7 => k_is)
      (case c7 => k_is)
      (case k7 => k_is)
      (case a8 => k_is)
      (case l8 => k_is)
      (case c8 => k_is)
      (case k8 => k_is)
      (case a9 => k_is)
      (case l9 => k_is)
      (case c9 => k_is)
      (case k9 => k_is)
      (case a10 => k_is)
      (case l10 => k_is)
      (case c10 => k_is)
      (case k10 => k_is)
      (case a11 => k_is)
      (case l11 => k_is)
      (case c11 => k_is)
      (case k11 => k_is)
      (case a12 => k_is)
      (case l12 => k_is)
      (case c12 => k_is)
      (case k12 => k_is)
      (case a13 => k_is)
      (case l13 => k_is)
      (case c13 => k_is)
      (case k13 => k_is)
      (case a14 => k_is)
      (case l14 => k_is)
      (case c14 => k_is)
      (case k14 => k_is)
      (case a15 => k_is)
      (case l15 => k_is)
      (case c15 => k_is)
      (case k15 => k_is)
      (case a16 => k_is)
      (case l16 => k_is)
      (case c16 => k_is)
      (case k16 => k_is)
      (case a17 => k_is)
      (case l17 => k_is)
      (case c17 => k_is)
      (case k17 => k_is)
      (case a18 => k_is)
      (case l18 => k_is)
      (case c18 => k_is)
      (case k18 => k_is)
      (case a19 => k_is)
      (case l19 => k_is)
      (case c19 => k_is)
      (case k19 => k_is)
      (case a20 => k_is)
      (case l20 => k_is)
      (case c20 => k_is)
      (case k20 => k_is)
      (case a21 => k_is)
      (case l21 => k_is)
      (case c21 => k_is)
      (case k21 => k_is)
      (case a22 => k_is)
      (case l22 => k_is)
      (case c22 => k_is)
      (case k22 => k_is)
      (case a23 => k_is)
      (case l23 => k_is)
      (case c23 => k_is)
      (case k23 => k_is)
      (case n_all => k_is)
      (case n_bool => k_is)
      (case n_dict => k_is)
      (case n_int => k_is)
      (case n_isinstance => k_is)
      (case n_len => k_is)
      (case n_list => k_is)
      (case n_max => k_is)
      (case n_min => k_is)
      (case n_range => k_is)
      (case n_reversed => k_is)
      (case n_str => k_is)
      (case n_sum => k_is)
      (case n_tuple => k_is)
      (case kit => kernel_rfl)
    obtain ⟨A, hb, T⟩ := T
    have e0 := hmg.symm.trans T.m_law
    cases e0
    exact ⟨A.d_law, hb, fun base kb nb => KP.ok_law T⟩
  case S => exact fun K H a ns hl _ hS => ⟨a, ns, rfl, hS, hl, fun _ => rfl⟩
  case C => exact fun _ _ _ _ z => z

