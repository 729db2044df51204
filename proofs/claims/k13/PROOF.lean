import PyProof.Rows.All
import Wide.All
import OpenK.AllK
import Wide.FinOn
import Lean
import PyProof.EqAt
import PyProof.EqKinds
import PyProof.TupleCall
import PyProof.CompFree
import PyProof.NeKinds
import KE.IntBitsLaws
import PyProof.Rows.SortRuns
import PyProof.RangeFor
import KE.KSortKey
import PyProof.ListRange
import KE.KListMore
import PyProof.ZipIter
import PyProof.Rows.ZipGen
import PyProof.WalksMore
import PyProof.EnumFor
import PyProof.EnumMake
import PyProof.Rows.TopTwo
import PyProof.Rows.CatchOwn
import PyProof.NsDelKeeps
import PyProof.ExcAttrAll.ValueError
import PyProof.DictDisplay
import KE.KEqDict
import PyProof.Draws
import PyProof.ListStr
import PyProof.StrCalls2
import PyProof.StrOps2
import PyProof.Rows.StrSplitCount
import PyProof.ListNew
import PyProof.Rows.Tup
import PyProof.CollectWalk
import PyProof.WalksS
import PyProof.Rows.SetFrom
import PyProof.Rows.StrInSeq
import PyProof.SetRoads
import PyProof.Rows.TupAdd
import KE.KIntText
import KE.KRevIter
import PyProof.MeetsStr
import PyProof.StrCalls
import PyProof.ListMulRoad
import KE.KDictOf
import PyProof.AttrMiss
import PyProof.IsiH_list
import PyProof.Seq
import PyProof.DictUpdate
import KE.KMinBuiltin
import PyProof.MinMaxWalk
import PyProof.DictWalks
import PyProof.DictItems
import KE.KDictList
import KE.KListLetter
import PyProof.Rows.Range3
import KE.KSortTup
import PyProof.MeetsIn
import KE.KRevSl
import PyProof.StrCalls3
import PySem.Challenge.RW_panehouse_k13_whole_edits
set_option Elab.async false
set_option linter.all false
set_option maxHeartbeats 4000000
set_option maxRecDepth 100000
namespace L2
open PySem PySem.Spec PyProof.Rows
noncomputable abbrev Key := Sum Int Str
noncomputable def tL : Key → Value → Bool
 | .inl k, v => Value.isInt k v
 | .inr x, v => Value.isStrOf x v
noncomputable def JH (w : World) : Key → Int
 | .inl k => hashInt k
 | .inr x => hashStr w x
theorem cP : ∀ {k : Key} {v : Value}, tL k v = true → (∃ i t, k = Sum.inl i ∧ v = Value.int i t) ∨ (∃ x t, k = Sum.inr x ∧ v = Value.str x t)
 | .inl i, v, h => by
  obtain ⟨t, e⟩ := Value.isInt_shape (k := i) (v := v) h
  exact .inl ⟨i, t, rfl, e⟩
 | .inr x, v, h => by
  obtain ⟨t, e⟩ := Value.isStrOf_shape (x := x) (v := v) h
  exact .inr ⟨x, t, rfl, e⟩
theorem Be (i : Int) (t : Tok) : tL (.inl i) (.int i t) = true := by simp [tL, Value.isInt]
theorem Bz (x : Str) (t : Tok) : tL (.inr x) (.str x t) = true := by simp [tL, Value.isStrOf]
theorem Hs (a b : Int) : decide ((Sum.inl a : Key) = Sum.inl b) = (a == b) := by
 by_cases e : a = b
 ·subst e; simp
 ·have h : ¬ (Sum.inl a : Key) = Sum.inl b := fun q => e (Sum.inl.inj q)
  rw [decide_eq_false h]
  exact (beq_eq_false_iff_ne.mpr e).symm
theorem Hr (a b : Str) : decide ((Sum.inr a : Key) = Sum.inr b) = decide (a = b) := by
 by_cases e : a = b
 ·subst e; simp
 ·have h : ¬ (Sum.inr a : Key) = Sum.inr b := fun q => e (Sum.inr.inj q)
  rw [decide_eq_false h, decide_eq_false e]
theorem Ib (a : Int) (b : Str) : decide ((Sum.inl a : Key) = Sum.inr b) = false := decide_eq_false (fun q => nomatch q)
theorem FZ (a : Str) (b : Int) : decide ((Sum.inr a : Key) = Sum.inl b) = false := decide_eq_false (fun q => nomatch q)
noncomputable def dq (prog : Program) (w : World) : PySem.KeyKind prog w Key where
 is := tL
 hash := JH w
 inj := fun v a b ha hb => by
  rcases cP ha with ⟨i, t, rfl, rfl⟩ | ⟨x, t, rfl, rfl⟩
  ·rcases cP hb with ⟨j, u, rfl, e⟩ | ⟨y, u, rfl, e⟩
   ·injection e with e1 _; rw [e1]
   ·exact nomatch e
  ·rcases cP hb with ⟨j, u, rfl, e⟩ | ⟨y, u, rfl, e⟩
   ·exact nomatch e
   ·injection e with e1 _; rw [e1]
 byValue := fun k v h => by
  rcases cP h with ⟨i, t, rfl, rfl⟩ | ⟨x, t, rfl, rfl⟩ <;> rfl
 pyHash := fun hv h => by
  rcases cP hv with ⟨i, t, rfl, rfl⟩ | ⟨x, t, rfl, rfl⟩
  ·exact wpAny_pyHash_int h
  ·exact wpAny_pyHash_str h
 eqBool := fun hu hv h => by
  rcases cP hu with ⟨i, t, rfl, rfl⟩ | ⟨x, t, rfl, rfl⟩
  ·rcases cP hv with ⟨j, u, rfl, rfl⟩ | ⟨y, u, rfl, rfl⟩
   ·rw [Hs] at h; exact wpAny_eqBool_int h
   ·rw [Ib] at h; exact SeqAt.EqAt.int_str i t y u _ _ _ _ h
  ·rcases cP hv with ⟨j, u, rfl, rfl⟩ | ⟨y, u, rfl, rfl⟩
   ·rw [FZ] at h; exact SeqAt.EqAt.str_int x t j u _ _ _ _ h
   ·rw [Hr] at h; exact wpAny_eqBool_str h
 «strs» := fun k x t v h => by
  rcases cP h with ⟨i, u, rfl, e⟩ | ⟨y, u, rfl, e⟩
  ·exact nomatch e
  ·injection e with e1 _
   subst e1
   cases v <;> rfl
theorem wL (prog : Program) (w : World) (i : Int) (t : Tok) : (dq prog w).is (.inl i) (.int i t) = true := Be i t
theorem yg (prog : Program) (w : World) (x : Str) (t : Tok) : (dq prog w).is (.inr x) (.str x t) = true := Bz x t
inductive V where
 | non | bl (b : Bool) | int (i : Int) | str (x : Str) | byt (b : Array UInt8) | flt (b : UInt64) | ref (a : Addr) | ty (n : String)
 deriving DecidableEq
noncomputable def bX : V → Value → Prop
 | .non, u => u = Value.none
 | .bl b, u => u = Value.bool b
 | .int i, u => ∃ t, u = Value.int i t
 | .str x, u => ∃ t, u = Value.str x t
 | .byt b, u => ∃ t, u = Value.bytes b t
 | .flt b, u => ∃ t, u = Value.float b t
 | .ref a, u => u = Value.ref a
 | .ty n, u => u = Value.type n
noncomputable abbrev bE : List V → List Value → Prop := Paired bX
theorem bE.length {xs : List V} {us : List Value} (r : bE xs us) : xs.length = us.length := Paired.length r
theorem bE.get : ∀ {xs : List V} {us : List Value} {i : Nat} {x : V}, bE xs us → xs[i]? = some x → ∃ u, us[i]? = some u ∧ bX x u
 | _, _, _, _, .nil, e => by simp at e
 | _, _, 0, _, .cons r _, e => by simp at e; subst e; exact ⟨_, rfl, r⟩
 | _, _, i + 1, x, .cons _ t, e => by
  obtain ⟨u, h1, h2⟩ := bE.get (i := i) (x := x) t (by simpa using e)
  exact ⟨u, by simpa using h1, h2⟩
theorem bE.set {x : V} {u : Value} (r : bX x u) : ∀ {xs : List V} {us : List Value} (i : Nat), bE xs us → bE (xs.set i x) (us.set i u)
 | _, _, _, .nil => .nil
 | _, _, 0, .cons _ t => .cons r t
 | _, _, i + 1, .cons q t => .cons q (bE.set r i t)
theorem bE.append : ∀ {xs ys : List V} {us ws : List Value}, bE xs us → bE ys ws → bE (xs ++ ys) (us ++ ws)
 | _, _, _, _, .nil, s => s
 | _, _, _, _, .cons r t, s => .cons r (bE.append t s)
theorem bE.take : ∀ {xs : List V} {us : List Value} (n : Nat), bE xs us → bE (xs.take n) (us.take n)
 | _, _, 0, _ => .nil
 | _, _, _ + 1, .nil => .nil
 | _, _, n + 1, .cons r t => .cons r (bE.take n t)
theorem bE.drop : ∀ {xs : List V} {us : List Value} (n : Nat), bE xs us → bE (xs.drop n) (us.drop n)
 | _, _, 0, r => r
 | _, _, _ + 1, .nil => .nil
 | _, _, n + 1, .cons _ t => bE.drop n t
noncomputable def zB : Option V → Option Value → Prop
 | some v, some u => bX v u
 | none, none => True
 | _, _ => False
noncomputable def KV {κ : Type} : List (κ × V) → List (κ × Value) → Prop := Paired fun (p : κ × V) (q : κ × Value) => p.1 = q.1 ∧ bX p.2 q.2
noncomputable def kV : Key → V
 | .inl i => .int i
 | .inr x => .str x
inductive HO where
 | lst (xs : List V)
 | tup (xs : List V)
 | dK (kvs : List (Key × V)) | dT (kvs : List (List Key × V))
 | set (S : Int → Bool) (n : Nat)
 | ins (C dx : Addr) (fs : List (Str × V))
 | own (x : Addr)
 | xd (fs : List (Str × V))
 | met (f x : Addr)
 | rng (lo hi : Int)
 | frz (o : Obj) (u : HO)
 | tbl (ps : Array Value)
 | ext (φ : Heap → Prop)
noncomputable abbrev Hp := Addr → Option HO
noncomputable def upd (H : Hp) (a : Addr) (o : HO) : Hp := fun b => if b = a then some o else H b
theorem ai {H : Hp} {a : Addr} {o : HO} : upd H a o a = some o := by unfold upd; rw [if_pos rfl]
theorem aD {H : Hp} {a b : Addr} {o : HO} (h : b ≠ a) : upd H a o b = H b := by unfold upd; rw [if_neg h]
theorem IQ {H : Hp} {a b : Addr} {o u : HO} (h : H a = some o) (h' : H b = some u) (d : o ≠ u) : a ≠ b := by
 intro e; subst e; rw [h] at h'; exact d (Option.some.inj h')
theorem aX {H : Hp} {a b : Addr} {o : HO} (h : H a = some o) (h' : H b = none) : a ≠ b := by
 intro e; subst e; rw [h] at h'; cases h'
section
variable (P : Program) (w : World)
noncomputable def cw (H : Hp) (h : Heap) (a : Addr) : HO → Prop
 | .lst xs => xs.length ≤ sizeLine ∧ ∃ (its : List Value) (n : Nat), bE xs its ∧ h.get? a = some { cls := .type "list", data := .seq its.toArray n }
 | .tup xs => xs.length ≤ sizeLine ∧ ∃ its : List Value, bE xs its ∧ IsTup h a its.toArray
 | .dK kvs => kvs.length ≤ sizeLine ∧ (a == sysModules) = false ∧ ∃ vs, KV kvs vs ∧ h.DictOf (dq P w) a vs
 | .dT kvs => kvs.length ≤ sizeLine ∧ (a == sysModules) = false ∧ ∃ xs : List (List Key × Addr × Value),
   Paired (fun (p : List Key × V) (q : List Key × Addr × Value) => p.1 = q.1 ∧ H q.2.1 = some (.tup (p.1.map kV)) ∧ bX p.2 q.2.2) kvs xs ∧
   ∃ o es ep, h.get? a = some o ∧ o.ExactDict ∧ o.data = .dict es ep ∧ es.toList = xs.map (entryOfKey (tupleKind (dq P w))) ∧ (xs.map (·.1)).Nodup
 | .set S n => h.SetOf (intKind P w) a S n
 | .ins C dx fs => H dx = some (.own a) ∧ fs.length ≤ 1000 ∧ dx ≠ a ∧ h.get? a = some (PySem.W.instObj C dx) ∧
   ∃ mA, h.Ns1 dx mA ∧ (∀ f, zB (fs.lookup f) (mA f)) ∧ PySem.Within mA (fs.map (·.1))
 | .own _ => ∃ o, h.get? a = some o
 | .xd fs => ∃ mA, h.Ns1 a mA ∧ ∀ f, zB (fs.lookup f) (mA f)
 | .rng lo hi => ∃ t u v, h.get? a = some { cls := .type "range", data := .fields #[.int lo t, .int hi u, .int 1 v] }
 | .frz o u => h.get? a = some o ∧ cw H h a u
 | .tbl ps => h.get? a = some { cls := .none, data := .fields ps }
 | .met f x => h.get? a = some (PySem.W.methodObj (.ref f) (.ref x))
 | .ext φ => φ h ∧ (∃ o, h.get? a = some o) ∧ ∀ h1 h2 : Heap, φ h1 → (∀ o, h1.get? a = some o → h2.get? a = some o) → φ h2
noncomputable def HOk (H : Hp) (h : Heap) : Prop := ∀ a o, H a = some o → cw P w H h a o
end
section
variable {P : Program} {w : World} {H H' : Hp} {h h' : Heap} {a : Addr} {o : HO}
theorem cw.lt (x : cw P w H h a o) : a < h.objs.size := by
 cases o with
 | lst xs => obtain ⟨_, _, _, _, e⟩ := x; exact Heap.lt_size e
 | tup xs => obtain ⟨_, _, _, p⟩ := x; exact p.lt
 | dK kvs => obtain ⟨_, _, _, _, o, _, _, e, _⟩ := x; exact Heap.lt_size e
 | dT kvs => obtain ⟨_, _, _, _, o, _, _, e, _⟩ := x; exact Heap.lt_size e
 | set S n => obtain ⟨o, _, _, _, e, _⟩ := x; exact Heap.lt_size e
 | ins C dx fs => obtain ⟨_, _, _, e, _⟩ := x; exact Heap.lt_size e
 | own y => obtain ⟨_, e⟩ := x; exact Heap.lt_size e
 | xd fs => obtain ⟨_, ⟨_, _, _, e, _⟩, _⟩ := x; exact Heap.lt_size e
 | rng lo hi => obtain ⟨_, _, _, e⟩ := x; exact Heap.lt_size e
 | frz ob u => obtain ⟨e, _⟩ := x; exact Heap.lt_size e
 | tbl ps => exact Heap.lt_size (show h.get? a = some _ from x)
 | met f y => exact Heap.lt_size (show h.get? a = some _ from x)
 | ext φ => obtain ⟨_, ⟨_, e⟩, _⟩ := x; exact Heap.lt_size e
theorem Paired.mapP {α β : Type} {F G : α → β → Prop} : ∀ {l₁ : List α} {l₂ : List β}, Paired F l₁ l₂ → (∀ a b, F a b → G a b) → Paired G l₁ l₂
 | _, _, .nil, _ => .nil
 | _, _, .cons r t, f => .cons (f _ _ r) (Paired.mapP t f)
theorem cw.stay (x : cw P w H h a o) (k : ∀ b u, (b = a ∨ H b = some (.own a)) → h.get? b = some u → h'.get? b = some u)
  (ho : ∀ b, H b = some (.own a) → H' b = some (.own a)) (ht : ∀ b xs, H b = some (.tup xs) → H' b = some (.tup xs)) : cw P w H' h' a o := by
 induction o with
 | lst xs => obtain ⟨z, its, n, r, e⟩ := x; exact ⟨z, its, n, r, k _ _ (.inl rfl) e⟩
 | tup xs => obtain ⟨z, its, r, ob, e, c⟩ := x; exact ⟨z, its, r, ob, k _ _ (.inl rfl) e, c⟩
 | dK kvs => obtain ⟨z, y, vs, r, ob, es, ep, e, c⟩ := x; exact ⟨z, y, vs, r, ob, es, ep, k _ _ (.inl rfl) e, c⟩
 | dT kvs =>
  obtain ⟨z, y, xs, r, ob, es, ep, e, c⟩ := x
  exact ⟨z, y, xs, Paired.mapP r fun p q z => ⟨z.1, ht _ _ z.2.1, z.2.2⟩, ob, es, ep, k _ _ (.inl rfl) e, c⟩
 | set S n => obtain ⟨ob, es, ep, t, e, c⟩ := x; exact ⟨ob, es, ep, t, k _ _ (.inl rfl) e, c⟩
 | ins C dx fs =>
  obtain ⟨d, z, ne, e, mA, ⟨od, es, ep, e2, c⟩, r⟩ := x
  exact ⟨ho _ d, z, ne, k _ _ (.inl rfl) e, mA, ⟨od, es, ep, k _ _ (.inr d) e2, c⟩, r⟩
 | own y => obtain ⟨ob, e⟩ := x; exact ⟨ob, k _ _ (.inl rfl) e⟩
 | xd fs => obtain ⟨mA, ⟨od, es, ep, e, c⟩, r⟩ := x; exact ⟨mA, ⟨od, es, ep, k _ _ (.inl rfl) e, c⟩, r⟩
 | rng lo hi => obtain ⟨t, u, v, e⟩ := x; exact ⟨t, u, v, k _ _ (.inl rfl) e⟩
 | frz ob u ih => obtain ⟨e, q⟩ := x; exact ⟨k _ _ (.inl rfl) e, ih q⟩
 | tbl ps =>
  have e : h.get? a = some { cls := .none, data := .fields ps } := x
  show h'.get? a = some { cls := .none, data := .fields ps }
  exact k a _ (.inl rfl) e
 | met f y =>
  have e : h.get? a = some (PySem.W.methodObj (.ref f) (.ref y)) := x
  show h'.get? a = some (PySem.W.methodObj (.ref f) (.ref y))
  exact k a _ (.inl rfl) e
 | ext φ => obtain ⟨p, ⟨o, e⟩, st⟩ := x; exact ⟨st _ _ p fun o q => k _ _ (.inl rfl) q, ⟨o, k _ _ (.inl rfl) e⟩, st⟩
theorem HOk.lt (x : HOk P w H h) (e : H a = some o) : a < h.objs.size := (x a o e).lt
theorem HOk.fresh (x : HOk P w H h) (e : h.objs.size ≤ a) : H a = none := by
 cases q : H a with
 | none => rfl
 | some u => exact absurd (Nat.lt_of_lt_of_le (x.lt q) e) (Nat.lt_irrefl _)
theorem HOk.kept (x : HOk P w H h) (k : ∀ b u, h.get? b = some u → h'.get? b = some u) : HOk P w H h' := fun a o e =>
 (x a o e).stay (fun b u _ q => k b u q) (fun _ q => q) fun _ _ q => q
theorem HOk.laid (x : HOk P w H h) (k : ∀ b u, h.get? b = some u → h'.get? b = some u) (hp : h.objs.size ≤ a) (new : cw P w (upd H a o) h' a o) : HOk P w (upd H a o) h' := fun b u e => by
 have hn := x.fresh hp
 by_cases hb : b = a
 ·subst hb; rw [ai] at e; cases e; exact new
 ·rw [aD hb] at e
  exact (x b u e).stay (fun c v _ q => k c v q) (fun c q => by rw [aD (aX q hn)]; exact q) fun c xs q => by rw [aD (aX q hn)]; exact q
end
noncomputable def Rd (H : Hp) (a : Addr) (u : HO) : Prop := H a = some u ∨ ∃ o, H a = some (.frz o u)
theorem Rd.ok {P : Program} {w : World} {H : Hp} {h : Heap} {a : Addr} {u : HO} (r : Rd H a u) (x : HOk P w H h) : cw P w H h a u := by
 rcases r with r | ⟨o, r⟩
 ·exact x a u r
 ·obtain ⟨_, q⟩ := x a _ r
  exact q
noncomputable def Mut : Option HO → Prop
 | some (.lst _) => True
 | some (.dK _) => True
 | some (.dT _) => True
 | some (.set _ _) => True
 | some (.ins _ _ _) => True
 | some (.ext _) => True
 | _ => False
section
variable {P : Program} {w : World} {H : Hp} {h h' : Heap} {x e : Addr} {o' : HO}
theorem HOk.write (ok : HOk P w H h) (mu : Mut (H x)) (he : e = x ∨ H e = some (.own x)) (k : ∀ b u, b ≠ e → h.get? b = some u → h'.get? b = some u) (heo : ∃ u, h'.get? e = some u)
  (new : cw P w (upd H x o') h' x o') : HOk P w (upd H x o') h' := fun b u q => by
 have nown : ∀ c y, H c = some (.own y) → c ≠ x := fun c y r z => by subst z; rw [r] at mu; exact mu
 have ntup : ∀ c xs, H c = some (.tup xs) → c ≠ x := fun c xs r z => by subst z; rw [r] at mu; exact mu
 by_cases hb : b = x
 ·subst hb; rw [ai] at q; cases q; exact new
 ·rw [aD hb] at q
  by_cases hbe : b = e
  ·have q' : H b = some (.own x) := by
    rcases he with z | z
    ·exact absurd (hbe.trans z) hb
    ·rw [hbe]; exact z
   rw [q] at q'; cases q'
   obtain ⟨v, hv⟩ := heo
   exact ⟨v, by rw [hbe]; exact hv⟩
  ·refine (ok b u q).stay (fun c v hc r => k c v ?_ r) (fun c r => by rw [aD (nown c b r)]; exact r) fun c xs r => by rw [aD (ntup c xs r)]; exact r
   rcases hc with rfl | hc
   ·exact hbe
   ·rintro rfl
    rcases he with z | z
    ·exact nown c b hc z
    ·rw [hc] at z; cases z; exact hb rfl
end
structure Un (fs ex : List Addr) (H H' : Hp) (h h' : Heap) : Prop where
 keep : ∀ b o, h.get? b = some o → H b = none → b ∉ fs → b ∉ ex → h'.get? b = some o
 slot : ∀ b o, h.get? b = some o → H b = none → b ∈ fs → b ∉ ex → ∃ sl, h'.get? b = some { o with slots := sl }
 free : ∀ b o, h.get? b = some o → H b = none → b ∉ ex → H' b = none
 there : ∀ b o, h.get? b = some o → b ∉ ex → ∃ o', h'.get? b = some o'
 tups : ∀ b xs, H b = some (.tup xs) → H' b = some (.tup xs)
 frzs : ∀ b o u, H b = some (.frz o u) → H' b = some (.frz o u)
 tbls : ∀ b ps, H b = some (.tbl ps) → ∃ more, H' b = some (.tbl (ps ++ more))
section
variable {fs fs' ex ex' : List Addr} {H H1 H2 : Hp} {h h1 h2 h' : Heap} {a x e : Addr} {o : HO}
theorem Un.any (u : Un fs ex H H1 h h1) {b : Addr} {ob : Obj} (q : h.get? b = some ob) (n : H b = none) (hx : b ∉ ex) : ∃ sl, h1.get? b = some { ob with slots := sl } := by
 by_cases hb : b ∈ fs
 ·exact u.slot b ob q n hb hx
 ·exact ⟨ob.slots, u.keep b ob q n hb hx⟩
theorem Un.kept (k : ∀ b u, h.get? b = some u → h'.get? b = some u) : Un fs ex H H h h' :=
 ⟨fun b ob q _ _ _ => k b ob q, fun b ob q _ _ _ => ⟨ob.slots, k b ob q⟩, fun _ _ _ n _ => n, fun b ob q _ => ⟨ob, k b ob q⟩, fun _ _ q => q, fun _ _ _ q => q, fun _ ps q => ⟨#[], by rw [q]; simp⟩⟩
theorem Un.refl : Un fs ex H H h h := Un.kept fun _ _ q => q
theorem Un.laid (k : ∀ b u, h.get? b = some u → h'.get? b = some u) (hp : h.objs.size ≤ a) (hn : H a = none) : Un fs ex H (upd H a o) h h' where
 keep := fun b u q _ _ _ => k b u q
 slot := fun b u q _ _ _ => ⟨u.slots, k b u q⟩
 free := fun b u q n _ => by rw [aD (Nat.ne_of_lt (Nat.lt_of_lt_of_le (Heap.lt_size q) hp))]; exact n
 there := fun b u q _ => ⟨u, k b u q⟩
 tups := fun b xs q => by rw [aD (aX q hn)]; exact q
 frzs := fun b u xs q => by rw [aD (aX q hn)]; exact q
 tbls := fun b ps q => ⟨#[], by rw [aD (aX q hn), q]; simp⟩
theorem Un.write (mu : Mut (H x)) (he : e = x ∨ H e = some (.own x)) (k : ∀ b u, b ≠ e → h.get? b = some u → h'.get? b = some u) (heo : ∃ u, h'.get? e = some u) : Un fs ex H (upd H x o) h h' := by
 have hx : ∀ b, H b = none → b ≠ x := fun b n z => by subst z; rw [n] at mu; exact mu
 have hb : ∀ b, H b = none → b ≠ e := fun b n z => by
  subst z
  rcases he with r | r
  ·exact hx b n r
  ·rw [n] at r; cases r
 have hm : ∀ b u, H b = some u → ¬ Mut (some u) → b ≠ x := fun b u q nm z => by subst z; rw [q] at mu; exact nm mu
 refine ⟨fun b u q n _ _ => k b u (hb b n) q, fun b u q n _ _ => ⟨u.slots, k b u (hb b n) q⟩, fun b u q n _ => by rw [aD (hx b n)]; exact n, fun b u q _ => ?_,
  fun b xs q => by rw [aD (hm b _ q fun z => z)]; exact q, fun b u xs q => by rw [aD (hm b _ q fun z => z)]; exact q, fun b ps q => ⟨#[], by rw [aD (hm b _ q fun z => z), q]; simp⟩⟩
 by_cases hbe : b = e
 ·subst hbe; exact heo
 ·exact ⟨u, k b u hbe q⟩
end
noncomputable def trk (h : Heap) (H : Hp) : List Addr := (List.range h.objs.size).filter fun a => (H a).isSome
noncomputable def vB (h : Heap) (H : Hp) : Heap := PySem.W.hideAll h (trk h H)
theorem BH (h : Heap) (H : Hp) : (vB h H).objs.size = h.objs.size := PySem.W.hideAll_size _ _
theorem CM {h : Heap} {H : Hp} {b : Addr} {o : Obj} (e : h.get? b = some o) (n : H b = none) : (vB h H).get? b = some o :=
 PySem.W.hideAll_get _ e fun hm => by
  have q : (H b).isSome = true := (List.mem_filter.mp hm).2
  rw [n] at q; simp at q
theorem DM {h : Heap} {H : Hp} {b : Addr} {o : Obj} (e : (vB h H).get? b = some o) : h.get? b = some o ∧ H b = none := by
 have e' : h.get? b = some o := PySem.W.of_hideAll (trk h H) e
 refine ⟨e', ?_⟩
 cases q : H b with
 | none => rfl
 | some x =>
  have hm : b ∈ trk h H := List.mem_filter.mpr ⟨List.mem_range.mpr (Heap.lt_size e'), by simp [q]⟩
  have z : (vB h H).get? b = none := PySem.W.hideAll_none (trk h H) hm
  rw [z] at e; cases e
noncomputable def Ea (g h : Heap) (L : Addr) : List (Addr × Obj) := (List.range h.objs.size).filterMap fun a => if a = L ∨ (g.get? a).isSome = true then none else (h.get? a).map fun o => (a, o)
noncomputable def jq (g h : Heap) (L d : Addr) : List (Addr × Obj) := (Ea g h L).filter fun p => decide (p.1 ≠ d)
structure Mod (K : PySem.W.Frag) (mg : Str → Option Value) (base : Heap) : Prop where
 kin : K.In base
 glob : base.Ns mainGlobals mg
 blt : ∃ mb, base.Ns builtinsNs mb ∧ ∀ x : Str, x ≠ "__name__" → mb x = bootBuiltins x
 nolimit : base.NoLimit
structure Cx where
 prog : Program
 w : World
 K : PySem.W.Frag
 mg : Str → Option Value
 base : Heap
 A : Around
 N : List Str
 s₀ : Shared
 H₀ : Hp
 env : Env
 outer : List Env
 stack : List Env
 ex : List Addr
 fn : Str → Bool
 calm : Bool
 pn : List (Addr × Obj)
 xe : Value → Shared → Prop
noncomputable def frs (l : List Env) : List Addr := l.filterMap (·.frame)
noncomputable abbrev Cx.fs (X : Cx) : List Addr := frs X.outer
noncomputable def Vis (sc : Scope) (x : Str) : Prop := sc.names.lookup x = some .local ∨ sc.names.lookup x = some .cell ∨ sc.names.lookup x = some .free
noncomputable def Loc (sc : Scope) (x : Str) : Prop := sc.names.lookup x = some .local ∨ sc.names.lookup x = some .cell
noncomputable def Jv (env : Env) (h : Heap) (m : Str → Option Value) (x : Str) (u : Value) : Prop :=
 (env.kindOf x = some .local ∧ m x = some u) ∨ ((env.kindOf x = some .cell ∨ env.kindOf x = some .free) ∧ ∃ c, env.cells.lookup x = some c ∧ h.IsCell c (some u))
structure Cx.Ok (X : Cx) : Prop where
 mod : Mod X.K X.mg X.base
 kind : X.env.scope.kind = .function
 glob : X.env.globals = mainGlobals
 blt : X.env.builtins = builtinsNs
 above : X.s₀.heap.objs.size ≤ X.env.locals
 inj : ∀ x y c, X.env.cells.lookup x = some c → X.env.cells.lookup y = some c → x = y
 has : ∀ x, (X.env.kindOf x = some .cell ∨ X.env.kindOf x = some .free) → ∃ c, X.env.cells.lookup x = some c
 cab : ∀ x c, X.fn x = true → X.env.cells.lookup x = some c → X.s₀.heap.objs.size ≤ c
 hd : X.calm = true → X.A.handled = none
 frames : X.A.frames = some X.stack
 stk : X.stack = X.outer ∨ (X.stack = X.env :: X.outer ∧ X.env.frame = some X.env.locals)
 exf : ∀ b ∈ X.ex, b ≠ X.env.locals ∧ ∀ x c, X.env.cells.lookup x = some c → c ≠ b
 bs : ∀ b o, X.base.get? b = some o → X.s₀.heap.get? b = some o ∧ X.H₀ b = none
 bsz : X.base.objs.size ≤ X.s₀.heap.objs.size
 noex : ∀ b o, X.base.get? b = some o → b ∉ X.ex
 exfs : ∀ b ∈ X.ex, b ∉ X.fs
 funs : X.s₀.heap.FunFrames X.base X.outer
 frf : ∀ b ∈ X.fs, X.H₀ b = none
structure Inv (X : Cx) (pins : List (Addr × Obj)) (σ : List (Option V)) (H : Hp) (s : Shared) : Prop where
 ok : X.Ok
 os : s.os = X.s₀.os
 bare : AllBare s.gens
 base : Un X.fs X.ex X.H₀ H X.s₀.heap s.heap
 loc : ∃ m, s.heap.Ns X.env.locals m ∧ ∀ (i : Nat) (x : Str) (v : V), X.N[i]? = some x → σ[i]? = some (some v) → Vis X.env.scope x → ∃ u, bX v u ∧ Jv X.env s.heap m x u
 cell : ∀ x c, X.env.cells.lookup x = some c → ∃ v, s.heap.IsCell c v
 free : H X.env.locals = none
 freeC : ∀ x c, X.env.cells.lookup x = some c → H c = none
 pin : ∀ p ∈ X.pn ++ pins, s.heap.get? p.1 = some p.2 ∧ H p.1 = none ∧ p.1 ≠ X.env.locals ∧ p.1 ∉ X.fs ∧ ∀ v, p.2.data ≠ .cell v
 hok : HOk X.prog X.w H s.heap
 len : σ.length = X.N.length
section
variable {X : Cx} {pins : List (Addr × Obj)} {σ : List (Option V)} {H H' : Hp} {s : Shared} {h' : Heap}
theorem Cx.Ok.nofr (ok : X.Ok) {b : Addr} {o : Obj} (e : X.base.get? b = some o) : b ∉ X.fs := fun hb => by
 have := (ok.funs.mem hb).1
 rw [e] at this; cases this
theorem Inv.bs (I : Inv X pins σ H s) : ∀ b o, X.base.get? b = some o → s.heap.get? b = some o ∧ H b = none := fun b o e =>
 ⟨I.base.keep b o (I.ok.bs b o e).1 (I.ok.bs b o e).2 (I.ok.nofr e) (I.ok.noex b o e), I.base.free b o (I.ok.bs b o e).1 (I.ok.bs b o e).2 (I.ok.noex b o e)⟩
theorem Inv.bk (I : Inv X pins σ H s) : ∀ b o, X.base.get? b = some o → s.heap.get? b = some o := fun b o e => (I.bs b o e).1
theorem Inv.mod (I : Inv X pins σ H s) : Mod X.K X.mg X.base := I.ok.mod
theorem Inv.kIn (I : Inv X pins σ H s) : X.K.In s.heap := I.ok.mod.kin.keeps I.bk
theorem Inv.fr (I : Inv X pins σ H s) : ∃ m, Fr X.base X.env.locals s.heap m :=
 let ⟨m, hn, _⟩ := I.loc
 ⟨m, hn, I.bk, Nat.le_trans I.ok.bsz I.ok.above⟩
theorem Inv.lt (I : Inv X pins σ H s) : X.env.locals < s.heap.objs.size := let ⟨_, hn, _⟩ := I.loc; hn.lt
theorem Inv.sz (I : Inv X pins σ H s) : X.s₀.heap.objs.size ≤ s.heap.objs.size := Nat.le_trans I.ok.above (Nat.le_of_lt I.lt)
theorem Inv.nofs (I : Inv X pins σ H s) {a : Addr} (h : s.heap.objs.size ≤ a) : a ∉ X.fs := fun hb => by
 obtain ⟨_, o, ho, _⟩ := I.ok.funs.mem hb
 exact absurd (Nat.lt_of_lt_of_le (Heap.lt_size ho) (Nat.le_trans I.sz h)) (Nat.lt_irrefl _)
theorem Inv.cne (I : Inv X pins σ H s) : ∀ x c, X.env.cells.lookup x = some c → c ≠ X.env.locals := fun x c e z => by
 obtain ⟨v, o, ho, hd⟩ := I.cell x c e
 obtain ⟨m, ⟨o', es, ep, ho', hd', _⟩, _⟩ := I.loc
 rw [z, ho'] at ho; cases ho; rw [hd'] at hd; cases hd
theorem Inv.funs (I : Inv X pins σ H s) : s.heap.FunFrames X.base X.outer := by
 have all : ∀ (l : List Env), (∀ b ∈ frs l, b ∈ X.fs) → X.s₀.heap.FunFrames X.base l → s.heap.FunFrames X.base l := by
  intro l
  induction l with
  | nil => intro _ _; trivial
  | cons env r ih =>
   intro hs hl
   obtain ⟨hk, ⟨L, o, hf, hn, ho, hd⟩, hr⟩ := hl
   have hL : L ∈ X.fs := hs L (by unfold frs; rw [List.filterMap_cons, hf]; exact List.mem_cons_self)
   obtain ⟨sl, e⟩ := I.base.slot L o ho (I.ok.frf L hL) hL fun z => I.ok.exfs L z hL
   exact ⟨hk, ⟨L, _, hf, hn, e, hd⟩, ih (fun b hb => hs b (by unfold frs; rw [List.filterMap_cons, hf]; exact List.mem_cons_of_mem _ hb)) hr⟩
 exact all X.outer (fun _ hb => hb) I.ok.funs
theorem Inv.stack (I : Inv X pins σ H s) : s.heap.FunFrames X.base X.stack := by
 rcases I.ok.stk with e | ⟨e, hf⟩
 ·rw [e]; exact I.funs
 ·rw [e]
  obtain ⟨m, hn, _⟩ := I.loc
  refine .cons (by rw [I.ok.kind]; decide) hf hn ?_ I.funs
  exact Heap.get?_none_of_le (Nat.le_trans I.ok.bsz I.ok.above)
theorem Inv.stkSub (I : Inv X pins σ H s) : ∀ b ∈ frs X.stack, b ∈ X.env.locals :: X.fs := fun b hb => by
 rcases I.ok.stk with e | ⟨e, hf⟩
 ·rw [e] at hb; exact List.mem_cons_of_mem _ hb
 ·rw [e] at hb
  unfold frs at hb
  rw [List.filterMap_cons, hf] at hb
  exact hb
theorem Inv.stkFree (I : Inv X pins σ H s) : ∀ b ∈ frs X.stack, H b = none := fun b hb => by
 rcases List.mem_cons.mp (I.stkSub b hb) with e | hb
 ·rw [e]; exact I.free
 ·obtain ⟨_, o, ho, _⟩ := I.ok.funs.mem hb
  exact I.base.free b o ho (I.ok.frf b hb) fun z => I.ok.exfs b z hb
theorem Inv.step {g' : Array GenState} {t' : Nat} {d' : Drawn} {ch : List Addr} (I : Inv X pins σ H s)
  (hch : ∀ b ∈ ch, (b ∈ X.ex ∨ X.s₀.heap.objs.size ≤ b) ∧ b ≠ X.env.locals ∧ (∀ x c, X.env.cells.lookup x = some c → c ≠ b) ∧ ∀ p ∈ X.pn ++ pins, p.1 ≠ b)
  (keep : ∀ b o, b ≠ X.env.locals → b ∉ X.fs → b ∉ ch → s.heap.get? b = some o → H b = none → h'.get? b = some o)
  (slot : ∀ b o, b ≠ X.env.locals → b ∈ X.fs → b ∉ ch → s.heap.get? b = some o → H b = none → ∃ sl, h'.get? b = some { o with slots := sl }) (free : ∀ b o, b ∉ ch → s.heap.get? b = some o → H b = none → H' b = none)
  (there : ∀ b o, b ∉ ch → s.heap.get? b = some o → ∃ o', h'.get? b = some o')
  (tups : ∀ b xs, H b = some (.tup xs) → H' b = some (.tup xs)) (frzs : ∀ b o u, H b = some (.frz o u) → H' b = some (.frz o u)) (tbls : ∀ b ps, H b = some (.tbl ps) → ∃ more, H' b = some (.tbl (ps ++ more)))
  (ns : ∀ m, s.heap.Ns X.env.locals m → h'.Ns X.env.locals m) (hok : HOk X.prog X.w H' h') (hg : AllBare g') :
  Inv X pins σ H' { s with heap := h', gens := g', drawn := d', toks := t' } := by
 have neL : ∀ b o, X.s₀.heap.get? b = some o → b ≠ X.env.locals := fun b o e => Nat.ne_of_lt (Nat.lt_of_lt_of_le (Heap.lt_size e) I.ok.above)
 have neC : ∀ b o, X.s₀.heap.get? b = some o → b ∉ X.ex → b ∉ ch := fun b o e hx hb => by
  rcases (hch b hb).1 with z | z
  ·exact hx z
  ·exact absurd (Nat.lt_of_lt_of_le (Heap.lt_size e) z) (Nat.lt_irrefl _)
 have cellK : ∀ x c, X.env.cells.lookup x = some c → ∀ v, s.heap.IsCell c v → h'.IsCell c v := fun x c e v ⟨o, ho, hd⟩ => by
  have nch : c ∉ ch := fun z => (hch c z).2.2.1 x c e rfl
  by_cases hc : c ∈ X.fs
  ·obtain ⟨sl, q⟩ := slot c o (I.cne x c e) hc nch ho (I.freeC x c e)
   exact ⟨_, q, hd⟩
  ·exact ⟨o, keep c o (I.cne x c e) hc nch ho (I.freeC x c e), hd⟩
 refine ⟨I.ok, I.os, hg, ⟨fun b o e n hb hx => ?_, fun b o e n hb hx => ?_, fun b o e n hx => ?_, fun b o e hx => ?_, fun b xs e => tups b xs (I.base.tups b xs e), fun b o xs e => frzs b o xs (I.base.frzs b o xs e), fun b ps e => ?_⟩, ?_, fun x c e => ?_, ?_, fun x c e => ?_, fun p hp => ?_, hok, I.len⟩
 ·exact keep b o (neL b o e) hb (neC b o e hx) (I.base.keep b o e n hb hx) (I.base.free b o e n hx)
 ·obtain ⟨sl, e1⟩ := I.base.slot b o e n hb hx
  obtain ⟨sl', e2⟩ := slot b _ (neL b o e) hb (neC b o e hx) e1 (I.base.free b o e n hx)
  exact ⟨sl', e2⟩
 ·obtain ⟨o', e1⟩ := I.base.there b o e hx
  exact free b o' (neC b o e hx) e1 (I.base.free b o e n hx)
 ·obtain ⟨o', e1⟩ := I.base.there b o e hx
  exact there b o' (neC b o e hx) e1
 ·obtain ⟨m1, e1⟩ := I.base.tbls b ps e
  obtain ⟨m2, e2⟩ := tbls b _ e1
  exact ⟨m1 ++ m2, by rw [e2, Array.append_assoc]⟩
 ·obtain ⟨m, hn, hl⟩ := I.loc
  refine ⟨m, ns m hn, fun i x v e1 e2 e3 => ?_⟩
  obtain ⟨u, r, l⟩ := hl i x v e1 e2 e3
  refine ⟨u, r, ?_⟩
  rcases l with l | ⟨k, c, e, z⟩
  ·exact .inl l
  ·exact .inr ⟨k, c, e, cellK x c e _ z⟩
 ·obtain ⟨v, z⟩ := I.cell x c e
  exact ⟨v, cellK x c e v z⟩
 ·obtain ⟨m, ⟨o, _, _, ho, _⟩, _⟩ := I.loc
  exact free _ o (fun z => (hch _ z).2.1 rfl) ho I.free
 ·obtain ⟨v, o, ho, hd⟩ := I.cell x c e
  exact free c o (fun z => (hch c z).2.2.1 x c e rfl) ho (I.freeC x c e)
 ·obtain ⟨e, n, ne, nf, d⟩ := I.pin p hp
  have nch : p.1 ∉ ch := fun z => (hch p.1 z).2.2.2 p hp rfl
  exact ⟨keep p.1 p.2 ne nf nch e n, free p.1 p.2 nch e n, ne, nf, d⟩
theorem Inv.un {t' : Nat} (I : Inv X pins σ H s) (u : Un X.fs [] H H' s.heap h') (hok : HOk X.prog X.w H' h') : Inv X pins σ H' { s with heap := h', toks := t' } := by
 obtain ⟨m, ⟨o, es, ep, ho, r⟩, _⟩ := id I.loc
 obtain ⟨sl, hL⟩ := u.any ho I.free (by simp)
 exact I.step (g' := s.gens) (d' := s.drawn) (ch := []) (fun _ z => nomatch z) (fun b o _ hb _ e n => u.keep b o e n hb (by simp)) (fun b o _ hb _ e n => u.slot b o e n hb (by simp)) (fun b o _ e n => u.free b o e n (by simp)) (fun b o _ e => u.there b o e (by simp)) u.tups u.frzs u.tbls (fun m' hm => by
  obtain ⟨o', es', ep', ho', r'⟩ := hm
  rw [ho] at ho'; cases ho'
  exact ⟨_, es', ep', hL, r'⟩) hok I.bare
theorem Inv.call {g' : Array GenState} {t' : Nat} {d' : Drawn} {ch : List Addr} (I : Inv X pins σ H s) (u : Un (frs X.stack) ch H H' s.heap h') (hok : HOk X.prog X.w H' h') (hg : AllBare g')
  (hch : ∀ b ∈ ch, (b ∈ X.ex ∨ X.s₀.heap.objs.size ≤ b) ∧ b ≠ X.env.locals ∧ (∀ x c, X.env.cells.lookup x = some c → c ≠ b) ∧ ∀ p ∈ X.pn ++ pins, p.1 ≠ b) :
  Inv X pins σ H' { s with heap := h', gens := g', drawn := d', toks := t' } := by
 obtain ⟨m, ⟨o, es, ep, ho, r⟩, _⟩ := id I.loc
 obtain ⟨sl, hL⟩ := u.any ho I.free fun z => (hch _ z).2.1 rfl
 exact I.step (ch := ch) hch (fun b o hL hb hc e n => u.keep b o e n (fun z => (List.mem_cons.mp (I.stkSub b z)).elim hL hb) hc) (fun b o _ _ hc e n => u.any e n hc) (fun b o hc e n => u.free b o e n hc) (fun b o hc e => u.there b o e hc) u.tups u.frzs u.tbls (fun m' hm => by
  obtain ⟨o', es', ep', ho', r'⟩ := hm
  rw [ho] at ho'; cases ho'
  exact ⟨_, es', ep', hL, r'⟩) hok hg
theorem Inv.turned {t' : Nat} {it : Addr} (I : Inv X pins σ H s) (k : ∀ b o, b ≠ it → s.heap.get? b = some o → h'.get? b = some o) (hn : H it = none) (hL : it ≠ X.env.locals)
  (h1 : it ∈ X.ex ∨ X.s₀.heap.objs.size ≤ it) (h2 : ∀ x c, X.env.cells.lookup x = some c → c ≠ it) (h3 : ∀ p ∈ X.pn ++ pins, p.1 ≠ it) : Inv X pins σ H { s with heap := h', toks := t' } := by
 have nit : ∀ b u, H b = some u → b ≠ it := fun b u e z => by rw [z, hn] at e; cases e
 refine I.step (g' := s.gens) (d' := s.drawn) (ch := [it]) (fun b hb => ?_) (fun b o _ _ hc e _ => k b o (fun z => hc (by simp [z])) e) (fun b o _ _ hc e _ => ⟨o.slots, k b o (fun z => hc (by simp [z])) e⟩) (fun _ _ _ _ n => n)
  (fun b o hc e => ⟨o, k b o (fun z => hc (by simp [z])) e⟩) (fun _ _ e => e) (fun _ _ _ e => e) (fun b ps e => ⟨#[], by rw [e]; simp⟩) (fun m hm => ?_) (fun b u e => ?_) I.bare
 ·have e : b = it := by simpa using hb
  subst e
  exact ⟨h1, hL, h2, h3⟩
 ·obtain ⟨o, es, ep, ho, r⟩ := hm
  exact ⟨o, es, ep, k _ o (Ne.symm hL) ho, r⟩
 ·refine (I.hok b u e).stay (fun c v hc q => k c v ?_ q) (fun _ q => q) fun _ _ q => q
  rcases hc with z | z
  ·rw [z]; exact nit b u e
  ·exact nit c _ z
theorem Inv.tok (I : Inv X pins σ H s) (t : Nat) : Inv X pins σ H { s with toks := t } := I.un (h' := s.heap) (t' := t) Un.refl I.hok
theorem Inv.kept {t' : Nat} (I : Inv X pins σ H s) (k : ∀ b u, s.heap.get? b = some u → h'.get? b = some u) : Inv X pins σ H { s with heap := h', toks := t' } := I.un (Un.kept k) (I.hok.kept k)
theorem Inv.laid {a : Addr} {o : HO} {t' : Nat} (I : Inv X pins σ H s) (k : ∀ b u, s.heap.get? b = some u → h'.get? b = some u) (hp : s.heap.objs.size ≤ a) (new : cw X.prog X.w (upd H a o) h' a o) :
  Inv X pins σ (upd H a o) { s with heap := h', toks := t' } := I.un (Un.laid k hp (I.hok.fresh hp)) (I.hok.laid k hp new)
theorem Inv.write {x e : Addr} {o : HO} {t' : Nat} (I : Inv X pins σ H s) (mu : Mut (H x)) (he : e = x ∨ H e = some (.own x)) (k : ∀ b u, b ≠ e → s.heap.get? b = some u → h'.get? b = some u) (heo : ∃ u, h'.get? e = some u)
  (new : cw X.prog X.w (upd H x o) h' x o) : Inv X pins σ (upd H x o) { s with heap := h', toks := t' } := I.un (Un.write mu he k heo) (I.hok.write mu he k heo new)
theorem Inv.weak {σ' : List (Option V)} (I : Inv X pins σ H s) (hl : σ'.length = σ.length) (w : ∀ (i : Nat) v, σ'[i]? = some (some v) → σ[i]? = some (some v)) : Inv X pins σ' H s :=
 ⟨I.ok, I.os, I.bare, I.base, let ⟨m, hn, hl'⟩ := I.loc; ⟨m, hn, fun i x v e1 e2 e3 => hl' i x v e1 (w i v e2) e3⟩, I.cell, I.free, I.freeC, I.pin, I.hok, hl.trans I.len⟩
theorem Inv.pins_of {pins' : List (Addr × Obj)} (I : Inv X pins σ H s) (h : ∀ p ∈ pins', s.heap.get? p.1 = some p.2 ∧ H p.1 = none ∧ p.1 ≠ X.env.locals ∧ p.1 ∉ X.fs ∧ ∀ v, p.2.data ≠ .cell v) : Inv X pins' σ H s :=
 ⟨I.ok, I.os, I.bare, I.base, I.loc, I.cell, I.free, I.freeC, fun p hp => (List.mem_append.mp hp).elim (fun z => I.pin p (List.mem_append_left _ z)) (h p), I.hok, I.len⟩
theorem qy {N : List Str} (hN : N.Nodup) {i j : Nat} {x : Str} (a : N[i]? = some x) (b : N[j]? = some x) : i = j := by
 obtain ⟨h1, e1⟩ := List.getElem?_eq_some_iff.mp a
 obtain ⟨h2, e2⟩ := List.getElem?_eq_some_iff.mp b
 exact (List.getElem_inj hN).mp (e1.trans e2.symm)
theorem om {M : Model} {A : Around} {E : Value → Shared → Prop} {i : Nat} {x : Str} {v : V} {u : Value} {Q : Unit → Shared → Prop} (I : Inv X pins σ H s) (hN : X.N.Nodup) (hi : X.N[i]? = some x) (hx : Loc X.env.scope x) (r : bX v u)
  (h : ∀ s', Inv X pins (σ.set i (some v)) H s' → (∃ a, Heap.SameBut a s.heap s'.heap ∧ (a = X.env.locals ∨ X.env.cells.lookup x = some a)) → Q () s') (hf : X.fn x = true ∨ X.env.scope.names.lookup x = some .local := by first | exact .inl rfl | exact .inr rfl | assumption) : wpAny M A (storeName X.env x u) Q E s := by
 obtain ⟨m, hn, hl⟩ := id I.loc
 have hcls : (X.env.scope.kind == .class || (X.env.scope.kind == .module && X.env.locals != X.env.globals)) = false := by rw [I.ok.kind]; rfl
 have hiσ : i < σ.length := by rw [I.len]; exact (List.getElem?_eq_some_iff.mp hi).1
 have cne := I.cne
 have tracked : ∀ {a : Addr} {h' : Heap}, (∃ o, s.heap.get? a = some o ∧ H a = none) → Heap.SameBut a s.heap h' → HOk X.prog X.w H h' := fun {a h'} ha hs b ob e => by
  obtain ⟨_, _, hfree⟩ := ha
  refine (I.hok b ob e).stay (fun c w' hc q => (hs.2 c ?_).trans q) (fun _ q => q) fun _ _ q => q
  rintro rfl
  rcases hc with rfl | hc
  ·rw [hfree] at e; cases e
  ·rw [hfree] at hc; cases hc
 rcases hx with hk | hk
 ·refine wpAny_storeName_local hk hn (fun h' hn' hs => ?_) hcls
  obtain ⟨oL, _, _, hoL, _⟩ := id hn
  refine h _ ⟨I.ok, I.os, I.bare, ⟨fun b o e n hb hx => ?_, fun b o e n hb hx => ?_, I.base.free, fun b o e hx => ?_, I.base.tups, I.base.frzs, I.base.tbls⟩, ⟨_, hn', fun j y v' e1 e2 e3 => ?_⟩, fun y c e => ?_, I.free, I.freeC, fun p hp => ?_, tracked ⟨oL, hoL, I.free⟩ hs, by simpa using I.len⟩ ⟨_, hs, .inl rfl⟩
  ·exact (hs.2 b (Nat.ne_of_lt (Nat.lt_of_lt_of_le (Heap.lt_size e) I.ok.above))).trans (I.base.keep b o e n hb hx)
  ·obtain ⟨sl, e1⟩ := I.base.slot b o e n hb hx
   exact ⟨sl, (hs.2 b (Nat.ne_of_lt (Nat.lt_of_lt_of_le (Heap.lt_size e) I.ok.above))).trans e1⟩
  ·obtain ⟨o', e1⟩ := I.base.there b o e hx
   exact ⟨o', (hs.2 b (Nat.ne_of_lt (Nat.lt_of_lt_of_le (Heap.lt_size e) I.ok.above))).trans e1⟩
  ·by_cases hj : j = i
   ·subst hj
    rw [hi] at e1; cases e1
    rw [List.getElem?_set_self hiσ] at e2
    cases e2
    exact ⟨u, r, .inl ⟨hk, by simp⟩⟩
   ·rw [List.getElem?_set_ne (Ne.symm hj)] at e2
    obtain ⟨u', r', q⟩ := hl j y v' e1 e2 e3
    refine ⟨u', r', ?_⟩
    rcases q with ⟨k, e⟩ | ⟨k, c, e, z⟩
    ·refine .inl ⟨k, ?_⟩
     have : y ≠ x := fun e => hj (qy hN e1 (e ▸ hi))
     simp [this, e]
    ·exact .inr ⟨k, c, e, z.sameBut hs (cne y c e)⟩
  ·obtain ⟨w', z⟩ := I.cell y c e
   exact ⟨w', z.sameBut hs (cne y c e)⟩
  ·obtain ⟨e, n, ne, nf, d⟩ := I.pin p hp
   exact ⟨(hs.2 p.1 ne).trans e, n, ne, nf, d⟩
 ·have hfn : X.fn x = true := by
   rcases hf with z | z
   ·exact z
   ·rw [z] at hk; cases hk
  obtain ⟨c, hc⟩ := I.ok.has x (.inl hk)
  obtain ⟨w', z⟩ := I.cell x c hc
  refine wpAny_storeName_cell I.ok.kind hk hc z (fun h' hc' hs => ?_)
  obtain ⟨oc, hoc, hocd⟩ := id z
  refine h { s with heap := h' } ⟨I.ok, I.os, I.bare, ⟨fun b o e n hb hx => ?_, fun b o e n hb hx => ?_, I.base.free, fun b o e hx => ?_, I.base.tups, I.base.frzs, I.base.tbls⟩, ⟨m, hn.sameBut hs (Ne.symm (cne x c hc)), fun j y v' e1 e2 e3 => ?_⟩, fun y c' e => ?_, I.free, I.freeC, fun p hp => ?_, tracked ⟨oc, hoc, I.freeC x c hc⟩ hs, by simpa using I.len⟩ ⟨c, hs, .inr hc⟩
  ·exact (hs.2 b (Nat.ne_of_lt (Nat.lt_of_lt_of_le (Heap.lt_size e) (I.ok.cab x c hfn hc)))).trans (I.base.keep b o e n hb hx)
  ·obtain ⟨sl, e1⟩ := I.base.slot b o e n hb hx
   exact ⟨sl, (hs.2 b (Nat.ne_of_lt (Nat.lt_of_lt_of_le (Heap.lt_size e) (I.ok.cab x c hfn hc)))).trans e1⟩
  ·obtain ⟨o', e1⟩ := I.base.there b o e hx
   exact ⟨o', (hs.2 b (Nat.ne_of_lt (Nat.lt_of_lt_of_le (Heap.lt_size e) (I.ok.cab x c hfn hc)))).trans e1⟩
  ·by_cases hj : j = i
   ·subst hj
    rw [hi] at e1; cases e1
    rw [List.getElem?_set_self hiσ] at e2
    cases e2
    exact ⟨u, r, .inr ⟨.inl hk, c, hc, hc'⟩⟩
   ·rw [List.getElem?_set_ne (Ne.symm hj)] at e2
    obtain ⟨u', r', q⟩ := hl j y v' e1 e2 e3
    refine ⟨u', r', ?_⟩
    rcases q with q | ⟨k, c', e, z'⟩
    ·exact .inl q
    ·refine .inr ⟨k, c', e, z'.sameBut hs ?_⟩
     rintro rfl
     exact hj (qy hN e1 (I.ok.inj _ _ _ e hc ▸ hi))
  ·by_cases hcc : c' = c
   ·subst hcc; exact ⟨_, hc'⟩
   ·obtain ⟨w2, z2⟩ := I.cell y c' e
    exact ⟨w2, z2.sameBut hs hcc⟩
  ·obtain ⟨e, n, ne, nf, d⟩ := I.pin p hp
   refine ⟨(hs.2 p.1 ?_).trans e, n, ne, nf, d⟩
   intro q
   rw [q, hoc] at e
   have q' : oc = p.2 := Option.some.inj e
   exact d w' (by rw [← q']; exact hocd)
theorem qO {M : Model} {A : Around} {E : Value → Shared → Prop} {i : Nat} {x : Str} {v : V} {u : Value} {Q : Unit → Shared → Prop} (I : Inv X pins σ H s) (hN : X.N.Nodup) (hi : X.N[i]? = some x) (hx : Loc X.env.scope x) (r : bX v u)
  (h : ∀ s', Inv X pins (σ.set i (some v)) H s' → Q () s') (hf : X.fn x = true ∨ X.env.scope.names.lookup x = some .local := by first | exact .inl rfl | exact .inr rfl | assumption) : wpAny M A (storeName X.env x u) Q E s :=
 om I hN hi hx r (fun s' I' _ => h s' I') hf
theorem Inv.call' {s' : Shared} {ch : List Addr} (I : Inv X pins σ H s) (ho : s'.os = s.os) (u : Un (frs X.stack) ch H H' s.heap s'.heap) (hok : HOk X.prog X.w H' s'.heap) (hg : AllBare s'.gens)
  (hch : ∀ b ∈ ch, (b ∈ X.ex ∨ X.s₀.heap.objs.size ≤ b) ∧ b ≠ X.env.locals ∧ (∀ x c, X.env.cells.lookup x = some c → c ≠ b) ∧ ∀ p ∈ X.pn ++ pins, p.1 ≠ b) : Inv X pins σ H' s' := by
 obtain ⟨h', g', d', t', o'⟩ := s'
 have e : o' = s.os := ho
 subst e
 exact I.call (g' := g') (t' := t') (d' := d') u hok hg hch
end
noncomputable abbrev XK := Value → Option Addr → Hp → Prop
noncomputable abbrev St := List (Option V)
noncomputable abbrev VK := V → Hp → Prop
noncomputable abbrev TE := St → Hp → VK → Prop
noncomputable abbrev TT := St → Hp → (Bool → Hp → Prop) → Prop
noncomputable abbrev TA := St → Hp → (List V → Hp → Prop) → Prop
structure Ends where
 nx : St → Hp → Prop
 rt : VK
 bk : St → Hp → Prop := fun _ _ => False
 ct : St → Hp → Prop := fun _ _ => False
noncomputable abbrev TS := Ends → St → Hp → Prop
noncomputable def EP (X : Cx) (pins : List (Addr × Obj)) (σ : St) (Q : VK) (u : Value) (s' : Shared) : Prop := ∃ v H', Inv X pins σ H' s' ∧ bX v u ∧ Q v H'
noncomputable def TP (X : Cx) (pins : List (Addr × Obj)) (σ : St) (Q : Bool → Hp → Prop) (b : Bool) (s' : Shared) : Prop := ∃ H', Inv X pins σ H' s' ∧ Q b H'
noncomputable def AP (X : Cx) (pins : List (Addr × Obj)) (σ : St) (Q : List V → Hp → Prop) (us : List Value) (s' : Shared) : Prop := ∃ vs H', Inv X pins σ H' s' ∧ bE vs us ∧ Q vs H'
noncomputable def SP (X : Cx) (pins : List (Addr × Obj)) (D : Ends) (f : Flow) (s' : Shared) : Prop :=
 match f with
 | .next => ∃ σ' H', Inv X pins σ' H' s' ∧ D.nx σ' H'
 | .brk => ∃ σ' H', Inv X pins σ' H' s' ∧ D.bk σ' H'
 | .cont => ∃ σ' H', Inv X pins σ' H' s' ∧ D.ct σ' H'
 | .ret u => ∃ v σ' H', Inv X pins σ' H' s' ∧ bX v u ∧ D.rt v H'
noncomputable def PE (X : Cx) (e : Expr) (t : TE) : Prop :=
 ∀ (pins : List (Addr × Obj)) (s : Shared) (σ : St) (H : Hp) (Q : VK), Inv X pins σ H s → t σ H Q → wpAny (model X.prog X.w) X.A (eval e X.env) (EP X pins σ Q) X.xe s
noncomputable def PT (X : Cx) (e : Expr) (t : TT) : Prop :=
 ∀ (pins : List (Addr × Obj)) (s : Shared) (σ : St) (H : Hp) (Q : Bool → Hp → Prop), Inv X pins σ H s → t σ H Q → wpAny (model X.prog X.w) X.A (isTrue e X.env (eval e X.env)) (TP X pins σ Q) X.xe s
noncomputable def PW (X : Cx) (e : Expr) (t : TT) : Prop :=
 ∀ (whole : Sem Value) (pins : List (Addr × Obj)) (s : Shared) (σ : St) (H : Hp) (Q : Bool → Hp → Prop), Inv X pins σ H s → t σ H Q → wpAny (model X.prog X.w) X.A (isTrue e X.env whole) (TP X pins σ Q) X.xe s
theorem PW.pt {X : Cx} {e : Expr} {t : TT} (h : PW X e t) : PT X e t := h _
noncomputable def PA (X : Cx) (es : List Expr) (t : TA) : Prop :=
 ∀ (pos : Pos) (pins : List (Addr × Obj)) (s : Shared) (σ : St) (H : Hp) (Q : List V → Hp → Prop), Inv X pins σ H s → t σ H Q → wpAny (model X.prog X.w) X.A (spliced (backTo pos (starEach es X.env))) (AP X pins σ Q) X.xe s
noncomputable def PS (X : Cx) (st : Stmt) (t : TS) : Prop :=
 ∀ (pins : List (Addr × Obj)) (s : Shared) (σ : St) (H : Hp) (D : Ends), Inv X pins σ H s → t D σ H → wpAny (model X.prog X.w) X.A (exec st X.env) (SP X pins D) X.xe s
noncomputable def PSs (X : Cx) (st : List Stmt) (t : TS) : Prop :=
 ∀ (pins : List (Addr × Obj)) (s : Shared) (σ : St) (H : Hp) (D : Ends), Inv X pins σ H s → t D σ H → wpAny (model X.prog X.w) X.A (execs st X.env) (SP X pins D) X.xe s
theorem thn {α : Type} {t : Sem α} {Q Q' : α → Shared → Prop} {M : Model} {A : Around} {E : Value → Shared → Prop} {s : Shared} (h : wpAny M A t Q E s) (hQ : ∀ a s, Q a s → Q' a s) : wpAny M A t Q' E s := wpAny_mono h hQ fun _ _ x => x
section
variable {X : Cx}
theorem bin {a b : Expr} {ta tb : TE} (ha : PE X a ta) (hb : PE X b tb) {pins : List (Addr × Obj)} {s : Shared} {σ : St} {H : Hp} {R : V → V → Hp → Prop} (I : Inv X pins σ H s) (h : ta σ H fun x H1 => tb σ H1 fun y H2 => R x y H2)
  {α : Type} {Q : α → Shared → Prop} {f : Value → Value → Sem α}
  (hf : ∀ v u s2 x y H2, Inv X pins σ H2 s2 → bX x v → bX y u → R x y H2 → wpAny (model X.prog X.w) X.A (f v u) Q X.xe s2) :
  wpAny (model X.prog X.w) X.A (eval a X.env) (fun v s₁ => wpAny (model X.prog X.w) X.A (eval b X.env) (fun u s₂ => wpAny (model X.prog X.w) X.A (f v u) Q X.xe s₂) X.xe s₁) X.xe s := by
 refine thn (ha pins s σ H _ I h) fun v s1 ⟨x, H1, I1, r1, q1⟩ => ?_
 refine thn (hb pins s1 σ H1 _ I1 q1) fun u s2 ⟨y, H2, I2, r2, q2⟩ => ?_
 exact hf v u s2 x y H2 I2 r1 r2 q2
noncomputable def oi (i : Nat) : TE := fun σ H Q => ∃ v, σ[i]? = some (some v) ∧ Q v H
noncomputable def tC (v : V) : TE := fun _ H Q => Q v H
theorem HL {i : Nat} {x : Str} {pos : Pos} (hN : X.N[i]? = some x) (hv : Vis X.env.scope x) (hd : (x == ("__debug__" : Str)) = false := by decide) (hcd : (x == ("__classdict__" : Str)) = false := by decide) : PE X (.Name x pos) (oi i) := by
 intro pins s σ H Q I h
 obtain ⟨v, e, h⟩ := h
 obtain ⟨m, hn, hl⟩ := I.loc
 obtain ⟨u, r, l⟩ := hl i x v hN e hv
 have fin : EP X pins σ Q u s := ⟨v, H, I, r, h⟩
 rcases l with ⟨hk, hm⟩ | ⟨hk, c, hc, hcell⟩
 ·exact wpAny_Name (wpAny_loadName_local I.ok.kind hk hn hm fin) hd
 ·rcases hk with hk | hk
  ·exact wpAny_Name (wpAny_loadName_cell I.ok.kind hk hc hcell fin) hd
  ·exact wpAny_Name (wpAny_loadName_free I.ok.kind hk hc hcell fin hcd) hd
theorem af {i j pos} : PE X (.Constant (.int i) j pos) (tC (.int i)) := fun _ _ _ H _ I h => wpAny_Constant_int ⟨.int i, H, I.tok _, ⟨_, rfl⟩, h⟩
theorem gq {b j pos} : PE X (.Constant (.bool b) j pos) (tC (.bl b)) := fun _ _ _ H _ I h => Constant_bool ⟨.bl b, H, I, rfl, h⟩
theorem cu {j pos} : PE X (.Constant .none j pos) (tC .non) := fun _ _ _ H _ I h => Constant_none ⟨.non, H, I, rfl, h⟩
theorem ar {x j pos} : PE X (.Constant (.str x) j pos) (tC (.str x)) := fun _ _ _ H _ I h => Calls.Constant_str ⟨.str x, H, I.tok _, ⟨_, rfl⟩, h⟩
noncomputable def Gl (X : Cx) (x : Str) : Prop := X.env.kindOf x = some .globalImplicit
theorem jJ {E : Value → Shared → Prop} {pins : List (Addr × Obj)} {s : Shared} {σ : St} {H : Hp} {x : Str} {u : Value} {pos : Pos} {Q : Value → Shared → Prop} (I : Inv X pins σ H s) (hg : Gl X x) (hm : X.mg x = some u) (h : Q u s)
  (hd : (x == ("__debug__" : Str)) = false := by decide) : wpAny (model X.prog X.w) X.A (eval (.Name x pos) X.env) Q E s :=
 Calls.Name_function_global I.ok.kind hg (Calls.loadGlobal_global (by rw [I.ok.glob]; exact I.mod.glob.keeps I.bk) hm h) hd
theorem jz {E : Value → Shared → Prop} {pins : List (Addr × Obj)} {s : Shared} {σ : St} {H : Hp} {x : Str} {u : Value} {pos : Pos} {Q : Value → Shared → Prop} (I : Inv X pins σ H s) (hg : Gl X x) (hm : X.mg x = none) (hv : bootBuiltins x = some u) (h : Q u s)
  (hn : x ≠ "__name__" := by decide) (hd : (x == ("__debug__" : Str)) = false := by decide) : wpAny (model X.prog X.w) X.A (eval (.Name x pos) X.env) Q E s := by
 obtain ⟨mb, h1, h2⟩ := I.mod.blt
 exact Calls.Name_function_global I.ok.kind hg (Calls.loadGlobal_builtin (by rw [I.ok.glob]; exact I.mod.glob.keeps I.bk) hm (by rw [I.ok.blt]; exact h1.keeps I.bk) ((h2 x hn).trans hv) h) hd
theorem bU {x : Str} {v : V} {u : Value} {pos : Pos} (hg : Gl X x) (hm : X.mg x = some u) (r : bX v u) (hd : (x == ("__debug__" : Str)) = false := by decide) : PE X (.Name x pos) (tC v) :=
 fun _ _ _ H _ I h => jJ I hg hm ⟨v, H, I, r, h⟩ hd
theorem bK {x : Str} {v : V} {u : Value} {pos : Pos} (hg : Gl X x) (hm : X.mg x = none) (hv : bootBuiltins x = some u) (r : bX v u) (hn : x ≠ "__name__" := by decide) (hd : (x == ("__debug__" : Str)) = false := by decide) : PE X (.Name x pos) (tC v) :=
 fun _ _ _ H _ I h => jz I hg hm hv ⟨v, H, I, r, h⟩ hn hd
variable {a b : Expr} {ta tb : TE} {pos : Pos}
noncomputable def PC (X : Cx) (op : CmpOp) (a b : Expr) (t : TE) : Prop :=
 ∀ (pins : List (Addr × Obj)) (s : Shared) (σ : St) (H : Hp) (Q : VK), Inv X pins σ H s → t σ H Q →
  wpAny (model X.prog X.w) X.A (eval a X.env) (fun v s₁ => wpAny (model X.prog X.w) X.A (eval b X.env) (fun u s₂ => wpAny (model X.prog X.w) X.A (compareOp op v u) (EP X pins σ Q) X.xe s₂) X.xe s₁) X.xe s
noncomputable def tB (t : TE) : TT := fun σ H Q => t σ H fun x H1 => ∃ c, x = .bl c ∧ Q c H1
theorem Hk {op : CmpOp} {t : TE} (h : PC X op a b t) (h1 : behindInMarks op b = false := by first | exact nobehind _ (by decide) (by decide) | rfl) : PT X (.Compare a [op] [b] pos) (tB t) := by
 intro pins s σ H Q I hw
 refine wpAny_isTrue_Compare1 (thn (h pins s σ H _ I hw) fun v s1 h1 => thn h1 fun u s2 h2 => thn h2 fun c s3 ⟨x, H1, I1, r1, q1⟩ => ?_) h1
 obtain ⟨d, rfl, q⟩ := q1
 cases r1
 exact wpAny_truthy_bool ⟨H1, I1, q⟩
theorem cg {e : Expr} {t : TE} (h : PE X e t) (he : ∀ whole, isTrue e X.env whole = (do let v ← whole; standAt e.pos; holding [v] (truthy v)) := by intro _; rfl) : PT X e (tB t) := by
 intro pins s σ H Q I hw
 refine isTrue_plain (thn (h pins s σ H _ I hw) fun v s1 ⟨x, H1, I1, r1, q1⟩ => ?_) (he _)
 obtain ⟨d, rfl, q⟩ := q1
 cases r1
 exact wpAny_truthy_bool ⟨H1, I1, q⟩
variable {tA tB' : TT} {jq : List Expr}
noncomputable def Jk (t u : TT) : TT := fun σ H Q => t σ H fun c H1 => if c = true then u σ H1 Q else Q false H1
noncomputable def tOr (t u : TT) : TT := fun σ H Q => t σ H fun c H1 => if c = true then Q true H1 else u σ H1 Q
noncomputable def IR (t : TT) : TT := fun σ H Q => t σ H fun c H1 => Q (!c) H1
theorem gC (ha : PT X a tA) : PW X (.BoolOp .And [a] pos) tA := by
 intro wh pins s σ H Q I h
 refine isTrue_and (thn (ha pins s σ H Q I h) fun c s1 e => ?_)
 cases c with
 | true => exact isTrue_and_nil e
 | false => exact e
theorem du (ha : PT X a tA) : PW X (.BoolOp .Or [a] pos) tA := by
 intro wh pins s σ H Q I h
 refine isTrue_or (thn (ha pins s σ H Q I h) fun c s1 e => ?_)
 cases c with
 | false => exact isTrue_or_nil e
 | true => exact e
theorem jF (ha : PT X a tA) (hb : PW X (.BoolOp .And (b :: jq) pos) tB') : PW X (.BoolOp .And (a :: b :: jq) pos) (Jk tA tB') := by
 intro wh pins s σ H Q I h
 refine isTrue_and (thn (ha pins s σ H _ I h) fun c s1 ⟨H1, I1, q1⟩ => ?_)
 cases c with
 | true => exact hb wh pins s1 σ H1 Q I1 q1
 | false => exact ⟨H1, I1, q1⟩
theorem dL (ha : PT X a tA) (hb : PW X (.BoolOp .Or (b :: jq) pos) tB') : PW X (.BoolOp .Or (a :: b :: jq) pos) (tOr tA tB') := by
 intro wh pins s σ H Q I h
 refine isTrue_or (thn (ha pins s σ H _ I h) fun c s1 ⟨H1, I1, q1⟩ => ?_)
 cases c with
 | true => exact ⟨H1, I1, q1⟩
 | false => exact hb wh pins s1 σ H1 Q I1 q1
theorem cz (ha : PT X a tA) : PT X (.UnaryOp .Not a pos) (IR tA) := by
 intro pins s σ H Q I h
 exact isTrue_not (ha pins s σ H (fun c H1 => Q (!c) H1) I h)
noncomputable def Fv (ta tb : TE) : TE := fun σ H Q => ta σ H fun x H1 => ∃ c, x = .bl c ∧ if c = true then tb σ H1 Q else Q (.bl false) H1
noncomputable def Js (ta tb : TE) : TE := fun σ H Q => ta σ H fun x H1 => ∃ c, x = .bl c ∧ if c = true then Q (.bl true) H1 else tb σ H1 Q
noncomputable def Ja (ta : TE) : TE := fun σ H Q => ta σ H fun x H1 => ∃ c, x = .bl c ∧ Q (.bl (!c)) H1
theorem de {op} {t : TE} (h : PE X a t) : PE X (.BoolOp op [a] pos) t := fun pins s σ H Q I hw => BoolOp_one (h pins s σ H Q I hw)
theorem cZ (ha : PE X a ta) (hb : PE X (.BoolOp .And (b :: jq) pos) tb) : PE X (.BoolOp .And (a :: b :: jq) pos) (Fv ta tb) := by
 intro pins s σ H Q I h
 refine BoolOp_and (thn (ha pins s σ H _ I h) fun v s1 ⟨x, H1, I1, r1, q1⟩ => ?_)
 obtain ⟨c, rfl, q1⟩ := q1
 cases r1
 refine wpAny_truthy_bool ?_
 cases c with
 | true => exact hb pins s1 σ H1 Q I1 q1
 | false => exact ⟨.bl false, H1, I1, rfl, q1⟩
theorem zX (ha : PE X a ta) (hb : PE X (.BoolOp .Or (b :: jq) pos) tb) : PE X (.BoolOp .Or (a :: b :: jq) pos) (Js ta tb) := by
 intro pins s σ H Q I h
 refine BoolOp_or (thn (ha pins s σ H _ I h) fun v s1 ⟨x, H1, I1, r1, q1⟩ => ?_)
 obtain ⟨c, rfl, q1⟩ := q1
 cases r1
 refine wpAny_truthy_bool ?_
 cases c with
 | false => exact hb pins s1 σ H1 Q I1 q1
 | true => exact ⟨.bl true, H1, I1, rfl, q1⟩
theorem zM (ha : PE X a ta) : PE X (.UnaryOp .Not a pos) (Ja ta) := by
 intro pins s σ H Q I h
 refine UnaryOp_ (thn (ha pins s σ H _ I h) fun v s1 ⟨x, H1, I1, r1, q1⟩ => ?_)
 obtain ⟨c, rfl, q1⟩ := q1
 cases r1
 exact not_of (wpAny_truthy_bool ⟨.bl (!c), H1, I1, rfl, q1⟩)
noncomputable def tIf (t : TT) (ta tb : TE) : TE := fun σ H Q => t σ H fun c H1 => if c = true then ta σ H1 Q else tb σ H1 Q
theorem qv {c : Expr} (hc : PT X c tA) (ha : PE X a ta) (hb : PE X b tb) : PE X (.IfExp c a b pos) (tIf tA ta tb) := by
 intro pins s σ H Q I h
 refine wpAny_IfExp (thn (hc pins s σ H _ I h) fun d s1 ⟨H1, I1, q1⟩ => ?_)
 cases d with
 | true => exact ha pins s1 σ H1 Q I1 q1
 | false => exact hb pins s1 σ H1 Q I1 q1
end
noncomputable def SqL (K : PySem.W.Frag) (H : Hp) (a : Addr) (xs : List V) : Prop :=
 Rd H a (.lst xs) ∨
  ∃ (o : Obj) (its : Array Value) (n : Nat), K.lookup a = some o ∧ o.cls = .type "list" ∧ o.dict = none ∧ o.data = .seq its n ∧ its.size ≤ sizeLine ∧ bE xs its.toList
noncomputable def SqT (K : PySem.W.Frag) (H : Hp) (a : Addr) (xs : List V) : Prop :=
 Rd H a (.tup xs) ∨
  ∃ (o : Obj) (its : Array Value) (n : Nat), K.lookup a = some o ∧ o.cls = .type "tuple" ∧ o.data = .seq its n ∧ its.size ≤ sizeLine ∧ bE xs its.toList
noncomputable def Ji : Value → Option V
 | .none => some .non
 | .bool b => some (.bl b)
 | .int i _ => some (.int i)
 | .str x _ => some (.str x)
 | .bytes b _ => some (.byt b)
 | .float b _ => some (.flt b)
 | .ref a => some (.ref a)
 | .type n => some (.ty n)
 | _ => none
theorem bX.abs {x : V} {u : Value} (r : bX x u) : Ji u = some x := by
 cases x with
 | non => cases r; rfl
 | bl _ => cases r; rfl
 | int _ => obtain ⟨t, rfl⟩ := r; rfl
 | str _ => obtain ⟨t, rfl⟩ := r; rfl
 | byt _ => obtain ⟨t, rfl⟩ := r; rfl
 | flt _ => obtain ⟨t, rfl⟩ := r; rfl
 | ref _ => cases r; rfl
 | ty _ => cases r; rfl
theorem bX.inj {x y : V} {u : Value} (r : bX x u) (q : bX y u) : x = y := Option.some.inj (r.abs.symm.trans q.abs)
theorem bE.inj : ∀ {xs ys : List V} {us : List Value}, bE xs us → bE ys us → xs = ys
 | _, _, _, .nil, .nil => rfl
 | _, _, _, .cons r t, .cons r' t' => by rw [r.inj r', bE.inj t t']
section
variable {X : Cx} {pins : List (Addr × Obj)} {σ : St} {H : Hp} {s : Shared} {a : Addr} {xs ys : List V}
theorem SqL.of {K : PySem.W.Frag} (h : H a = some (.lst xs)) : SqL K H a xs := .inl (.inl h)
theorem SqT.of {K : PySem.W.Frag} (h : H a = some (.tup xs)) : SqT K H a xs := .inl (.inl h)
theorem Inv.list (I : Inv X pins σ H s) (h : SqL X.K H a xs) : ∃ its : List Value, bE xs its ∧ PlainL s.heap a its.toArray ∧ xs.length ≤ sizeLine := by
 rcases h with h | ⟨o, its, n, hk, hc, hd, hs, hz, r⟩
 ·obtain ⟨z, its, n, r, e⟩ := h.ok I.hok
  exact ⟨its, r, ⟨_, n, e, rfl, rfl, rfl⟩, z⟩
 ·refine ⟨its.toList, r, ⟨o, n, I.kIn a o hk, hc, hd, by simpa using hs⟩, ?_⟩
  have e := r.length
  simp only [Array.length_toList] at e
  omega
theorem Inv.tuple (I : Inv X pins σ H s) (h : SqT X.K H a xs) : ∃ its : List Value, bE xs its ∧ IsTup s.heap a its.toArray ∧ xs.length ≤ sizeLine := by
 rcases h with h | ⟨o, its, n, hk, hc, hs, hz, r⟩
 ·obtain ⟨z, its, r, p⟩ := h.ok I.hok
  exact ⟨its, r, p, z⟩
 ·refine ⟨its.toList, r, ⟨o, I.kIn a o hk, hc, n, by simpa using hs⟩, ?_⟩
  have e := r.length
  simp only [Array.length_toList] at e
  omega
theorem Inv.list_inj (I : Inv X pins σ H s) (h : SqL X.K H a xs) (h' : SqL X.K H a ys) : xs = ys := by
 obtain ⟨its, r, ⟨o, n, e, _, _, d⟩, _⟩ := I.list h
 obtain ⟨its', r', ⟨o', n', e', _, _, d'⟩, _⟩ := I.list h'
 rw [e] at e'; cases e'
 rw [d] at d'
 injection d' with d1 _
 have : its = its' := by simpa using congrArg Array.toList d1
 subst this
 exact r.inj r'
theorem Inv.tuple_inj (I : Inv X pins σ H s) (h : SqT X.K H a xs) (h' : SqT X.K H a ys) : xs = ys := by
 obtain ⟨its, r, ⟨o, e, _, n, d⟩, _⟩ := I.tuple h
 obtain ⟨its', r', ⟨o', e', _, n', d'⟩, _⟩ := I.tuple h'
 rw [e] at e'; cases e'
 rw [d] at d'
 injection d' with d1 _
 have : its = its' := by simpa using congrArg Array.toList d1
 subst this
 exact r.inj r'
end
noncomputable abbrev Cx.wish (X : Cx) (E : Value → Shared → Prop) : Cx := { X with xe := E }
noncomputable abbrev Cx.nox (X : Cx) : Cx := X.wish fun _ _ => False
theorem Cx.Ok.wish {X : Cx} (ok : X.Ok) (E : Value → Shared → Prop) : (X.wish E).Ok :=
 ⟨ok.mod, ok.kind, ok.glob, ok.blt, ok.above, ok.inj, ok.has, ok.cab, ok.hd, ok.frames, ok.stk, ok.exf, ok.bs, ok.bsz, ok.noex, ok.exfs, ok.funs, ok.frf⟩
theorem Cx.Ok.unwish {X : Cx} {E : Value → Shared → Prop} (ok : (X.wish E).Ok) : X.Ok :=
 ⟨ok.mod, ok.kind, ok.glob, ok.blt, ok.above, ok.inj, ok.has, ok.cab, ok.hd, ok.frames, ok.stk, ok.exf, ok.bs, ok.bsz, ok.noex, ok.exfs, ok.funs, ok.frf⟩
section
variable {X : Cx} {pins : List (Addr × Obj)} {σ : St} {H : Hp} {s : Shared} {E : Value → Shared → Prop}
theorem Inv.wish (I : Inv X pins σ H s) (E : Value → Shared → Prop) : Inv (X.wish E) pins σ H s := ⟨I.ok.wish E, I.os, I.bare, I.base, I.loc, I.cell, I.free, I.freeC, I.pin, I.hok, I.len⟩
theorem Inv.unwish (I : Inv (X.wish E) pins σ H s) : Inv X pins σ H s := ⟨I.ok.unwish, I.os, I.bare, I.base, I.loc, I.cell, I.free, I.freeC, I.pin, I.hok, I.len⟩
theorem SP.unwish {D : Ends} {f : Flow} {s' : Shared} (h : SP (X.wish E) pins D f s') : SP X pins D f s' := by
 cases f with
 | next => obtain ⟨σ', H', I, q⟩ := h; exact ⟨σ', H', I.unwish, q⟩
 | brk => obtain ⟨σ', H', I, q⟩ := h; exact ⟨σ', H', I.unwish, q⟩
 | cont => obtain ⟨σ', H', I, q⟩ := h; exact ⟨σ', H', I.unwish, q⟩
 | ret u => obtain ⟨v, σ', H', I, r, q⟩ := h; exact ⟨v, σ', H', I.unwish, r, q⟩
theorem PSs.nox {st : List Stmt} {t : TS} (h : PSs X.nox st t) : PSs X st t := fun pins s σ H D I hw =>
 wpAny_mono (h pins s σ H D (I.wish _) hw) (fun _ _ q => q.unwish) fun _ _ z => False.elim z
end
section
variable {X : Cx} {st : Stmt} {jq : List Stmt} {t u : TS} {e : Expr} {te : TE} {pos : Pos}
noncomputable def qE : TS := fun D σ H => D.nx σ H
noncomputable def iC (t u : TS) : TS := fun D σ H => t { D with nx := u D } σ H
theorem aR : PSs X [] qE := fun _ _ σ H _ I h => wpAny_execs_nil ⟨σ, H, I, h⟩
theorem ag (h1 : PS X st t) (h2 : PSs X jq u) : PSs X (st :: jq) (iC t u) := by
 intro pins s σ H D I h
 refine wpAny_execs_cons (thn (h1 pins s σ H { D with nx := u D } I h) fun f s1 q => ?_)
 cases f with
 | next =>
  obtain ⟨σ', H', I', q⟩ := q
  exact h2 pins s1 σ' H' D I' q
 | ret v => exact q
 | brk => exact q
 | cont => exact q
theorem av (h1 : PS X st t) : PSs X [st] t := by
 intro pins s σ H D I h
 refine wpAny_execs_cons (thn (h1 pins s σ H D I h) fun f s1 q => ?_)
 cases f with
 | next => exact wpAny_execs_nil q
 | ret v => exact q
 | brk => exact q
 | cont => exact q
noncomputable def HG : TS := fun D σ H => D.bk σ H
theorem Cn : PS X (.Break pos) HG := fun _ _ σ H _ I h => wpAny_Break ⟨σ, H, I, h⟩
theorem Inv.quiet {pins : List (Addr × Obj)} {σ : St} {H : Hp} {s : Shared} (I : Inv X pins σ H s) : interactive X.env = false := by simp [interactive, I.ok.kind]
noncomputable def Ix (te : TE) : TS := fun D σ H => te σ H fun _ H1 => D.nx σ H1
theorem dC (he : PE X e te) (hs : swapsWith e none pos.line X.env = pure false := by rfl) : PS X (.Expr e pos) (Ix te) := by
 intro pins s σ H D I h
 exact wpAny_Expr_any (thn (he pins s σ H _ I h) fun v s1 ⟨x, H1, I1, r1, q1⟩ => ⟨σ, H1, I1, q1⟩) I.quiet hs
noncomputable def Ck (te : TE) : TS := fun D σ H => te σ H D.rt
theorem aO (he : PE X e te) : PS X (.Return (some e) pos) (Ck te) := by
 intro pins s σ H D I h
 exact wpAny_Return_some (thn (he pins s σ H _ I h) fun v s1 ⟨x, H1, I1, r1, q1⟩ => ⟨x, σ, H1, I1, r1, q1⟩)
noncomputable def Jz (c : TT) (t u : TS) : TS := fun D σ H => c σ H fun b H1 => if b = true then t D σ H1 else u D σ H1
theorem bF {c : Expr} {a b : List Stmt} {tc : TT} (hc : PT X c tc) (ha : PSs X a t) (hb : PSs X b u) : PS X (.If c a b pos) (Jz tc t u) := by
 intro pins s σ H D I h
 refine wpAny_If (thn (hc pins s σ H _ I h) fun d s1 ⟨H1, I1, q1⟩ => ?_)
 cases d with
 | true => exact ha pins s1 σ H1 D I1 q1
 | false => exact hb pins s1 σ H1 D I1 q1
end
noncomputable abbrev TG := V → St → Hp → (St → Hp → Prop) → Prop
noncomputable abbrev TGs := List V → St → Hp → (St → Hp → Prop) → Prop
noncomputable def PG (X : Cx) (target : Expr) (t : TG) : Prop :=
 ∀ (pins : List (Addr × Obj)) (s : Shared) (σ : St) (H : Hp) (v : V) (u : Value) (Q : St → Hp → Prop), Inv X pins σ H s → bX v u → t v σ H Q →
  wpAny (model X.prog X.w) X.A (assign target X.env u) (fun _ s' => ∃ σ' H', Inv X pins σ' H' s' ∧ Q σ' H') X.xe s
noncomputable def PGs (X : Cx) (ts : List Expr) (t : TGs) : Prop :=
 ∀ (pins : List (Addr × Obj)) (s : Shared) (σ : St) (H : Hp) (vs : List V) (us : List Value) (Q : St → Hp → Prop), Inv X pins σ H s → bE vs us → t vs σ H Q →
  wpAny (model X.prog X.w) X.A (assignInOrder ((assignEach ts X.env).map (·.2)) us) (fun _ s' => ∃ σ' H', Inv X pins σ' H' s' ∧ Q σ' H') X.xe s
noncomputable abbrev FL := V → V → V → Hp → (Hp → Prop) → Prop
noncomputable def IK (X : Cx) (t : FL) : Prop :=
 ∀ (pins : List (Addr × Obj)) (s : Shared) (σ : St) (H : Hp) (o i v : V) (ov iv u : Value) (Q : Hp → Prop), Inv X pins σ H s → bX o ov → bX i iv → bX v u → t o i v H Q →
  wpAny (model X.prog X.w) X.A (setItem ov iv u) (fun _ s' => ∃ H', Inv X pins σ H' s' ∧ Q H') X.xe s
section
variable {X : Cx} {pos : Pos}
noncomputable def bp (i : Nat) : TG := fun v σ H Q => Q (σ.set i (some v)) H
theorem aS {i : Nat} {x : Str} (hN : X.N.Nodup) (hi : X.N[i]? = some x) (hx : Loc X.env.scope x) (hf : X.fn x = true ∨ X.env.scope.names.lookup x = some .local := by first | exact .inl rfl | exact .inr rfl | assumption) : PG X (.Name x pos) (bp i) := by
 intro pins s σ H v u Q I r h
 exact wpAny_assign_Name (qO I hN hi hx r (fun s' I' => ⟨_, H, I', h⟩) hf)
noncomputable def Hg : TGs := fun vs σ H Q => vs = [] ∧ Q σ H
noncomputable def sD (t : TG) (u : TGs) : TGs := fun vs σ H Q => ∃ v r, vs = v :: r ∧ t v σ H fun σ' H' => u r σ' H' Q
theorem mU : PGs X [] Hg := by
 intro pins s σ H vs us Q I r h
 obtain ⟨e, h⟩ := h
 subst e
 cases r
 exact assignInOrder_nil ⟨σ, H, I, h⟩
theorem bZ {e : Expr} {es : List Expr} {t : TG} {u : TGs} (h1 : PG X e t) (h2 : PGs X es u)
  (hs : (assignEach (e :: es) X.env).map (·.2) = assign e X.env :: (assignEach es X.env).map (·.2) := by rfl) : PGs X (e :: es) (sD t u) := by
 intro pins s σ H vs us Q I r h
 obtain ⟨v, vr, e1, h⟩ := h
 subst e1
 cases r with
 | cons r rr =>
  rw [hs]
  refine assignInOrder_cons (thn (h1 pins s σ H _ _ _ I r h) fun _ s1 ⟨σ1, H1, I1, q1⟩ => ?_)
  exact h2 pins s1 σ1 H1 _ _ Q I1 rr q1
noncomputable def DS (K : PySem.W.Frag) (n : Nat) (t : TGs) : TG := fun v σ H Q => ∃ a xs, v = .ref a ∧ SqT K H a xs ∧ xs.length = n ∧ t xs σ H Q
theorem vJ {es : List Expr} {k : Nat} {t : TGs} {n : Nat} (hc : X.calm = true) (h : PGs X es t)
  (hn : (assignEach es X.env).length = n := by rfl) (hst : (assignEach es X.env).findIdx? (·.1) = none := by rfl) : PG X (.Tuple es k pos) (DS X.K n t) := by
 intro pins s σ H v u Q I r hw
 obtain ⟨a, xs, e1, hq, hl, hw⟩ := hw
 subst e1
 cases r
 obtain ⟨its, rv, ht, hz⟩ := I.tuple hq
 refine assign_Tuple_tuple (I.ok.hd hc) ht (by simp [hn, ← hl, rv.length]) hst fun h' hx => ?_
 have I1 : Inv X pins σ H { s with heap := h' } := I.kept (t' := s.toks) fun b o e => hx b o (Nat.ne_of_lt (Heap.lt_size e)) e
 exact h pins _ σ H xs _ Q I1 (by simpa using rv) hw
noncomputable def Jm (to ti : TE) (t : FL) : TG := fun v σ H Q => to σ H fun o H1 => ti σ H1 fun i H2 => t o i v H2 fun H3 => Q σ H3
theorem Cg {o i : Expr} {to ti : TE} {t : FL} (ho : PE X o to) (hi : PE X i ti) (hs : IK X t)
  (ha : ∀ v, assign (.Subscript o i pos) X.env v = (do
   let ov ← holding [v] (eval o X.env)
   let iv ← holding [v, ov] (eval i X.env)
   standAt pos
   holding [v, ov, iv] (setItem ov iv v)
   release [v, ov, iv] []) := by intro _; rfl) : PG X (.Subscript o i pos) (Jm to ti t) := by
 intro pins s σ H v u Q I r h
 rw [ha]
 refine wpAny_bind (wpAny_holding (thn (ho pins s σ H _ I h) fun ov s1 ⟨x, H1, I1, r1, q1⟩ => ?_))
 refine wpAny_bind (wpAny_holding (thn (hi pins s1 σ H1 _ I1 q1) fun iv s2 ⟨y, H2, I2, r2, q2⟩ => ?_))
 refine wpAny_bind (wpAny_standAt (wpAny_bind (wpAny_holding (thn (hs pins s2 σ H2 x y v ov iv u _ I2 r1 r2 r q2) fun _ s3 ⟨H3, I3, q3⟩ => ?_))))
 exact wpAny_release ⟨σ, H3, I3, q3⟩
noncomputable def Ds (te : TE) (g : TG) : TS := fun D σ H => te σ H fun x H1 => g x σ H1 D.nx
theorem oz {tg e : Expr} {te : TE} {g : TG} (he : PE X e te) (hg : PG X tg g) (hs : swapsWithSole [tg] e pos.line X.env = pure false := by rfl) (hw : swappedStores [tg] e X.env = pure none := by rfl)
  (h1 : (assignEach [tg] X.env).map (·.2) = [assign tg X.env] := by rfl) : PS X (.Assign [tg] e pos) (Ds te g) := by
 intro pins s σ H D I h
 refine wpAny_Assign_stores (thn (he pins s σ H _ I h) fun v s1 ⟨x, H1, I1, r1, q1⟩ => ?_) hs hw
 rw [h1]
 exact thn (hg pins s1 σ H1 x v _ I1 r1 q1) fun _ s2 q => q
theorem aF {i : Nat} {x : Str} {e : Expr} {te : TE} {pos' : Pos} (hN : X.N.Nodup) (hi : X.N[i]? = some x) (hx : Loc X.env.scope x) (he : PE X e te) (hs : swapsWith e (some (.Name x pos')) pos.line X.env = pure false := by rfl) (hf : X.fn x = true ∨ X.env.scope.names.lookup x = some .local := by first | exact .inl rfl | exact .inr rfl | assumption) :
  PS X (.Assign [.Name x pos'] e pos) (Ds te (bp i)) := by
 intro pins s σ H D I h
 refine wpAny_Assign_Name (thn (he pins s σ H _ I h) fun v s1 ⟨y, H1, I1, r1, q1⟩ => ?_) hs
 exact qO I1 hN hi hx r1 (fun s2 I2 => ⟨_, H1, I2, q1⟩) hf
end
section
variable {X : Cx} {pos : Pos}
noncomputable def Hl (c : TT) (tb : TS) : TS := fun D σ H => ∃ W : Nat → St → Hp → Prop, (∃ m, W m σ H) ∧ ∀ m σ H, W m σ H →
 c σ H fun b H1 => if b = true then ∃ N : St → Hp → Prop, (∀ σ' H', N σ' H' → ∃ m', m' < m ∧ W m' σ' H') ∧ tb { D with nx := N, ct := N, bk := D.nx } σ H1 else D.nx σ H1
theorem xG {c : Expr} {body : List Stmt} {tc : TT} {tb : TS} (hp : PassesOwn (model X.prog X.w) X.A X.env X.xe) (hc : PT X c tc) (hb : PSs X body tb) : PS X (.While c body [] pos) (Hl tc tb) := by
 intro pins s σ H D I h
 obtain ⟨W, ⟨m0, w0⟩, turn⟩ := h
 refine wpAny_While (codeAny_whileLoop (fun n s' => ∃ σ' H', Inv X pins σ' H' s' ∧ W n σ' H') ?_ m0 ⟨σ, H, I, w0⟩)
 rintro n s1 ⟨σ1, H1, I1, w1⟩
 refine wpAny_passesOwn hp (thn (hc pins s1 σ1 H1 _ I1 (turn n σ1 H1 w1)) fun b s2 ⟨H2, I2, q2⟩ => ?_)
 cases b with
 | true =>
  obtain ⟨N, hN, q2⟩ := q2
  rw [if_pos rfl]
  refine wpAny_passesOwn hp (thn (hb pins s2 σ1 H2 _ I2 q2) fun f s3 q3 => ?_)
  cases f with
  | next =>
   obtain ⟨σ3, H3, I3, n3⟩ := q3
   obtain ⟨m', hm, w3⟩ := hN σ3 H3 n3
   exact ⟨m', hm, σ3, H3, I3, w3⟩
  | cont =>
   obtain ⟨σ3, H3, I3, n3⟩ := q3
   obtain ⟨m', hm, w3⟩ := hN σ3 H3 n3
   exact ⟨m', hm, σ3, H3, I3, w3⟩
  | brk => exact q3
  | ret v => exact q3
 | false =>
  rw [if_neg Bool.false_ne_true]
  exact wpAny_execs_nil ⟨σ1, H2, I2, q2⟩
end
structure It where
 go : Nat → Hp → Prop
 yld : Nat → Hp → V → Hp → Prop
 stop : Nat → Hp → Prop
noncomputable def lZ (X : Cx) (pins : List (Addr × Obj)) (H : Hp) (b : Addr) : Prop :=
 H b = none ∧ b ≠ X.env.locals ∧ b ∉ X.fs ∧ (b ∈ X.ex ∨ X.s₀.heap.objs.size ≤ b) ∧ (∀ x c, X.env.cells.lookup x = some c → c ≠ b) ∧ ∀ p ∈ X.pn ++ pins, p.1 ≠ b
theorem Inv.fpOk {X : Cx} {pins : List (Addr × Obj)} {σ : St} {H H' : Hp} {s : Shared} {b : Addr} (I : Inv X pins σ H s) (hb : s.heap.objs.size ≤ b) (hn : H' b = none) : lZ X pins H' b := by
 refine ⟨hn, Nat.ne_of_gt (Nat.lt_of_lt_of_le I.lt hb), I.nofs hb, .inr (Nat.le_trans I.sz hb), fun x c e z => ?_, fun p hp z => ?_⟩
 ·obtain ⟨v, q⟩ := I.cell x c e
  exact absurd (Nat.lt_of_lt_of_le q.lt (by rw [z]; exact hb)) (Nat.lt_irrefl _)
 ·exact absurd (Nat.lt_of_lt_of_le (Heap.lt_size (I.pin p hp).1) (by rw [z]; exact hb)) (Nat.lt_irrefl _)
structure Turn (P : Program) (w : World) (K : PySem.W.Frag) (tg : Expr) (J : It) (fp : List Addr) (it : Addr) (tn : Nat → Heap → Prop) : Prop where
 mem : it ∈ fp
 obj : ∀ i h, tn i h → ∀ b ∈ fp, ∃ o, h.get? b = some o ∧ ∀ v, o.data ≠ .cell v
 keep : ∀ i h h', tn i h → (∀ b ∈ fp, ∀ o, h.get? b = some o → h'.get? b = some o) → tn i h'
 item : ∀ (X : Cx), X.prog = P → X.w = w → X.K = K → X.calm = true → ∀ (i : Nat) (pins : List (Addr × Obj)) (s : Shared) (σ : St) (H : Hp) (E : Value → Shared → Prop), Inv X pins σ H s → (∀ b ∈ fp, lZ X pins H b) → tn i s.heap → J.go i H →
  wpAny (model P w) X.A (pyNext (.ref it)) (fun r s1 => ∃ u, r = some u ∧
   wpAny (model P w) X.A (letOwnedTupleGo tg (.ref it) u) (fun _ s2 => ∃ x H', Inv X pins σ H' s2 ∧ bX x u ∧ J.yld i H x H' ∧ tn (i + 1) s2.heap ∧ ∀ b ∈ fp, H' b = none) E s1) E s
 done : ∀ (X : Cx), X.prog = P → X.w = w → X.K = K → X.calm = true → ∀ (i : Nat) (pins : List (Addr × Obj)) (s : Shared) (σ : St) (H : Hp) (E : Value → Shared → Prop), Inv X pins σ H s → (∀ b ∈ fp, lZ X pins H b) → tn i s.heap → J.stop i H →
  wpAny (model P w) X.A (pyNext (.ref it)) (fun r s1 => r = none ∧ Inv X pins σ H s1) E s
 self : ∀ (A : Around) (i : Nat) (s : Shared) (Q : Value → Shared → Prop) (E : Value → Shared → Prop), tn i s.heap → Q (.ref it) s → wpAny (model P w) A (pyIter (.ref it)) Q E s
noncomputable abbrev TI := St → Hp → (It → Hp → Prop) → Prop
noncomputable def PIE (X : Cx) (pins : List (Addr × Obj)) (σ : St) (tg : Expr) (R : It → Hp → Prop) (itv : Value) (s2 : Shared) : Prop :=
 ∃ (it : Addr) (fp : List Addr) (tn : Nat → Heap → Prop) (J : It) (H' : Hp), itv = .ref it ∧ Inv X pins σ H' s2 ∧ Turn X.prog X.w X.K tg J fp it tn ∧ tn 0 s2.heap ∧ (∀ b ∈ fp, lZ X pins H' b) ∧ R J H'
noncomputable def PI (X : Cx) (tg iter : Expr) (wi : TI) : Prop :=
 ∀ (pins : List (Addr × Obj)) (s : Shared) (σ : St) (H : Hp) (R : It → Hp → Prop), Inv X pins σ H s → wi σ H R →
  wpAny (model X.prog X.w) X.A (eval iter X.env) (fun v s1 => wpAny (model X.prog X.w) X.A (pyIter v) (PIE X pins σ tg R) X.xe s1) X.xe s
theorem qz {M : Model} {A : Around} {E : Value → Shared → Prop} {s : Shared} {tg : Expr} {it : Addr} {u : Value} {o : Obj} {n : String} {vs : Array Value} {Q : Unit → Shared → Prop} (ho : s.heap.get? it = some o) (hc : o.cls = .type n) (hd : o.data = .fields vs)
    (hn : ["enumerate", "zip", "dict_itemiterator", "dict_reverseitemiterator", "odict_iterator", "itertools.zip_longest", "itertools.pairwise"].contains n = false) (hQ : Q () s) : wpAny M A (letOwnedTupleGo tg (.ref it) u) Q E s := by
  unfold letOwnedTupleGo
  cases tg <;> first
    | exact wpAny_pure hQ
    | (cases u <;> first
        | exact wpAny_pure hQ
        | (refine wpAny_bind (wpAny_load ho ?_)
           rw [hc, hd]
           show wpAny M A (if (["enumerate", "zip", "dict_itemiterator", "dict_reverseitemiterator", "odict_iterator", "itertools.zip_longest", "itertools.pairwise"].contains n && vs[0]? == some (rawInt _)) = true then _ else _) Q E s
           rw [if_neg (by intro h; rw [hn, Bool.false_and] at h; cases h)]
           exact wpAny_pure hQ))
noncomputable def Itl (K : PySem.W.Frag) (a : Addr) : It :=
 ⟨fun i H => ∃ xs x, SqL K H a xs ∧ xs[i]? = some x, fun i H x H' => H' = H ∧ ∀ xs, SqL K H a xs → xs[i]? = some x, fun i H => ∃ xs, SqL K H a xs ∧ xs.length ≤ i⟩
noncomputable def Itt (K : PySem.W.Frag) (a : Addr) : It :=
 ⟨fun i H => ∃ xs x, SqT K H a xs ∧ xs[i]? = some x, fun i H x H' => H' = H ∧ ∀ xs, SqT K H a xs → xs[i]? = some x, fun i H => ∃ xs, SqT K H a xs ∧ xs.length ≤ i⟩
noncomputable def Itr (lo : Int) (n : Nat) : It := ⟨fun i _ => i < n, fun i H x H' => H' = H ∧ x = .int (lo + i), fun i _ => n ≤ i⟩
theorem gE {P : Program} {w : World} {K : PySem.W.Frag} {tg : Expr} (a it : Addr) : Turn P w K tg (Itl K a) [it] it (fun i h => h.IsListIter it a i) where
 mem := by simp
 obj := fun i h st b hb => by
  have e : b = it := by simpa using hb
  subst e
  obtain ⟨o, e, c, d⟩ := st
  exact ⟨o, e, fun v z => by rw [d] at z; cases z⟩
 keep := fun i h h' st k => st.at fun o e => k it (by simp) o e
 item := by
  intro X hP hw hK hc i pins s σ H E I hf st hg
  subst hP hw hK
  obtain ⟨xs, x, hq, hx⟩ := hg
  obtain ⟨its, rv, p, hz⟩ := I.list hq
  obtain ⟨u, hu, ru⟩ := rv.get hx
  obtain ⟨f0, f1, f2, f3, f4, f5⟩ := hf it (by simp)
  refine wpAny_pyNext_list_item st p.isList (x := u) (by simpa using hu) fun h' st' sb => ?_
  have I1 : Inv X pins σ H { s with heap := h' } := I.turned (t' := s.toks) (fun b o hb e => (sb.2 b hb).trans e) f0 f1 f3 f4 f5
  obtain ⟨o, e, c, d⟩ := id st'
  exact ⟨u, rfl, qz (s := { s with heap := h' }) e c d (by decide) ⟨x, H, I1, ru, ⟨rfl, fun ys hy => by rw [I.list_inj hy hq]; exact hx⟩, st', fun b hb => (hf b hb).1⟩⟩
 done := by
  intro X hP hw hK hc i pins s σ H E I hf st hg
  subst hP hw hK
  obtain ⟨xs, hq, hx⟩ := hg
  obtain ⟨its, rv, p, hz⟩ := I.list hq
  obtain ⟨f0, f1, f2, f3, f4, f5⟩ := hf it (by simp)
  have hl := rv.length
  exact wpAny_pyNext_list_end (I.ok.hd hc) st p.isList (by simp; omega) fun h' eb => ⟨rfl, I.turned (t' := s.toks) (fun b o hb e => eb b o hb e) f0 f1 f3 f4 f5⟩
 self := fun _ _ _ _ _ st h => wpAny_pyIter_listiter st h
theorem qC {P : Program} {w : World} {K : PySem.W.Frag} {tg : Expr} (a it : Addr) : Turn P w K tg (Itt K a) [it] it (fun i h => h.IsTupleIter it a i) where
 mem := by simp
 obj := fun i h st b hb => by
  have e : b = it := by simpa using hb
  subst e
  obtain ⟨o, e, c, d⟩ := st
  exact ⟨o, e, fun v z => by rw [d] at z; cases z⟩
 keep := fun i h h' st k => st.at fun o e => k it (by simp) o e
 item := by
  intro X hP hw hK hc i pins s σ H E I hf st hg
  subst hP hw hK
  obtain ⟨xs, x, hq, hx⟩ := hg
  obtain ⟨its, rv, p, hz⟩ := I.tuple hq
  obtain ⟨u, hu, ru⟩ := rv.get hx
  obtain ⟨f0, f1, f2, f3, f4, f5⟩ := hf it (by simp)
  refine wpAny_pyNext_tuple_item st (show s.heap.IsTuple a its.toArray from p) (x := u) (by simpa using hu) fun h' st' sb => ?_
  have I1 : Inv X pins σ H { s with heap := h' } := I.turned (t' := s.toks) (fun b o hb e => (sb.2 b hb).trans e) f0 f1 f3 f4 f5
  obtain ⟨o, e, c, d⟩ := id st'
  exact ⟨u, rfl, qz (s := { s with heap := h' }) e c d (by decide) ⟨x, H, I1, ru, ⟨rfl, fun ys hy => by rw [I.tuple_inj hy hq]; exact hx⟩, st', fun b hb => (hf b hb).1⟩⟩
 done := by
  intro X hP hw hK hc i pins s σ H E I hf st hg
  subst hP hw hK
  obtain ⟨xs, hq, hx⟩ := hg
  obtain ⟨its, rv, p, hz⟩ := I.tuple hq
  obtain ⟨f0, f1, f2, f3, f4, f5⟩ := hf it (by simp)
  have hl := rv.length
  exact wpAny_pyNext_tuple_end (I.ok.hd hc) st (show s.heap.IsTuple a its.toArray from p) (by simp; omega) fun h' eb => ⟨rfl, I.turned (t' := s.toks) (fun b o hb e => eb b o hb e) f0 f1 f3 f4 f5⟩
 self := fun _ _ _ _ _ st h => wpAny_pyIter_tupleiter st h
theorem yQ {P : Program} {w : World} {K : PySem.W.Frag} {tg : Expr} (it : Addr) (lo : Int) (n : Nat) : Turn P w K tg (Itr lo n) [it] it (fun i h => IsRangeIter h it (lo + (i : Nat) * 1) ((n : Int) - (i : Nat)) 1) where
 mem := by simp
 obj := fun i h st b hb => by
  have e : b = it := by simpa using hb
  subst e
  exact ⟨_, st, fun v z => by
   have z' : Data.fields _ = Data.cell v := z
   cases z'⟩
 keep := fun i h h' st k => k it (by simp) _ st
 item := by
  intro X hP hw hK hc i pins s σ H E I hf st hg
  subst hP hw hK
  obtain ⟨f0, f1, f2, f3, f4, f5⟩ := hf it (by simp)
  have W := Walks.range (prog := X.prog) (w := X.w) (I.ok.hd hc) it lo 1 n
  refine W.item i s _ _ hg st fun v h' tk hv st' kk => ?_
  obtain ⟨t, rfl⟩ := hv
  have I1 : Inv X pins σ H { s with heap := h', toks := tk } := I.turned (fun b o hb e => kk b o (by simpa using hb) e) f0 f1 f3 f4 f5
  refine ⟨_, rfl, qz (s := { s with heap := h', toks := tk }) (n := "range_iterator") st' rfl rfl (by decide) ⟨.int (lo + i), H, I1, ⟨t, ?_⟩, ⟨rfl, rfl⟩, st', fun b hb => (hf b hb).1⟩⟩
  rw [Int.mul_one]
 done := by
  intro X hP hw hK hc i pins s σ H E I hf st hg
  subst hP hw hK
  obtain ⟨f0, f1, f2, f3, f4, f5⟩ := hf it (by simp)
  exact wpAny_pyNext_range_end (I.ok.hd hc) st (by have : n ≤ i := hg; omega) fun h' eb => ⟨rfl, I.turned (t' := s.toks) (fun b o hb e => eb b o hb e) f0 f1 f3 f4 f5⟩
 self := fun _ _ _ _ _ st h => wpAny_pyIter_rangeiter st h
section
variable {X : Cx} {tg : Expr}
noncomputable def Ct (K : PySem.W.Frag) (tl : TE) : TI := fun σ H R => tl σ H fun x H1 => ∃ a, x = .ref a ∧ (∃ xs, SqL K H1 a xs) ∧ R (Itl K a) H1
noncomputable def Jo (K : PySem.W.Frag) (tl : TE) : TI := fun σ H R => tl σ H fun x H1 => ∃ a, x = .ref a ∧ (∃ xs, SqT K H1 a xs) ∧ R (Itt K a) H1
theorem lF {l : Expr} {tl : TE} (hl : PE X l tl) : PI X tg l (Ct X.K tl) := by
 intro pins s σ H R I h
 refine thn (hl pins s σ H _ I h) fun v s1 ⟨x, H1, I1, r1, q1⟩ => ?_
 obtain ⟨a, e, ⟨xs, hq⟩, q⟩ := q1
 subst e
 cases r1
 obtain ⟨its, rv, p, hz⟩ := I1.list hq
 refine wpAny_pyIter_list p.isList ?_
 refine ⟨s1.heap.objs.size, [s1.heap.objs.size], _, _, H1, rfl, I1.kept (t' := s1.toks) fun b o e => Heap.get?_push_of_some _ e, gE a _, ⟨_, Heap.get?_push_size _ rfl, rfl, rfl⟩, fun b hb => ?_, q⟩
 have e : b = s1.heap.objs.size := by simpa using hb
 subst e
 exact I1.fpOk (Nat.le_refl _) (I1.hok.fresh (Nat.le_refl _))
theorem vL {l : Expr} {tl : TE} (hl : PE X l tl) : PI X tg l (Jo X.K tl) := by
 intro pins s σ H R I h
 refine thn (hl pins s σ H _ I h) fun v s1 ⟨x, H1, I1, r1, q1⟩ => ?_
 obtain ⟨a, e, ⟨xs, hq⟩, q⟩ := q1
 subst e
 cases r1
 obtain ⟨its, rv, p, hz⟩ := I1.tuple hq
 refine wpAny_pyIter_tuple (show s1.heap.IsTuple a its.toArray from p) ?_
 refine ⟨s1.heap.objs.size, [s1.heap.objs.size], _, _, H1, rfl, I1.kept (t' := s1.toks) fun b o e => Heap.get?_push_of_some _ e, qC a _, ⟨_, Heap.get?_push_size _ rfl, rfl, rfl⟩, fun b hb => ?_, q⟩
 have e : b = s1.heap.objs.size := by simpa using hb
 subst e
 exact I1.fpOk (Nat.le_refl _) (I1.hok.fresh (Nat.le_refl _))
theorem BO {pins : List (Addr × Obj)} {σ : St} {H : Hp} {s : Shared} {R : It → Hp → Prop} {E : Value → Shared → Prop} {lo hi : Int} {t u v : Tok} {tk : Nat} (I : Inv X pins σ H s) (h1 : -(2 ^ 62) ≤ lo) (h2 : lo < 2 ^ 62) (h3 : -(2 ^ 62) ≤ hi) (h4 : hi < 2 ^ 62)
  (q : R (Itr lo (hi - lo).toNat) H) : wpAny (model X.prog X.w) X.A (pyIter (.ref s.heap.objs.size)) (PIE X pins σ tg R) E { s with heap := s.heap.push { cls := .type "range", data := .fields #[.int lo t, .int hi u, .int 1 v] }, toks := tk } := by
 refine wpAny_pyIter_range (IsRange.new ..) (small_one h1 h2 h3 h4) ?_
 have I1 : Inv X pins σ H { s with heap := s.heap.push { cls := .type "range", data := .fields #[.int lo t, .int hi u, .int 1 v] }, toks := tk } := I.kept fun b o e => Heap.get?_push_of_some _ e
 refine ⟨(s.heap.push { cls := .type "range", data := .fields #[.int lo t, .int hi u, .int 1 v] }).objs.size, [(s.heap.push { cls := .type "range", data := .fields #[.int lo t, .int hi u, .int 1 v] }).objs.size], _, _, H, rfl,
  I1.kept (t' := tk) fun b o e => Heap.get?_push_of_some _ e, yQ _ lo (hi - lo).toNat, ?_, fun b hb => ?_, q⟩
 ·have e1 : lo + ((0 : Nat) : Int) * 1 = lo := by simp
  have e2 : (((hi - lo).toNat : Nat) : Int) - ((0 : Nat) : Int) = Builtin.Range.rangeSize lo hi 1 := by rw [rangeSize_one]; split <;> omega
  show IsRangeIter _ _ (lo + ((0 : Nat) : Int) * 1) ((((hi - lo).toNat : Nat) : Int) - ((0 : Nat) : Int)) 1
  rw [e1, e2]
  exact Heap.get?_push_size _ rfl
 ·have e : b = (s.heap.push { cls := .type "range", data := .fields #[.int lo t, .int hi u, .int 1 v] }).objs.size := by simpa using hb
  subst e
  exact I1.fpOk (Nat.le_refl _) (I1.hok.fresh (Nat.le_refl _))
noncomputable def Iy (ta : TA) : TI := fun σ H R => ta σ H fun vs H1 => ∃ j : Int, vs = [.int j] ∧ -(2 ^ 62) ≤ j ∧ j < 2 ^ 62 ∧ R (Itr 0 j.toNat) H1
theorem cJ {a : Expr} {ta : TA} {p pos : Pos} (hg : Gl X "range") (hm : X.mg "range" = none) (ha : PA X [a] ta) (hs : starEach [a] X.env = [(false, eval a X.env)] := by rfl) : PI X tg (.Call (.Name "range" p) [a] [] pos) (Iy ta) := by
 intro pins s σ H R I h
 refine Call_ (jz I hg hm boot_range (PyProof.Rows.callWith_type1 (thn (ha pos pins s σ H _ I h) fun us s1 ⟨vs, H1, I1, r1, q1⟩ => ?_) hs rfl))
 obtain ⟨j, e, q1, q2, q⟩ := q1
 subst e
 cases r1 with
 | cons r rr =>
  cases rr
  obtain ⟨t, rfl⟩ := r
  exact call_range_1 (BO I1 (by omega) (by omega) q1 q2 (by simpa using q))
noncomputable def Hz (wi : TI) (g : TG) (tb : TS) : TS := fun D σ H => wi σ H fun J H1 => ∃ W : Nat → Nat → St → Hp → Prop, (∃ m, W 0 m σ H1) ∧ ∀ i m σ H, W i m σ H →
 (J.stop i H ∧ D.nx σ H) ∨ (J.go i H ∧ ∃ N : St → Hp → Prop, (∀ σ' H', N σ' H' → ∃ m', m' < m ∧ W (i + 1) m' σ' H') ∧ ∀ x H', J.yld i H x H' → g x σ H' fun σ2 H2 => tb { D with nx := N, ct := N, bk := D.nx } σ2 H2)
noncomputable def gj (fp : List Addr) (h : Heap) : List (Addr × Obj) := fp.filterMap fun b => (h.get? b).map fun o => (b, o)
theorem fz {fp : List Addr} {h : Heap} {b : Addr} {o : Obj} (hb : b ∈ fp) (e : h.get? b = some o) : (b, o) ∈ gj fp h := List.mem_filterMap.mpr ⟨b, hb, by rw [e]; rfl⟩
theorem oo {fp : List Addr} {h : Heap} {p : Addr × Obj} (hp : p ∈ gj fp h) : p.1 ∈ fp ∧ h.get? p.1 = some p.2 := by
 obtain ⟨b, hb, e⟩ := List.mem_filterMap.mp hp
 cases q : h.get? b with
 | none => rw [q] at e; cases e
 | some o =>
  rw [q] at e
  have e' : (b, o) = p := Option.some.inj e
  subst e'
  exact ⟨hb, q⟩
theorem Inv.pinned {pins : List (Addr × Obj)} {σ : St} {H : Hp} {s : Shared} {fp : List Addr} (I : Inv X pins σ H s) (hf : ∀ b ∈ fp, lZ X pins H b) (ho : ∀ b ∈ fp, ∃ o, s.heap.get? b = some o ∧ ∀ v, o.data ≠ .cell v) : Inv X (pins ++ gj fp s.heap) σ H s :=
 I.pins_of fun p hp => (List.mem_append.mp hp).elim (fun z => I.pin p (List.mem_append_right _ z)) fun z => by
  obtain ⟨hb, e⟩ := oo z
  obtain ⟨f0, f1, f2, _⟩ := hf p.1 hb
  obtain ⟨o, e', d⟩ := ho p.1 hb
  rw [e] at e'; cases e'
  exact ⟨e, f0, f1, f2, d⟩
theorem Inv.unpinned {pins pl : List (Addr × Obj)} {σ : St} {H : Hp} {s : Shared} (I : Inv X (pins ++ pl) σ H s) : Inv X pins σ H s := I.pins_of fun p hp => I.pin p (List.mem_append_right _ (List.mem_append_left _ hp))
theorem fN {iter : Expr} {body : List Stmt} {wi : TI} {g : TG} {tb : TS} {pos : Pos} (hp : PassesOwn (model X.prog X.w) X.A X.env X.xe) (hc : X.calm = true) (hi : PI X tg iter wi) (hg : PG X tg g) (hb : PSs X body tb)
  (hs : ∀ x, foldedSetIterable iter X.env x = pure x := by intro _; rfl) : PS X (.For tg iter body [] pos) (Hz wi g tb) := by
 intro pins s σ H D I h
 refine wpAny_For (thn (hi pins s σ H _ I h) fun v s1 h1 => thn h1 fun itv s2 h2 => ?_) hs
 obtain ⟨it, fp, tn, J, H2, e, I2, T, st2, f2, W, ⟨m0, w0⟩, turn⟩ := h2
 subst e
 have stat : ∀ {H' : Hp}, (∀ b ∈ fp, H' b = none) → ∀ b ∈ fp, lZ X pins H' b := fun hn b hb => ⟨hn b hb, (f2 b hb).2⟩
 refine codeAny_forLoop_any (fun n s' => ∃ i σ' H', Inv X pins σ' H' s' ∧ tn i s'.heap ∧ (∀ b ∈ fp, H' b = none) ∧ W i n σ' H') ?_ m0 ⟨0, σ, H2, I2, st2, fun b hb => (f2 b hb).1, w0⟩
 rintro n s3 ⟨i, σ3, H3, I3, st3, fr3, w3⟩
 rcases turn i n σ3 H3 w3 with ⟨stop, qn⟩ | ⟨go, N, hN, step⟩
 ·refine wpAny_passesOwn hp (thn (T.done X rfl rfl rfl hc i pins s3 σ3 H3 X.xe I3 (stat fr3) st3 stop) fun r s4 ⟨hr, I4⟩ => ?_)
  subst hr
  exact wpAny_execs_nil ⟨σ3, H3, I4, qn⟩
 ·refine wpAny_passesOwn hp (thn (T.item X rfl rfl rfl hc i pins s3 σ3 H3 X.xe I3 (stat fr3) st3 go) fun r s4 ⟨u, hr, h4⟩ => ?_)
  subst hr
  refine wpAny_passesOwn hp (thn h4 fun _ s5 ⟨x, H5, I5, r5, y5, st5, fr5⟩ => ?_)
  have I5' := I5.pinned (stat fr5) (T.obj _ _ st5)
  refine wpAny_passesOwn hp (thn (hg _ s5 σ3 H5 x u _ I5' r5 (step x H5 y5)) fun _ s6 ⟨σ6, H6, I6, q6⟩ => ?_)
  refine wpAny_passesOwn hp (thn (hb _ s6 σ6 H6 _ I6 q6) fun f s7 q7 => ?_)
  have again : ∀ {σ7 : St} {H7 : Hp}, Inv X (pins ++ gj fp s5.heap) σ7 H7 s7 → N σ7 H7 → ∃ m, m < n ∧ ∃ i σ' H', Inv X pins σ' H' s7 ∧ tn i s7.heap ∧ (∀ b ∈ fp, H' b = none) ∧ W i m σ' H' := fun {σ7 H7} I7 n7 => by
   obtain ⟨m', hm, w7⟩ := hN σ7 H7 n7
   refine ⟨m', hm, i + 1, σ7, H7, I7.unpinned, T.keep _ _ _ st5 fun b hb o e => (I7.pin (b, o) (List.mem_append_right _ (List.mem_append_right _ (fz hb e)))).1, fun b hb => ?_, w7⟩
   obtain ⟨o, e, d⟩ := T.obj _ _ st5 b hb
   exact (I7.pin (b, o) (List.mem_append_right _ (List.mem_append_right _ (fz hb e)))).2.1
  cases f with
  | next => obtain ⟨σ7, H7, I7, n7⟩ := q7; exact again I7 n7
  | cont => obtain ⟨σ7, H7, I7, n7⟩ := q7; exact again I7 n7
  | brk => obtain ⟨σ7, H7, I7, q7⟩ := q7; exact ⟨σ7, H7, I7.unpinned, q7⟩
  | ret v => obtain ⟨x7, σ7, H7, I7, r7, q7⟩ := q7; exact ⟨x7, σ7, H7, I7.unpinned, r7, q7⟩
end
theorem rM {K : PySem.W.Frag} {a : Addr} {xs : List V} {g : TG} {tb : TS} {D : Ends} {σ : St} {H : Hp} (Pv : Nat → St → Hp → Prop) (h0 : Pv 0 σ H) (hl : ∀ i σ H, i ≤ xs.length → Pv i σ H → SqL K H a xs)
  (hs : ∀ i x σ H, xs[i]? = some x → Pv i σ H → g x σ H fun σ2 H2 => tb { D with nx := Pv (i + 1), ct := Pv (i + 1), bk := D.nx } σ2 H2) (hd : ∀ σ H, Pv xs.length σ H → D.nx σ H) :
  ∃ W : Nat → Nat → St → Hp → Prop, (∃ m, W 0 m σ H) ∧ ∀ i m σ H, W i m σ H →
   ((Itl K a).stop i H ∧ D.nx σ H) ∨ ((Itl K a).go i H ∧ ∃ N : St → Hp → Prop, (∀ σ' H', N σ' H' → ∃ m', m' < m ∧ W (i + 1) m' σ' H') ∧ ∀ x H', (Itl K a).yld i H x H' → g x σ H' fun σ2 H2 => tb { D with nx := N, ct := N, bk := D.nx } σ2 H2) := by
 refine ⟨fun i m σ H => m = xs.length - i ∧ i ≤ xs.length ∧ Pv i σ H, ⟨xs.length, by simp, Nat.zero_le _, h0⟩, ?_⟩
 rintro i m σ H ⟨rfl, hi, p⟩
 have q := hl i σ H hi p
 by_cases hlt : i < xs.length
 ·refine .inr ⟨⟨xs, xs[i], q, by simp [hlt]⟩, Pv (i + 1), fun σ' H' p' => ⟨xs.length - (i + 1), by omega, rfl, hlt, p'⟩, fun x H' y => ?_⟩
  obtain ⟨e, y⟩ := y
  subst e
  exact hs i x σ _ (y xs q) p
 ·have e : i = xs.length := by omega
  subst e
  exact .inl ⟨⟨xs, q, Nat.le_refl _⟩, hd σ H p⟩
theorem vP {K : PySem.W.Frag} {a : Addr} {xs : List V} {g : TG} {tb : TS} {D : Ends} {σ : St} {H : Hp} (Pv : Nat → St → Hp → Prop) (h0 : Pv 0 σ H) (hl : ∀ i σ H, i ≤ xs.length → Pv i σ H → SqT K H a xs)
  (hs : ∀ i x σ H, xs[i]? = some x → Pv i σ H → g x σ H fun σ2 H2 => tb { D with nx := Pv (i + 1), ct := Pv (i + 1), bk := D.nx } σ2 H2) (hd : ∀ σ H, Pv xs.length σ H → D.nx σ H) :
  ∃ W : Nat → Nat → St → Hp → Prop, (∃ m, W 0 m σ H) ∧ ∀ i m σ H, W i m σ H →
   ((Itt K a).stop i H ∧ D.nx σ H) ∨ ((Itt K a).go i H ∧ ∃ N : St → Hp → Prop, (∀ σ' H', N σ' H' → ∃ m', m' < m ∧ W (i + 1) m' σ' H') ∧ ∀ x H', (Itt K a).yld i H x H' → g x σ H' fun σ2 H2 => tb { D with nx := N, ct := N, bk := D.nx } σ2 H2) := by
 refine ⟨fun i m σ H => m = xs.length - i ∧ i ≤ xs.length ∧ Pv i σ H, ⟨xs.length, by simp, Nat.zero_le _, h0⟩, ?_⟩
 rintro i m σ H ⟨rfl, hi, p⟩
 have q := hl i σ H hi p
 by_cases hlt : i < xs.length
 ·refine .inr ⟨⟨xs, xs[i], q, by simp [hlt]⟩, Pv (i + 1), fun σ' H' p' => ⟨xs.length - (i + 1), by omega, rfl, hlt, p'⟩, fun x H' y => ?_⟩
  obtain ⟨e, y⟩ := y
  subst e
  exact hs i x σ _ (y xs q) p
 ·have e : i = xs.length := by omega
  subst e
  exact .inl ⟨⟨xs, q, Nat.le_refl _⟩, hd σ H p⟩
theorem gH {lo : Int} {n : Nat} {g : TG} {tb : TS} {D : Ends} {σ : St} {H : Hp} (Pv : Nat → St → Hp → Prop) (h0 : Pv 0 σ H)
  (hs : ∀ i σ H, i < n → Pv i σ H → g (.int (lo + i)) σ H fun σ2 H2 => tb { D with nx := Pv (i + 1), ct := Pv (i + 1), bk := D.nx } σ2 H2) (hd : ∀ σ H, Pv n σ H → D.nx σ H) :
  ∃ W : Nat → Nat → St → Hp → Prop, (∃ m, W 0 m σ H) ∧ ∀ i m σ H, W i m σ H →
   ((Itr lo n).stop i H ∧ D.nx σ H) ∨ ((Itr lo n).go i H ∧ ∃ N : St → Hp → Prop, (∀ σ' H', N σ' H' → ∃ m', m' < m ∧ W (i + 1) m' σ' H') ∧ ∀ x H', (Itr lo n).yld i H x H' → g x σ H' fun σ2 H2 => tb { D with nx := N, ct := N, bk := D.nx } σ2 H2) := by
 refine ⟨fun i m σ H => m = n - i ∧ i ≤ n ∧ Pv i σ H, ⟨n, by simp, Nat.zero_le _, h0⟩, ?_⟩
 rintro i m σ H ⟨rfl, hi, p⟩
 by_cases hlt : i < n
 ·refine .inr ⟨hlt, Pv (i + 1), fun σ' H' p' => ⟨n - (i + 1), by omega, rfl, hlt, p'⟩, fun x H' y => ?_⟩
  obtain ⟨e, y⟩ := y
  subst e y
  exact hs i σ _ hlt p
 ·have e : i = n := by omega
  subst e
  exact .inl ⟨Nat.le_refl _, hd σ H p⟩
noncomputable abbrev R2 := V → V → Hp → VK → Prop
noncomputable def OpR (X : Cx) (f : Value → Value → Sem Value) (r : R2) : Prop :=
 ∀ (pins : List (Addr × Obj)) (s : Shared) (σ : St) (H : Hp) (x y : V) (v u : Value) (Q : VK), Inv X pins σ H s → bX x v → bX y u → r x y H Q →
  wpAny (model X.prog X.w) X.A (f v u) (EP X pins σ Q) X.xe s
noncomputable def UnR (X : Cx) (f : Value → Sem Value) (r : V → Hp → VK → Prop) : Prop :=
 ∀ (pins : List (Addr × Obj)) (s : Shared) (σ : St) (H : Hp) (x : V) (v : Value) (Q : VK), Inv X pins σ H s → bX x v → r x H Q →
  wpAny (model X.prog X.w) X.A (f v) (EP X pins σ Q) X.xe s
noncomputable def io (X : Cx) (f : Value) (r : List V → Hp → VK → Prop) : Prop :=
 ∀ (pins : List (Addr × Obj)) (s : Shared) (σ : St) (H : Hp) (xs : List V) (us : List Value) (Q : VK), Inv X pins σ H s → bE xs us → r xs H Q →
  wpAny (model X.prog X.w) X.A (call f us) (EP X pins σ Q) X.xe s
noncomputable def Ju (X : Cx) (r : V → Hp → (Bool → Hp → Prop) → Prop) : Prop :=
 ∀ (pins : List (Addr × Obj)) (s : Shared) (σ : St) (H : Hp) (x : V) (v : Value) (Q : Bool → Hp → Prop), Inv X pins σ H s → bX x v → r x H Q →
  wpAny (model X.prog X.w) X.A (truthy v) (TP X pins σ Q) X.xe s
noncomputable def tOp (r : R2) (ta tb : TE) : TE := fun σ H Q => ta σ H fun x H1 => tb σ H1 fun y H2 => r x y H2 Q
noncomputable def tUn (r : V → Hp → VK → Prop) (ta : TE) : TE := fun σ H Q => ta σ H fun x H1 => r x H1 Q
noncomputable def rI (C : Int → Int → Prop) (g : Int → Int → V) : R2 := fun x y H Q => ∃ i j, x = .int i ∧ y = .int j ∧ C i j ∧ Q (g i j) H
noncomputable def rI0 (g : Int → Int → V) : R2 := fun x y H Q => ∃ i j, x = .int i ∧ y = .int j ∧ Q (g i j) H
noncomputable def rU (g : Int → V) : V → Hp → VK → Prop := fun x H Q => ∃ i, x = .int i ∧ Q (g i) H
section
variable {X : Cx} {a b c : Expr} {ta tb tc : TE} {pos : Pos}
theorem HN (ha : PE X a ta) (hb : PE X b tb) {pins : List (Addr × Obj)} {s : Shared} {σ : St} {H : Hp} {R : V → V → Hp → Prop} (I : Inv X pins σ H s)
  (h : ta σ H fun x H1 => tb σ H1 fun y H2 => R x y H2) {Q : Value → Shared → Prop} {f : Value → Value → Sem Value}
  (hf : ∀ v u s2 x y H2, Inv X pins σ H2 s2 → bX x v → bX y u → R x y H2 → wpAny (model X.prog X.w) X.A (f v u) Q X.xe s2) :
  wpAny (model X.prog X.w) X.A (eval a X.env) (fun v s₁ => wpAny (model X.prog X.w) X.A (eval b X.env) (fun u s₂ => wpAny (model X.prog X.w) X.A (f v u) Q X.xe s₂) X.xe s₁) X.xe s := by
 refine thn (ha pins s σ H _ I h) fun v s1 ⟨x, H1, I1, r1, q1⟩ => ?_
 refine thn (hb pins s1 σ H1 _ I1 q1) fun u s2 ⟨y, H2, I2, r2, q2⟩ => ?_
 exact hf v u s2 x y H2 I2 r1 r2 q2
theorem aJ {op : Operator} {r : R2} (ho : OpR X (binaryOp op) r) (ha : PE X a ta) (hb : PE X b tb) : PE X (.BinOp a op b pos) (tOp r ta tb) := by
 intro pins s σ H Q I h
 exact wpAny_BinOp (HN ha hb I h fun v u s2 x y H2 I2 rx ry q => ho pins s2 σ H2 x y v u Q I2 rx ry q)
theorem mP {op : UnaryOp} {r : V → Hp → VK → Prop} (ho : UnR X (unaryOp op) r) (ha : PE X a ta) : PE X (.UnaryOp op a pos) (tUn r ta) := by
 intro pins s σ H Q I h
 exact UnaryOp_ (thn (ha pins s σ H _ I h) fun v s1 ⟨x, H1, I1, r1, q1⟩ => ho pins s1 σ H1 x v Q I1 r1 q1)
theorem opI {f : Value → Value → Sem Value} {C : Int → Int → Prop} {g : Int → Int → Int}
  (rule : ∀ (i j : Int) (t u : Tok) (s : Shared) (Q : Value → Shared → Prop) (E : Value → Shared → Prop), C i j → Q (.int (g i j) s.toks) { s with toks := s.toks + 1 } → wpAny (model X.prog X.w) X.A (f (.int i t) (.int j u)) Q E s) :
  OpR X f (rI C fun i j => .int (g i j)) := by
 intro pins s σ H x y v u Q I rx ry h
 obtain ⟨i, j, rfl, rfl, hc, q⟩ := h
 obtain ⟨t, rfl⟩ := rx
 obtain ⟨t', rfl⟩ := ry
 exact rule i j t t' s _ _ hc ⟨.int (g i j), H, I.tok _, ⟨_, rfl⟩, q⟩
theorem Jf {f : Value → Value → Sem Value} {g : Int → Int → Int}
  (rule : ∀ (i j : Int) (t u : Tok) (s : Shared) (Q : Value → Shared → Prop) (E : Value → Shared → Prop), Q (.int (g i j) s.toks) { s with toks := s.toks + 1 } → wpAny (model X.prog X.w) X.A (f (.int i t) (.int j u)) Q E s) :
  OpR X f (rI0 fun i j => .int (g i j)) := by
 intro pins s σ H x y v u Q I rx ry h
 obtain ⟨i, j, rfl, rfl, q⟩ := h
 obtain ⟨t, rfl⟩ := rx
 obtain ⟨t', rfl⟩ := ry
 exact rule i j t t' s _ _ ⟨.int (g i j), H, I.tok _, ⟨_, rfl⟩, q⟩
theorem ES {f : Value → Value → Sem Value} {g : Int → Int → Bool}
  (rule : ∀ (i j : Int) (t u : Tok) (s : Shared) (Q : Value → Shared → Prop) (E : Value → Shared → Prop), Q (.bool (g i j)) s → wpAny (model X.prog X.w) X.A (f (.int i t) (.int j u)) Q E s) :
  OpR X f (rI0 fun i j => .bl (g i j)) := by
 intro pins s σ H x y v u Q I rx ry h
 obtain ⟨i, j, rfl, rfl, q⟩ := h
 obtain ⟨t, rfl⟩ := rx
 obtain ⟨t', rfl⟩ := ry
 exact rule i j t t' s _ _ ⟨.bl (g i j), H, I, rfl, q⟩
noncomputable def IF (i j : Int) : Prop := 0 < j ∧ j < 1073741824
noncomputable def HQ (i j : Int) : Prop := (-(2 ^ 64) < i ∧ i < 2 ^ 64) ∨ (-(2 ^ 64) < j ∧ j < 2 ^ 64)
theorem HQ.ok {i j : Int} (h : HQ i j) : IntMulOk i j := by
 rcases h with ⟨h1, h2⟩ | ⟨h1, h2⟩
 ·exact .of_left (intBits_le_64 h1 h2)
 ·exact .of_right (intBits_le_64 h1 h2)
theorem cU : OpR X (binaryOp .Add) (rI0 fun i j => .int (i + j)) := Jf fun _ _ _ _ _ _ _ q => add_int q
theorem vj : OpR X (binaryOp .Sub) (rI0 fun i j => .int (i - j)) := Jf fun _ _ _ _ _ _ _ q => sub_int q
theorem rD : OpR X (binaryOp .Mult) (rI HQ fun i j => .int (i * j)) := opI fun _ _ _ _ _ _ _ hc q => mul_int q hc.ok
theorem cM : OpR X (binaryOp .FloorDiv) (rI IF fun i j => .int (i / j)) := opI fun i j _ _ _ _ _ hc q => by
 have h1 : (0 : Int) < j := hc.1
 have h2 : j < 1073741824 := hc.2
 exact floordiv_int (by omega) (by rw [Int.fdiv_eq_ediv_of_nonneg i (by omega)]; exact q) (.inl (PyProof.noPylong_small (by omega)))
theorem bI : OpR X (binaryOp .Mod) (rI (fun _ j => 0 < j) fun i j => .int (i % j)) := opI fun i j _ _ _ _ _ hc q => by
 have h1 : (0 : Int) < j := hc
 exact mod_int' (by omega) (by rw [Int.fmod_eq_emod_of_nonneg i (by omega)]; exact q)
theorem unI {f : Value → Sem Value} {g : Int → Int}
  (rule : ∀ (i : Int) (t : Tok) (s : Shared) (Q : Value → Shared → Prop) (E : Value → Shared → Prop), Q (.int (g i) s.toks) { s with toks := s.toks + 1 } → wpAny (model X.prog X.w) X.A (f (.int i t)) Q E s) :
  UnR X f (rU fun i => .int (g i)) := by
 intro pins s σ H x v Q I rx h
 obtain ⟨i, rfl, q⟩ := h
 obtain ⟨t, rfl⟩ := rx
 exact rule i t s _ _ ⟨.int (g i), H, I.tok _, ⟨_, rfl⟩, q⟩
theorem jC : UnR X (unaryOp .USub) (rU fun i => .int (-i)) := unI fun _ _ _ _ _ q => neg_int q
end
noncomputable def HZ : V → V → Bool
 | .non, .non => true | .non, .int _ => true | .int _, .non => true | .non, .bl _ => true | .bl _, .non => true | .non, .str _ => true | .str _, .non => true
 | .int _, .int _ => true | .bl _, .bl _ => true | .str _, .str _ => true | .byt _, .byt _ => true
 | .int _, .str _ => true | .str _, .int _ => true | .bl _, .str _ => true | .str _, .bl _ => true
 | _, _ => false
noncomputable def rEq : R2 := fun x y H Q => HZ x y = true ∧ Q (.bl (decide (x = y))) H
noncomputable def rNe : R2 := fun x y H Q => HZ x y = true ∧ Q (.bl (!decide (x = y))) H
theorem Ah {i j : Int} : decide (V.int i = V.int j) = (i == j) := by
 rw [Bool.eq_iff_iff]
 simp
theorem DH {i j : Bool} : decide (V.bl i = V.bl j) = (i == j) := by
 rw [Bool.eq_iff_iff]
 simp
theorem Aj {i j : Str} : decide (V.str i = V.str j) = (i == j) := by
 rw [Bool.eq_iff_iff]
 simp
theorem Af {i j : Array UInt8} : decide (V.byt i = V.byt j) = (i.toList == j.toList) := by
 rw [Bool.eq_iff_iff]
 cases i
 cases j
 simp
section
variable {X : Cx} {a b c : Expr} {ta tb tc : TE} {pos : Pos}
theorem bQ {pins : List (Addr × Obj)} {σ : St} {H : Hp} {s : Shared} {Q : VK} {k k' : Bool} (I : Inv X pins σ H s) (q : Q (.bl k) H) (e : k = k') : EP X pins σ Q (.bool k') s := by
 subst e
 exact ⟨.bl k, H, I, rfl, q⟩
theorem bW : OpR X (compareOp .Eq) rEq := by
 intro pins s σ H x y v u Q I rx ry h
 obtain ⟨hs, q⟩ := h
 cases x with
 | non =>
  cases rx
  cases y with
  | non => cases ry; exact PySem.EqNone.eq_none_none (bQ I q (by simp))
  | bl j => cases ry; exact PySem.EqNone.eq_none_bool (bQ I q (by simp))
  | int j => obtain ⟨t', rfl⟩ := ry; exact PySem.EqNone.eq_none_int (bQ I q (by simp))
  | str j => obtain ⟨t', rfl⟩ := ry; exact PySem.EqNone.eq_none_str (bQ I q (by simp))
  | _ => exact absurd (show false = true from hs) Bool.false_ne_true
 | bl i =>
  cases rx
  cases y with
  | non => cases ry; exact PySem.EqNone.eq_bool_none (bQ I q (by simp))
  | bl j => cases ry; exact eq_bool (bQ I q DH)
  | str j => obtain ⟨t', rfl⟩ := ry; exact PySem.EqMixed.eq_bool_str (bQ I q (by simp))
  | _ => exact absurd (show false = true from hs) Bool.false_ne_true
 | int i =>
  obtain ⟨t, rfl⟩ := rx
  cases y with
  | non => cases ry; exact PySem.EqNone.eq_int_none (bQ I q (by simp))
  | int j => obtain ⟨t', rfl⟩ := ry; exact eq_int (bQ I q Ah)
  | str j => obtain ⟨t', rfl⟩ := ry; exact PySem.EqMixed.eq_int_str (bQ I q (by simp))
  | _ => exact absurd (show false = true from hs) Bool.false_ne_true
 | str i =>
  obtain ⟨t, rfl⟩ := rx
  cases y with
  | non => cases ry; exact PySem.EqNone.eq_str_none (bQ I q (by simp))
  | bl j => cases ry; exact PySem.EqMixed.eq_str_bool (bQ I q (by simp))
  | int j => obtain ⟨t', rfl⟩ := ry; exact PySem.EqMixed.eq_str_int (bQ I q (by simp))
  | str j => obtain ⟨t', rfl⟩ := ry; exact eq_str (bQ I q Aj)
  | _ => exact absurd (show false = true from hs) Bool.false_ne_true
 | byt i =>
  obtain ⟨t, rfl⟩ := rx
  cases y with
  | byt j => obtain ⟨t', rfl⟩ := ry; exact PySem.W.eq_bytes (bQ I q Af)
  | _ => exact absurd (show false = true from hs) Bool.false_ne_true
 | _ => cases y <;> exact absurd (show false = true from hs) Bool.false_ne_true
theorem nO : OpR X (compareOp .NotEq) rNe := by
 intro pins s σ H x y v u Q I rx ry h
 obtain ⟨hs, q⟩ := h
 cases x with
 | non =>
  cases rx
  cases y with
  | non => cases ry; exact PySem.EqNone.ne_none_none (bQ I q (by simp))
  | bl j => cases ry; exact PySem.EqNone.ne_none_bool (bQ I q (by simp))
  | int j => obtain ⟨t', rfl⟩ := ry; exact PySem.EqNone.ne_none_int (bQ I q (by simp))
  | str j => obtain ⟨t', rfl⟩ := ry; exact PySem.EqNone.ne_none_str (bQ I q (by simp))
  | _ => exact absurd (show false = true from hs) Bool.false_ne_true
 | bl i =>
  cases rx
  cases y with
  | non => cases ry; exact PySem.EqNone.ne_bool_none (bQ I q (by simp))
  | bl j => cases ry; exact ne_bool (bQ I q (congrArg not DH))
  | str j => obtain ⟨t', rfl⟩ := ry; exact PySem.EqMixed.ne_bool_str (bQ I q (by simp))
  | _ => exact absurd (show false = true from hs) Bool.false_ne_true
 | int i =>
  obtain ⟨t, rfl⟩ := rx
  cases y with
  | non => cases ry; exact PySem.EqNone.ne_int_none (bQ I q (by simp))
  | int j => obtain ⟨t', rfl⟩ := ry; exact ne_int (bQ I q (congrArg not Ah))
  | str j => obtain ⟨t', rfl⟩ := ry; exact PySem.EqMixed.ne_int_str (bQ I q (by simp))
  | _ => exact absurd (show false = true from hs) Bool.false_ne_true
 | str i =>
  obtain ⟨t, rfl⟩ := rx
  cases y with
  | non => cases ry; exact PySem.EqNone.ne_str_none (bQ I q (by simp))
  | bl j => cases ry; exact PySem.EqMixed.ne_str_bool (bQ I q (by simp))
  | int j => obtain ⟨t', rfl⟩ := ry; exact PySem.EqMixed.ne_str_int (bQ I q (by simp))
  | str j => obtain ⟨t', rfl⟩ := ry; exact ne_str (bQ I q (congrArg not Aj))
  | _ => exact absurd (show false = true from hs) Bool.false_ne_true
 | byt i =>
  obtain ⟨t, rfl⟩ := rx
  cases y with
  | byt j => obtain ⟨t', rfl⟩ := ry; exact PySem.W.ne_bytes (bQ I q (congrArg not Af))
  | _ => exact absurd (show false = true from hs) Bool.false_ne_true
 | _ => cases y <;> exact absurd (show false = true from hs) Bool.false_ne_true
theorem zZ : OpR X (compareOp .Lt) (rI0 fun i j => .bl (decide (i < j))) := ES fun _ _ _ _ _ _ _ q => lt_int q
theorem gn : OpR X (compareOp .LtE) (rI0 fun i j => .bl (decide (i ≤ j))) := ES fun _ _ _ _ _ _ _ q => le_int q
theorem iS : OpR X (compareOp .Gt) (rI0 fun i j => .bl (decide (j < i))) := ES fun _ _ _ _ _ _ _ q => gt_int q
theorem Fk : OpR X (compareOp .GtE) (rI0 fun i j => .bl (decide (j ≤ i))) := ES fun _ _ _ _ _ _ _ q => ge_int q
theorem oS : OpR X (compareOp .In) (fun x y H Q => ∃ i j, x = .str i ∧ y = .str j ∧ Q (.bl (!(Builtin.Str.occurrences j i 0 j.length 1).isEmpty)) H) := by
 intro pins s σ H x y v u Q I rx ry h
 obtain ⟨i, j, rfl, rfl, q⟩ := h
 obtain ⟨t, rfl⟩ := rx
 obtain ⟨t', rfl⟩ := ry
 exact in_str (bQ I q rfl)
theorem oE : OpR X (compareOp .Is) (fun x y H Q => y = .non ∧ Q (.bl (decide (x = .non))) H) := by
  intro pins s σ H x y v u Q I rx ry h
  obtain ⟨rfl, q⟩ := h
  cases ry
  refine is_none_gen (bQ I q ?_)
  cases x <;> first
    | (cases rx; rfl)
    | (obtain ⟨t, rfl⟩ := rx; rfl)
theorem aG (b : Expr) {op : CmpOp} (h : op ≠ .In := by decide) (h2 : op ≠ .NotIn := by decide) : behindInMarks op b = false := by
 have e1 : (op == CmpOp.In) = false := by cases op <;> first | rfl | exact absurd rfl h
 have e2 : (op == CmpOp.NotIn) = false := by cases op <;> first | rfl | exact absurd rfl h2
 cases b <;> simp [behindInMarks, e1, e2]
theorem bO {op : CmpOp} {r : R2} (ho : OpR X (compareOp op) r) (ha : PE X a ta) (hb : PE X b tb) (hm : behindInMarks op b = false) : PE X (.Compare a [op] [b] pos) (tOp r ta tb) := by
 intro pins s σ H Q I h
 exact wpAny_Compare1 (HN ha hb I h fun v u s2 x y H2 I2 rx ry q => ho pins s2 σ H2 x y v u Q I2 rx ry q) hm
noncomputable def Fi (t : TE) : TT := fun σ H Q => t σ H fun x H' => ∃ k, x = .bl k ∧ Q k H'
theorem aE {op : CmpOp} {r : R2} (ho : OpR X (compareOp op) r) (ha : PE X a ta) (hb : PE X b tb) (hm : behindInMarks op b = false) : PT X (.Compare a [op] [b] pos) (Fi (tOp r ta tb)) := by
 intro pins s σ H Q I h
 refine wpAny_isTrue_Compare1 (thn (ha pins s σ H _ I h) fun v s1 ⟨x, H1, I1, r1, q1⟩ => thn (hb pins s1 σ H1 _ I1 q1) fun u s2 ⟨y, H2, I2, r2, q2⟩ =>
  thn (ho pins s2 σ H2 x y v u _ I2 r1 r2 q2) fun c s3 ⟨z, H3, I3, r3, k, e, q3⟩ => ?_) hm
 subst e
 cases r3
 exact wpAny_truthy_bool ⟨H3, I3, q3⟩
noncomputable def Dr (r r' : R2) (ta tb tc : TE) : TE := fun σ H Q => ta σ H fun x H1 => tb σ H1 fun y H2 => r x y H2 fun z H3 => ∃ k, z = .bl k ∧
 (if k = true then tc σ H3 fun w' H4 => r' y w' H4 Q else Q (.bl false) H3)
theorem ny {op op' : CmpOp} {r r' : R2} (ho : OpR X (compareOp op) r) (ho' : OpR X (compareOp op') r') (ha : PE X a ta) (hb : PE X b tb) (hc : PE X c tc)
  (hm : lastMarks [op, op'] [b, c] = false := by with_unfolding_all rfl) : PE X (.Compare a [op, op'] [b, c] pos) (Dr r r' ta tb tc) := by
 intro pins s σ H Q I h
 refine Compare_chain (thn (ha pins s σ H _ I h) fun v s1 ⟨x, H1, I1, r1, q1⟩ => chain_link (thn (hb pins s1 σ H1 _ I1 q1) fun u s2 ⟨y, H2, I2, r2, q2⟩ =>
  thn (ho pins s2 σ H2 x y v u _ I2 r1 r2 q2) fun d s3 ⟨z, H3, I3, r3, k, e, q3⟩ => ?_)) hm
 subst e
 cases r3
 refine wpAny_truthy_bool ?_
 cases k with
 | false => exact ite_ff ⟨.bl false, H3, I3, rfl, q3⟩
 | true => exact ite_tt (chain_last (thn (hc pins s3 σ H3 _ I3 q3) fun w' s4 ⟨z', H4, I4, r4, q4⟩ => ho' pins s4 σ H4 y z' u w' Q I4 r2 r4 q4))
theorem rQ {op op' : CmpOp} {r r' : R2} (ho : OpR X (compareOp op) r) (ho' : OpR X (compareOp op') r') (ha : PE X a ta) (hb : PE X b tb) (hc : PE X c tc)
  (hm : lastMarks [op, op'] [b, c] = false := by with_unfolding_all rfl) : PT X (.Compare a [op, op'] [b, c] pos) (Fi (Dr r r' ta tb tc)) := by
 intro pins s σ H Q I h
 refine isTrue_chain (thn (ha pins s σ H _ I h) fun v s1 ⟨x, H1, I1, r1, q1⟩ => test_link (thn (hb pins s1 σ H1 _ I1 q1) fun u s2 ⟨y, H2, I2, r2, q2⟩ =>
  thn (ho pins s2 σ H2 x y v u _ I2 r1 r2 q2) fun d s3 ⟨z, H3, I3, r3, k, e, q3⟩ => ?_)) hm
 subst e
 cases r3
 refine wpAny_truthy_bool ?_
 cases k with
 | false =>
  obtain ⟨k', e', q'⟩ := q3
  cases e'
  exact ite_ff ⟨H3, I3, q'⟩
 | true =>
  refine ite_tt (test_last (thn (hc pins s3 σ H3 _ I3 q3) fun w' s4 ⟨z', H4, I4, r4, q4⟩ => thn (ho' pins s4 σ H4 y z' u w' _ I4 r2 r4 q4) fun d' s5 ⟨z2, H5, I5, r5, k2, e2, q5⟩ => ?_))
  subst e2
  cases r5
  exact wpAny_truthy_bool ⟨H5, I5, q5⟩
noncomputable def Ig (K : PySem.W.Frag) (x : V) (H : Hp) (k : Bool) : Prop :=
 match x with
 | .non => k = false
 | .bl b => k = b
 | .int i => k = (i != 0)
 | .str y => y.length ≤ sizeLine ∧ k = ((y.length : Int) != 0)
 | .byt y => y.size ≤ sizeLine ∧ k = ((y.size : Int) != 0)
 | .ref p => (∃ xs, SqL K H p xs ∧ k = !xs.isEmpty) ∨ (∃ xs, SqT K H p xs ∧ k = !xs.isEmpty) ∨ ∃ kvs, H p = some (.dK kvs) ∧ k = !kvs.isEmpty
 | _ => False
theorem yw {κ : Type} {kvs : List (κ × V)} {vs : List (κ × Value)} (r : KV kvs vs) : (!vs.isEmpty) = !kvs.isEmpty := by
 cases r <;> rfl
theorem qY {xs : List V} {its : List Value} (r : bE xs its) : (!its.toArray.isEmpty) = !xs.isEmpty := by
 cases r <;> simp
theorem mt : (sizeLine : Nat) < 2 ^ 63 := by rw [sizeLine_eq]; decide
theorem HH : Ju X (fun x H Q => ∃ k, Ig X.K x H k ∧ Q k H) := by
 intro pins s σ H x v Q I rx h
 obtain ⟨k, e, q⟩ := h
 have hl := mt
 have hs : sizeLine = 16777216 := sizeLine_eq
 cases x with
 | non =>
  cases rx
  have e' : k = false := e
  subst e'
  exact truthy_none ⟨H, I, q⟩
 | bl b =>
  cases rx
  have e' : k = b := e
  subst e'
  exact wpAny_truthy_bool ⟨H, I, q⟩
 | int i =>
  obtain ⟨t, rfl⟩ := rx
  have e' : k = (i != 0) := e
  subst e'
  exact PySem.P.truthy_int ⟨H, I, q⟩
 | str y =>
  obtain ⟨t, rfl⟩ := rx
  obtain ⟨hy, e'⟩ : y.length ≤ sizeLine ∧ k = ((y.length : Int) != 0) := e
  subst e'
  exact PySem.P.truthy_str (by omega) ⟨H, I.tok _, q⟩
 | byt y =>
  obtain ⟨t, rfl⟩ := rx
  obtain ⟨hy, e'⟩ : y.size ≤ sizeLine ∧ k = ((y.size : Int) != 0) := e
  subst e'
  exact PySem.W.truthy_bytes (by omega) ⟨H, I.tok _, q⟩
 | ref p =>
  cases rx
  have e' : (∃ xs, SqL X.K H p xs ∧ k = !xs.isEmpty) ∨ (∃ xs, SqT X.K H p xs ∧ k = !xs.isEmpty) ∨ ∃ kvs, H p = some (.dK kvs) ∧ k = !kvs.isEmpty := e
  rcases e' with ⟨xs, hx, e'⟩ | ⟨xs, hx, e'⟩ | ⟨kvs, hx, e'⟩
  ·subst e'
   obtain ⟨its, r, pl, hz⟩ := I.list hx
   have hlen := r.length
   exact wpAny_truthy_list pl.isList (by simp only [List.size_toArray]; omega) ⟨H, I.tok _, by rw [qY r]; exact q⟩
  ·subst e'
   obtain ⟨its, r, pl, hz⟩ := I.tuple hx
   have hlen := r.length
   exact truthy_tuple pl (by simp only [List.size_toArray]; omega) ⟨H, I.tok _, by rw [qY r]; exact q⟩
  ·subst e'
   obtain ⟨hz, hS, vs, r, m⟩ : kvs.length ≤ sizeLine ∧ (p == sysModules) = false ∧ ∃ vs, KV kvs vs ∧ s.heap.DictOf (dq X.prog X.w) p vs := I.hok p _ hx
   have hlen : kvs.length = vs.length := Paired.length r
   exact wpAny_truthy_dict hS m (by omega) ⟨H, I.tok _, by rw [yw r]; exact q⟩
 | _ => exact (show False from e).elim
theorem wK (ha : PE X a ta) (he : ∀ whole, isTrue a X.env whole = (do let v ← whole; standAt a.pos; holding [v] (truthy v))) :
  PT X a (fun σ H Q => ta σ H fun x H' => ∃ k, Ig X.K x H' k ∧ Q k H') := by
 intro pins s σ H Q I h
 exact isTrue_plain (thn (ha pins s σ H _ I h) fun v s1 ⟨x, H1, I1, r1, q1⟩ => HH pins s1 σ H1 x v Q I1 r1 q1) (he _)
theorem cG : OpR X (binaryOp .Add) (fun x y H Q => ∃ i j, x = .str i ∧ y = .str j ∧ i.length + j.length ≤ sizeLine ∧ Q (.str (i ++ j)) H) := by
 intro pins s σ H x y v u Q I rx ry h
 obtain ⟨i, j, rfl, rfl, hz, q⟩ := h
 obtain ⟨t, rfl⟩ := rx
 obtain ⟨t', rfl⟩ := ry
 exact add_str (fun t' tk => ⟨.str (i ++ j), H, I.tok _, ⟨_, rfl⟩, q⟩) hz
theorem pk {x : V} {us : List Value} (r : bE [x] us) : ∃ u, us = [u] ∧ bX x u := by
 cases r with
 | cons r1 r2 => cases r2; exact ⟨_, rfl, r1⟩
theorem wu {x y : V} {us : List Value} (r : bE [x, y] us) : ∃ u w', us = [u, w'] ∧ bX x u ∧ bX y w' := by
 cases r with
 | cons r1 r2 =>
  cases r2 with
  | cons r3 r4 => cases r4; exact ⟨_, _, rfl, r1, r3⟩
theorem ox : io X (.type "int") (fun xs H Q => (∃ i, xs = [.int i] ∧ Q (.int i) H) ∨ ∃ k, xs = [.bl k] ∧ Q (.int (if k then 1 else 0)) H) := by
 intro pins s σ H xs us Q I r h
 rcases h with ⟨i, rfl, q⟩ | ⟨k, rfl, q⟩
 ·obtain ⟨u, rfl, t, rfl⟩ := pk r
  exact call_int_int ⟨.int i, H, I, ⟨_, rfl⟩, q⟩
 ·obtain ⟨u, rfl, r1⟩ := pk r
  cases r1
  exact call_int_bool ⟨.int (if k then 1 else 0), H, I.tok _, ⟨_, rfl⟩, q⟩
theorem gx : io X (.type "str") (fun xs H Q => ∃ i, xs = [.int i] ∧ i.natAbs.log2 < 1920 ∧ Q (.str (toString i)) H) := by
 intro pins s σ H xs us Q I r h
 obtain ⟨i, rfl, hz, q⟩ := h
 obtain ⟨u, rfl, t, rfl⟩ := pk r
 exact PySem.P.str_of_int hz ⟨.str _, H, I.tok _, ⟨_, rfl⟩, q⟩
end
structure ObjM (h : Heap) (x dx C : Addr) (mA : Str → Option Value) : Prop where
 obj : h.get? x = some (PySem.W.instObj C dx)
 ns : h.Ns1 dx mA
 ne : dx ≠ x
theorem AZ {h : Heap} {dx : Addr} {mA : Str → Option Value} (n : h.Ns1 dx mA) : ∃ od, h.get? dx = some od ∧ ∀ name, PySem.W.lookIn name od = some (mA name) := by
 obtain ⟨o, es, ep, ho, hd, hk, _, hm⟩ := n
 refine ⟨o, ho, fun name => ?_⟩
 have e := hm name
 unfold nsFind findBy at e
 rw [← Array.find?_toList] at e
 unfold PySem.W.lookIn
 rw [hd]
 dsimp only
 split
 ·rename_i y q
  rw [q] at e
  exact congrArg some e
 ·rename_i q
  rw [q] at e
  have a : es.toList.any (·.refKey) = false := by
   rw [List.any_eq_false]
   intro y hy
   obtain ⟨z, t, hkey⟩ := hk y (Array.mem_toList_iff.mp hy)
   simp [DictEntry.refKey, hkey]
  have a' : ¬ es.toList.any (·.refKey) = true := by rw [a]; exact Bool.false_ne_true
  rw [if_neg a']
  exact congrArg some e
theorem ObjM.look {h : Heap} {x dx C : Addr} {mA : Str → Option Value} (I : ObjM h x dx C mA) : ∃ od, PySem.W.InstAt h x (PySem.W.instObj C dx) C (some od) ∧ ∀ name, PySem.W.lookIn name od = some (mA name) :=
 let ⟨od, ho, hl⟩ := AZ I.ns
 ⟨od, ⟨I.obj, rfl, rfl, ho⟩, hl⟩
section
variable {P : Program} {w : World} {H H' : Hp} {h h' : Heap} {a C dx : Addr} {fs fs' : List (Str × V)}
theorem zU (hok : HOk P w H h) (e : H a = some (.ins C dx fs)) : ∃ mA, ObjM h a dx C mA ∧ (∀ f, zB (fs.lookup f) (mA f)) ∧ PySem.Within mA (fs.map (·.1)) ∧ fs.length ≤ 1000 ∧ H dx = some (.own a) := by
 obtain ⟨d, z, ne, ob, mA, n, r, q⟩ := (show cw P w H h a (.ins C dx fs) from hok a _ e)
 exact ⟨mA, ⟨ob, n, ne⟩, r, q, z, d⟩
end
structure Cls (K : PySem.W.Frag) (C : Addr) : Prop where
 pg : PySem.W.plainGet K C Str.empty = true
 hd : PySem.W.hasDictIn K C = true
 po : PySem.W.plainOver K C = true
 sa : PySem.W.findIn K (.ref C) "__setattr__" = some (some (.builtin "object.__setattr__"))
theorem Cls.get {K : PySem.W.Frag} {C : Addr} (c : Cls K C) (f : Str) : PySem.W.plainGet K C f = true := c.pg
section
variable {X : Cx} {pins : List (Addr × Obj)} {σ : St} {H : Hp} {s : Shared} {A : Around} {E : Value → Shared → Prop} {Q : Value → Shared → Prop} {c : Value} {b : Bool}
inductive TyOf (K : PySem.W.Frag) (H : Hp) : V → Value → Prop where
 | non : TyOf K H .non (.type "NoneType")
 | bl (x : Bool) : TyOf K H (.bl x) (.type "bool")
 | int (i : Int) : TyOf K H (.int i) (.type "int")
 | str (x : Str) : TyOf K H (.str x) (.type "str")
 | flt (x : UInt64) : TyOf K H (.flt x) (.type "float")
 | lst {a : Addr} {xs : List V} (e : H a = some (.lst xs)) : TyOf K H (.ref a) (.type "list")
 | frz {a : Addr} {o : Obj} {xs : List V} (e : H a = some (.frz o (.lst xs))) : TyOf K H (.ref a) (.type "list")
 | tup {a : Addr} {xs : List V} (e : H a = some (.tup xs)) : TyOf K H (.ref a) (.type "tuple")
 | dK {a : Addr} {kvs : List (Key × V)} (e : H a = some (.dK kvs)) : TyOf K H (.ref a) (.type "dict")
 | dT {a : Addr} {kvs : List (List Key × V)} (e : H a = some (.dT kvs)) : TyOf K H (.ref a) (.type "dict")
 | ins {a C dx : Addr} {fs : List (Str × V)} (e : H a = some (.ins C dx fs)) (cl : Cls K C) (ha : PySem.W.findIn K (.ref C) "__class__" = some (some (.builtin "object.__class__")))
   (hn : PySem.W.specialIn K (.builtin "object.__class__") "__get__" = some (some (.builtin "getset_descriptor.__get__"))) (htk : PySem.W.takesIn K (.builtin "object.__class__") = some true)
   (hm : PySem.W.mroIn K C (.type "object") = some true) : TyOf K H (.ref a) (.ref C)
theorem BC {x : V} {u t : Value} (I : Inv X pins σ H s) (rx : bX x u) (ty : TyOf X.K H x t) (e : PySem.W.kitOne X.K t c = some b) (h : ∀ tk, Q (.bool b) { s with toks := tk }) :
  wpAny (model X.prog X.w) A (call (.builtin "isinstance") [u, c]) Q E s := by
 cases ty with
 | non => cases (show u = Value.none from rx); exact PySem.W.kia_one PySem.W.kitx_none I.kIn True.intro e (fun z => nomatch z) h
 | bl y => cases (show u = Value.bool y from rx); exact PySem.W.kia_one PySem.W.kitx_bool I.kIn True.intro e (fun z => nomatch z) h
 | int i => obtain ⟨t, q⟩ := (show ∃ t, u = Value.int i t from rx); cases q; exact PySem.W.kia_one PySem.W.kitx_int I.kIn True.intro e (fun z => nomatch z) h
 | str y => obtain ⟨t, q⟩ := (show ∃ t, u = Value.str y t from rx); cases q; exact PySem.W.kia_one PySem.W.kitx_str I.kIn True.intro e (fun z => nomatch z) h
 | flt y => obtain ⟨t, q⟩ := (show ∃ t, u = Value.float y t from rx); cases q; exact PySem.W.kia_one PySem.W.kitx_float I.kIn True.intro e (fun z => nomatch z) h
 | @lst a xs ea =>
  cases (show u = Value.ref a from rx)
  obtain ⟨_, _, n, _, h1⟩ := (show cw X.prog X.w H s.heap a (.lst xs) from I.hok a _ ea)
  exact PySem.W.kia_one PySem.W.kitx_list I.kIn ⟨_, h1, rfl⟩ e (fun z => nomatch z) h
 | @frz a ob xs ea =>
  cases (show u = Value.ref a from rx)
  obtain ⟨_, _, _, n, _, h1⟩ := (show cw X.prog X.w H s.heap a (.frz ob (.lst xs)) from I.hok a _ ea)
  exact PySem.W.kia_one PySem.W.kitx_list I.kIn ⟨_, h1, rfl⟩ e (fun z => nomatch z) h
 | @tup a xs ea =>
  cases (show u = Value.ref a from rx)
  obtain ⟨_, _, _, p⟩ := (show cw X.prog X.w H s.heap a (.tup xs) from I.hok a _ ea)
  obtain ⟨o, h1, h2, _⟩ := p
  exact PySem.W.kia_one PySem.W.kitx_tuple I.kIn ⟨o, h1, h2⟩ e (fun z => nomatch z) h
 | @dK a kvs ea =>
  cases (show u = Value.ref a from rx)
  obtain ⟨_, _, vs, _, p⟩ := (show cw X.prog X.w H s.heap a (.dK kvs) from I.hok a _ ea)
  obtain ⟨o, es, ep, h1, h2, _⟩ := p
  exact PySem.W.kia_one PySem.W.kitx_dict I.kIn ⟨o, h1, h2.1⟩ e (fun z => nomatch z) h
 | @dT a kvs ea =>
  cases (show u = Value.ref a from rx)
  obtain ⟨_, _, xs, _, o, es, ep, h1, h2, _⟩ := (show cw X.prog X.w H s.heap a (.dT kvs) from I.hok a _ ea)
  exact PySem.W.kia_one PySem.W.kitx_dict I.kIn ⟨o, h1, h2.1⟩ e (fun z => nomatch z) h
 | @ins a C dx fs ea cl ha hn htk hm =>
  cases (show u = Value.ref a from rx)
  obtain ⟨mA, O, _⟩ := zU I.hok ea
  obtain ⟨od, J, _⟩ := O.look
  exact PySem.W.kia_one (PySem.W.kitx_own (cl.get _) cl.hd ha hn htk hm) I.kIn J e (fun z => nomatch z) h
end
structure Room (k : Nat) (A : Around) : Prop where
 hd : A.handled = none
 dp : A.depth + 3 * k + 5 < recursionLimit
 un : A.units + 16 * k + 200 < cLine
theorem Room.mono {j k : Nat} {A : Around} (r : Room k A) (h : j ≤ k) : Room j A := ⟨r.hd, by have := r.dp; omega, by have := r.un; omega⟩
theorem Room.deeper {k : Nat} {A : Around} (r : Room (k + 1) A) (env : Env) : Room k (A.deeper env) :=
 ⟨r.hd, by have := r.dp; show A.depth + 1 + 3 * k + 5 < _; omega, by have := r.un; show A.units + 3 + 16 * k + 200 < _; omega⟩
theorem Room.depth {k : Nat} {A : Around} (r : Room k A) : A.depth < recursionLimit := by have := r.dp; omega
theorem Room.units {k : Nat} {A : Around} (r : Room k A) : A.units + 64 < cLine := by have := r.un; omega
theorem Room.units0 {k : Nat} {A : Around} (r : Room k A) : A.units < cLine := by have := r.un; omega
noncomputable def nk : TA := fun _ H Q => Q [] H
noncomputable def gL (ta : TE) (tr : TA) : TA := fun σ H Q => ta σ H fun x H1 => tr σ H1 fun xs H2 => Q (x :: xs) H2
section
variable {X : Cx} {e : Expr} {es : List Expr} {te : TE} {t : TA} {pos : Pos}
theorem ae : PA X [] nk := fun _ _ _ _ H Q I h => Calls.spliced_nil ⟨[], H, I, .nil, h⟩
theorem aa (ha : PE X e te) (hr : PA X es t) (hs : starEach (e :: es) X.env = (false, eval e X.env) :: starEach es X.env := by rfl) : PA X (e :: es) (gL te t) := by
 intro pos pins s σ H Q I h
 rw [hs]
 show wpAny _ _ (spliced ((false, eval e X.env) :: backTo pos (starEach es X.env))) _ _ s
 refine Calls.spliced_cons (thn (ha pins s σ H _ I h) fun u s1 ⟨x, H1, I1, r1, q1⟩ => ?_)
 exact thn (hr pos pins s1 σ H1 _ I1 q1) fun us s2 ⟨xs, H2, I2, r2, q2⟩ => ⟨x :: xs, H2, I2, .cons r1 r2, q2⟩
noncomputable def Im (t : TA) : TE := fun σ H Q => t σ H fun xs H1 => xs.length ≤ sizeLine ∧ ∀ p, H1 p = none → Q (.ref p) (upd H1 p (.tup xs))
noncomputable def Ip (t : TA) : TE := fun σ H Q => t σ H fun xs H1 => xs.length ≤ sizeLine ∧ ∀ p, H1 p = none → Q (.ref p) (upd H1 p (.lst xs))
theorem aM {x1} (h : PA X es t) : PE X (.Tuple es x1 pos) (Im t) := by
 intro pins s σ H Q I hq
 refine wpAny_Tuple_spliced (thn (h pos pins s σ H _ I hq) fun us s1 ⟨xs, H1, I1, r, z, q⟩ => ⟨by rw [← r.length]; exact z, ?_⟩)
 have hf : H1 s1.heap.objs.size = none := I1.hok.fresh (Nat.le_refl _)
 refine ⟨.ref s1.heap.objs.size, upd H1 s1.heap.objs.size (.tup xs), I1.laid (t' := s1.toks) (fun b u e => Heap.get?_push_of_some _ e) (Nat.le_refl _) ?_, rfl, q _ hf⟩
 exact ⟨z, us, r, ⟨_, Heap.get?_push_size _ rfl, rfl, _, rfl⟩⟩
theorem bb (h : PA X es t) : PE X (.List es pos) (Ip t) := by
 intro pins s σ H Q I hq
 refine wpAny_List_spliced (thn (h pos pins s σ H _ I hq) fun us s1 ⟨xs, H1, I1, r, z, q⟩ => ⟨by rw [← r.length]; exact z, ?_⟩)
 have hf : H1 s1.heap.objs.size = none := I1.hok.fresh (Nat.le_refl _)
 refine ⟨.ref s1.heap.objs.size, upd H1 s1.heap.objs.size (.lst xs), I1.laid (t' := s1.toks) (fun b u e => Heap.get?_push_of_some _ e) (Nat.le_refl _) ?_, rfl, q _ hf⟩
 exact ⟨z, us, 0, r, Heap.get?_push_size _ rfl⟩
end
noncomputable abbrev Sp := List V → Hp → VK → XK → Prop
noncomputable abbrev CXT := List Env → Hp → Shared → XK → Value → Shared → Prop
structure Env0 (P : Program) (w : World) (K : PySem.W.Frag) (mg : Str → Option Value) (base : Heap) (A : Around) (outer : List Env) (s : Shared) (H : Hp) : Prop where
 frames : A.frames = some outer
 mod : Mod K mg base
 bs : ∀ b o, base.get? b = some o → s.heap.get? b = some o ∧ H b = none
 bsz : base.objs.size ≤ s.heap.objs.size
 funs : s.heap.FunFrames base outer
 frf : ∀ b ∈ frs outer, H b = none
 hok : HOk P w H s.heap
 bare : AllBare s.gens
noncomputable def CE (outer : List Env) (P : Program) (w : World) (H : Hp) (s : Shared) (Q : VK) (u : Value) (s' : Shared) : Prop :=
 ∃ v H', s'.os = s.os ∧ AllBare s'.gens ∧ Un (frs outer) [] H H' s.heap s'.heap ∧ HOk P w H' s'.heap ∧ bX v u ∧ Q v H'
noncomputable def CR (CX : CXT) (outer : List Env) (P : Program) (w : World) (H : Hp) (s : Shared) (Q : VK) (E : XK) (r : Result) (s' : Shared) : Prop :=
 match r with
 | .ok (.ret u) => CE outer P w H s Q u s'
 | .ok _ => False
 | .error e => CX outer H s E e s'
structure FnOk (P : Program) (w : World) (K : PySem.W.Frag) (mg : Str → Option Value) (base : Heap) (CX : CXT) (k : Nat) (f : Addr) (fd : FuncData) (ps : List Str) (sp : Sp) : Prop where
 len : ∀ vs H Q E, sp vs H Q E → vs.length = ps.length
 run : ∀ (A : Around) (outer : List Env) (s : Shared) (H : Hp) (args : Args) (us : List Value) (vs : List V) (Q : VK) (E : XK), Room k A → Env0 P w K mg base A outer s H → BindsTo s fd args (ps.zip us) → bE vs us → sp vs H Q E →
  codeAny (model P w) A (.call (.ref f) args) (CR CX outer P w H s Q E) s
theorem FnOk.mono {P : Program} {w : World} {K : PySem.W.Frag} {mg : Str → Option Value} {base : Heap} {CX : CXT} {j k : Nat} {f : Addr} {fd : FuncData} {ps : List Str} {sp : Sp} (F : FnOk P w K mg base CX j f fd ps sp) (h : j ≤ k) :
  FnOk P w K mg base CX k f fd ps sp := ⟨F.len, fun A outer s H args us vs Q E hr => F.run A outer s H args us vs Q E (hr.mono h)⟩
section
variable {X : Cx} {pins : List (Addr × Obj)} {σ : St} {H : Hp} {s s' : Shared}
theorem Inv.env0 (I : Inv X pins σ H s) : Env0 X.prog X.w X.K X.mg X.base X.A X.stack s H :=
 ⟨I.ok.frames, I.ok.mod, I.bs, Nat.le_trans I.ok.bsz I.sz, I.stack, I.stkFree, I.hok, I.bare⟩
theorem Inv.after {Q : VK} {u : Value} (I : Inv X pins σ H s) (h : CE X.stack X.prog X.w H s Q u s') : EP X pins σ Q u s' := by
 obtain ⟨v, H', os, bare, un, hok, r, q⟩ := h
 obtain ⟨hh, g, d, t, os'⟩ := s'
 obtain rfl : os' = s.os := os
 exact ⟨v, H', I.call (h' := hh) (g' := g) (d' := d) (t' := t) (ch := []) un hok bare (fun b z => absurd z (by simp)), r, q⟩
end
noncomputable def lP (sp : Sp) (dvs : List V) (E : XK) (t : TA) : TE := fun σ H Q => t σ H fun vs H1 => sp (vs ++ dvs) H1 Q E
noncomputable def gJ (K : PySem.W.Frag) (fd : FuncData) (ps : List Str) (ds : List Value) : Prop :=
 ∀ (s : Shared) (us : List Value), K.In s.heap → (us ++ ds).length = ps.length → BindsTo s fd ⟨us, []⟩ (ps.zip (us ++ ds))
theorem gJ.all {K : PySem.W.Frag} {fd : FuncData} {ps : List Str} (h : ∀ us : List Value, us.length = ps.length → bindArgs fd ⟨us, []⟩ = pure (ps.zip us)) : gJ K fd ps [] := fun s us _ hl => by
 rw [List.append_nil] at hl ⊢
 exact .of_eq (h us hl)
noncomputable def sI (CX : CXT) (X : Cx) (E : XK) : Prop := ∀ (pins : List (Addr × Obj)) (σ : St) (H : Hp) (s : Shared) (e : Value) (s' : Shared), Inv X pins σ H s → CX X.stack H s E e s' → X.xe e s'
section
variable {X : Cx} {CX : CXT} {k : Nat} {f C : Addr} {fd : FuncData} {ps : List Str} {sp : Sp} {dvs : List V} {ds : List Value} {E : XK} {x m : Str} {p pos apos : Pos} {e o : Expr} {es : List Expr} {ta : TE} {t : TA}
theorem CT {pins : List (Addr × Obj)} {σ : St} {H : Hp} {s : Shared} {Q : VK} {us : List Value} {vs : List V} (F : FnOk X.prog X.w X.K X.mg X.base CX k f fd ps sp) (hr : Room k X.A) (hb : gJ X.K fd ps ds) (hd : bE dvs ds) (hx : sI CX X E)
  (I : Inv X pins σ H s) (r : bE vs us) (h : sp (vs ++ dvs) H Q E) : wpAny (model X.prog X.w) X.A (call (.ref f) us) (EP X pins σ Q) X.xe s := by
 have r2 : bE (vs ++ dvs) (us ++ ds) := r.append hd
 have hl : (us ++ ds).length = ps.length := by rw [← r2.length]; exact F.len _ _ _ _ h
 refine wpAny_call (codeAny_mono (F.run X.A X.stack s H ⟨us, []⟩ (us ++ ds) (vs ++ dvs) Q E hr I.env0 (hb s us I.kIn hl) r2 h) fun r s' hq => ?_)
 cases r with
 | error e => exact hx pins σ H s e s' I hq
 | ok fl =>
  cases fl with
  | ret u => exact I.after hq
  | next => exact False.elim hq
  | brk => exact False.elim hq
  | cont => exact False.elim hq
theorem az (F : FnOk X.prog X.w X.K X.mg X.base CX k f fd ps sp) (hr : Room k X.A) (hg : Gl X x) (hm : X.mg x = some (.ref f)) (hk : PySem.W.keepIn X.K (.ref f) = true) (hb : gJ X.K fd ps ds) (hd : bE dvs ds) (hx : sI CX X E)
  (ha : PA X (e :: es) t) (hdb : (x == ("__debug__" : Str)) = false := by decide) (he : starEach (e :: es) X.env = (false, eval e X.env) :: starEach es X.env := by rfl) (hpl : (backTo pos (starEach es X.env)).any (·.1) = false := by rfl) :
  PE X (.Call (.Name x p) (e :: es) [] pos) (lP sp dvs E t) := by
 intro pins s σ H Q I h
 refine wpAny_Call_Name_kw (jJ I hg hm ?_ hdb)
 refine PySem.W.callWith_K (h₀ := X.base) I.ok.mod.kin hk (thn (ha pos pins s σ H _ I h) fun us s1 ⟨vs, H1, I1, r, q⟩ => ⟨I1.kIn, ?_⟩) he hpl
 exact CT F hr hb hd hx I1 r q
theorem Cb (F : FnOk X.prog X.w X.K X.mg X.base CX k f fd ps sp) (hr : Room k X.A) (hg : Gl X x) (hm : X.mg x = some (.ref f)) (hk : PySem.W.keepIn X.K (.ref f) = true) (hb : gJ X.K fd ps ds) (hd : bE dvs ds) (hx : sI CX X E)
  (hdb : (x == ("__debug__" : Str)) = false := by decide) : PE X (.Call (.Name x p) [] [] pos) (lP sp dvs E nk) := by
 intro pins s σ H Q I h
 refine wpAny_Call_Name_kw (jJ I hg hm ?_ hdb)
 exact PySem.W.callWith_K0 I.kIn hk (CT (us := []) F hr hb hd hx I .nil h)
end
structure FnScope (N P : List Str) (sc : Scope) : Prop where
 kind : sc.kind = .function
 co : sc.isCoroutine = false
 gen : sc.isGenerator = false
 nd : N.Nodup
 pre : N.take P.length = P
 par : ∀ x ∈ P, sc.names.lookup x = some .local ∨ sc.names.lookup x = some .cell
 nofree : ∀ y ∈ sc.names, y.2 ≠ .free
theorem ud {kindOf : Str → Option NameKind} {x : Str} : ∀ {binds : List (Str × Value)} {m : Str → Option Value}, (∀ v, (x, v) ∉ binds) → bindL kindOf binds m x = m x
  | [], _, _ => rfl
  | (n, v) :: r, m, h => by
    unfold bindL
    rw [ud fun w hw => h w (List.mem_cons_of_mem _ hw)]
    split
    · have : x ≠ n := by rintro rfl; exact h v List.mem_cons_self
      simp [this]
    · rfl
theorem uH {kindOf : Str → Option NameKind} {x : Str} : ∀ {binds : List (Str × Value)} {m : Str → Option Value}, (∀ v, (x, v) ∉ binds) → bindC kindOf binds m x = m x
  | [], _, _ => rfl
  | (n, v) :: r, m, h => by
    unfold bindC
    rw [uH fun w hw => h w (List.mem_cons_of_mem _ hw)]
    split
    · rfl
    · have : x ≠ n := by rintro rfl; exact h v List.mem_cons_self
      simp [this]
theorem tP {kindOf : Str → Option NameKind} {x : Str} {v : Value} : ∀ {P : List Str} {vs : List Value} {i : Nat} {m : Str → Option Value}, P.Nodup → P[i]? = some x → vs[i]? = some v → kindOf x = some .local →
  bindL kindOf (P.zip vs) m x = some v
 | [], _, _, _, _, h, _, _ => by simp at h
 | _ :: _, [], _, _, _, _, h, _ => by simp at h
 | p :: P, w :: vs, 0, m, nd, h1, h2, hk => by
  simp at h1 h2; subst h1; subst h2
  show bindL kindOf ((p, w) :: P.zip vs) m p = _
  unfold bindL
  rw [ud fun v hv => (List.nodup_cons.mp nd).1 (List.of_mem_zip hv).1, if_pos hk]
  simp
 | p :: P, w :: vs, i + 1, m, nd, h1, h2, hk => by
  show bindL kindOf ((p, w) :: P.zip vs) m x = _
  unfold bindL
  exact tP (i := i) (List.nodup_cons.mp nd).2 (by simpa using h1) (by simpa using h2) hk
theorem tF {kindOf : Str → Option NameKind} {x : Str} {v : Value} : ∀ {P : List Str} {vs : List Value} {i : Nat} {m : Str → Option Value}, P.Nodup → P[i]? = some x → vs[i]? = some v → kindOf x ≠ some .local →
  bindC kindOf (P.zip vs) m x = some v
 | [], _, _, _, _, h, _, _ => by simp at h
 | _ :: _, [], _, _, _, _, h, _ => by simp at h
 | p :: P, w :: vs, 0, m, nd, h1, h2, hk => by
  simp at h1 h2; subst h1; subst h2
  show bindC kindOf ((p, w) :: P.zip vs) m p = _
  unfold bindC
  rw [uH fun v hv => (List.nodup_cons.mp nd).1 (List.of_mem_zip hv).1, if_neg hk]
  simp
 | p :: P, w :: vs, i + 1, m, nd, h1, h2, hk => by
  show bindC kindOf ((p, w) :: P.zip vs) m x = _
  unfold bindC
  exact tF (i := i) (List.nodup_cons.mp nd).2 (by simpa using h1) (by simpa using h2) hk
noncomputable def jb (N : List Str) (vs : List V) : St := vs.map some ++ List.replicate (N.length - vs.length) none
noncomputable def fH (CX : CXT) (P : Program) (w : World) (K : PySem.W.Frag) (mg : Str → Option Value) (base : Heap) (N : List Str) (qual : Str) (scope : Scope) (f : Addr) (cd : Value) (A : Around) (outer : List Env) (s : Shared) (H : Hp) (E : XK) : Cx where
 prog := P
 w := w
 K := K
 mg := mg
 base := base
 A := A.deeper (envOfC qual scope s.heap.objs.size f cd)
 N := N
 s₀ := s
 H₀ := H
 env := envOfC qual scope s.heap.objs.size f cd
 outer := outer
 stack := envOfC qual scope s.heap.objs.size f cd :: outer
 ex := []
 calm := true
 fn := fun _ => true
 pn := []
 xe := fun e s' => wpAny (model P w) (A.deeper (envOfC qual scope s.heap.objs.size f cd)) (leaving (envOfC qual scope s.heap.objs.size f cd) e) (fun _ s'' => CX outer H s E e s'') (fun e' s'' => CX outer H s E e' s'') s'
theorem wt {sc : Scope} {n : Nat} {x : Str} (h : sc.names.lookup x = some .cell) : ∃ c, (cellsFrom n sc.names []).lookup x = some c := by
 have q := PySem.W.cellsFrom_some sc.names n [] (.inl h)
 exact Option.isSome_iff_exists.mp q
theorem uD {CX : CXT} {P : Program} {w : World} {K : PySem.W.Frag} {mg : Str → Option Value} {base : Heap} {N ps : List Str} {qual : Str} {scope : Scope} {f : Addr} {cd : Value} {A : Around} {outer : List Env} {s s1 : Shared} {H : Hp} {E : XK} {us : List Value} {vs : List V}
  (S : FnScope N ps scope) (hd : A.handled = none) (e0 : Env0 P w K mg base A outer s H) (hl : vs.length = ps.length) (r : bE vs us)
  (x : InCallC s s.heap.objs.size (bindL (envOfC qual scope s.heap.objs.size f cd).kindOf (ps.zip us) fun _ => none) (cellsFrom (s.heap.objs.size + 1) scope.names []) (bindC (envOfC qual scope s.heap.objs.size f cd).kindOf (ps.zip us) fun _ => none) s1) :
  Inv (fH CX P w K mg base N qual scope f cd A outer s H E) [] (jb N vs) H s1 := by
 have hpl : ps.length ≤ N.length := by have := congrArg List.length S.pre; rw [List.length_take] at this; omega
 obtain ⟨h1, tk, rfl, hk⟩ := x.done
 have noA : ∀ b : Addr, b ∉ (fH CX P w K mg base N qual scope f cd A outer s H E).ex := fun b z => absurd (show b ∈ ([] : List Addr) from z) (by simp)
 refine ⟨⟨e0.mod, S.kind, rfl, rfl, Nat.le_refl _, fun y z c h1 h2 => ?_, fun y hy => ?_, fun y c _ h => ?_, fun _ => hd, Around.frames_deeper e0.frames, .inr ⟨rfl, rfl⟩, fun b z => absurd z (noA b), e0.bs, e0.bsz, fun b _ _ => noA b, fun b z => absurd z (noA b), e0.funs, e0.frf⟩,
  rfl, e0.bare, Un.kept hk, ⟨_, x.toInCall.ns, fun i y v h1 h2 h3 => ?_⟩, fun y c h => ⟨_, x.cell y c h⟩, e0.hok.fresh (Nat.le_refl _), fun y c h => ?_, fun p hp => absurd (show p ∈ ([] : List (Addr × Obj)) from hp) (by simp), e0.hok.kept hk, ?_⟩
 ·exact name_of_addr x.apart (PySem.mem_of_lookup h1) (PySem.mem_of_lookup h2)
 ·have hy : scope.names.lookup y = some .cell ∨ scope.names.lookup y = some .free := hy
  rcases hy with hy | hy
  ·exact wt hy
  ·exact absurd rfl (S.nofree _ (PySem.mem_of_lookup hy))
 ·exact Nat.le_of_lt (x.above y c (PySem.mem_of_lookup h))
 ·have hi : i < vs.length := by
   unfold jb at h2
   by_cases hi : i < vs.length
   ·exact hi
   ·rw [List.getElem?_append_right (by simpa using hi)] at h2
    rw [List.getElem?_replicate] at h2
    split at h2 <;> cases h2
  have ha : vs[i]? = some v := by
   unfold jb at h2
   rw [List.getElem?_append_left (by simpa using hi), List.getElem?_map] at h2
   cases e : vs[i]? with
   | none => rw [e] at h2; cases h2
   | some a => rw [e] at h2; cases h2; rfl
  obtain ⟨u, hu, rv⟩ := r.get ha
  have hp : ps[i]? = some y := by
   rw [← S.pre, List.getElem?_take_of_lt (by omega)]; exact h1
  have ndP : ps.Nodup := by rw [← S.pre]; exact S.nd.sublist (List.take_sublist _ _)
  refine ⟨u, rv, ?_⟩
  rcases S.par y (List.mem_of_getElem? hp) with k | k
  ·exact .inl ⟨k, tP ndP hp hu k⟩
  ·obtain ⟨c, e⟩ := wt (n := s.heap.objs.size + 1) k
   refine .inr ⟨.inl k, c, e, ?_⟩
   have q := x.cell y c e
   rw [tF ndP hp hu (by show scope.names.lookup y ≠ _; rw [k]; decide)] at q
   exact q
 ·exact e0.hok.fresh (Nat.le_of_lt (x.above y c (PySem.mem_of_lookup h)))
 ·unfold jb
  show _ = N.length
  rw [List.length_append, List.length_map, List.length_replicate]
  omega
theorem BU {CX : CXT} {P : Program} {w : World} {K : PySem.W.Frag} {mg : Str → Option Value} {base : Heap} {k : Nat} {f : Addr} {name qual : Str} {params : Arguments} {body : List Stmt} {scope : Scope} {dV kV doc pm cdv ct oc : Value} {an od : Option Addr}
  {osl : Array (Option Value)} {N ps : List Str} {sp : Sp} (lk : K.lookup f = some ⟨oc, od, .func (PySem.W.fnOf name qual params body scope dV kV doc pm an cdv ct), osl⟩) (hcd : PySem.W.codeIn K cdv qual = true) (S : FnScope N ps scope)
  (len : ∀ vs H Q E, sp vs H Q E → vs.length = ps.length)
  (hbody : ∀ (A : Around) (outer : List Env) (s : Shared) (H : Hp) (vs : List V) (Q : VK) (E : XK), Room k (A.deeper (envOfC qual scope s.heap.objs.size f cdv)) → sp vs H Q E →
   ∃ t, PSs (fH CX P w K mg base N qual scope f cdv A outer s H E) body t ∧ t { nx := fun _ H' => Q .non H', rt := Q } (jb N vs) H) :
  FnOk P w K mg base CX (k + 1) f (PySem.W.fnOf name qual params body scope dV kV doc pm an cdv ct) ps sp := by
 refine ⟨len, fun A outer s H args us vs Q E hr e0 hb r hsp => ?_⟩
 have hl := len _ _ _ _ hsp
 have KX : K.In s.heap := e0.mod.kin.keeps fun b o e => (e0.bs b o e).1
 have lim : s.heap.NoLimit := e0.mod.nolimit.keeps fun b o e => (e0.bs b o e).1
 have hkind : ∀ y ∈ ps.zip us, scope.names.lookup y.1 = some .local ∨ (scope.names.lookup y.1 = some .cell ∧ ((cellsFrom (s.heap.objs.size + 1) scope.names []).lookup y.1).isSome = true) := fun ⟨n, v⟩ hy => by
  rcases S.par n (List.of_mem_zip hy).1 with q | q
  ·exact .inl q
  ·exact .inr ⟨q, PySem.W.cellsFrom_some _ _ _ (.inl q)⟩
 refine codeAny_call_function hr.depth (KX _ _ lk) rfl S.co S.gen rfl (PySem.W.codeRec_of KX hcd) (hb _ _ _ _ ?_)
 refine wpAny_newFunctionEnv_cells S.kind hkind fun env he s1 x => ?_
 subst he
 refine ⟨lim.keeps x.toInCall.keep, codeAny_func ?_⟩
 obtain ⟨t, ht, hq⟩ := hbody A outer s H vs Q E (hr.deeper _) hsp
 have I : Inv (fH CX P w K mg base N qual scope f cdv A outer s H E) [] (jb N vs) H s1 := uD S hr.hd e0 hl r x
 refine wpAny_mono (ht [] s1 (jb N vs) H _ I hq) (fun fl s' hs => ?_) fun e s' hs => hs
 have fin : ∀ {σ' : St} {H' : Hp} {v : V} {u : Value}, Inv (fH CX P w K mg base N qual scope f cdv A outer s H E) [] σ' H' s' → bX v u → Q v H' → CE outer P w H s Q u s' :=
  fun {σ' H' v u} J rv q => ⟨v, H', J.os, J.bare, J.base, J.hok, rv, q⟩
 cases fl with
 | ret u =>
  obtain ⟨v, σ', H', J, rv, q⟩ := hs
  exact fin J rv q
 | next =>
  obtain ⟨σ', H', J, q⟩ := hs
  exact fin (v := V.non) (u := Value.none) J rfl q
 | brk =>
  obtain ⟨_, _, _, q⟩ := hs
  exact False.elim q
 | cont =>
  obtain ⟨_, _, _, q⟩ := hs
  exact False.elim q
section
variable {X : Cx} {x : Str} {p pos : Pos} {e : Expr} {es : List Expr} {t : TA} {id T : String} {r : List V → Hp → VK → Prop}
noncomputable def tCB (r : List V → Hp → VK → Prop) (t : TA) : TE := fun σ H Q => t σ H fun vs H1 => r vs H1 Q
theorem ax (hc : io X (.builtin id) r) (hg : Gl X x) (hm : X.mg x = none) (hv : bootBuiltins x = some (.builtin id)) (ha : PA X (e :: es) t) (hn : x ≠ "__name__" := by decide) (hdb : (x == ("__debug__" : Str)) = false := by decide)
  (he : starEach (e :: es) X.env = (false, eval e X.env) :: starEach es X.env := by rfl) (hpl : (backTo pos (starEach es X.env)).any (·.1) = false := by rfl) : PE X (.Call (.Name x p) (e :: es) [] pos) (tCB r t) := by
 intro pins s σ H Q I h
 refine wpAny_Call_Name_kw (jz I hg hm hv ?_ hn hdb)
 exact PyProof.Rows.callWith_builtin1 (thn (ha pos pins s σ H _ I h) fun us s1 ⟨vs, H1, I1, r1, q1⟩ => hc pins s1 σ H1 vs us Q I1 r1 q1) he hpl
theorem ck (hc : io X (.type T) r) (hg : Gl X x) (hm : X.mg x = none) (hv : bootBuiltins x = some (.type T)) (ha : PA X (e :: es) t) (hn : x ≠ "__name__" := by decide) (hdb : (x == ("__debug__" : Str)) = false := by decide)
  (he : starEach (e :: es) X.env = (false, eval e X.env) :: starEach es X.env := by rfl) (hpl : (backTo pos (starEach es X.env)).any (·.1) = false := by rfl) : PE X (.Call (.Name x p) (e :: es) [] pos) (tCB r t) := by
 intro pins s σ H Q I h
 refine wpAny_Call_Name_kw (jz I hg hm hv ?_ hn hdb)
 exact PyProof.Rows.callWith_type1 (thn (ha pos pins s σ H _ I h) fun us s1 ⟨vs, H1, I1, r1, q1⟩ => hc pins s1 σ H1 vs us Q I1 r1 q1) he hpl
end
end L2
namespace HT
open PySem PyProof.Rows
section
variable {prog : Program} {w : World} {A : Around} {E : Value → Shared → Prop} {s : Shared}
theorem cat_tup {t b : Addr} {vs ws : List Value} {Q : Value → Shared → Prop} (ht : IsTup s.heap t vs.toArray) (hb : IsTup s.heap b ws.toArray) (hv : vs ≠ [])
  (h1 : ws = [] → Q (.ref t) s) (h2 : ws ≠ [] → Q (.ref s.heap.objs.size) { s with heap := s.heap.push { cls := .type "tuple", data := .seq (vs ++ ws).toArray } })
  (hsz : vs.length + ws.length ≤ sizeLine) : wpAny (model prog w) A (binaryOp .Add (.ref t) (.ref b)) Q E s := by
 obtain ⟨⟨cls, dd, data, sl⟩, ho, hc, n, hd⟩ := id ht
 obtain ⟨⟨cls2, dd2, data2, sl2⟩, ho2, hc2, n2, hd2⟩ := id hb
 simp only at hc hd hc2 hd2
 subst hc hd hc2 hd2
 have e : vs.toArray ++ ws.toArray = (vs ++ ws).toArray := by simp
 by_cases hw : ws = []
 ·exact concat_meets ⟨_, ho, rfl⟩ ⟨_, ho2, rfl⟩ noFill_tuple_add seq_tuple_add PySem.F.slot_tuple_add PySem.F.entry_tuple_add (PySem.F.args_tuple_add_2 _ _)
   (tuple_addW1 t b vs.toArray ws.toArray n n2 dd dd2 sl sl2 (by simpa using hv) (by simp [hw])) ⟨ho, ho2, h1 hw⟩
 ·refine concat_meets ⟨_, ho, rfl⟩ ⟨_, ho2, rfl⟩ noFill_tuple_add seq_tuple_add PySem.F.slot_tuple_add PySem.F.entry_tuple_add (PySem.F.args_tuple_add_2 _ _)
   (tuple_addW2 t b vs.toArray ws.toArray n n2 dd dd2 sl sl2 (by simpa using hv) (by simpa using hw) (by rw [List.size_toArray, List.size_toArray]; exact hsz)) ⟨ho, ho2, ?_⟩
  rw [e]
  exact h2 hw
noncomputable def sIx (n d : Nat) : Option Int → Nat
 | none => d
 | some v => if v < 0 then (v + (n : Int)).toNat else min v.toNat n
theorem sIx_none (n d : Nat) : sIx n d none = d := rfl
theorem sIx_nat (n d k : Nat) : sIx n d (some (k : Int)) = min k n := by
 show (if (k : Int) < 0 then ((k : Int) + (n : Int)).toNat else min (k : Int).toNat n) = min k n
 rw [if_neg (by omega), Int.toNat_natCast]
theorem FT (n d : Nat) (hd : d ≤ n) (o : Option Int) : sIx n d o ≤ n := by
 cases o with
 | none => exact hd
 | some v =>
  show (if v < 0 then (v + (n : Int)).toNat else min v.toNat n) ≤ n
  by_cases hv : v < 0
  ·rw [if_pos hv]; omega
  ·rw [if_neg hv]; exact Nat.min_le_right _ _
theorem AC (v : Int) (n d : Nat) : (if v < 0 then max (v + (n : Int)) 0 else min v (n : Int)) = ((sIx n d (some v) : Nat) : Int) := by
 show (if v < 0 then max (v + (n : Int)) 0 else min v (n : Int)) = (((if v < 0 then (v + (n : Int)).toNat else min v.toNat n) : Nat) : Int)
 by_cases hv : v < 0
 ·simp only [if_pos hv]; omega
 ·simp only [if_neg hv]; omega
theorem yB (lo hi : Option Int) (n : Nat) : Builtin.Slice.sliceAdjust lo hi 1 (n : Int) = (((sIx n 0 lo : Nat) : Int), ((sIx n n hi : Nat) : Int)) := by
 have h1 : ¬ ((1 : Int) < 0) := by omega
 unfold Builtin.Slice.sliceAdjust
 simp only [h1, if_false]
 refine Prod.ext ?_ ?_
 ·cases lo with
  | none => rfl
  | some v => exact AC v n 0
 ·cases hi with
  | none => rfl
  | some v => exact AC v n n
theorem zc (i j : Nat) : Builtin.Slice.slicePlaces (i : Int) (j : Int) 1 = j - i := by
 unfold Builtin.Slice.slicePlaces
 have h1 : (1 : Int) > 0 := by omega
 simp only [h1, if_true, Int.ediv_one]
 split <;> omega
theorem qP {v : Value} {o : Option Int} {Q : Option Int → Shared → Prop} (p : IsPart v o) (h : Q o s) : wpAny (model prog w) A (Builtin.Slice.slicePartIndex v) Q E s := by
 cases p with
 | none => exact slicePart_none h
 | int i t => exact slicePart_int h
theorem iO {sl : Addr} {vl vu : Value} {lo hi : Option Int} {n : Nat} {Q : Int × Int × Nat → Shared → Prop} (hs : s.heap.IsSliceOf sl vl vu .none) (pl : IsPart vl lo) (pu : IsPart vu hi)
  (h : Q (((sIx n 0 lo : Nat) : Int), 1, sIx n n hi - sIx n 0 lo) s) : wpAny (model prog w) A (Builtin.Slice.sliceApplied (.ref sl) (pure (n : Int))) Q E s := by
 obtain ⟨os, hos, hcs, hds⟩ := id hs
 unfold Builtin.Slice.sliceApplied Builtin.Slice.sliceFields
 refine wpAny_bind (wpAny_bind (wpAny_field hos hds (x := vl) rfl (wpAny_bind (wpAny_field hos hds (x := vu) rfl (wpAny_bind (wpAny_field hos hds (x := .none) rfl (wpAny_pure ?_)))))))
 refine wpAny_bind (slicePart_none ?_)
 show wpAny _ _ (if ((1 : Int) == 0) = true then _ else _) _ _ s
 rw [if_neg (by decide)]
 refine wpAny_bind (qP pl (wpAny_bind (qP pu (wpAny_bind (wpAny_pure ?_)))))
 show wpAny _ _ (match Builtin.Slice.sliceAdjust lo hi 1 (n : Int) with | (lo, hi) => pure (lo, (1 : Int), Builtin.Slice.slicePlaces lo hi 1)) _ _ s
 rw [yB lo hi n]
 show wpAny _ _ (pure (((sIx n 0 lo : Nat) : Int), (1 : Int), Builtin.Slice.slicePlaces ((sIx n 0 lo : Nat) : Int) ((sIx n n hi : Nat) : Int) 1)) _ _ s
 rw [zc]
 exact wpAny_pure h
theorem CZ (xs : Array Value) (i k : Nat) : ((List.range k).filterMap fun (m : Nat) => xs[((i : Int) + (m : Int) * 1).toNat]?).toArray = ((xs.toList.drop i).take k).toArray := by
 have e : (fun (m : Nat) => xs[((i : Int) + (m : Int) * 1).toNat]?) = fun m => xs[i + m]? := by
  funext m
  have : ((i : Int) + (m : Int) * 1).toNat = i + m := by omega
  rw [this]
 rw [e]
 have := pick_run xs i k
 rw [List.filterMap_map] at this
 have e2 : ((fun x => xs[x]?) ∘ fun x => i + x) = fun m => xs[i + m]? := rfl
 rw [e2] at this
 rw [this]
theorem getItem_tuple_cut {t sl : Addr} {items : Array Value} {vl vu : Value} {lo hi : Option Int} {Q : Value → Shared → Prop} (ht : IsTup s.heap t items) (hs : s.heap.IsSliceOf sl vl vu .none) (pl : IsPart vl lo) (pu : IsPart vu hi)
  (hw : ¬ (sIx items.size 0 lo = 0 ∧ sIx items.size items.size hi = items.size))
  (h : Q (.ref s.heap.objs.size) { s with heap := s.heap.push { cls := .type "tuple", data := .seq ((items.toList.drop (sIx items.size 0 lo)).take (sIx items.size items.size hi - sIx items.size 0 lo)).toArray } })
  (hsz : items.size ≤ sizeLine) : wpAny (model prog w) A (getItem (.ref t) (.ref sl)) Q E s := by
 have htake : sizeOk (.seq ((items.toList.drop (sIx items.size 0 lo)).take (sIx items.size items.size hi - sIx items.size 0 lo)).toArray) := by
  show ((items.toList.drop (sIx items.size 0 lo)).take (sIx items.size items.size hi - sIx items.size 0 lo)).toArray.size ≤ sizeLine
  rw [List.size_toArray, List.length_take, List.length_drop, Array.length_toList]
  omega
 have hj : sIx items.size items.size hi ≤ items.size := FT _ _ (Nat.le_refl _) hi
 obtain ⟨os, hos, hcs, hds⟩ := id hs
 have hTs : s.TypeIs (.ref sl) "slice" := ⟨os, hos, hcs⟩
 unfold getItem
 try with_reducible refine wpAny_holding ?_
 first | refine wpAny_bind (wpAny_pure ?_) | skip
 refine wpAny_bind (wpAny_sequenceKey ht.typeIs (by decide) ?_)
 refine wpAny_bind (wpAny_callSpecial?_slot (name := Str.ofString "__getitem__") ht.typeIs PyProof.Rows.slot_tuple_getitem
  (wpAny_call_entry PyProof.Rows.slot_tuple_getitem ht.typeIs entry_tuple_getitem ?_ (args_tuple_getitem _ _)))
 show wpAny _ _ (Builtin.Tuple.tupleItemsOf (.ref t) >>= _) _ _ s
 refine wpAny_bind (tupleItemsOf_ ht ?_)
 refine wpAny_bind (wpAny_typeOf hTs ?_)
 rw [if_pos (by decide)]
 refine wpAny_bind (iO hs pl pu ?_)
 have hno : ¬ ((((sIx items.size 0 lo : Nat) : Int) == 0 && (1 : Int) == 1 && (sIx items.size items.size hi - sIx items.size 0 lo) == items.size) = true) := by
  intro q
  rw [Bool.and_eq_true, Bool.and_eq_true] at q
  have q1 : ((sIx items.size 0 lo : Nat) : Int) = 0 := eq_of_beq q.1.1
  have q2 : sIx items.size items.size hi - sIx items.size 0 lo = items.size := eq_of_beq q.2
  exact hw ⟨by omega, by omega⟩
 show wpAny _ _ (if (((sIx items.size 0 lo : Nat) : Int) == 0 && (1 : Int) == 1 && (sIx items.size items.size hi - sIx items.size 0 lo) == items.size) = true then _ else _) _ _ s
 rw [if_neg hno, CZ]
 first
  | exact wpAny_bind (m := Builtin.Tuple.tupleExact _) (wpAny_newObj_type (wpAny_pure ⟨_, rfl, wpAny_pure h⟩) htake)
  | exact wpAny_bind (m := Builtin.Tuple.tupleExact _) (wpAny_newObj_type (wpAny_bind (wpAny_pure (wpAny_pure ⟨_, rfl, wpAny_pure h⟩))) htake)
  | exact wpAny_bind (wpAny_bind (m := Builtin.Tuple.tupleExact _) (wpAny_newObj_type (wpAny_pure (wpAny_pure ⟨_, rfl, wpAny_pure h⟩)) htake))
  | exact wpAny_bind (wpAny_bind (m := Builtin.Tuple.tupleExact _) (wpAny_newObj_type (wpAny_pure ⟨_, rfl, wpAny_pure h⟩) htake))
end
end HT
namespace L2
open PySem PySem.Spec PyProof.Rows
noncomputable abbrev TO := St → Hp → (Option Int → Hp → Prop) → Prop
noncomputable def PO (X : Cx) (e : Option Expr) (t : TO) : Prop :=
 ∀ (pins : List (Addr × Obj)) (s : Shared) (σ : St) (H : Hp) (Q : Option Int → Hp → Prop), Inv X pins σ H s → t σ H Q →
  wpAny (model X.prog X.w) X.A (evalPart e X.env) (fun u s' => ∃ o H', Inv X pins σ H' s' ∧ IsPart u o ∧ Q o H') X.xe s
noncomputable def vV : TO := fun _ H Q => Q none H
noncomputable def IL (t : TE) : TO := fun σ H Q => t σ H fun x H1 => ∃ i, x = .int i ∧ Q (some i) H1
section
variable {X : Cx} {e : Expr} {te : TE} {lo hi : Option Expr} {tl th : TO} {pos p2 : Pos}
theorem hW : PO X none vV := by
 intro pins s σ H Q I h
 rw [evalPart_none]
 exact wpAny_pure ⟨none, H, I, .none, h⟩
theorem hX (h : PE X e te) : PO X (some e) (IL te) := by
 intro pins s σ H Q I hw
 rw [evalPart_some]
 refine thn (h pins s σ H _ I hw) fun u s1 ⟨x, H1, I1, r1, q1⟩ => ?_
 obtain ⟨i, rfl, q⟩ := q1
 obtain ⟨t, rfl⟩ := r1
 exact ⟨some i, H1, I1, .int i t, q⟩
noncomputable def SlR (X : Cx) (r : V → Option Int → Option Int → Hp → VK → Prop) : Prop :=
 ∀ (pins : List (Addr × Obj)) (s : Shared) (σ : St) (H : Hp) (x : V) (v vl vu : Value) (lo hi : Option Int) (sl : Addr) (Q : VK), Inv X pins σ H s → bX x v → s.heap.IsSliceOf sl vl vu .none → IsPart vl lo → IsPart vu hi → r x lo hi H Q →
  ∃ T id, typeLookup (.type T) "__getitem__" = pure (some (.builtin id)) ∧ s.TypeIs v T ∧ wpAny (model X.prog X.w) X.A (getItem v (.ref sl)) (EP X pins σ Q) X.xe s
noncomputable def tSl (r : V → Option Int → Option Int → Hp → VK → Prop) (te : TE) (tl th : TO) : TE := fun σ H Q => te σ H fun x H1 => tl σ H1 fun l H2 => th σ H2 fun u H3 => r x l u H3 Q
theorem fW {r : V → Option Int → Option Int → Hp → VK → Prop} (hr : SlR X r) (he : PE X e te) (hl : PO X lo tl) (hu : PO X hi th) : PE X (.Subscript e (.Slice lo hi none p2) pos) (tSl r te tl th) := by
 intro pins s σ H Q I h
 refine Subscript_ (thn (he pins s σ H _ I h) fun v s1 ⟨x, H1, I1, r1, q1⟩ => ?_)
 refine wpAny_Slice (thn (hl pins s1 σ H1 _ I1 q1) fun vl s2 ⟨l, H2, I2, pl, q2⟩ => thn (hu pins s2 σ H2 _ I2 q2) fun vu s3 ⟨u, H3, I3, pu, q3⟩ => ?_)
 rw [evalPart_none]
 refine wpAny_pure ?_
 have I4 : Inv X pins σ H3 { s3 with heap := s3.heap.push { cls := .type "slice", data := .fields #[vl, vu, .none] } } := I3.kept (t' := s3.toks) fun b ob q => Heap.get?_push_of_some _ q
 obtain ⟨T, id, hT, ht, hg⟩ := hr pins { s3 with heap := s3.heap.push { cls := .type "slice", data := .fields #[vl, vu, .none] } } σ H3 x v vl vu l u s3.heap.objs.size Q I4 r1 (Heap.IsSliceOf.new ..) pl pu q3
 show wpAny (model X.prog X.w) X.A (subscriptTail e (.Slice lo hi none p2) v (.ref s3.heap.objs.size)) (EP X pins σ Q) X.xe { s3 with heap := s3.heap.push { cls := .type "slice", data := .fields #[vl, vu, .none] } }
 exact tail_any (ops := [.ref s3.heap.objs.size, v]) ht hT hg (by with_unfolding_all rfl)
noncomputable def gX (xs : List V) (lo hi : Option Int) : List V := (xs.drop (HT.sIx xs.length 0 lo)).take (HT.sIx xs.length xs.length hi - HT.sIx xs.length 0 lo)
theorem pB (xs : List V) (lo hi : Option Int) : (gX xs lo hi).length ≤ xs.length := by
 unfold gX
 rw [List.length_take, List.length_drop]
 omega
noncomputable def JC (K : PySem.W.Frag) : V → Option Int → Option Int → Hp → VK → Prop := fun x lo hi H Q => ∃ a xs, x = .ref a ∧ SqT K H a xs ∧
 ¬ (HT.sIx xs.length 0 lo = 0 ∧ HT.sIx xs.length xs.length hi = xs.length) ∧ ∀ p, H p = none → Q (.ref p) (upd H p (.tup (gX xs lo hi)))
theorem HK : SlR X (JC X.K) := by
 intro pins s σ H x v vl vu lo hi sl Q I rx hs pl pu h
 obtain ⟨a, xs, rfl, hx, hw, q⟩ := h
 cases rx
 obtain ⟨its, r, ht, hz⟩ := I.tuple hx
 have hlen : its.toArray.size = xs.length := by rw [List.size_toArray]; exact r.length.symm
 refine ⟨"tuple", _, PyProof.Rows.slot_tuple_getitem.lookup, ht.typeIs, ?_⟩
 refine HT.getItem_tuple_cut ht hs pl pu (by rw [hlen]; exact hw) ?_ (by rw [hlen]; exact hz)
 rw [hlen]
 refine ⟨.ref s.heap.objs.size, _, I.laid (t' := s.toks) (o := .tup (gX xs lo hi)) (fun b ob q => Heap.get?_push_of_some _ q) (Nat.le_refl _) ?_, rfl, q _ (I.hok.fresh (Nat.le_refl _))⟩
 exact ⟨Nat.le_trans (pB xs lo hi) hz, _, (r.drop (HT.sIx xs.length 0 lo)).take (HT.sIx xs.length xs.length hi - HT.sIx xs.length 0 lo), IsTup.new _ _⟩
noncomputable def IW (K : PySem.W.Frag) : R2 := fun x y H Q => ∃ a b xs ys, x = .ref a ∧ y = .ref b ∧ SqT K H a xs ∧ SqT K H b ys ∧ xs ≠ [] ∧ xs.length + ys.length ≤ sizeLine ∧
 (ys = [] → Q (.ref a) H) ∧ (ys ≠ [] → ∀ p, H p = none → Q (.ref p) (upd H p (.tup (xs ++ ys))))
theorem bE.nil_iff {xs : List V} {us : List Value} (r : bE xs us) : us = [] ↔ xs = [] := by
 cases r with
 | nil => simp
 | cons _ _ => simp
theorem Es : OpR X (binaryOp .Add) (IW X.K) := by
 intro pins s σ H x y v u Q I rx ry h
 obtain ⟨a, b, xs, ys, rfl, rfl, ha, hb, hx, hz, q1, q2⟩ := h
 cases rx
 cases ry
 obtain ⟨its, r1, p1, _⟩ := I.tuple ha
 obtain ⟨its2, r2, p2, _⟩ := I.tuple hb
 refine HT.cat_tup p1 p2 (fun z => hx (r1.nil_iff.mp z)) (fun z => ⟨.ref a, H, I, rfl, q1 (r2.nil_iff.mp z)⟩) (fun z => ?_) (by rw [← r1.length, ← r2.length]; exact hz)
 refine ⟨.ref s.heap.objs.size, _, I.laid (t' := s.toks) (o := .tup (xs ++ ys)) (fun b ob q => Heap.get?_push_of_some _ q) (Nat.le_refl _) ?_, rfl, q2 (fun w => z (r2.nil_iff.mpr w)) _ (I.hok.fresh (Nat.le_refl _))⟩
 exact ⟨by rw [List.length_append]; exact hz, _, r1.append r2, IsTup.new _ _⟩
end
noncomputable def ixN (n : Nat) (i : Int) : Option Nat := if 0 ≤ i then (if i < n then some i.toNat else none) else if -(n : Int) ≤ i then some (i + n).toNat else none
noncomputable def atI {α : Type} (xs : List α) (i : Int) : Option α := (ixN xs.length i).bind fun j => xs[j]?
theorem Ai {n : Nat} {i : Int} {j : Nat} (h : ixN n i = some j) : seqIndex? i n = some j ∧ j < n ∧ -(n : Int) ≤ i ∧ i < n := by
 unfold ixN at h
 by_cases h0 : 0 ≤ i
 ·rw [if_pos h0] at h
  by_cases h1 : i < n
  ·rw [if_pos h1] at h
   have e : i.toNat = j := Option.some.inj h
   exact ⟨by rw [seqIndex_of h0 h1, e], by omega, by omega, h1⟩
  ·rw [if_neg h1] at h; cases h
 ·rw [if_neg h0] at h
  by_cases h1 : -(n : Int) ≤ i
  ·rw [if_pos h1] at h
   have e : (i + n).toNat = j := Option.some.inj h
   exact ⟨by rw [seqIndex_neg (by omega) h1, e], by omega, h1, by omega⟩
  ·rw [if_neg h1] at h; cases h
theorem vM {α : Type} {xs : List α} {i : Int} {v : α} (h : atI xs i = some v) : ∃ j, seqIndex? i xs.length = some j ∧ xs[j]? = some v ∧ j < xs.length ∧ -(xs.length : Int) ≤ i ∧ i < xs.length := by
 unfold atI at h
 cases e : ixN xs.length i with
 | none => rw [e] at h; cases h
 | some j =>
  rw [e] at h
  obtain ⟨h1, h2, h3, h4⟩ := Ai e
  exact ⟨j, h1, h, h2, h3, h4⟩
theorem bY {α : Type} {xs : List α} {j : Nat} {v : α} (h : xs[j]? = some v) : atI xs (j : Int) = some v := by
 have hj : j < xs.length := (List.getElem?_eq_some_iff.mp h).1
 have e : ixN xs.length (j : Int) = some j := by
  unfold ixN
  rw [if_pos (by omega), if_pos (by omega)]; simp
 unfold atI; rw [e]; exact h
noncomputable def EM (b : Expr) : Prop := ∀ o i, subscripted b false o i = operate [o, i] (getItem o i)
noncomputable def IxR (X : Cx) (r : R2) : Prop :=
 ∀ (value slice : Expr) (pins : List (Addr × Obj)) (s : Shared) (σ : St) (H : Hp) (x y : V) (v u : Value) (Q : VK), Inv X pins σ H s → bX x v → bX y u → r x y H Q →
  subscripted slice false v u = operate [v, u] (getItem v u) → wpAny (model X.prog X.w) X.A (subscriptTail value slice v u) (EP X pins σ Q) X.xe s
noncomputable def MtR (X : Cx) (id : String) (r : V → List V → Hp → VK → Prop) : Prop :=
 ∀ (pins : List (Addr × Obj)) (s : Shared) (σ : St) (H : Hp) (x : V) (xs : List V) (v : Value) (us : List Value) (Q : VK), Inv X pins σ H s → bX x v → bE xs us → r x xs H Q →
  wpAny (model X.prog X.w) X.A (call (.builtin id) (v :: us)) (EP X pins σ Q) X.xe s
section
variable {X : Cx} {a b : Expr} {ta tb : TE} {pos : Pos}
theorem IxR.or {r r' : R2} (h : IxR X r) (h' : IxR X r') : IxR X (fun x y H Q => r x y H Q ∨ r' x y H Q) := by
 intro value slice pins s σ H x y v u Q I rx ry q hs
 rcases q with q | q
 ·exact h value slice pins s σ H x y v u Q I rx ry q hs
 ·exact h' value slice pins s σ H x y v u Q I rx ry q hs
theorem aI {r : R2} (hr : IxR X r) (ha : PE X a ta) (hb : PE X b tb) (hs : EM b) : PE X (.Subscript a b pos) (tOp r ta tb) := by
 intro pins s σ H Q I h
 exact Subscript_ (HN ha hb I h fun v u s2 x y H2 I2 rx ry q => hr a b pins s2 σ H2 x y v u Q I2 rx ry q (hs _ _))
noncomputable def DX (K : PySem.W.Frag) : R2 := fun x y H Q => ∃ p xs i v, x = .ref p ∧ y = .int i ∧ SqL K H p xs ∧ atI xs i = some v ∧ Q v H
noncomputable def Hh (K : PySem.W.Frag) : R2 := fun x y H Q => ∃ p xs i v, x = .ref p ∧ y = .int i ∧ SqT K H p xs ∧ atI xs i = some v ∧ Q v H
noncomputable def IA : R2 := fun x y H Q => ∃ z i c, x = .str z ∧ y = .int i ∧ z.length ≤ sizeLine ∧ atI z.cps.toList i = some c ∧ Q (.str ⟨#[c]⟩) H
theorem aW : IxR X (DX X.K) := by
 intro value slice pins s σ H x y v u Q I rx ry h hs
 obtain ⟨p, xs, i, z, rfl, rfl, hq, he, q⟩ := h
 cases rx
 obtain ⟨t, rfl⟩ := ry
 obtain ⟨its, r, pl, hz⟩ := I.list hq
 obtain ⟨j, h1, h2, h3, h4, h5⟩ := vM he
 obtain ⟨w, ew, rw'⟩ := r.get h2
 have hl := r.length
 have hn := mt
 have fin : EP X pins σ Q w s := ⟨z, H, I, rw', q⟩
 by_cases h0 : 0 ≤ i
 ·have hj : i.toNat = j := by
   rw [seqIndex_of h0 h5] at h1
   exact Option.some.inj h1
  exact item_listR pl.isList h0 (by omega) (by rw [hj]; simpa using ew) fin hs
 ·have hj : (i + (its.toArray.size : Int)).toNat = j := by
   rw [seqIndex_neg (by omega) h4] at h1
   rw [List.size_toArray, ← hl]
   exact Option.some.inj h1
  exact subscriptTail_builtinR (x := w) pl.isList.typeIs slot_list_getitem.lookup
   (wpAny_getItem_list_neg (Q := fun r s' => r = w ∧ EP X pins σ Q r s') pl.isList (by omega) (by rw [List.size_toArray] <;> omega) (by omega) (by rw [hj]; simpa using ew) ⟨rfl, fin⟩) hs
theorem aY : IxR X (Hh X.K) := by
 intro value slice pins s σ H x y v u Q I rx ry h hs
 obtain ⟨p, xs, i, z, rfl, rfl, hq, he, q⟩ := h
 cases rx
 obtain ⟨t, rfl⟩ := ry
 obtain ⟨its, r, pl, hz⟩ := I.tuple hq
 obtain ⟨j, h1, h2, h3, h4, h5⟩ := vM he
 obtain ⟨w, ew, rw'⟩ := r.get h2
 have hl := r.length
 have hn := mt
 have fin : EP X pins σ Q w s := ⟨z, H, I, rw', q⟩
 exact subscriptTail_builtinR (x := w) pl.typeIs slot_tuple_getitem.lookup
  (getItem_tuple (j := j) (Q := fun r s' => r = w ∧ EP X pins σ Q r s') pl (by omega) (by omega) (by rw [List.size_toArray, ← hl]; exact h1) (by simpa using ew) ⟨rfl, fin⟩) hs
theorem qT : IxR X IA := by
 intro value slice pins s σ H x y v u Q I rx ry h hs
 obtain ⟨z, i, c, rfl, rfl, hz, he, q⟩ := h
 obtain ⟨t, rfl⟩ := rx
 obtain ⟨t', rfl⟩ := ry
 obtain ⟨j, h1, h2, h3, h4, h5⟩ := vM he
 have hl : z.cps.toList.length = z.length := by simp [Str.length]
 rw [hl] at h1 h4 h5
 have hn := mt
 exact tail_any (typeIs_str s z t) slot_str_getitem.lookup (getItem_str (c := c) (by
  have e1 : decide (i < -(2 ^ 63 : Int)) = false := decide_eq_false (by omega)
  have e2 : decide (i ≥ 2 ^ 63) = false := decide_eq_false (by omega)
  rw [e1, e2, Bool.or_false]) (by rw [h1]; simpa using h2) ⟨.str ⟨#[c]⟩, H, I.tok _, ⟨_, rfl⟩, q⟩) hs
noncomputable def rIx (K : PySem.W.Frag) : R2 := fun x y H Q => DX K x y H Q ∨ Hh K x y H Q ∨ IA x y H Q
theorem Hn : IxR X (rIx X.K) := aW.or (aY.or qT)
theorem zK (its : List Value) (n j : Nat) (u : Value) : Obj.mapSeq (·.setIfInBounds j u) { cls := .type "list", data := .seq its.toArray n } = { cls := .type "list", data := .seq (its.set j u).toArray n } := by
 simp [Obj.mapSeq]
theorem Inv.lst {pins : List (Addr × Obj)} {σ : St} {H : Hp} {s : Shared} {p : Addr} {xs : List V} (I : Inv X pins σ H s) (h : H p = some (.lst xs)) :
  ∃ (its : List Value) (n : Nat), bE xs its ∧ s.heap.get? p = some { cls := .type "list", data := .seq its.toArray n } ∧ xs.length ≤ sizeLine := by
 obtain ⟨z, its, n, r, e⟩ := I.hok p _ h
 exact ⟨its, n, r, e, z⟩
theorem Inv.lstUpd {pins : List (Addr × Obj)} {σ : St} {H : Hp} {s : Shared} {p : Addr} {xs ys : List V} {its its' : List Value} {n n' : Nat} {f : Obj → Obj} (I : Inv X pins σ H s) (h : H p = some (.lst xs))
  (ho : s.heap.get? p = some { cls := .type "list", data := .seq its.toArray n }) (hf : f { cls := .type "list", data := .seq its.toArray n } = { cls := .type "list", data := .seq its'.toArray n' }) (r : bE ys its') (hz : ys.length ≤ sizeLine) (t : Nat) :
  Inv X pins σ (upd H p (.lst ys)) { s with heap := s.heap.update p f, toks := t } := by
 have e : (s.heap.update p f).get? p = some { cls := .type "list", data := .seq its'.toArray n' } := by
  rw [Heap.get?_update_self f ho (by rw [hf] <;> rfl), hf]
 refine I.write (x := p) (e := p) (by rw [h]; trivial) (.inl rfl) (fun b u hb q => (Heap.get?_update_other _ _ (Ne.symm hb)).trans q) ⟨_, e⟩ ?_
 exact ⟨hz, its', n', r, e⟩
noncomputable def IU : V → V → V → Hp → (Hp → Prop) → Prop := fun o i v H Q => ∃ p xs k j, o = .ref p ∧ i = .int k ∧ H p = some (.lst xs) ∧ ixN xs.length k = some j ∧ Q (upd H p (.lst (xs.set j v)))
theorem xZ : IK X IU := by
 intro pins s σ H o i v ov iv u Q I ro ri rv h
 obtain ⟨p, xs, k, j, rfl, rfl, hp, hj, q⟩ := h
 cases ro
 obtain ⟨t, rfl⟩ := ri
 obtain ⟨its, n, r, ho, hz⟩ := I.lst hp
 obtain ⟨h1, h2, h3, h4⟩ := Ai hj
 have hl := r.length
 have hn := mt
 have I' : Inv X pins σ (upd H p (.lst (xs.set j v))) { s with heap := s.heap.update p (Obj.mapSeq (·.setIfInBounds j u)) } :=
  I.lstUpd hp ho (zK its n j u) (r.set rv j) (by rw [List.length_set]; exact hz) s.toks
 by_cases h0 : 0 ≤ k
 ·have hk : k.toNat = j := by
   rw [seqIndex_of h0 h4] at h1
   exact Option.some.inj h1
  exact PySem.W.ki_setAt ho h0 (by omega) (by rw [List.size_toArray, ← hl]; exact h4) (by rw [hk]; exact ⟨_, I', q⟩)
 ·have hk : (k + (its.toArray.size : Int)).toNat = j := by
   rw [seqIndex_neg (by omega) h3] at h1
   rw [List.size_toArray, ← hl]
   exact Option.some.inj h1
  exact PySem.W.ki_setBack ho (by omega) (by rw [List.size_toArray, ← hl]; exact h3) (by omega) (by rw [hk]; exact ⟨_, I', q⟩)
theorem vC (lo hi : Option Int) (n : Nat) : (sliceBounds lo hi none n).1 = ((HT.sIx n 0 lo : Nat) : Int) ∧ (sliceBounds lo hi none n).2.1 = ((HT.sIx n n hi : Nat) : Int) ∧ (sliceBounds lo hi none n).2.2 = 1 := by
 refine ⟨?_, ?_, rfl⟩
 ·cases lo with
  | none => simp [sliceBounds, HT.sIx]
  | some i =>
   simp only [sliceBounds, HT.sIx, Option.getD_none, show (1 : Int) > 0 by decide, if_true]
   by_cases h : i < 0
   ·simp only [h, if_true] <;> omega
   ·simp only [h, if_false] <;> omega
 ·cases hi with
  | none => simp [sliceBounds, HT.sIx]
  | some i =>
   simp only [sliceBounds, HT.sIx, Option.getD_none, show (1 : Int) > 0 by decide, if_true]
   by_cases h : i < 0
   ·simp only [h, if_true] <;> omega
   ·simp only [h, if_false] <;> omega
theorem sN (its : List Value) (lo hi : Option Int) : slicePick its.toArray lo hi none = ((its.drop (HT.sIx its.length 0 lo)).take (HT.sIx its.length its.length hi - HT.sIx its.length 0 lo)).toArray := by
 obtain ⟨h1, h2, h3⟩ := vC lo hi its.toArray.size
 unfold slicePick
 rw [h1, h2, h3]
 simp only [sliceRange_one, pick_run, List.size_toArray] <;> rfl
noncomputable def Jr (K : PySem.W.Frag) : V → Option Int → Option Int → Hp → VK → Prop := fun x lo hi H Q => ∃ a xs, x = .ref a ∧ SqL K H a xs ∧ ∀ p, H p = none → Q (.ref p) (upd H p (.lst (gX xs lo hi)))
theorem vU : SlR X (Jr X.K) := by
 intro pins s σ H x v vl vu lo hi sl Q I rx hs pl pu h
 obtain ⟨a, xs, rfl, hx, q⟩ := h
 cases rx
 obtain ⟨its, r, ht, hz⟩ := I.list hx
 have hlen := r.length
 refine ⟨"list", _, slot_list_getitem.lookup, ht.isList.typeIs, ?_⟩
 refine wpAny_getItem_list_slice ht.isList hs pl pu .none (by simp) ?_ (by rw [List.size_toArray] <;> omega)
 rw [sN, ← hlen]
 refine ⟨.ref s.heap.objs.size, _, I.laid (t' := s.toks) (o := .lst (gX xs lo hi)) (fun b ob q => Heap.get?_push_of_some _ q) (Nat.le_refl _) ?_, rfl, q _ (I.hok.fresh (Nat.le_refl _))⟩
 exact ⟨Nat.le_trans (pB xs lo hi) hz, _, 0, (r.drop (HT.sIx xs.length 0 lo)).take (HT.sIx xs.length xs.length hi - HT.sIx xs.length 0 lo), Heap.get?_push_size _ rfl⟩
noncomputable def dR : V → Bool
 | .non => true
 | .bl _ => true
 | .int _ => true
 | .str _ => true
 | _ => false
noncomputable def eqV : V → V → Bool
 | .non, .non => true
 | .bl a, .bl b => a == b
 | .bl a, .int b => (if a then 1 else 0) == b
 | .int a, .bl b => a == (if b then 1 else 0)
 | .int a, .int b => a == b
 | .str a, .str b => a == b
 | _, _ => false
theorem yM {A : Around} {s : Shared} {y x : V} {u v : Value} (ry : bX y u) (rx : bX x v) (fy : dR y = true) (fx : dR x = true) : SeqAt.EqAt A s u v (eqV y x) := by
 cases y with
 | non =>
  cases ry
  cases x with
  | non => cases rx; exact SeqAt.EqAt.same _
  | bl b => cases rx; exact SeqAt.EqAt.none_bool b
  | int b => obtain ⟨t, rfl⟩ := rx; exact SeqAt.EqAt.none_int b t
  | str b => obtain ⟨t, rfl⟩ := rx; exact SeqAt.EqAt.none_str b t
  | _ => exact absurd (show false = true from fx) Bool.false_ne_true
 | bl a =>
  cases ry
  cases x with
  | non => cases rx; exact SeqAt.EqAt.bool_none a
  | bl b => cases rx; exact SeqAt.EqAt.bool_bool a b
  | int b => obtain ⟨t, rfl⟩ := rx; exact SeqAt.EqAt.bool_int a b t
  | str b => obtain ⟨t, rfl⟩ := rx; exact SeqAt.EqAt.bool_str a b t
  | _ => exact absurd (show false = true from fx) Bool.false_ne_true
 | int a =>
  obtain ⟨t', rfl⟩ := ry
  cases x with
  | non => cases rx; exact SeqAt.EqAt.int_none a t'
  | bl b => cases rx; exact SeqAt.EqAt.int_bool a t' b
  | int b => obtain ⟨t, rfl⟩ := rx; exact SeqAt.EqAt.int_int a t' b t
  | str b => obtain ⟨t, rfl⟩ := rx; exact SeqAt.EqAt.int_str a t' b t
  | _ => exact absurd (show false = true from fx) Bool.false_ne_true
 | str a =>
  obtain ⟨t', rfl⟩ := ry
  cases x with
  | non => cases rx; exact SeqAt.EqAt.str_none a t'
  | bl b => cases rx; exact SeqAt.EqAt.str_bool a t' b
  | int b => obtain ⟨t, rfl⟩ := rx; exact SeqAt.EqAt.str_int a t' b t
  | str b => obtain ⟨t, rfl⟩ := rx; exact SeqAt.EqAt.str_str a t' b t
  | _ => exact absurd (show false = true from fx) Bool.false_ne_true
 | _ => exact absurd (show false = true from fy) Bool.false_ne_true
noncomputable def eqU (x : V) (u : Value) : Bool := match u with
 | .none => eqV .non x
 | .bool b => eqV (.bl b) x
 | .int i _ => eqV (.int i) x
 | .str z _ => eqV (.str z) x
 | _ => false
theorem Du {x y : V} {u : Value} (r : bX y u) (f : dR y = true) : eqU x u = eqV y x := by
 cases y with
 | non => cases r; rfl
 | bl b => cases r; rfl
 | int i => obtain ⟨t, rfl⟩ := r; rfl
 | str z => obtain ⟨t, rfl⟩ := r; rfl
 | _ => exact absurd (show false = true from f) Bool.false_ne_true
theorem nG {x : V} : ∀ {xs : List V} {us : List Value}, bE xs us → xs.all dR = true → us.any (eqU x) = xs.any fun y => eqV y x
 | _, _, .nil, _ => rfl
 | y :: xs, u :: us, .cons r t, f => by
  rw [List.all_cons, Bool.and_eq_true] at f
  rw [List.any_cons, List.any_cons, Du r f.1, nG t f.2]
theorem jT {A : Around} {s : Shared} {x : V} {v : Value} (rx : bX x v) (fx : dR x = true) : ∀ {xs : List V} {us : List Value}, bE xs us → xs.all dR = true → ∀ u ∈ us, SeqAt.EqAt A s u v (eqU x u)
 | _, _, .nil, _ => fun u hu => by cases hu
 | y :: xs, u :: us, .cons r t, f => fun u' hu => by
  rw [List.all_cons, Bool.and_eq_true] at f
  rcases List.mem_cons.mp hu with rfl | hu
  ·rw [Du r f.1]; exact yM r rx f.1 fx
  ·exact jT rx fx t f.2 u' hu
noncomputable def inV (x : V) (xs : List V) : Bool := xs.any fun y => eqV y x
noncomputable def rIn (K : PySem.W.Frag) (neg : Bool) : R2 := fun x y H Q => ∃ p xs, y = .ref p ∧ (SqL K H p xs ∨ SqT K H p xs) ∧ dR x = true ∧ xs.all dR = true ∧ Q (.bl (if neg then !inV x xs else inV x xs)) H
theorem lB : OpR X (compareOp .In) (rIn X.K false) := by
 intro pins s σ H x y v u Q I rx ry h
 obtain ⟨p, xs, rfl, hq, fx, fs, q⟩ := h
 cases ry
 rcases hq with hq | hq
 ·obtain ⟨its, r, pl, hz⟩ := I.list hq
  refine SeqAt.in_listAt (eqU x) pl.isList (fun w hw => jT rx fx r fs w (by simpa using hw)) ⟨.bl _, H, I, rfl, ?_⟩
  rw [show its.toArray.any (eqU x) = its.any (eqU x) by simp, nG r fs]
  exact q
 ·obtain ⟨its, r, pl, hz⟩ := I.tuple hq
  refine SeqAt.in_tupleAt (eqU x) pl (fun w hw => jT rx fx r fs w (by simpa using hw)) ⟨.bl _, H, I, rfl, ?_⟩
  rw [show its.toArray.any (eqU x) = its.any (eqU x) by simp, nG r fs]
  exact q
theorem vA : OpR X (compareOp .NotIn) (rIn X.K true) := by
 intro pins s σ H x y v u Q I rx ry h
 obtain ⟨p, xs, rfl, hq, fx, fs, q⟩ := h
 cases ry
 rcases hq with hq | hq
 ·obtain ⟨its, r, pl, hz⟩ := I.list hq
  refine SeqAt.notIn_listAt (eqU x) pl.isList (fun w hw => jT rx fx r fs w (by simpa using hw)) ⟨.bl _, H, I, rfl, ?_⟩
  rw [show its.toArray.any (eqU x) = its.any (eqU x) by simp, nG r fs]
  exact q
 ·obtain ⟨its, r, pl, hz⟩ := I.tuple hq
  refine SeqAt.notIn_tupleAt (eqU x) pl (fun w hw => jT rx fx r fs w (by simpa using hw)) ⟨.bl _, H, I, rfl, ?_⟩
  rw [show its.toArray.any (eqU x) = its.any (eqU x) by simp, nG r fs]
  exact q
theorem nT : OpR X (compareOp .NotIn) (fun x y H Q => ∃ i j, x = .str i ∧ y = .str j ∧ Q (.bl (!(!(Builtin.Str.occurrences j i 0 j.length 1).isEmpty))) H) := by
 intro pins s σ H x y v u Q I rx ry h
 obtain ⟨i, j, rfl, rfl, q⟩ := h
 obtain ⟨t, rfl⟩ := rx
 obtain ⟨t', rfl⟩ := ry
 exact notIn_str ⟨.bl _, H, I, rfl, q⟩
theorem aN : io X (.builtin "len") (fun xs H Q => ∃ p ys, xs = [.ref p] ∧ (SqL X.K H p ys ∨ SqT X.K H p ys) ∧ Q (.int ys.length) H) := by
 intro pins s σ H xs us Q I r h
 obtain ⟨p, ys, rfl, hq, q⟩ := h
 obtain ⟨u, rfl, rx⟩ := pk r
 cases rx
 have hn := mt
 rcases hq with hq | hq
 ·obtain ⟨its, r', pl, hz⟩ := I.list hq
  have hlen := r'.length
  exact Calls.call_len_list pl.isList (by simp only [List.size_toArray] <;> omega) ⟨.int ys.length, H, I.tok _, ⟨s.toks + 1, by rw [List.size_toArray, hlen]⟩, q⟩
 ·obtain ⟨its, r', pl, hz⟩ := I.tuple hq
  have hlen := r'.length
  exact len_tuple pl (by simp only [List.size_toArray] <;> omega) ⟨.int ys.length, H, I.tok _, ⟨s.toks + 1, by rw [List.size_toArray, hlen]⟩, q⟩
theorem dJ : io X (.builtin "len") (fun xs H Q => ∃ z, xs = [.str z] ∧ z.length ≤ sizeLine ∧ Q (.int z.length) H) := by
 intro pins s σ H xs us Q I r h
 obtain ⟨z, rfl, hz, q⟩ := h
 obtain ⟨u, rfl, t, rfl⟩ := pk r
 have hn := mt
 exact len_str (by omega) ⟨.int z.length, H, I.tok _, ⟨_, rfl⟩, q⟩
theorem cT : io X (.type "tuple") (fun xs H Q => ∃ p ys, xs = [.ref p] ∧ ((SqL X.K H p ys ∧ ∀ l, H l = none → Q (.ref l) (upd H l (.tup ys))) ∨ (SqT X.K H p ys ∧ Q (.ref p) H))) := by
 intro pins s σ H xs us Q I r h
 obtain ⟨p, ys, rfl, h⟩ := h
 obtain ⟨u, rfl, rx⟩ := pk r
 cases rx
 rcases h with ⟨hq, q⟩ | ⟨hq, q⟩
 ·obtain ⟨its, r', pl, hz⟩ := I.list hq
  have hlen := r'.length
  refine call_tuple_list pl.isList (fun h' kp => ?_) (by simp only [List.size_toArray] <;> omega)
  have I1 : Inv X pins σ H { s with heap := h' } := I.kept (t' := s.toks) kp
  have I2 : Inv X pins σ (upd H h'.objs.size (.tup ys)) { s with heap := h'.push { cls := .type "tuple", data := .seq its.toArray } } :=
   I1.laid (t' := s.toks) (fun b o e => Heap.get?_push_of_some _ e) (Nat.le_refl _) (show cw X.prog X.w _ _ _ (.tup ys) from ⟨hz, its, r', IsTup.new _ _⟩)
  exact ⟨.ref h'.objs.size, _, I2, rfl, q _ (I1.hok.fresh (Nat.le_refl _))⟩
 ·obtain ⟨its, r', pl, hz⟩ := I.tuple hq
  exact call_tuple_same pl ⟨.ref p, H, I, rfl, q⟩
noncomputable def tyV (K : PySem.W.Frag) (T : String) (x : V) (H : Hp) : Prop := match x with
 | .str _ => T = "str"
 | .int _ => T = "int"
 | .ref p => (T = "list" ∧ ∃ xs, SqL K H p xs) ∨ (T = "tuple" ∧ ∃ o, K.lookup p = some o ∧ o.cls = .type "tuple" ∧ o.dict = none) ∨
   (T = "dict" ∧ ((∃ kvs, H p = some (.dK kvs)) ∨ ∃ kvs, H p = some (.dT kvs))) ∨ (T = "set" ∧ ∃ S n, H p = some (.set S n))
 | _ => False
theorem Cd {pins : List (Addr × Obj)} {σ : St} {H : Hp} {s : Shared} {T : String} {x : V} {v : Value} (I : Inv X pins σ H s) (r : bX x v) (ty : tyV X.K T x H) :
  s.TypeIs v T ∧ ∀ a, v = .ref a → ∃ ob, s.heap.get? a = some ob ∧ ob.dict = none := by
 cases x with
 | str z =>
  obtain ⟨t, rfl⟩ := r
  cases (show T = "str" from ty)
  exact ⟨typeIs_str s z t, fun _ e => nomatch e⟩
 | int i =>
  obtain ⟨t, rfl⟩ := r
  cases (show T = "int" from ty)
  exact ⟨typeIs_int s i t, fun _ e => nomatch e⟩
 | ref p =>
  cases r
  rcases ty with ⟨rfl, xs, hq⟩ | ⟨rfl, o, hk, hc, hd⟩ | ⟨rfl, hk⟩ | ⟨rfl, S, n, hk⟩
  ·obtain ⟨its, _, pl, _⟩ := I.list hq
   refine ⟨pl.isList.typeIs, fun a e => ?_⟩
   cases e
   obtain ⟨o, n, e, c, hd, _⟩ := pl
   exact ⟨o, e, hd⟩
  ·refine ⟨⟨o, I.kIn p o hk, hc⟩, fun a e => ?_⟩
   cases e
   exact ⟨o, I.kIn _ o hk, hd⟩
  ·have z : ∃ o, s.heap.get? p = some o ∧ o.ExactDict := by
    rcases hk with ⟨kvs, hk⟩ | ⟨kvs, hk⟩
    ·obtain ⟨_, _, _, _, o, _, _, e, ex, _⟩ := I.hok p _ hk
     exact ⟨o, e, ex⟩
    ·obtain ⟨_, _, _, _, o, _, _, e, ex, _⟩ := I.hok p _ hk
     exact ⟨o, e, ex⟩
   obtain ⟨o, e, ex⟩ := z
   refine ⟨⟨o, e, ex.1⟩, fun a e2 => ?_⟩
   cases e2
   exact ⟨o, e, ex.2.1⟩
  ·obtain ⟨o, _, _, _, e, ex, _⟩ := I.hok p _ hk
   refine ⟨⟨o, e, ex.1⟩, fun a e2 => ?_⟩
   cases e2
   exact ⟨o, e, ex.2.1⟩
 | _ => exact False.elim ty
noncomputable def Jw (K : PySem.W.Frag) (T : String) (r : V → List V → Hp → VK → Prop) (to : TE) : TE := fun σ H Q => to σ H fun x H1 => tyV K T x H1 ∧ r x [] H1 Q
noncomputable def tBM (K : PySem.W.Frag) (T : String) (r : V → List V → Hp → VK → Prop) (to : TE) (t : TA) : TE := fun σ H Q => to σ H fun x H1 => tyV K T x H1 ∧ t σ H1 fun xs H2 => r x xs H2 Q
variable {o e : Expr} {es : List Expr} {to : TE} {t : TA} {name : Str} {apos cpos : Pos} {T id : String} {r : V → List V → Hp → VK → Prop}
theorem DF (pa : PlainAttrs T) (slot : Slot T name id) (hty : typeOf (.builtin id) = pure (.type "method_descriptor")) (hm : MtR X id r) (ho : PE X o to)
  (hbase : attributeBase o name X.env (eval o X.env) = eval o X.env := by rfl) (hline : (apos.endLine == cpos.line) = true := by rfl) : PE X (.Call (.Attribute o name apos) [] [] cpos) (Jw X.K T r to) := by
 intro pins s σ H Q I h
 refine wpAny_Call_method0_late hbase hline (thn (ho pins s σ H _ I h) fun v s1 ⟨x, H1, I1, r1, ty, q1⟩ => ?_)
 obtain ⟨h1, h2⟩ := Cd I1 r1 ty
 exact ⟨T, id, pa, slot, hty, h1, h2, Calls.callWith_builtin rfl (PySem.evalArgs_none (hm pins s1 σ H1 x [] v [] Q I1 r1 .nil q1))⟩
theorem gY (pa : PlainAttrs T) (slot : Slot T name id) (hty : typeOf (.builtin id) = pure (.type "method_descriptor")) (hm : MtR X id r) (ho : PE X o to) (ha : PA X (e :: es) t)
  (hbase : attributeBase o name X.env (eval o X.env) = eval o X.env := by rfl)
  (hfew : ((backTo cpos (starEach (e :: es) X.env)).all (fun x => !x.1) && (backToKw cpos (keywordEach [] X.env)).all (fun x => x.1.isSome)
   && decide ((e :: es).length + ([] : List Keyword).length + (if ([] : List Keyword).isEmpty then 0 else 1) < 30)) = true := by rfl)
  (hline : (apos.endLine == cpos.line) = true := by rfl) (hs : starEach (e :: es) X.env = (false, eval e X.env) :: starEach es X.env := by rfl) (hplain : (backTo cpos (starEach es X.env)).any (·.1) = false := by rfl) :
  PE X (.Call (.Attribute o name apos) (e :: es) [] cpos) (tBM X.K T r to t) := by
 intro pins s σ H Q I h
 refine wpAny_Call_method_late hbase hfew hline rfl (thn (ho pins s σ H _ I h) fun v s1 ⟨x, H1, I1, r1, ty, q1⟩ => ?_)
 obtain ⟨h1, h2⟩ := Cd I1 r1 ty
 refine ⟨T, id, pa, slot, hty, h1, h2, ?_⟩
 have hA := ha cpos pins s1 σ H1 _ I1 q1
 rw [hs] at hA ⊢
 refine Calls.callWith_builtin (by show (false || (backTo cpos (starEach es X.env)).any (·.1)) = false; rw [hplain] <;> rfl) (Calls.evalArgs_plain ?_)
 exact thn hA fun us s2 ⟨vs, H2, I2, r2, q2⟩ => hm pins s2 σ H2 x vs v us Q I2 r1 r2 q2
end
noncomputable def MtM (X : Cx) (id : String) (r : V → List V → Hp → VK → Prop) : Prop :=
 ∀ (pins : List (Addr × Obj)) (s : Shared) (σ : St) (H : Hp) (x : V) (xs : List V) (v : Value) (us : List Value) (Q : VK), Inv X pins σ H s → bX x v → bE xs us → r x xs H Q →
  wpAny (model X.prog X.w) X.A (call (.builtin id) (v :: us)) (EP X pins σ Q) X.xe s
theorem bE.one : ∀ {x : V} {us : List Value}, bE [x] us → ∃ u, us = [u] ∧ bX x u
 | _, _, .cons r .nil => ⟨_, rfl, r⟩
theorem bE.zero : ∀ {us : List Value}, bE [] us → us = []
 | _, .nil => rfl
theorem bE.dropLast {xs : List V} {us : List Value} (h : bE xs us) : bE xs.dropLast us.dropLast := by
 induction h with
 | nil => exact .nil
 | cons r t ih =>
  cases t with
  | nil => exact .nil
  | cons q t' => exact .cons r ih
theorem yO {α : Type} (l : List α) : l.eraseIdx (l.length - 1) = l.dropLast := by
 induction l with
 | nil => rfl
 | cons a r ih =>
  cases r with
  | nil => rfl
  | cons b r =>
   have e : (a :: b :: r).length - 1 = ((b :: r).length - 1) + 1 := by
    have h1 : (a :: b :: r).length = r.length + 2 := rfl
    have h2 : (b :: r).length = r.length + 1 := rfl
    omega
   rw [e, List.eraseIdx_cons_succ, ih]
   all_goals rfl
section
variable {X : Cx} {pins : List (Addr × Obj)} {σ : St} {H : Hp} {s : Shared} {l b : Addr} {xs ys zs : List V}
theorem Inv.lset {its its' : List Value} {n : Nat} {f : Array Value → Array Value} {t' : Nat} (I : Inv X pins σ H s) (hH : H l = some (.lst xs))
  (e : s.heap.get? l = some { cls := .type "list", data := .seq its.toArray n }) (hf : f its.toArray = its'.toArray) (hv : bE ys its') (hz : ys.length ≤ sizeLine) :
  Inv X pins σ (upd H l (.lst ys)) { s with heap := s.heap.update l (Obj.mapSeq f), toks := t' } := by
 have q := PySem.IsL.update e f
 rw [hf] at q
 refine I.write (x := l) (e := l) (by rw [hH]; exact trivial) (.inl rfl) (fun b' u hb hu => (Heap.get?_update_other s.heap (Obj.mapSeq f) (Ne.symm hb)).trans hu) ⟨_, q⟩ ?_
 exact ⟨hz, its', _, hv, q⟩
theorem Inv.lnew {its : List Value} {t' : Nat} (I : Inv X pins σ H s) (hv : bE ys its) (hz : ys.length ≤ sizeLine) :
  Inv X pins σ (upd H s.heap.objs.size (.lst ys)) { s with heap := s.heap.push { cls := .type "list", data := .seq its.toArray }, toks := t' } :=
 I.laid (fun _ _ q => Heap.get?_push_of_some _ q) (Nat.le_refl _) ⟨hz, its, 0, hv, Heap.get?_push_size _ rfl⟩
theorem Inv.fresh (I : Inv X pins σ H s) : H s.heap.objs.size = none := I.hok.fresh (Nat.le_refl _)
theorem Inv.lstM (I : Inv X pins σ H s) (hH : H l = some (.lst xs)) : xs.length ≤ sizeLine ∧ ∃ (its : List Value) (n : Nat), bE xs its ∧ xs.length = its.length ∧ s.heap.get? l = some { cls := .type "list", data := .seq its.toArray n } := by
 obtain ⟨z, its, n, r, e⟩ := I.hok l _ hH
 exact ⟨z, its, n, r, r.length, e⟩
theorem yc {n : Nat} (h : n ≤ sizeLine) : Builtin.List.listTooLong n = false := by
 unfold Builtin.List.listTooLong
 exact decide_eq_false (by omega)
end
section
variable {X : Cx}
noncomputable def DQ : V → List V → Hp → VK → Prop := fun x vs H Q => ∃ l xs y, x = .ref l ∧ vs = [y] ∧ H l = some (.lst xs) ∧ xs.length < sizeLine ∧ Q .non (upd H l (.lst (xs ++ [y])))
theorem iV : MtM X "list.append" DQ := by
 intro pins s σ H x vs v us Q I rx rv h
 obtain ⟨l, xs, y, rfl, rfl, hH, hz, q⟩ := h
 cases rx
 obtain ⟨u, rfl, ru⟩ := rv.one
 obtain ⟨z, its, n, r, hl, e⟩ := I.lstM hH
 refine call_meets F.slot_list_append ⟨_, e, rfl⟩ F.entry_list_append (F.args_list_append_2 _ _) (PySem.list_append l its.toArray n u (by rw [List.size_toArray]; omega)) ⟨e, ?_⟩
 refine ⟨.non, _, I.lset (its' := its ++ [u]) hH e (by simp) (r.append (.cons ru .nil)) ?_, rfl, q⟩
 rw [List.length_append, List.length_singleton]
 omega
noncomputable def Ei : V → List V → Hp → VK → Prop := fun x vs H Q => ∃ l b xs zs, x = .ref l ∧ vs = [.ref b] ∧ H l = some (.lst xs) ∧ H b = some (.lst zs) ∧ xs.length + zs.length ≤ sizeLine ∧ Q .non (upd H l (.lst (xs ++ zs)))
theorem iH : MtM X "list.extend" Ei := by
 intro pins s σ H x vs v us Q I rx rv h
 obtain ⟨l, b, xs, zs, rfl, rfl, hH, hB, hz, q⟩ := h
 cases rx
 obtain ⟨u, rfl, ru⟩ := rv.one
 cases ru
 obtain ⟨z, its, n, r, hl, e⟩ := I.lstM hH
 obtain ⟨z2, its2, n2, r2, hl2, e2⟩ := I.lstM hB
 have hsz : its.toArray.size + its2.toArray.size ≤ sizeLine := by rw [List.size_toArray, List.size_toArray]; omega
 have hlong : ¬ (!its.toArray.isEmpty && Builtin.List.listTooLong (its.toArray.size + its2.toArray.size)) = true := by
  rw [yc hsz, Bool.and_false]
  exact Bool.false_ne_true
 refine call_meets F.slot_list_extend ⟨_, e, rfl⟩ F.entry_list_extend (F.args_list_extend_2 _ _)
  (AutoSeq1.list_extend_list_list_0 l its.toArray n b its2.toArray n2 hlong (by rw [List.size_toArray]; omega) (by omega)) ⟨e, e2, ?_⟩
 refine ⟨.non, _, I.lset (its' := its ++ its2) hH e (by simp) (r.append r2) ?_, rfl, q⟩
 rw [List.length_append]
 omega
noncomputable def JI : V → List V → Hp → VK → Prop := fun x vs H Q => ∃ l xs y, x = .ref l ∧ vs = [] ∧ H l = some (.lst xs) ∧ xs[xs.length - 1]? = some y ∧ Q y (upd H l (.lst xs.dropLast))
theorem Dd : MtM X "list.pop" JI := by
 intro pins s σ H x vs v us Q I rx rv h
 obtain ⟨l, xs, y, rfl, rfl, hH, hy, q⟩ := h
 cases rx
 have hus := rv.zero
 subst hus
 obtain ⟨z, its, n, r, hl, e⟩ := I.lstM hH
 obtain ⟨u, hu, ru⟩ := r.get hy
 have hy' : its.toArray[its.toArray.size - 1]? = some u := by
  show its.toArray[its.length - 1]? = some u
  rw [← Array.getElem?_toList, ← hl]
  exact hu
 refine call_meets F.slot_list_pop ⟨_, e, rfl⟩ F.entry_list_pop (F.args_list_pop_1 _) (MeetsSeq.list_pop_last l its.toArray n u hy' (by rw [List.size_toArray]; omega)) ⟨e, ?_⟩
 refine ⟨y, _, I.lset (its' := its.dropLast) hH e ?_ r.dropLast ?_, ru, q⟩
 ·show its.toArray.eraseIdxIfInBounds (its.toArray.size - 1) = its.dropLast.toArray
  rw [List.size_toArray, List.eraseIdxIfInBounds_toArray, yO]
 ·rw [List.length_dropLast]
  omega
noncomputable def Jx : R2 := fun x y H Q => ∃ l b xs zs, x = .ref l ∧ y = .ref b ∧ H l = some (.lst xs) ∧ H b = some (.lst zs) ∧ xs.length + zs.length ≤ sizeLine ∧ ∀ p, H p = none → Q (.ref p) (upd H p (.lst (xs ++ zs)))
theorem wb : OpR X (binaryOp .Add) Jx := by
 intro pins s σ H x y v u Q I rx ry h
 obtain ⟨l, b, xs, zs, rfl, rfl, hH, hB, hz, q⟩ := h
 cases rx
 cases ry
 obtain ⟨z, its, n, r, hl, e⟩ := I.lstM hH
 obtain ⟨z2, its2, n2, r2, hl2, e2⟩ := I.lstM hB
 refine PySem.P.add_list e e2 ?_ (by rw [List.size_toArray, List.size_toArray]; omega)
 have ea : its.toArray ++ its2.toArray = (its ++ its2).toArray := by simp
 rw [ea]
 exact ⟨.ref _, _, I.lnew (t' := s.toks) (r.append r2) (by rw [List.length_append]; omega), rfl, q _ I.fresh⟩
end
section
variable {prog : Program} {w : World} {A : Around} {E : Value → Shared → Prop} {s : Shared}
set_option maxRecDepth 100000 in
end
end L2
namespace Att
open PySem PySem.W PySem.Calls PyProof.Rows
theorem pQ {P : Params} {h : Heap} : ∀ (ns : List Int) (vs : List Value), WellAll P h vs (ns.map WData.int) → IntsAre vs ns := by
 intro ns
 induction ns with
 | nil =>
  intro vs w
  rw [List.map_nil] at w
  cases w
  exact .nil
 | cons n ns ih =>
  intro vs w
  rw [List.map_cons] at w
  cases w with
  | cons a b =>
   cases a
   exact .cons _ _ (ih _ b)
theorem BD {l : OpenLaw} {n : Nat} (hn : l.most = some n) {P : Params} {h : Heap} {args : List WData} {vals : List Value}
    (hpre : l.row.toRowW.claim.pre args = true) (hwl : WellAll P h vals args) :
    ∃ a vs ns, vals = [Value.ref a] ∧ args = [WData.list (ns.map WData.int)] ∧ h.get? a = some { cls := .type "list", data := .seq vs.toArray } ∧ IntsAre vs ns ∧ ns.length ≤ n := by
  have hsh : WShape.hasAll [] args [.list .int] = true := (pre_splitW hpre).1
  have hc : l.pre.holds [] { args := args } = true := (pre_splitW hpre).2
  obtain ⟨d, r, rfl, h1, h2⟩ := hasAllW_cons hsh
  obtain rfl := hasAllW_nil h2
  obtain ⟨xs, rfl, h3⟩ := hasW_list h1
  obtain ⟨ns, rfl⟩ := items_int h3
  have hlen : ns.length ≤ n := by
    unfold OpenLaw.pre at hc
    have h4 : (WTm.not (.lt (.lit (.int (n : Int))) (.len (.arg 0)))).holds [] { args := [.list (ns.map .int)] } = true := by
      have h4 := (holds_andW hc).1
      rw [hn] at h4
      exact h4
    have h5 := condW_of h4 (w_not (w_lt w_lit (w_len_list (w_arg rfl))))
    rw [List.length_map] at h5
    refine Nat.le_of_not_lt fun q => ?_
    have q' : (n : Int) < ((ns.length : Nat) : Int) := by omega
    first
      | (rw [decide_eq_true q'] at h5; exact absurd h5 (by decide))
      | (simp at h5; omega)
  cases hwl with
  | cons w1 w2 =>
    cases w2
    cases w1 with
    | list ho hall => exact ⟨_, _, ns, rfl, rfl, ho, pQ ns _ hall, hlen⟩
theorem Bm (l : OpenLaw) (args : List WData) : l.row.toRowW.claim.post args (.bool true) args = true :=
 postW_of (r := l.row.toRowW) (X := (true == true))
  (show WShape.has [] (.bool true) .bool = true by first | rfl | decide | simp [WShape.has, WShape.arms, WShape.armsAll])
  (show (WTm.eq .res (.lit (.bool true))).value [] { args := args, res := some (.bool true), after := args } = some (.bool (true == true)) from w_eq_bool (w_res rfl) w_lit) rfl
theorem attach_call {l : OpenLaw} {n : Nat} {q : Program} {loose : List Str} {XP : (Str → Option Value) → Heap → Prop} {YP : World → Heap → Prop} {d : DefRec}
  (hn : l.most = some n) (hdf : d.params.defaults = [])
  (call : ∀ (w : World) (s₀ s₁ : Shared) (mg mb : Str → Option Value) (fa : Addr) (o : Obj) (pm cd doc : Value) (a : Addr) (vs : List Value) (ns : List Int),
   Ground q loose [] XP w s₀ mg mb s₁.heap → YP w s₁.heap →
   s₁.heap.get? fa = some o → o.data = .func (docDef d.name d.params d.body d.scope pm cd doc) → s₁.heap.CodeRec cd d.name → mg d.name = some (.ref fa) →
   s₁.heap.get? a = some { cls := .type "list", data := .seq vs.toArray } → IntsAre vs ns → ns.length ≤ n → s₁.gens = #[] →
   codeAny (model l.prog w) callerA (.call (.ref fa) ⟨[.ref a], []⟩) (fun r s' => r = .ok (.ret (.bool true)) ∧ OldK s₁.heap s'.heap ∧ s'.os = s₁.os ∧ AllBare s'.gens) s₁) :
  WalkO q loose XP YP l.row.toRowW d [] (fun f vs => PySem.call f vs) := by
 intro w s₀ s₁ mg mb G Y fa o pm cd doc dV kV ho hd hcd hD hmg hg args vals as hpre hlay hrd hwl hlo
 obtain rfl : dV = .none := Dflts.none hD hdf
 obtain rfl : kV = .none := Dflts.noKw hD
 obtain ⟨a, vs, ns, rfl, rfl, hobj, hints, hlen⟩ := BD hn hpre hwl
 refine enter_call (codeAny_mono (call w s₀ s₁ mg mb fa o pm cd doc a vs ns G Y ho (fd_plain hd) hcd hmg hobj hints hlen hg) fun r s' hq => ?_)
 obtain ⟨rfl, h2, h3, h4⟩ := hq
 exact ⟨.inl ⟨.bool true, .bool true, [], rfl, fun _ => rfl, .bool true, Bm l _, fun _ => ⟨List.Pairwise.nil, fun _ hm => (nomatch hm)⟩⟩, h2, h3, h4⟩
end Att
namespace L2
open PySem PySem.Spec PyProof.Rows
theorem uj : ∀ {vs : List Value} {ns : List Int}, IntsAre vs ns → bE (ns.map V.int) vs
 | _, _, .nil => .nil
 | _, _, .cons n t h => .cons ⟨t, rfl⟩ (uj h)
noncomputable def Em (H : Hp) : Prop := ∀ b, H b = none ∨ ∃ o xs, H b = some (.frz o (.lst xs))
theorem BJ {P : Program} {w : World} {K : PySem.W.Frag} {mg mb : Str → Option Value} {CX : CXT} {k : Nat} {fa a : Addr} {fd : FuncData} {x : Str} {sp : Sp} {s₁ : Shared} {vs : List Value} {ns : List Int}
  (KX : K.In s₁.heap) (hns : s₁.heap.Ns mainGlobals mg) (hb : s₁.heap.Ns builtinsNs mb) (hbb : ∀ x : Str, x ≠ "__name__" → mb x = bootBuiltins x) (hlim : s₁.heap.NoLimit) (hg : s₁.gens = #[])
  (ha : s₁.heap.get? a = some { cls := .type "list", data := .seq vs.toArray }) (hi : IntsAre vs ns) (hl : ns.length ≤ sizeLine) (hr : Room k callerA)
  (F : ∀ base : Heap, K.In base → base.Ns mainGlobals mg → FnOk P w K mg base CX k fa fd [x] sp) (hbind : ∀ (s : Shared) (u : Value), BindsTo s fd ⟨[u], []⟩ [(x, u)])
  (hsp : ∀ H : Hp, Em H → SqL K H a (ns.map V.int) → sp [.ref a] H (fun v _ => v = .bl true) fun _ _ _ => False)
  (hCX : ∀ H e s', CX [] H s₁ (fun _ _ _ => False) e s' → False) :
  codeAny (model P w) callerA (.call (.ref fa) ⟨[.ref a], []⟩) (fun r s' => r = .ok (.ret (.bool true)) ∧ OldK s₁.heap s'.heap ∧ s'.os = s₁.os ∧ AllBare s'.gens) s₁ := by
 have rv := uj hi
 have lenV := hi.length
 have core : ∀ H : Hp, Em H → SqL K H a (ns.map V.int) → HOk P w H s₁.heap → (∀ b, H b ≠ none → b = a) → (H a ≠ none → K.lookup a = none) →
   codeAny (model P w) callerA (.call (.ref fa) ⟨[.ref a], []⟩) (fun r s' => r = .ok (.ret (.bool true)) ∧ OldK s₁.heap s'.heap ∧ s'.os = s₁.os ∧ AllBare s'.gens) s₁ := by
  intro H hO hS hok hA hK
  have base_of : ∀ {b : Addr} {o : Obj}, s₁.heap.get? b = some o → H b = none → (vB s₁.heap H).get? b = some o := fun e n => CM e n
  have noA : ∀ {b : Addr} {o : Obj} {es : Array DictEntry} {ep : Nat}, s₁.heap.get? b = some o → o.data = .dict es ep → H b = none := fun {b o es ep} e d => by
   cases q : H b with
   | none => rfl
   | some u =>
    have e' : b = a := hA b (by rw [q]; simp)
    subst e'
    rw [ha] at e; cases e
    have d' : Data.seq vs.toArray _ = Data.dict es ep := d
    cases d'
  have nsK : ∀ {b : Addr} {m : Str → Option Value}, s₁.heap.Ns b m → (vB s₁.heap H).Ns b m := fun {b m} ⟨o, es, ep, e, d, r⟩ => ⟨o, es, ep, base_of e (noA e d), d, r⟩
  have hKb : K.In (vB s₁.heap H) := fun b o e => base_of (KX b o e) (by
   cases q : H b with
   | none => rfl
   | some u =>
    have e' : b = a := hA b (by rw [q]; simp)
    subst e'
    rw [hK (by rw [q]; simp)] at e; cases e)
  have hM : Mod K mg (vB s₁.heap H) := ⟨hKb, nsK hns, ⟨mb, nsK hb, hbb⟩, let ⟨mc, h1, h2⟩ := hlim; ⟨mc, nsK h1, h2⟩⟩
  have e0 : Env0 P w K mg (vB s₁.heap H) callerA [] s₁ H := ⟨rfl, hM, fun b o e => DM e, Nat.le_of_eq (BH _ _), trivial, fun b hb => absurd (show b ∈ ([] : List Addr) from hb) (by simp), hok, .of_eq hg⟩
  refine codeAny_mono ((F _ hKb (nsK hns)).run callerA [] s₁ H ⟨[.ref a], []⟩ [.ref a] [.ref a] _ _ hr e0 (hbind s₁ (.ref a)) (.cons rfl .nil) (hsp H hO hS)) fun r s' h => ?_
  cases r with
  | error e => exact (hCX H e s' h).elim
  | ok fl =>
   cases fl with
   | next => exact False.elim h
   | brk => exact False.elim h
   | cont => exact False.elim h
   | ret u =>
    obtain ⟨v, H', os, bare, un, hok', r', q⟩ := h
    have q' : v = .bl true := q
    subst q'
    obtain rfl : u = Value.bool true := r'
    refine ⟨rfl, OldK.of_keep fun b o e => ?_, os, bare⟩
    cases q : H b with
    | none => exact un.keep b o e q (by intro z; exact absurd (show b ∈ ([] : List Addr) from z) (by simp)) (by simp)
    | some u =>
     rcases hO b with z | ⟨ob, xs, z⟩
     ·rw [q] at z; cases z
     ·have z2 := un.frzs b ob _ z
      obtain ⟨e1, _⟩ := hok b _ z
      obtain ⟨e2, _⟩ := hok' b _ z2
      rw [e] at e1; cases e1
      exact e2
 cases hk : K.lookup a with
 | some o =>
  have e := KX a o hk
  rw [ha] at e
  cases e
  refine core (fun _ => none) (fun _ => .inl rfl) (.inr ⟨_, vs.toArray, _, hk, rfl, rfl, rfl, by rw [List.size_toArray, lenV]; exact hl, by simpa using rv⟩) (fun b u z => by have z' : (none : Option HO) = some u := z; cases z') (fun b z => absurd rfl z) fun z => absurd rfl z
 | none =>
  refine core (fun b => if b = a then some (.frz { cls := .type "list", data := .seq vs.toArray } (.lst (ns.map V.int))) else none) (fun b => ?_) (.inl (.inr ⟨{ cls := .type "list", data := .seq vs.toArray }, if_pos rfl⟩)) (fun b u z => ?_) (fun b z => ?_) fun _ => hk
  ·by_cases hb : b = a
   ·exact .inr ⟨_, _, if_pos hb⟩
   ·exact .inl (if_neg hb)
  ·by_cases hb : b = a
   ·have z' := (if_pos hb).symm.trans z
    cases z'
    subst hb
    exact ⟨ha, by rw [List.length_map]; exact hl, vs, _, rv, ha⟩
   ·have z' := (if_neg hb).symm.trans z
    cases z'
  ·by_cases hb : b = a
   ·exact hb
   ·exact absurd (if_neg hb) z
noncomputable abbrev KOf {K : PySem.W.Frag} {h : Heap} (_ : K.In h) : PySem.W.Frag := K
theorem Fc {l : PySem.W.OpenLaw} {n k : Nat} {q : Program} {loose : List Str} {XP : (Str → Option Value) → Heap → Prop} {YP : World → Heap → Prop} {d : DefRec} {K : Params → PySem.W.Frag} {CX : World → CXT} {sp : World → Sp} {x : Str}
  (hn : l.most = some n) (hn2 : n ≤ sizeLine) (hdf : d.params.defaults = []) (hr : Room k callerA)
  (hY : ∀ (w : World) (h : Heap), YP w h → (K w.params).In h)
  (F : ∀ (w : World) (mg : Str → Option Value) (fa : Addr) (h : Heap), (K w.params).In h → h.Ns mainGlobals mg → mg d.name = some (.ref fa) →
   ∃ fd : FuncData, (∀ (s : Shared) (u : Value), BindsTo s fd ⟨[u], []⟩ [(x, u)]) ∧
    ∀ base : Heap, (K w.params).In base → base.Ns mainGlobals mg → FnOk l.prog w (K w.params) mg base (CX w) k fa fd [x] (sp w))
  (hsp : ∀ (w : World) (H : Hp) (a : Addr) (ns : List Int), ns.length ≤ n → Em H → SqL (K w.params) H a (ns.map V.int) → sp w [.ref a] H (fun v _ => v = .bl true) fun _ _ _ => False)
  (hCX : ∀ (w : World) (H : Hp) (s : Shared) (e : Value) (s' : Shared), CX w [] H s (fun _ _ _ => False) e s' → False) :
  PySem.W.WalkO q loose XP YP l.row.toRowW d [] (fun f vs => PySem.call f vs) := by
 refine Att.attach_call hn hdf fun w s₀ s₁ mg mb fa o pm cd doc a vs ns G Y ho hd hcd hmg hobj hints hlen hg => ?_
 have KX := hY w _ Y
 obtain ⟨fd, hb, hF⟩ := F w mg fa _ KX G.T.g hmg
 exact BJ KX G.T.g G.T.b G.T.builtins G.T.nolimit hg hobj hints (Nat.le_trans hlen hn2) hr hF hb (fun H hO hS => hsp w H a ns hlen hO hS) fun H e s' => hCX w H s₁ e s'
theorem CP {l : PySem.W.OpenLaw} {n k : Nat} {q : Program} {loose : List Str} {XP : (Str → Option Value) → Heap → Prop} {YP : World → Heap → Prop} {d : DefRec} {K : Params → PySem.W.Frag} {CX : CXT} {sp : PySem.W.Frag → Sp} {x : Str}
  (hn : l.most = some n) (hn2 : n ≤ sizeLine) (hdf : d.params.defaults = []) (hr : Room k callerA)
  (hY : ∀ (w : World) (h : Heap), YP w h → (K w.params).In h)
  (F : ∀ (w : World) (mg : Str → Option Value) (fa : Addr) (h : Heap), (K w.params).In h → h.Ns mainGlobals mg → mg d.name = some (.ref fa) →
   ∃ fd : FuncData, (∀ (s : Shared) (u : Value), BindsTo s fd ⟨[u], []⟩ [(x, u)]) ∧
    ∀ base : Heap, (K w.params).In base → base.Ns mainGlobals mg → FnOk l.prog w (K w.params) mg base CX k fa fd [x] (sp (K w.params)))
  (hsp : ∀ (K : PySem.W.Frag) (H : Hp) (a : Addr) (ns : List Int), ns.length ≤ n → Em H → SqL K H a (ns.map V.int) → sp K [.ref a] H (fun v _ => v = .bl true) fun _ _ _ => False)
  (hCX : ∀ (H : Hp) (s : Shared) (e : Value) (s' : Shared), CX [] H s (fun _ _ _ => False) e s' → False) :
  PySem.W.WalkO q loose XP YP l.row.toRowW d [] (fun f vs => PySem.call f vs) :=
 Fc (K := K) (CX := fun _ => CX) (sp := fun w => sp (K w.params)) hn hn2 hdf hr hY F (fun w H a ns h1 h2 h3 => hsp (K w.params) H a ns h1 h2 h3) fun _ H s e s' => hCX H s e s'
noncomputable def gy (s : Stmt) : Arguments := match s with
 | .FunctionDef _ a _ _ _ _ _ _ _ _ => a
 | _ => { posonlyargs := [], args := [], vararg := none, kwonlyargs := [], kw_defaults := [], kwarg := none, defaults := [] }
noncomputable def bC (s : Stmt) : List Stmt := match s with
 | .FunctionDef _ _ b _ _ _ _ _ _ _ => b
 | _ => []
noncomputable def ap (s : Stmt) : Scope := match s with
 | .FunctionDef _ _ _ _ _ _ sc _ _ _ => sc
 | _ => { kind := .function, names := [], isGenerator := false, isCoroutine := false }
noncomputable abbrev CX0 : CXT := fun _ _ _ _ _ _ => False
noncomputable abbrev E0 : XK := fun _ _ _ => False
theorem bg {X : Cx} : sI CX0 X E0 := fun _ _ _ _ _ _ _ h => h.elim
structure Fun (K : PySem.W.Frag) (x qual : Str) (st : Stmt) (f : Addr) (fd : FuncData) : Prop where
 ex : ∃ (oc : Value) (od : Option Addr) (kV doc pm : Value) (an : Option Addr) (cdv ct : Value) (osl : Array (Option Value)),
  fd = PySem.W.fnOf x qual (gy st) (bC st) (ap st) .none kV doc pm an cdv ct ∧ K.lookup f = some ⟨oc, od, .func fd, osl⟩ ∧ PySem.W.codeIn K cdv qual = true
 kp : PySem.W.keepIn K (.ref f) = true
section
variable {P : Program} {w : World} {K : PySem.W.Frag} {mg : Str → Option Value} {base : Heap}
theorem Fun.ok {x qual : Str} {st : Stmt} {f : Addr} {fd : FuncData} {N ps : List Str} {k : Nat} {sp : Sp} (F : Fun K x qual st f fd) (S : FnScope N ps (ap st)) (len : ∀ vs H Q E, sp vs H Q E → vs.length = ps.length)
  (hbody : ∀ (cdv : Value) (A : Around) (outer : List Env) (s : Shared) (H : Hp) (vs : List V) (Q : VK) (E : XK), Room k (A.deeper (envOfC qual (ap st) s.heap.objs.size f cdv)) → sp vs H Q E →
   ∃ t, PSs (fH CX0 P w K mg base N qual (ap st) f cdv A outer s H E).nox (bC st) t ∧ t { nx := fun _ H' => Q .non H', rt := Q } (jb N vs) H) : FnOk P w K mg base CX0 (k + 1) f fd ps sp := by
 obtain ⟨oc, od, kV, doc, pm, an, cdv, ct, osl, rfl, lk, hcd⟩ := F.ex
 refine BU lk hcd S len fun A outer s H vs Q E hr hsp => ?_
 obtain ⟨t, h, q⟩ := hbody cdv A outer s H vs Q E hr hsp
 exact ⟨t, h.nox, q⟩
theorem Fun.binds {x qual : Str} {st : Stmt} {f : Addr} {fd : FuncData} {ps : List Str} (F : Fun K x qual st f fd)
  (h : ∀ (kV doc pm : Value) (an : Option Addr) (cdv ct : Value) (us : List Value), us.length = ps.length → bindArgs (PySem.W.fnOf x qual (gy st) (bC st) (ap st) .none kV doc pm an cdv ct) ⟨us, []⟩ = pure (ps.zip us)) : gJ K fd ps [] := by
 obtain ⟨oc, od, kV, doc, pm, an, cdv, ct, osl, rfl, lk, hcd⟩ := F.ex
 exact .all (h kV doc pm an cdv ct)
theorem Hm {x qual : Str} {st : Stmt} {f : Addr} {oc : Value} {od an : Option Addr} {osl : Array (Option Value)} {kV doc pm cdv ct : Value} (l : K.lookup f = some ⟨oc, od, .func (PySem.W.fnOf x qual (gy st) (bC st) (ap st) .none kV doc pm an cdv ct), osl⟩)
  (c : PySem.W.codeIn K cdv qual = true) (k : PySem.W.keepIn K (.ref f) = true) : Fun K x qual st f (PySem.W.fnOf x qual (gy st) (bC st) (ap st) .none kV doc pm an cdv ct) := ⟨⟨oc, od, kV, doc, pm, an, cdv, ct, osl, rfl, l, c⟩, k⟩
end
theorem sE {A : Around} {k : Nat} (hr : Room k A) : A.units + 1 < cLine := Nat.lt_of_le_of_lt (Nat.add_le_add_left (by decide : 1 ≤ 64) _) hr.units
theorem bc {n : Nat} (h : n ≤ 1000) : n < sizeLine := Nat.lt_of_le_of_lt h (by decide)
section
variable {X : Cx}
theorem pv (i : Nat) {x : Str} {pos : Pos} (hN : X.N[i]? = some x := by rfl) (hv : Vis X.env.scope x := by first | exact Or.inl rfl | exact Or.inr (Or.inl rfl) | exact Or.inr (Or.inr rfl)) (hd : (x == ("__debug__" : Str)) = false := by decide)
  (hcd : (x == ("__classdict__" : Str)) = false := by decide) : PE X (.Name x pos) (oi i) := HL hN hv hd hcd
end
theorem bH {A B : Prop} (h : B) : if false = true then A else B := by
 rw [if_neg Bool.false_ne_true]
 exact h
theorem bd {A B : Prop} (h : A) : if true = true then A else B := by
 rw [if_pos rfl]
 exact h
theorem mY {c A B : Prop} [Decidable c] (h1 : c → A) (h2 : ¬ c → B) : if c then A else B := by
 by_cases h : c
 ·rw [if_pos h]
  exact h1 h
 ·rw [if_neg h]
  exact h2 h
noncomputable def aK (H H' : Hp) : Prop := ∀ b o, H b = some o → H' b = some o
theorem aK.refl (H : Hp) : aK H H := fun _ _ h => h
theorem aK.trans {H H1 H2 : Hp} (a : aK H H1) (b : aK H1 H2) : aK H H2 := fun c o h => b c o (a c o h)
open PySem
theorem ze {scope : Scope} {env : Env} (h : ∀ x, (x, NameKind.free) ∈ scope.names → ∃ c, env.cells.lookup x = some c) :
  ∃ cl, closureFor scope env = pure cl ∧ (∀ x c, cl.lookup x = some c → env.cells.lookup x = some c) ∧ ∀ x, (x, NameKind.free) ∈ scope.names → ∃ c, cl.lookup x = some c := by
 have all : ∀ (ns : List (Str × NameKind)) (cs : List (Str × Addr)), (∀ x, (x, NameKind.free) ∈ ns → ∃ c, env.cells.lookup x = some c) → (∀ x c, cs.lookup x = some c → env.cells.lookup x = some c) →
   ∃ cl, (forIn ns cs (fun (q : Str × NameKind) r => if (q.2 == NameKind.free) = true then (cellOf env q.1 >>= fun a => pure (ForInStep.yield ((q.1, a) :: r))) else pure (ForInStep.yield r)) : Sem (List (Str × Addr))) = pure cl ∧
    (∀ x c, cl.lookup x = some c → env.cells.lookup x = some c) ∧ (∀ x, (x, NameKind.free) ∈ ns → ∃ c, cl.lookup x = some c) ∧ ∀ x, (∃ c, cs.lookup x = some c) → ∃ c, cl.lookup x = some c := by
  intro ns
  induction ns with
  | nil => intro cs _ hc; exact ⟨cs, rfl, hc, fun x z => absurd z (by simp), fun x z => z⟩
  | cons q r ih =>
   intro cs hn hc
   obtain ⟨x, k⟩ := q
   rw [List.forIn_cons]
   by_cases hk : k = NameKind.free
   ·subst hk
    obtain ⟨c, hx⟩ := hn x List.mem_cons_self
    obtain ⟨cl, e, h1, h2, h3⟩ := ih ((x, c) :: cs) (fun y z => hn y (List.mem_cons_of_mem _ z)) (fun y d z => by
     rw [List.lookup_cons] at z
     cases q : y == x with
     | true => rw [q] at z; cases z; rw [eq_of_beq q]; exact hx
     | false => rw [q] at z; exact hc y d z)
    refine ⟨cl, ?_, h1, fun y z => ?_, fun y z => ?_⟩
    ·simp only [cellOf, hx, beq_self_eq_true, if_true, pure_bind]
     exact e
    ·rcases List.mem_cons.mp z with z | z
     ·have : y = x := congrArg Prod.fst z
      subst this
      exact h3 y ⟨c, by simp [List.lookup_cons]⟩
     ·exact h2 y z
    ·obtain ⟨d, z⟩ := z
     refine h3 y ?_
     rw [List.lookup_cons]
     cases q : y == x with
     | true => exact ⟨c, rfl⟩
     | false => exact ⟨d, z⟩
   ·have hb : (k == NameKind.free) = false := by simpa using hk
    obtain ⟨cl, e, h1, h2, h3⟩ := ih cs (fun y z => hn y (List.mem_cons_of_mem _ z)) hc
    refine ⟨cl, ?_, h1, fun y z => ?_, h3⟩
    ·simp only [hb, Bool.false_eq_true, if_false, pure_bind]
     exact e
    ·rcases List.mem_cons.mp z with z | z
     ·exact absurd (congrArg Prod.snd z).symm hk
     ·exact h2 y z
 obtain ⟨cl, e, h1, h2, _⟩ := all scope.names [] h (fun x c z => by simp at z)
 refine ⟨cl, ?_, h1, h2⟩
 show (forIn scope.names [] _ >>= fun cs => pure cs) = pure cl
 rw [bind_pure]
 exact e
theorem uO {scope : Scope} {env : Env} (hc : ∀ y ∈ scope.names, y.2 ≠ .cell) {x : Str} (h : (relabel scope env).names.lookup x = some .cell ∨ (relabel scope env).names.lookup x = some .free) : (x, NameKind.free) ∈ scope.names := by
 have all : ∀ (ns : List (Str × NameKind)), (∀ y ∈ ns, y.2 ≠ .cell) →
   ((ns.map fun (n, k) => if (k == NameKind.free && env.scope.kind == .function && env.kindOf n == some .cell) then (n, NameKind.cell) else (n, k)).lookup x = some .cell ∨
    (ns.map fun (n, k) => if (k == NameKind.free && env.scope.kind == .function && env.kindOf n == some .cell) then (n, NameKind.cell) else (n, k)).lookup x = some .free) → (x, NameKind.free) ∈ ns := by
  intro ns
  induction ns with
  | nil => intro _ z; simp at z
  | cons q r ih =>
   intro hn z
   obtain ⟨n, k⟩ := q
   have ih' := ih (fun y hy => hn y (List.mem_cons_of_mem _ hy))
   have hk := hn (n, k) List.mem_cons_self
   simp only [List.map_cons] at z
   by_cases hcd : (k == NameKind.free && env.scope.kind == .function && env.kindOf n == some .cell) = true
   ·have kf : k = NameKind.free := by
     have := (Bool.and_eq_true _ _ ▸ hcd)
     simp only [Bool.and_eq_true] at hcd
     exact eq_of_beq hcd.1.1
    simp only [hcd, if_true, List.lookup_cons] at z
    cases e : x == n with
    | true => rw [eq_of_beq e, kf]; exact List.mem_cons_self
    | false => rw [e] at z; exact List.mem_cons_of_mem _ (ih' z)
   ·simp only [hcd, Bool.false_eq_true, if_false, List.lookup_cons] at z
    cases e : x == n with
    | true =>
     rw [e] at z
     rcases z with z | z
     ·exact absurd (Option.some.inj z) hk
     ·rw [eq_of_beq e, Option.some.inj z]; exact List.mem_cons_self
    | false => rw [e] at z; exact List.mem_cons_of_mem _ (ih' z)
 exact all scope.names hc h
section
variable {prog : Program} {w : World} {A : Around} {R : Result → Shared → Prop} {s : Shared}
noncomputable abbrev Fp (ifs : List Expr) (env : Env) : Sem Bool := forIn ifs true fun c r => if r = true then do let ok ← isTrue c env (eval c env); pure (ForInStep.yield ok) else pure (ForInStep.yield r)
theorem xq {elt target iter : Expr} {ifs : List Expr} {scope : Scope} {pos : Pos} {it acc : Value} {env : Env} (I : Nat → Shared → Prop)
  (turn : ∀ n s, I n s → wpAny (model prog w) A (pyNext it) (fun r s1 => match r with
   | none => R (.ok .next) s1
   | some v => wpAny (model prog w) A (letOwnedTupleGo target it v) (fun _ s2 => wpAny (model prog w) A (assign target env v) (fun _ s3 => wpAny (model prog w) A (Fp ifs env) (fun ok s4 =>
     if ok = true then wpAny (model prog w) A (eval elt env) (fun x s5 => wpAny (model prog w) A (call (.builtin "list.append") [acc, x]) (fun _ s6 => ∃ m, m < n ∧ I m s6) (fun _ _ => False) s5) (fun _ _ => False) s4
     else ∃ m, m < n ∧ I m s4) (fun _ _ => False) s3) (fun _ _ => False) s2) (fun _ _ => False) s1) (fun _ _ => False) s)
  (n : Nat) (h : I n s) : codeAny (model prog w) A (.compLoop (.ListComp elt [⟨target, iter, ifs, 0⟩] scope pos) 0 it acc env) R s := by
 refine codeAny_loop rfl I (fun n s hI => ?_) n h
 have core : wpAny (model prog w) A (compTurn (.ListComp elt [⟨target, iter, ifs, 0⟩] scope pos) 0 it acc env)
   (fun fin s' => match fin with | .done f => R (.ok f) s' | .again c' => c' = .compLoop (.ListComp elt [⟨target, iter, ifs, 0⟩] scope pos) 0 it acc env ∧ ∃ m, m < n ∧ I m s') (fun _ _ => False) s := by
  rw [compTurn_list]
  refine wpAny_bind (wpAny_standAt (wpAny_bind (wpAny_mono (turn n s hI) (fun r s1 h1 => ?_) fun _ _ e => e)))
  cases r with
  | none => exact wpAny_pure h1
  | some v =>
   refine wpAny_bind (wpAny_mono h1 (fun _ s2 h2 => ?_) fun _ _ e => e)
   refine wpAny_bind (wpAny_mono h2 (fun _ s3 h3 => wpAny_bind (wpAny_mono h3 (fun ok s4 h4 => ?_) fun _ _ e => e)) fun _ _ e => e)
   cases ok with
   | false => exact wpAny_pure ⟨rfl, h4⟩
   | true =>
    exact wpAny_bind (wpAny_bind (wpAny_mono h4 (fun x s5 h5 => wpAny_bind (wpAny_mono h5 (fun _ s6 h6 => wpAny_pure (wpAny_pure ⟨rfl, h6⟩)) fun _ _ e => e)) fun _ _ e => e))
 show wpAny _ A ((compTurn (.ListComp elt [⟨target, iter, ifs, 0⟩] scope pos) 0 it acc env).onRaise (fun x => do noteFrame x env; theTreesLotGoes x)) _ _ s
 exact wpAny_noted (wpAny_mono core (fun _ _ q => q) fun _ _ e => e.elim)
end
noncomputable def cR (N : List Str) (own : List Str) (cap : List Nat) : List Str := own ++ cap.map fun j => N.getD j Str.empty
noncomputable def fw (own : List Str) (cap : List Nat) (σ : St) : St := own.map (fun _ => (none : Option V)) ++ cap.map fun j => (σ[j]?).getD none
structure Wk (σ σ' : St) : Prop where
 len : σ'.length = σ.length
 val : ∀ (i : Nat) v, σ[i]? = some (some v) → σ'[i]? = some (some v)
theorem Wk.set {σ : St} {i : Nat} {x : V} (h : σ[i]? = some none) : Wk σ (σ.set i (some x)) := by
 refine ⟨by simp, fun j v e => ?_⟩
 by_cases ij : i = j
 ·subst ij; rw [h] at e; cases e
 ·rw [List.getElem?_set_ne ij]; exact e
structure Blk (esc : Scope) (N : List Str) (scope : Scope) (own : List Str) (cap : List Nat) : Prop where
 kind : scope.kind = .function
 nocell : ∀ y ∈ scope.names, y.2 ≠ .cell
 names : ∀ y ∈ scope.names, y.2 = .local → scope.names.lookup y.1 = some .local
 free : ∀ y ∈ scope.names, y.2 = .free → esc.names.lookup y.1 = some .cell ∨ esc.names.lookup y.1 = some .free
 capf : ∀ j ∈ cap, scope.names.lookup (N.getD j Str.empty) = some .free
noncomputable abbrev Cx.blk (X : Cx) (scope : Scope) (cl : List (Str × Addr)) (C : Addr) (N' : List Str) (s2 : Shared) (H2 : Hp) (ex : List Addr) : Cx where
 prog := X.prog
 w := X.w
 K := X.K
 mg := X.mg
 base := X.base
 A := X.A
 N := N'
 s₀ := s2
 H₀ := H2
 env := compEnvC scope cl C X.env
 outer := X.stack
 stack := X.stack
 ex := ex
 fn := fun _ => false
 calm := X.calm
 pn := []
 xe := fun _ _ => False
theorem dN {env : Env} : ∀ {names : List (Str × NameKind)} {x : Str}, names.lookup x = some .free →
    (names.map fun (n, k) => if (k == NameKind.free && env.scope.kind == .function && env.kindOf n == some .cell) then (n, NameKind.cell) else (n, k)).lookup x = some .cell ∨
    (names.map fun (n, k) => if (k == NameKind.free && env.scope.kind == .function && env.kindOf n == some .cell) then (n, NameKind.cell) else (n, k)).lookup x = some .free
  | [], _, h => by simp at h
  | (n, k) :: r, x, h => by
    have ih := @dN env r x
    simp only [List.map_cons]
    rw [List.lookup_cons] at h
    by_cases hc : (k == NameKind.free && env.scope.kind == .function && env.kindOf n == some .cell) = true
    · simp only [hc, if_true, List.lookup_cons]
      cases e : x == n with
      | true => exact .inl rfl
      | false => rw [e] at h; exact ih h
    · simp only [hc, Bool.false_eq_true, if_false, List.lookup_cons]
      cases e : x == n with
      | true => rw [e] at h; exact .inr h
      | false => rw [e] at h; exact ih h
section
variable {X : Cx} {pins : List (Addr × Obj)} {σ : St} {H2 : Hp} {s2 : Shared} {scope : Scope} {own : List Str} {cap : List Nat} {cl : List (Str × Addr)} {fp : List Addr} {C : Addr}
theorem FK (B : Blk X.env.scope X.N scope own cap) (I2 : Inv X pins σ H2 s2) (f2 : ∀ b ∈ fp, lZ X pins H2 b) (fl : ∀ b ∈ fp, b < s2.heap.objs.size) (hC : s2.heap.objs.size ≤ C)
  (h1 : ∀ x c, cl.lookup x = some c → X.env.cells.lookup x = some c) (h2 : ∀ x, (x, NameKind.free) ∈ scope.names → ∃ c, cl.lookup x = some c) : (X.blk scope cl C (cR X.N own cap) s2 H2 fp).Ok where
 mod := I2.ok.mod
 kind := B.kind
 glob := I2.ok.glob
 blt := I2.ok.blt
 above := hC
 inj := fun x y c e1 e2 => I2.ok.inj x y c (h1 x c e1) (h1 y c e2)
 has := fun x hx => h2 x (uO B.nocell hx)
 cab := fun x c hx => absurd hx Bool.false_ne_true
 hd := I2.ok.hd
 frames := I2.ok.frames
 stk := .inl rfl
 exf := fun b hb => ⟨Nat.ne_of_lt (Nat.lt_of_lt_of_le (fl b hb) hC), fun x c e => (f2 b hb).2.2.2.2.1 x c (h1 x c e)⟩
 bs := I2.bs
 bsz := Nat.le_trans I2.ok.bsz I2.sz
 noex := fun b o e hb => by
  rcases (f2 b hb).2.2.2.1 with z | z
  ·exact I2.ok.noex b o e z
  ·exact absurd (Nat.lt_of_lt_of_le (Heap.lt_size e) (Nat.le_trans I2.ok.bsz z)) (Nat.lt_irrefl _)
 exfs := fun b hb hz => by
  rcases List.mem_cons.mp (I2.stkSub b hz) with z | z
  ·exact (f2 b hb).2.1 z
  ·exact (f2 b hb).2.2.1 z
 funs := I2.stack
 frf := I2.stkFree
theorem tJ {h4 : Heap} {tk : Nat} {m : Str → Option Value} {D : Addr} {o : Obj} (B : Blk X.env.scope X.N scope own cap) (I2 : Inv X pins σ H2 s2) (f2 : ∀ b ∈ fp, lZ X pins H2 b) (fl : ∀ b ∈ fp, b < s2.heap.objs.size) (hC : s2.heap.objs.size ≤ C)
  (h1 : ∀ x c, cl.lookup x = some c → X.env.cells.lookup x = some c) (h2 : ∀ x, (x, NameKind.free) ∈ scope.names → ∃ c, cl.lookup x = some c)
  (kp : ∀ b o, s2.heap.get? b = some o → h4.get? b = some o) (hn : h4.Ns C m) (hD : h4.get? D = some o) (hDs : s2.heap.objs.size ≤ D) (hDC : D ≠ C) (hod : ∀ v, o.data ≠ .cell v) :
  Inv (X.blk scope cl C (cR X.N own cap) s2 H2 fp) [(D, o)] (fw own cap σ) H2 { s2 with heap := h4, toks := tk } where
 ok := FK B I2 f2 fl hC h1 h2
 os := rfl
 bare := I2.bare
 base := Un.kept kp
 loc := by
  refine ⟨m, hn, fun i x v e1 e2 _ => ?_⟩
  have e1 : (cR X.N own cap)[i]? = some x := e1
  unfold fw at e2
  unfold cR at e1
  by_cases hi : i < own.length
  ·rw [List.getElem?_append_left (by simpa using hi), List.getElem?_map] at e2
   cases q : own[i]? with
   | none => rw [q] at e2; cases e2
   | some y => rw [q] at e2; cases e2
  ·rw [List.getElem?_append_right (by simpa using hi), List.getElem?_map, List.length_map] at e2
   rw [List.getElem?_append_right (by omega), List.getElem?_map] at e1
   cases q : cap[i - own.length]? with
   | none => rw [q] at e2; cases e2
   | some j =>
    rw [q] at e1 e2
    have hx : X.N.getD j Str.empty = x := Option.some.inj e1
    have hv : (σ[j]?).getD none = some v := Option.some.inj e2
    have hσ : σ[j]? = some (some v) := by
     cases z : σ[j]? with
     | none => rw [z] at hv; cases hv
     | some y => rw [z] at hv; exact congrArg some hv
    have hj : j < X.N.length := by rw [← I2.len]; exact (List.getElem?_eq_some_iff.mp hσ).1
    have hNj : X.N[j]? = some x := by
     rw [← hx, List.getD_eq_getElem?_getD, List.getElem?_eq_getElem hj]; rfl
    have hf := B.capf j (List.mem_of_getElem? q)
    rw [hx] at hf
    have hk := B.free (x, .free) (mem_of_lookup hf) rfl
    obtain ⟨m2, _, hl⟩ := I2.loc
    obtain ⟨u, r, lk⟩ := hl j x v hNj hσ (.inr hk)
    refine ⟨u, r, .inr ⟨dN hf, ?_⟩⟩
    rcases lk with ⟨z, _⟩ | ⟨_, c, ec, ic⟩
    ·have z' : X.env.scope.names.lookup x = some .local := z
     rcases hk with q | q <;> (rw [z'] at q; cases q)
    ·obtain ⟨c', e'⟩ := h2 x (mem_of_lookup hf)
     have e'' := h1 x c' e'
     rw [ec] at e''
     cases e''
     obtain ⟨oc, hoc, hd⟩ := ic
     exact ⟨c, e', oc, kp _ _ hoc, hd⟩
 cell := fun x c e => by
  obtain ⟨v, oc, hoc, hd⟩ := I2.cell x c (h1 x c e)
  exact ⟨v, oc, kp _ _ hoc, hd⟩
 free := I2.hok.fresh hC
 freeC := fun x c e => I2.freeC x c (h1 x c e)
 pin := fun p hp => by
  have e : p = (D, o) := by simpa using hp
  subst e
  exact ⟨hD, I2.hok.fresh hDs, hDC, fun hz => by
   obtain ⟨_, q, hq, _⟩ := I2.stack.mem hz
   exact absurd (Nat.lt_of_lt_of_le (Heap.lt_size hq) hDs) (Nat.lt_irrefl _), hod⟩
 hok := I2.hok.kept kp
 len := by
  show (fw own cap σ).length = (cR X.N own cap).length
  unfold fw cR
  simp
noncomputable def PIf (X : Cx) (ifs : List Expr) (t : TT) : Prop :=
 ∀ (pins : List (Addr × Obj)) (s : Shared) (σ : St) (H : Hp) (Q : Bool → Hp → Prop), Inv X pins σ H s → t σ H Q → wpAny (model X.prog X.w) X.A (Fp ifs X.env) (TP X pins σ Q) X.xe s
noncomputable def oP : TT := fun _ H Q => Q true H
theorem fj : PIf X [] oP := fun _ _ _ H _ I h => wpAny_tests_nil ⟨H, I, h⟩
theorem ik {c : Expr} {t : TT} (h : PT X c t) : PIf X [c] t := fun pins s σ H Q I q => wpAny_tests_one (h pins s σ H Q I q)
noncomputable def uJ (own : List Str) (cap : List Nat) (g : TG) (tt : TT) (te : TE) (σ : St) (Z : List V → Hp → Prop) (J : It) (H1 : Hp) : Prop :=
 ∃ W : Nat → Nat → List V → Hp → Prop, (∃ m, W 0 m [] H1) ∧ ∀ i m acc H2, W i m acc H2 → acc.length < sizeLine ∧
  ((J.stop i H2 ∧ Z acc H2) ∨
   (J.go i H2 ∧ ∀ x H3, J.yld i H2 x H3 → g x (fw own cap σ) H3 fun σ4 H4 => Wk (fw own cap σ) σ4 ∧ tt σ4 H4 fun b H5 =>
    if b = true then te σ4 H5 fun v H6 => ∃ m', m' < m ∧ W (i + 1) m' (acc ++ [v]) H6 else ∃ m', m' < m ∧ W (i + 1) m' acc H5))
theorem Ao {tg elt iter : Expr} {ifs : List Expr} {pos : Pos} {g : TG} {tt : TT} {te : TE} {J : It} {it : Addr} {tn : Nat → Heap → Prop} {Z : List V → Hp → Prop} {E : Value → Shared → Prop} {RR : Value → Addr → Result → Shared → Prop}
  (hc : X.calm = true) (B : Blk X.env.scope X.N scope own cap) (I2 : Inv X pins σ H2 s2) (T : Turn X.prog X.w X.K tg J fp it tn) (st2 : tn 0 s2.heap) (f2 : ∀ b ∈ fp, lZ X pins H2 b)
  (h1 : ∀ x c, cl.lookup x = some c → X.env.cells.lookup x = some c) (h2 : ∀ x, (x, NameKind.free) ∈ scope.names → ∃ c, cl.lookup x = some c)
  (hg : ∀ cl C s2 H2 ex, PG (X.blk scope cl C (cR X.N own cap) s2 H2 ex) tg g) (ht : ∀ cl C s2 H2 ex, PIf (X.blk scope cl C (cR X.N own cap) s2 H2 ex) ifs tt) (he : ∀ cl C s2 H2 ex, PE (X.blk scope cl C (cR X.N own cap) s2 H2 ex) elt te)
  (w : uJ own cap g tt te σ Z J H2)
  (hRR : ∀ (D C : Addr) (acc : List V) (H' : Hp) (s' : Shared), Inv X pins σ (upd H' D (.lst acc)) s' → D ≠ C → H' D = none → H' C = none → (∃ m, s'.heap.Ns C m) →
   (∀ σ'' H'' s'' h', Inv X pins σ'' H'' s'' → H'' C = none → Heap.SameBut C s''.heap h' → Inv X pins σ'' H'' { s'' with heap := h' }) → (∀ x c, X.env.cells.lookup x = some c → c ≠ C) → C ≠ X.env.locals → Z acc H' → RR (.ref D) C (.ok .next) s') :
  wpAny (model X.prog X.w) X.A (newList []) (fun acc s3 => wpAny (model X.prog X.w) X.A (newFunctionEnv scope X.env.globals cl [] X.env.qual none .none (some X.env)) (fun cenv s4 =>
   codeAny (model X.prog X.w) X.A (.compStart (.ListComp elt [⟨tg, iter, ifs, 0⟩] scope pos) 0 (.ref it) acc { cenv with scope := relabel scope X.env }) (RR acc cenv.locals) s4) E s3) E s2 := by
 obtain ⟨W, ⟨m0, w0⟩, turn⟩ := w
 have fl : ∀ b ∈ fp, b < s2.heap.objs.size := fun b hb => by obtain ⟨o, ho, _⟩ := T.obj 0 _ st2 b hb; exact Heap.lt_size ho
 refine wpAny_newObj_type (wpAny_newFunctionEnv B.nocell (by intro y hy; simp at hy) (fun h4 hns hsb => ?_) B.kind)
 dsimp only at hns hsb ⊢
 generalize hH3 : s2.heap.push { cls := .type "list", dict := none, data := .seq ([] : List Value).toArray } = H3 at hns hsb ⊢
 have hCs : H3.objs.size = s2.heap.objs.size + 1 := by rw [← hH3, Heap.size_push]
 have hDC : s2.heap.objs.size ≠ H3.objs.size := by rw [hCs]; exact Nat.ne_of_lt (Nat.lt_succ_self _)
 have hC : s2.heap.objs.size ≤ H3.objs.size := by rw [hCs]; exact Nat.le_succ _
 have kp : ∀ b o, s2.heap.get? b = some o → h4.get? b = some o := fun b o e => hsb.extBut b o (Nat.ne_of_lt (Nat.lt_of_lt_of_le (Heap.lt_size e) hC)) (Heap.get?_push_of_some _ (hH3 ▸ Heap.get?_push_of_some _ e))
 have hD4 : h4.get? s2.heap.objs.size = some { cls := .type "list", data := .seq ([] : List Value).toArray 0 } := hsb.extBut _ _ hDC (Heap.get?_push_of_some _ (hH3 ▸ Heap.get?_push_size _ rfl))
 generalize hCe : H3.objs.size = C at hns hsb hCs hDC hC ⊢
 generalize hDe : s2.heap.objs.size = D at hD4 hDC ⊢
 have hDs : s2.heap.objs.size ≤ D := Nat.le_of_eq hDe
 have flD : ∀ b ∈ fp, b ≠ D := fun b hb z => by have := fl b hb; rw [z, hDe] at this; exact Nat.lt_irrefl _ this
 have celD : ∀ x c, cl.lookup x = some c → c ≠ D := fun x c e z => by
  obtain ⟨v, q⟩ := I2.cell x c (h1 x c e)
  have := q.lt
  rw [z, hDe] at this
  exact Nat.lt_irrefl _ this
 let Y : Cx := X.blk scope cl C (cR X.N own cap) s2 H2 fp
 have lo : ∀ (its : List Value) (ep : Nat) (v : Option Value), ({ cls := .type "list", data := .seq its.toArray ep } : Obj).data ≠ .cell v := fun its ep v z => by
  have z' : Data.seq its.toArray ep = Data.cell v := z
  cases z'
 have fpY : ∀ {H' : Hp} {its : List Value} {ep : Nat}, (∀ b ∈ fp, H' b = none) → ∀ b ∈ fp, lZ Y [(D, ({ cls := .type "list", data := .seq its.toArray ep } : Obj))] H' b := fun {H' its ep} hn b hb => by
  refine ⟨hn b hb, Nat.ne_of_lt (Nat.lt_of_lt_of_le (fl b hb) hC), fun hz => ?_, .inl hb, fun x c e => (f2 b hb).2.2.2.2.1 x c (h1 x c e), fun p hp => ?_⟩
  ·rcases List.mem_cons.mp (I2.stkSub b hz) with z | z
   ·exact (f2 b hb).2.1 z
   ·exact (f2 b hb).2.2.1 z
  ·rcases List.mem_append.mp hp with hp | hp
   ·exact absurd (show p ∈ ([] : List (Addr × Obj)) from hp) (by simp)
   ·have e : p = (D, ({ cls := .type "list", data := .seq its.toArray ep } : Obj)) := by simpa using hp
    subst e
    exact Ne.symm (flD b hb)
 have loop : ∀ s4 : Shared, s4 = { s2 with heap := h4, toks := s2.toks + ([] : List (Str × Value)).length } →
   codeAny (model X.prog X.w) X.A (.compLoop (.ListComp elt [⟨tg, iter, ifs, 0⟩] scope pos) 0 (.ref it) (.ref D) (compEnvC scope cl C X.env)) (RR (.ref D) C) s4 := by
  rintro s4 rfl
  refine xq (fun n s' => ∃ i acc its ep H', Inv Y [(D, ({ cls := .type "list", data := .seq its.toArray ep } : Obj))] (fw own cap σ) H' s' ∧ tn i s'.heap ∧ (∀ b ∈ fp, H' b = none) ∧ bE acc its ∧ W i n acc H') ?_ m0
   ⟨0, [], [], 0, H2, tJ B I2 f2 fl hC h1 h2 kp hns hD4 hDs hDC (lo [] 0), T.keep 0 _ _ st2 fun b _ o e => kp b o e, fun b hb => (f2 b hb).1, .nil, w0⟩
  rintro n s5 ⟨i, acc, its, ep, H5, I5, st5, fr5, vl, w5⟩
  obtain ⟨room, alt⟩ := turn i n acc H5 w5
  have vlen := vl.length
  rcases alt with ⟨stop, zq⟩ | ⟨go, step⟩
  ·refine thn (T.done Y rfl rfl rfl hc i _ s5 _ H5 (fun _ _ => False) I5 (fpY fr5) st5 stop) fun r s6 ⟨hr, I6⟩ => ?_
   subst hr
   show RR (.ref D) C (.ok .next) s6
   have pD := I6.pin (D, ({ cls := .type "list", data := .seq its.toArray ep } : Obj)) (List.mem_append_right _ (List.mem_singleton.mpr rfl))
   have fC : H5 C = none := I6.free
   have nD : ∀ b u, H5 b = some u → b ≠ D := fun b u e z => by rw [z, pD.2.1] at e; cases e
   have bD : ∀ b o, s2.heap.get? b = some o → b ≠ D := fun b o e z => by have := Heap.lt_size e; rw [z, hDe] at this; exact Nat.lt_irrefl _ this
   have un : Un (frs X.stack) fp H2 (upd H5 D (.lst acc)) s2.heap s6.heap :=
    ⟨I6.base.keep, I6.base.slot, fun b o e n x => by rw [aD (bD b o e)]; exact I6.base.free b o e n x, I6.base.there,
     fun b xs e => by have q := I6.base.tups b xs e; rw [aD (nD b _ q)]; exact q, fun b o u e => by have q := I6.base.frzs b o u e; rw [aD (nD b _ q)]; exact q,
     fun b ps e => by obtain ⟨mo, q⟩ := I6.base.tbls b ps e; exact ⟨mo, by rw [aD (nD b _ q)]; exact q⟩⟩
   have hok : HOk X.prog X.w (upd H5 D (.lst acc)) s6.heap := fun b u e => by
    by_cases hb : b = D
    ·subst hb
     rw [ai] at e
     cases e
     exact ⟨Nat.le_of_lt room, its, ep, vl, pD.1⟩
    ·rw [aD hb] at e
     exact (I6.hok b u e).stay (fun c v _ q => q) (fun c q => by rw [aD (nD c _ q)]; exact q) fun c xs q => by rw [aD (nD c _ q)]; exact q
   have IX : Inv X pins σ (upd H5 D (.lst acc)) s6 := I2.call' I6.os un hok I6.bare fun b hb => ⟨(f2 b hb).2.2.2.1, (f2 b hb).2.1, (f2 b hb).2.2.2.2.1, (f2 b hb).2.2.2.2.2⟩
   obtain ⟨mm, hmm, _⟩ := I6.loc
   have cC : ∀ x c, X.env.cells.lookup x = some c → c ≠ C := fun x c e z => by
    obtain ⟨v, q⟩ := I2.cell x c e
    exact absurd (Nat.lt_of_lt_of_le q.lt (by rw [z]; exact hC)) (Nat.lt_irrefl _)
   have lC : C ≠ X.env.locals := Nat.ne_of_gt (Nat.lt_of_lt_of_le I2.lt hC)
   refine hRR D C acc H5 s6 IX hDC pD.2.1 fC ⟨mm, hmm⟩ (fun σ'' H'' s'' h' J'' hn hs => ?_) cC lC zq
   exact J''.turned (t' := s''.toks) (fun b o hb e => (hs.2 b hb).trans e) hn lC (.inr (Nat.le_trans I2.sz hC)) cC fun p hp z => by
    have := Heap.lt_size (I2.pin p hp).1
    exact absurd (Nat.lt_of_lt_of_le this (by rw [z]; exact hC)) (Nat.lt_irrefl _)
  ·refine thn (T.item Y rfl rfl rfl hc i _ s5 _ H5 (fun _ _ => False) I5 (fpY fr5) st5 go) fun r s6 ⟨u, hr, h6⟩ => ?_
   subst hr
   refine thn h6 fun _ s7 ⟨x, H7, I7, r7, y7, st7, fr7⟩ => ?_
   have I7' := I7.pinned (fpY fr7) (T.obj _ _ st7)
   refine thn (hg cl C s2 H2 fp _ s7 _ H7 x u _ I7' r7 (step x H7 y7)) fun _ s8 ⟨σ8, H8, I8, wk8, q8⟩ => ?_
   refine thn (ht cl C s2 H2 fp _ s8 σ8 H8 _ I8 q8) fun ok s9 ⟨H9, I9, q9⟩ => ?_
   have unpin : ∀ {its' : List Value} {ep' : Nat} {H' : Hp} {s' : Shared} {acc' : List V} {m' : Nat}, Inv Y ([(D, ({ cls := .type "list", data := .seq its'.toArray ep' } : Obj))] ++ gj fp s7.heap) σ8 H' s' → bE acc' its' → W (i + 1) m' acc' H' → m' < n →
     ∃ m, m < n ∧ ∃ i acc its ep H'', Inv Y [(D, ({ cls := .type "list", data := .seq its.toArray ep } : Obj))] (fw own cap σ) H'' s' ∧ tn i s'.heap ∧ (∀ b ∈ fp, H'' b = none) ∧ bE acc its ∧ W i m acc H'' := fun {its' ep' H' s' acc' m'} J v' w' hm => by
    refine ⟨m', hm, i + 1, acc', its', ep', H', (J.unpinned).weak wk8.len.symm wk8.val, T.keep _ _ _ st7 fun b hb o e => (J.pin (b, o) (List.mem_append_right _ (List.mem_append_right _ (fz hb e)))).1, fun b hb => ?_, v', w'⟩
    obtain ⟨o, e, d⟩ := T.obj _ _ st7 b hb
    exact (J.pin (b, o) (List.mem_append_right _ (List.mem_append_right _ (fz hb e)))).2.1
   cases ok with
   | false =>
    rw [if_neg Bool.false_ne_true] at q9 ⊢
    obtain ⟨m', hm, w'⟩ := q9
    exact unpin I9 vl w' hm
   | true =>
    rw [if_pos rfl] at q9 ⊢
    refine thn (he cl C s2 H2 fp _ s9 σ8 H9 _ I9 q9) fun v s10 ⟨y, H10, I10, r10, m', hm, w'⟩ => ?_
    have pD := I10.pin (D, ({ cls := .type "list", data := .seq its.toArray ep } : Obj)) (List.mem_append_right _ (List.mem_append_left _ (List.mem_singleton.mpr rfl)))
    refine call_meets F.slot_list_append ⟨_, pD.1, rfl⟩ F.entry_list_append (F.args_list_append_2 _ _) (PySem.list_append D its.toArray ep v (by rw [List.size_toArray]; omega)) ⟨pD.1, ?_⟩
    have eD := PySem.IsL.update pD.1 (·.push v)
    have ea : its.toArray.push v = (its ++ [v]).toArray := by simp
    rw [ea] at eD
    generalize (if (its ++ [v]).toArray.size == its.toArray.size then ep else ep + 1) = ep2 at eD
    have pl : ∀ p ∈ gj fp s7.heap, p.1 ≠ D := fun p hp => flD p.1 (oo hp).1
    have I11 : Inv Y (gj fp s7.heap) σ8 H10 s10 := I10.pins_of fun p hp => I10.pin p (List.mem_append_right _ (List.mem_append_right _ hp))
    have I12 := I11.turned (it := D) (t' := s10.toks) (h' := s10.heap.update D (Obj.mapSeq (·.push v))) (fun b o hb e => (Heap.get?_update_other _ _ (Ne.symm hb)).trans e) pD.2.1 hDC (.inr hDs) celD (fun p hp => pl p ((List.mem_append.mp hp).elim (fun z => absurd (show p ∈ ([] : List (Addr × Obj)) from z) (by simp)) id))
    have I13 := I12.pins_of (pins' := [(D, ({ cls := .type "list", data := .seq (its ++ [v]).toArray ep2 } : Obj))] ++ gj fp s7.heap) fun p hp => by
     rcases List.mem_append.mp hp with hp | hp
     ·have e : p = (D, ({ cls := .type "list", data := .seq (its ++ [v]).toArray ep2 } : Obj)) := by simpa using hp
      subst e
      exact ⟨eD, pD.2.1, hDC, pD.2.2.2.1, lo _ _⟩
     ·exact I12.pin p (List.mem_append_right _ hp)
    exact unpin I13 (vl.append (.cons r10 .nil)) w' hm
 exact codeAny_compStart_list (loop _ rfl) (T.self _ 0 _ _ _ (T.keep 0 _ _ st2 fun b _ o e => kp b o e) (loop _ rfl))
end
section
variable {X : Cx} {tg elt iter : Expr} {ifs : List Expr} {scope : Scope} {pos : Pos} {own : List Str} {cap : List Nat} {wi : TI} {g : TG} {tt : TT} {te : TE}
theorem rG {pins : List (Addr × Obj)} {σ : St} {H : Hp} {s : Shared} (B : Blk X.env.scope X.N scope own cap) (I : Inv X pins σ H s) : ∃ cl, closureFor scope X.env = pure cl ∧ (∀ x c, cl.lookup x = some c → X.env.cells.lookup x = some c) ∧ ∀ x, (x, NameKind.free) ∈ scope.names → ∃ c, cl.lookup x = some c :=
 ze fun x hx => I.ok.has x (B.free (x, .free) hx rfl)
noncomputable def Fo (wi : TI) (own : List Str) (cap : List Nat) (g : TG) (tt : TT) (te : TE) : TE := fun σ H Q => wi σ H fun J H1 => uJ own cap g tt te σ (fun acc H2 => ∀ p, H2 p = none → Q (.ref p) (upd H2 p (.lst acc))) J H1
theorem dZ (B : Blk X.env.scope X.N scope own cap) (hc : X.calm = true) (hi : PI X tg iter wi) (hg : ∀ cl C s2 H2 ex, PG (X.blk scope cl C (cR X.N own cap) s2 H2 ex) tg g) (ht : ∀ cl C s2 H2 ex, PIf (X.blk scope cl C (cR X.N own cap) s2 H2 ex) ifs tt)
  (he : ∀ cl C s2 H2 ex, PE (X.blk scope cl C (cR X.N own cap) s2 H2 ex) elt te) (hs : ∀ x, foldedSetIterable iter X.env x = pure x := by intro _; rfl) : PE X (.ListComp elt [⟨tg, iter, ifs, 0⟩] scope pos) (Fo wi own cap g tt te) := by
 intro pins s σ H Q I h
 obtain ⟨cl, hcl, h1, h2⟩ := rG B I
 rw [eval_ListComp]
 refine wpAny_comprehension_free (use := none) rfl hs hcl B.kind B.names (thn (hi pins s σ H _ I h) fun v s1 q1 => thn q1 fun itv s2 q2 => ?_)
 obtain ⟨it, fp, tn, J, H2, e, I2, T, st2, f2, w⟩ := q2
 subst e
 refine Ao (RR := fun acc C => compPost (model X.prog X.w) X.A X.xe none (EP X pins σ Q) acc C) hc B I2 T st2 f2 h1 h2 hg ht he w ?_
 intro D C acc H' s' IX hDC fD fC hn tu _ _ z
 obtain ⟨m, hn⟩ := hn
 exact ⟨m, hn, fun h' hs' => ⟨.ref D, _, tu σ _ s' h' IX (by rw [aD (Ne.symm hDC)]; exact fC) hs', rfl, z D fD⟩⟩
theorem fG {i : Nat} {y : Str} {py spos : Pos} (B : Blk X.env.scope X.N scope own cap) (hc : X.calm = true) (hi : PI X tg iter wi) (hg : ∀ cl C s2 H2 ex, PG (X.blk scope cl C (cR X.N own cap) s2 H2 ex) tg g) (ht : ∀ cl C s2 H2 ex, PIf (X.blk scope cl C (cR X.N own cap) s2 H2 ex) ifs tt)
  (he : ∀ cl C s2 H2 ex, PE (X.blk scope cl C (cR X.N own cap) s2 H2 ex) elt te) (hN : X.N.Nodup) (hy : X.N[i]? = some y) (hl : X.env.scope.names.lookup y = some .local)
  (hsw : swapsWith (.ListComp elt [⟨tg, iter, ifs, 0⟩] scope pos) (some (.Name y py)) spos.line X.env = pure true := by rfl)
  (hs : ∀ x, foldedSetIterable iter X.env x = pure x := by intro _; rfl) : PS X (.Assign [.Name y py] (.ListComp elt [⟨tg, iter, ifs, 0⟩] scope pos) spos) (Ds (Fo wi own cap g tt te) (bp i)) := by
 intro pins s σ H D0 I h
 obtain ⟨cl, hcl, h1, h2⟩ := rG B I
 rw [exec_Assign_Name_used _ _ _ _ hsw]
 refine wpAny_bind (wpAny_standAt (wpAny_bind ?_))
 show wpAny _ X.A (do let _ ← comprehension (.ListComp elt [⟨tg, iter, ifs, 0⟩] scope pos) scope X.env _ (newList []) false (eval iter X.env) (some (assign (.Name y py) X.env))) _ _ s
 refine wpAny_bind (thn (Q := fun _ s' => SP X pins D0 .next s') (wpAny_comprehension_free (use := some (assign (.Name y py) X.env)) rfl hs hcl B.kind B.names (thn (hi pins s σ H _ I h) fun v s1 q1 => thn q1 fun itv s2 q2 => ?_)) fun _ s' q => wpAny_pure (wpAny_pure q))
 obtain ⟨it, fp, tn, J, H2, e, I2, T, st2, f2, w⟩ := q2
 subst e
 refine Ao (RR := fun acc C => compPost (model X.prog X.w) X.A X.xe (some (assign (.Name y py) X.env)) (fun _ s' => SP X pins D0 .next s') acc C) hc B I2 T st2 f2 h1 h2 hg ht he w ?_
 intro D C acc H' s' IX hDC fD fC hn tu cC lC z
 obtain ⟨m, hn⟩ := hn
 show wpAny _ X.A (assign (.Name y py) X.env (.ref D)) _ _ s'
 refine wpAny_assign_Name (om IX hN hy (.inl hl) (v := .ref D) rfl (fun s'' I'' ⟨a, sb, ha⟩ => ?_) (.inr hl))
 have aC : C ≠ a := by
  rcases ha with e | e
  ·rw [e]; exact lC
  ·exact Ne.symm (cC _ _ e)
 exact ⟨m, hn.sameBut sb aC, fun h' hs' => ⟨_, _, tu _ _ s'' h' I'' (by rw [aD (Ne.symm hDC)]; exact fC) hs', z D fD⟩⟩
end
section
variable {X : Cx} {pins : List (Addr × Obj)} {σ : St} {H : Hp} {s : Shared} {h' : Heap} {a : Addr} {o : HO} {t' : Nat}
theorem nK (hc : X.calm = true) : io X (.builtin "all") (fun xs H Q => ∃ (p : Addr) (bs : List Bool), xs = [.ref p] ∧ SqL X.K H p (bs.map V.bl) ∧ Q (.bl (bs.all id)) H) := by
 intro pins s σ H xs us Q I r h
 obtain ⟨p, bs, rfl, hq, q⟩ := h
 obtain ⟨u, rfl, rx⟩ := pk r
 cases rx
 have hh := I.ok.hd hc
 obtain ⟨its, rv, pl, _⟩ := I.list hq
 have hl : s.heap.IsList p its.toArray := pl.isList
 obtain ⟨ol, hol, _⟩ := id hl
 have hlen := rv.length
 rw [List.length_map] at hlen
 refine call_all_walk (wpAny_pyIter_list hl ⟨s.heap.objs.size, _, _, _, _, _, fun i => bs.getD i false, rfl, Walks.list (A := X.A.in1) hh s.heap.objs.size p (Nat.ne_of_lt (Heap.lt_size hol)) its.toArray, ⟨⟨_, Heap.get?_push_size _ rfl, rfl, rfl⟩, hl.at fun o e => Heap.get?_push_of_some _ e⟩, ?_, fun h' tk hk => ?_⟩)
 ·intro i v s1 Q1 E1 hv hq1
  have e' : its[i]? = some v := by simpa using hv
  have hil : i < bs.length := by have := (List.getElem?_eq_some_iff.mp e').1; omega
  obtain ⟨u, hu, ru⟩ := rv.get (i := i) (x := .bl bs[i]) (by rw [List.getElem?_map, List.getElem?_eq_getElem hil]; rfl)
  rw [e'] at hu
  cases hu
  obtain rfl : v = Value.bool bs[i] := ru
  have eg : bs.getD i false = bs[i] := by rw [List.getD_eq_getElem?_getD, List.getElem?_eq_getElem hil]; rfl
  exact wpAny_truthy_bool (eg ▸ hq1)
 ·have e : (List.range its.toArray.size).all (fun i => bs.getD i false) = bs.all id := by
   rw [List.size_toArray, ← hlen]
   rw [Bool.eq_iff_iff, List.all_eq_true, List.all_eq_true]
   constructor
   ·intro z x hx
    obtain ⟨i, hi, rfl⟩ := List.mem_iff_getElem.mp hx
    have := z i (List.mem_range.mpr hi)
    rw [List.getD_eq_getElem?_getD, List.getElem?_eq_getElem hi] at this
    exact this
   ·intro z i hi
    have hi' := List.mem_range.mp hi
    rw [List.getD_eq_getElem?_getD, List.getElem?_eq_getElem hi']
    exact z _ (List.getElem_mem hi')
  rw [e]
  exact ⟨.bl (bs.all id), H, I.kept (t' := tk) fun b u e => hk b u (fun z => absurd (Heap.lt_size e) (by rw [List.mem_singleton.mp z]; exact Nat.lt_irrefl _)) (Heap.get?_push_of_some _ e), rfl, q⟩
noncomputable def rp : List V → List V → Bool
 | [], [] => true
 | x :: xs, y :: ys => eqV x y && rp xs ys
 | _, _ => false
theorem qK : ∀ {xs ys : List V}, xs.length ≠ ys.length → rp xs ys = false
 | [], [], h => absurd rfl h
 | [], _ :: _, _ => rfl
 | _ :: _, [], _ => rfl
 | x :: xs, y :: ys, h => by
  show (eqV x y && rp xs ys) = false
  rw [qK (xs := xs) (ys := ys) (fun z => h (by simp [z])), Bool.and_false]
theorem rJ : ∀ (xs ys : List V), xs.length = ys.length → rp xs ys = (List.range xs.length).all fun i => eqV (xs.getD i .non) (ys.getD i .non)
 | [], [], _ => rfl
 | x :: xs, y :: ys, h => by
  show (eqV x y && rp xs ys) = _
  rw [List.length_cons, List.range_succ_eq_map, List.all_cons, List.all_map, rJ xs ys (by simpa using h)]
  rfl
noncomputable def Jl (K : PySem.W.Frag) (neg : Bool) : R2 := fun x y H Q => ∃ p b xs ys, x = .ref p ∧ y = .ref b ∧ SqL K H p xs ∧ SqL K H b ys ∧ xs.all dR = true ∧ ys.all dR = true ∧ Q (.bl (if neg then !rp xs ys else rp xs ys)) H
theorem qi {xs : List V} (h : xs.all dR = true) {i : Nat} (hi : i < xs.length) : dR (xs.getD i .non) = true := by
 rw [List.getD_eq_getElem?_getD, List.getElem?_eq_getElem hi]
 exact List.all_eq_true.mp h _ (List.getElem_mem hi)
theorem uN {xs : List V} {its : List Value} (r : bE xs its) {i : Nat} (hi : i < its.toArray.size) : bX (xs.getD i .non) its.toArray[i] := by
 have hx : i < xs.length := by rw [r.length]; simpa using hi
 obtain ⟨u, hu, ru⟩ := r.get (i := i) (x := xs[i]) (List.getElem?_eq_getElem hx)
 rw [List.getElem?_eq_getElem (by simpa using hi)] at hu
 rw [List.getD_eq_getElem?_getD, List.getElem?_eq_getElem hx]
 have e : its.toArray[i] = u := by simpa using Option.some.inj hu
 rw [e]; exact ru
theorem FJ (hu : X.A.units < cLine) : OpR X (compareOp .NotEq) (Jl X.K true) := by
 intro pins s σ H x y v u Q I rx ry h
 obtain ⟨p, b, xs, ys, rfl, rfl, hp, hb, fx, fy, q⟩ := h
 cases rx
 cases ry
 obtain ⟨its, r1, p1, _⟩ := I.list hp
 obtain ⟨jts, r2, p2, _⟩ := I.list hb
 have l1 := r1.length
 have l2 := r2.length
 simp only [if_true] at q
 by_cases e : xs.length = ys.length
 ·rw [rJ _ _ e] at q
  refine SeqAt.RcNeAt.lists (e := fun i => eqV (xs.getD i .non) (ys.getD i .non)) p1.isList p2.isList (by simp only [List.size_toArray]; omega) hu (fun j h1 h2 => yM (uN r1 h1) (uN r2 h2) (qi fx (by simp only [List.size_toArray] at h1; omega)) (qi fy (by simp only [List.size_toArray] at h2; omega))) _ _ _ _ ?_
  rw [List.size_toArray, ← l1]
  exact ⟨.bl _, H, I, rfl, q⟩
 ·rw [qK e] at q
  refine SeqAt.RcNeAt.lists_lengths p1.isList p2.isList (by simp only [List.size_toArray, bne_iff_ne]; omega) hu _ _ _ _ ?_
  exact ⟨.bl true, H, I, rfl, q⟩
theorem FH {x : V} {u t : Value} (I : Inv X pins σ H s) (rx : bX x u) (ty : TyOf X.K H x t) {A : Around} {E : Value → Shared → Prop} {Q : Value → Shared → Prop} {tp : Addr} {dd : Option Addr} {its : List Value} {n : Nat} {sl : Array (Option Value)} {b : Bool}
  (htp : s.heap.get? tp = some ⟨.type "tuple", dd, .seq its.toArray n, sl⟩) (e : PySem.W.kitAny X.K t its = some b) (h : ∀ tk, Q (.bool b) { s with toks := tk }) :
  wpAny (model X.prog X.w) A (call (.builtin "isinstance") [u, .ref tp]) Q E s := by
 cases ty with
 | non => cases (show u = Value.none from rx); exact PySem.W.kia_tup PySem.W.kitx_none I.kIn True.intro htp e (fun z => nomatch z) h
 | bl y => cases (show u = Value.bool y from rx); exact PySem.W.kia_tup PySem.W.kitx_bool I.kIn True.intro htp e (fun z => nomatch z) h
 | int i => obtain ⟨t, q⟩ := (show ∃ t, u = Value.int i t from rx); cases q; exact PySem.W.kia_tup PySem.W.kitx_int I.kIn True.intro htp e (fun z => nomatch z) h
 | str y => obtain ⟨t, q⟩ := (show ∃ t, u = Value.str y t from rx); cases q; exact PySem.W.kia_tup PySem.W.kitx_str I.kIn True.intro htp e (fun z => nomatch z) h
 | flt y => obtain ⟨t, q⟩ := (show ∃ t, u = Value.float y t from rx); cases q; exact PySem.W.kia_tup PySem.W.kitx_float I.kIn True.intro htp e (fun z => nomatch z) h
 | @lst a xs ea =>
  cases (show u = Value.ref a from rx)
  obtain ⟨_, _, m, _, h1⟩ := (show cw X.prog X.w H s.heap a (.lst xs) from I.hok a _ ea)
  exact PySem.W.kia_tup PySem.W.kitx_list I.kIn ⟨_, h1, rfl⟩ htp e (fun z => nomatch z) h
 | @frz a ob xs ea =>
  cases (show u = Value.ref a from rx)
  obtain ⟨_, _, _, m, _, h1⟩ := (show cw X.prog X.w H s.heap a (.frz ob (.lst xs)) from I.hok a _ ea)
  exact PySem.W.kia_tup PySem.W.kitx_list I.kIn ⟨_, h1, rfl⟩ htp e (fun z => nomatch z) h
 | @tup a xs ea =>
  cases (show u = Value.ref a from rx)
  obtain ⟨_, _, _, p⟩ := (show cw X.prog X.w H s.heap a (.tup xs) from I.hok a _ ea)
  obtain ⟨o, h1, h2, _⟩ := p
  exact PySem.W.kia_tup PySem.W.kitx_tuple I.kIn ⟨o, h1, h2⟩ htp e (fun z => nomatch z) h
 | @dK a kvs ea =>
  cases (show u = Value.ref a from rx)
  obtain ⟨_, _, vs, _, p⟩ := (show cw X.prog X.w H s.heap a (.dK kvs) from I.hok a _ ea)
  obtain ⟨o, es, ep, h1, h2, _⟩ := p
  exact PySem.W.kia_tup PySem.W.kitx_dict I.kIn ⟨o, h1, h2.1⟩ htp e (fun z => nomatch z) h
 | @dT a kvs ea =>
  cases (show u = Value.ref a from rx)
  obtain ⟨_, _, xs, _, o, es, ep, h1, h2, _⟩ := (show cw X.prog X.w H s.heap a (.dT kvs) from I.hok a _ ea)
  exact PySem.W.kia_tup PySem.W.kitx_dict I.kIn ⟨o, h1, h2.1⟩ htp e (fun z => nomatch z) h
 | @ins a C dx fs ea cl ha hn htk hm =>
  cases (show u = Value.ref a from rx)
  obtain ⟨mA, O, _⟩ := zU I.hok ea
  obtain ⟨od, J, _⟩ := O.look
  exact PySem.W.kia_tup (PySem.W.kitx_own (cl.get _) cl.hd ha hn htk hm) I.kIn J htp e (fun z => nomatch z) h
theorem bG : io X (.builtin "isinstance") (fun xs H Q => ∃ x T t b, xs = [x, .ty T] ∧ TyOf X.K H x t ∧ PySem.W.kitOne X.K t (.type T) = some b ∧ Q (.bl b) H) := by
 intro pins s σ H xs us Q I r h
 obtain ⟨x, T, t, b, rfl, ty, e, q⟩ := h
 obtain ⟨u, w', rfl, rx, ry⟩ := wu r
 cases (show w' = Value.type T from ry)
 exact BC I rx ty e fun tk => ⟨.bl b, H, I.tok tk, rfl, q⟩
theorem BF : io X (.builtin "isinstance") (fun xs H Q => ∃ x p S T t b, xs = [x, .ref p] ∧ H p = some (.tup [.ty S, .ty T]) ∧ TyOf X.K H x t ∧ PySem.W.kitAny X.K t [.type S, .type T] = some b ∧ Q (.bl b) H) := by
 intro pins s σ H xs us Q I r h
 obtain ⟨x, p, S, T, t, b, rfl, hp, ty, e, q⟩ := h
 obtain ⟨u, w', rfl, rx, ry⟩ := wu r
 cases (show w' = Value.ref p from ry)
 obtain ⟨_, its, rv, o, ho, hc, n, hd⟩ := I.hok p _ hp
 obtain ⟨v1, v2, rfl, a1, a2⟩ := wu rv
 cases (show v1 = Value.type S from a1)
 cases (show v2 = Value.type T from a2)
 obtain ⟨oc, od, odt, osl⟩ := o
 simp only at hc hd
 subst hc hd
 exact FH (its := [.type S, .type T]) I rx ty ho e fun tk => ⟨.bl b, H, I.tok tk, rfl, q⟩
end
end L2
namespace SS
open PySem PyProof.Rows
noncomputable def K2 (xs : Array Keyed) (i : Nat) : Int := match xs[i]? with
 | some p => numOf p.2
 | none => 0
structure Sorted (key : Nat → Int) (n : Nat) (ps : List Nat) : Prop where
 perm : ps.Perm (List.range n)
 ord : ∀ (i j p q : Nat), i < j → ps[i]? = some p → ps[j]? = some q → key p < key q ∨ (key p = key q ∧ p < q)
section
variable {prog : Program} {w : World} {A : Around} {E : Value → Shared → Prop} {s : Shared} {a f : Addr} {vs : List Value} {n e0 : Nat} {key : Nat → Int} {P : PySem.Fin → Shared → Prop}
noncomputable def But (a : Addr) (h h' : Heap) : Prop := ∀ b o, b ≠ a → h.get? b = some o → h'.get? b = some o
end
end SS
namespace L2
open PySem PySem.Spec PyProof.Rows
section
variable {X : Cx} {tg : Expr}
noncomputable def Jq (K : PySem.W.Frag) (tl : TE) : TI := fun σ H R => tl σ H fun x H1 => ∃ a, x = .ref a ∧ (((∃ xs, SqL K H1 a xs) ∧ R (Itl K a) H1) ∨ ((∃ xs, SqT K H1 a xs) ∧ R (Itt K a) H1))
theorem rK {l : Expr} {tl : TE} (hl : PE X l tl) : PI X tg l (Jq X.K tl) := by
 intro pins s σ H R I h
 refine thn (hl pins s σ H _ I h) fun v s1 ⟨x, H1, I1, r1, q1⟩ => ?_
 obtain ⟨a, e, q⟩ := q1
 subst e
 cases r1
 rcases q with ⟨⟨xs, hq⟩, q⟩ | ⟨⟨xs, hq⟩, q⟩
 ·obtain ⟨its, rv, p, hz⟩ := I1.list hq
  refine wpAny_pyIter_list p.isList ?_
  refine ⟨s1.heap.objs.size, [s1.heap.objs.size], _, _, H1, rfl, I1.kept (t' := s1.toks) fun b o e => Heap.get?_push_of_some _ e, gE a _, ⟨_, Heap.get?_push_size _ rfl, rfl, rfl⟩, fun b hb => ?_, q⟩
  have e : b = s1.heap.objs.size := by simpa using hb
  subst e
  exact I1.fpOk (Nat.le_refl _) (I1.hok.fresh (Nat.le_refl _))
 ·obtain ⟨its, rv, p, hz⟩ := I1.tuple hq
  refine wpAny_pyIter_tuple (show s1.heap.IsTuple a its.toArray from p) ?_
  refine ⟨s1.heap.objs.size, [s1.heap.objs.size], _, _, H1, rfl, I1.kept (t' := s1.toks) fun b o e => Heap.get?_push_of_some _ e, qC a _, ⟨_, Heap.get?_push_size _ rfl, rfl, rfl⟩, fun b hb => ?_, q⟩
  have e : b = s1.heap.objs.size := by simpa using hb
  subst e
  exact I1.fpOk (Nat.le_refl _) (I1.hok.fresh (Nat.le_refl _))
end
section
variable {K : PySem.W.Frag} {a : Addr} {xs : List V} {y : Str} {cap : List Nat} {tt : TT} {te : TE} {σ : St} {Z : List V → Hp → Prop} {H1 : Hp}
theorem sC (y : Str) (cap : List Nat) (σ : St) (x : V) : Wk (fw [y] cap σ) ((fw [y] cap σ).set 0 (some x)) := Wk.set (by show (none :: _ : St)[0]? = some none; rfl)
theorem nR (Pv : Nat → List V → Hp → Prop) (h0 : Pv 0 [] H1) (hS : ∀ i acc H, Pv i acc H → SqL K H a xs) (hz : ∀ i acc H, Pv i acc H → acc.length < sizeLine)
  (step : ∀ i x acc H (R : List V → Hp → Prop), (∀ acc' H', Pv (i + 1) acc' H' → R acc' H') → xs[i]? = some x → Pv i acc H → tt ((fw [y] cap σ).set 0 (some x)) H fun b H5 => if b = true then te ((fw [y] cap σ).set 0 (some x)) H5 fun v H6 => R (acc ++ [v]) H6 else R acc H5)
  (hd : ∀ acc H, Pv xs.length acc H → Z acc H) : uJ [y] cap (bp 0) tt te σ Z (Itl K a) H1 := by
 refine ⟨fun i m acc H => m = xs.length - i ∧ i ≤ xs.length ∧ Pv i acc H, ⟨_, rfl, Nat.zero_le _, h0⟩, ?_⟩
 rintro i m acc H ⟨rfl, hi, p⟩
 refine ⟨hz i acc H p, ?_⟩
 have q := hS i acc H p
 by_cases hlt : i < xs.length
 ·refine .inr ⟨⟨xs, xs[i], q, List.getElem?_eq_getElem hlt⟩, fun x H3 yl => ?_⟩
  obtain ⟨e, yx⟩ := yl
  subst e
  exact ⟨sC y cap σ x, step i x acc H3 (fun acc' H' => ∃ m', m' < xs.length - i ∧ m' = xs.length - (i + 1) ∧ i + 1 ≤ xs.length ∧ Pv (i + 1) acc' H') (fun acc' H' p' => ⟨_, by omega, rfl, hlt, p'⟩) (yx xs q) p⟩
 ·have e : i = xs.length := by omega
  subst e
  exact .inl ⟨⟨xs, q, Nat.le_refl _⟩, hd acc H p⟩
theorem pW (Pv : Nat → List V → Hp → Prop) (h0 : Pv 0 [] H1) (hS : ∀ i acc H, Pv i acc H → SqT K H a xs) (hz : ∀ i acc H, Pv i acc H → acc.length < sizeLine)
  (step : ∀ i x acc H (R : List V → Hp → Prop), (∀ acc' H', Pv (i + 1) acc' H' → R acc' H') → xs[i]? = some x → Pv i acc H → tt ((fw [y] cap σ).set 0 (some x)) H fun b H5 => if b = true then te ((fw [y] cap σ).set 0 (some x)) H5 fun v H6 => R (acc ++ [v]) H6 else R acc H5)
  (hd : ∀ acc H, Pv xs.length acc H → Z acc H) : uJ [y] cap (bp 0) tt te σ Z (Itt K a) H1 := by
 refine ⟨fun i m acc H => m = xs.length - i ∧ i ≤ xs.length ∧ Pv i acc H, ⟨_, rfl, Nat.zero_le _, h0⟩, ?_⟩
 rintro i m acc H ⟨rfl, hi, p⟩
 refine ⟨hz i acc H p, ?_⟩
 have q := hS i acc H p
 by_cases hlt : i < xs.length
 ·refine .inr ⟨⟨xs, xs[i], q, List.getElem?_eq_getElem hlt⟩, fun x H3 yl => ?_⟩
  obtain ⟨e, yx⟩ := yl
  subst e
  exact ⟨sC y cap σ x, step i x acc H3 (fun acc' H' => ∃ m', m' < xs.length - i ∧ m' = xs.length - (i + 1) ∧ i + 1 ≤ xs.length ∧ Pv (i + 1) acc' H') (fun acc' H' p' => ⟨_, by omega, rfl, hlt, p'⟩) (yx xs q) p⟩
 ·have e : i = xs.length := by omega
  subst e
  exact .inl ⟨⟨xs, q, Nat.le_refl _⟩, hd acc H p⟩
theorem lD {n : Nat} (Pv : Nat → List V → Hp → Prop) (h0 : Pv 0 [] H1) (hz : ∀ i acc H, Pv i acc H → acc.length < sizeLine)
  (step : ∀ i acc H (R : List V → Hp → Prop), (∀ acc' H', Pv (i + 1) acc' H' → R acc' H') → i < n → Pv i acc H → tt ((fw [y] cap σ).set 0 (some (.int (0 + (i : Int))))) H fun b H5 => if b = true then te ((fw [y] cap σ).set 0 (some (.int (0 + (i : Int))))) H5 fun v H6 => R (acc ++ [v]) H6 else R acc H5)
  (hd : ∀ acc H, Pv n acc H → Z acc H) : uJ [y] cap (bp 0) tt te σ Z (Itr 0 n) H1 := by
 refine ⟨fun i m acc H => m = n - i ∧ i ≤ n ∧ Pv i acc H, ⟨_, rfl, Nat.zero_le _, h0⟩, ?_⟩
 rintro i m acc H ⟨rfl, hi, p⟩
 refine ⟨hz i acc H p, ?_⟩
 by_cases hlt : i < n
 ·refine .inr ⟨hlt, fun x H3 yl => ?_⟩
  obtain ⟨e, yx⟩ := yl
  subst e
  subst yx
  exact ⟨sC y cap σ _, step i acc H3 (fun acc' H' => ∃ m', m' < n - i ∧ m' = n - (i + 1) ∧ i + 1 ≤ n ∧ Pv (i + 1) acc' H') (fun acc' H' p' => ⟨_, by omega, rfl, hlt, p'⟩) hlt p⟩
 ·have e : i = n := by omega
  subst e
  exact .inl ⟨Nat.le_refl _, hd acc H p⟩
end
section
variable {X : Cx}
noncomputable def JG (K : PySem.W.Frag) : R2 := fun x y H Q => ∃ p b xs ys, x = .ref p ∧ y = .ref b ∧ SqT K H p xs ∧ SqT K H b ys ∧ xs.all dR = true ∧ ys.all dR = true ∧ Q (.bl (rp xs ys)) H
theorem wF : ∀ (xs ys : List V), rp xs ys = ((List.range (min xs.length ys.length)).all (fun i => eqV (xs.getD i .non) (ys.getD i .non)) && xs.length == ys.length) := by
 intro xs ys
 by_cases e : xs.length = ys.length
 ·rw [rJ _ _ e, e, Nat.min_self]; simp
 ·rw [qK e, beq_eq_false_iff_ne.mpr e, Bool.and_false]
theorem DJ (hu : X.A.units < cLine) : OpR X (compareOp .Eq) (JG X.K) := by
 intro pins s σ H x y v u Q I rx ry h
 obtain ⟨p, b, xs, ys, rfl, rfl, hp, hb, fx, fy, q⟩ := h
 cases rx
 cases ry
 obtain ⟨its, r1, p1, _⟩ := I.tuple hp
 obtain ⟨jts, r2, p2, _⟩ := I.tuple hb
 have l1 := r1.length
 have l2 := r2.length
 refine SeqAt.eq_tupleAt (e := fun i => eqV (xs.getD i .non) (ys.getD i .non)) (show s.heap.IsTuple p its.toArray from p1) (show s.heap.IsTuple b jts.toArray from p2) hu (fun j h1 h2 => yM (uN r1 h1) (uN r2 h2) (qi fx (by simp only [List.size_toArray] at h1; omega)) (qi fy (by simp only [List.size_toArray] at h2; omega))) ?_
 rw [List.size_toArray, List.size_toArray, ← l1, ← l2, ← wF]
 exact ⟨.bl _, H, I, rfl, q⟩
end
section
variable {X : Cx} {K : PySem.W.Frag}
theorem gV (e : X.K = K) : IxR X (DX K) := by subst e; exact aW
theorem uI (e : X.K = K) : IxR X (Hh K) := by subst e; exact aY
theorem sV (e : X.K = K) : io X (.builtin "len") (fun xs H Q => ∃ p ys, xs = [.ref p] ∧ (SqL K H p ys ∨ SqT K H p ys) ∧ Q (.int ys.length) H) := by subst e; exact aN
end
noncomputable def kU : List String := ["NoneType", "bool", "int", "str", "list", "tuple", "dict"]
noncomputable def uu (S T : String) : Bool := S == T || (S == "bool" && T == "int")
noncomputable def vD (K : PySem.W.Frag) : Bool := kU.all fun S => kU.all fun T => PySem.W.kitOne K (.type S) (.type T) == some (uu S T)
theorem yF {K : PySem.W.Frag} (h : vD K = true) {S T : String} (hS : kU.contains S = true) (hT : kU.contains T = true) : PySem.W.kitOne K (.type S) (.type T) = some (uu S T) := by
 have h1 := List.all_eq_true.mp h S (by simpa using hS)
 have h2 := List.all_eq_true.mp h1 T (by simpa using hT)
 exact beq_iff_eq.mp h2
structure Is (K : PySem.W.Frag) (H : Hp) (v : V) (S : String) : Prop where
 ty : TyOf K H v (.type S)
 mem : kU.contains S = true
theorem Is.kit {K : PySem.W.Frag} {H : Hp} {v : V} {S : String} (x : Is K H v S) (h : vD K = true) (T : String) (hT : kU.contains T = true := by rfl) : PySem.W.kitOne K (.type S) (.type T) = some (uu S T) := yF h x.mem hT
section
variable {K : PySem.W.Frag} {H : Hp}
theorem Is.int (i : Int) : Is K H (.int i) "int" := ⟨.int i, rfl⟩
theorem Is.bl (b : Bool) : Is K H (.bl b) "bool" := ⟨.bl b, rfl⟩
theorem Is.non : Is K H .non "NoneType" := ⟨.non, rfl⟩
theorem Is.str (x : Str) : Is K H (.str x) "str" := ⟨.str x, rfl⟩
theorem Is.lst {a : Addr} {xs : List V} (e : H a = some (.lst xs)) : Is K H (.ref a) "list" := ⟨.lst e, rfl⟩
theorem Is.tup {a : Addr} {xs : List V} (e : H a = some (.tup xs)) : Is K H (.ref a) "tuple" := ⟨.tup e, rfl⟩
theorem Is.dK {a : Addr} {xs : List (Key × V)} (e : H a = some (.dK xs)) : Is K H (.ref a) "dict" := ⟨.dK e, rfl⟩
end
end L2
namespace HT
open PySem PyProof.Rows
end HT
namespace PySem
open Sem (wp)
end PySem
namespace L2
open PySem PySem.Spec PyProof.Rows
noncomputable def ltP (a b : Int × Int) : Prop := a.1 < b.1 ∨ (a.1 = b.1 ∧ a.2 < b.2)
instance (a b : Int × Int) : Decidable (ltP a b) := inferInstanceAs (Decidable (_ ∨ _))
end L2
namespace SM
noncomputable def yz (l : List Int) : Nat := l.idxOf (l.foldl max (l.headD 0))
noncomputable def Fu : Nat → List Int → List Int → List Int × List Int
 | 0, f, l => (f, l)
 | n + 1, f, l => Fu n (f.set (yz l) (f.getD (yz l) 0 + 1)) (l.set (yz l) (-1))
noncomputable def Ft (t : Int) (ws : List Int) : List Int := ws.map fun w => t * w / ws.sum
noncomputable def Je (t : Int) (ws : List Int) : List Int := ws.map fun w => t * w % ws.sum
noncomputable def Iz (t : Int) (ws : List Int) : Int := t - (Ft t ws).sum
noncomputable def JF (t : Int) (ws : List Int) : List Int := if ws.sum = 0 then ws.map fun _ => 0 else (Fu (Iz t ws).toNat (Ft t ws) (Je t ws)).1
end SM
namespace L2
open PySem
theorem Di {x : V} (h : dR x = true) : eqV x x = true := by
 cases x <;> first | rfl | (simp [eqV]; done) | (cases h)
theorem tW : ∀ {xs : List V}, xs.all dR = true → rp xs xs = true
 | [], _ => rfl
 | x :: xs, h => by
  rw [List.all_cons, Bool.and_eq_true] at h
  show (eqV x x && rp xs xs) = true
  rw [Di h.1, tW h.2]; rfl
open PySem PySem.Spec PyProof.Rows
theorem nC {X : Cx} (hu : X.A.units < cLine) : OpR X (compareOp .Eq) (fun x y H Q => ∃ p b xs, x = .ref p ∧ y = .ref b ∧ SqL X.K H p xs ∧ SqL X.K H b [] ∧ Q (.bl (decide (xs = []))) H) := by
 intro pins s σ H x y v u Q I rx ry h
 obtain ⟨p, b, xs, rfl, rfl, hp, hb, q⟩ := h
 cases rx
 cases ry
 obtain ⟨its, r1, p1, _⟩ := I.list hp
 obtain ⟨jts, r2, p2, _⟩ := I.list hb
 have l1 := r1.length
 have l2 := r2.length
 cases xs with
 | nil =>
  refine SeqAt.eq_listAt (e := fun _ => true) p1.isList p2.isList (by simp only [List.size_toArray]; omega) hu (fun j h1 h2 => absurd h1 (by simp only [List.size_toArray]; simp at l1; omega)) ?_
  rw [List.size_toArray]
  have e : its.length = 0 := by simpa using l1.symm
  rw [e]
  exact ⟨.bl true, H, I, rfl, q⟩
 | cons a r =>
  refine SeqAt.eq_list_lengthsAt p1.isList p2.isList ?_ hu ⟨.bl false, H, I, rfl, q⟩
  simp only [List.size_toArray, bne_iff_ne]
  simp at l1 l2
  omega
end L2
namespace PySem
open Sem (wp)
end PySem
namespace L2
open PySem PySem.Spec PyProof.Rows
section
variable {J : It} {own : List Str} {cap : List Nat} {g : TG} {tt : TT} {te : TE} {σ : St} {Z : List V → Hp → Prop} {H1 : Hp}
theorem EO (n : Nat) (Pv : Nat → List V → Hp → Prop) (h0 : Pv 0 [] H1) (hz : ∀ i acc H, Pv i acc H → acc.length < sizeLine) (hgo : ∀ i acc H, i < n → Pv i acc H → J.go i H) (hst : ∀ acc H, Pv n acc H → J.stop n H)
  (step : ∀ i x acc H H3 (R : List V → Hp → Prop), (∀ acc' H', Pv (i + 1) acc' H' → R acc' H') → i < n → Pv i acc H → J.yld i H x H3 → g x (fw own cap σ) H3 fun σ4 H4 => Wk (fw own cap σ) σ4 ∧ tt σ4 H4 fun b H5 =>
   if b = true then te σ4 H5 fun v H6 => R (acc ++ [v]) H6 else R acc H5)
  (hd : ∀ acc H, Pv n acc H → Z acc H) : uJ own cap g tt te σ Z J H1 := by
 refine ⟨fun i m acc H => m = n - i ∧ i ≤ n ∧ Pv i acc H, ⟨_, rfl, Nat.zero_le _, h0⟩, ?_⟩
 rintro i m acc H ⟨rfl, hi, p⟩
 refine ⟨hz i acc H p, ?_⟩
 by_cases hlt : i < n
 ·refine .inr ⟨hgo i acc H hlt p, fun x H3 yl => ?_⟩
  exact step i x acc H H3 (fun acc' H' => ∃ m', m' < n - i ∧ m' = n - (i + 1) ∧ i + 1 ≤ n ∧ Pv (i + 1) acc' H') (fun acc' H' p' => ⟨_, by omega, rfl, hlt, p'⟩) hlt p yl
 ·have e : i = n := by omega
  subst e
  exact .inl ⟨hst acc H p, hd acc H p⟩
end
noncomputable def g2 (K : PySem.W.Frag) : TG := DS K 2 (sD (bp 0) (sD (bp 1) Hg))
section
variable {K : PySem.W.Frag} {a b : Addr} {y1 y2 : Str} {cap : List Nat} {te : TE} {σ : St} {Z : List V → Hp → Prop} {H1 : Hp} {q : Bool}
theorem FU (y1 y2 : Str) (cap : List Nat) (σ : St) (x y : V) : Wk (fw [y1, y2] cap σ) (((fw [y1, y2] cap σ).set 0 (some x)).set 1 (some y)) := by
 refine ⟨by simp, fun i v e => ?_⟩
 cases i with
 | zero => cases e
 | succ i => cases i with
  | zero => cases e
  | succ i => exact e
end
noncomputable def g4 (K : PySem.W.Frag) : TG := DS K 4 (sD (bp 0) (sD (bp 1) (sD (bp 2) (sD (bp 3) Hg))))
end L2
namespace FM
open SM
structure Pt where
 b : Int
 l : Int
 m : Int
 w : Int
 deriving DecidableEq
noncomputable def wts (ps : List Pt) (rooms : List Int) : List Int := List.zipWith (fun p r => if 0 < r then p.w else 0) ps rooms
noncomputable def BW (lack : Int) (ps : List Pt) (rooms : List Int) : List Int := List.zipWith min (JF lack (wts ps rooms)) rooms
noncomputable def st (ps : List Pt) (lack : Int) : Nat → List Int × Int
 | 0 => (ps.map fun p => p.m - p.b, lack)
 | k + 1 => (List.zipWith (· - ·) (st ps lack k).1 (BW (st ps lack k).2 ps (st ps lack k).1), (st ps lack k).2 - (BW (st ps lack k).2 ps (st ps lack k).1).sum)
noncomputable def gv (ps : List Pt) (lack : Int) (k : Nat) : List Int := BW (st ps lack k).2 ps (st ps lack k).1
structure Ends (ps : List Pt) (lack : Int) (i : Nat) : Prop where
 on : ∀ k, k < i → 0 < (st ps lack k).2 ∧ (gv ps lack k).sum ≠ 0
 off : ¬ 0 < (st ps lack i).2 ∨ (gv ps lack i).sum = 0
noncomputable def above (ps : List Pt) : List Int := ps.map fun p => p.b - p.l
end FM
namespace L2
open PySem PySem.Spec PyProof.Rows
theorem Ed {J : It} {g : TG} {tb : TS} {D : Ends} {σ : St} {H : Hp} (n : Nat) (Pv : Nat → St → Hp → Prop) (h0 : Pv 0 σ H) (hgo : ∀ i σ H, i < n → Pv i σ H → J.go i H) (hst : ∀ σ H, Pv n σ H → J.stop n H)
  (hs : ∀ i x σ H H', i < n → Pv i σ H → J.yld i H x H' → g x σ H' fun σ2 H2 => tb { D with nx := Pv (i + 1), ct := Pv (i + 1), bk := D.nx } σ2 H2) (hd : ∀ σ H, Pv n σ H → D.nx σ H) :
  ∃ W : Nat → Nat → St → Hp → Prop, (∃ m, W 0 m σ H) ∧ ∀ i m σ H, W i m σ H →
   (J.stop i H ∧ D.nx σ H) ∨ (J.go i H ∧ ∃ N : St → Hp → Prop, (∀ σ' H', N σ' H' → ∃ m', m' < m ∧ W (i + 1) m' σ' H') ∧ ∀ x H', J.yld i H x H' → g x σ H' fun σ2 H2 => tb { D with nx := N, ct := N, bk := D.nx } σ2 H2) := by
 refine ⟨fun i m σ H => m = n - i ∧ i ≤ n ∧ Pv i σ H, ⟨n, by simp, Nat.zero_le _, h0⟩, ?_⟩
 rintro i m σ H ⟨rfl, hi, p⟩
 by_cases hlt : i < n
 ·exact .inr ⟨hgo i σ H hlt p, Pv (i + 1), fun σ' H' p' => ⟨n - (i + 1), by omega, rfl, hlt, p'⟩, fun x H' y => hs i x σ H H' hlt p y⟩
 ·have e : i = n := by omega
  subst e
  exact .inl ⟨hst σ H p, hd σ H p⟩
open PySem PySem.W PyProof.Rows
noncomputable def N2 (o : Obj) : Prop := ∃ vs, o.data = .fields vs ∧ vs[2]? = some .none
noncomputable def gA (h : Heap) (e : Addr) : Prop := ∃ o, h.get? e = some o ∧ N2 o
noncomputable def bS {α : Type} : Sem α → Prop
 | .pure _ => True
 | .raise _ => True
 | .unsupported _ => True
 | .finish _ => True
 | .rule _ k => ∀ x, bS (k x)
 | .at _ k => ∀ x, bS (k x)
 | .load _ _ k => ∀ x, bS (k x)
 | .update _ _ f k => (∀ o, N2 o → N2 (f o)) ∧ ∀ x, bS (k x)
 | .alloc _ k => ∀ x, bS (k x)
 | .loadIfAlive _ k => ∀ x, bS (k x)
 | .point _ k => ∀ x, bS (k x)
 | .register _ _ => True
 | .fresh k => ∀ x, bS (k x)
 | .ask k => ∀ x, bS (k x)
 | .choose _ _ k => ∀ x, bS (k x)
 | .os _ _ k => ∀ x, bS (k x)
 | .call .. => False
 | .handled _ k => ∀ x, bS (k x)
 | .newGen _ k => ∀ x, bS (k x)
 | .genState _ k => ∀ x, bS (k x)
 | .resume .. => False
 | .yield .. => True
 | .stack k => ∀ x, bS (k x)
 | .fork .. => True
 | .thread k => ∀ x, bS (k x)
 | .await .. => True
theorem gA.push {h : Heap} {e : Addr} (n : gA h e) (o : Obj) : gA (h.push o) e := let ⟨x, e1, e2⟩ := n; ⟨x, Heap.get?_push_of_some _ e1, e2⟩
theorem gA.update {h : Heap} {e a : Addr} {f : Obj → Obj} (n : gA h e) (k : ∀ o, N2 o → N2 (f o)) : gA (h.update a f) e := by
 obtain ⟨o, e1, e2⟩ := n
 by_cases q : a = e
 ·subst q
  obtain ⟨vs, hd, h2⟩ := k o e2
  exact ⟨f o, Heap.get?_update_self f e1 (Obj.isFreed_of_fields hd), vs, hd, h2⟩
 ·exact ⟨o, (Heap.get?_update_other _ _ q).trans e1, e2⟩
open Sem in
theorem CN {α : Type} {M : Model} {Γ : PySem.Ctx} {e : Addr} {Q : α → Pos → Shared → Prop} {E : Value → Pos → Shared → Prop} : ∀ (t : Sem α) {p : Pos} {s : Shared}, bS t → gA s.heap e →
  wp M Γ t (fun a p s' => gA s'.heap e → Q a p s') (fun x p s' => gA s'.heap e → E x p s') p s → wp M Γ t Q E p s := by
 intro t
 induction t with
 | pure a => intro p s c n h; unfold wp at h ⊢; exact h n
 | raise a => intro p s c n h; unfold wp at h ⊢; exact h n
 | unsupported a => intro p s c n h; unfold wp at h ⊢; exact h
 | finish a => intro p s c n h; unfold wp at h ⊢; exact h
 | rule a k ih => intro p s c n h; unfold wp at h ⊢; exact ih _ (c _) n h
 | «at» a k ih => intro p s c n h; unfold wp at h ⊢; exact ih _ (c _) n h
 | load a b k ih => intro p s c n h; unfold wp at h ⊢; obtain ⟨o, h1, h2⟩ := h; exact ⟨o, h1, ih _ (c _) n h2⟩
 | update a b f k ih => intro p s c n h; unfold wp at h ⊢; exact ⟨h.1, ih _ (c.2 _) (n.update c.1) h.2⟩
 | alloc o k ih => intro p s c n h; unfold wp at h ⊢; exact ih _ (c _) (n.push _) h
 | loadIfAlive a k ih => intro p s c n h; unfold wp at h ⊢; exact ih _ (c _) n h
 | point a k ih => intro p s c n h; unfold wp at h ⊢; exact ih _ (c _) n h
 | register a k ih => intro p s c n h; unfold wp at h ⊢; exact h
 | fresh k ih => intro p s c n h; unfold wp at h ⊢; exact ih _ (c _) n h
 | ask k ih => intro p s c n h; unfold wp at h ⊢; exact ih _ (c _) n h
 | choose a b k ih => intro p s c n h; unfold wp at h ⊢; exact ⟨h.1, ih _ (c _) n h.2⟩
 | os a b k ih => intro p s c n h; unfold wp at h ⊢; exact ih _ (c _) n h
 | call a b d l k ih => intro p s c n h; exact c.elim
 | handled a k ih => intro p s c n h; unfold wp at h ⊢; exact ih _ (c _) n h
 | newGen a k ih => intro p s c n h; unfold wp at h ⊢; exact ih _ (c _) n h
 | genState a k ih => intro p s c n h; unfold wp at h ⊢; obtain ⟨o, h1, h2⟩ := h; exact ⟨o, h1, ih _ (c _) n h2⟩
 | resume a b d k ih => intro p s c n h; exact c.elim
 | yield a b d k ih => intro p s c n h; unfold wp at h ⊢; exact h
 | stack k ih => intro p s c n h; unfold wp at h ⊢; exact ih _ (c _) n h
 | fork a k ih => intro p s c n h; unfold wp at h ⊢; exact h
 | thread k ih => intro p s c n h; unfold wp at h ⊢; exact ih _ (c _) n h
 | await a b d l k ih => intro p s c n h; unfold wp at h ⊢; exact h
theorem iF {α : Type} {M : Model} {A : Around} {e : Addr} {t : Sem α} {Q : α → Shared → Prop} {E : Value → Shared → Prop} {s : Shared} (c : bS t) (n : gA s.heap e)
  (h : wpAny M A t (fun a s' => gA s'.heap e → Q a s') (fun x s' => gA s'.heap e → E x s') s) : wpAny M A t Q E s := fun Γ p g => CN t c n (h Γ p g)
theorem zC {α β : Type} {f : α → Sem β} (hf : ∀ a, bS (f a)) : ∀ (t : Sem α), bS t → bS (t.bind f) := by
 intro t
 induction t with
 | pure a => intro c; exact hf a
 | raise a => intro c; exact c
 | unsupported a => intro c; exact c
 | finish a => intro c; exact c
 | rule a k ih => intro c x; exact ih x (c x)
 | «at» a k ih => intro c x; exact ih x (c x)
 | load a b k ih => intro c x; exact ih x (c x)
 | update a b f k ih => intro c; exact ⟨c.1, fun x => ih x (c.2 x)⟩
 | alloc o k ih => intro c x; exact ih x (c x)
 | loadIfAlive a k ih => intro c x; exact ih x (c x)
 | point a k ih => intro c x; exact ih x (c x)
 | register a k ih => intro c; exact c
 | fresh k ih => intro c x; exact ih x (c x)
 | ask k ih => intro c x; exact ih x (c x)
 | choose a b k ih => intro c x; exact ih x (c x)
 | os a b k ih => intro c x; exact ih x (c x)
 | call a b d l k ih => intro c; exact c.elim
 | handled a k ih => intro c x; exact ih x (c x)
 | newGen a k ih => intro c x; exact ih x (c x)
 | genState a k ih => intro c x; exact ih x (c x)
 | resume a b d k ih => intro c; exact c.elim
 | yield a b d k ih => intro c; exact c
 | stack k ih => intro c x; exact ih x (c x)
 | fork a k ih => intro c; exact c
 | thread k ih => intro c x; exact ih x (c x)
 | await a b d l k ih => intro c; exact c
theorem bV {α β : Type} {t : Sem α} {f : α → Sem β} (c : bS t) (hf : ∀ a, bS (f a)) : bS (t >>= f) := zC hf t c
theorem cr {α : Type} {a : α} : bS (pure a : Sem α) := trivial
theorem vd {a : Addr} : bS (load a) := fun _ => trivial
theorem qH : bS stack := fun _ => trivial
theorem iz {α : Type} {w : String} : bS (unsupported w : Sem α) := trivial
theorem Cy {o : Obj} : bS (alloc o) := fun _ => trivial
theorem Cp {a : Addr} {f : Obj → Obj} (h : ∀ o, N2 o → N2 (f o)) : bS (update a f) := ⟨h, fun _ => trivial⟩
theorem zA {i : Nat} {v : Value} (hi : i ≠ 2) : ∀ o, N2 o → N2 (Obj.mapFields (·.setIfInBounds i v) o) := fun o ⟨vs, hd, h2⟩ =>
 ⟨_, Obj.data_mapFields hd _, by rw [Array.getElem?_setIfInBounds_ne hi]; exact h2⟩
theorem mR {v : Value} {i : Nat} : bS (field v i) := by
 unfold field fieldsOf
 refine bV ?_ fun x => ?_
 ·split
  ·refine bV vd fun o => ?_
   split
   ·exact cr
   ·exact iz
  ·exact iz
 ·split
  ·exact cr
  ·exact iz
theorem kC {v x : Value} {i : Nat} (hi : i ≠ 2) : bS (setField v i x) := by
 unfold setField updateField
 split
 ·refine bV vd fun o => ?_
  split
  ·split
   ·exact Cp (zA hi)
   ·exact iz
  ·exact iz
 ·exact iz
theorem jI {v : Value} {f : Option Addr} : bS (setFlight v f) := by
 unfold setFlight
 refine bV mR fun t => ?_
 split
 ·exact kC (by decide)
 ·exact cr
theorem DV {env : Env} {b : Bool} {l : List Env} : bS (keptBack env b l) := by
 unfold keptBack
 split
 ·split
  ·exact cr
  ·unfold underTheClaimsCaller
   exact bV (bV qH fun _ => cr) fun _ => cr
 ·exact cr
theorem FW {env : Env} {l : List Env} : bS (behindIsImport env l) := by
 unfold behindIsImport
 split
 ·exact cr
 ·split
  ·exact cr
  ·exact bV mR fun _ => cr
theorem xC : ∀ (l : List Env), bS (readyFrames l)
 | [] => cr
 | env :: outer => by
  unfold readyFrames
  split
  ·refine bV vd fun o => ?_
   split
   ·exact cr
   ·refine bV FW fun i => bV DV fun b => bV (Cp ?_) fun _ => xC outer
    exact fun o ⟨vs, hd, h2⟩ => ⟨vs, hd, h2⟩
  ·exact iz
theorem yy {env : Env} : bS (PySem.frameOf env) := by
 unfold PySem.frameOf frameEnvs
 refine bV (bV qH fun _ => cr) fun l => bV ?_ fun r => ?_
 ·unfold frameObject
  split
  ·exact cr
  ·exact bV (xC _) fun _ => cr
 ·split
  ·exact cr
  ·exact iz
theorem Do {f : Addr} {b : Bool} : bS (entryPlaceOf f b) := by
 unfold entryPlaceOf
 refine bV qH fun l => ?_
 split
 ·exact cr
 ·exact cr
theorem Ew {ty : String} {vs : List Value} : bS (newFields ty vs) := by
 unfold newFields newObj
 dsimp only
 split
 ·exact iz
 ·exact bV Cy fun _ => cr
theorem As {env : Env} {e : Value} : bS (noteFrame e env) := by
 unfold noteFrame
 split
 ·rename_i f _
  refine bV mR fun h => ?_
  have fin : ∀ b : Bool, bS (do let a ← PySem.frameOf env; let pl ← entryPlaceOf f b; let b ← EntryCells.newEntry h a .none (rawInt f) .none pl; setField e 1 b) := fun b =>
   bV yy fun a => bV Do fun pl => bV Ew fun b => kC (by decide)
  split
  ·refine bV mR fun x => ?_
   split
   ·exact cr
   ·exact bV (kC (by decide)) fun _ => fin _
  ·exact fin _
 ·exact iz
theorem rs {env : Env} {e : Value} : bS (leaving env e) := by
 unfold leaving
 exact bV As fun _ => jI
noncomputable def CXW (P : Program) (w : World) : CXT := fun outer H s E e s' => ∃ (a C : Addr) (a0 : Value) (H' : Hp) (B : Heap), e = .ref a ∧ s'.os = s.os ∧ AllBare s'.gens ∧ Un (frs outer) [] H H' s.heap s'.heap ∧ HOk P w H' s'.heap ∧
 Heap.FlyingW B outer a (.ref C) a0 s'.heap ∧ (∀ b o, s.heap.get? b = some o → H b = none → b ∉ frs outer → B.get? b = some o) ∧ (∀ b u o, H' b = some u → s'.heap.get? b = some o → B.get? b = some o) ∧
 (∀ b o, s.heap.get? b = some o → b ∉ frs outer → ∃ o', B.get? b = some o') ∧ gA s'.heap a ∧ E (.ref C) none H'
theorem cw.is {P : Program} {w : World} {H : Hp} {h : Heap} {a : Addr} {o : HO} (x : cw P w H h a o) : ∃ u, h.get? a = some u := by
 cases o with
 | lst xs => obtain ⟨_, _, _, _, e⟩ := x; exact ⟨_, e⟩
 | tup xs => obtain ⟨_, _, _, _, e, _⟩ := x; exact ⟨_, e⟩
 | dK kvs => obtain ⟨_, _, _, _, o, _, _, e, _⟩ := x; exact ⟨_, e⟩
 | dT kvs => obtain ⟨_, _, _, _, o, _, _, e, _⟩ := x; exact ⟨_, e⟩
 | set S n => obtain ⟨o, _, _, _, e, _⟩ := x; exact ⟨_, e⟩
 | ins C dx fs => obtain ⟨_, _, _, e, _⟩ := x; exact ⟨_, e⟩
 | own y => obtain ⟨_, e⟩ := x; exact ⟨_, e⟩
 | xd fs => obtain ⟨_, ⟨_, _, _, e, _⟩, _⟩ := x; exact ⟨_, e⟩
 | rng lo hi => obtain ⟨_, _, _, e⟩ := x; exact ⟨_, e⟩
 | frz ob u => obtain ⟨e, _⟩ := x; exact ⟨_, e⟩
 | tbl ps => exact ⟨_, (show h.get? a = some _ from x)⟩
 | met f y => exact ⟨_, (show h.get? a = some _ from x)⟩
 | ext φ => obtain ⟨_, e, _⟩ := x; exact e
theorem yP {P : Program} {w : World} {outer : List Env} {H H' : Hp} {s s' : Shared} {g B : Heap} {E : XK} {a C : Addr} {a0 : Value} (un : Un (frs outer) [] H H' s.heap g) (hok : HOk P w H' g) (up : g.UpToSlots s'.heap)
  (fl : Heap.FlyingW B outer a (.ref C) a0 s'.heap) (fr : ∀ b ∈ frs outer, ∃ o, g.get? b = some o ∧ ∀ vs, o.data ≠ .fields vs)
  (c1 : ∀ b o, s.heap.get? b = some o → H b = none → b ∉ frs outer → B.get? b = some o) (c2 : ∀ b u o, H' b = some u → g.get? b = some o → B.get? b = some o)
  (c3 : ∀ b o, s.heap.get? b = some o → b ∉ frs outer → ∃ o', B.get? b = some o') (os : s'.os = s.os) (bare : AllBare s'.gens) (nc : gA s'.heap a) (e : E (.ref C) none H') : CXW P w outer H s E (.ref a) s' := by
 refine ⟨a, C, a0, H', B, rfl, os, bare, ⟨fun b o q n hb _ => fl.1 b o (c1 b o q n hb), fun b o q n hb hx => ?_, un.free, fun b o q hx => ?_, un.tups, un.frzs, un.tbls⟩,
  fun b u q => (hok b u q).stay (fun c v hc r => fl.1 c v ?_) (fun _ z => z) fun _ _ z => z, fl, c1, fun b u o q r => ?_, c3, nc, e⟩
 ·obtain ⟨sl, h1⟩ := un.slot b o q n hb hx
  obtain ⟨o1, h2, h3⟩ := fr b hb
  rw [h1] at h2
  cases h2
  obtain ⟨sl2, h4⟩ := up b _ h1 h3
  exact ⟨sl2, h4⟩
 ·by_cases hb : b ∈ frs outer
  ·obtain ⟨o1, h2, h3⟩ := fr b hb
   obtain ⟨sl2, h4⟩ := up b _ h2 h3
   exact ⟨_, h4⟩
  ·obtain ⟨o', h1⟩ := c3 b o q hb
   exact ⟨o', fl.1 b o' h1⟩
 ·rcases hc with rfl | hc
  ·exact c2 _ _ _ q r
  ·exact c2 _ _ _ hc r
 ·obtain ⟨o1, h1⟩ := (hok b u q).is
  have h2 := c2 b u o1 q h1
  have h3 := fl.1 b o1 h2
  rw [r] at h3
  cases h3
  exact h2
section
variable {P : Program} {w : World} {K : PySem.W.Frag} {mg : Str → Option Value} {base : Heap} {N : List Str} {qual : Str} {scope : Scope} {f : Addr} {cd : Value} {A : Around} {outer : List Env} {s : Shared} {H : Hp} {E : XK}
theorem nq {b : Addr} {n : Addr} : b ∈ frs (envOfC qual scope n f cd :: outer) ↔ b = n ∨ b ∈ frs outer := by
 unfold frs
 rw [List.filterMap_cons]
 show b ∈ n :: _ ↔ _
 exact List.mem_cons
theorem kn {E' : XK} (hE : ∀ c x H', E' c x H' → E c x H') : sI (CXW P w) (fH (CXW P w) P w K mg base N qual scope f cd A outer s H E) E' := by
 rintro pins σ H1 s1 e s' I ⟨a, C, a0, H', B, rfl, os, bare, un, hok, fl, c1, c2, c3, nc, ee⟩
 have J : Inv (fH (CXW P w) P w K mg base N qual scope f cd A outer s H E) pins σ H' s' := I.call' os un hok bare fun b z => absurd z (by simp)
 have lt : ∀ b o, s.heap.get? b = some o → b ∉ frs outer → b ∉ frs (envOfC qual scope s.heap.objs.size f cd :: outer) := fun b o q hb z => by
  rcases nq.mp z with z | z
  ·rw [z] at q; exact absurd (Heap.lt_size q) (Nat.lt_irrefl _)
  ·exact hb z
 show wpAny (model P w) (A.deeper (envOfC qual scope s.heap.objs.size f cd)) (leaving (envOfC qual scope s.heap.objs.size f cd) (.ref a)) _ _ s'
 refine iF rs nc (wpAny_leaves_onW I.ok.frames rfl fl fun h' fl' up nc' => ?_)
 refine yP (s' := { s' with heap := h' }) (g := s'.heap) J.base hok up fl' (fun b hb => (fl.2.2.1.mem (nq.mpr (.inr hb))).2) (fun b o q n hb => ?_) c2 (fun b o q hb => ?_) J.os bare nc' (hE _ _ _ ee)
 ·exact c1 b o (I.base.keep b o q n hb (by simp [fH])) (I.base.free b o q n (by simp [fH])) (lt b o q hb)
 ·obtain ⟨o1, h1⟩ := I.base.there b o q (by simp [fH])
  exact c3 b o1 h1 (lt b o q hb)
theorem Hi {pins : List (Addr × Obj)} {σ : St} {H1 : Hp} {s1 : Shared} {a C : Addr} {args : List Value} {h1 : Heap} (I : Inv (fH (CXW P w) P w K mg base N qual scope f cd A outer s H E) pins σ H1 s1)
  (mk : Heap.MadeExcOf s1.heap h1 a (.ref C) args) (e : E (.ref C) none H1) : (fH (CXW P w) P w K mg base N qual scope f cd A outer s H E).xe (.ref a) { s1 with heap := h1 } := by
 have hin : ∀ env ∈ (envOfC qual scope s.heap.objs.size f cd :: outer), ∀ b, env.frame = some b → b ∈ frs (envOfC qual scope s.heap.objs.size f cd :: outer) := fun env he b hb => List.mem_filterMap.mpr ⟨env, he, hb⟩
 have lt : ∀ b o, s.heap.get? b = some o → b ∉ frs outer → b ∉ frs (envOfC qual scope s.heap.objs.size f cd :: outer) := fun b o q hb z => by
  rcases nq.mp z with z | z
  ·rw [z] at q; exact absurd (Heap.lt_size q) (Nat.lt_irrefl _)
  ·exact hb z
 have hst : s1.heap.FunFrames base (envOfC qual scope s.heap.objs.size f cd :: outer) := I.stack
 show wpAny (model P w) (A.deeper (envOfC qual scope s.heap.objs.size f cd)) (leaving (envOfC qual scope s.heap.objs.size f cd) (.ref a)) _ _ { s1 with heap := h1 }
 have nc : gA h1 a := let ⟨t, h, _⟩ := mk.there; ⟨_, h, _, rfl, rfl⟩
 refine iF (s := { s1 with heap := h1 }) rs nc (wpAny_leaves_madeW (base := hideAll s1.heap (frs (envOfC qual scope s.heap.objs.size f cd :: outer))) I.ok.frames rfl (fun b o q => of_hideAll _ q) (funFrames_hide hst hin) mk fun h' t fl _ _ up nc' => ?_)
 refine yP (s' := { s1 with heap := h' }) (g := s1.heap) I.base I.hok ((Heap.UpToSlots.of_keeps mk.keeps).trans up) fl (fun b hb => (hst.mem (nq.mpr (.inr hb))).2) (fun b o q n hb => ?_) (fun b u o q r => ?_) (fun b o q hb => ?_) I.os I.bare nc' e
 ·exact hideAll_get _ (I.base.keep b o q n hb (by simp [fH])) (lt b o q hb)
 ·refine hideAll_get _ r fun z => ?_
  have := I.stkFree b z
  rw [q] at this; cases this
 ·obtain ⟨o1, h2⟩ := I.base.there b o q (by simp [fH])
  exact ⟨o1, hideAll_get _ h2 (lt b o q hb)⟩
end
theorem zj {K : Frag} {h : Heap} {mg : Str → Option Value} {x : Str} {C : Addr} {bmB : List Value} {newId : String} (X : K.In h) (e : mg x = some (.ref C)) (q : excIn K C bmB newId = true) : OwnCls x C bmB newId mg h := by
 refine ⟨e, ?_⟩
 rw [excIn] at q
 cases hl : K.lookup C with
 | none => rw [hl] at q; cases q
 | some ob =>
  rw [hl] at q
  obtain ⟨oc, odd, odt, ⟨l⟩⟩ := ob
  split at q
  ·rename_i eq0
   cases eq0
   rename_i cd
   split at q
   ·rename_i z1 z2 z3 z4 z5 z6 z7 z8 hm hs
    simp only [Bool.and_eq_true, beq_iff_eq, Bool.not_eq_true'] at q
    have hs' : l = [z3, z4, z5, z6, some (.builtin z7), z8] := hs
    obtain ⟨⟨⟨⟨⟨rfl, rfl⟩, hdel⟩, ht⟩, hok⟩, hni⟩ := q
    cases cd
    dsimp only at hm hdel hok hni
    subst hm hdel hs'
    exact ⟨_, _, _, _, _, _, _, _, _, _, _, _, _, _, _, _, _, X _ _ hl, .of_isNs (isNs_of_in X hok), nsMap_none_of_in X hok hni, tail_of_in X ht⟩
   ·cases q
  ·cases q
noncomputable def yh (X : Cx) (E : XK) : Prop := ∀ (pins : List (Addr × Obj)) (σ : St) (H1 : Hp) (s1 : Shared) (a C : Addr) (args : List Value) (h1 : Heap), Inv X pins σ H1 s1 → Heap.MadeExcOf s1.heap h1 a (.ref C) args → E (.ref C) none H1 → X.xe (.ref a) { s1 with heap := h1 }
theorem vg {P : Program} {w : World} {K : PySem.W.Frag} {mg : Str → Option Value} {base : Heap} {N : List Str} {qual : Str} {scope : Scope} {f : Addr} {cd : Value} {A : Around} {outer : List Env} {s : Shared} {H : Hp} {E : XK} :
  yh (fH (CXW P w) P w K mg base N qual scope f cd A outer s H E) E := fun _ _ _ _ _ _ _ _ I mk e => Hi I mk e
noncomputable def vZ (E : XK) (C : Addr) (ta : TA) : TS := fun _ σ H => ta σ H fun _ H1 => E (.ref C) none H1
theorem so {X : Cx} {E : XK} {x : Str} {C : Addr} {bmB : List Value} {newId : String} {e : Expr} {es : List Expr} {ta : TA} {np cpos pos : Pos} {B Bn nid initId inN : String} {bmN : List Value}
  (hE : yh X E) (hc : X.calm = true) (hg : Gl X x) (hm : X.mg x = some (.ref C)) (hq : excIn X.K C bmB newId = true) (Fn : ExcBaseFacts Bn newId inN bmN) (FB : ExcBaseFacts B nid initId bmB) (hBn : bmB.contains (.type Bn) = true)
  (hn : (e :: es).length ≤ 1000) (ha : PA X (e :: es) ta) (hlen : ∀ σ H Q, ta σ H Q → ta σ H fun vs H1 => vs.length ≤ sizeLine ∧ Q vs H1) (hd : (x == ("__debug__" : Str)) = false := by decide)
  (he : starEach (e :: es) X.env = (false, eval e X.env) :: starEach es X.env := by rfl) (hplain : (backTo cpos (starEach es X.env)).any (·.1) = false := by rfl) :
  PS X (.Raise (some (.Call (.Name x np) (e :: es) [] cpos)) none pos) (vZ E C ta) := by
 intro pins s σ H D I h
 have O : ∀ h, X.K.In h → OwnCls x C bmB newId X.mg h := fun h k => zj k hm hq
 obtain ⟨tl, N, nm, q, bs, hdct, sn, sub, ab, col, dd, k0, k1, k2, k3, k5, mN, hC, hN, hni, T⟩ := (O _ I.ok.mod.kin).obj
 refine wpAny_Raise_call_subU (C := C) (nm := nm) (q := q) (N := N) (bs := bs) (bm := tl) (hdct := hdct) (sn := sn) (sub := sub) (ab := ab) (col := col) (dd := dd) (k0 := k0) (k1 := k1) (k2 := k2) (k3 := k3) (k5 := k5)
  Fn hBn FB (mN := mN) (T.hasType FB.hasBase) (I.ok.hd hc) (by rw [he]; show (false || (backTo cpos (starEach es X.env)).any (·.1)) = false; rw [hplain]; rfl) hni (jJ I hg hm ⟨rfl, ?_⟩ hd)
 have h2 := ha cpos pins s σ H _ I (hlen _ _ _ h)
 rw [he] at h2 ⊢
 refine Calls.evalArgs_plain (wpAny_mono h2 (fun vs s₂ h₃ => ?_) fun _ _ y => y)
 obtain ⟨zs, H1, I1, r, hl, ee⟩ := h₃
 exact ⟨rfl, by rw [← r.length]; exact hl, I1.bk _ _ hC, hN.keeps I1.bk, T.keeps I1.bk, fun h' a mk => hE pins σ H1 s₂ a C vs h' I1 mk ee⟩
theorem Fun.okW {P : Program} {w : World} {K : PySem.W.Frag} {mg : Str → Option Value} {base : Heap} {x qual : Str} {st : Stmt} {f : Addr} {fd : FuncData} {N ps : List Str} {k : Nat} {sp : Sp} (F : Fun K x qual st f fd) (S : FnScope N ps (ap st)) (len : ∀ vs H Q E, sp vs H Q E → vs.length = ps.length)
  (hbody : ∀ (cdv : Value) (A : Around) (outer : List Env) (s : Shared) (H : Hp) (vs : List V) (Q : VK) (E : XK), Room k (A.deeper (envOfC qual (ap st) s.heap.objs.size f cdv)) → sp vs H Q E →
   ∃ t, PSs (fH (CXW P w) P w K mg base N qual (ap st) f cdv A outer s H E) (bC st) t ∧ t { nx := fun _ H' => Q .non H', rt := Q } (jb N vs) H) : FnOk P w K mg base (CXW P w) (k + 1) f fd ps sp := by
 obtain ⟨oc, od, kV, doc, pm, an, cdv, ct, osl, rfl, lk, hcd⟩ := F.ex
 exact BU lk hcd S len fun A outer s H vs Q E hr hsp => hbody cdv A outer s H vs Q E hr hsp
section
variable {X : Cx} {pins : List (Addr × Obj)} {σ : St} {H H' H1 : Hp} {s s' s1 : Shared}
theorem EX {CX : CXT} {k : Nat} {f : Addr} {fd : FuncData} {ps : List Str} {sp : Sp} {dvs : List V} {ds : List Value} {E : XK} {Q : VK} {us : List Value} {vs : List V} {xe : Value → Shared → Prop} (F : FnOk X.prog X.w X.K X.mg X.base CX k f fd ps sp) (hr : Room k X.A) (hb : gJ X.K fd ps ds) (hd : bE dvs ds)
  (I : Inv X pins σ H s) (r : bE vs us) (h : sp (vs ++ dvs) H Q E) (hx : ∀ e s', CX X.stack H s E e s' → xe e s') : wpAny (model X.prog X.w) X.A (call (.ref f) us) (EP X pins σ Q) xe s := by
 have r2 := r.append hd
 refine wpAny_call (codeAny_mono (F.run X.A X.stack s H ⟨us, []⟩ _ _ Q E hr I.env0 (hb s us I.kIn (r2.length ▸ F.len _ _ _ _ h)) r2 h) fun res s' hq => ?_)
 match res, hq with
 | .error e, hq => exact hx e s' hq
 | .ok (.ret u), hq => exact I.after hq
 | .ok .next, hq => exact hq.elim
 | .ok .brk, hq => exact hq.elim
 | .ok .cont, hq => exact hq.elim
noncomputable abbrev oW (a C : Addr) : HO := .ext fun h => ∃ oe ws, h.get? a = some oe ∧ oe.cls = .ref C ∧ oe.data = .fields ws ∧ ws[2]? = some .none
theorem Inv.adopt {a C : Addr} {oe : Obj} {ws : Array Value} (I1 : Inv X pins σ H1 s1) (n1 : s1.heap.get? a = none) (hex : a ∉ X.ex) (I : Inv X pins σ H s) (n : H a = none) (e : s.heap.get? a = some oe) (hc : oe.cls = .ref C) (hd : oe.data = .fields ws) (h2 : ws[2]? = some .none) :
  Inv X pins σ (upd H a (oW a C)) s := by
 have n0 : ∀ o, X.s₀.heap.get? a ≠ some o := fun o q => by
  obtain ⟨o', h⟩ := I1.base.there a o q hex
  rw [n1] at h; cases h
 have ne : ∀ {b : Addr} {u : HO}, H b = some u → b ≠ a := fun q z => by rw [z, n] at q; cases q
 refine ⟨I.ok, I.os, I.bare, ⟨I.base.keep, I.base.slot, fun b o q m hx => ?_, I.base.there, fun b xs q => ?_, fun b o u q => ?_, fun b ps q => ?_⟩, I.loc, I.cell, ?_, fun x c q => ?_, fun p hp => ?_, fun b u q => ?_, I.len⟩
 ·have hba : b ≠ a := fun z => by subst z; exact n0 o q
  rw [aD hba]; exact I.base.free b o q m hx
 ·have h := I.base.tups b xs q; rw [aD (ne h)]; exact h
 ·have h := I.base.frzs b o u q; rw [aD (ne h)]; exact h
 ·obtain ⟨more, h⟩ := I.base.tbls b ps q; exact ⟨more, by rw [aD (ne h)]; exact h⟩
 ·rw [aD (fun z => ?_)]
  ·exact I.free
  ·obtain ⟨m, ⟨o, es, ep, ho, hdd, _⟩, _⟩ := I.loc
   rw [z, e] at ho; cases ho; rw [hd] at hdd; cases hdd
 ·rw [aD (fun z => ?_)]
  ·exact I.freeC x c q
  ·obtain ⟨v, o, ho, hdd⟩ := I.cell x c q
   rw [z, e] at ho; cases ho; rw [hd] at hdd; cases hdd
 ·obtain ⟨p1, p2, p3, p4, p5⟩ := I.pin p hp
  refine ⟨p1, ?_, p3, p4, p5⟩
  rw [aD (fun z => ?_)]
  ·exact p2
  ·have := (I1.pin p hp).1; rw [z, n1] at this; cases this
 ·by_cases hb : b = a
  ·subst hb
   rw [ai] at q; cases q
   refine ⟨⟨oe, ws, e, hc, hd, h2⟩, ⟨oe, e⟩, fun h1 h2 ⟨o1, w1, a1, a2, a3⟩ k => ⟨o1, w1, k _ a1, a2, a3⟩⟩
  ·rw [aD hb] at q
   exact (I.hok b u q).stay (fun c v _ r => r) (fun c r => by rw [aD (ne r)]; exact r) fun c xs r => by rw [aD (ne r)]; exact r
theorem CXW.new {P : Program} {w : World} {outer : List Env} {E : XK} {a C : Addr} {a0 : Value} {B : Heap} (hok : HOk P w H' s'.heap) (fl : Heap.FlyingW B outer a (.ref C) a0 s'.heap)
  (c2 : ∀ b u o, H' b = some u → s'.heap.get? b = some o → B.get? b = some o) (c3 : ∀ b o, s.heap.get? b = some o → b ∉ frs outer → ∃ o', B.get? b = some o') (nc : gA s'.heap a) : H' a = none ∧ s.heap.get? a = none ∧ ∃ oe ws, s'.heap.get? a = some oe ∧ oe.cls = .ref C ∧ oe.data = .fields ws ∧ ws[2]? = some .none := by
 obtain ⟨oe, ws, he, hc, hd, _⟩ := fl.first
 obtain ⟨oe', he', ws', hd', h2⟩ := nc
 rw [he] at he'
 cases he'
 rw [hd] at hd'
 cases hd'
 refine ⟨?_, ?_, oe, ws, he, hc, hd, h2⟩
 ·cases q : H' a with
  | none => rfl
  | some u =>
   have := c2 a u oe q he
   rw [fl.2.1] at this; cases this
 ·cases q : s.heap.get? a with
  | none => rfl
  | some o =>
   have nf : a ∉ frs outer := fun z => by
    obtain ⟨_, o1, h1, h2⟩ := fl.2.2.1.mem z
    rw [he] at h1; cases h1; exact h2 _ hd
   obtain ⟨o', h⟩ := c3 a o q nf
   rw [fl.2.1] at h; cases h
end
section
variable {M : Model} {A : Around} {E : Value → Shared → Prop}
variable {nm q : Str} {C N : Addr} {bs bm : List Value} {hdct : Bool} {sn : List Str} {sub : List Value} {ab : Bool} {col : Option Bool} {dd : Option Addr} {k0 k1 k2 k3 k5 : Option Value} {newId : String}
variable {nm' q' : Str} {C0 N' : Addr} {bs' bm0 : List Value} {hdct' : Bool} {sn' : List Str} {sub' : List Value} {ab' : Bool} {col' : Option Bool} {dd' : Option Addr} {j0 j1 j2 j3 j5 : Option Value} {newId' : String}
theorem ow {h : Heap} {g : Array GenState} {d : Drawn} {t : Nat} {os : OsState} {e : Addr} {oe : Obj} {Q : Bool → Shared → Prop}
  (hC : h.get? C = some (excClassObj nm q C N bs bm hdct sn sub ab col dd k0 k1 k2 k3 k5 newId)) (hC0 : h.get? C0 = some (excClassObj nm' q' C0 N' bs' bm0 hdct' sn' sub' ab' col' dd' j0 j1 j2 j3 j5 newId')) (he : h.get? e = some oe) (hcls : oe.cls = .ref C)
  (hbase : bm0.contains (.type "BaseException") = true) (hin : (Value.ref C :: bm).contains (.ref C0) = true) (hq : Q true ⟨h, g, d, t, os⟩) : wpAny M A (excMatches (.ref e) (.ref C0)) Q E ⟨h, g, d, t, os⟩ := by
 have hcB : (Value.ref C0 :: bm0).contains (.type "BaseException") = true := by rw [List.contains_cons, hbase, Bool.or_true]
 have f := tc_notTuple
 unfold excMatches
 repeat (first | (with_reducible refine wpAny_loadPart_at he ?_; rw [hcls]) | with_reducible refine wpAny_loadPart_at hC0 ?_ | (with_reducible refine wpAny_isSubtype_exc hC0 ?_; rw [hcB]) | (with_reducible refine wpAny_isSubtype_exc hC ?_; rw [hin]) | wp_step)
 exact hq
end
section
variable {X : Cx} {pins : List (Addr × Obj)} {σ : St} {H : Hp} {s : Shared}
theorem qh {M : Model} {A : Around} {E : Value → Shared → Prop} {i : Nat} {n : Str} {pos : Pos} {Q : Unit → Shared → Prop} (I : Inv X pins σ H s) (hN : X.N.Nodup) (hi : X.N[i]? = some n) (hk : X.env.kindOf n = some .local)
  (h : ∀ s', Inv X pins (σ.set i none) H s' → Q () s') : wpAny M A (do bindName X.env n .none; unbindBehindTheSuite X.env n pos) Q E s := by
 obtain ⟨m, hn, hl⟩ := id I.loc
 have up : ∀ {b : Addr} {o : Obj}, X.s₀.heap.get? b = some o → b ≠ X.env.locals := fun e => Nat.ne_of_lt (Nat.lt_of_lt_of_le (Heap.lt_size e) I.ok.above)
 refine wpAny_nameGoes_keeps hk hn (by rw [I.ok.kind]; rfl) fun h' v hn' hs => h _ ?_
 have kp : ∀ {b : Addr} {o : Obj}, b ≠ X.env.locals → s.heap.get? b = some o → h'.get? b = some o := fun nb e => (hs.2 _ nb).trans e
 have nl : ∀ {b : Addr} {u : HO}, H b = some u → b ≠ X.env.locals := fun q z => by rw [z, I.free] at q; cases q
 refine ⟨I.ok, I.os, I.bare, ⟨fun b o e q hb hx => kp (up e) (I.base.keep b o e q hb hx), fun b o e q hb hx => ?_, I.base.free, fun b o e hx => ?_, I.base.tups, I.base.frzs, I.base.tbls⟩, ⟨_, hn', fun j y v' e1 e2 e3 => ?_⟩, fun y c e => ?_, I.free, I.freeC, fun p hp => ?_,
  fun b u q => (I.hok b u q).stay (fun c w' hc r => kp ?_ r) (fun _ z => z) fun _ _ z => z, by simpa using I.len⟩
 ·obtain ⟨sl, e1⟩ := I.base.slot b o e q hb hx
  exact ⟨sl, kp (up e) e1⟩
 ·obtain ⟨o', e1⟩ := I.base.there b o e hx
  exact ⟨o', kp (up e) e1⟩
 ·have hj : j ≠ i := fun z => by
   subst z
   by_cases hlt : j < σ.length
   ·rw [List.getElem?_set_self hlt] at e2; cases e2
   ·rw [List.getElem?_eq_none (by rw [List.length_set]; omega)] at e2; cases e2
  rw [List.getElem?_set_ne (Ne.symm hj)] at e2
  obtain ⟨u', r', q⟩ := hl j y v' e1 e2 e3
  refine ⟨u', r', ?_⟩
  rcases q with ⟨k, e⟩ | ⟨k, c, e, z⟩
  ·refine .inl ⟨k, ?_⟩
   have : y ≠ n := fun e => hj (qy hN e1 (e ▸ hi))
   simp [this, e]
  ·exact .inr ⟨k, c, e, z.sameBut hs (I.cne y c e)⟩
 ·obtain ⟨w', z⟩ := I.cell y c e
  exact ⟨w', z.sameBut hs (I.cne y c e)⟩
 ·obtain ⟨p1, p2, p3, p4, p5⟩ := I.pin p hp
  exact ⟨kp p3 p1, p2, p3, p4, p5⟩
 ·rcases hc with rfl | hc
  ·exact nl q
  ·exact nl hc
noncomputable abbrev Cx.held (X : Cx) (a : Addr) : Cx := { X with A := X.A.mark (some (.ref a)), calm := false, xe := fun _ _ => False }
theorem Inv.hold (I : Inv X pins σ H s) (a : Addr) : Inv (X.held a) pins σ H s :=
 ⟨⟨I.ok.mod, I.ok.kind, I.ok.glob, I.ok.blt, I.ok.above, I.ok.inj, I.ok.has, I.ok.cab, (fun z => nomatch z), I.ok.frames, I.ok.stk, I.ok.exf, I.ok.bs, I.ok.bsz, I.ok.noex, I.ok.exfs, I.ok.funs, I.ok.frf⟩, I.os, I.bare, I.base, I.loc, I.cell, I.free, I.freeC, I.pin, I.hok, I.len⟩
theorem Inv.unhold {a : Addr} (ok : X.Ok) (I : Inv (X.held a) pins σ H s) : Inv X pins σ H s := ⟨ok, I.os, I.bare, I.base, I.loc, I.cell, I.free, I.freeC, I.pin, I.hok, I.len⟩
end
theorem CXW.step {P : Program} {w : World} {outer : List Env} {H : Hp} {s s' : Shared} {E : XK} {a : Addr} (c : CXW P w outer H s E (.ref a) s') :
  ∃ B C a0, Heap.FlyingW B outer a (.ref C) a0 s'.heap ∧ gA s'.heap a ∧ ∀ h', Heap.FlyingW B outer a (.ref C) a0 h' → s'.heap.UpToSlots h' → gA h' a → CXW P w outer H s E (.ref a) { s' with heap := h' } := by
 obtain ⟨a1, C, a0, H', B, e1, os, bare, un, hok, fl, c1, c2, c3, nc, ee⟩ := c
 cases e1
 exact ⟨B, C, a0, fl, nc, fun h' fl' up nc' => yP (s' := { s' with heap := h' }) un hok up fl' (fun b hb => (fl.2.2.1.mem hb).2) c1 c2 c3 os bare nc' ee⟩
noncomputable def jv (K : Frag) (C C0 : Addr) : Bool := match K.lookup C with
 | some ⟨_, _, .cls cd, _⟩ => cd.mro.contains (.ref C0)
 | _ => false
open PySem PySem.W PySem.Spec PySem.Calls PyProof.Rows
section
variable {prog : Program} {w : World} {A : Around} {E : Value → Shared → Prop} {h : Heap} {g : Array GenState} {d : Drawn} {t : Nat} {os : OsState} {K : Frag} {a C : Addr} {o : Obj}
theorem sS {R : Result → Shared → Prop} (X : K.In h) (hx : h.get? a = some o) (hc : o.cls = .ref C) (hm : mroIn K C (.type "object") = some true) (hq : R (.ok (.ret (.ref C))) ⟨h, g, d, t, os⟩) :
  codeAny (model prog w) A (.call (.builtin "getset_descriptor.__get__") ⟨[.builtin "object.__class__", .ref a, .ref C], []⟩) R ⟨h, g, d, t, os⟩ := by
 have L1 : Looks (model prog w) h (isSubtype (.ref C) (.type (".".intercalate ("object.__class__".cutAt '.').dropLast))) true := by
  rw [show ".".intercalate ("object.__class__".cutAt '.').dropLast = "object" by decide +kernel]
  exact looks_mroIn (M := model prog w) X hm
 have hT5 : (⟨h, g, d, t, os⟩ : Shared).TypeIs (.builtin "object.__class__") "getset_descriptor" := F.typeOf_object_class
 refine codeAny_call_builtin F.slot_gs_get.plain F.entry_gs_get (F.slot_gs_get.check _ _ _ _ _ _ _ _ hT5 (F.args_gs_get _ _ _) ?_)
 repeat (any_goals (first | assumption | (with_reducible refine wpAny_loadPart_at hx ?_; rw [hc]) | with_reducible refine L1.at ?_ | wp_step))
 refine ⟨Code.quiet_builtin _ (by decide +kernel), codeAny_builtin F.entry_object_class ?_⟩
 repeat (any_goals (first | assumption | (with_reducible refine wpAny_loadPart_at hx ?_; rw [hc]) | wp_step))
theorem pV {tk : Tok} {Q : Fin → Shared → Prop} (X : K.In h) (hx : h.get? a = some o) (hc : o.cls = .ref C) (hm : mroIn K C (.type "object") = some true) (hk : findIn K (.ref C) "__class__" = some (some (.builtin "object.__class__")))
  (hq : Q (.done (.ret (.ref C))) ⟨h, g, d, t, os⟩) : wpAny (model prog w) A (Builtin.«object.__getattribute__» ⟨[.ref a, .str "__class__" tk], []⟩) Q E ⟨h, g, d, t, os⟩ := by
 have L2 := looks_findIn (M := model prog w) X hk
 have hT5 : (⟨h, g, d, t, os⟩ : Shared).TypeIs (.builtin "object.__class__") "getset_descriptor" := F.typeOf_object_class
 have f5 := F.typeOf_object_class
 have f6 := F.slot_gs_get.lookup
 have f7 := F.slot_gs_set.lookup
 repeat (any_goals (first | assumption | (with_reducible refine wpAny_loadPart_at hx ?_; rw [hc]) | with_reducible refine L2.at ?_ | wp_step))
 refine sS X hx hc hm ?_
 repeat (any_goals (first | assumption | wp_step))
theorem uX {M : Model} {nameV : Value} {Q : Unit → Shared → Prop} (X : K.In h) (hx : h.get? a = some o) (hc : o.cls = .ref C) (hB : mroIn K C (.type "BaseException") = some true) (hq : Q () ⟨h, g, d, t, os⟩) :
  wpAny M A (checkBuiltinCall "BaseException.__getattribute__" ⟨[.ref a, nameV], []⟩) Q E ⟨h, g, d, t, os⟩ := by
 have hk : builtinKind "BaseException.__getattribute__" = some .slot := by decide +kernel
 have hsplit : splitId "BaseException.__getattribute__" = some ("BaseException", "__getattribute__") := by decide +kernel
 have L1 := looks_mroIn (M := M) X hB
 have ha := F.args_bexc_ga (.ref a) nameV
 simp only [checkBuiltinCall, hk, hsplit]
 refine wpAny_bind ?_
 unfold isInstance
 repeat (first | (with_reducible refine wpAny_loadPart_at hx ?_; rw [hc]) | with_reducible refine L1.at ?_ | wp_step)
 exact hq
structure ExcIsi (K : Frag) (C : Addr) : Prop where
 obj : mroIn K C (.type "object") = some true
 base : mroIn K C (.type "BaseException") = some true
 cls : findIn K (.ref C) "__class__" = some (some (.builtin "object.__class__"))
 ga : findIn K (.ref C) "__getattribute__" = some (some (.builtin "BaseException.__getattribute__"))
 no : findIn K (.ref C) "__getattr__" = some none
theorem wa {tk : Tok} {Q : Value → Shared → Prop} (X : K.In h) (hx : h.get? a = some o) (hc : o.cls = .ref C) (F1 : ExcIsi K C) (hq : Q (.ref C) ⟨h, g, d, t, os⟩) :
  wpAny (model prog w) A (getAttrBy (.ref a) (.str "__class__" tk) false) Q E ⟨h, g, d, t, os⟩ := by
 have L1 := looks_findIn (M := model prog w) X F1.ga
 have L2 := looks_findIn (M := model prog w) X F1.no
 have f3 := F.attr_ValueError.ga.bind (.ref a)
 have hx2 : (Value.builtin "BaseException.__getattribute__" == Value.builtin "object.__getattribute__") = false := by decide +kernel
 have hx1 : (onTheHeap (Value.ref C) && Value.builtin "BaseException.__getattribute__" == Value.builtin "object.__getattribute__") = false := by rw [hx2]; rfl
 repeat (any_goals (first | assumption | (with_reducible refine wpAny_loadPart_at hx ?_; rw [hc]) | with_reducible refine L1.at ?_ | with_reducible refine L2.at ?_ | wp_step))
 refine codeAny_call_builtin F.attr_ValueError.ga.plain F.entry_bexc_ga (uX X hx hc F1.base (pV X hx hc F1.obj F1.cls ?_))
 repeat (any_goals (first | assumption | wp_step))
theorem rC {Q : Option Value → Shared → Prop} (X : K.In h) (hx : h.get? a = some o) (hc : o.cls = .ref C) (F1 : ExcIsi K C) (hq : Q (some (.ref C)) ⟨h, g, d, t + 1, os⟩) :
  wpAny (model prog w) A (getAttr? (.ref a) "__class__") Q E ⟨h, g, d, t, os⟩ := by
 unfold getAttr? getAttrBy?
 repeat (any_goals (first | assumption | with_reducible apply wa X hx hc F1 | wp_step))
end
theorem rR {K : Frag} {a C : Addr} (F1 : ExcIsi K C) : KitX K (.ref a) (.ref C) (fun h => ∃ o, h.get? a = some o ∧ o.cls = .ref C) := by
 have hc : ∃ cd, clsIn K C = some cd := by
  obtain ⟨cd, h, _⟩ := Option.bind_eq_some_iff.mp F1.obj
  exact ⟨cd, h⟩
 have ho : ∃ c' d' cd' sl', K.lookup C = some ⟨c', d', .cls cd', sl'⟩ := by
  obtain ⟨cd, h⟩ := hc
  unfold clsIn at h
  split at h
  ·rename_i ho; exact ⟨_, _, _, _, ho⟩
  ·cases h
 obtain ⟨c', d', cd', sl', ho⟩ := ho
 refine ⟨fun _ _ _ ⟨o, hx, hc⟩ => hc ▸ (Looks.ld hx).andThen .now, fun _ _ X _ => ?_, fun h tp dd its n sl X htp => ?_, fun {prog w A E Q s} X p k => ?_⟩
 ·intro A' Q' E' s' k q
  unfold isType loadHead
  exact wpAny_bind (wpAny_loadPart (k _ _ (X _ _ ho)) (wpAny_pure q))
 ·refine Bool.eq_false_iff.mpr fun q => ?_
  have e : C = tp := Value.ref.inj (beq_iff_eq.mp q)
  subst e
  have z := (X _ _ ho).symm.trans htp
  cases z
 ·obtain ⟨o, hx, hc⟩ := p
  obtain ⟨h, g, d, t, os⟩ := s
  exact rC X hx hc F1 k
section
variable {X : Cx}
theorem ly : io X (.builtin "isinstance") (fun xs H Q => ∃ a C c v b, xs = [.ref a, v] ∧ H a = some (oW a C) ∧ ExcIsi X.K C ∧ ((v = .ref c ∧ PySem.W.kitOne X.K (.ref C) (.ref c) = some b) ∨ (∃ T, v = .ty T ∧ PySem.W.kitOne X.K (.ref C) (.type T) = some b)) ∧ Q (.bl b) H) := by
 intro pins s σ H xs us Q I r h
 obtain ⟨a, C, c, v, b, rfl, ha, F1, alt, q⟩ := h
 obtain ⟨u, w', rfl, rx, ry⟩ := wu r
 cases (show u = Value.ref a from rx)
 obtain ⟨⟨oe, ws, h1, h2, _⟩, _⟩ := I.hok a _ ha
 rcases alt with ⟨rfl, e⟩ | ⟨T, rfl, e⟩
 ·cases (show w' = Value.ref c from ry)
  exact PySem.W.kia_one (rR F1) I.kIn ⟨oe, h1, h2⟩ e (fun z => nomatch z) fun tk => ⟨.bl b, H, I.tok tk, rfl, q⟩
 ·cases (show w' = Value.type T from ry)
  exact PySem.W.kia_one (rR F1) I.kIn ⟨oe, h1, h2⟩ e (fun z => nomatch z) fun tk => ⟨.bl b, H, I.tok tk, rfl, q⟩
theorem uC : ∀ {cs : List Addr} {us : List Value}, bE (cs.map V.ref) us → us = cs.map Value.ref
 | [], _, .nil => rfl
 | c :: cs, u :: us, .cons r t => by
  cases (show u = Value.ref c from r)
  rw [List.map_cons, uC t]
theorem zi : io X (.builtin "isinstance") (fun xs H Q => ∃ (a C p : Addr) (cs : List Addr) (b : Bool), xs = [.ref a, .ref p] ∧ H a = some (oW a C) ∧ H p = some (.tup (cs.map V.ref)) ∧ ExcIsi X.K C ∧ PySem.W.kitAny X.K (.ref C) (cs.map Value.ref) = some b ∧ Q (.bl b) H) := by
 intro pins s σ H xs us Q I r h
 obtain ⟨a, C, p, cs, b, rfl, ha, hp, F1, e, q⟩ := h
 obtain ⟨u, w', rfl, rx, ry⟩ := wu r
 cases (show u = Value.ref a from rx)
 cases (show w' = Value.ref p from ry)
 obtain ⟨⟨oe, ws, h1, h2, _⟩, _⟩ := I.hok a _ ha
 obtain ⟨_, its, rv, o, ho, hc, n, hd⟩ := I.hok p _ hp
 have := uC rv
 subst this
 obtain ⟨oc, od, odt, osl⟩ := o
 simp only at hc hd
 subst hc hd
 exact PySem.W.kia_tup (rR F1) I.kIn ⟨oe, h1, h2⟩ ho e (fun z => nomatch z) fun tk => ⟨.bl b, H, I.tok tk, rfl, q⟩
end
structure RoomU (k : Nat) (A : Around) : Prop where
 dp : A.depth + 3 * k + 5 < recursionLimit
 un : A.units + 16 * k + 200 < cLine
theorem Room.u {k : Nat} {A : Around} (r : Room k A) (h : Option Value) : RoomU k (A.mark h) := ⟨r.dp, r.un⟩
noncomputable abbrev cxU (P : Program) (w : World) (K : PySem.W.Frag) (mg : Str → Option Value) (base : Heap) (N : List Str) (qual : Str) (scope : Scope) (f : Addr) (cd : Value) (A : Around) (outer : List Env) (s : Shared) (H : Hp) : Cx :=
 { fH CX0 P w K mg base N qual scope f cd A outer s H E0 with calm := false, xe := fun _ _ => False }
noncomputable abbrev Ek : List Value := [.type "ValueError", .type "Exception", .type "BaseException", .type "object"]
noncomputable def oI (K : Frag) (pe : Addr) (cs : List Addr) : Bool := decide cs.Nodup && excIn K pe Ek "ValueError.__new__" && cs.all fun c => excIn K c Ek "ValueError.__new__" && jv K c pe && (mroIn K c (.type "object") == some true) && (mroIn K c (.type "BaseException") == some true) &&
 (findIn K (.ref c) "__class__" == some (some (.builtin "object.__class__"))) && (findIn K (.ref c) "__getattribute__" == some (some (.builtin "BaseException.__getattribute__"))) && (findIn K (.ref c) "__getattr__" == some none) &&
 (kitOne K (.ref c) (.type "ValueError") == some true) && cs.all fun c' => kitOne K (.ref c) (.ref c') == some (c == c')
structure ClsAt (K : Frag) (pe : Addr) (cs : List Addr) (c : Addr) : Prop where
 exc : excIn K c Ek "ValueError.__new__" = true
 below : jv K c pe = true
 isi : ExcIsi K c
 ve : kitOne K (.ref c) (.type "ValueError") = some true
 each : ∀ c' ∈ cs, kitOne K (.ref c) (.ref c') = some (c == c')
theorem zk {K : Frag} {pe : Addr} {cs : List Addr} (h : oI K pe cs = true) : cs.Nodup := by
 unfold oI at h
 rw [Bool.and_assoc, Bool.and_eq_true] at h
 exact of_decide_eq_true h.1
theorem uL {K : Frag} {pe : Addr} {cs : List Addr} (h : oI K pe cs = true) : excIn K pe Ek "ValueError.__new__" = true ∧ ∀ c ∈ cs, ClsAt K pe cs c := by
 unfold oI at h
 simp only [Bool.and_eq_true, List.all_eq_true, beq_iff_eq] at h
 refine ⟨h.1.2, fun c hc => ?_⟩
 obtain ⟨⟨⟨⟨⟨⟨⟨⟨h1, h2⟩, h3⟩, h4⟩, h5⟩, h6⟩, h7⟩, h8⟩, h9⟩ := h.2 c hc
 exact ⟨h1, h2, ⟨h3, h4, h5, h6, h7⟩, h8, h9⟩
theorem rf {K : Frag} {t : Value} : ∀ {cs : List Value}, (∀ c ∈ cs, kitOne K t c = some false) → kitAny K t cs = some false
 | [], _ => rfl
 | c :: cs, h => by
  unfold kitAny
  rw [h c (.head _)]
  exact rf fun x hx => h x (.tail _ hx)
noncomputable def tD0 : TE := fun _ H Q => ∀ a, H a = none → Q (.ref a) (upd H a (.dK []))
theorem CA {X : Cx} {pos : Pos} : PE X (.Dict [] [] pos) tD0 := by
 intro pins s σ H Q I h
 refine wpAny_Dict_empty ?_
 refine ⟨.ref s.heap.objs.size, upd H s.heap.objs.size (.dK []), I.laid (t' := s.toks) (fun b u e => Heap.get?_push_of_some _ e) (Nat.le_refl _) ?_, rfl, h _ (I.hok.fresh (Nat.le_refl _))⟩
 refine ⟨by show 0 ≤ sizeLine; decide, beq_eq_false_iff_ne.mpr (Ne.symm (Nat.ne_of_lt (Nat.lt_trans (show sysModules < mainGlobals by decide) (let ⟨_, _, _, e, _⟩ := I.mod.glob.keeps I.bk; Heap.lt_size e)))), [], .nil, Heap.DictOf.new s.heap⟩
section
variable {κ : Type} [DecidableEq κ]
noncomputable def jP (kvs : List (κ × V)) (k : κ) : Option V := (kvs.find? fun kv => decide (kv.1 = k)).map (·.2)
noncomputable def oM (kvs : List (κ × V)) (k : κ) (v : V) : List (κ × V) :=
 if (kvs.any fun kv => decide (kv.1 = k)) = true then kvs.map (fun kv => if kv.1 = k then (kv.1, v) else kv) else kvs ++ [(k, v)]
theorem gW {p : κ × V} {r : List (κ × V)} {k : κ} (e : p.1 = k) : jP (p :: r) k = some p.2 := by simp [jP, List.find?_cons, e]
theorem gI {p : κ × V} {r : List (κ × V)} {k : κ} (e : ¬ p.1 = k) : jP (p :: r) k = jP r k := by simp [jP, List.find?_cons, e]
theorem qS (k : κ) : ∀ kvs : List (κ × V), (kvs.any fun kv => decide (kv.1 = k)) = (jP kvs k).isSome
 | [] => rfl
 | p :: r => by
  rw [List.any_cons]
  by_cases e : p.1 = k
  ·simp only [gW e, decide_eq_true e, Bool.true_or, Option.isSome_some]
  ·rw [gI e, decide_eq_false e, Bool.false_or]; exact qS k r
theorem uo (k j : κ) (y : V) : ∀ kvs : List (κ × V), jP kvs k = none → jP (kvs ++ [(k, y)]) j = if j = k then some y else jP kvs j
 | [], _ => by
  by_cases e : k = j
  ·rw [if_pos e.symm]; exact gW (p := (k, y)) e
  ·rw [if_neg (fun z => e z.symm)]; exact gI (p := (k, y)) e
 | p :: r, hn => by
  rw [List.cons_append]
  have hk : ¬ p.1 = k := fun z => by rw [gW z] at hn; cases hn
  rw [gI hk] at hn
  have ih := uo k j y r hn
  by_cases e : p.1 = j
  ·rw [gW e, gW e, if_neg (fun z => hk (e.trans z))]
  ·rw [gI e, gI e, ih]
theorem pf (kvs : List (κ × V)) (k : κ) (v : V) : (oM kvs k v).length ≤ kvs.length + 1 := by
 unfold oM
 split
 ·rw [List.length_map]; omega
 ·rw [List.length_append, List.length_cons, List.length_nil]; omega
theorem Dw {kvs : List (κ × V)} {k : κ} (v : V) (h : jP kvs k = none) : oM kvs k v = kvs ++ [(k, v)] := by
 unfold oM
 rw [qS, h]
 exact if_neg (by decide)
theorem zB.isSome_eq {o : Option V} {u : Option Value} (r : zB o u) : o.isSome = u.isSome := by
 cases o with
 | none => cases u with
  | none => rfl
  | some _ => exact (show False from r).elim
 | some _ => cases u with
  | none => exact (show False from r).elim
  | some _ => rfl
theorem KV.val {kvs : List (κ × V)} {vs : List (κ × Value)} (r : KV kvs vs) (k : κ) : zB (jP kvs k) (valueAt vs k) := by
 unfold KV at r
 induction r with
 | nil => exact True.intro
 | @cons p q ps qs h t ih =>
  obtain ⟨h1, h2⟩ := h
  by_cases e : p.1 = k
  ·have e' : q.1 = k := h1.symm.trans e
   have b : valueAt (q :: qs) k = some q.2 := by simp [valueAt, List.find?_cons, e']
   rw [gW e, b]; exact h2
  ·have e' : ¬ q.1 = k := fun z => e (h1.trans z)
   have b : valueAt (q :: qs) k = valueAt qs k := by simp [valueAt, List.find?_cons, e']
   rw [gI e, b]; exact ih
theorem KV.any {kvs : List (κ × V)} {vs : List (κ × Value)} (r : KV kvs vs) (k : κ) : (kvs.any fun kv => decide (kv.1 = k)) = vs.any fun kv => decide (kv.1 = k) := by
 unfold KV at r
 induction r with
 | nil => rfl
 | cons h t ih => rw [List.any_cons, List.any_cons, ih, h.1]
theorem KV.repl {kvs : List (κ × V)} {vs : List (κ × Value)} (r : KV kvs vs) (k : κ) {y : V} {u : Value} (ry : bX y u) :
  KV (kvs.map fun kv => if kv.1 = k then (kv.1, y) else kv) (vs.map fun kv => if kv.1 = k then (kv.1, u) else kv) := by
 unfold KV at r ⊢
 induction r with
 | nil => exact .nil
 | @cons p q ps qs h t ih =>
  rw [List.map_cons, List.map_cons]
  refine .cons ?_ ih
  obtain ⟨h1, h2⟩ := h
  by_cases e : p.1 = k
  ·rw [if_pos e, if_pos (h1.symm.trans e)]; exact ⟨h1, ry⟩
  ·rw [if_neg e, if_neg (fun z => e (h1.trans z))]; exact ⟨h1, h2⟩
theorem KV.put {kvs : List (κ × V)} {vs : List (κ × Value)} (r : KV kvs vs) (k : κ) {y : V} {u : Value} (ry : bX y u) : KV (oM kvs k y) (stored vs k u) := by
 unfold oM stored
 rw [r.any k]
 by_cases e : (vs.any fun kv => decide (kv.1 = k)) = true
 ·rw [if_pos e, if_pos e]; exact r.repl k ry
 ·rw [if_neg e, if_neg e]; exact Paired.snoc r ⟨rfl, ry⟩
theorem KV.length {kvs : List (κ × V)} {vs : List (κ × Value)} (r : KV kvs vs) : kvs.length = vs.length := Paired.length r
end
theorem Dj {P : Program} {w : World} {k : Key} {u : Value} (r : bX (kV k) u) : (dq P w).is k u = true := by
 cases k with
 | inl i => obtain ⟨t, e⟩ := (show ∃ t, u = Value.int i t from r); subst e; exact wL P w i t
 | inr x => obtain ⟨t, e⟩ := (show ∃ t, u = Value.str x t from r); subst e; exact yg P w x t
theorem tX {P : Program} {w : World} : ∀ {ks : List Key} {us : List Value}, bE (ks.map kV) us → ItemsAre (dq P w) ks us
 | [], _, r => by rw [List.map_nil] at r; cases r; exact .nil
 | k :: ks, _, r => by
  rw [List.map_cons] at r
  cases r with
  | cons h t => exact .cons (Dj h) (tX t)
noncomputable abbrev KT (H : Hp) : List (List Key × V) → List (List Key × Addr × Value) → Prop := Paired fun p q => p.1 = q.1 ∧ H q.2.1 = some (.tup (p.1.map kV)) ∧ bX p.2 q.2.2
theorem KT.val {H : Hp} {kvs : List (List Key × V)} {xs : List (List Key × Addr × Value)} (r : KT H kvs xs) (k : List Key) : zB (jP kvs k) ((atKey xs k).map (·.2)) := by
 induction r with
 | nil => exact True.intro
 | @cons p q ps qs h t ih =>
  obtain ⟨h1, _, h2⟩ := h
  by_cases e : p.1 = k
  ·have e' : q.1 = k := h1.symm.trans e
   have b : atKey (q :: qs) k = some q.2 := by simp [atKey, List.find?_cons, e']
   rw [gW e, b]; exact h2
  ·have e' : ¬ q.1 = k := fun z => e (h1.trans z)
   have b : atKey (q :: qs) k = atKey qs k := by simp [atKey, List.find?_cons, e']
   rw [gI e, b]; exact ih
theorem KT.repl {H : Hp} {kvs : List (List Key × V)} {xs : List (List Key × Addr × Value)} (r : KT H kvs xs) (k : List Key) {y : V} {u : Value} (ry : bX y u) :
  KT H (kvs.map fun kv => if kv.1 = k then (kv.1, y) else kv) (xs.map (putAt k u)) := by
 induction r with
 | nil => exact .nil
 | @cons p q ps qs h t ih =>
  rw [List.map_cons, List.map_cons]
  refine .cons ?_ ih
  obtain ⟨h1, h2, h3⟩ := h
  unfold putAt
  by_cases e : p.1 = k
  ·rw [if_pos e, if_pos (h1.symm.trans e)]; exact ⟨h1, h2, ry⟩
  ·rw [if_neg e, if_neg (fun z => e (h1.trans z))]; exact ⟨h1, h2, h3⟩
theorem KT.put {H : Hp} {kvs : List (List Key × V)} {xs : List (List Key × Addr × Value)} (r : KT H kvs xs) (k : List Key) {b : Addr} {y : V} {u : Value} (hb : H b = some (.tup (k.map kV))) (ry : bX y u) :
  KT H (oM kvs k y) (storedH xs k b u) := by
 have e : (kvs.any fun kv => decide (kv.1 = k)) = (atKey xs k).isSome := by
  rw [qS, (r.val k).isSome_eq, Option.isSome_map]
 unfold oM storedH
 rw [e]
 by_cases q : (atKey xs k).isSome = true
 ·rw [if_pos q, if_pos q]; exact r.repl k ry
 ·rw [if_neg q, if_neg q]; exact Paired.snoc r ⟨rfl, hb, ry⟩
theorem KT.keeps {H H' : Hp} {kvs : List (List Key × V)} {xs : List (List Key × Addr × Value)} (r : KT H kvs xs) (ht : ∀ b ys, H b = some (.tup ys) → H' b = some (.tup ys)) : KT H' kvs xs :=
 Paired.mapP r fun _ _ z => ⟨z.1, ht _ _ z.2.1, z.2.2⟩
section
variable {P : Program} {w : World} {H : Hp} {h : Heap} {a : Addr}
theorem Fh {u : HO} (ok : HOk P w H h) (e : Rd H a u) : cw P w H h a u := e.ok ok
theorem CV {kvs : List (Key × V)} (ok : HOk P w H h) (e : Rd H a (.dK kvs)) : kvs.length ≤ sizeLine ∧ (a == sysModules) = false ∧ ∃ vs, KV kvs vs ∧ h.DictOf (dq P w) a vs :=
 show cw P w H h a (.dK kvs) from Fh ok e
theorem Ii {kvs : List (Key × V)} (ok : HOk P w H h) (e : H a = some (.dK kvs)) : kvs.length ≤ sizeLine ∧ (a == sysModules) = false ∧ ∃ vs, KV kvs vs ∧ h.DictOf (dq P w) a vs := CV ok (.inl e)
theorem yW {ks : List Key} (ok : HOk P w H h) (e : H a = some (.tup (ks.map kV))) : (tupleKind (dq P w)).is h ks a := by
 obtain ⟨_, its, r, o, h1, h2, n, h3⟩ := (show cw P w H h a (.tup (ks.map kV)) from ok a _ e)
 exact ⟨o, its.toArray, n, h1, h2, h3, by simpa using tX r⟩
theorem FC {kvs : List (List Key × V)} (ok : HOk P w H h) (e : Rd H a (.dT kvs)) : kvs.length ≤ sizeLine ∧ (a == sysModules) = false ∧
  ∃ xs, KT H kvs xs ∧ h.DictOfH (tupleKind (dq P w)) a xs := by
 obtain ⟨z, y, xs, r, o, es, ep, h1, h2, h3, h4, h5⟩ := (show cw P w H h a (.dT kvs) from Fh ok e)
 refine ⟨z, y, xs, r, o, es, ep, h1, h2, h3, h4, fun x hx => ?_, h5⟩
 have all : ∀ {l : List (List Key × V)} {m : List (List Key × Addr × Value)}, KT H l m → ∀ x ∈ m, (tupleKind (dq P w)).is h x.1 x.2.1 := by
  intro l m q
  induction q with
  | nil => intro x hx; exact nomatch hx
  | @cons p q ps qs hq t ih =>
   intro x hx
   rcases List.mem_cons.mp hx with e | hx
   ·subst e
    exact yW ok (by rw [← hq.1]; exact hq.2.1)
   ·exact ih x hx
 exact all r x hx
theorem Iw {kvs : List (List Key × V)} (ok : HOk P w H h) (e : H a = some (.dT kvs)) : kvs.length ≤ sizeLine ∧ (a == sysModules) = false ∧
  ∃ xs, KT H kvs xs ∧ h.DictOfH (tupleKind (dq P w)) a xs := FC ok (.inl e)
end
noncomputable def BM (H : Hp) (a : Addr) (y : V) (r : Option V) : Prop :=
 (∃ kvs k, Rd H a (.dK kvs) ∧ y = kV k ∧ r = jP kvs k) ∨ ∃ kvs k b, Rd H a (.dT kvs) ∧ y = .ref b ∧ H b = some (.tup (k.map kV)) ∧ r = jP kvs k
noncomputable def DG (H : Hp) (a : Addr) (y v : V) (H' : Hp) : Prop :=
 (∃ kvs k, H a = some (.dK kvs) ∧ y = kV k ∧ kvs.length < sizeLine ∧ H' = upd H a (.dK (oM kvs k v))) ∨
 ∃ kvs k b, H a = some (.dT kvs) ∧ y = .ref b ∧ H b = some (.tup (k.map kV)) ∧ kvs.length < sizeLine ∧ H' = upd H a (.dT (oM kvs k v))
theorem BM.k {H : Hp} {a : Addr} {kvs : List (Key × V)} {k : Key} (e : H a = some (.dK kvs)) : BM H a (kV k) (jP kvs k) := .inl ⟨kvs, k, .inl e, rfl, rfl⟩
theorem DG.k {H : Hp} {a : Addr} {kvs : List (Key × V)} {k : Key} {v : V} (e : H a = some (.dK kvs)) (hl : kvs.length < sizeLine) : DG H a (kV k) v (upd H a (.dK (oM kvs k v))) := .inl ⟨kvs, k, e, rfl, hl, rfl⟩
section
variable {X : Cx} {pins : List (Addr × Obj)} {σ : St} {H : Hp} {s : Shared} {a : Addr} {y v : V} {u r : Value} {o : Option V} {A : Around} {E : Value → Shared → Prop}
theorem Jj {Q : Value → Shared → Prop} (hu : A.units + 1 < cLine) (I : Inv X pins σ H s) (g : BM H a y o) (ry : bX y u) (h : ∀ s', Inv X pins σ H s' → Q (.bool o.isSome) s') :
  wpAny (model X.prog X.w) A (compareOp .In u (.ref a)) Q E s := by
 rcases g with ⟨kvs, k, e, ey, l⟩ | ⟨kvs, k, b, e, ey, eb, l⟩
 ·subst ey
  obtain ⟨z, hd, vs, rel, dd⟩ := CV I.hok e
  refine wpAny_in_of (Dj ry) hd dd.mapOf ?_
  rw [← (rel.val k).isSome_eq, ← l]
  exact h _ (I.tok _)
 ·subst ey
  cases (show u = Value.ref b from ry)
  obtain ⟨z, hd, xs, rel, dd⟩ := FC I.hok e
  refine wpAny_in_heap (tupleKind_room_in1 hu) (yW I.hok eb) hd dd ?_
  have q := (rel.val k).isSome_eq
  rw [Option.isSome_map] at q
  rw [← q, ← l]
  exact h _ (I.tok _)
theorem Aa {h' : Heap} {t' : Nat} {ob : HO} (I : Inv X pins σ H s) (mu : Mut (H a)) (hs : Heap.SameBut a s.heap h') (he : ∃ q, h'.get? a = some q) (new : cw X.prog X.w (upd H a ob) h' a ob) :
  Inv X pins σ (upd H a ob) { s with heap := h', toks := t' } :=
 I.write (x := a) (e := a) mu (.inl rfl) (fun b q hb z => (hs.2 b hb).trans z) he new
theorem FN {P : Program} {w : World} {H' : Hp} {h' : Heap} {kvs : List (Key × V)} {vs : List (Key × Value)} (z : kvs.length ≤ sizeLine) (hd : (a == sysModules) = false) (rel : KV kvs vs) (dd : h'.DictOf (dq P w) a vs) :
  cw P w H' h' a (.dK kvs) := ⟨z, hd, vs, rel, dd⟩
theorem AR {H' : Hp} {Q : Unit → Shared → Prop} (hu : A.units + 1 < cLine) (I : Inv X pins σ H s) (g : DG H a y v H') (ry : bX y u) (rv : bX v r) (h : ∀ s', Inv X pins σ H' s' → Q () s') :
  wpAny (model X.prog X.w) A (setItem (.ref a) u r) Q E s := by
 rcases g with ⟨kvs, k, e, ey, l, eH⟩ | ⟨kvs, k, b, e, ey, eb, l, eH⟩
 ·subst ey eH
  obtain ⟨z, hd, vs, rel, dd⟩ := Ii I.hok e
  have hz : vs.length ≤ sizeLine := by rw [← rel.length]; exact z
  have hl : (oM kvs k v).length ≤ sizeLine := by have := pf kvs k v; omega
  refine wpAny_setItem_pairs (hsz := hz) (Dj ry) dd fun h' dd' hs => h _ ?_
  have he : ∃ q, h'.get? a = some q := let ⟨q, _, _, hq, _⟩ := dd'; ⟨q, hq⟩
  exact Aa I (by rw [e]; exact True.intro) hs he (FN hl hd (rel.put k rv) dd')
 ·subst ey eH
  cases (show u = Value.ref b from ry)
  obtain ⟨z, hd, xs, rel, dd⟩ := Iw I.hok e
  have hz : xs.length ≤ sizeLine := by rw [← Paired.length rel]; exact z
  have hl : (oM kvs k v).length ≤ sizeLine := by have := pf kvs k v; omega
  refine wpAny_setItem_heap (hsz := hz) (tupleKind_room_in1 hu) (yW I.hok eb) dd fun h' dd' hs => h _ ?_
  obtain ⟨q, es, ep, hq, h2, h3, h4, _, h5⟩ := dd'
  refine Aa I (by rw [e]; exact True.intro) hs ⟨q, hq⟩ ⟨hl, hd, _, (rel.put k eb rv).keeps fun c ys ec => ?_, q, es, ep, hq, h2, h3, h4, h5⟩
  rw [aD (IQ ec e (fun z => nomatch z))]
  exact ec
end
section
variable {X : Cx} {pins : List (Addr × Obj)} {σ : St} {H : Hp} {s : Shared} {a : Addr} {kvs : List (Key × V)} {k : Key} {u : Value} {A : Around} {E : Value → Shared → Prop}
theorem Iu {Q : Value → Shared → Prop} (I : Inv X pins σ H s) (e : Rd H a (.dK kvs)) (h : ∀ t s', Inv X pins σ H s' → Q (.int kvs.length t) s') : wpAny (model X.prog X.w) A (call (.builtin "len") [.ref a]) Q E s := by
 obtain ⟨z, hd, vs, rel, dd⟩ := CV I.hok e
 refine call_len_dict hd dd (by rw [← rel.length]; rw [sizeLine_eq] at z; omega) ?_
 rw [← rel.length]
 exact h _ _ (I.tok _)
end
noncomputable def JB (ty td : TE) : TE := fun σ H Q => ty σ H fun y H1 => td σ H1 fun x H2 => ∃ a o, x = .ref a ∧ BM H2 a y o ∧ Q (.bl o.isSome) H2
noncomputable def Iq (td ty tv : TE) : TS := fun D σ H => tv σ H fun v H1 => td σ H1 fun x H2 => ty σ H2 fun y H3 => ∃ a H4, x = .ref a ∧ DG H3 a y v H4 ∧ D.nx σ H4
section
variable {X : Cx} {o i e value : Expr} {pos pos' tpos : Pos} {td ty tv : TE}
theorem FY (hu : X.A.units + 1 < cLine) (hi : PE X i ty) (ho : PE X o td) : PC X .In i o (JB ty td) := by
 intro pins s σ H Q I h
 refine thn (hi pins s σ H _ I h) fun iv s1 ⟨y, H1, I1, ry, q1⟩ => thn (ho pins s1 σ H1 _ I1 q1) fun u s2 ⟨x, H2, I2, rx, a, ov, ex, g, q2⟩ => ?_
 subst ex
 obtain rfl : u = Value.ref a := rx
 exact Jj hu I2 g ry fun s3 I3 => ⟨.bl ov.isSome, H2, I3, rfl, q2⟩
theorem DZ (hu : X.A.units + 1 < cLine) (ho : PE X o td) (hi : PE X i ty) (hv : PE X value tv) (hs : swapsWith value (some (.Subscript o i pos')) pos.line X.env = pure false) :
  PS X (.Assign [.Subscript o i pos'] value pos) (Iq td ty tv) := by
 intro pins s σ H D I h
 refine wpAny_Assign_Subscript (thn (hv pins s σ H _ I h) fun r s1 ⟨v, H1, I1, rv, q1⟩ => thn (ho pins s1 σ H1 _ I1 q1) fun u s2 ⟨x, H2, I2, rx, q2⟩ => thn (hi pins s2 σ H2 _ I2 q2) fun iv s3 ⟨y, H3, I3, ry, a, H4, ex, g, q3⟩ => ?_) hs
 subst ex
 obtain rfl : u = Value.ref a := rx
 exact AR hu I3 g ry rv fun s4 I4 => ⟨σ, H4, I4, q3⟩
end
end L2
namespace Att
open PySem PySem.W PySem.Calls PyProof.Rows
end Att
namespace L2
open PySem PySem.Spec PyProof.Rows
section
variable {X : Cx}
theorem AV : io X (.builtin "len") (fun xs H Q => ∃ a kvs, xs = [V.ref a] ∧ H a = some (.dK kvs) ∧ Q (.int kvs.length) H) := by
 intro pins s σ H xs us Q I r h
 obtain ⟨a, kvs, rfl, ha, q⟩ := h
 obtain ⟨u, rfl, ru⟩ := pk r
 cases ru
 exact Iu I (.inl ha) fun t s' I' => ⟨.int kvs.length, H, I', ⟨t, rfl⟩, q⟩
end
open PySem PySem.W PySem.Spec PySem.Calls PyProof.Rows
noncomputable def JJ (z : Str) : List V := z.cps.toList.map fun c => V.str ⟨#[c]⟩
section
variable {X : Cx}
theorem zT : ∀ {ts : List Str} {its : List Value}, bE (ts.map V.str) its → ∃ l : List (Str × Tok), strValues l = its ∧ l.map (·.1) = ts
 | [], _, .nil => ⟨[], rfl, rfl⟩
 | x :: ts, _, .cons ⟨t, e⟩ r => by
  obtain ⟨l, h1, h2⟩ := zT r
  exact ⟨(x, t) :: l, by rw [← h1, e]; rfl, by rw [← h2]; rfl⟩
theorem Bp {sep : Str} {ts : List Str} (h : (ts.map (·.length)).sum + ts.length * sep.length ≤ 1000) : JoinOk sep ts = true := by
 unfold JoinOk Builtin.Str.tooLong
 rw [StrLaws.joinTotal]
 simp only [Bool.not_eq_true', decide_eq_false_iff_not, gt_iff_lt, Nat.not_lt]
 exact Nat.le_of_lt (bc h)
noncomputable def IV (K : PySem.W.Frag) : V → List V → Hp → VK → Prop := fun x vs H Q => ∃ (sep : Str) (p : Addr) (ts : List Str), x = .str sep ∧ vs = [.ref p] ∧ SqL K H p (ts.map V.str) ∧ (ts.map (·.length)).sum + ts.length * sep.length ≤ 1000 ∧ Q (.str (Str.join sep ts)) H
theorem Ad : MtM X "str.join" (IV X.K) := by
 intro pins s σ H x vs v us Q I rx rv h
 obtain ⟨sep, p, ts, rfl, rfl, hp, hz, q⟩ := h
 obtain ⟨t, rfl⟩ := rx
 obtain ⟨u, rfl, ru⟩ := rv.one
 cases ru
 obtain ⟨its, r, pl, _⟩ := I.list hp
 obtain ⟨l, e1, e2⟩ := zT r
 rw [← e1] at pl
 refine SC.join pl.isList e2 (Bp hz) fun t' k => ⟨.str (Str.join sep ts), H, I.tok _, ⟨t', ?_⟩, q⟩
 show Value.str (Builtin.Str.glued sep ts) t' = _
 rw [StrLaws.glued_eq_join]
end
open PySem PyProof.Rows
theorem cb {t u : TS} {D : Ends} {σ : St} {H : Hp} (R : St → Hp → Prop) (h1 : ∀ N : St → Hp → Prop, (∀ σ' H', R σ' H' → N σ' H') → t { D with nx := N } σ H) (h2 : ∀ σ' H', R σ' H' → u D σ' H') : iC t u D σ H := h1 (u D) h2
end L2
namespace WM
open PySem
noncomputable def jn : List (List Nat) → List Nat
 | [] => []
 | [x] => x
 | x :: y :: r => x ++ 32 :: jn (y :: r)
theorem AH : ∀ {p w A B : List Nat}, 32 ∉ p → 32 ∉ w → p ++ 32 :: A = w ++ 32 :: B → p = w ∧ A = B
 | [], [], A, B, _, _, h => by injection h with _ h; exact ⟨rfl, h⟩
 | [], b :: w, A, B, _, hw, h => by injection h with h _; exact absurd (h ▸ List.mem_cons_self ..) hw
 | a :: p, [], A, B, hp, _, h => by injection h with h _; exact absurd (h ▸ List.mem_cons_self ..) hp
 | a :: p, b :: w, A, B, hp, hw, h => by
  injection h with h1 h2
  obtain ⟨e1, e2⟩ := AH (fun z => hp (List.mem_cons_of_mem _ z)) (fun z => hw (List.mem_cons_of_mem _ z)) h2
  exact ⟨by rw [h1, e1], e2⟩
theorem CI : ∀ {ps ws : List (List Nat)}, (∀ p ∈ ps, 32 ∉ p) → (∀ w ∈ ws, 32 ∉ w) → ps ≠ [] → ws ≠ [] → jn ps = jn ws → ps = ws
 | [], _, _, _, h, _, _ => absurd rfl h
 | _ :: _, [], _, _, _, h, _ => absurd rfl h
 | [p], [w], _, _, _, _, e => by rw [show p = w from e]
 | [p], w :: w2 :: r, hp, _, _, _, e => by
  have e' : p = w ++ 32 :: jn (w2 :: r) := e
  exact absurd (by rw [e']; exact List.mem_append_right _ (List.mem_cons_self ..)) (hp p (List.mem_cons_self ..))
 | p :: p2 :: r, [w], _, hw, _, _, e => by
  have e' : p ++ 32 :: jn (p2 :: r) = w := e
  exact absurd (by rw [← e']; exact List.mem_append_right _ (List.mem_cons_self ..)) (hw w (List.mem_cons_self ..))
 | p :: p2 :: r, w :: w2 :: q, hp, hw, _, _, e => by
  have e' : p ++ 32 :: jn (p2 :: r) = w ++ 32 :: jn (w2 :: q) := e
  obtain ⟨e1, e2⟩ := AH (hp p (List.mem_cons_self ..)) (hw w (List.mem_cons_self ..)) e'
  rw [e1, CI (fun z hz => hp z (List.mem_cons_of_mem _ hz)) (fun z hz => hw z (List.mem_cons_of_mem _ hz)) (by simp) (by simp) e2]
noncomputable abbrev bl : Str := Str.ofString " "
theorem Da : bl = ⟨#[32]⟩ := by decide +kernel
noncomputable abbrev J (ws : List Str) : Str := Str.join bl ws
noncomputable def ls (z : Str) : List Nat := z.cps.toList
theorem Hv {a b : Str} (h : ls a = ls b) : a = b := by
 obtain ⟨x⟩ := a; obtain ⟨y⟩ := b
 have : x = y := Array.toList_inj.mp h
 rw [this]
theorem BT (a b : Str) : ls (a ++ b) = ls a ++ ls b := by
 obtain ⟨x⟩ := a; obtain ⟨y⟩ := b
 show (x ++ y).toList = _
 simp [ls]
theorem Ie : ls bl = [32] := by rw [Da]; rfl
theorem FV : ∀ ws : List Str, ls (J ws) = jn (ws.map ls)
 | [] => rfl
 | [x] => rfl
 | x :: y :: r => by
  show ls (x ++ bl ++ J (y :: r)) = _
  rw [BT, BT, Ie, FV (y :: r)]
  show _ = ls x ++ 32 :: jn ((y :: r).map ls)
  rw [List.append_assoc]; rfl
theorem split_words {ws : List Str} (hw : ∀ w ∈ ws, 32 ∉ ls w) (hne : ws ≠ []) : Txt.split (J ws) bl = ws := by
 have h1 := StrLaws.join_split (J ws) bl
 have h2 : ∀ p ∈ Txt.split (J ws) bl, 32 ∉ ls p := by rw [Da]; exact StrLaws.split_free _ 32
 have h3 : Txt.split (J ws) bl ≠ [] := fun z => by have := PyProof.Rows.split_pos (J ws) bl; rw [z] at this; exact absurd this (by decide)
 generalize Txt.split (J ws) bl = ps at h1 h2 h3
 have e : jn (ps.map ls) = jn (ws.map ls) := by
  have := congrArg ls h1
  rwa [show Str.join bl ps = J ps from rfl, FV, FV] at this
 have e2 := CI (fun p hp => by obtain ⟨q, hq, rfl⟩ := List.mem_map.mp hp; exact h2 q hq) (fun p hp => by obtain ⟨q, hq, rfl⟩ := List.mem_map.mp hp; exact hw q hq) (by simpa using h3) (by simpa using hne) e
 have inj : ∀ (a b : List Str), a.map ls = b.map ls → a = b := fun a => by
  induction a with
  | nil => intro b h; cases b with
   | nil => rfl
   | cons y b => cases h
  | cons x a ih => intro b h; cases b with
   | nil => cases h
   | cons y b =>
    rw [List.map_cons, List.map_cons] at h
    injection h with h1 h2
    rw [Hv h1, ih b h2]
 exact inj _ _ e2
end WM
namespace L2
open PySem PySem.Spec PySem.Calls PyProof.Rows
open Builtin Builtin.Str
section
variable {X : Cx}
theorem zS {l : List (Str × Tok)} {ts : List Str} (h : l.map (·.1) = ts) : bE (ts.map V.str) (strValues l) := by
 subst h
 induction l with
 | nil => exact .nil
 | cons p l ih => exact .cons ⟨_, rfl⟩ ih
noncomputable def HV : V → List V → Hp → VK → Prop := fun x vs H Q => ∃ (z sep : Str), x = .str z ∧ vs = [.str sep] ∧ (sep.length == 0) = false ∧ z.length ≤ 500 ∧ (Txt.split z sep).length ≤ 900 ∧ ∀ l, H l = none → Q (.ref l) (upd H l (.lst ((Txt.split z sep).map V.str)))
theorem Cv : MtM X "str.split" HV := by
 intro pins s σ H x vs v us Q I rx rv h
 obtain ⟨x, y, rfl, rfl, hy, hz, hn, q⟩ := h
 obtain ⟨t, rfl⟩ := rx
 obtain ⟨u0, rfl, ru⟩ := rv.one
 obtain ⟨u, rfl⟩ := ru
 have fin : ∀ (l : List (Str × Tok)) (k : Nat), l.map (·.1) = Txt.split x y → EP X pins σ Q (.ref s.heap.objs.size) { s with toks := k, heap := s.heap.push { cls := .type "list", data := .seq (strValues l).toArray } } := fun l k e => by
  refine ⟨.ref s.heap.objs.size, _, I.laid (t' := k) (o := .lst ((Txt.split x y).map V.str)) (fun b ob q => Heap.get?_push_of_some _ q) (Nat.le_refl _) ?_, rfl, q _ (I.hok.fresh (Nat.le_refl _))⟩
  exact ⟨by rw [List.length_map]; exact Nat.le_of_lt (bc (by omega)), _, 0, zS e, Heap.get?_push_size _ rfl⟩
 have hsz : x.length ≤ sizeLine := Nat.le_of_lt (bc (by omega))
 cases h1 : (decide (x.length < y.length) || decide (strKind x < strKind y))
 ·cases hf : (occurrences x y 0 x.length (x.length + 1)).isEmpty
  ·have hs2 : (partsBetween x (occurrences x y 0 x.length (x.length + 1)) y.length).length ≤ sizeLine := by
    have e : Txt.split x y = partsBetween x (occurrences x y 0 x.length (x.length + 1)) y.length := (if_neg (ne_true_of_eq_false h1)).trans (if_neg (ne_true_of_eq_false hf))
    rw [← e]; exact Nat.le_of_lt (bc (by omega))
   refine call_meets F.slot_str_split (typeIs_str _ _ _) F.entry_str_split (F.args_str_split_2 _ _) (meets_str_split_sep x y t u h1 hy hf hsz hs2) ?_
   show wants _ _ _ { s with toks := _, heap := s.heap.push { cls := .type "list", data := .seq (strsFrom s.toks (partsBetween x (occurrences x y 0 x.length (x.length + 1)) y.length)).toArray } }
   rw [strsFrom_eq]
   exact fin (numbered s.toks _) _ ((numbered_texts _ _).trans ((if_neg (ne_true_of_eq_false h1)).trans (if_neg (ne_true_of_eq_false hf))).symm)
  ·exact call_meets F.slot_str_split (typeIs_str _ _ _) F.entry_str_split (F.args_str_split_2 _ _) (meets_str_split_not_found x y t u h1 hy hf)
    (fin [(x, t)] _ ((if_neg (ne_true_of_eq_false h1)).trans (if_pos hf)).symm)
 ·exact call_meets F.slot_str_split (typeIs_str _ _ _) F.entry_str_split (F.args_str_split_2 _ _) (meets_str_split_cannot_occur x y t u h1)
   (fin [(x, t)] _ (if_pos h1).symm)
end
open PySem PySem.Spec PyProof.Rows
noncomputable def ki (z : Str) (n : Nat) : Str := ⟨(List.replicate n z.cps.toList).flatten.toArray⟩
theorem qI (x : Array Nat) : ∀ (n : Nat) (a : Array Nat), (List.replicate n x).foldl (· ++ ·) a = (a.toList ++ (List.replicate n x.toList).flatten).toArray
 | 0, a => by simp
 | n + 1, a => by
  rw [List.replicate_succ, List.foldl_cons, qI x n, List.replicate_succ, List.flatten_cons, Array.toList_append, List.append_assoc]
theorem rg (z : Str) (n : Nat) : (ki z n).length = z.length * n := by
 show (List.replicate n z.cps.toList).flatten.toArray.size = _
 rw [List.size_toArray, List.length_flatten, List.map_replicate, List.sum_replicate_nat, Nat.mul_comm]; rfl
section
variable {X : Cx}
theorem qc : OpR X (binaryOp .Mult) (fun x y H Q => ∃ (z : Str) (k : Int), x = .str z ∧ y = .int k ∧ 0 ≤ k ∧ k ≤ 100 ∧ z.length ≤ 10 ∧ Q (.str (ki z k.toNat)) H) := by
 intro pins s σ H x y v u Q I rx ry h
 obtain ⟨z, k, rfl, rfl, h0, h1, hz, q⟩ := h
 obtain ⟨t, rfl⟩ := rx
 obtain ⟨t', rfl⟩ := ry
 have hm : z.length * k.toNat ≤ 1000 := Nat.le_trans (Nat.mul_le_mul hz (show k.toNat ≤ 100 by omega)) (by decide)
 have hs : z.length * k.toNat ≤ sizeLine := Nat.le_of_lt (bc hm)
 have fin : ∀ w : Str, w = ki z k.toNat → ∀ (t' : Tok) (n : Nat), EP X pins σ Q (.str w t') { s with toks := n } := fun w e t' n => ⟨.str w, H, I.tok _, ⟨_, rfl⟩, e ▸ q⟩
 refine P.mul_str ?_ ?_ ?_ ?_
 ·rw [decide_eq_false (by omega), decide_eq_false (by omega)]; rfl
 ·intro hk _ hgt
  have : (z.length : Int) ≤ (2 ^ 63 - 1) / k := by
   rw [Int.le_ediv_iff_mul_le (by omega)]
   have e : ((z.length * k.toNat : Nat) : Int) = (z.length : Int) * k := by rw [Int.natCast_mul, Int.toNat_of_nonneg h0]
   rw [← e]; omega
  omega
 ·intro _ _
  unfold Builtin.Str.tooLong
  exact decide_eq_false (by omega)
 ·split
  ·have hk0 : k = 0 := by omega
   subst hk0
   exact ⟨by decide, fin Str.empty rfl _ _⟩
  ·split
   ·rename_i h3
    refine fin z ?_ t s.toks
    rcases Bool.or_eq_true_iff.mp h3 with e | e
    ·have : k = 1 := by simpa using e
     rw [this]
     show z = ki z 1
     unfold ki; simp
    ·have e1 : z.length = 0 := by simpa using e
     have e0 : z.cps.toList = [] := List.eq_nil_of_length_eq_zero e1
     unfold ki
     rw [e0]
     have : (List.replicate k.toNat ([] : List Nat)).flatten = [] := by simp
     rw [this]
     obtain ⟨⟨l⟩⟩ := z
     exact congrArg (fun l : List Nat => (⟨⟨l⟩⟩ : Str)) e0
   ·have hv : (⟨(List.replicate k.toNat z.cps).foldl (· ++ ·) #[]⟩ : Str) = ki z k.toNat := by
     rw [qI]; rfl
    have hl : (⟨(List.replicate k.toNat z.cps).foldl (· ++ ·) #[]⟩ : Str).length = z.length * k.toNat := by rw [hv, rg]
    exact ⟨by rw [hl]; exact hs, fin _ hv _ _⟩
end
open PySem PyProof.Rows
theorem sW {X : Cx} {K : PySem.W.Frag} (e : X.K = K) : OpR X (compareOp .NotIn) (rIn K true) := by subst e; exact vA
end L2
namespace PySem
open Sem (wp)
namespace F
end F
open Sem (wp)
end PySem
namespace L2
open PySem PySem.W PySem.Spec PyProof.Rows
section
variable {X : Cx} {K : PySem.W.Frag}
theorem Ax (e : X.K = K) : IxR X (rIx K) := by subst e; exact Hn
theorem PS.nox {st : Stmt} {t : TS} (h : PS X.nox st t) : PS X st t := fun pins s σ H D I hw =>
 wpAny_mono (h pins s σ H D (I.wish _) hw) (fun _ _ q => q.unwish) fun _ _ z => False.elim z
end
noncomputable def Ff (K : Frag) (pe : Addr) (cs : List Addr) : Bool := cs.all fun c => kitOne K (.ref c) (.ref pe) == some true && jv K c c
end L2
namespace PySem
open PyProof.Rows
noncomputable def nj (σ : List Str) (v : Str) : List Str := if σ.any (· == v) then σ else σ ++ [v]
noncomputable def ce (val : Nat → Str) (n : Nat) : List Str := ((List.range n).map val).foldl nj []
theorem eX (val : Nat → Str) (i : Nat) : ce val (i + 1) = nj (ce val i) (val i) := by
 unfold ce; rw [List.range_succ, List.map_append, List.foldl_append]; rfl
theorem Bc (σ : List Str) (v k : Str) : (nj σ v).any (· == k) = (σ.any (· == k) || decide (k = v)) := by
 unfold nj
 split
 ·rename_i h
  by_cases e : k = v
  ·subst e; rw [h]; simp
  ·rw [decide_eq_false e, Bool.or_false]
 ·rw [List.any_append]
  congr 1
  by_cases e : k = v
  ·subst e; simp
  ·rw [decide_eq_false e]; simpa using fun z => e z.symm
theorem tN (σ : List Str) (v : Str) : (nj σ v).length = if σ.any (· == v) then σ.length else σ.length + 1 := by
 unfold nj; split <;> simp
theorem lr (val : Nat → Str) : ∀ i, (ce val i).length ≤ i
 | 0 => by simp [ce]
 | i + 1 => by
  rw [eX, tN]
  have := lr val i
  split <;> omega
theorem vv : ∀ {vs : List Value} {ns : List Str}, StrsAre vs ns → ∀ (i : Nat) (v : Value), vs[i]? = some v → ∃ t, v = .str (ns.getD i Str.empty) t
 | _, _, .nil, i, v, h => by simp at h
 | _, _, .cons y t r, 0, v, h => by simp at h; exact ⟨t, by rw [← h]; rfl⟩
 | _, _, .cons y t r, i + 1, v, h => by
  obtain ⟨t', e⟩ := vv r i v (by simpa using h)
  exact ⟨t', by rw [e]; simp⟩
section
variable {prog : Program} {w : World} {A : Around} {R : Result → Shared → Prop} {I : Addr} {fp wr : List Addr} {G : Array GenState → Array GenState → Prop} {n : Nat} {P : Nat → Value → Prop} {St : Nat → Shared → Prop}
theorem tT (W : WalksS prog w A.in1 I fp wr G n P St) (S : Addr) (nSf : S ∉ fp) (val : Nat → Str) (hv : ∀ i v, P i v → ∃ t, v = .str (val i) t) (hb : n + 1 < scanBound) :
  ∀ (k i : Nat) (s : Shared), n - i = k → i ≤ n → St i s → s.heap.SetOf (strKind prog w) S (fun z => (ce val i).any (· == z)) (ce val i).length →
   (∀ s', Moved (S :: wr) G s s' → s'.heap.SetOf (strKind prog w) S (fun z => (ce val n).any (· == z)) (ce val n).length → R (.ok (.ret .none)) s') →
   codeAny (model prog w) A (.builtin "set.update.loop" ⟨[.ref S, .ref I], []⟩) R s := by
 have nSw : S ∉ wr := fun h => nSf (W.sub _ h)
 have up : ∀ b ∈ wr, b ∈ S :: wr := fun b hb => List.mem_cons_of_mem _ hb
 intro k
 induction k with
 | zero =>
  intro i s hk hi st zs fin
  have e : i = n := by omega
  subst e
  refine codeAny_builtin F.entry_set_update_loop ?_
  rw [Around.under_plainId F.plain_set_update_loop _]
  show wpAny _ A.in1 (pyNext (.ref I) >>= _) _ _ s
  refine wpAny_bind (W.done s _ _ st fun s' mv => ?_)
  show wpAny _ A.in1 (ret Value.none) _ _ s'
  exact wpAny_pure (fin s' (mv.mono up) (let ⟨o, es, ep, t, ho, rr⟩ := zs; ⟨o, es, ep, t, mv.heap S _ nSw ho, rr⟩))
 | succ k ih =>
  intro i s hk hi st zs fin
  have lt : i < n := by omega
  refine codeAny_builtin F.entry_set_update_loop ?_
  rw [Around.under_plainId F.plain_set_update_loop _]
  show wpAny _ A.in1 (pyNext (.ref I) >>= _) _ _ s
  refine wpAny_bind (W.item i s _ _ lt st fun v s' hp st' mv => ?_)
  obtain ⟨t, rfl⟩ := hv i v hp
  have zs' : s'.heap.SetOf (strKind prog w) S (fun z => (ce val i).any (· == z)) (ce val i).length := let ⟨o, es, ep, tb, ho, rr⟩ := zs; ⟨o, es, ep, tb, mv.heap S _ nSw ho, rr⟩
  show wpAny _ A.in1 (holding [Value.str (val i) t] (setAdd S (.str (val i) t)) >>= _) _ _ s'
  refine wpAny_bind (wpAny_holding ?_)
  unfold setAdd
  refine wpAny_holding ?_
  refine wpAny_bind ((strKind prog w).pyHash (k := val i) (strKind_is _ _ _ _) ?_)
  have room : (ce val i).length + 1 < scanBound := by have := lr val i; omega
  refine wpAny_setAddHashed_of (knd := strKind prog w) (s := { s' with toks := s'.toks + 1 }) (strKind_is _ _ _ _) rfl zs' room fun h' sb z2 => ?_
  have z3 : h'.SetOf (strKind prog w) S (fun z => (ce val (i + 1)).any (· == z)) (ce val (i + 1)).length := SetOf_congr z2 (fun z => by rw [eX, Bc]) (by rw [eX, tN])
  refine wpAny_pure ⟨plainId_quiet F.plain_set_update_loop _, ih (i + 1) _ (by omega) lt (W.frame _ s' _ _ st' (Nat.le_succ _) fun b hb o e => ?_) z3 fun s'' mv' z4 => ?_⟩
  ·rw [sb.2 b (fun h : b = S => nSf (by rw [← h]; exact hb))]; exact e
  ·refine fin s'' (Moved.trans W.gtrans ((mv.mono up).then_heap (Nat.le_succ _) fun b o hb e => ?_) mv') z4
   rw [sb.2 b (fun h : b = S => hb (by rw [h]; exact List.mem_cons_self))]; exact e
end
namespace F
theorem sv_sub1 : isSubtype (.type "tuple") (.type "set") = pure false := by rw [isSubtype_type]; kernel_rfl
theorem sv_sub2 : isSubtype (.type "tuple") (.type "frozenset") = pure false := by rw [isSubtype_type]; kernel_rfl
end F
section
variable {prog : Program} {w : World} {A : Around} {E : Value → Shared → Prop} {s : Shared}
noncomputable abbrev gh (led : Bool) : Obj := { cls := .type "set", dict := none, data := .set #[] 0 (.fresh 0 0 led) }
theorem CK {l : Addr} {Z : Heap → Prop} {Q : Value → Shared → Prop} (hw : ∀ led, wpAny (model prog w) A.in1.in1 (Builtin.«set.__init__» { pos := [Value.ref s.heap.objs.size] ++ ({ pos := [Value.ref l] } : Args).pos })
   (fun fin s' => match fin with
    | .done f => wants (fun r s₂ => r = .none ∧ ∃ h' tk, s₂ = { s with heap := h', toks := tk } ∧ Z h') E (.ok f) s'
    | .again c' => c'.quiet = true ∧ codeAny (model prog w) A.in1 c' (wants (fun r s₂ => r = .none ∧ ∃ h' tk, s₂ = { s with heap := h', toks := tk } ∧ Z h') E) s')
   (fun e s' => wants (fun r s₂ => r = .none ∧ ∃ h' tk, s₂ = { s with heap := h', toks := tk } ∧ Z h') E (.error e) s') { s with heap := s.heap.push (gh led) })
  (h : ∀ (h' : Heap) (tk : Nat), Z h' → Q (.ref s.heap.objs.size) { s with heap := h', toks := tk }) : wpAny (model prog w) A (call (.type "set") [.ref l]) Q E s := by
 obtain ⟨c, tl, hmro⟩ := F.called_set.mro
 have hmade := F.called_set.made
 have hsub := F.called_set.sub
 refine wpAny_call (codeAny_of_tree ?_)
 show wpAny _ _ (callAny (.type "set") _) _ _ _
 refine wpAny_pure ⟨Code.quiet_builtin _ (by decide +kernel), codeAny_builtin F.entry_type_call ?_⟩
 rw [Around.under_plain (weight_type_call_type "set" [.ref l] []) rfl]
 have h1 := F.called_set.notType
 have h2 := F.called_set.canCreate
 have hct := F.typeCall_set_1 (.ref l)
 repeat (any_goals (first | assumption | wp_step))
 refine codeAny_mono (code_set_new_1 (.ref l) (E := E) (Q₁ := fun obj t => ∃ led : Bool, obj = .ref s.heap.objs.size ∧ t = { s with heap := s.heap.push (gh led) }) fun led => ⟨led, rfl, rfl⟩) fun r s₁ hr => ?_
 cases r with
 | error e => exact hr
 | ok fl =>
  cases fl with
  | ret obj =>
   obtain ⟨led, rfl, rfl⟩ := hr
   have hS : (s.heap.push (gh led)).get? s.heap.objs.size = some (gh led) := Heap.get?_push_size _ rfl
   have hT : Shared.TypeIs { s with heap := s.heap.push (gh led) } (.ref s.heap.objs.size) "set" := ⟨_, hS, rfl⟩
   have hli := F.called_set.init.lookup
   have hbi := F.called_set.init.bind (.ref s.heap.objs.size)
   repeat (any_goals (first | assumption | wp_step))
   refine codeAny_mono (codeAny_call_builtin (R := wants (fun r s₂ => r = .none ∧ ∃ h' tk, s₂ = { s with heap := h', toks := tk } ∧ Z h') E) F.called_set.init.plain F.entry_set_init (check_set_init_1 hT (hw led))) fun r₂ s₂ hr₂ => ?_
   cases r₂ with
   | error e => exact hr₂
   | ok fl₂ =>
    cases fl₂ with
    | ret r =>
     obtain ⟨rfl, h', tk, rfl, hz⟩ := hr₂
     repeat (any_goals (first | assumption | wp_step))
     exact h _ _ hz
    | _ => exact hr₂.elim
  | _ => exact hr.elim
theorem Bj {l : Addr} {items : Array Value} {ns : List Str} {Q : Value → Shared → Prop} (hh : A.handled = none) (hl : s.heap.IsTuple l items) (hi : StrsAre items.toList ns) (hb : items.size + 1 < scanBound)
  (h : ∀ (h' : Heap) (tk : Nat), h'.SetOf (strKind prog w) s.heap.objs.size (fun z => (ce (fun i => ns.getD i Str.empty) items.size).any (· == z)) (ce (fun i => ns.getD i Str.empty) items.size).length →
   (∀ b o, b < s.heap.objs.size → s.heap.get? b = some o → h'.get? b = some o) → Q (.ref s.heap.objs.size) { s with heap := h', toks := tk }) :
  wpAny (model prog w) A (call (.type "set") [.ref l]) Q E s :=
 CK (Z := fun h' => h'.SetOf (strKind prog w) s.heap.objs.size (fun z => (ce (fun i => ns.getD i Str.empty) items.size).any (· == z)) (ce (fun i => ns.getD i Str.empty) items.size).length ∧ ∀ b o, b < s.heap.objs.size → s.heap.get? b = some o → h'.get? b = some o) (fun led => by
  have hS : (s.heap.push (gh led)).get? s.heap.objs.size = some (gh led) := Heap.get?_push_size _ rfl
  have hT : Shared.TypeIs { s with heap := s.heap.push (gh led) } (.ref s.heap.objs.size) "set" := ⟨_, hS, rfl⟩
  obtain ⟨ol, hol, hcl, nl, hdl⟩ := hl
  obtain ⟨ocls, odict, odata, oslots⟩ := ol
  simp only at hcl hdl
  subst hcl; subst hdl
  have hol' : (s.heap.push (gh led)).get? l = some { cls := .type "tuple", dict := odict, data := .seq items nl, slots := oslots } := Heap.get?_push_of_some _ hol
  have hsls := F.sv_sub1
  have hslf := F.sv_sub2
  have hne : (Value.type "tuple" == Value.type "dict") = false := by decide
  have hl1 : (s.heap.push (gh led)).IsTuple l items := ⟨_, hol', rfl, nl, rfl⟩
  unfold Builtin.«set.__init__» noKeywords Builtin.Frozenset.updateFrom
  generalize hPI : pyIter = PI
  wp_walk
  subst hPI
  refine wpAny_pyIter_tuple hl1 ?_
  refine wpAny_bind (wpAny_runValue ?_)
  have hlS : l < s.heap.objs.size := Heap.lt_size hol
  have hh3 : A.in1.in1.in1.handled = none := by simp [hh]
  have hneI : l ≠ (s.heap.push (gh led)).objs.size := by
   rw [Heap.size_push]; exact Nat.ne_of_lt (Nat.lt_succ_of_lt hlS)
  have hSf : s.heap.objs.size ∉ [(s.heap.push (gh led)).objs.size, l] := by
   rw [Heap.size_push]; simp only [List.mem_cons, List.mem_singleton, List.not_mem_nil, or_false, not_or]
   exact ⟨Nat.ne_of_lt (Nat.lt_succ_self _), Nat.ne_of_gt hlS⟩
  have hval : ∀ (i : Nat) (v : Value), items[i]? = some v → ∃ t, v = .str ((fun i => ns.getD i Str.empty) i) t := fun i v hv => vv hi i v (by rw [Array.getElem?_toList]; exact hv)
  refine tT ((Walks.tuple hh3 _ l hneI items).toS) s.heap.objs.size hSf (fun i => ns.getD i Str.empty) hval hb (items.size - 0) 0 _ (by omega) (Nat.zero_le _)
   ⟨⟨_, Heap.get?_push_size _ rfl, rfl, rfl⟩, ⟨_, Heap.get?_push_of_some _ hol', rfl, nl, rfl⟩⟩ ?hS0 ?hR
  case hS0 =>
   have hget : ((s.heap.push (gh led)).push { cls := .type "tuple_iterator", data := .fields #[.ref l, .int 0 0] }).get? s.heap.objs.size = some (gh led) := Heap.get?_push_of_some _ hS
   exact SetOf_congr ((setObjOf_fresh (knd := strKind prog w) led).setOf hget (by unfold scanBound; omega)) (fun _ => rfl) rfl
  case hR =>
   intro s' hm hS'
   obtain ⟨h', g', d', tk', os'⟩ := s'
   have eg : g' = s.gens := hm.gens
   have ed : d' = s.drawn := hm.drawn
   have eo : os' = s.os := hm.os
   subst eg; subst ed; subst eo
   show wpAny _ _ _ _ _ _
   refine wpAny_pure ?_
   show wpAny _ _ (ret Value.none) _ _ _
   refine wpAny_pure ⟨rfl, h', tk', rfl, hS', fun b o hb e => ?_⟩
   have hb1 : b ≠ s.heap.objs.size := Nat.ne_of_lt hb
   have hb2 : b ≠ (s.heap.push (gh led)).objs.size := by
    rw [Heap.size_push]; exact Nat.ne_of_lt (Nat.lt_succ_of_lt hb)
   exact hm.heap b o (by simp only [List.mem_cons, List.mem_singleton, List.not_mem_nil, or_false, not_or]; exact ⟨hb1, hb2⟩) (Heap.get?_push_of_some _ (Heap.get?_push_of_some _ e))
) fun h' tk z => h h' tk z.1 z.2
end
namespace F
theorem svl_sub1 : isSubtype (.type "list") (.type "set") = pure false := by rw [isSubtype_type]; kernel_rfl
theorem svl_sub2 : isSubtype (.type "list") (.type "frozenset") = pure false := by rw [isSubtype_type]; kernel_rfl
end F
section
variable {prog : Program} {w : World} {A : Around} {E : Value → Shared → Prop} {s : Shared}
theorem zI {l : Addr} {items : Array Value} {ns : List Str} {Q : Value → Shared → Prop} (hh : A.handled = none) (hl : s.heap.IsList l items) (hi : StrsAre items.toList ns) (hb : items.size + 1 < scanBound)
  (h : ∀ (h' : Heap) (tk : Nat), h'.SetOf (strKind prog w) s.heap.objs.size (fun z => (ce (fun i => ns.getD i Str.empty) items.size).any (· == z)) (ce (fun i => ns.getD i Str.empty) items.size).length →
   (∀ b o, b < s.heap.objs.size → s.heap.get? b = some o → h'.get? b = some o) → Q (.ref s.heap.objs.size) { s with heap := h', toks := tk }) :
  wpAny (model prog w) A (call (.type "set") [.ref l]) Q E s :=
 CK (Z := fun h' => h'.SetOf (strKind prog w) s.heap.objs.size (fun z => (ce (fun i => ns.getD i Str.empty) items.size).any (· == z)) (ce (fun i => ns.getD i Str.empty) items.size).length ∧ ∀ b o, b < s.heap.objs.size → s.heap.get? b = some o → h'.get? b = some o) (fun led => by
  have hS : (s.heap.push (gh led)).get? s.heap.objs.size = some (gh led) := Heap.get?_push_size _ rfl
  have hT : Shared.TypeIs { s with heap := s.heap.push (gh led) } (.ref s.heap.objs.size) "set" := ⟨_, hS, rfl⟩
  obtain ⟨ol, hol, hcl, nl, hdl⟩ := hl
  obtain ⟨ocls, odict, odata, oslots⟩ := ol
  simp only at hcl hdl
  subst hcl; subst hdl
  have hol' : (s.heap.push (gh led)).get? l = some { cls := .type "list", dict := odict, data := .seq items nl, slots := oslots } := Heap.get?_push_of_some _ hol
  have hsls := F.svl_sub1
  have hslf := F.svl_sub2
  have hne : (Value.type "list" == Value.type "dict") = false := by decide
  have hl1 : (s.heap.push (gh led)).IsList l items := ⟨_, hol', rfl, nl, rfl⟩
  unfold Builtin.«set.__init__» noKeywords Builtin.Frozenset.updateFrom
  generalize hPI : pyIter = PI
  wp_walk
  subst hPI
  refine wpAny_pyIter_list hl1 ?_
  refine wpAny_bind (wpAny_runValue ?_)
  have hlS : l < s.heap.objs.size := Heap.lt_size hol
  have hh3 : A.in1.in1.in1.handled = none := by simp [hh]
  have hneI : l ≠ (s.heap.push (gh led)).objs.size := by
   rw [Heap.size_push]; exact Nat.ne_of_lt (Nat.lt_succ_of_lt hlS)
  have hSf : s.heap.objs.size ∉ [(s.heap.push (gh led)).objs.size, l] := by
   rw [Heap.size_push]; simp only [List.mem_cons, List.mem_singleton, List.not_mem_nil, or_false, not_or]
   exact ⟨Nat.ne_of_lt (Nat.lt_succ_self _), Nat.ne_of_gt hlS⟩
  have hval : ∀ (i : Nat) (v : Value), items[i]? = some v → ∃ t, v = .str ((fun i => ns.getD i Str.empty) i) t := fun i v hv => vv hi i v (by rw [Array.getElem?_toList]; exact hv)
  refine tT ((Walks.list hh3 _ l hneI items).toS) s.heap.objs.size hSf (fun i => ns.getD i Str.empty) hval hb (items.size - 0) 0 _ (by omega) (Nat.zero_le _)
   ⟨⟨_, Heap.get?_push_size _ rfl, rfl, rfl⟩, ⟨_, Heap.get?_push_of_some _ hol', rfl, nl, rfl⟩⟩ ?hS0 ?hR
  case hS0 =>
   have hget : ((s.heap.push (gh led)).push { cls := .type "list_iterator", data := .fields #[.ref l, .int 0 0] }).get? s.heap.objs.size = some (gh led) := Heap.get?_push_of_some _ hS
   exact SetOf_congr ((setObjOf_fresh (knd := strKind prog w) led).setOf hget (by unfold scanBound; omega)) (fun _ => rfl) rfl
  case hR =>
   intro s' hm hS'
   obtain ⟨h', g', d', tk', os'⟩ := s'
   have eg : g' = s.gens := hm.gens
   have ed : d' = s.drawn := hm.drawn
   have eo : os' = s.os := hm.os
   subst eg; subst ed; subst eo
   show wpAny _ _ _ _ _ _
   refine wpAny_pure ?_
   show wpAny _ _ (ret Value.none) _ _ _
   refine wpAny_pure ⟨rfl, h', tk', rfl, hS', fun b o hb e => ?_⟩
   have hb1 : b ≠ s.heap.objs.size := Nat.ne_of_lt hb
   have hb2 : b ≠ (s.heap.push (gh led)).objs.size := by
    rw [Heap.size_push]; exact Nat.ne_of_lt (Nat.lt_succ_of_lt hb)
   exact hm.heap b o (by simp only [List.mem_cons, List.mem_singleton, List.not_mem_nil, or_false, not_or]; exact ⟨hb1, hb2⟩) (Heap.get?_push_of_some _ (Heap.get?_push_of_some _ e))
) fun h' tk z => h h' tk z.1 z.2
end
end PySem
namespace L2
open PySem PySem.W PySem.Spec PyProof.Rows
theorem lV : ∀ {ts : List Str} {its : List Value}, bE (ts.map V.str) its → StrsAre its ts
 | [], _, .nil => .nil
 | x :: ts, _, .cons ⟨t, e⟩ r => by
  subst e
  exact .cons x t (lV r)
noncomputable def dQ (ns : List Str) : Nat := (ce (fun i => ns.getD i Str.empty) ns.length).length
theorem uk {X : Cx} {e : Expr} {t : TE} {p1 p2 pos2 pos : Pos} (hg1 : Gl X "len") (n1 : X.mg "len" = none) (b1 : bootBuiltins "len" = some (.builtin "len")) (hg2 : Gl X "set") (n2 : X.mg "set" = none) (b2 : bootBuiltins "set" = some (.type "set")) (he : PE X e t) (hc : X.calm = true := by rfl)
  (hs : starEach [e] X.env = [(false, eval e X.env)] := by rfl) :
  PE X (.Call (.Name "len" p1) [.Call (.Name "set" p2) [e] [] pos2] [] pos) (fun σ H Q => t σ H fun x H1 => ∃ (p : Addr) (ns : List Str), x = .ref p ∧ SqT X.K H1 p (ns.map V.str) ∧ ns.length ≤ 100 ∧ Q (.int (dQ ns)) H1) := by
 intro pins s σ H Q I h
 refine wpAny_Call_Name_kw (jz I hg1 n1 b1 ?_)
 refine PyProof.Rows.callWith_builtin1 ?_ rfl rfl
 show wpAny _ _ (spliced ((false, eval (.Call (.Name "set" p2) [e] [] pos2) X.env) :: backTo pos (starEach [] X.env))) _ _ s
 refine Calls.spliced_cons ?_
 refine wpAny_Call_Name_kw (jz I hg2 n2 b2 ?_)
 refine PyProof.Rows.callWith_type1 ?_ hs rfl
 rw [hs]
 show wpAny _ _ (spliced ((false, eval e X.env) :: backTo pos2 (starEach [] X.env))) _ _ s
 refine Calls.spliced_cons (thn (he pins s σ H _ I h) fun u s1 ⟨x, H1, I1, r1, p, ns, ex, hq, hn, q⟩ => ?_)
 subst ex
 cases r1
 refine Calls.spliced_nil ?_
 obtain ⟨its, rv, pl, hz⟩ := I1.tuple hq
 have hlen := rv.length
 rw [List.length_map] at hlen
 have pt : s1.heap.IsTuple p its.toArray := pl
 have esz : its.toArray.size = ns.length := by simp [hlen]
 refine Bj (I1.ok.hd hc) pt (by simpa using lV rv) (by rw [esz]; unfold scanBound; omega) fun h' tk zs kp => ?_
 refine Calls.spliced_nil ?_
 obtain ⟨o, es, ep, tb, ho, ex, hd, _, _, _, hf, en⟩ := zs
 rw [esz] at en
 have le := lr (fun i => ns.getD i Str.empty) ns.length
 refine call_len_set (s := { s1 with heap := h', toks := tk }) ho ex hd hf (by rw [en]; omega) ?_
 refine ⟨.int (dQ ns), H1, I1.kept (t' := tk + 1 + 1) fun b o eb => kp b o (Heap.lt_size eb) eb, ⟨_, by rw [en]; rfl⟩, q⟩
noncomputable def Itc (z : Str) : It :=
 ⟨fun i _ => i < z.cps.size, fun i H v H' => H' = H ∧ ∃ c, v = .str ⟨#[c]⟩ ∧ z.cps[i]? = some c, fun i _ => z.cps.size ≤ i⟩
theorem Fq {P : Program} {w : World} {A : Around} (hh : A.handled = none) (it : Addr) (z : Str) (t : Tok) : Walks P w A it [it] [it] z.cps.size (SignAt z) (fun i h => h.IsStrIter it (strIterType z) z t i) := by
 cases ha : z.cps.all (· < 128)
 ·rw [show strIterType z = "str_iterator" by simp [strIterType, ha]]; exact Walks.strWide hh it z t
 ·rw [show strIterType z = "str_ascii_iterator" by simp [strIterType, ha]]; exact Walks.strAscii hh it z t
theorem CY {P : Program} {w : World} {K : PySem.W.Frag} {tg : Expr} (z : Str) (t : Tok) (it : Addr) : Turn P w K tg (Itc z) [it] it (fun i h => i ≤ z.cps.size ∧ h.IsStrIter it (strIterType z) z t i) where
 mem := by simp
 obj := fun i h st b hb => by
  have e : b = it := by simpa using hb
  subst e
  obtain ⟨_, o, e, c, d⟩ := st
  exact ⟨o, e, fun v z => by rw [d] at z; cases z⟩
 keep := fun i h h' st k => ⟨st.1, let ⟨o, ho, r⟩ := st.2; ⟨o, k it (by simp) o ho, r⟩⟩
 item := by
  intro X hP hw hK hc i pins s σ H E I hf st hg
  subst hP hw hK
  obtain ⟨f0, f1, f2, f3, f4, f5⟩ := hf it (by simp)
  refine (Fq (I.ok.hd hc) it z t).item i s _ _ hg st.2 fun v h' tk pv st' kp => ?_
  obtain ⟨c, u, ec, rfl⟩ := pv
  have I1 : Inv X pins σ H { s with heap := h', toks := tk } := I.turned (t' := tk) (fun b o hb e => kp b o (by simpa using hb) e) f0 f1 f3 f4 f5
  obtain ⟨o, e, cl, d⟩ := id st'
  refine ⟨_, rfl, ?_⟩
  cases ha : z.cps.all (· < 128)
  ·rw [show strIterType z = "str_iterator" by simp [strIterType, ha]] at cl
   exact qz (s := { s with heap := h', toks := tk }) e cl d (by decide) ⟨.str ⟨#[c]⟩, H, I1, ⟨_, rfl⟩, ⟨rfl, c, rfl, ec⟩, ⟨hg, st'⟩, fun b hb => (hf b hb).1⟩
  ·rw [show strIterType z = "str_ascii_iterator" by simp [strIterType, ha]] at cl
   exact qz (s := { s with heap := h', toks := tk }) e cl d (by decide) ⟨.str ⟨#[c]⟩, H, I1, ⟨_, rfl⟩, ⟨rfl, c, rfl, ec⟩, ⟨hg, st'⟩, fun b hb => (hf b hb).1⟩
 done := by
  intro X hP hw hK hc i pins s σ H E I hf st hg
  subst hP hw hK
  obtain ⟨f0, f1, f2, f3, f4, f5⟩ := hf it (by simp)
  have e : i = z.cps.size := Nat.le_antisymm st.1 hg
  subst e
  exact (Fq (I.ok.hd hc) it z t).done s _ _ st.2 fun h' tk kp => ⟨rfl, I.turned (t' := tk) (fun b o hb e => kp b o (by simpa using hb) e) f0 f1 f3 f4 f5⟩
 self := fun A i s Q E st h => by
  cases ha : z.cps.all (· < 128)
  ·have s2 := st.2
   rw [show strIterType z = "str_iterator" by simp [strIterType, ha]] at s2
   exact wpAny_pyIter_striter_wide s2 h
  ·have s2 := st.2
   rw [show strIterType z = "str_ascii_iterator" by simp [strIterType, ha]] at s2
   exact wpAny_pyIter_striter_ascii s2 h
section
variable {X : Cx} {tg : Expr}
noncomputable def IY (tl : TE) : TI := fun σ H R => tl σ H fun x H1 => ∃ z : Str, x = .str z ∧ R (Itc z) H1
theorem vo {l : Expr} {tl : TE} (hl : PE X l tl) : PI X tg l (IY tl) := by
 intro pins s σ H R I h
 refine thn (hl pins s σ H _ I h) fun v s1 ⟨x, H1, I1, r1, q1⟩ => ?_
 obtain ⟨z, e, q⟩ := q1
 subst e
 obtain ⟨t, rfl⟩ := r1
 refine wpAny_pyIter_strU ?_
 refine ⟨s1.heap.objs.size, [s1.heap.objs.size], _, _, H1, rfl, I1.kept (t' := s1.toks) fun b o e => Heap.get?_push_of_some _ e, CY z t _, ⟨Nat.zero_le _, ⟨_, Heap.get?_push_size _ rfl, rfl, rfl⟩⟩, fun b hb => ?_, q⟩
 have e : b = s1.heap.objs.size := by simpa using hb
 subst e
 exact I1.fpOk (Nat.le_refl _) (I1.hok.fresh (Nat.le_refl _))
end
section
variable {z : Str} {y : Str} {cap : List Nat} {tt : TT} {te : TE} {σ : St} {Z : List V → Hp → Prop} {H1 : Hp}
theorem EL (f : Nat → V) (hz : z.cps.size < sizeLine) (he : ∀ c, ∀ Q : VK, Q (f c) H1 → te ((fw [y] cap σ).set 0 (some (.str ⟨#[c]⟩))) H1 Q) (hd : Z (z.cps.toList.map f) H1) : uJ [y] cap (bp 0) oP te σ Z (Itc z) H1 := by
 refine ⟨fun i m acc H => m = z.cps.size - i ∧ i ≤ z.cps.size ∧ acc = (z.cps.toList.take i).map f ∧ H = H1, ⟨_, rfl, Nat.zero_le _, by simp, rfl⟩, ?_⟩
 rintro i m acc H ⟨rfl, hi, rfl, rfl⟩
 refine ⟨by rw [List.length_map, List.length_take, Array.length_toList]; omega, ?_⟩
 by_cases hlt : i < z.cps.size
 ·refine .inr ⟨hlt, fun x H3 yl => ?_⟩
  obtain ⟨e, c, rfl, ec⟩ := yl
  subst e
  refine ⟨sC y cap σ _, ?_⟩
  unfold oP
  dsimp only
  rw [if_pos rfl]
  refine he c _ ⟨z.cps.size - (i + 1), by omega, rfl, hlt, ?_, rfl⟩
  have ec' : z.cps.toList[i]? = some c := by simpa using ec
  rw [List.take_add_one, ec']
  simp
 ·have e : i = z.cps.size := by omega
  subst e
  refine .inl ⟨Nat.le_refl _, ?_⟩
  rw [show z.cps.size = z.cps.toList.length from (Array.length_toList).symm, List.take_length]
  exact hd
end
noncomputable def ut (K : Frag) (a : Addr) (ss : List Str) : Bool := match K.lookup a with
 | some ⟨.type "tuple", _, .seq its _, _⟩ => decide (its.size ≤ 1000) && (its.toList.map fun v => match v with | .str x _ => some x | _ => none) == ss.map some
 | _ => false
theorem rb {K : Frag} {a : Addr} {ss : List Str} (h : ut K a ss = true) (H : Hp) : SqT K H a (ss.map V.str) := by
 unfold ut at h
 split at h
 ·rename_i od its n sl e
  rw [Bool.and_eq_true] at h
  obtain ⟨h1, h2⟩ := h
  have h3 := beq_iff_eq.mp h2
  refine .inr ⟨_, its, n, e, rfl, rfl, Nat.le_of_lt (bc (of_decide_eq_true h1)), ?_⟩
  generalize its.toList = l at h3
  clear h1 h2 e
  induction l generalizing ss with
  | nil => cases ss with
   | nil => exact .nil
   | cons _ _ => cases h3
  | cons v l ih => cases ss with
   | nil => cases h3
   | cons x ss =>
    rw [List.map_cons, List.map_cons] at h3
    injection h3 with h4 h5
    refine .cons ?_ (ih h5)
    cases v <;> first | cases h4 | skip
    exact ⟨_, rfl⟩
 ·cases h
open PySem PySem.W PyProof.Rows
noncomputable def Fl (K : PySem.W.Frag) : R2 := fun x y H Q => ∃ a b xs ys, x = .ref a ∧ y = .ref b ∧ SqT K H a xs ∧ SqT K H b ys ∧ xs.length + ys.length ≤ sizeLine ∧ (xs = [] → Q (.ref b) H) ∧ (xs ≠ [] → ys = [] → Q (.ref a) H) ∧ (xs ≠ [] → ys ≠ [] → ∀ p, H p = none → Q (.ref p) (upd H p (.tup (xs ++ ys))))
section
variable {X : Cx}
theorem DP {A : Around} {E : Value → Shared → Prop} {P : Program} {w : World} {s : Shared} {t b : Addr} {ws : List Value} {Q : Value → Shared → Prop} (ht : IsTup s.heap t ([] : List Value).toArray) (hb : IsTup s.heap b ws.toArray) (h : Q (.ref b) s) : wpAny (model P w) A (binaryOp .Add (.ref t) (.ref b)) Q E s := by
 obtain ⟨⟨c1, d1, a1, l1⟩, ho, hc, n, hd⟩ := id ht
 obtain ⟨⟨c2, d2, a2, l2⟩, ho2, hc2, n2, hd2⟩ := id hb
 simp only at hc hd hc2 hd2
 subst hc hd hc2 hd2
 exact concat_meets ⟨_, ho, rfl⟩ ⟨_, ho2, rfl⟩ noFill_tuple_add seq_tuple_add PySem.F.slot_tuple_add PySem.F.entry_tuple_add (PySem.F.args_tuple_add_2 _ _) (tuple_addW0 t b _ ws.toArray n n2 d1 d2 l1 l2 rfl) ⟨ho, ho2, h⟩
theorem mH : OpR X (binaryOp .Add) (Fl X.K) := by
 intro pins s σ H x y v u Q I rx ry h
 obtain ⟨a, b, xs, ys, rfl, rfl, ha, hb, hz, q0, q1, q2⟩ := h
 cases rx
 cases ry
 obtain ⟨its, r1, p1, _⟩ := I.tuple ha
 obtain ⟨its2, r2, p2, _⟩ := I.tuple hb
 by_cases hx : xs = []
 ·have e : its = [] := r1.nil_iff.mpr hx
  subst e
  exact DP p1 p2 ⟨.ref b, H, I, rfl, q0 hx⟩
 ·refine HT.cat_tup p1 p2 (fun z => hx (r1.nil_iff.mp z)) (fun z => ⟨.ref a, H, I, rfl, q1 hx (r2.nil_iff.mp z)⟩) (fun z => ?_) (by rw [← r1.length, ← r2.length]; exact hz)
  refine ⟨.ref s.heap.objs.size, _, I.laid (t' := s.toks) (o := .tup (xs ++ ys)) (fun b ob q => Heap.get?_push_of_some _ q) (Nat.le_refl _) ?_, rfl, q2 hx (fun w => z (r2.nil_iff.mpr w)) _ (I.hok.fresh (Nat.le_refl _))⟩
  exact ⟨by rw [List.length_append]; exact hz, its ++ its2, r1.append r2, IsTup.new _ _⟩
end
open PySem PySem.W PySem.Spec PySem.Calls PyProof.Rows
open Builtin Builtin.Str
theorem DE : (100000 : Nat) ≤ sizeLine := by decide
end L2
namespace PySem
open Sem (wp)
namespace F
end F
end PySem
namespace L2
open PySem PySem.W PySem.Spec PySem.Calls PyProof.Rows
end L2
namespace PySem
open PySem.W
end PySem
namespace L2
open PySem PySem.Spec PySem.Calls PyProof.Rows
end L2
namespace PySem
end PySem
namespace L2
open PySem PySem.Spec PySem.Calls PyProof.Rows
end L2
namespace PySem.W
open PySem PySem.Calls PyProof.Rows PyProof.V PySem.Spec
end PySem.W
namespace L2
open PySem PySem.Spec PySem.Calls PyProof.Rows PySem.W
open PySem PySem.Spec PySem.Calls PyProof.Rows
open PySem PySem.W PySem.Spec PySem.Calls PyProof.Rows
section
variable {X : Cx}
noncomputable def Cu (lo st : Int) (n : Nat) : It := ⟨fun i _ => i < n, fun i H x H' => H' = H ∧ x = .int (lo + i * st), fun i _ => n ≤ i⟩
theorem xS {P : Program} {w : World} {K : PySem.W.Frag} {tg : Expr} (it : Addr) (lo st : Int) (n : Nat) : Turn P w K tg (Cu lo st n) [it] it (fun i h => IsRangeIter h it (lo + (i : Nat) * st) ((n : Int) - (i : Nat)) st) where
 mem := by simp
 obj := fun i h st b hb => by
  have e : b = it := by simpa using hb
  subst e
  exact ⟨_, st, fun v z => by
   have z' : Data.fields _ = Data.cell v := z
   cases z'⟩
 keep := fun i h h' st k => k it (by simp) _ st
 item := by
  intro X hP hw hK hc i pins s σ H E I hf sti hg
  subst hP hw hK
  obtain ⟨f0, f1, f2, f3, f4, f5⟩ := hf it (by simp)
  have W := Walks.range (prog := X.prog) (w := X.w) (I.ok.hd hc) it lo st n
  refine W.item i s _ _ hg sti fun v h' tk hv st' kk => ?_
  obtain ⟨t, rfl⟩ := hv
  have I1 : Inv X pins σ H { s with heap := h', toks := tk } := I.turned (fun b o hb e => kk b o (by simpa using hb) e) f0 f1 f3 f4 f5
  exact ⟨_, rfl, qz (s := { s with heap := h', toks := tk }) (n := "range_iterator") st' rfl rfl (by decide) ⟨.int (lo + i * st), H, I1, ⟨t, rfl⟩, ⟨rfl, rfl⟩, st', fun b hb => (hf b hb).1⟩⟩
 done := by
  intro X hP hw hK hc i pins s σ H E I hf sti hg
  subst hP hw hK
  obtain ⟨f0, f1, f2, f3, f4, f5⟩ := hf it (by simp)
  exact wpAny_pyNext_range_end (I.ok.hd hc) sti (by have : n ≤ i := hg; omega) fun h' eb => ⟨rfl, I.turned (t' := s.toks) (fun b o hb e => eb b o hb e) f0 f1 f3 f4 f5⟩
 self := fun _ _ _ _ _ st h => wpAny_pyIter_rangeiter st h
variable {tg : Expr}
end
theorem yi {x : Str} {k : NameKind} : ∀ {names : List (Str × NameKind)}, names.lookup x = some k → (x, k) ∈ names
  | [], h => by simp at h
  | (n, k') :: r, h => by
    rw [List.lookup_cons] at h
    cases e : x == n with
    | true => rw [e] at h; cases h; rw [eq_of_beq e]; exact List.mem_cons_self ..
    | false => rw [e] at h; exact List.mem_cons_of_mem _ (yi h)
theorem Blk.re {sc sc' : Scope} {N own : List Str} {cap : List Nat} {env : Env} (B : Blk sc N sc' own cap) (nc : ∀ y ∈ sc.names, y.2 ≠ .cell) : Blk (relabel sc env) N sc' own cap where
 kind := B.kind
 nocell := B.nocell
 names := B.names
 free := fun y hy e => by
  rcases B.free y hy e with h | h
  ·exact absurd rfl (nc _ (yi h))
  ·exact dN h
 capf := B.capf
end L2
namespace HT
open PySem PyProof.Rows
section
variable {prog : Program} {w : World} {A : Around} {E : Value → Shared → Prop} {s : Shared}
theorem getItem_tuple_whole {t sl : Addr} {items : Array Value} {vl vu : Value} {lo hi : Option Int} {Q : Value → Shared → Prop} (ht : IsTup s.heap t items) (hs : s.heap.IsSliceOf sl vl vu .none) (pl : IsPart vl lo) (pu : IsPart vu hi)
  (hw : sIx items.size 0 lo = 0 ∧ sIx items.size items.size hi = items.size) (h : Q (.ref t) s) : wpAny (model prog w) A (getItem (.ref t) (.ref sl)) Q E s := by
 obtain ⟨os, hos, hcs, hds⟩ := id hs
 have hTs : s.TypeIs (.ref sl) "slice" := ⟨os, hos, hcs⟩
 unfold getItem
 try with_reducible refine wpAny_holding ?_
 first | refine wpAny_bind (wpAny_pure ?_) | skip
 refine wpAny_bind (wpAny_sequenceKey ht.typeIs (by decide) ?_)
 refine wpAny_bind (wpAny_callSpecial?_slot (name := Str.ofString "__getitem__") ht.typeIs PyProof.Rows.slot_tuple_getitem
  (wpAny_call_entry PyProof.Rows.slot_tuple_getitem ht.typeIs entry_tuple_getitem ?_ (args_tuple_getitem _ _)))
 show wpAny _ _ (Builtin.Tuple.tupleItemsOf (.ref t) >>= _) _ _ s
 refine wpAny_bind (tupleItemsOf_ ht ?_)
 refine wpAny_bind (wpAny_typeOf hTs ?_)
 rw [if_pos (by decide)]
 refine wpAny_bind (iO hs pl pu ?_)
 have hyes : (((sIx items.size 0 lo : Nat) : Int) == 0 && (1 : Int) == 1 && (sIx items.size items.size hi - sIx items.size 0 lo) == items.size) = true := by
  rw [hw.1, hw.2]; simp
 show wpAny _ _ (if (((sIx items.size 0 lo : Nat) : Int) == 0 && (1 : Int) == 1 && (sIx items.size items.size hi - sIx items.size 0 lo) == items.size) = true then _ else _) _ _ s
 rw [if_pos hyes]
 refine wpAny_bind (m := Builtin.Tuple.tupleIsExact (.ref t)) ?_
 unfold Builtin.Tuple.tupleIsExact
 refine wpAny_bind (wpAny_typeOf ht.typeIs ?_)
 refine wpAny_pure ?_
 rw [if_pos (by rfl)]
 exact wpAny_bind (wpAny_rule (wpAny_pure ⟨_, rfl, wpAny_pure h⟩))
end
end HT
namespace L2
open PySem PySem.Spec PyProof.Rows PySem.W
noncomputable def kin {α : Type} (lt : Nat → Nat → Bool) (n : Nat) : KasT α → Bool
 | .ret _ => true
 | .ask i j k => decide (i < n) && decide (j < n) && kin lt n (k (lt i j))
section
variable {X : Cx}
noncomputable def IZ (K : PySem.W.Frag) : V → Option Int → Option Int → Hp → VK → Prop := fun x lo hi H Q => ∃ a xs, x = .ref a ∧ SqT K H a xs ∧
 ((HT.sIx xs.length 0 lo = 0 ∧ HT.sIx xs.length xs.length hi = xs.length ∧ Q (.ref a) H) ∨ (¬ (HT.sIx xs.length 0 lo = 0 ∧ HT.sIx xs.length xs.length hi = xs.length) ∧ ∀ p, H p = none → Q (.ref p) (upd H p (.tup (gX xs lo hi)))))
theorem EU : SlR X (IZ X.K) := by
 intro pins s σ H x v vl vu lo hi sl Q I rx hs pl pu h
 obtain ⟨a, xs, rfl, hx, h⟩ := h
 rcases h with ⟨h1, h2, q⟩ | ⟨hw, q⟩
 ·cases rx
  obtain ⟨its, r, ht, hz⟩ := I.tuple hx
  have hlen : its.toArray.size = xs.length := by rw [List.size_toArray]; exact r.length.symm
  refine ⟨"tuple", _, PyProof.Rows.slot_tuple_getitem.lookup, ht.typeIs, ?_⟩
  exact HT.getItem_tuple_whole ht hs pl pu (by rw [hlen]; exact ⟨h1, h2⟩) ⟨.ref a, H, I, rfl, q⟩
 ·exact HK pins s σ H _ v vl vu lo hi sl Q I rx hs pl pu ⟨a, xs, rfl, hx, hw, q⟩
end
open PySem PySem.W PySem.Spec PySem.Calls PyProof.Rows
open PySem PySem.Spec PyProof.Rows
theorem yS {X : Cx} {e : Expr} {t : TE} {p1 p2 pos2 pos : Pos} (hg1 : Gl X "len") (n1 : X.mg "len" = none) (b1 : bootBuiltins "len" = some (.builtin "len")) (hg2 : Gl X "set") (n2 : X.mg "set" = none) (b2 : bootBuiltins "set" = some (.type "set")) (he : PE X e t) (hc : X.calm = true := by rfl)
  (hs : starEach [e] X.env = [(false, eval e X.env)] := by rfl) :
  PE X (.Call (.Name "len" p1) [.Call (.Name "set" p2) [e] [] pos2] [] pos) (fun σ H Q => t σ H fun x H1 => ∃ (p : Addr) (ns : List Str), x = .ref p ∧ SqL X.K H1 p (ns.map V.str) ∧ ns.length ≤ 100 ∧ Q (.int (dQ ns)) H1) := by
 intro pins s σ H Q I h
 refine wpAny_Call_Name_kw (jz I hg1 n1 b1 ?_)
 refine PyProof.Rows.callWith_builtin1 ?_ rfl rfl
 show wpAny _ _ (spliced ((false, eval (.Call (.Name "set" p2) [e] [] pos2) X.env) :: backTo pos (starEach [] X.env))) _ _ s
 refine Calls.spliced_cons ?_
 refine wpAny_Call_Name_kw (jz I hg2 n2 b2 ?_)
 refine PyProof.Rows.callWith_type1 ?_ hs rfl
 rw [hs]
 show wpAny _ _ (spliced ((false, eval e X.env) :: backTo pos2 (starEach [] X.env))) _ _ s
 refine Calls.spliced_cons (thn (he pins s σ H _ I h) fun u s1 ⟨x, H1, I1, r1, p, ns, ex, hq, hn, q⟩ => ?_)
 subst ex
 cases r1
 refine Calls.spliced_nil ?_
 obtain ⟨its, rv, pl, hz⟩ := I1.list hq
 have hlen := rv.length
 rw [List.length_map] at hlen
 have pt : s1.heap.IsList p its.toArray := pl.isList
 have esz : its.toArray.size = ns.length := by simp [hlen]
 refine zI (I1.ok.hd hc) pt (by simpa using lV rv) (by rw [esz]; unfold scanBound; omega) fun h' tk zs kp => ?_
 refine Calls.spliced_nil ?_
 obtain ⟨o, es, ep, tb, ho, ex, hd, _, _, _, hf, en⟩ := zs
 rw [esz] at en
 have le := lr (fun i => ns.getD i Str.empty) ns.length
 refine call_len_set (s := { s1 with heap := h', toks := tk }) ho ex hd hf (by rw [en]; omega) ?_
 refine ⟨.int (dQ ns), H1, I1.kept (t' := tk + 1 + 1) fun b o eb => kp b o (Heap.lt_size eb) eb, ⟨_, by rw [en]; rfl⟩, q⟩
end L2
namespace SL
open PySem PyProof.Rows
class Lab where
 lab : Value → Int
section
variable [Lab]
noncomputable def K2 (xs : Array Keyed) (i : Nat) : Int := match xs[i]? with
 | some p => Lab.lab p.2
 | none => 0
end
end SL
namespace L2
open PySem PySem.Spec PyProof.Rows
end L2
namespace PySem
end PySem
namespace L2
open PySem PySem.W PySem.Spec PySem.Calls PyProof.Rows
end L2
namespace PySem.W
open PySem PySem.Calls PyProof.Rows PyProof.V PySem.Spec PySem.SeqAt PySem.MeetsSeq PySem.MeetsSeq2 PySem.MeetsSeq3
end PySem.W
namespace L2
open PySem PySem.W PySem.Spec PySem.Calls PyProof.Rows
end L2
namespace PySem
open AutoSeq1 (wpAny_loadPart')
open MeetsSeq MeetsSeq2 MeetsSeq3 PyProof.Rows
end PySem
namespace L2
open PySem PySem.Spec PyProof.Rows
section
variable {X : Cx}
noncomputable def Fs (K : PySem.W.Frag) : V → Option Int → Option Int → Hp → VK → Prop := fun x lo hi H Q => ∃ a xs, x = .ref a ∧ SqT K H a xs ∧ ∀ p H', ((H' = H ∧ p = a ∧ gX xs lo hi = xs) ∨ (H p = none ∧ H' = upd H p (.tup (gX xs lo hi)))) → Q (.ref p) H'
theorem nH : SlR X (Fs X.K) := by
 intro pins s σ H x v vl vu lo hi sl Q I rx hs pl pu h
 obtain ⟨a, xs, rfl, hx, h⟩ := h
 refine EU pins s σ H _ v vl vu lo hi sl Q I rx hs pl pu ⟨a, xs, rfl, hx, ?_⟩
 by_cases c : HT.sIx xs.length 0 lo = 0 ∧ HT.sIx xs.length xs.length hi = xs.length
 ·refine .inl ⟨c.1, c.2, h a H (.inl ⟨rfl, rfl, ?_⟩)⟩
  unfold gX
  rw [c.1, c.2, List.drop_zero, Nat.sub_zero, List.take_length]
 ·exact .inr ⟨c, fun p hp => h p _ (.inr ⟨hp, rfl⟩)⟩
end
open PySem PySem.W PySem.Spec PySem.Calls PyProof.Rows
open PySem PySem.W PyProof.Rows
theorem sM : entryFor table "proto.unchain" = some Builtin.«proto.unchain» := entryFor_of_fast (by kernel_rfl)
noncomputable def Hd0 (A : Around) (h : Heap) : Prop := A.handled = none ∨ ∃ x, A.handled = some (.ref x) ∧ gA h x
theorem gA.kept {h h' : Heap} {e : Addr} (n : gA h e) (k : ∀ b o, h.get? b = some o → h'.get? b = some o) : gA h' e := let ⟨o, a, b⟩ := n; ⟨o, k _ _ a, b⟩
section
variable {prog : Program} {w : World} {A : Around} {E : Value → Shared → Prop} {s : Shared}
theorem uM {x : Addr} {e : Value} {Q : Value → Shared → Prop} (n : gA s.heap x) (q : Q .none s) : wpAny (model prog w) A (runValue (.builtin "proto.unchain" ⟨[e, .ref x, .ref x, .bool false], []⟩)) Q E s := by
 obtain ⟨o, ho, vs, hd, h2⟩ := n
 refine runValue_entry sM ?_
 unfold Builtin.«proto.unchain»
 refine wpAny_bind (wpAny_field ho hd h2 ?_)
 rw [if_pos (by decide)]
 exact wpAny_bind (wpAny_pure (wpAny_pure ⟨_, rfl, q⟩))
theorem qu {α : Type} {Q : α → Shared → Prop} (hh : Hd0 A s.heap)
  (hE : ∀ h' a, (∀ b o, s.heap.get? b = some o → h'.get? b = some o) → (∃ o, h'.get? a = some o ∧ o.cls = .type "StopIteration") → E (.ref a) { s with heap := h' }) :
  wpAny (model prog w) A ((newExc (.type "StopIteration") [] >>= fun e => raiseNew e) : Sem α) Q E s := by
 refine wpAny_bind ?_
 simp only [newExc, newTuple]
 refine wpAny_bind (wpAny_newObj_type ?_ (by size_fits))
 refine wpAny_bind (m := firstArgMember _ _) (wpAny_of_eq (a := Value.none) (by first | rfl | (simp only [firstArgMember]; rfl)) ?_)
 refine wpAny_newObj_type ?_ (by size_fits)
 simp only [raiseNew]
 refine wpAny_bind (wpAny_handled ?_)
 rcases hh with hh | ⟨x, hh, n⟩
 ·rw [hh]
  refine wpAny_bind (wpAny_pure (wpAny_throw (hE _ _ (fun b o e => Heap.get?_push_of_some _ (Heap.get?_push_of_some _ e)) ⟨_, Heap.get?_push_size _ rfl, rfl⟩)))
 ·rw [hh]
  dsimp only
  generalize hT : s.heap.push { cls := .type "tuple", data := .seq #[] } = H1
  have k1 : ∀ b o, s.heap.get? b = some o → H1.get? b = some o := fun b o e => hT ▸ Heap.get?_push_of_some _ e
  have hx : x ≠ H1.objs.size := fun z => by
   obtain ⟨o, ho, _⟩ := n
   exact absurd (z ▸ Heap.lt_size (k1 _ _ ho)) (Nat.lt_irrefl _)
  rw [if_pos (bne_iff_ne.mpr fun z => hx (Value.ref.inj z))]
  have n1 := (n.kept k1).push { cls := .type "StopIteration", data := .fields (#[.ref s.heap.objs.size, .none, .none, .none, .bool false, .none] ++ ownMembersOf (.type "StopIteration") []) }
  refine wpAny_bind (wpAny_holding (uM n1 ?_))
  have g := Heap.get?_push_size H1 (o := { cls := .type "StopIteration", data := .fields (#[.ref s.heap.objs.size, .none, .none, .none, .bool false, .none] ++ ownMembersOf (.type "StopIteration") []) }) rfl
  refine wpAny_bind (show wpAny _ _ (setField (.ref H1.objs.size) 2 (.ref x)) _ _ _ from wpAny_setField g rfl (by rw [Array.size_append]; show 2 < 6 + _; omega) ?_)
  refine wpAny_throw (hE _ _ (fun b o e => ?_) ⟨_, Heap.get?_update_self _ g (Obj.isFreed_of_fields (Obj.data_mapFields rfl _)), Obj.cls_mapFields _ _⟩)
  have hb := k1 b o e
  rw [Heap.get?_update_other _ _ (Nat.ne_of_gt (Heap.lt_size hb))]
  exact Heap.get?_push_of_some _ hb
theorem Bh {it l : Addr} {i : Nat} {items : Array Value} {Q : Option Value → Shared → Prop} (hh : Hd0 A s.heap) (hit : s.heap.IsListIter it l i) (hl : s.heap.IsList l items) (hx : items[i]? = none)
  (hQ : ∀ h', Heap.ExtBut it s.heap h' → Q none { s with heap := h' }) : wpAny (model prog w) A (pyNext (.ref it)) Q E s := by
 have hty := hit.typeIs
 obtain ⟨o, ho, hc, hd⟩ := hit
 obtain ⟨ol, hol, _, nl, hdl⟩ := hl
 unfold pyNext
 refine wpAny_bind (wpAny_attempt (wpAny_callSpecial?_slot (name := Str.ofString "__next__") hty slot_listiter_next (wpAny_call_entry slot_listiter_next hty entry_listiter_next ?_ (args_listiter_next _))))
 change wpAny _ _ ((field (.ref it) 0).bind _) _ _ s
 refine wpAny_bind (m := field (.ref it) 0) (wpAny_field ho hd (x := .ref l) rfl ?_)
 change wpAny _ _ (ite ((Value.ref l == Value.none) = true) _ _) _ _ s
 rw [if_neg (id Bool.false_ne_true : ¬ ((Value.ref l == Value.none) = true))]
 change wpAny _ _ ((field (.ref it) 1).bind _) _ _ s
 refine wpAny_bind (m := field (.ref it) 1) (wpAny_field ho hd (x := .int i 0) rfl ?_)
 change wpAny _ _ ((seqItems? (.ref l)).bind _) _ _ s
 refine wpAny_bind (m := seqItems? (.ref l)) (wpAny_seqItems hol hdl ?_)
 simp only [Int.toNat_natCast, hx]
 refine wpAny_bind (wpAny_rule (wpAny_bind (wpAny_setField ho hd (by simp) ?_)))
 have hh' : Hd0 A.in1 (s.heap.update it (Obj.mapFields (·.setIfInBounds 0 Value.none))) := by
  rcases hh with hh | ⟨x, hh, n⟩
  ·exact .inl hh
  ·exact .inr ⟨x, hh, n.update (zA (by decide))⟩
 refine qu hh' fun h' a kp ⟨oa, ha, hca⟩ => ?_
 refine wpAny_bind (wpAny_isInstance (T := "StopIteration") (b := true) ⟨oa, ha, hca⟩ isSubtype_stop ?_)
 exact wpAny_pure (hQ _ fun b o' hb e => kp b o' ((Heap.get?_update_other _ _ (Ne.symm hb)).trans e))
theorem Dt {it l : Addr} {i : Nat} {items : Array Value} {Q : Option Value → Shared → Prop} (hh : Hd0 A s.heap) (hit : IsTupIter s.heap it l i) (hl : IsTup s.heap l items) (hx : items[i]? = none)
  (hQ : ∀ h', Heap.ExtBut it s.heap h' → Q none { s with heap := h' }) : wpAny (model prog w) A (pyNext (.ref it)) Q E s := by
 have hty := hit.typeIs
 obtain ⟨o, ho, hc, hd⟩ := hit
 obtain ⟨ol, hol, _, nl, hdl⟩ := hl
 unfold pyNext
 refine wpAny_bind (wpAny_attempt (wpAny_callSpecial?_slot (name := Str.ofString "__next__") hty slot_tupleiter_next (wpAny_call_entry slot_tupleiter_next hty entry_tupleiter_next ?_ (args_tupleiter_next _))))
 change wpAny _ _ ((field (.ref it) 0).bind _) _ _ s
 refine wpAny_bind (m := field (.ref it) 0) (wpAny_field ho hd (x := .ref l) rfl ?_)
 change wpAny _ _ (ite ((Value.ref l == Value.none) = true) _ _) _ _ s
 rw [if_neg (id Bool.false_ne_true : ¬ ((Value.ref l == Value.none) = true))]
 change wpAny _ _ ((field (.ref it) 1).bind _) _ _ s
 refine wpAny_bind (m := field (.ref it) 1) (wpAny_field ho hd (x := .int i 0) rfl ?_)
 change wpAny _ _ ((seqItems? (.ref l)).bind _) _ _ s
 refine wpAny_bind (m := seqItems? (.ref l)) (wpAny_seqItems hol hdl ?_)
 simp only [Int.toNat_natCast, hx]
 refine wpAny_bind (wpAny_rule (wpAny_bind (wpAny_setField ho hd (by simp) ?_)))
 have hh' : Hd0 A.in1 (s.heap.update it (Obj.mapFields (·.setIfInBounds 0 Value.none))) := by
  rcases hh with hh | ⟨x, hh, n⟩
  ·exact .inl hh
  ·exact .inr ⟨x, hh, n.update (zA (by decide))⟩
 refine qu hh' fun h' a kp ⟨oa, ha, hca⟩ => ?_
 refine wpAny_bind (wpAny_isInstance (T := "StopIteration") (b := true) ⟨oa, ha, hca⟩ isSubtype_stop ?_)
 exact wpAny_pure (hQ _ fun b o' hb e => kp b o' ((Heap.get?_update_other _ _ (Ne.symm hb)).trans e))
theorem EA {t : Addr} {items : Array Value} {Q : List Value → Shared → Prop} (hh : Hd0 A s.heap) (ht : IsTup s.heap t items) (hQ : ∀ h', Heap.ExtBut s.heap.objs.size s.heap h' → Q items.toList { s with heap := h' }) :
  wpAny (model prog w) A (unpackItems (.ref t) items.size none) Q E s := by
 have hlt : t ≠ s.heap.objs.size := fun z => by obtain ⟨o, ho, _⟩ := ht; exact absurd (z ▸ Heap.lt_size ho) (Nat.lt_irrefl _)
 unfold unpackItems notIterableAtAll
 refine wpAny_bind (wpAny_bind (wpAny_specialOf ht.typeIs slot_tuple_iter.lookup (wpAny_pure ?_)))
 rw [if_neg (by decide)]
 refine wpAny_bind (wpAny_holding (iter_tuple ht ?_))
 refine wpAny_bind (wpAny_holding (draw_tuple hlt items.size 0 _ _ ⟨_, Heap.get?_push_size _ rfl, rfl, rfl⟩ (ht.push _) (by omega) fun h₁ i1 s1 => ?_))
 rw [show List.take items.size (List.drop 0 items.toList) = items.toList from List.take_of_length_le (by simp), if_neg (by simp)]
 have hh1 : Hd0 A h₁ := by
  rcases hh with hh | ⟨x, hh, n⟩
  ·exact .inl hh
  ·obtain ⟨o, ho, n2⟩ := n
   exact .inr ⟨x, hh, o, s1.extBut x o (Nat.ne_of_lt (Heap.lt_size ho)) (Heap.get?_push_of_some _ ho), n2⟩
 refine wpAny_bind (wpAny_holding (Dt (s := { s with heap := h₁ }) hh1 i1 ((ht.push _).extBut s1.extBut hlt) (by simp) fun h₂ e2 => ?_))
 rw [if_neg (by decide)]
 exact wpAny_pure (hQ h₂ fun b o hb e => e2 b o hb (s1.extBut b o hb (Heap.get?_push_of_some _ e)))
end
theorem yZ {P : Program} {w : World} {H : Hp} {h : Heap} {x C : Addr} (o : cw P w H h x (oW x C)) : gA h x := let ⟨⟨oe, ws, a, _, c, d⟩, _⟩ := o; ⟨oe, a, ws, c, d⟩
structure TurnH (P : Program) (w : World) (K : PySem.W.Frag) (tg : Expr) (J : It) (fp : List Addr) (it : Addr) (tn : Nat → Heap → Prop) : Prop where
 mem : it ∈ fp
 obj : ∀ i h, tn i h → ∀ b ∈ fp, ∃ o, h.get? b = some o ∧ ∀ v, o.data ≠ .cell v
 keep : ∀ i h h', tn i h → (∀ b ∈ fp, ∀ o, h.get? b = some o → h'.get? b = some o) → tn i h'
 item : ∀ (X : Cx), X.prog = P → X.w = w → X.K = K → ∀ (i : Nat) (pins : List (Addr × Obj)) (s : Shared) (σ : St) (H : Hp) (E : Value → Shared → Prop), Hd0 X.A s.heap → Inv X pins σ H s → (∀ b ∈ fp, lZ X pins H b) → tn i s.heap → J.go i H →
  wpAny (model P w) X.A (pyNext (.ref it)) (fun r s1 => ∃ u, r = some u ∧
   wpAny (model P w) X.A (letOwnedTupleGo tg (.ref it) u) (fun _ s2 => ∃ x H', Inv X pins σ H' s2 ∧ bX x u ∧ J.yld i H x H' ∧ tn (i + 1) s2.heap ∧ ∀ b ∈ fp, H' b = none) E s1) E s
 done : ∀ (X : Cx), X.prog = P → X.w = w → X.K = K → ∀ (i : Nat) (pins : List (Addr × Obj)) (s : Shared) (σ : St) (H : Hp) (E : Value → Shared → Prop), Hd0 X.A s.heap → Inv X pins σ H s → (∀ b ∈ fp, lZ X pins H b) → tn i s.heap → J.stop i H →
  wpAny (model P w) X.A (pyNext (.ref it)) (fun r s1 => r = none ∧ Inv X pins σ H s1) E s
 self : ∀ (A : Around) (i : Nat) (s : Shared) (Q : Value → Shared → Prop) (E : Value → Shared → Prop), tn i s.heap → Q (.ref it) s → wpAny (model P w) A (pyIter (.ref it)) Q E s
theorem zr {P : Program} {w : World} {K : PySem.W.Frag} {tg : Expr} (a it : Addr) : TurnH P w K tg (Itl K a) [it] it (fun i h => h.IsListIter it a i) where
 mem := (gE (P := P) (w := w) (K := K) (tg := tg) a it).mem
 obj := (gE (P := P) (w := w) (K := K) (tg := tg) a it).obj
 keep := (gE (P := P) (w := w) (K := K) (tg := tg) a it).keep
 self := (gE (P := P) (w := w) (K := K) (tg := tg) a it).self
 item := by
  intro X hP hw hK i pins s σ H E _ I hf st hg
  subst hP hw hK
  obtain ⟨xs, x, hq, hx⟩ := hg
  obtain ⟨its, rv, p, hz⟩ := I.list hq
  obtain ⟨u, hu, ru⟩ := rv.get hx
  obtain ⟨f0, f1, f2, f3, f4, f5⟩ := hf it (by simp)
  refine wpAny_pyNext_list_item st p.isList (x := u) (by simpa using hu) fun h' st' sb => ?_
  have I1 : Inv X pins σ H { s with heap := h' } := I.turned (t' := s.toks) (fun b o hb e => (sb.2 b hb).trans e) f0 f1 f3 f4 f5
  obtain ⟨o, e, c, d⟩ := id st'
  exact ⟨u, rfl, qz (s := { s with heap := h' }) e c d (by decide) ⟨x, H, I1, ru, ⟨rfl, fun ys hy => by rw [I.list_inj hy hq]; exact hx⟩, st', fun b hb => (hf b hb).1⟩⟩
 done := by
  intro X hP hw hK i pins s σ H E hd I hf st hg
  subst hP hw hK
  obtain ⟨xs, hq, hx⟩ := hg
  obtain ⟨its, rv, p, hz⟩ := I.list hq
  obtain ⟨f0, f1, f2, f3, f4, f5⟩ := hf it (by simp)
  have hl := rv.length
  exact Bh hd st p.isList (by simp; omega) fun h' eb => ⟨rfl, I.turned (t' := s.toks) (fun b o hb e => eb b o hb e) f0 f1 f3 f4 f5⟩
noncomputable def Jt (X : Cx) (pins : List (Addr × Obj)) (σ : St) (tg : Expr) (R : It → Hp → Prop) (itv : Value) (s2 : Shared) : Prop :=
 ∃ (it : Addr) (fp : List Addr) (tn : Nat → Heap → Prop) (J : It) (H' : Hp), itv = .ref it ∧ Inv X pins σ H' s2 ∧ TurnH X.prog X.w X.K tg J fp it tn ∧ tn 0 s2.heap ∧ (∀ b ∈ fp, lZ X pins H' b) ∧ R J H'
noncomputable def PIH (X : Cx) (tg iter : Expr) (wi : TI) : Prop :=
 ∀ (pins : List (Addr × Obj)) (s : Shared) (σ : St) (H : Hp) (R : It → Hp → Prop), Inv X pins σ H s → wi σ H R →
  wpAny (model X.prog X.w) X.A (eval iter X.env) (fun v s1 => wpAny (model X.prog X.w) X.A (pyIter v) (Jt X pins σ tg R) X.xe s1) X.xe s
theorem Cj {X : Cx} {tg l : Expr} {tl : TE} (hl : PE X l tl) : PIH X tg l (Ct X.K tl) := by
 intro pins s σ H R I h
 refine thn (hl pins s σ H _ I h) fun v s1 ⟨x, H1, I1, r1, q1⟩ => ?_
 obtain ⟨a, e, ⟨xs, hq⟩, q⟩ := q1
 subst e
 cases r1
 obtain ⟨its, rv, p, hz⟩ := I1.list hq
 refine wpAny_pyIter_list p.isList ?_
 refine ⟨s1.heap.objs.size, [s1.heap.objs.size], _, _, H1, rfl, I1.kept (t' := s1.toks) fun b o e => Heap.get?_push_of_some _ e, zr a _, ⟨_, Heap.get?_push_size _ rfl, rfl, rfl⟩, fun b hb => ?_, q⟩
 have e : b = s1.heap.objs.size := by simpa using hb
 subst e
 exact I1.fpOk (Nat.le_refl _) (I1.hok.fresh (Nat.le_refl _))
noncomputable def FF (x0 C0 : Addr) (own : List Str) (cap : List Nat) (g : TG) (tt : TT) (te : TE) (σ : St) (Z : List V → Hp → Prop) (J : It) (H1 : Hp) : Prop :=
 ∃ W : Nat → Nat → List V → Hp → Prop, (∃ m, W 0 m [] H1) ∧ (∀ i m acc H2, W i m acc H2 → H2 x0 = some (oW x0 C0)) ∧ ∀ i m acc H2, W i m acc H2 → acc.length < sizeLine ∧
  ((J.stop i H2 ∧ Z acc H2) ∨
   (J.go i H2 ∧ ∀ x H3, J.yld i H2 x H3 → g x (fw own cap σ) H3 fun σ4 H4 => Wk (fw own cap σ) σ4 ∧ tt σ4 H4 fun b H5 =>
    if b = true then te σ4 H5 fun v H6 => ∃ m', m' < m ∧ W (i + 1) m' (acc ++ [v]) H6 else ∃ m', m' < m ∧ W (i + 1) m' acc H5))
noncomputable def Ic (x0 C0 : Addr) (wi : TI) (own : List Str) (cap : List Nat) (g : TG) (tt : TT) (te : TE) : TE := fun σ H Q => wi σ H fun J H1 => FF x0 C0 own cap g tt te σ (fun acc H2 => ∀ p, H2 p = none → Q (.ref p) (upd H2 p (.lst acc))) J H1
section
variable {X : Cx} {pins : List (Addr × Obj)} {σ : St} {H2 : Hp} {s2 : Shared} {scope : Scope} {own : List Str} {cap : List Nat} {cl : List (Str × Addr)} {fp : List Addr} {C : Addr}
theorem Cs {tg elt iter : Expr} {ifs : List Expr} {pos : Pos} {g : TG} {tt : TT} {te : TE} {J : It} {it : Addr} {tn : Nat → Heap → Prop} {Z : List V → Hp → Prop} {E : Value → Shared → Prop} {RR : Value → Addr → Result → Shared → Prop}
  {x0 C0 : Addr} (hx : X.A.handled = some (.ref x0)) (B : Blk X.env.scope X.N scope own cap) (I2 : Inv X pins σ H2 s2) (T : TurnH X.prog X.w X.K tg J fp it tn) (st2 : tn 0 s2.heap) (f2 : ∀ b ∈ fp, lZ X pins H2 b)
  (h1 : ∀ x c, cl.lookup x = some c → X.env.cells.lookup x = some c) (h2 : ∀ x, (x, NameKind.free) ∈ scope.names → ∃ c, cl.lookup x = some c)
  (hg : ∀ cl C s2 H2 ex, PG (X.blk scope cl C (cR X.N own cap) s2 H2 ex) tg g) (ht : ∀ cl C s2 H2 ex, PIf (X.blk scope cl C (cR X.N own cap) s2 H2 ex) ifs tt) (he : ∀ cl C s2 H2 ex, PE (X.blk scope cl C (cR X.N own cap) s2 H2 ex) elt te)
  (w : FF x0 C0 own cap g tt te σ Z J H2)
  (hRR : ∀ (D C : Addr) (acc : List V) (H' : Hp) (s' : Shared), Inv X pins σ (upd H' D (.lst acc)) s' → D ≠ C → H' D = none → H' C = none → (∃ m, s'.heap.Ns C m) →
   (∀ σ'' H'' s'' h', Inv X pins σ'' H'' s'' → H'' C = none → Heap.SameBut C s''.heap h' → Inv X pins σ'' H'' { s'' with heap := h' }) → (∀ x c, X.env.cells.lookup x = some c → c ≠ C) → C ≠ X.env.locals → Z acc H' → RR (.ref D) C (.ok .next) s') :
  wpAny (model X.prog X.w) X.A (newList []) (fun acc s3 => wpAny (model X.prog X.w) X.A (newFunctionEnv scope X.env.globals cl [] X.env.qual none .none (some X.env)) (fun cenv s4 =>
   codeAny (model X.prog X.w) X.A (.compStart (.ListComp elt [⟨tg, iter, ifs, 0⟩] scope pos) 0 (.ref it) acc { cenv with scope := relabel scope X.env }) (RR acc cenv.locals) s4) E s3) E s2 := by
 obtain ⟨W, ⟨m0, w0⟩, hWx, turn⟩ := w
 have fl : ∀ b ∈ fp, b < s2.heap.objs.size := fun b hb => by obtain ⟨o, ho, _⟩ := T.obj 0 _ st2 b hb; exact Heap.lt_size ho
 refine wpAny_newObj_type (wpAny_newFunctionEnv B.nocell (by intro y hy; simp at hy) (fun h4 hns hsb => ?_) B.kind)
 dsimp only at hns hsb ⊢
 generalize hH3 : s2.heap.push { cls := .type "list", dict := none, data := .seq ([] : List Value).toArray } = H3 at hns hsb ⊢
 have hCs : H3.objs.size = s2.heap.objs.size + 1 := by rw [← hH3, Heap.size_push]
 have hDC : s2.heap.objs.size ≠ H3.objs.size := by rw [hCs]; exact Nat.ne_of_lt (Nat.lt_succ_self _)
 have hC : s2.heap.objs.size ≤ H3.objs.size := by rw [hCs]; exact Nat.le_succ _
 have kp : ∀ b o, s2.heap.get? b = some o → h4.get? b = some o := fun b o e => hsb.extBut b o (Nat.ne_of_lt (Nat.lt_of_lt_of_le (Heap.lt_size e) hC)) (Heap.get?_push_of_some _ (hH3 ▸ Heap.get?_push_of_some _ e))
 have hD4 : h4.get? s2.heap.objs.size = some { cls := .type "list", data := .seq ([] : List Value).toArray 0 } := hsb.extBut _ _ hDC (Heap.get?_push_of_some _ (hH3 ▸ Heap.get?_push_size _ rfl))
 generalize hCe : H3.objs.size = C at hns hsb hCs hDC hC ⊢
 generalize hDe : s2.heap.objs.size = D at hD4 hDC ⊢
 have hDs : s2.heap.objs.size ≤ D := Nat.le_of_eq hDe
 have flD : ∀ b ∈ fp, b ≠ D := fun b hb z => by have := fl b hb; rw [z, hDe] at this; exact Nat.lt_irrefl _ this
 have celD : ∀ x c, cl.lookup x = some c → c ≠ D := fun x c e z => by
  obtain ⟨v, q⟩ := I2.cell x c (h1 x c e)
  have := q.lt
  rw [z, hDe] at this
  exact Nat.lt_irrefl _ this
 let Y : Cx := X.blk scope cl C (cR X.N own cap) s2 H2 fp
 have lo : ∀ (its : List Value) (ep : Nat) (v : Option Value), ({ cls := .type "list", data := .seq its.toArray ep } : Obj).data ≠ .cell v := fun its ep v z => by
  have z' : Data.seq its.toArray ep = Data.cell v := z
  cases z'
 have fpY : ∀ {H' : Hp} {its : List Value} {ep : Nat}, (∀ b ∈ fp, H' b = none) → ∀ b ∈ fp, lZ Y [(D, ({ cls := .type "list", data := .seq its.toArray ep } : Obj))] H' b := fun {H' its ep} hn b hb => by
  refine ⟨hn b hb, Nat.ne_of_lt (Nat.lt_of_lt_of_le (fl b hb) hC), fun hz => ?_, .inl hb, fun x c e => (f2 b hb).2.2.2.2.1 x c (h1 x c e), fun p hp => ?_⟩
  ·rcases List.mem_cons.mp (I2.stkSub b hz) with z | z
   ·exact (f2 b hb).2.1 z
   ·exact (f2 b hb).2.2.1 z
  ·rcases List.mem_append.mp hp with hp | hp
   ·exact absurd (show p ∈ ([] : List (Addr × Obj)) from hp) (by simp)
   ·have e : p = (D, ({ cls := .type "list", data := .seq its.toArray ep } : Obj)) := by simpa using hp
    subst e
    exact Ne.symm (flD b hb)
 have loop : ∀ s4 : Shared, s4 = { s2 with heap := h4, toks := s2.toks + ([] : List (Str × Value)).length } →
   codeAny (model X.prog X.w) X.A (.compLoop (.ListComp elt [⟨tg, iter, ifs, 0⟩] scope pos) 0 (.ref it) (.ref D) (compEnvC scope cl C X.env)) (RR (.ref D) C) s4 := by
  rintro s4 rfl
  refine xq (fun n s' => ∃ i acc its ep H', Inv Y [(D, ({ cls := .type "list", data := .seq its.toArray ep } : Obj))] (fw own cap σ) H' s' ∧ tn i s'.heap ∧ (∀ b ∈ fp, H' b = none) ∧ bE acc its ∧ W i n acc H') ?_ m0
   ⟨0, [], [], 0, H2, tJ B I2 f2 fl hC h1 h2 kp hns hD4 hDs hDC (lo [] 0), T.keep 0 _ _ st2 fun b _ o e => kp b o e, fun b hb => (f2 b hb).1, .nil, w0⟩
  rintro n s5 ⟨i, acc, its, ep, H5, I5, st5, fr5, vl, w5⟩
  obtain ⟨room, alt⟩ := turn i n acc H5 w5
  have vlen := vl.length
  rcases alt with ⟨stop, zq⟩ | ⟨go, step⟩
  ·refine thn (T.done Y rfl rfl rfl i _ s5 _ H5 (fun _ _ => False) (.inr ⟨x0, hx, yZ (I5.hok x0 _ (hWx _ _ _ _ w5))⟩) I5 (fpY fr5) st5 stop) fun r s6 ⟨hr, I6⟩ => ?_
   subst hr
   show RR (.ref D) C (.ok .next) s6
   have pD := I6.pin (D, ({ cls := .type "list", data := .seq its.toArray ep } : Obj)) (List.mem_append_right _ (List.mem_singleton.mpr rfl))
   have fC : H5 C = none := I6.free
   have nD : ∀ b u, H5 b = some u → b ≠ D := fun b u e z => by rw [z, pD.2.1] at e; cases e
   have bD : ∀ b o, s2.heap.get? b = some o → b ≠ D := fun b o e z => by have := Heap.lt_size e; rw [z, hDe] at this; exact Nat.lt_irrefl _ this
   have un : Un (frs X.stack) fp H2 (upd H5 D (.lst acc)) s2.heap s6.heap :=
    ⟨I6.base.keep, I6.base.slot, fun b o e n x => by rw [aD (bD b o e)]; exact I6.base.free b o e n x, I6.base.there,
     fun b xs e => by have q := I6.base.tups b xs e; rw [aD (nD b _ q)]; exact q, fun b o u e => by have q := I6.base.frzs b o u e; rw [aD (nD b _ q)]; exact q,
     fun b ps e => by obtain ⟨mo, q⟩ := I6.base.tbls b ps e; exact ⟨mo, by rw [aD (nD b _ q)]; exact q⟩⟩
   have hok : HOk X.prog X.w (upd H5 D (.lst acc)) s6.heap := fun b u e => by
    by_cases hb : b = D
    ·subst hb
     rw [ai] at e
     cases e
     exact ⟨Nat.le_of_lt room, its, ep, vl, pD.1⟩
    ·rw [aD hb] at e
     exact (I6.hok b u e).stay (fun c v _ q => q) (fun c q => by rw [aD (nD c _ q)]; exact q) fun c xs q => by rw [aD (nD c _ q)]; exact q
   have IX : Inv X pins σ (upd H5 D (.lst acc)) s6 := I2.call' I6.os un hok I6.bare fun b hb => ⟨(f2 b hb).2.2.2.1, (f2 b hb).2.1, (f2 b hb).2.2.2.2.1, (f2 b hb).2.2.2.2.2⟩
   obtain ⟨mm, hmm, _⟩ := I6.loc
   have cC : ∀ x c, X.env.cells.lookup x = some c → c ≠ C := fun x c e z => by
    obtain ⟨v, q⟩ := I2.cell x c e
    exact absurd (Nat.lt_of_lt_of_le q.lt (by rw [z]; exact hC)) (Nat.lt_irrefl _)
   have lC : C ≠ X.env.locals := Nat.ne_of_gt (Nat.lt_of_lt_of_le I2.lt hC)
   refine hRR D C acc H5 s6 IX hDC pD.2.1 fC ⟨mm, hmm⟩ (fun σ'' H'' s'' h' J'' hn hs => ?_) cC lC zq
   exact J''.turned (t' := s''.toks) (fun b o hb e => (hs.2 b hb).trans e) hn lC (.inr (Nat.le_trans I2.sz hC)) cC fun p hp z => by
    have := Heap.lt_size (I2.pin p hp).1
    exact absurd (Nat.lt_of_lt_of_le this (by rw [z]; exact hC)) (Nat.lt_irrefl _)
  ·refine thn (T.item Y rfl rfl rfl i _ s5 _ H5 (fun _ _ => False) (.inr ⟨x0, hx, yZ (I5.hok x0 _ (hWx _ _ _ _ w5))⟩) I5 (fpY fr5) st5 go) fun r s6 ⟨u, hr, h6⟩ => ?_
   subst hr
   refine thn h6 fun _ s7 ⟨x, H7, I7, r7, y7, st7, fr7⟩ => ?_
   have I7' := I7.pinned (fpY fr7) (T.obj _ _ st7)
   refine thn (hg cl C s2 H2 fp _ s7 _ H7 x u _ I7' r7 (step x H7 y7)) fun _ s8 ⟨σ8, H8, I8, wk8, q8⟩ => ?_
   refine thn (ht cl C s2 H2 fp _ s8 σ8 H8 _ I8 q8) fun ok s9 ⟨H9, I9, q9⟩ => ?_
   have unpin : ∀ {its' : List Value} {ep' : Nat} {H' : Hp} {s' : Shared} {acc' : List V} {m' : Nat}, Inv Y ([(D, ({ cls := .type "list", data := .seq its'.toArray ep' } : Obj))] ++ gj fp s7.heap) σ8 H' s' → bE acc' its' → W (i + 1) m' acc' H' → m' < n →
     ∃ m, m < n ∧ ∃ i acc its ep H'', Inv Y [(D, ({ cls := .type "list", data := .seq its.toArray ep } : Obj))] (fw own cap σ) H'' s' ∧ tn i s'.heap ∧ (∀ b ∈ fp, H'' b = none) ∧ bE acc its ∧ W i m acc H'' := fun {its' ep' H' s' acc' m'} J v' w' hm => by
    refine ⟨m', hm, i + 1, acc', its', ep', H', (J.unpinned).weak wk8.len.symm wk8.val, T.keep _ _ _ st7 fun b hb o e => (J.pin (b, o) (List.mem_append_right _ (List.mem_append_right _ (fz hb e)))).1, fun b hb => ?_, v', w'⟩
    obtain ⟨o, e, d⟩ := T.obj _ _ st7 b hb
    exact (J.pin (b, o) (List.mem_append_right _ (List.mem_append_right _ (fz hb e)))).2.1
   cases ok with
   | false =>
    rw [if_neg Bool.false_ne_true] at q9 ⊢
    obtain ⟨m', hm, w'⟩ := q9
    exact unpin I9 vl w' hm
   | true =>
    rw [if_pos rfl] at q9 ⊢
    refine thn (he cl C s2 H2 fp _ s9 σ8 H9 _ I9 q9) fun v s10 ⟨y, H10, I10, r10, m', hm, w'⟩ => ?_
    have pD := I10.pin (D, ({ cls := .type "list", data := .seq its.toArray ep } : Obj)) (List.mem_append_right _ (List.mem_append_left _ (List.mem_singleton.mpr rfl)))
    refine call_meets F.slot_list_append ⟨_, pD.1, rfl⟩ F.entry_list_append (F.args_list_append_2 _ _) (PySem.list_append D its.toArray ep v (by rw [List.size_toArray]; omega)) ⟨pD.1, ?_⟩
    have eD := PySem.IsL.update pD.1 (·.push v)
    have ea : its.toArray.push v = (its ++ [v]).toArray := by simp
    rw [ea] at eD
    generalize (if (its ++ [v]).toArray.size == its.toArray.size then ep else ep + 1) = ep2 at eD
    have pl : ∀ p ∈ gj fp s7.heap, p.1 ≠ D := fun p hp => flD p.1 (oo hp).1
    have I11 : Inv Y (gj fp s7.heap) σ8 H10 s10 := I10.pins_of fun p hp => I10.pin p (List.mem_append_right _ (List.mem_append_right _ hp))
    have I12 := I11.turned (it := D) (t' := s10.toks) (h' := s10.heap.update D (Obj.mapSeq (·.push v))) (fun b o hb e => (Heap.get?_update_other _ _ (Ne.symm hb)).trans e) pD.2.1 hDC (.inr hDs) celD (fun p hp => pl p ((List.mem_append.mp hp).elim (fun z => absurd (show p ∈ ([] : List (Addr × Obj)) from z) (by simp)) id))
    have I13 := I12.pins_of (pins' := [(D, ({ cls := .type "list", data := .seq (its ++ [v]).toArray ep2 } : Obj))] ++ gj fp s7.heap) fun p hp => by
     rcases List.mem_append.mp hp with hp | hp
     ·have e : p = (D, ({ cls := .type "list", data := .seq (its ++ [v]).toArray ep2 } : Obj)) := by simpa using hp
      subst e
      exact ⟨eD, pD.2.1, hDC, pD.2.2.2.1, lo _ _⟩
     ·exact I12.pin p (List.mem_append_right _ hp)
    exact unpin I13 (vl.append (.cons r10 .nil)) w' hm
 exact codeAny_compStart_list (loop _ rfl) (T.self _ 0 _ _ _ (T.keep 0 _ _ st2 fun b _ o e => kp b o e) (loop _ rfl))
end
section
variable {X : Cx} {tg elt iter : Expr} {ifs : List Expr} {scope : Scope} {pos : Pos} {own : List Str} {cap : List Nat} {wi : TI} {g : TG} {tt : TT} {te : TE}
theorem xX {i : Nat} {y : Str} {py spos : Pos} (B : Blk X.env.scope X.N scope own cap) {x0 C0 : Addr} (hx : X.A.handled = some (.ref x0)) (hi : PIH X tg iter wi) (hg : ∀ cl C s2 H2 ex, PG (X.blk scope cl C (cR X.N own cap) s2 H2 ex) tg g) (ht : ∀ cl C s2 H2 ex, PIf (X.blk scope cl C (cR X.N own cap) s2 H2 ex) ifs tt)
  (he : ∀ cl C s2 H2 ex, PE (X.blk scope cl C (cR X.N own cap) s2 H2 ex) elt te) (hN : X.N.Nodup) (hy : X.N[i]? = some y) (hl : X.env.scope.names.lookup y = some .local)
  (hsw : swapsWith (.ListComp elt [⟨tg, iter, ifs, 0⟩] scope pos) (some (.Name y py)) spos.line X.env = pure true := by rfl)
  (hs : ∀ x, foldedSetIterable iter X.env x = pure x := by intro _; rfl) : PS X (.Assign [.Name y py] (.ListComp elt [⟨tg, iter, ifs, 0⟩] scope pos) spos) (Ds (Ic x0 C0 wi own cap g tt te) (bp i)) := by
 intro pins s σ H D0 I h
 obtain ⟨cl, hcl, h1, h2⟩ := rG B I
 rw [exec_Assign_Name_used _ _ _ _ hsw]
 refine wpAny_bind (wpAny_standAt (wpAny_bind ?_))
 show wpAny _ X.A (do let _ ← comprehension (.ListComp elt [⟨tg, iter, ifs, 0⟩] scope pos) scope X.env _ (newList []) false (eval iter X.env) (some (assign (.Name y py) X.env))) _ _ s
 refine wpAny_bind (thn (Q := fun _ s' => SP X pins D0 .next s') (wpAny_comprehension_free (use := some (assign (.Name y py) X.env)) rfl hs hcl B.kind B.names (thn (hi pins s σ H _ I h) fun v s1 q1 => thn q1 fun itv s2 q2 => ?_)) fun _ s' q => wpAny_pure (wpAny_pure q))
 obtain ⟨it, fp, tn, J, H2, e, I2, T, st2, f2, w⟩ := q2
 subst e
 refine Cs (RR := fun acc C => compPost (model X.prog X.w) X.A X.xe (some (assign (.Name y py) X.env)) (fun _ s' => SP X pins D0 .next s') acc C) hx B I2 T st2 f2 h1 h2 hg ht he w ?_
 intro D C acc H' s' IX hDC fD fC hn tu cC lC z
 obtain ⟨m, hn⟩ := hn
 show wpAny _ X.A (assign (.Name y py) X.env (.ref D)) _ _ s'
 refine wpAny_assign_Name (om IX hN hy (.inl hl) (v := .ref D) rfl (fun s'' I'' ⟨a, sb, ha⟩ => ?_) (.inr hl))
 have aC : C ≠ a := by
  rcases ha with e | e
  ·rw [e]; exact lC
  ·exact Ne.symm (cC _ _ e)
 exact ⟨m, hn.sameBut sb aC, fun h' hs' => ⟨_, _, tu _ _ s'' h' I'' (by rw [aD (Ne.symm hDC)]; exact fC) hs', z D fD⟩⟩
end
noncomputable def Jd (x0 C0 : Addr) (K : PySem.W.Frag) (n : Nat) (t : TGs) : TG := fun v σ H Q => H x0 = some (oW x0 C0) ∧ DS K n t v σ H Q
theorem DY {X : Cx} {K : PySem.W.Frag} {pos : Pos} {es : List Expr} {k : Nat} {t : TGs} {n : Nat} {x0 C0 : Addr} (eK : X.K = K) (hx : X.A.handled = some (.ref x0)) (h : PGs X es t)
  (hn : (assignEach es X.env).length = n) (hst : (assignEach es X.env).findIdx? (·.1) = none) : PG X (.Tuple es k pos) (Jd x0 C0 K n t) := by
 subst eK
 intro pins s σ H v u Q I r hw
 obtain ⟨h0, a, xs, e1, hq, hl, hw⟩ := hw
 subst e1
 cases r
 obtain ⟨its, rv, ht, hz⟩ := I.tuple hq
 have hsz : its.toArray.size = n := by simp [← hl, rv.length]
 rw [assign_Tuple]
 refine wpAny_bind (wpAny_standAt ?_)
 unfold unpack
 rw [hn, hst, ← hsz]
 refine wpAny_bind (wpAny_holding (EA (.inr ⟨x0, hx, yZ (I.hok x0 _ h0)⟩) ht fun h' hx' => ?_))
 have I1 : Inv X pins σ H { s with heap := h' } := I.kept (t' := s.toks) fun b o e => hx' b o (Nat.ne_of_lt (Heap.lt_size e)) e
 exact h pins _ σ H xs _ Q I1 (by simpa using rv) hw
structure FnOkH (P : Program) (w : World) (K : PySem.W.Frag) (mg : Str → Option Value) (base : Heap) (k : Nat) (f : Addr) (fd : FuncData) (ps : List Str) (sp : Sp) : Prop where
 len : ∀ vs H Q E, sp vs H Q E → vs.length = ps.length
 run : ∀ (A : Around) (outer : List Env) (s : Shared) (H : Hp) (args : Args) (us : List Value) (vs : List V) (Q : VK) (E : XK) (x C : Addr), RoomU k A → A.handled = some (.ref x) → H x = some (oW x C) → Env0 P w K mg base A outer s H → BindsTo s fd args (ps.zip us) → bE vs us → sp vs H Q E →
  codeAny (model P w) A (.call (.ref f) args) (CR CX0 outer P w H s Q E) s
theorem Fun.okH {P : Program} {w : World} {K : PySem.W.Frag} {mg : Str → Option Value} {base : Heap} {x qual : Str} {st : Stmt} {f : Addr} {fd : FuncData} {N ps : List Str} {k : Nat} {sp : Sp} (F : Fun K x qual st f fd) (S : FnScope N ps (ap st)) (len : ∀ vs H Q E, sp vs H Q E → vs.length = ps.length)
  (hbody : ∀ (cdv : Value) (A : Around) (outer : List Env) (s : Shared) (H : Hp) (vs : List V) (Q : VK) (E : XK) (x C : Addr), A.handled = some (.ref x) → H x = some (oW x C) → RoomU k (A.deeper (envOfC qual (ap st) s.heap.objs.size f cdv)) → sp vs H Q E →
   ∃ t, PSs (cxU P w K mg base N qual (ap st) f cdv A outer s H) (bC st) t ∧ t { nx := fun _ H' => Q .non H', rt := Q } (jb N vs) H)   : FnOkH P w K mg base (k + 1) f fd ps sp := by
 obtain ⟨oc, od, kV, doc, pm, an, cdv, ct, osl, rfl, lk, hcd⟩ := F.ex
 refine ⟨len, fun A outer s H args us vs Q E x C hr hA hx e0 hb r hsp => ?_⟩
 have KX : K.In s.heap := e0.mod.kin.keeps fun b o e => (e0.bs b o e).1
 refine codeAny_call_function (by have := hr.dp; omega) (KX _ _ lk) rfl S.co S.gen rfl (PySem.W.codeRec_of KX hcd) (hb _ _ _ _ ?_)
 refine wpAny_newFunctionEnv_cells S.kind (fun y hy => ?_) fun env he s1 x1 => ?_
 ·rcases S.par y.1 (List.of_mem_zip (show (y.1, y.2) ∈ ps.zip us from hy)).1 with q | q
  ·exact .inl q
  ·exact .inr ⟨q, PySem.W.cellsFrom_some _ _ _ (.inl q)⟩
 subst he
 refine ⟨(e0.mod.nolimit.keeps fun b o e => (e0.bs b o e).1).keeps x1.toInCall.keep, codeAny_func ?_⟩
 have e0' : Env0 P w K mg base { A with handled := none } outer s H := ⟨e0.frames, e0.mod, e0.bs, e0.bsz, e0.funs, e0.frf, e0.hok, e0.bare⟩
 have I0 := uD (CX := CX0) (E := E0) (A := { A with handled := none }) (cd := cdv) (f := f) (qual := qual) S rfl e0' (len _ _ _ _ hsp) r x1
 have I : Inv (cxU P w K mg base N qual (ap st) f cdv A outer s H) [] (jb N vs) H s1 :=
  ⟨⟨I0.ok.mod, I0.ok.kind, I0.ok.glob, I0.ok.blt, I0.ok.above, I0.ok.inj, I0.ok.has, I0.ok.cab, (fun z => nomatch z), I0.ok.frames, I0.ok.stk, I0.ok.exf, I0.ok.bs, I0.ok.bsz, I0.ok.noex, I0.ok.exfs, I0.ok.funs, I0.ok.frf⟩, I0.os, I0.bare, I0.base, I0.loc, I0.cell, I0.free, I0.freeC, I0.pin, I0.hok, I0.len⟩
 obtain ⟨t, ht, hq⟩ := hbody cdv A outer s H vs Q E x C hA hx ⟨by have := hr.dp; show A.depth + 1 + 3 * k + 5 < _; omega, by have := hr.un; show A.units + 3 + 16 * k + 200 < _; omega⟩ hsp
 refine wpAny_mono (ht [] s1 (jb N vs) H _ I hq) (fun fl s' hs => ?_) fun e s' hs => hs.elim
 match fl, hs with
 | .ret u, ⟨v, σ', H', J, rv, q⟩ => exact ⟨v, H', J.os, J.bare, J.base, J.hok, rv, q⟩
 | .next, ⟨σ', H', J, q⟩ => exact ⟨.non, H', J.os, J.bare, J.base, J.hok, rfl, q⟩
 | .brk, ⟨_, _, _, q⟩ => exact q.elim
 | .cont, ⟨_, _, _, q⟩ => exact q.elim
noncomputable def spH (x0 : Addr) (sp : Sp) : Sp := fun vs H Q E => (∃ C, H x0 = some (oW x0 C)) ∧ sp vs H Q E
theorem Df {X : Cx} {k : Nat} {f : Addr} {fd : FuncData} {ps : List Str} {sp : Sp} {x : Str} {p pos : Pos} {e : Expr} {es : List Expr} {t : TA} (F : FnOkH X.prog X.w X.K X.mg X.base k f fd ps sp) {x0 : Addr} (hr : RoomU k X.A) (hx : X.A.handled = some (.ref x0)) (hg : Gl X x) (hm : X.mg x = some (.ref f)) (hk : PySem.W.keepIn X.K (.ref f) = true)
  (hb : gJ X.K fd ps []) (ha : PA X (e :: es) t) (hdb : (x == ("__debug__" : Str)) = false := by decide) (he : starEach (e :: es) X.env = (false, eval e X.env) :: starEach es X.env := by rfl) (hpl : (backTo pos (starEach es X.env)).any (·.1) = false := by rfl) :
  PE X (.Call (.Name x p) (e :: es) [] pos) (lP (spH x0 sp) [] E0 t) := by
 intro pins s σ H Q I h
 refine wpAny_Call_Name_kw (jJ I hg hm ?_ hdb)
 refine PySem.W.callWith_K (h₀ := X.base) I.ok.mod.kin hk (thn (ha pos pins s σ H _ I h) fun us s1 ⟨vs, H1, I1, r, q⟩ => ⟨I1.kIn, ?_⟩) he hpl
 obtain ⟨⟨C0, hC0⟩, q⟩ := q
 replace q : sp (vs ++ []) H1 Q E0 := q
 rw [List.append_nil] at q
 have r2 : (us ++ ([] : List Value)).length = ps.length := by rw [List.append_nil, ← r.length]; exact F.len _ _ _ _ q
 have b := hb s1 us I1.kIn r2
 rw [List.append_nil] at b
 refine wpAny_call (codeAny_mono (F.run X.A X.stack s1 H1 ⟨us, []⟩ us vs Q E0 x0 C0 hr hx hC0 I1.env0 b r q) fun res s' hq => ?_)
 match res, hq with
 | .error e, hq => exact hq.elim
 | .ok (.ret u), hq => exact I1.after hq
 | .ok .next, hq => exact hq.elim
 | .ok .brk, hq => exact hq.elim
 | .ok .cont, hq => exact hq.elim
open PySem PySem.W PySem.Spec PySem.Calls PySem.NumText PyProof.Rows
open Builtin Builtin.Str
section
variable {X : Cx}
noncomputable def Ep : V → List V → Hp → VK → Prop := fun x vs H Q => ∃ (z sep : Str), x = .str z ∧ vs = [.str sep] ∧ (sep.length == 0) = false ∧ z.length ≤ 100000 ∧ (Txt.split z sep).length ≤ 100000 ∧ ∀ l, H l = none → Q (.ref l) (upd H l (.lst ((Txt.split z sep).map V.str)))
theorem AS : MtM X "str.split" Ep := by
 intro pins s σ H x vs v us Q I rx rv h
 obtain ⟨x, y, rfl, rfl, hy, hz, hn, q⟩ := h
 obtain ⟨t, rfl⟩ := rx
 obtain ⟨u0, rfl, ru⟩ := rv.one
 obtain ⟨u, rfl⟩ := ru
 have fin : ∀ (l : List (Str × Tok)) (k : Nat), l.map (·.1) = Txt.split x y → EP X pins σ Q (.ref s.heap.objs.size) { s with toks := k, heap := s.heap.push { cls := .type "list", data := .seq (strValues l).toArray } } := fun l k e => by
  refine ⟨.ref s.heap.objs.size, _, I.laid (t' := k) (o := .lst ((Txt.split x y).map V.str)) (fun b ob q => Heap.get?_push_of_some _ q) (Nat.le_refl _) ?_, rfl, q _ (I.hok.fresh (Nat.le_refl _))⟩
  exact ⟨by rw [List.length_map]; exact Nat.le_trans hn DE, _, 0, zS e, Heap.get?_push_size _ rfl⟩
 have hsz : x.length ≤ sizeLine := Nat.le_trans hz DE
 cases h1 : (decide (x.length < y.length) || decide (strKind x < strKind y))
 ·cases hf : (occurrences x y 0 x.length (x.length + 1)).isEmpty
  ·have hs2 : (partsBetween x (occurrences x y 0 x.length (x.length + 1)) y.length).length ≤ sizeLine := by
    have e : Txt.split x y = partsBetween x (occurrences x y 0 x.length (x.length + 1)) y.length := (if_neg (ne_true_of_eq_false h1)).trans (if_neg (ne_true_of_eq_false hf))
    rw [← e]; exact Nat.le_trans hn DE
   refine call_meets F.slot_str_split (typeIs_str _ _ _) F.entry_str_split (F.args_str_split_2 _ _) (meets_str_split_sep x y t u h1 hy hf hsz hs2) ?_
   show wants _ _ _ { s with toks := _, heap := s.heap.push { cls := .type "list", data := .seq (strsFrom s.toks (partsBetween x (occurrences x y 0 x.length (x.length + 1)) y.length)).toArray } }
   rw [strsFrom_eq]
   exact fin (numbered s.toks _) _ ((numbered_texts _ _).trans ((if_neg (ne_true_of_eq_false h1)).trans (if_neg (ne_true_of_eq_false hf))).symm)
  ·exact call_meets F.slot_str_split (typeIs_str _ _ _) F.entry_str_split (F.args_str_split_2 _ _) (meets_str_split_not_found x y t u h1 hy hf)
    (fin [(x, t)] _ ((if_neg (ne_true_of_eq_false h1)).trans (if_pos hf)).symm)
 ·exact call_meets F.slot_str_split (typeIs_str _ _ _) F.entry_str_split (F.args_str_split_2 _ _) (meets_str_split_cannot_occur x y t u h1)
   (fin [(x, t)] _ (if_pos h1).symm)
end
section
variable {X : Cx} {tg : Expr}
theorem FD {i : Int} (h : -1 ≤ i) : Builtin.Range.rangeSize i (-1) (-1) = i + 1 := by
 unfold Builtin.Range.rangeSize
 rw [if_neg (by decide)]
 split
 ·rename_i h1
  rw [show -(-1 : Int) = 1 by decide, Int.ediv_one]; omega
 ·omega
theorem HJ {i : Int} (h : -1 ≤ i) (h2 : i ≤ 1000) : Builtin.Range.small i (-1) (-1) = true := by
 unfold Builtin.Range.small
 rw [FD h]
 simp only [Builtin.Range.rangeFitsLong, Bool.and_eq_true, Bool.or_eq_true, decide_eq_true_eq, beq_iff_eq]
 refine ⟨⟨⟨⟨⟨by omega, by omega⟩, by omega, by omega⟩, by omega, by omega⟩, by omega, by omega⟩, .inr ?_⟩
 rw [if_neg (by decide), decide_eq_true (by omega), decide_eq_true (by omega)]; rfl
noncomputable def Jc (ta : TA) : TI := fun σ H R => ta σ H fun vs H1 => ∃ i : Int, vs = [.int i, .int (-1), .int (-1)] ∧ (-1 ≤ i ∧ i ≤ 1000) ∧ R (Cu i (-1) (i + 1).toNat) H1
theorem Bi {a b d : Expr} {ta : TA} {p pos : Pos} (hg : Gl X "range") (hm : X.mg "range" = none) (ha : PA X [a, b, d] ta) (hs : starEach [a, b, d] X.env = [(false, eval a X.env), (false, eval b X.env), (false, eval d X.env)] := by rfl) (hs2 : starEach [b, d] X.env = [(false, eval b X.env), (false, eval d X.env)] := by rfl) :
  PI X tg (.Call (.Name "range" p) [a, b, d] [] pos) (Jc ta) := by
 intro pins s σ H R I h
 refine Call_ (jz I hg hm boot_range (PyProof.Rows.callWith_type1 (thn (ha pos pins s σ H _ I h) fun us s1 ⟨vs, H1, I1, r1, q1⟩ => ?_) (by rw [hs, hs2]) (by rw [hs2]; rfl)))
 obtain ⟨i, e, ⟨q1, q2⟩, q⟩ := q1
 subst e
 cases r1 with
 | cons r rr =>
  cases rr with
  | cons r' rr =>
   cases rr with
   | cons r'' rr =>
    cases rr
    obtain ⟨t, rfl⟩ := r
    obtain ⟨t', rfl⟩ := r'
    obtain ⟨t'', rfl⟩ := r''
    refine call_range_3 (by omega) ?_ (Or.inl (PyProof.noPylong_small (by omega)))
    refine wpAny_pyIter_range (IsRange.new ..) (HJ q1 q2) ?_
    have I2 : Inv X pins σ H1 { s1 with heap := s1.heap.push { cls := .type "range", data := .fields #[.int i t, .int (-1) t', .int (-1) t''] }, toks := s1.toks } := I1.kept fun b o e => Heap.get?_push_of_some _ e
    refine ⟨(s1.heap.push { cls := .type "range", data := .fields #[.int i t, .int (-1) t', .int (-1) t''] }).objs.size, [(s1.heap.push { cls := .type "range", data := .fields #[.int i t, .int (-1) t', .int (-1) t''] }).objs.size], _, _, H1, rfl,
     I2.kept (t' := s1.toks) fun b o e => Heap.get?_push_of_some _ e, xS _ i (-1) (i + 1).toNat, ?_, fun b hb => ?_, q⟩
    ·have e1 : i + ((0 : Nat) : Int) * (-1) = i := by simp
     have e2 : (((i + 1).toNat : Nat) : Int) - ((0 : Nat) : Int) = Builtin.Range.rangeSize i (-1) (-1) := by
      rw [FD q1]; omega
     show IsRangeIter _ _ (i + ((0 : Nat) : Int) * (-1)) ((((i + 1).toNat : Nat) : Int) - ((0 : Nat) : Int)) (-1)
     rw [e1, e2]
     exact Heap.get?_push_size _ rfl
    ·have e : b = (s1.heap.push { cls := .type "range", data := .fields #[.int i t, .int (-1) t', .int (-1) t''] }).objs.size := by simpa using hb
     subst e
     exact I2.fpOk (Nat.le_refl _) (I2.hok.fresh (Nat.le_refl _))
end
section
variable {K : PySem.W.Frag} {g : TG} {tb : TS} {D : Ends} {σ : St} {H : Hp}
theorem BV {lo : Int} {n : Nat} (Pv : Nat → St → Hp → Prop) (h0 : Pv 0 σ H)
  (hs : ∀ i σ H, i < n → Pv i σ H → g (.int (lo + i * (-1))) σ H fun σ2 H2 => tb { D with nx := Pv (i + 1), ct := Pv (i + 1), bk := D.nx } σ2 H2) (hd : ∀ σ H, Pv n σ H → D.nx σ H) :
  ∃ W : Nat → Nat → St → Hp → Prop, (∃ m, W 0 m σ H) ∧ ∀ i m σ H, W i m σ H →
   ((Cu lo (-1) n).stop i H ∧ D.nx σ H) ∨ ((Cu lo (-1) n).go i H ∧ ∃ N : St → Hp → Prop, (∀ σ' H', N σ' H' → ∃ m', m' < m ∧ W (i + 1) m' σ' H') ∧ ∀ x H', (Cu lo (-1) n).yld i H x H' → g x σ H' fun σ2 H2 => tb { D with nx := N, ct := N, bk := D.nx } σ2 H2) :=
 Ed n Pv h0 (fun i σ H hi p => hi) (fun σ H p => Nat.le_refl _) (fun i x σ H H' hi p y => by
  obtain ⟨e, rfl⟩ := y
  subst e
  exact hs i σ _ hi p) hd
end
structure FunD (K : PySem.W.Frag) (x qual : Str) (st : Stmt) (f : Addr) (fd : FuncData) : Prop where
 ex : ∃ (dT : Addr) (oc : Value) (od : Option Addr) (kV doc pm : Value) (an : Option Addr) (cdv ct : Value) (osl : Array (Option Value)),
  fd = PySem.W.fnOf x qual (gy st) (bC st) (ap st) (.ref dT) kV doc pm an cdv ct ∧ K.lookup f = some ⟨oc, od, .func fd, osl⟩ ∧ PySem.W.codeIn K cdv qual = true
 kp : PySem.W.keepIn K (.ref f) = true
section
variable {P : Program} {w : World} {K : PySem.W.Frag} {mg : Str → Option Value} {base : Heap}
theorem FunD.okW {x qual : Str} {st : Stmt} {f : Addr} {fd : FuncData} {N ps : List Str} {k : Nat} {sp : Sp} (F : FunD K x qual st f fd) (S : FnScope N ps (ap st)) (len : ∀ vs H Q E, sp vs H Q E → vs.length = ps.length)
  (hbody : ∀ (cdv : Value) (A : Around) (outer : List Env) (s : Shared) (H : Hp) (vs : List V) (Q : VK) (E : XK), Room k (A.deeper (envOfC qual (ap st) s.heap.objs.size f cdv)) → sp vs H Q E →
   ∃ t, PSs (fH (CXW P w) P w K mg base N qual (ap st) f cdv A outer s H E) (bC st) t ∧ t { nx := fun _ H' => Q .non H', rt := Q } (jb N vs) H) : FnOk P w K mg base (CXW P w) (k + 1) f fd ps sp := by
 obtain ⟨dT, oc, od, kV, doc, pm, an, cdv, ct, osl, rfl, lk, hcd⟩ := F.ex
 exact BU lk hcd S len fun A outer s H vs Q E hr hsp => hbody cdv A outer s H vs Q E hr hsp
theorem Ej {x qual : Str} {st : Stmt} {f dT : Addr} {oc : Value} {od an : Option Addr} {osl : Array (Option Value)} {kV doc pm cdv ct : Value} (l : K.lookup f = some ⟨oc, od, .func (PySem.W.fnOf x qual (gy st) (bC st) (ap st) (.ref dT) kV doc pm an cdv ct), osl⟩)
  (c : PySem.W.codeIn K cdv qual = true) (k : PySem.W.keepIn K (.ref f) = true) : FunD K x qual st f (PySem.W.fnOf x qual (gy st) (bC st) (ap st) (.ref dT) kV doc pm an cdv ct) := ⟨⟨dT, oc, od, kV, doc, pm, an, cdv, ct, osl, rfl, l, c⟩, k⟩
theorem CH {fd : FuncData} {dT : Addr} {ps : List Str} {oc : Value} {od : Option Addr} {ds : Array Value} {n : Nat} {sl : Array (Option Value)} {ds' : List Value} (hf : fd.defaults = .ref dT) (l : K.lookup dT = some ⟨oc, od, .seq ds n, sl⟩)
  (h : ∀ us : List Value, (us ++ ds').length = ps.length → ∃ k, bindArgs fd ⟨us, []⟩ = seqItems? fd.defaults >>= k ∧ k (some ds) = pure (ps.zip (us ++ ds'))) : gJ K fd ps ds' := fun s us X hl => by
 obtain ⟨k, h1, h2⟩ := h us hl
 exact .of_defaults hf (X _ _ l) rfl h1 h2
end
section
variable {X : Cx}
theorem EJ (l : Addr) (ys : Array Value) (n : Nat) (b : Addr) (zs : Array Value) (m : Nat) (di : Option Addr) (sl : Array (Option Value)) (h0 : ¬(!ys.isEmpty && Builtin.List.listTooLong (ys.size + zs.size)) = true) (h1 : ys.size ≤ sizeLine) (h2 : ys.size + zs.size ≤ sizeLine + 1) :
  Meets (Builtin.«list.extend» ⟨[.ref l, .ref b], []⟩) (fun _ R s => s.heap.get? l = some { cls := .type "list", data := .seq ys n } ∧ s.heap.get? b = some { cls := .type "tuple", dict := di, data := .seq zs m, slots := sl } ∧ R (.ok (.ret .none)) { s with heap := s.heap.update l (Obj.mapSeq fun x => x ++ zs) }) :=
 .of_wp fun prog w A R s h => by
  obtain ⟨hp, g, d, tk, os⟩ := s
  obtain ⟨hl, hb, h⟩ := h
  have f1 := AutoSeq1.idx_int
  have f5 := AutoSeq1.sub_list_tuple
  have z' : (ys ++ zs).size ≤ sizeLine + 1 := by rw [Array.size_append]; exact h2
  wp_walk using (wpAny_updateSeq hl rfl (hz := h1) (_hz' := z')), wpAny_loadPart' hl, wpAny_loadPart' hb
  exact ⟨_, rfl, h⟩
noncomputable def CF : V → List V → Hp → VK → Prop := fun x vs H Q => ∃ l b xs zs, x = .ref l ∧ vs = [.ref b] ∧ H l = some (.lst xs) ∧ H b = some (.tup zs) ∧ xs.length + zs.length ≤ sizeLine ∧ Q .non (upd H l (.lst (xs ++ zs)))
theorem zb : MtM X "list.extend" CF := by
 intro pins s σ H x vs v us Q I rx rv h
 obtain ⟨l, b, xs, zs, rfl, rfl, hH, hB, hz, q⟩ := h
 cases rx
 obtain ⟨u, rfl, ru⟩ := rv.one
 cases ru
 obtain ⟨z, its, n, r, hl, e⟩ := I.lstM hH
 obtain ⟨z2, its2, r2, ⟨oc, od, ot, os⟩, e2, hc, n2, hd⟩ := I.hok b _ hB
 cases hc
 cases hd
 have hl2 := r2.length
 have hsz : its.toArray.size + its2.toArray.size ≤ sizeLine := by rw [List.size_toArray, List.size_toArray]; omega
 have hlong : ¬ (!its.toArray.isEmpty && Builtin.List.listTooLong (its.toArray.size + its2.toArray.size)) = true := by
  rw [yc hsz, Bool.and_false]
  exact Bool.false_ne_true
 refine call_meets F.slot_list_extend ⟨_, e, rfl⟩ F.entry_list_extend (F.args_list_extend_2 _ _)
  (EJ l its.toArray n b its2.toArray n2 _ _ hlong (by rw [List.size_toArray]; omega) (by omega)) ⟨e, e2, ?_⟩
 refine ⟨.non, _, I.lset (its' := its ++ its2) hH e (by simp) (r.append r2) ?_, rfl, q⟩
 rw [List.length_append]
 omega
end
noncomputable def PSX (X : Cx) (body : List Stmt) (tx : Ends → XK → St → Hp → Prop) : Prop := ∀ pins s σ H D Ex, Inv X pins σ H s → tx D Ex σ H → wpAny (model X.prog X.w) X.A (execs body X.env) (fun fl s' => SP X pins D fl s') (fun ex s' => ∃ H1 s1, Inv X pins σ H1 s1 ∧ CXW X.prog X.w X.stack H1 s1 Ex ex s') s
section
variable {X : Cx} {k : Nat} {f : Addr} {fd : FuncData} {ps : List Str} {sp : Sp} {x c n y : Str} {p cpos epos np hpos pos rpos kp p0 : Pos} {e : Expr} {es : List Expr} {b₀ : Stmt} {suite body : List Stmt} {t : TA} {ts : Addr → TS} {i : Nat} {C0 : Addr} {bmB : List Value} {newId : String} {tx : Ends → XK → St → Hp → Prop}
noncomputable def JD (sp : Sp) (dvs : List V) (t : TA) : Ends → XK → St → Hp → Prop := fun D Ex σ H => t σ H fun vs H1 => sp (vs ++ dvs) H1 D.rt Ex
theorem mW {dvs : List V} {ds : List Value} (F : FnOk X.prog X.w X.K X.mg X.base (CXW X.prog X.w) k f fd ps sp) (hr : Room k X.A) (hg : Gl X x) (hm : X.mg x = some (.ref f)) (hk : PySem.W.keepIn X.K (.ref f) = true) (hb : gJ X.K fd ps ds) (hd : bE dvs ds) (ha : PA X.nox (e :: es) t) (hdb : (x == ("__debug__" : Str)) = false := by decide)
  (he : starEach (e :: es) X.env = (false, eval e X.env) :: starEach es X.env := by rfl) (hpl : (backTo cpos (starEach es X.env)).any (·.1) = false := by rfl) : PSX X [.Return (some (.Call (.Name x p) (e :: es) [] cpos)) rpos] (JD sp dvs t) := by
 intro pins s σ H D Ex I h
 refine wpAny_execs_cons (wpAny_Return_some (wpAny_Call_Name_kw (jJ I hg hm ?_ hdb)))
 refine PySem.W.callWith_K (h₀ := X.base) I.ok.mod.kin hk (wpAny_mono (ha cpos pins s σ H _ (I.wish _) h) (fun us s1 hq => ?_) fun _ _ z => z.elim) he hpl
 obtain ⟨vs, H1, I1, r, q⟩ := hq
 replace I1 : Inv X pins σ H1 s1 := I1.unwish
 refine ⟨I1.kIn, thn (EX (dvs := dvs) (Q := fun v H2 => D.rt v H2) F hr hb hd I1 r q fun ex s' cx => ⟨H1, s1, I1, cx⟩) ?_⟩
 rintro v s2 ⟨v', H2, I2, r2, q2⟩
 exact ⟨v', σ, H2, I2, r2, q2⟩
noncomputable def xIf (tc : TT) (ta tr : Ends → XK → St → Hp → Prop) : Ends → XK → St → Hp → Prop := fun D Ex σ H => tc σ H fun b H1 => if b = true then ta { D with nx := fun _ _ => False } Ex σ H1 else tr D Ex σ H1
theorem vt {cd : Expr} {a jq : List Stmt} {tc : TT} {ta tr : Ends → XK → St → Hp → Prop} (hc : PT X.nox cd tc) (ha : PSX X a ta) (hb : PSX X jq tr) : PSX X (.If cd a [] pos :: jq) (xIf tc ta tr) := by
 intro pins s σ H D Ex I h
 refine wpAny_execs_cons (wpAny_If (wpAny_mono (hc pins s σ H _ (I.wish _) h) (fun d s1 q => ?_) fun _ _ z => z.elim))
 obtain ⟨H1, I1, q1⟩ := q
 replace I1 : Inv X pins σ H1 s1 := I1.unwish
 cases d with
 | true =>
  refine wpAny_mono (ha pins s1 σ H1 _ Ex I1 q1) (fun fl s2 q2 => ?_) fun _ _ z => z
  cases fl with
  | next => obtain ⟨_, _, _, z⟩ := q2; exact z.elim
  | brk => exact q2
  | cont => exact q2
  | ret u => exact q2
 | false => exact wpAny_execs_nil (hb pins s1 σ H1 D Ex I1 q1)
theorem El (hE : PSX X body tx)
  (hstk : X.stack = X.env :: X.outer) (hfr : X.env.frame = some X.env.locals) (hex : X.ex = [])
  (hgc : Gl X c) (hmc : X.mg c = some (.ref C0)) (hq0 : excIn X.K C0 bmB newId = true) (hbB : bmB.contains (.type "BaseException") = true) (hN : X.N.Nodup) (hi : X.N[i]? = some n) (hl : X.env.kindOf n = some .local) (hln : X.env.scope.names.lookup n = some .local)
  (hs : ∀ a, PSs (X.held a) (b₀ :: suite) (ts a)) (hdc : (c == ("__debug__" : Str)) = false := by decide) :
  PS X (.Try body [.ExceptHandler (some (.Name c np)) (some n) (b₀ :: suite) hpos] [] [] pos) (fun D σ H => tx D (fun cls _ H2 => ∃ C bm nid, cls = .ref C ∧ excIn X.K C bm nid = true ∧ jv X.K C C0 = true ∧
   ∀ a, H2 a = none → ts a { nx := fun σ' H' => D.nx (σ'.set i none) H', rt := D.rt, bk := fun σ' H' => D.bk (σ'.set i none) H', ct := fun σ' H' => D.ct (σ'.set i none) H' } (σ.set i (some (.ref a))) (upd H2 a (oW a C))) σ H) := by
 intro pins s σ H D I h
 refine wpAny_Try_except ?_
 refine wpAny_mono (hE pins s σ H D _ I h) (fun fl s1 q => ?_) ?_
 ·cases fl with
  | next => exact wpAny_execs_nil q
  | brk => exact q
  | cont => exact q
  | ret u => exact q
 rintro ex s' ⟨H1, s1, I1, cx⟩
 obtain ⟨a, C, a0, H', B, rfl, os, bare, un, hok, fl, c1, c2, c3, nc, C', bm, nid, eC, hexc, hbel, hgo⟩ := cx
 cases eC
 obtain ⟨na, n1, _⟩ := CXW.new (E := fun _ _ _ => True) (s := s1) hok fl c2 c3 nc
 have cx : CXW X.prog X.w X.stack H1 s1 (fun cls _ H2 => cls = .ref C ∧ H2 = H') (.ref a) s' := ⟨a, C, a0, H', B, rfl, os, bare, un, hok, fl, c1, c2, c3, nc, rfl, rfl⟩
 clear fl c1 c2 c3 nc un hok
 have inv : ∀ {s5 : Shared}, CXW X.prog X.w X.stack H1 s1 (fun cls _ H2 => cls = .ref C ∧ H2 = H') (.ref a) s5 → Inv X pins σ H' s5 ∧ ∃ oe ws, s5.heap.get? a = some oe ∧ oe.cls = .ref C ∧ oe.data = .fields ws ∧ ws[2]? = some .none := fun {s5} cx => by
  obtain ⟨a1, C1, _, H5, B5, e1, os, bare, un, hok, fl, c1, c2, c3, nc, e2, e3⟩ := cx
  cases e1; cases e2; subst e3
  exact ⟨I1.call' os un hok bare fun b z => absurd z (by simp), (CXW.new (E := fun _ _ _ => True) (s := s1) hok fl c2 c3 nc).2.2⟩
 obtain ⟨B4, C4, a4, fl4, nc4, st4⟩ := cx.step
 rw [hstk] at fl4 st4
 refine iF As nc4 (wpAny_looks_onW (by rw [I.ok.frames, hstk]) hfr fl4 fun h₄ held₄ up₄ nc₄ => ?_)
 refine iF jI nc₄ (wpAny_landsW held₄ fun h₅ fl₅ up₅ nc₅ => ?_)
 have cx5 := st4 h₅ fl₅ (up₄.trans up₅) nc₅
 rw [← hstk] at cx5
 obtain ⟨J5, oe, ws, he5, hc5, hd5, _⟩ := inv cx5
 refine wpAny_handleBy_cons (codeAny_handlers_test (jJ (X := X.held a) (J5.hold a) hgc hmc ?_ hdc)) (by intro q; cases q)
 obtain ⟨tl, N1, nm, q1, bs, hdct, sn, sub, ab, col, dd, k0, k1, k2, k3, k5, mN, hC, hN1, hni, T⟩ := (zj (x := c) (mg := fun _ => some (.ref C)) J5.kIn rfl hexc).obj
 obtain ⟨tl', N1', nm', q1', bs', hdct', sn', sub', ab', col', dd', j0, j1, j2, j3, j5, mN', hC', hN1', hni', T'⟩ := (zj J5.kIn hmc hq0).obj
 have hin : (Value.ref C :: tl).contains (.ref C0) = true := by
  unfold jv at hbel
  split at hbel
  ·rename_i ho
   have := J5.kIn _ _ ho
   rw [hC] at this
   cases this
   exact hbel
  ·cases hbel
 refine ow hC hC' he5 hc5 (T'.hasType hbB) hin (codeAny_handlers_suite_as ?_)
 obtain ⟨B6, C6, a6, fl6, nc6, st6⟩ := cx5.step
 refine iF jI nc6 (lands_againW fl6 fun h₆ fl₆ up₆ nc₆ => ?_)
 obtain ⟨J6, oe6, ws6, he6, hc6, hd6, h26⟩ := inv (st6 h₆ fl₆ up₆ nc₆)
 have J7 := Inv.adopt (C := C) I1 n1 (by rw [hex]; simp) J6 na he6 hc6 hd6 h26
 refine qO (X := X.held a) (v := .ref a) (J7.hold a) hN hi (.inl hln) rfl (fun s8 J8 => ?_) (.inr hln)
 refine wpAny_mono (hs a pins s8 _ _ _ J8 (hgo a na)) (fun fl9 s9 q9 => ?_) fun _ _ z => z.elim
 cases fl9 with
 | next => obtain ⟨σ', H9, J9, q9⟩ := q9; exact qh (J9.unhold I.ok) hN hi hl fun s' K' => ⟨_, _, K', q9⟩
 | brk => obtain ⟨σ', H9, J9, q9⟩ := q9; exact qh (J9.unhold I.ok) hN hi hl fun s' K' => ⟨_, _, K', q9⟩
 | cont => obtain ⟨σ', H9, J9, q9⟩ := q9; exact qh (J9.unhold I.ok) hN hi hl fun s' K' => ⟨_, _, K', q9⟩
 | ret u => obtain ⟨v, σ', H9, J9, r9, q9⟩ := q9; exact qh (J9.unhold I.ok) hN hi hl fun s' K' => ⟨v, _, _, K', r9, q9⟩
end
end L2
namespace KP
open PySem L2
noncomputable def top (i : Nat) : Stmt := PySem.Challenge.pw_panehouse_k13_whole_edits.main.body.getD i (.Pass ⟨0, 0, 0, 0⟩)
noncomputable abbrev ke : Stmt := top 16
noncomputable abbrev jS : Stmt := top 17
noncomputable abbrev fJ : Stmt := top 18
noncomputable abbrev pb : Stmt := top 19
noncomputable abbrev oB : Stmt := top 31
noncomputable abbrev fE : Stmt := top 32
noncomputable abbrev oJ : Stmt := top 33
noncomputable abbrev cH : Stmt := top 34
noncomputable abbrev oN : Stmt := top 35
noncomputable abbrev mq : Stmt := top 36
noncomputable abbrev gQ : Stmt := top 37
noncomputable abbrev cI : Stmt := top 38
noncomputable abbrev iP : Stmt := top 39
noncomputable abbrev rY : Stmt := top 41
noncomputable abbrev kx : Stmt := top 42
noncomputable abbrev mn : Stmt := top 43
noncomputable abbrev pd : Stmt := top 44
noncomputable abbrev kh : Stmt := top 45
noncomputable abbrev kD : Stmt := top 46
noncomputable abbrev ml : Stmt := top 47
noncomputable abbrev fL : Stmt := top 48
noncomputable abbrev oF : Stmt := top 49
noncomputable abbrev kH : Stmt := top 51
noncomputable abbrev vq : Stmt := top 52
noncomputable abbrev oA : Stmt := top 53
noncomputable abbrev oQ : Stmt := top 54
noncomputable abbrev iD : Stmt := top 55
noncomputable abbrev iU : Stmt := top 56
noncomputable abbrev iG : Stmt := top 57
noncomputable abbrev kR : Stmt := top 58
noncomputable abbrev iL : Stmt := top 60
noncomputable abbrev cB : Stmt := top 61
noncomputable abbrev dj : Stmt := top 62
noncomputable abbrev dF : Stmt := top 63
noncomputable abbrev rW : Stmt := top 64
noncomputable abbrev iK : Stmt := top 65
noncomputable abbrev qN : Stmt := top 66
noncomputable abbrev mD : Stmt := top 67
noncomputable abbrev uT : Stmt := top 68
noncomputable abbrev kX : Stmt := top 69
noncomputable abbrev rN : Stmt := top 70
noncomputable abbrev cD : Stmt := top 71
noncomputable abbrev mF : Stmt := top 72
abbrev xk : List Str := ["thing"]
abbrev hZ : List Str := ["thing"]
theorem fsc {N P : List Str} {sc : Scope} (a : sc.kind = .function) (b : sc.isCoroutine = false) (c : sc.isGenerator = false) (d : N.take P.length = P) (e : N.Nodup ∧ (∀ x ∈ P, sc.names.lookup x = some .local ∨ sc.names.lookup x = some .cell) ∧ ∀ y ∈ sc.names, y.2 ≠ .free) : FnScope N P sc := ⟨a, b, c, e.1, d, e.2.1, e.2.2⟩
theorem vW : FnScope xk hZ (ap ke) := fsc rfl rfl rfl rfl (by decide +kernel)
abbrev xF : List Str := ["thing", "least", "most"]
abbrev ip : List Str := ["thing", "least", "most"]
theorem uR : FnScope xF ip (ap jS) := fsc rfl rfl rfl rfl (by decide +kernel)
abbrev lU : List Str := ["text", "signs"]
abbrev jG : List Str := ["text", "signs"]
theorem yn : FnScope lU jG (ap fJ) := fsc rfl rfl rfl rfl (by decide +kernel)
abbrev AU : List Str := ["thing"]
abbrev li : List Str := ["thing"]
theorem yE : FnScope AU li (ap pb) := fsc rfl rfl rfl rfl (by decide +kernel)
abbrev Bv : List Str := ["thing"]
abbrev lH : List Str := ["thing"]
theorem yV : FnScope Bv lH (ap oB) := fsc rfl rfl rfl rfl (by decide +kernel)
abbrev ma : List Str := ["thing"]
abbrev jr : List Str := ["thing"]
theorem xT : FnScope ma jr (ap fE) := fsc rfl rfl rfl rfl (by decide +kernel)
abbrev BA : List Str := ["text"]
abbrev lG : List Str := ["text"]
theorem zv : FnScope BA lG (ap oJ) := fsc rfl rfl rfl rfl (by decide +kernel)
abbrev gk : List Str := ["thing"]
abbrev eG : List Str := ["thing"]
theorem oT : FnScope gk eG (ap cH) := fsc rfl rfl rfl rfl (by decide +kernel)
abbrev AY : List Str := ["kind", "thing"]
abbrev kO : List Str := ["kind", "thing"]
theorem zD : FnScope AY kO (ap oN) := fsc rfl rfl rfl rfl (by decide +kernel)
abbrev yv : List Str := ["kind", "thing", "most"]
abbrev jE : List Str := ["kind", "thing"]
theorem pM : FnScope yv jE (ap mq) := fsc rfl rfl rfl rfl (by decide +kernel)
abbrev qM : List Str := ["thing"]
abbrev fc : List Str := ["thing"]
theorem pP : FnScope qM fc (ap gQ) := fsc rfl rfl rfl rfl (by decide +kernel)
abbrev gg : List Str := ["thing", "names", "waiting", "entry", "box", "deep"]
abbrev dW : List Str := ["thing"]
theorem cE : FnScope gg dW (ap cI) := fsc rfl rfl rfl rfl (by decide +kernel)
abbrev qL : List Str := ["doc", "name", "waiting", "way"]
abbrev mZ : List Str := ["doc", "name"]
theorem oU : FnScope qL mZ (ap iP) := fsc rfl rfl rfl rfl (by decide +kernel)
abbrev De : List Str := ["doc", "name"]
abbrev nN : List Str := ["doc", "name"]
theorem Bb : FnScope De nN (ap rY) := fsc rfl rfl rfl rfl (by decide +kernel)
abbrev wy : List Str := ["box", "kids"]
abbrev ie : List Str := ["box", "kids"]
theorem vY : FnScope wy ie (ap kx) := fsc rfl rfl rfl rfl (by decide +kernel)
abbrev zw : List Str := ["way", "boxes", "at", "kids", "kid"]
abbrev jg : List Str := ["way", "boxes"]
theorem gf : FnScope zw jg (ap mn) := fsc rfl rfl rfl rfl (by decide +kernel)
abbrev Bf : List Str := ["way", "box", "doc"]
abbrev kT : List Str := ["way", "box"]
theorem rm : FnScope Bf kT (ap pd) := fsc rfl rfl rfl rfl (by decide +kernel)
abbrev xJ : List Str := ["doc", "name", "text", "way", "box"]
abbrev hU : List Str := ["doc", "name", "text"]
theorem jy : FnScope xJ hU (ap kh) := fsc rfl rfl rfl rfl (by decide +kernel)
abbrev wZ : List Str := ["doc", "name", "tags", "way", "box"]
abbrev im : List Str := ["doc", "name", "tags"]
theorem jw : FnScope wZ im (ap kD) := fsc rfl rfl rfl rfl (by decide +kernel)
abbrev zh : List Str := ["box", "place"]
abbrev jK : List Str := ["box", "place"]
theorem xn : FnScope zh jK (ap ml) := fsc rfl rfl rfl rfl (by decide +kernel)
abbrev zN : List Str := ["doc", "name", "box", "place", "way", "about", "at"]
abbrev fQ : List Str := ["doc", "name", "box", "place"]
theorem hJ : FnScope zN fQ (ap fL) := fsc rfl rfl rfl rfl (by decide +kernel)
abbrev BI : List Str := ["doc", "name", "way"]
abbrev kM : List Str := ["doc", "name"]
theorem rB : FnScope BI kM (ap oF) := fsc rfl rfl rfl rfl (by decide +kernel)
abbrev xg : List Str := ["_law_script", "_law_k"]
abbrev iq : List Str := ["_law_script", "_law_k"]
theorem vn : FnScope xg iq (ap kH) := fsc rfl rfl rfl rfl (by decide +kernel)
abbrev Eb : List Str := ["_law_state_here", "_law_cell"]
abbrev qj : List Str := ["_law_state_here", "_law_cell"]
theorem BZ : FnScope Eb qj (ap vq) := fsc rfl rfl rfl rfl (by decide +kernel)
abbrev Bl : List Str := ["_law_script", "_law_at"]
abbrev kY : List Str := ["_law_script", "_law_at"]
theorem zJ : FnScope Bl kY (ap oA) := fsc rfl rfl rfl rfl (by decide +kernel)
abbrev Bw : List Str := ["_law_cell", "_law_size", "_law_place", "_law_some", "_law_names_here", "_law_k", "_law_sign"]
abbrev kJ : List Str := ["_law_cell"]
theorem eM : FnScope Bw kJ (ap oQ) := fsc rfl rfl rfl rfl (by decide +kernel)
abbrev rX : List Str := ["_law_pick", "_law_names_here", "_law_many"]
abbrev nv : List Str := ["_law_pick", "_law_names_here"]
theorem uc : FnScope rX nv (ap iD) := fsc rfl rfl rfl rfl (by decide +kernel)
abbrev se : List Str := ["_law_state_here", "_law_cell", "_law_signs", "_law_words", "_law_k", "_law_pick", "_law_size"]
abbrev nS : List Str := ["_law_state_here", "_law_cell"]
theorem gF : FnScope se nS (ap iU) := fsc rfl rfl rfl rfl (by decide +kernel)
abbrev si : List Str := ["_law_script", "_law_at", "_law_state_here", "_law_names_here", "_law_kinds", "_law_rows_here", "_law_k", "_law_pick", "_law_holders", "_law_about", "_law_kind", "_law_more"]
abbrev mO : List Str := ["_law_script", "_law_at"]
theorem ci : FnScope si mO (ap iG) := fsc rfl rfl rfl rfl (by decide +kernel)
abbrev vy : List Str := ["_law_rows_here", "_law_k", "_law_kids"]
abbrev kL : List Str := ["_law_rows_here", "_law_k"]
theorem wQ : FnScope vy kL (ap kR) := fsc rfl rfl rfl rfl (by decide +kernel)
abbrev rq : List Str := ["_law_one", "_law_other"]
abbrev iZ : List Str := ["_law_one", "_law_other"]
theorem AW : FnScope rq iZ (ap iL) := fsc rfl rfl rfl rfl (by decide +kernel)
abbrev dO : List Str := ["_law_text_here", "_law_signs", "_law_words", "_law_bad"]
abbrev fT : List Str := ["_law_text_here"]
theorem fq : FnScope dO fT (ap cB) := fsc rfl rfl rfl rfl (by decide +kernel)
abbrev iw : List Str := ["_law_name", "_law_signs"]
abbrev fS : List Str := ["_law_name"]
theorem jU : FnScope iw fS (ap dj) := fsc rfl rfl rfl rfl (by decide +kernel)
abbrev jx : List Str := ["_law_box_here", "_law_kind", "_law_name", "_law_tags_here", "_law_more", "_law_kids"]
abbrev gB : List Str := ["_law_box_here"]
theorem dh : FnScope jx gB (ap dF) := fsc rfl rfl rfl rfl (by decide +kernel)
abbrev Dy : List Str := ["_law_doc", "_law_level", "_law_names_here", "_law_deep", "_law_box_here", "_law_inner"]
abbrev nQ : List Str := ["_law_doc"]
theorem eV : FnScope Dy nQ (ap rW) := fsc rfl rfl rfl rfl (by decide +kernel)
abbrev sw : List Str := ["_law_e", "_law_words", "_law_told"]
abbrev jX : List Str := ["_law_e"]
theorem oy : FnScope sw jX (ap iK) := fsc rfl rfl rfl rfl (by decide +kernel)
abbrev BX : List Str := ["_law_state_here", "_law_names_here", "_law_k", "_law_pick", "_law_name", "_law_word_here", "_law_more", "_law_thing", "_law_some", "_law_new", "_law_blank", "_law_pair", "_law_deep", "_law_twice", "_law_place"]
abbrev nA : List Str := ["_law_state_here", "_law_names_here", "_law_k"]
theorem bP : FnScope BX nA (ap qN) := fsc rfl rfl rfl rfl (by decide +kernel)
abbrev zf : List Str := ["_law_box_here", "_law_edit_here", "_law_word_here", "_law_name", "_law_thing", "_law_place", "_law_kids", "_law_kid", "_law_at"]
abbrev fI : List Str := ["_law_box_here", "_law_edit_here"]
theorem cc : FnScope zf fI (ap mD) := fsc rfl rfl rfl rfl (by decide +kernel)
abbrev EV : List Str := ["_law_box_here", "_law_told", "_law_kid"]
abbrev kP : List Str := ["_law_box_here"]
theorem qF : FnScope EV kP (ap uT) := fsc rfl rfl rfl rfl (by decide +kernel)
abbrev uS : List Str := ["_law_doc", "_law_edit_here", "_law_word_here", "_law_name", "_law_thing", "_law_place", "_law_here", "_law_good_here", "_law_due_here"]
abbrev qp : List Str := ["_law_doc", "_law_edit_here"]
theorem fU : FnScope uS qp (ap kX) := fsc rfl rfl rfl rfl (by decide +kernel)
abbrev CJ : List Str := ["_law_doc", "_law_edit_here", "_law_word_here", "_law_name", "_law_thing", "_law_place", "_law_e"]
abbrev nU : List Str := ["_law_doc", "_law_edit_here"]
theorem gG : FnScope CJ nU (ap rN) := fsc rfl rfl rfl rfl (by decide +kernel)
abbrev fK : List Str := ["_law_blank", "_law_edit_here", "_law_rows_here", "_law_j", "_law_kids"]
abbrev dD : List Str := []
theorem cm : FnScope fK dD (ap cD) := fsc rfl rfl rfl rfl (by decide +kernel)
abbrev wq : List Str := ["_law_script", "_law_rows_here", "_law_doc", "_law_state_here", "_law_k", "_law_names_here", "_law_edit_here", "_law_due_here", "_law_held"]
abbrev AB : List Str := ["_law_script"]
theorem iu : FnScope wq AB (ap mF) := fsc rfl rfl rfl rfl (by decide +kernel)
set_option genInjectivity false in
set_option genSizeOfSpec false in
structure Adr where
 pF : Addr
 pH : FuncData
 pi : Addr
 pE : FuncData
 sF : Addr
 rA : FuncData
 tZ : Addr
 uy : FuncData
 tO : Addr
 uE : FuncData
 rz : Addr
 rn : FuncData
 ul : Addr
 tI : FuncData
 jM : Addr
 jO : FuncData
 tw : Addr
 tS : FuncData
 qJ : Addr
 rF : FuncData
 ko : Addr
 kE : FuncData
 jL : Addr
 jN : FuncData
 xN : Addr
 xV : FuncData
 xO : Addr
 xu : FuncData
 pq : Addr
 pr : FuncData
 rV : Addr
 rh : FuncData
 tU : Addr
 uh : FuncData
 pJ : Addr
 pN : FuncData
 pA : Addr
 pz : FuncData
 rc : Addr
 rH : FuncData
 my : Addr
 jB : FuncData
 tE : Addr
 tD : FuncData
 ph : Addr
 pG : FuncData
 Av : Addr
 Az : FuncData
 uw : Addr
 tK : FuncData
 tQ : Addr
 tq : FuncData
 wx : Addr
 xP : FuncData
 xo : Addr
 yq : FuncData
 wM : Addr
 wk : FuncData
 qm : Addr
 pZ : FuncData
 mQ : Addr
 nV : FuncData
 lQ : Addr
 lM : FuncData
 lT : Addr
 lN : FuncData
 nE : Addr
 nW : FuncData
 ym : Addr
 xQ : FuncData
 rj : Addr
 sy : FuncData
 ya : Addr
 xB : FuncData
 jf : Addr
 jA : FuncData
 qo : Addr
 pX : FuncData
 Ae : Addr
 Ag : FuncData
 yj : Addr
 xj : FuncData
 iJ : Addr
 jc : FuncData
 Fj : Addr
 yr : FuncData
 c_PaneError : Addr
 c_NoShare : Addr
 c_NoBox : Addr
 c_NoText : Addr
 c_NoRule : Addr
 c_NoName : Addr
 c_NoPlace : Addr
 c_NoPage : Addr
 c_NoChange : Addr
 c_NoUndo : Addr
 c_NoRow : Addr
structure Dx (K : PySem.W.Frag) (mg : Str → Option Value) (x : Str) (s : Stmt) (ps : List Str) (f : Addr) (d : FuncData) : Prop where
 F : Fun K x x s f d
 b : gJ K d ps []
 m : mg x = some (.ref f)
structure Txt (K : PySem.W.Frag) (mg : Str → Option Value) (A : Adr) : Prop where
 ir : Dx K mg "is_number" ke hZ A.pF A.pH
 dA : Dx K mg "is_within" jS ip A.pi A.pE
 eI : Dx K mg "has_only" fJ jG A.sF A.rA
 fP : Dx K mg "is_name" pb li A.tZ A.uy
 lA : Dx K mg "is_kind" oB lH A.tO A.uE
 jD : Dx K mg "are_tags" fE jr A.rz A.rn
 kW : Dx K mg "is_word" oJ lG A.ul A.tI
 dX : Dx K mg "is_words_text" cH eG A.jM A.jO
 kS : Dx K mg "is_more" oN kO A.tw A.tS
 jk : Dx K mg "are_kids" mq jE A.qJ A.rF
 eY : Dx K mg "is_box_alone" gQ fc A.ko A.kE
 cv : Dx K mg "need_document" cI dW A.jL A.jN
 nX : Dx K mg "way_to" iP mZ A.xN A.xV
 cW : Dx K mg "way_in" rY nN A.xO A.xu
 dz : Dx K mg "with_kids" kx ie A.pq A.pr
 eJ : Dx K mg "replaced" mn jg A.rV A.rh
 dg : Dx K mg "checked" pd kT A.tU A.uh
 ib : Dx K mg "with_text" kh hU A.pJ A.pN
 ig : Dx K mg "with_tags" kD im A.pA A.pz
 jm : Dx K mg "place_in" ml jK A.rc A.rH
 F_with_kid : FunD K "with_kid" "with_kid" fL A.my A.jB
 b_with_kid : gJ K A.jB fQ []
 bd_with_kid : gJ K A.jB fQ [.none]
 m_with_kid : mg "with_kid" = some (.ref A.my)
 kQ : Dx K mg "without" oF kM A.tE A.tD
 bo : Dx K mg "_law_cell_at" kH iq A.ph A.pG
 bJ : Dx K mg "_law_mix" vq qj A.Av A.Az
 fF : Dx K mg "_law_state" oA kY A.uw A.tK
 lh : Dx K mg "_law_names" oQ kJ A.tQ A.tq
 mX : Dx K mg "_law_tags" iD nv A.wx A.xP
 gT : Dx K mg "_law_text" iU nS A.xo A.yq
 nM : Dx K mg "_law_rows" iG mO A.wM A.wk
 jo : Dx K mg "_law_box" kR kL A.qm A.pZ
 gN : Dx K mg "_law_same" iL iZ A.mQ A.nV
 fR : Dx K mg "_law_good_text" cB fT A.lQ A.lM
 cS : Dx K mg "_law_good_name" dj fS A.lT A.lN
 gs : Dx K mg "_law_good_box" dF gB A.nE A.nW
 mJ : Dx K mg "_law_good" rW nQ A.ym A.xQ
 nJ : Dx K mg "_law_word" iK jX A.rj A.sy
 nP : Dx K mg "_law_edit" qN nA A.ya A.xB
 eO : Dx K mg "_law_edited" mD fI A.jf A.jA
 dH : Dx K mg "_law_all" uT kP A.qo A.pX
 qa : Dx K mg "_law_due" kX qp A.Ae A.Ag
 dU : Dx K mg "_law_done" rN nU A.yj A.xj
 dI : Dx K mg "_law_no_documents" cD dD A.iJ A.jc
 Fz : Dx K mg "law" mF AB A.Fj A.yr
 cO : ∃ t, mg "MOST_NAME_SIGNS" = some (.int 8 t)
 fY : ∃ t, mg "MOST_TAGS" = some (.int 4 t)
 fV : ∃ t, mg "MOST_KIDS" = some (.int 12 t)
 dw : ∃ t, mg "MOST_COLUMNS" = some (.int 9 t)
 cQ : ∃ t, mg "MOST_TEXT_SIGNS" = some (.int 80 t)
 cN : ∃ t, mg "MOST_WORD_SIGNS" = some (.int 20 t)
 fe : ∃ t, mg "MOST_BOXES" = some (.int 40 t)
 fX : ∃ t, mg "MOST_DEEP" = some (.int 8 t)
 iM : ∃ t, mg "LETTERS" = some (.str "abcdefghijklmnopqrstuvwxyz" t)
 ff : ∃ t, mg "NAME_SIGNS" = some (.str "abcdefghijklmnopqrstuvwxyz0123456789" t)
 fg : ∃ t, mg "TEXT_SIGNS" = some (.str "ABCDEFGHIJKLMNOPQRSTUVWXYZabcdefghijklmnopqrstuvwxyz0123456789" t)
 nZ : ∃ a, mg "KINDS" = some (.ref a) ∧ ut K a ["blank", "words", "row", "flow", "column", "grid", "pile"] = true
 gD : ∃ a, mg "KIDLESS" = some (.ref a) ∧ ut K a ["blank", "words"] = true
 eZ : mg "ValueError" = none
 pw : mg "all" = none
 gP : mg "bool" = none
 nF : mg "int" = none
 ay : mg "isinstance" = none
 bR : mg "len" = none
 mB : mg "list" = none
 cL : mg "range" = none
 rZ : mg "set" = none
 gR : mg "str" = none
 cy : mg "tuple" = none
 m_PaneError : mg "PaneError" = some (.ref A.c_PaneError)
 m_NoShare : mg "NoShare" = some (.ref A.c_NoShare)
 m_NoBox : mg "NoBox" = some (.ref A.c_NoBox)
 m_NoText : mg "NoText" = some (.ref A.c_NoText)
 m_NoRule : mg "NoRule" = some (.ref A.c_NoRule)
 m_NoName : mg "NoName" = some (.ref A.c_NoName)
 m_NoPlace : mg "NoPlace" = some (.ref A.c_NoPlace)
 m_NoPage : mg "NoPage" = some (.ref A.c_NoPage)
 m_NoChange : mg "NoChange" = some (.ref A.c_NoChange)
 m_NoUndo : mg "NoUndo" = some (.ref A.c_NoUndo)
 m_NoRow : mg "NoRow" = some (.ref A.c_NoRow)
 cls : oI K A.c_PaneError [A.c_NoShare, A.c_NoBox, A.c_NoText, A.c_NoRule, A.c_NoName, A.c_NoPlace, A.c_NoPage, A.c_NoChange, A.c_NoUndo, A.c_NoRow] = true
 up : Ff K A.c_PaneError [A.c_NoShare, A.c_NoBox, A.c_NoText, A.c_NoRule, A.c_NoName, A.c_NoPlace, A.c_NoPage, A.c_NoChange, A.c_NoUndo, A.c_NoRow] = true
 kit : vD K = true
open PySem L2 PyProof.Rows
theorem aL : bootBuiltins "isinstance" = some (.builtin "isinstance") := by decide +kernel
theorem xH : bootBuiltins "int" = some (.type "int") := by decide +kernel
theorem lW : bootBuiltins "bool" = some (.type "bool") := by decide +kernel
theorem zz : bootBuiltins "list" = some (.type "list") := by decide +kernel
theorem db : bootBuiltins "tuple" = some (.type "tuple") := by decide +kernel
theorem Aq : bootBuiltins "all" = some (.builtin "all") := by decide +kernel
theorem ca : bootBuiltins "len" = some (.builtin "len") := by decide +kernel
theorem ao {H : Hp} {p : Addr} (h : H p = none) (o : HO) : aK H (upd H p o) := fun b u q => by rw [aD (aX q h)]; exact q
theorem small {n : Nat} (h : n ≤ 1000) : n ≤ sizeLine := Nat.le_of_lt (bc h)
theorem rT {n : Nat} (h : n ≤ 100000) : n ≤ sizeLine := Nat.le_trans h (by decide)
theorem Ev {xs : List Int} {j : Nat} (h : j < xs.length) : atI (xs.map V.int) (j : Int) = some (.int (xs.getD j 0)) := by
 refine bY ?_
 rw [List.getElem?_map, List.getElem?_eq_getElem h, List.getD_eq_getElem?_getD, List.getElem?_eq_getElem h]; rfl
theorem CS (xs : List V) (n : Int) (h0 : 0 ≤ n) : gX xs none (some n) = xs.take n.toNat := by
 obtain ⟨k, rfl⟩ := Int.eq_ofNat_of_zero_le h0
 unfold gX
 rw [HT.sIx_none, HT.sIx_nat, Nat.sub_zero, List.drop_zero]
 by_cases h : k ≤ xs.length
 ·rw [Nat.min_eq_left h]; simp
 ·rw [Nat.min_eq_right (by omega), List.take_length, List.take_of_length_le (by simp; omega)]
theorem mV {xs : List V} {i : Int} (h0 : 0 ≤ i) (h : i < xs.length) : ∃ v, atI xs i = some v ∧ v ∈ xs := by
 obtain ⟨k, rfl⟩ := Int.eq_ofNat_of_zero_le h0
 have hk : k < xs.length := by omega
 exact ⟨xs[k], bY (List.getElem?_eq_getElem hk), List.getElem_mem hk⟩
section
variable {P : Program} {w : World} {K : PySem.W.Frag} {mg : Str → Option Value} {base : Heap} {A : Adr}
noncomputable def HE (K : PySem.W.Frag) : Sp := fun vs H Q _ => ∃ (a : Addr) (ns : List Int) (k : Int), vs = [.ref a, .int k] ∧ SqL K H a (ns.map V.int) ∧ ns.length ≤ 63 ∧ 0 ≤ k ∧ ∀ v : Int, Q (.int v) H
theorem vx (T : Txt K mg A) : FnOk P w K mg base CX0 1 A.ph A.pG iq (HE K) := by
 refine T.bo.F.ok vn (fun vs H Q E h => ?_) (fun cdv B outer s H vs Q E hr h => ?_)
 ·obtain ⟨a, ns, k, rfl, _⟩ := h; rfl
 obtain ⟨a, ns, k, rfl, hS, hn, h0, q⟩ := h
 refine ⟨_, ag (bF (aE zZ (pv 1) (ax aN rfl T.bR ca (aa (pv 0) ae)) (aG _)) (av (aO (aI aW (pv 0) (pv 1) (fun _ _ => rfl)))) aR) (av (aO af)), ?_⟩
 refine ⟨_, rfl, _, rfl, a, _, rfl, .inl hS, _, _, rfl, rfl, _, rfl, mY (fun c => ?_) (fun c => ?_)⟩
 ·have c' : k < (((ns.map V.int).length : Nat) : Int) := of_decide_eq_true c
  rw [List.length_map] at c'
  obtain ⟨j, rfl⟩ := Int.eq_ofNat_of_zero_le h0
  exact ⟨_, rfl, _, rfl, a, _, _, _, rfl, rfl, hS, Ev (by omega), q _⟩
 ·exact q 0
noncomputable def St (st : Addr) (H : Hp) : Prop := ∃ s : Int, H st = some (.lst [.int s]) ∧ 0 ≤ s ∧ s < 2147483648
structure Ms (st : Addr) (H H' : Hp) : Prop where
 keep : ∀ b o, b ≠ st → H b = some o → H' b = some o
 st : St st H'
theorem Ms.trans {st : Addr} {H H1 H2 : Hp} (a : Ms st H H1) (b : Ms st H1 H2) : Ms st H H2 := ⟨fun c o n h => b.keep c o n (a.keep c o n h), b.st⟩
theorem Ms.of {st : Addr} {H H' : Hp} (h : St st H) (e : aK H H') : Ms st H H' := ⟨fun b o _ q => e b o q, let ⟨s, a, b⟩ := h; ⟨s, e _ _ a, b⟩⟩
theorem Ms.grow {st : Addr} {H H1 H2 : Hp} (a : Ms st H H1) (e : aK H1 H2) : Ms st H H2 := a.trans (.of a.st e)
noncomputable def Off (K : PySem.W.Frag) (a st : Addr) (xs : List V) : Prop := a ≠ st ∨ ∀ H : Hp, SqL K H a xs
theorem Off.of {H : Hp} {a st : Addr} {xs : List V} (h : SqL K H a xs) (e : H st = none) : Off K a st xs := by
 rcases h with (h | ⟨o, h⟩) | h
 ·exact .inl fun z => by rw [z, e] at h; cases h
 ·exact .inl fun z => by rw [z, e] at h; cases h
 ·exact .inr fun _ => .inr h
theorem Ms.seq {st : Addr} {H H' : Hp} {a : Addr} {xs : List V} (m : Ms st H H') (n : Off K a st xs) (h : SqL K H a xs) : SqL K H' a xs := by
 rcases n with n | n
 ·rcases h with (h | ⟨o, h⟩) | h
  ·exact .inl (.inl (m.keep _ _ n h))
  ·exact .inl (.inr ⟨o, m.keep _ _ n h⟩)
  ·exact .inr h
 ·exact n _
noncomputable def IN : Sp := fun vs H Q _ => ∃ (p : Addr) (c : Int), vs = [.ref p, .int c] ∧ St p H ∧ ∀ (r : Int) (H' : Hp), 0 ≤ r → r < 2147483648 → Ms p H H' → (∀ b, H b = none → H' b = none) → Q (.int r) H'
theorem za (T : Txt K mg A) : FnOk P w K mg base CX0 1 A.Av A.Az qj IN := by
 refine T.bJ.F.ok BZ (fun vs H Q E h => ?_) (fun cdv B outer s H vs Q E hr h => ?_)
 ·obtain ⟨p, c, rfl, _⟩ := h; rfl
 obtain ⟨p, c, rfl, ⟨s0, hp, h0, h1⟩, q⟩ := h
 refine ⟨_, ag (oz (aJ bI (aJ cU (aJ cU (aJ rD (aI aW (pv 0) af (fun _ _ => rfl)) af) (aJ rD (aJ bI (pv 1) af) af)) af) af) (Cg (pv 0) af xZ))
  (av (aO (aJ cM (aJ bI (aJ rD (aI aW (pv 0) af (fun _ _ => rfl)) (aI aW (pv 0) af (fun _ _ => rfl))) af) af))), ?_⟩
 refine ⟨_, rfl, p, _, _, _, rfl, rfl, .of hp, rfl, _, _, rfl, rfl, .inl ⟨by omega, by omega⟩, _, rfl, _, _, rfl, rfl, (by show (0 : Int) < 2147483647; decide), _, _, rfl, rfl, .inr ⟨by decide, by decide⟩, _, _, rfl, rfl, _, _, rfl, rfl, _, _, rfl, rfl, (by show (0 : Int) < 2147483647; decide), ?_⟩
 refine ⟨_, rfl, p, _, _, 0, rfl, rfl, hp, rfl, ?_⟩
 generalize hs1 : (s0 * 48271 + c % 2147483647 * 16807 + 11) % 2147483647 = s1
 have b0 : 0 ≤ s1 := by rw [← hs1]; exact Int.emod_nonneg _ (by decide)
 have b1 : s1 < 2147483647 := by rw [← hs1]; exact Int.emod_lt_of_pos _ (by decide)
 refine ⟨_, rfl, p, _, _, _, rfl, rfl, .of ai, rfl, _, rfl, p, _, _, _, rfl, rfl, .of ai, rfl, _, _, rfl, rfl, .inl ⟨by omega, by omega⟩, _, _, rfl, rfl, (by show (0 : Int) < 2147483629; decide), _, _, rfl, rfl, ⟨by decide, by decide⟩, ?_⟩
 generalize hz : s1 * s1 % 2147483629 = z
 have c0 : 0 ≤ z := by rw [← hz]; exact Int.emod_nonneg _ (by decide)
 have c1 : z < 2147483629 := by rw [← hz]; exact Int.emod_lt_of_pos _ (by decide)
 refine q _ _ (by omega) (by omega) ⟨fun b o n e => by rw [aD n]; exact e, ⟨s1, by rw [ai]; show some (HO.lst [V.int ((s0 * 48271 + c % 2147483647 * 16807 + 11) % 2147483647)]) = _; rw [hs1], b0, by omega⟩⟩ fun b e => ?_
 rw [aD (fun z => by rw [z, hp] at e; cases e)]; exact e
end
section
variable {P : Program} {w : World} {K : PySem.W.Frag} {mg : Str → Option Value} {base : Heap} {A : Adr}
theorem St.ne {st : Addr} {H : Hp} (h : St st H) {l : Addr} (e : H l = none) : l ≠ st := fun z => by obtain ⟨s, a, _⟩ := h; rw [z, a] at e; cases e
theorem Ms.set {st : Addr} {H H' : Hp} (m : Ms st H H') {l : Addr} (o : HO) (e : H l = none) (n : l ≠ st) : Ms st H (upd H' l o) :=
 ⟨fun b u hb q => by rw [aD (aX q e)]; exact m.keep b u hb q, let ⟨s, a, b⟩ := m.st; ⟨s, by rw [aD n.symm]; exact a, b⟩⟩
theorem Ms.new {st : Addr} {H H' : Hp} (m : Ms st H H') {l : Addr} (o : HO) (e : H' l = none) : Ms st H (upd H' l o) := m.grow (ao e o)
theorem St.mk' {H : Hp} {st : Addr} (c : Int) : St st (upd H st (.lst [.int (1 + c % 2147483646)])) :=
 ⟨1 + c % 2147483646, ai, by have := Int.emod_nonneg c (show (2147483646 : Int) ≠ 0 by decide); omega, by have := Int.emod_lt_of_pos c (show (0 : Int) < 2147483646 by decide); omega⟩
end
noncomputable def sgA : Str := "abcdefghijklmnopqrstuvwxyz0123456789"
noncomputable def mS : Str := "m"
noncomputable def nmN (c : Int) : Int := 1 + c % 8
noncomputable def nmP (c : Int) : Int := c / 8 % nmN c
noncomputable def nmM (c : Int) : Int := if nmP c > 0 then 36 else 26
noncomputable def nmJ (c : Int) (k : Nat) : Nat := ((c / 64 + k) % nmM c).toNat
noncomputable def nm (c : Int) (k : Nat) : Str := ki mS (nmP c).toNat ++ ⟨#[sgA.cps.toList.getD (nmJ c k) 0]⟩ ++ ki mS (nmN c - 1 - nmP c).toNat
noncomputable def nms (c : Int) : List Str := (List.range 24).map (nm c)
theorem su (c : Int) : 1 ≤ nmN c ∧ nmN c ≤ 8 := by unfold nmN; omega
theorem zF (c : Int) : 0 ≤ nmP c ∧ nmP c < nmN c := by
 have := su c
 exact ⟨Int.emod_nonneg _ (by omega), Int.emod_lt_of_pos _ (by omega)⟩
theorem Db (c : Int) : 26 ≤ nmM c ∧ nmM c ≤ 36 := by unfold nmM; split <;> omega
theorem EN : sgA.cps.toList.length = 36 := by decide +kernel
theorem vi (c : Int) (k : Nat) : (c / 64 + k) % nmM c = (nmJ c k : Int) ∧ nmJ c k < 36 := by
 have := Db c
 have h0 := Int.emod_nonneg (c / 64 + k) (show nmM c ≠ 0 by omega)
 have h1 := Int.emod_lt_of_pos (c / 64 + k) (show 0 < nmM c by omega)
 unfold nmJ
 omega
section
variable {P : Program} {w : World} {K : PySem.W.Frag} {mg : Str → Option Value} {base : Heap} {A : Adr}
noncomputable def EZ (K : PySem.W.Frag) : Sp := fun vs H Q _ => ∃ (a : Addr) (ns : List Int) (k : Int), vs = [.ref a, .int k] ∧ SqL K H a (ns.map V.int) ∧ ns.length ≤ 63 ∧ 0 ≤ k ∧ ∀ (l : Addr) (H' : Hp), H l = none → aK H H' → (∀ b, b ≠ l → H b = none → H' b = none) → St l H' → Q (.ref l) H'
theorem wS (T : Txt K mg A) : FnOk P w K mg base CX0 2 A.uw A.tK kY (EZ K) := by
 have cY := vx (P := P) (w := w) (base := base) T
 refine T.fF.F.ok zJ (fun vs H Q E h => ?_) (fun cdv B outer s H vs Q E hr h => ?_)
 ·obtain ⟨a, ns, k, rfl, _⟩ := h; rfl
 obtain ⟨a, ns, k, rfl, hS, hn, h0, q⟩ := h
 refine ⟨_, av (aO (bb (aa (aJ cU af (aJ bI (az cY hr rfl T.bo.m T.bo.F.kp T.bo.b .nil bg (aa (pv 0) (aa (pv 1) ae))) af)) ae))), ?_⟩
 refine ⟨_, rfl, _, rfl, a, ns, k, rfl, hS, hn, h0, fun v => ⟨_, _, rfl, rfl, (by show (0 : Int) < 2147483646; decide), _, _, rfl, rfl, small (by simp), fun l hl => ?_⟩⟩
 exact q l _ hl (ao hl _) (fun b n e => by rw [aD n]; exact e) (St.mk' v)
noncomputable def Ey : Sp := fun vs H Q _ => ∃ c : Int, vs = [.int c] ∧ 0 ≤ c ∧ ∀ (l : Addr) (H' : Hp), H l = none → aK H H' → H' l = some (.lst ((nms c).map V.str)) → Q (.ref l) H'
theorem DD (T : Txt K mg A) : FnOk P w K mg base CX0 1 A.tQ A.tq kJ Ey := by
 refine T.lh.F.ok eM (fun vs H Q E h => ?_) (fun cdv B outer s H vs Q E hr h => ?_)
 ·obtain ⟨c, rfl, _⟩ := h; rfl
 obtain ⟨c, rfl, h0, q⟩ := h
 refine ⟨_, @ag _ _ _ _ _ (aF (i := 1) eM.nd rfl (Or.inl rfl) (aJ cU af (aJ bI (pv 0) af)))
  (@ag _ _ _ _ _ (aF (i := 2) eM.nd rfl (Or.inl rfl) (aJ bI (aJ cM (pv 0) af) (pv 1)))
  (@ag _ _ _ _ _ (aF (i := 3) eM.nd rfl (Or.inl rfl) ar)
  (@ag _ _ _ _ _ (aF (i := 4) eM.nd rfl (Or.inl rfl) (bb ae))
  (@ag _ _ _ _ _ (fN PassesOwn.never rfl (cJ rfl T.cL (aa af ae)) (aS (i := 5) eM.nd rfl (Or.inl rfl)) (@ag _ _ _ _ _ (aF (i := 6) eM.nd rfl (Or.inl rfl) (aI qT (pv 3) (aJ bI (aJ cU (aJ cM (pv 0) af) (pv 5)) (aI aW (bb (aa af (aa af ae))) (ck ox rfl T.nF xH (aa (bO iS (pv 2) af (aG _)) ae)) (fun _ _ => rfl))) (fun _ _ => rfl)))
  (av (dC (gY PySem.F.plainAttrs_list PySem.F.slot_list_append PySem.F.type_list_append iV (pv 4) (aa (aJ cG (aJ cG (aJ qc ar (pv 2)) (pv 6)) (aJ qc ar (aJ vj (aJ vj (pv 1) af) (pv 2)))) ae))))))
  (av (aO (pv 4))))))), ?_⟩
 have b1 := su c
 have b2 := zF c
 refine ⟨_, rfl, _, _, rfl, rfl, (by show (0 : Int) < 8; decide), _, _, rfl, rfl, ?_⟩
 refine ⟨_, rfl, _, _, rfl, rfl, ⟨by decide, by decide⟩, _, rfl, _, _, rfl, rfl, (by show 0 < nmN c; omega), ?_⟩
 refine ⟨small (by simp), fun l hl => ?_⟩
 refine ⟨_, rfl, by decide, by decide, gH (n := 24) (fun i σ H' => ∃ v5 v6 : Option V, σ = [some (.int c), some (.int (nmN c)), some (.int (nmP c)), some (.str sgA), some (.ref l), v5, v6] ∧ aK H H' ∧ H' l = some (.lst (((List.range i).map (nm c)).map V.str)))
  ⟨none, none, rfl, ao hl _, ai⟩ ?_ ?_⟩
 ·rintro i σ H1 hi ⟨v5, v6, rfl, s1, e1⟩
  refine ⟨_, rfl, _, rfl, _, _, rfl, rfl, ⟨by decide, by decide⟩, _, rfl, _, _, rfl, rfl, small (by simp), fun l2 hl2 => ?_⟩
  have k2 := ao hl2 (.lst [.int 26, .int 36])
  have n2 : l ≠ l2 := fun z => by rw [← z, e1] at hl2; cases hl2
  refine ⟨_, rfl, _, _, rfl, rfl, .inr ⟨_, rfl, l2, _, _, .int (nmM c), rfl, rfl, .of ai, ?_, _, _, rfl, rfl, (by show 0 < nmM c; have := Db c; omega), sgA, _, sgA.cps.toList.getD (nmJ c i) 0, rfl, rfl, ?_, ?_, ?_⟩⟩
  ·show atI [V.int 26, V.int 36] (if decide (nmP c > 0) = true then 1 else 0) = _
   unfold nmM
   by_cases hp : nmP c > 0
   ·rw [decide_eq_true hp, if_pos rfl, if_pos hp]; rfl
   ·rw [decide_eq_false hp, if_neg (by simp), if_neg hp]; rfl
  ·exact small (by show sgA.cps.size ≤ 1000; decide +kernel)
  ·obtain ⟨j1, j2⟩ := vi c i
   show atI sgA.cps.toList ((c / 64 + (0 + (i : Int))) % nmM c) = _
   rw [Int.zero_add, j1]
   refine bY ?_
   have h := EN
   rw [List.getD_eq_getElem?_getD, List.getElem?_eq_getElem (by omega)]; rfl
  have lm : mS.length = 1 := by decide +kernel
  have r1 := rg mS (nmP c).toNat
  have r2 := rg mS (nmN c - 1 - nmP c).toNat
  rw [lm, Nat.one_mul] at r1 r2
  have e1' : upd H1 l2 (.lst [.int 26, .int 36]) l = some (.lst (((List.range i).map (nm c)).map V.str)) := by rw [aD n2]; exact e1
  refine ⟨_, rfl, .inl ⟨rfl, _, .of e1'⟩, _, rfl, mS, nmP c, rfl, rfl, by omega, by omega, (by rw [lm]; decide), _, rfl, _, _, rfl, rfl, ?_, _, rfl, _, _, rfl, rfl, _, rfl, _, _, rfl, rfl, mS, nmN c - 1 - nmP c, rfl, rfl, by omega, by omega, (by rw [lm]; decide), _, _, rfl, rfl, ?_, l, _, _, rfl, rfl, e1', ?_, ?_⟩
  ·show (ki mS (nmP c).toNat).length + 1 ≤ sizeLine
   exact small (by omega)
  ·show (ki mS (nmP c).toNat ++ ⟨#[sgA.cps.toList.getD (nmJ c i) 0]⟩ : Str).length + (ki mS (nmN c - 1 - nmP c).toNat).length ≤ sizeLine
   rw [Str.length_append]
   exact small (by show (ki mS (nmP c).toNat).length + 1 + _ ≤ _; omega)
  ·rw [List.length_map, List.length_map, List.length_range]; exact bc (by omega)
  ·refine ⟨_, _, rfl, fun b u e => ?_, ?_⟩
   ·rw [aD (aX e hl)]; exact k2 _ _ (s1 _ _ e)
   ·rw [ai, List.range_succ, List.map_append, List.map_append]; rfl
 ·rintro σ H1 ⟨v5, v6, rfl, s1, e1⟩
  exact ⟨_, rfl, q l H1 hl s1 e1⟩
end
noncomputable def tgN (p : Int) : Nat := ([0, 0, 0, 1, 2, 4, 1] : List Nat).getD (p % 7).toNat 0
noncomputable def tgJ (p : Int) (k : Nat) : Nat := ((p / 7 + 7 * k) % 24).toNat
noncomputable def tgs (p : Int) (ns : List Str) : List Str := (List.range (tgN p)).map fun k => ns.getD (tgJ p k) Str.empty
theorem yK (p : Int) : atI [V.int 0, .int 0, .int 0, .int 1, .int 2, .int 4, .int 1] (p % 7) = some (.int (tgN p)) ∧ tgN p ≤ 4 := by
 have h0 := Int.emod_nonneg p (show (7 : Int) ≠ 0 by decide)
 have h1 := Int.emod_lt_of_pos p (show (0 : Int) < 7 by decide)
 unfold tgN
 have : p % 7 = 0 ∨ p % 7 = 1 ∨ p % 7 = 2 ∨ p % 7 = 3 ∨ p % 7 = 4 ∨ p % 7 = 5 ∨ p % 7 = 6 := by omega
 rcases this with e | e | e | e | e | e | e <;> rw [e] <;> exact ⟨rfl, by decide⟩
theorem vI (p : Int) (k : Nat) : (p / 7 + 7 * (k : Int)) % 24 = (tgJ p k : Int) ∧ tgJ p k < 24 := by
 have h0 := Int.emod_nonneg (p / 7 + 7 * (k : Int)) (show (24 : Int) ≠ 0 by decide)
 have h1 := Int.emod_lt_of_pos (p / 7 + 7 * (k : Int)) (show (0 : Int) < 24 by decide)
 unfold tgJ
 omega
theorem Fb {p : Int} {ns : List Str} (hn : ns.length = 24) {x : Str} (h : x ∈ tgs p ns) : x ∈ ns := by
 obtain ⟨k, _, rfl⟩ := List.mem_map.mp h
 have := (vI p k).2
 rw [List.getD_eq_getElem?_getD, List.getElem?_eq_getElem (by omega)]
 exact List.getElem_mem _
theorem EB (p : Int) (ns : List Str) : (tgs p ns).length ≤ 4 := by
 unfold tgs; rw [List.length_map, List.length_range]; exact (yK p).2
section
variable {P : Program} {w : World} {K : PySem.W.Frag} {mg : Str → Option Value} {base : Heap} {A : Adr}
noncomputable abbrev xI : Scope := (match bC iD with | _ :: (.Return (some (.Call _ ((.ListComp _ _ sc _) :: _) _ _)) _) :: _ => sc | _ => ap iD)
theorem vE : Blk (ap iD) rX xI ["_law_k"] [0, 1] := ⟨rfl, by decide +kernel, by decide +kernel, by decide +kernel, by decide +kernel⟩
theorem wY : (cR rX ["_law_k"] [0, 1]).Nodup := by decide +kernel
noncomputable def HS : Sp := fun vs H Q _ => ∃ (p : Int) (nl : Addr) (ns : List Str), vs = [.int p, .ref nl] ∧ H nl = some (.lst (ns.map V.str)) ∧ ns.length = 24 ∧ ∀ (t : Addr) (H' : Hp), H t = none → aK H H' → H' t = some (.tup ((tgs p ns).map V.str)) → Q (.ref t) H'
theorem DL (T : Txt K mg A) : FnOk P w K mg base CX0 1 A.wx A.xP nv HS := by
 refine T.mX.F.ok uc (fun vs H Q E h => ?_) (fun cdv B outer s H vs Q E hr h => ?_)
 ·obtain ⟨p, nl, ns, rfl, _⟩ := h; rfl
 obtain ⟨p, nl, ns, rfl, hl, hn, q⟩ := h
 refine ⟨_, @ag _ _ _ _ _ (aF (i := 2) uc.nd rfl (Or.inl rfl) (aI aW (bb (aa af (aa af (aa af (aa af (aa af (aa af (aa af ae)))))))) (aJ bI (pv 0) af) (fun _ _ => rfl)))
  (av (aO (ck cT rfl T.cy db (aa (dZ vE rfl (cJ rfl T.cL (aa (pv 2) ae)) (fun _ _ _ _ _ => aS (i := 0) wY rfl (.inl rfl)) (fun _ _ _ _ _ => fj) (fun _ _ _ _ _ => aI (gV (K := K) rfl) (pv 2) (aJ bI (aJ cU (aJ cM (pv 1) af) (aJ rD af (pv 0))) af) (fun _ _ => rfl))) ae)))), ?_⟩
 obtain ⟨ha, h4⟩ := yK p
 refine ⟨small (by simp), fun l1 hl1 => ⟨_, rfl, _, _, rfl, rfl, (by show (0 : Int) < 7; decide), l1, _, _, _, rfl, rfl, .of ai, ha, ?_⟩⟩
 have k1 := ao hl1 (.lst [.int 0, .int 0, .int 0, .int 1, .int 2, .int 4, .int 1])
 have e1 := k1 _ _ hl
 generalize upd H l1 (.lst [.int 0, .int 0, .int 0, .int 1, .int 2, .int 4, .int 1]) = H1 at k1 e1 ⊢
 refine ⟨_, rfl, _, rfl, by omega, by omega, lD (n := ((tgN p : Nat) : Int).toNat) (fun i acc H' => H' = H1 ∧ acc = ((List.range i).map fun k => ns.getD (tgJ p k) Str.empty).map V.str ∧ i ≤ 4) ⟨rfl, rfl, by decide⟩ (fun i acc H' z => ?_) (fun i acc H' R k hi z => ?_) fun acc H' z => ?_⟩
 ·rw [z.2.1, List.length_map, List.length_map, List.length_range]; exact bc (by have := z.2.2; omega)
 ·obtain ⟨rfl, rfl, h⟩ := z
  obtain ⟨j1, j2⟩ := vI p i
  dsimp only [oP]; rw [if_pos rfl]
  refine ⟨_, rfl, _, rfl, _, _, rfl, rfl, ⟨by decide, by decide⟩, _, rfl, _, _, rfl, rfl, .inl ⟨by decide, by decide⟩, _, _, rfl, rfl, _, _, rfl, rfl, (by show (0 : Int) < 24; decide), nl, _, _, .str (ns.getD (tgJ p i) Str.empty), rfl, rfl, .of e1, ?_, ?_⟩
  ·rw [Int.zero_add, j1]
   refine bY ?_
   rw [List.getElem?_map, List.getElem?_eq_getElem (by omega), List.getD_eq_getElem?_getD, List.getElem?_eq_getElem (by omega)]; rfl
  ·refine k _ _ ⟨rfl, ?_, by omega⟩
   rw [List.range_succ, List.map_append, List.map_append]; rfl
 ·obtain ⟨rfl, rfl, _⟩ := z
  intro l2 hl2
  refine ⟨l2, _, rfl, .inl ⟨.of ai, fun t ht => ?_⟩⟩
  have n2 : t ≠ l2 := fun z => by rw [z, ai] at ht; cases ht
  have f2 : H' t = none := by rw [aD n2] at ht; exact ht
  have k2 := ao hl2 (.lst (((List.range ((tgN p : Nat) : Int).toNat).map fun k => ns.getD (tgJ p k) Str.empty).map V.str))
  refine q t _ ?_ (k1.trans (k2.trans (ao ht _))) (by rw [ai]; rfl)
  cases e : H t with
  | none => rfl
  | some o => rw [k1 _ _ e] at f2; cases f2
end
open WM (J bl ls)
noncomputable def sgT : Str := "abcdefghijklmnopqrstuvwxyzABCDEFGHIJKLMNOPQRSTUVWXYZ0123456789"
structure Wd (z : Str) : Prop where
 n0 : 1 ≤ z.length
 n1 : z.length ≤ 9
 sg : ∀ c ∈ ls z, c ∈ ls sgT
structure Wds (ws : List Str) : Prop where
 n : ws.length ≤ 7
 w : ∀ w ∈ ws, Wd w
theorem EE : sgT.cps.toList.length = 62 := by decide +kernel
theorem Ij (ts : List Str) : ls (Str.join (Str.ofString "") ts) = (ts.map ls).flatten := by
 induction ts with
 | nil => rfl
 | cons x r ih =>
  cases r with
  | nil => show ls x = _; simp
  | cons y r =>
   have e : ls (Str.ofString "") = [] := by decide +kernel
   show (x ++ Str.ofString "" ++ Str.join (Str.ofString "") (y :: r)).cps.toList = _
   have a : ∀ u v : Str, ls (u ++ v) = ls u ++ ls v := fun u v => Array.toList_append
   show ls (x ++ Str.ofString "" ++ Str.join (Str.ofString "") (y :: r)) = _
   rw [a, a, e, List.append_nil, ih]; rfl
noncomputable def sg1 (c : Nat) : Str := ⟨#[c]⟩
theorem IE (cs : List Nat) : ls (Str.join (Str.ofString "") (cs.map sg1)) = cs := by
 rw [Ij, List.map_map]
 induction cs with
 | nil => rfl
 | cons c r ih => rw [List.map_cons, List.flatten_cons, ih]; rfl
theorem Fa (cs : List Nat) : ((cs.map sg1).map (·.length)).sum = cs.length := by
 induction cs with
 | nil => rfl
 | cons c r ih => rw [List.map_cons, List.map_cons, List.sum_cons, ih, List.length_cons]; show 1 + _ = _; omega
theorem Fx : ∀ (l : List Str), (∀ w ∈ l, Wd w) → (l.map (·.length)).sum ≤ l.length * 9
 | [], _ => by simp
 | w :: l, h => by
  have := Fx l fun z hz => h z (List.mem_cons_of_mem _ hz)
  have h1 := (h w (List.mem_cons_self ..)).n1
  rw [List.map_cons, List.sum_cons, List.length_cons, Nat.succ_mul]; omega
theorem wdN (p : Int) : ∃ m : Int, atI [V.int 1, .int 2, .int 3, .int 5, .int 8, .int (1 + p / 6 % 9)] (p % 6) = some (.int m) ∧ 1 ≤ m ∧ m ≤ 9 := by
 have h0 := Int.emod_nonneg p (show (6 : Int) ≠ 0 by decide)
 have h1 := Int.emod_lt_of_pos p (show (0 : Int) < 6 by decide)
 have : p % 6 = 0 ∨ p % 6 = 1 ∨ p % 6 = 2 ∨ p % 6 = 3 ∨ p % 6 = 4 ∨ p % 6 = 5 := by omega
 rcases this with e | e | e | e | e | e <;> rw [e]
 ·exact ⟨1, rfl, by decide, by decide⟩
 ·exact ⟨2, rfl, by decide, by decide⟩
 ·exact ⟨3, rfl, by decide, by decide⟩
 ·exact ⟨5, rfl, by decide, by decide⟩
 ·exact ⟨8, rfl, by decide, by decide⟩
 ·exact ⟨_, rfl, by omega, by omega⟩
theorem wdM (p : Int) : ∃ m : Nat, atI [V.int 0, .int 1, .int 2, .int 3, .int 5, .int 7, .int 1, .int 4] (p % 8) = some (.int m) ∧ m ≤ 7 := by
 have h0 := Int.emod_nonneg p (show (8 : Int) ≠ 0 by decide)
 have h1 := Int.emod_lt_of_pos p (show (0 : Int) < 8 by decide)
 have : p % 8 = 0 ∨ p % 8 = 1 ∨ p % 8 = 2 ∨ p % 8 = 3 ∨ p % 8 = 4 ∨ p % 8 = 5 ∨ p % 8 = 6 ∨ p % 8 = 7 := by omega
 rcases this with e | e | e | e | e | e | e | e <;> rw [e]
 ·exact ⟨0, rfl, by decide⟩
 ·exact ⟨1, rfl, by decide⟩
 ·exact ⟨2, rfl, by decide⟩
 ·exact ⟨3, rfl, by decide⟩
 ·exact ⟨5, rfl, by decide⟩
 ·exact ⟨7, rfl, by decide⟩
 ·exact ⟨1, rfl, by decide⟩
 ·exact ⟨4, rfl, by decide⟩
section
variable {P : Program} {w : World} {K : PySem.W.Frag} {mg : Str → Option Value} {base : Heap} {A : Adr}
noncomputable abbrev xl : Scope := (match bC iU with | _ :: _ :: (.For _ _ (_ :: _ :: (.Expr (.Call _ ((.Call _ ((.ListComp _ _ sc _) :: _) _ _) :: _) _ _) _) :: _) _ _) :: _ => sc | _ => ap iU)
theorem vS : Blk (ap iU) se xl ["_law_j"] [0, 2] := ⟨rfl, by decide +kernel, by decide +kernel, by decide +kernel, by decide +kernel⟩
theorem yt : (cR se ["_law_j"] [0, 2]).Nodup := by decide +kernel
noncomputable def Hu : Sp := fun vs H Q _ => ∃ (st : Addr) (c : Int), vs = [.ref st, .int c] ∧ St st H ∧ ∀ (ws : List Str) (H' : Hp), Ms st H H' → Wds ws → Q (.str (J ws)) H'
seal PE PS PSs L2.PA PT PI PG in
theorem AF (T : Txt K mg A) : FnOk P w K mg base CX0 2 A.xo A.yq nS Hu := by
 have fv := za (P := P) (w := w) (base := base) T
 refine T.gT.F.ok gF (fun vs H Q E h => ?_) (fun cdv B outer s H vs Q E hr h => ?_)
 ·obtain ⟨st, c, rfl, _⟩ := h; rfl
 obtain ⟨st, c, rfl, hst, q⟩ := h
 refine ⟨_, @ag _ _ _ _ _ (aF (i := 2) gF.nd rfl (Or.inr rfl) ar)
  (@ag _ _ _ _ _ (aF (i := 3) gF.nd rfl (Or.inl rfl) (bb ae))
  (@ag _ _ _ _ _ (fN PassesOwn.never rfl (cJ rfl T.cL (aa (aI aW (bb (aa af (aa af (aa af (aa af (aa af (aa af (aa af (aa af ae))))))))) (aJ bI (az fv hr rfl T.bJ.m T.bJ.F.kp T.bJ.b .nil bg (aa (pv 0) (aa (pv 1) ae))) af) (fun _ _ => rfl)) ae)) (aS (i := 4) gF.nd rfl (Or.inl rfl)) (@ag _ _ _ _ _ (aF (i := 5) gF.nd rfl (Or.inl rfl) (az fv hr rfl T.bJ.m T.bJ.F.kp T.bJ.b .nil bg (aa (pv 0) (aa (aJ cU (pv 1) (pv 4)) ae))))
  (@ag _ _ _ _ _ (aF (i := 6) gF.nd rfl (Or.inl rfl) (aI aW (bb (aa af (aa af (aa af (aa af (aa af (aa (aJ cU af (aJ bI (aJ cM (pv 5) af) af)) ae))))))) (aJ bI (pv 5) af) (fun _ _ => rfl)))
  (av (dC (gY PySem.F.plainAttrs_list PySem.F.slot_list_append PySem.F.type_list_append iV (pv 3) (aa (gY PySem.F.plainAttrs_str PySem.F.slot_str_join PySem.F.type_str_join Ad ar (aa (dZ vS rfl (cJ rfl T.cL (aa (pv 6) ae)) (fun _ _ _ _ _ => aS (i := 0) yt rfl (.inl rfl)) (fun _ _ _ _ _ => fj) (fun _ _ _ _ _ => aI qT (pv 2) (aJ bI (az fv hr rfl T.bJ.m T.bJ.F.kp T.bJ.b .nil bg (aa (pv 1) (aa (pv 0) ae))) af) (fun _ _ => rfl))) ae)) ae)))))))
  (av (aO (gY PySem.F.plainAttrs_str PySem.F.slot_str_join PySem.F.type_str_join Ad ar (aa (pv 3) ae)))))), ?_⟩
 refine ⟨small (by simp), fun wl hwl => ?_⟩
 have nw := hst.ne hwl
 have m1 : Ms st H (upd H wl (.lst [])) := .of hst (ao hwl _)
 have e1 : upd H wl (.lst []) wl = some (.lst []) := ai
 generalize upd H wl (.lst []) = H1 at m1 e1 ⊢
 refine ⟨small (by simp), fun la hla => ?_⟩
 have na := m1.st.ne hla
 have m2 := m1.new (.lst [.int 0, .int 1, .int 2, .int 3, .int 5, .int 7, .int 1, .int 4]) hla
 have ea : upd H1 la (.lst [.int 0, .int 1, .int 2, .int 3, .int 5, .int 7, .int 1, .int 4]) la = _ := ai
 have e2 : upd H1 la (.lst [.int 0, .int 1, .int 2, .int 3, .int 5, .int 7, .int 1, .int 4]) wl = some (.lst []) := by rw [aD (aX e1 hla)]; exact e1
 refine ⟨_, rfl, _, rfl, st, c, rfl, m2.st, fun r H2 r0 r1 m3 f3 => ?_⟩
 obtain ⟨m, hm, hm7⟩ := wdM r
 refine ⟨_, _, rfl, rfl, (by show (0 : Int) < 8; decide), la, _, _, _, rfl, rfl, .of (m3.keep _ _ na ea), hm, _, rfl, by omega, by omega, gH (n := ((m : Nat) : Int).toNat) (fun i σ H' => ∃ (v4 v5 v6 : Option V) (ws : List Str), σ = [some (.ref st), some (.int c), some (.str sgT), some (.ref wl), v4, v5, v6] ∧ Ms st H H' ∧ H' wl = some (.lst (ws.map V.str)) ∧ ws.length = i ∧ i ≤ 7 ∧ ∀ w ∈ ws, Wd w)
  ⟨none, none, none, [], rfl, m2.trans m3, m3.keep _ _ nw e2, rfl, by decide, fun w h => (by cases h)⟩ ?_ ?_⟩
 ·rintro i σ H3 hi ⟨v4, v5, v6, ws, rfl, m4, e4, hl, h7, hw⟩
  refine ⟨_, rfl, _, rfl, _, rfl, _, _, rfl, rfl, st, _, rfl, m4.st, fun p H4 p0 p1 m5 f5 => ?_⟩
  obtain ⟨sz, hsz, s1, s9⟩ := wdN p
  refine ⟨_, rfl, _, _, rfl, rfl, ⟨by decide, by decide⟩, _, _, rfl, rfl, (by show (0 : Int) < 9; decide), _, _, rfl, rfl, small (by simp), fun lb hlb => ?_⟩
  have m6 := (m4.trans m5).new (.lst [.int 1, .int 2, .int 3, .int 5, .int 8, .int (1 + p / 6 % 9)]) hlb
  have e5 := m5.keep _ _ nw e4
  have e6 : upd H4 lb (.lst [.int 1, .int 2, .int 3, .int 5, .int 8, .int (1 + p / 6 % 9)]) wl = some (.lst (ws.map V.str)) := by rw [aD (aX e5 hlb)]; exact e5
  refine ⟨_, rfl, _, _, rfl, rfl, (by show (0 : Int) < 6; decide), lb, _, _, _, rfl, rfl, .of ai, hsz, ?_⟩
  generalize upd H4 lb (.lst [.int 1, .int 2, .int 3, .int 5, .int 8, .int (1 + p / 6 % 9)]) = H5 at m6 e6 ⊢
  refine ⟨_, rfl, .inl ⟨rfl, _, .of e6⟩, rfl, _, rfl, _, rfl, by omega, by omega, lD (n := sz.toNat) (fun j acc H' => ∃ cs : List Nat, acc = (cs.map sg1).map V.str ∧ cs.length = j ∧ j ≤ 9 ∧ (∀ c ∈ cs, c ∈ ls sgT) ∧ Ms st H H' ∧ H' wl = some (.lst (ws.map V.str))) ⟨[], rfl, rfl, by decide, fun c h => (by cases h), m6, e6⟩ (fun j acc H' z => ?_) (fun j acc H' R k hj z => ?_) fun acc H' z => ?_⟩
  ·obtain ⟨cs, rfl, h1, h2, _⟩ := z
   rw [List.length_map, List.length_map]; exact bc (by omega)
  ·obtain ⟨cs, rfl, h1, h2, h3, m7, e7⟩ := z
   dsimp only [oP]; rw [if_pos rfl]
   refine ⟨_, rfl, _, rfl, _, rfl, st, _, rfl, m7.st, fun u H6 u0 u1 m8 f8 => ?_⟩
   have h0 := Int.emod_nonneg u (show (62 : Int) ≠ 0 by decide)
   have h1' := Int.emod_lt_of_pos u (show (0 : Int) < 62 by decide)
   obtain ⟨jj, ej⟩ := Int.eq_ofNat_of_zero_le h0
   have hk : jj < sgT.cps.toList.length := by rw [EE]; omega
   refine ⟨_, _, rfl, rfl, (by show (0 : Int) < 62; decide), sgT, _, sgT.cps.toList[jj], rfl, rfl, ?_, ?_, ?_⟩
   ·exact small (by show sgT.cps.size ≤ 1000; decide +kernel)
   ·rw [ej]
    exact bY (List.getElem?_eq_getElem hk)
   ·refine k _ _ ⟨cs ++ [sgT.cps.toList[jj]], ?_, by simp; omega, by omega, fun c hc => ?_, m7.trans m8, m8.keep _ _ nw e7⟩
    ·rw [List.map_append, List.map_append]; rfl
    ·rcases List.mem_append.mp hc with hc | hc
     ·exact h3 c hc
     ·rw [List.mem_singleton.mp hc]; exact List.getElem_mem hk
  ·obtain ⟨cs, rfl, h1, h2, h3, m7, e7⟩ := z
   intro jl hjl
   have m8 := m7.new (.lst ((cs.map sg1).map V.str)) hjl
   have e8 : upd H' jl (.lst ((cs.map sg1).map V.str)) wl = some (.lst (ws.map V.str)) := by rw [aD (aX e7 hjl)]; exact e7
   refine ⟨Str.ofString "", jl, cs.map sg1, rfl, rfl, .of ai, ?_, wl, _, _, rfl, rfl, e8, ?_, ?_⟩
   ·have e : (Str.ofString "").length = 0 := by decide +kernel
    rw [Fa, e]; omega
   ·rw [List.length_map]; exact bc (by omega)
   ·refine ⟨_, _, _, ws ++ [Str.join (Str.ofString "") (cs.map sg1)], rfl, m8.set _ hwl nw, ?_, by simp; omega, by omega, fun w hw' => ?_⟩
    ·rw [ai, List.map_append]; rfl
    ·rcases List.mem_append.mp hw' with h | h
     ·exact hw w h
     ·rw [List.mem_singleton.mp h]
      have ej := IE cs
      have el : (Str.join (Str.ofString "") (cs.map sg1)).length = cs.length := by
       show (Str.join (Str.ofString "") (cs.map sg1)).cps.size = _
       rw [← Array.length_toList]; exact congrArg List.length ej
      exact ⟨by omega, by omega, fun c hc => h3 c (by rw [ej] at hc; exact hc)⟩
 ·rintro σ H3 ⟨v4, v5, v6, ws, rfl, m4, e4, hl, h7, hw⟩
  refine ⟨rfl, _, rfl, bl, wl, ws, rfl, rfl, .of e4, ?_, q ws H3 m4 ⟨by omega, hw⟩⟩
  have := Fx ws hw
  have e : bl.length = 1 := by decide +kernel
  rw [e]; omega
end
inductive Mo where
 | no : Mo
 | tx (ws : List Str) : Mo
 | nu (n : Int) : Mo
noncomputable def Mo.v : Mo → V
 | .no => .non
 | .tx ws => .str (J ws)
 | .nu n => .int n
structure Rw where
 kind : Str
 name : Str
 tags : List Str
 more : Mo
 about : Int
 deep : Int
noncomputable def Rw.vs (r : Rw) (t : Addr) : List V := [.str r.kind, .str r.name, .ref t, r.more.v, .int r.about, .int r.deep]
structure RowAt (H : Hp) (a t : Addr) (r : Rw) : Prop where
 row : H a = some (.lst (r.vs t))
 tags : H t = some (.tup (r.tags.map V.str))
theorem RowAt.ms {st : Addr} {H H' : Hp} {a t : Addr} {r : Rw} (h : RowAt H a t r) (m : Ms st H H') (n1 : a ≠ st) (n2 : t ≠ st) : RowAt H' a t r := ⟨m.keep _ _ n1 h.row, m.keep _ _ n2 h.tags⟩
theorem RowAt.same {H H' : Hp} {a t : Addr} {r : Rw} (h : RowAt H a t r) (m : aK H H') : RowAt H' a t r := ⟨m _ _ h.row, m _ _ h.tags⟩
structure Lr where
 a : Addr
 t : Addr
 r : Rw
structure Rws (H : Hp) (rl : Addr) (xs : List Lr) : Prop where
 lst : H rl = some (.lst (xs.map fun x => V.ref x.a))
 row : ∀ x ∈ xs, RowAt H x.a x.t x.r
theorem Rws.same {H H' : Hp} {rl : Addr} {xs : List Lr} (h : Rws H rl xs) (m : aK H H') : Rws H' rl xs := ⟨m _ _ h.lst, fun x hx => (h.row x hx).same m⟩
theorem Rws.ms {st : Addr} {H H' : Hp} {rl : Addr} {xs : List Lr} (h : Rws H rl xs) (m : Ms st H H') (hs : St st H) : Rws H' rl xs := by
 have ne : ∀ {l : Addr} {o : HO}, H l = some o → (∀ s, o ≠ .lst [.int s]) → l ≠ st := fun e n z => by
  obtain ⟨s, a, _⟩ := hs
  rw [z, a] at e
  cases e
  exact n s rfl
 refine ⟨m.keep _ _ (ne h.lst fun s e => ?_) h.lst, fun x hx => (h.row x hx).ms m (ne (h.row x hx).row fun s e => ?_) (ne (h.row x hx).tags fun s e => ?_)⟩
 ·injection e with e
  cases xs with
  | nil => cases e
  | cons y ys => rw [List.map_cons] at e; injection e with e _; cases e
 ·injection e with e; unfold Rw.vs at e; injection e with e _; cases e
 ·cases e
theorem pY {xs : List Lr} {j : Nat} {x : Lr} (h : xs[j]? = some x) : atI (xs.map fun x => V.ref x.a) (j : Int) = some (.ref x.a) := bY (by rw [List.getElem?_map, h]; rfl)
noncomputable def iy : Str := "blank"
noncomputable def dy : Str := "words"
noncomputable def ui : Str := "grid"
def nY : List Str := ["row", "column", "words", "blank", "flow", "grid", "pile"]
noncomputable def HY (r : Rw) : Prop := r.kind ≠ iy ∧ r.kind ≠ dy ∧ r.deep < 8
noncomputable def Iv (k : Str) (m : Mo) : Prop := (k = dy ∧ ∃ ws, m = .tx ws ∧ Wds ws) ∨ (k = ui ∧ ∃ n : Int, m = .nu n ∧ 1 ≤ n ∧ n ≤ 9) ∨ (k ≠ dy ∧ k ≠ ui ∧ m = .no)
structure RowOk (c : Int) (xs : List Lr) (i : Nat) (r : Rw) : Prop where
 name : r.name = nm c i
 kind : r.kind ∈ nY
 more : Iv r.kind r.more
 tags : ∃ p, r.tags = tgs p (nms c)
 about : (i = 0 ∧ r.about = -1 ∧ r.deep = 1) ∨ ∃ (j : Nat) (h : Lr), j < i ∧ xs[j]? = some h ∧ r.about = (j : Int) ∧ HY h.r ∧ r.deep = h.r.deep + 1
structure RwsOk (c : Int) (xs : List Lr) : Prop where
 n : xs.length ≤ 12
 row : ∀ (i : Nat) (x : Lr), xs[i]? = some x → RowOk c xs i x.r
theorem RwsOk.deep {c : Int} {xs : List Lr} (h : RwsOk c xs) : ∀ (i : Nat) (x : Lr), xs[i]? = some x → 1 ≤ x.r.deep ∧ x.r.deep ≤ 8 := by
 intro i
 induction i using Nat.strongRecOn with
 | ind i ih =>
  intro x hx
  rcases (h.row i x hx).about with ⟨_, _, e⟩ | ⟨j, y, hj, hy, _, hh, e⟩
  ·omega
  ·have := ih j hj y hy
   have h3 := hh.2.2
   omega
theorem RowOk.more' {c : Int} {xs : List Lr} {i : Nat} {r : Rw} (h : RowOk c xs i r) (ys : List Lr) : RowOk c (xs ++ ys) i r := ⟨h.name, h.kind, h.more, h.tags, h.about.imp id fun ⟨j, y, hj, hy, e⟩ => ⟨j, y, hj, by rw [List.getElem?_append_left (List.getElem?_eq_some_iff.mp hy).1]; exact hy, e⟩⟩
theorem RwsOk.snoc {c : Int} {xs : List Lr} {x : Lr} (h : RwsOk c xs) (n : xs.length < 12) (hx : RowOk c xs xs.length x.r) : RwsOk c (xs ++ [x]) := by
 refine ⟨by simp; omega, fun i y hy => ?_⟩
 rw [List.getElem?_append] at hy
 split at hy
 ·exact (h.row i y hy).more' _
 ·rename_i hi
  have e : i = xs.length := by
   have := (List.getElem?_eq_some_iff.mp hy).1
   simp at this; omega
  subst e
  rw [Nat.sub_self] at hy
  cases hy
  exact hx.more' _
theorem Ee {k : Str} (h : (!inV (.str k) [.str iy, .str dy]) = true) : k ≠ iy ∧ k ≠ dy := by
 have e : inV (.str k) [.str iy, .str dy] = false := by simpa using h
 unfold inV at e
 rw [List.any_eq_false] at e
 refine ⟨fun z => e (.str iy) (by simp) ?_, fun z => e (.str dy) (by simp) ?_⟩
 ·rw [z]; show (iy == iy) = true; simp
 ·rw [z]; show (dy == dy) = true; simp
theorem gw {K : PySem.W.Frag} {H H' : Hp} {a : Addr} {xs : List V} (h : SqL K H a xs) (e : aK H H') : SqL K H' a xs := by
 rcases h with (h | ⟨o, h⟩) | h
 ·exact .inl (.inl (e _ _ h))
 ·exact .inl (.inr ⟨o, e _ _ h⟩)
 ·exact .inr h
theorem Co {v : V} {i : Nat} {u : TS} {D : Ends} {σ : L2.St} {H : Hp} (h : u D (σ.set i (some v)) H) : iC (Ds (tC v) (bp i)) u D σ H := h
theorem Io {x y z m : Int} (h0 : 0 ≤ m) (h : m < 3) : ∃ u, atI [V.int x, V.int y, V.int z] m = some (.int u) ∧ (u = x ∨ u = y ∨ u = z) := by
 have : m = 0 ∨ m = 1 ∨ m = 2 := by omega
 rcases this with rfl | rfl | rfl
 ·exact ⟨x, rfl, .inl rfl⟩
 ·exact ⟨y, rfl, .inr (.inl rfl)⟩
 ·exact ⟨z, rfl, .inr (.inr rfl)⟩
theorem xM {l : List Str} {m : Int} (h0 : 0 ≤ m) (h : m < l.length) : ∃ k ∈ l, atI (l.map V.str) m = some (.str k) := by
 obtain ⟨j, rfl⟩ := Int.eq_ofNat_of_zero_le h0
 have hj : j < l.length := by omega
 exact ⟨l[j], List.getElem_mem hj, bY (by rw [List.getElem?_map, List.getElem?_eq_getElem hj]; rfl)⟩
theorem ER {m : Int} (h0 : 0 ≤ m) (h : m < 12) : ∃ k ∈ nY, atI [V.str "row", .str "column", .str "words", .str "blank", .str "flow", .str "grid", .str "pile", .str "words", .str "row", .str "column", .str "blank", .str "flow"] m = some (.str k) := by
 obtain ⟨k, hk, e⟩ := xM (l := ["row", "column", "words", "blank", "flow", "grid", "pile", "words", "row", "column", "blank", "flow"]) h0 h
 refine ⟨k, ?_, e⟩
 unfold nY
 simp only [List.mem_cons, List.not_mem_nil, or_false] at hk ⊢
 rcases hk with h | h | h | h | h | h | h | h | h | h | h | h <;> simp [h]
theorem FQ {m : Int} (h0 : 0 ≤ m) (h : m < 5) : ∃ k ∈ nY, atI [V.str "row", .str "column", .str "flow", .str "grid", .str "pile"] m = some (.str k) := by
 obtain ⟨k, hk, e⟩ := xM (l := ["row", "column", "flow", "grid", "pile"]) h0 h
 refine ⟨k, ?_, e⟩
 unfold nY
 simp only [List.mem_cons, List.not_mem_nil, or_false] at hk ⊢
 rcases hk with h | h | h | h | h <;> simp [h]
structure Lp (K : PySem.W.Frag) (a st nl kl rl : Addr) (ns : List Int) (c : Int) (H H' : Hp) (xs : List Lr) : Prop where
 same : aK H H'
 sta : St st H'
 scr : SqL K H' a (ns.map V.int)
 off : Off K a st (ns.map V.int)
 nl : H' nl = some (.lst ((nms c).map V.str))
 kl : H' kl = some (.lst [.str "row", .str "column", .str "words", .str "blank", .str "flow", .str "grid", .str "pile", .str "words", .str "row", .str "column", .str "blank", .str "flow"])
 rws : Rws H' rl xs
 ok : RwsOk c xs
section
variable {P : Program} {w : World} {K : PySem.W.Frag} {mg : Str → Option Value} {base : Heap} {A : Adr}
theorem Lp.grow {a st nl kl rl : Addr} {ns : List Int} {c : Int} {H H1 H2 : Hp} {xs : List Lr} (h : Lp K a st nl kl rl ns c H H1 xs) (e : aK H1 H2) : Lp K a st nl kl rl ns c H H2 xs :=
 ⟨h.same.trans e, let ⟨s, x, y⟩ := h.sta; ⟨s, e _ _ x, y⟩, gw h.scr e, h.off, e _ _ h.nl, e _ _ h.kl, h.rws.same e, h.ok⟩
theorem Lp.ms {a st nl kl rl : Addr} {ns : List Int} {c : Int} {H H1 H2 : Hp} {xs : List Lr} (h : Lp K a st nl kl rl ns c H H1 xs) (hs : H st = none) (m : Ms st H1 H2) : Lp K a st nl kl rl ns c H H2 xs := by
 have ne : ∀ {l : Addr} {o : HO}, H1 l = some o → (∀ s, o ≠ .lst [.int s]) → l ≠ st := fun e n z => by
  obtain ⟨s, x, _⟩ := h.sta
  rw [z, x] at e
  cases e
  exact n s rfl
 refine ⟨fun b o e => m.keep b o (fun z => by rw [z, hs] at e; cases e) (h.same b o e), m.st, m.seq h.off h.scr, h.off, m.keep _ _ (ne h.nl fun s e => ?_) h.nl, m.keep _ _ (ne h.kl fun s e => ?_) h.kl, h.rws.ms m h.sta, h.ok⟩
 ·injection e with e
  have := congrArg List.length e
  simp [nms] at this
 ·injection e with e
  have := congrArg List.length e
  simp at this
theorem Lp.snoc {a st nl kl rl ra tt : Addr} {ns : List Int} {c : Int} {H H1 H2 : Hp} {xs : List Lr} {r : Rw} (L : Lp K a st nl kl rl ns c H H1 xs) (hS : SqL K H a (ns.map V.int)) (hrl : H rl = none) (hra : H1 ra = none) (et : H1 tt = some (.tup (r.tags.map V.str))) (n : xs.length < 12) (hok : RowOk c xs xs.length r)
  (e1 : H2 ra = some (.lst (r.vs tt))) (e2 : H2 rl = some (.lst ((xs.map fun x => V.ref x.a) ++ [.ref ra]))) (e3 : ∀ b, b ≠ ra → b ≠ rl → H2 b = H1 b) : Lp K a st nl kl rl ns c H H2 (xs ++ [⟨ra, tt, r⟩]) := by
 have nra : ∀ {l : Addr} {o : HO}, H1 l = some o → l ≠ ra := fun e z => by rw [z, hra] at e; cases e
 have nrl : ∀ {l : Addr} {o : HO}, H1 l = some o → o ≠ .lst (xs.map fun x => V.ref x.a) → l ≠ rl := fun e n z => by
  rw [z, L.rws.lst] at e
  cases e
  exact n rfl
 have kp : ∀ {l : Addr} {o : HO}, H1 l = some o → o ≠ .lst (xs.map fun x => V.ref x.a) → H2 l = some o := fun e n => by rw [e3 _ (nra e) (nrl e n)]; exact e
 have hd : ∀ (v : V) (vs : List V), (∀ b, v ≠ .ref b) → HO.lst (v :: vs) ≠ .lst (xs.map fun x => V.ref x.a) := fun v vs h e => by
  injection e with e
  cases xs with
  | nil => cases e
  | cons y ys => rw [List.map_cons] at e; injection e with e _; exact h _ e
 have sm : aK H H2 := fun b o e => by
  have e' := L.same b o e
  rw [e3 b (nra e') (fun z => by rw [z, hrl] at e; cases e)]; exact e'
 refine ⟨sm, ?_, gw hS sm, L.off, kp L.nl fun e => ?_, kp L.kl (hd _ _ fun b e => by cases e), ⟨by rw [e2, List.map_append]; rfl, fun x hx => ?_⟩, L.ok.snoc n hok⟩
 ·obtain ⟨s, x, y⟩ := L.sta
  exact ⟨s, kp x (hd _ _ fun b e => by cases e), y⟩
 ·injection e with e
  have := congrArg List.length e
  simp [nms] at this
  omega
 ·rcases List.mem_append.mp hx with hx | hx
  ·have h := L.rws.row x hx
   exact ⟨kp h.row (hd _ _ fun b e => by cases e), kp h.tags fun e => by cases e⟩
  ·rw [List.mem_singleton.mp hx]
   exact ⟨e1, kp et fun e => by cases e⟩
noncomputable abbrev wG : Scope := (match bC iG with | _ :: _ :: _ :: _ :: (.For _ _ (_ :: (.Assign _ (.ListComp _ _ sc _) _) :: _) _ _) :: _ => sc | _ => ap iG)
theorem vR : Blk (ap iG) si wG ["_law_j"] [5] := ⟨rfl, by decide +kernel, by decide +kernel, by decide +kernel, by decide +kernel⟩
theorem xm : (cR si ["_law_j"] [5]).Nodup := by decide +kernel
noncomputable def FG (K : PySem.W.Frag) : Sp := fun vs H Q _ => ∃ (a : Addr) (ns : List Int) (k : Int), vs = [.ref a, .int k] ∧ SqL K H a (ns.map V.int) ∧ ns.length ≤ 63 ∧ 0 ≤ k ∧
 ∀ (rl : Addr) (xs : List Lr) (c : Int) (H' : Hp), aK H H' → Rws H' rl xs → RwsOk c xs → 1 ≤ xs.length → Q (.ref rl) H'
seal PE PS PSs L2.PA PT PI PG in
theorem Eo (T : Txt K mg A) : FnOk P w K mg base CX0 3 A.wM A.wk mO (FG K) := by
 have cY := (vx (P := P) (w := w) (base := base) T).mono (show 1 ≤ 2 by decide)
 have fv := (za (P := P) (w := w) (base := base) T).mono (show 1 ≤ 2 by decide)
 have AJ := (DD (P := P) (w := w) (base := base) T).mono (show 1 ≤ 2 by decide)
 have Ca := (DL (P := P) (w := w) (base := base) T).mono (show 1 ≤ 2 by decide)
 have qR := AF (P := P) (w := w) (base := base) T
 have oj := wS (P := P) (w := w) (base := base) T
 refine T.nM.F.ok ci (fun vs H Q E h => ?_) (fun cdv B outer s H vs Q E hr h => ?_)
 ·obtain ⟨a, ns, k, rfl, _⟩ := h; rfl
 obtain ⟨a, ns, at0, rfl, hS, hn, h0, q⟩ := h
 refine ⟨_, @ag _ _ _ _ _ (aF (i := 2) ci.nd rfl (Or.inl rfl) (az oj hr rfl T.fF.m T.fF.F.kp T.fF.b .nil bg (aa (pv 0) (aa (pv 1) ae))))
  (@ag _ _ _ _ _ (aF (i := 3) ci.nd rfl (Or.inl rfl) (az AJ hr rfl T.lh.m T.lh.F.kp T.lh.b .nil bg (aa (az fv hr rfl T.bJ.m T.bJ.F.kp T.bJ.b .nil bg (aa (pv 2) (aa (az cY hr rfl T.bo.m T.bo.F.kp T.bo.b .nil bg (aa (pv 0) (aa (aJ cU (pv 1) af) ae))) ae))) ae)))
  (@ag _ _ _ _ _ (aF (i := 4) ci.nd rfl (Or.inl rfl) (bb (aa ar (aa ar (aa ar (aa ar (aa ar (aa ar (aa ar (aa ar (aa ar (aa ar (aa ar (aa ar ae))))))))))))))
  (@ag _ _ _ _ _ (aF (i := 5) ci.nd rfl (Or.inr rfl) (bb ae))
  (@ag _ _ _ _ _ (fN PassesOwn.never rfl (cJ rfl T.cL (aa (aJ cU af (aJ bI (az fv hr rfl T.bJ.m T.bJ.F.kp T.bJ.b .nil bg (aa (pv 2) (aa (az cY hr rfl T.bo.m T.bo.F.kp T.bo.b .nil bg (aa (pv 0) (aa (aJ cU (pv 1) af) ae))) ae))) af)) ae)) (aS (i := 6) ci.nd rfl (Or.inl rfl)) (@ag _ _ _ _ _ (aF (i := 7) ci.nd rfl (Or.inl rfl) (az fv hr rfl T.bJ.m T.bJ.F.kp T.bJ.b .nil bg (aa (pv 2) (aa (az cY hr rfl T.bo.m T.bo.F.kp T.bo.b .nil bg (aa (pv 0) (aa (aJ cU (aJ cU (pv 1) af) (aJ bI (pv 6) af)) ae))) ae))))
  (@ag _ _ _ _ _ (fG (i := 8) vR rfl (cJ rfl T.cL (aa (pv 6) ae)) (fun _ _ _ _ _ => aS (i := 0) xm rfl (.inl rfl)) (fun _ _ _ _ _ => ik (PW.pt (jF (aE (sW (K := K) rfl) (aI (gV (K := K) rfl) (aI (gV (K := K) rfl) (pv 1) (pv 0) (fun _ _ => rfl)) af (fun _ _ => rfl)) (aM (aa ar (aa ar ae))) rfl) (gC (aE zZ (aI (gV (K := K) rfl) (aI (gV (K := K) rfl) (pv 1) (pv 0) (fun _ _ => rfl)) af (fun _ _ => rfl)) af (aG _)))))) (fun _ _ _ _ _ => pv 0) ci.nd rfl rfl)
  (@ag _ _ _ _ _ (bF (PW.pt (jF (aE iS (pv 6) af (aG _)) (gC (aE (nC hr.units0) (pv 8) (bb ae) (aG _))))) (av Cn) aR)
  (@ag _ _ _ _ _ (aF (i := 9) ci.nd rfl (Or.inl rfl) (mP jC af))
  (@ag _ _ _ _ _ (bF (aE iS (pv 6) af (aG _)) (av (aF (i := 9) ci.nd rfl (Or.inl rfl) (aI aW (pv 8) (aI aW (bb (aa (aJ vj (ax aN rfl T.bR ca (aa (pv 8) ae)) af) (aa af (aa (aJ bI (aJ cM (pv 7) af) (ax aN rfl T.bR ca (aa (pv 8) ae))) ae)))) (aJ bI (aJ bI (pv 7) af) af) (fun _ _ => rfl)) (fun _ _ => rfl)))) aR)
  (@ag _ _ _ _ _ (aF (i := 10) ci.nd rfl (Or.inl rfl) (aI aW (pv 4) (aJ bI (aJ cM (pv 7) af) af) (fun _ _ => rfl)))
  (@ag _ _ _ _ _ (bF (PW.pt (jF (aE bW (pv 6) af (aG _)) (gC (aE iS (aJ bI (aJ cM (pv 7) af) af) af (aG _))))) (av (aF (i := 10) ci.nd rfl (Or.inl rfl) (aI aW (bb (aa ar (aa ar (aa ar (aa ar (aa ar ae)))))) (aJ bI (aJ cM (pv 7) af) af) (fun _ _ => rfl)))) aR)
  (@ag _ _ _ _ _ (aF (i := 11) ci.nd rfl (Or.inl rfl) cu)
  (@ag _ _ _ _ _ (bF (aE bW (pv 10) ar (aG _)) (av (aF (i := 11) ci.nd rfl (Or.inl rfl) (az qR hr rfl T.gT.m T.gT.F.kp T.gT.b .nil bg (aa (pv 2) (aa (pv 7) ae))))) aR)
  (@ag _ _ _ _ _ (bF (aE bW (pv 10) ar (aG _)) (av (aF (i := 11) ci.nd rfl (Or.inl rfl) (aJ cU af (aJ bI (aJ cM (pv 7) af) af)))) aR)
  (@ag _ _ _ _ _ (dC (gY PySem.F.plainAttrs_list PySem.F.slot_list_append PySem.F.type_list_append iV (pv 5) (aa (bb (aa (pv 10) (aa (aI aW (pv 3) (pv 6) (fun _ _ => rfl)) (aa (az Ca hr rfl T.mX.m T.mX.F.kp T.mX.b .nil bg (aa (az fv hr rfl T.bJ.m T.bJ.F.kp T.bJ.b .nil bg (aa (pv 2) (aa (pv 6) ae))) (aa (pv 3) ae))) (aa (pv 11) (aa (pv 9) (aa af ae))))))) ae)))
  (av (bF (aE Fk (pv 9) af (aG _)) (av (oz (aJ cU (aI aW (aI aW (pv 5) (pv 9) (fun _ _ => rfl)) af (fun _ _ => rfl)) af) (Cg (aI aW (pv 5) (pv 6) (fun _ _ => rfl)) af xZ))) aR))))))))))))))
  (av (aO (pv 5))))))), ?_⟩
 refine ⟨_, rfl, _, rfl, a, ns, at0, rfl, hS, hn, h0, fun st H1 hst s1 f1 hSt => ?_⟩
 have off := Off.of hS hst
 refine ⟨_, rfl, _, rfl, _, rfl, _, _, rfl, rfl, a, ns, _, rfl, gw hS s1, hn, by omega, fun v => ⟨st, v, rfl, hSt, fun c H2 c0 c1 m2 f2 => ⟨c, rfl, c0, fun nl H3 hnl s3 e3 => ?_⟩⟩⟩
 refine ⟨small (by simp), fun kl hkl => ?_⟩
 refine ⟨small (by simp), fun rl hrl => ?_⟩
 have sH2 : aK H H2 := fun b o e => m2.keep b o (fun z => by rw [z, hst] at e; cases e) (s1 b o e)
 have sK := (s3.trans (ao hkl (.lst [.str "row", .str "column", .str "words", .str "blank", .str "flow", .str "grid", .str "pile", .str "words", .str "row", .str "column", .str "blank", .str "flow"])))
 have sR := ao hrl (.lst [])
 have hrl0 : H rl = none := by
  cases e : H rl with
  | none => rfl
  | some o => rw [sK _ _ (sH2 _ _ e)] at hrl; cases hrl
 have L0 : Lp K a st nl kl rl ns c H _ [] := ⟨(sH2.trans sK).trans sR, let ⟨z, x, y⟩ := m2.st; ⟨z, sR _ _ (sK _ _ x), y⟩, gw (gw (m2.seq off (gw hS s1)) sK) sR, off, sR _ _ (ao hkl _ _ _ e3), sR _ _ ai, ⟨ai, fun x hx => by cases hx⟩, ⟨by simp, fun i x h => by simp at h⟩⟩
 generalize upd (upd H3 kl (.lst [.str "row", .str "column", .str "words", .str "blank", .str "flow", .str "grid", .str "pile", .str "words", .str "row", .str "column", .str "blank", .str "flow"])) rl (.lst []) = H4 at L0 ⊢
 refine ⟨_, rfl, _, rfl, _, rfl, _, _, rfl, rfl, a, ns, _, rfl, L0.scr, hn, by omega, fun v2 => ⟨st, v2, rfl, L0.sta, fun r2 H5 r20 r21 m5 f5 => ⟨_, _, rfl, rfl, (by show (0 : Int) < 12; decide), _, _, rfl, rfl, _, rfl, by omega, by omega, gH (n := (1 + r2 % 12).toNat)
  (fun i σ H' => ∃ (v6 v7 v8 v9 v10 v11 : Option V) (xs : List Lr), σ = [some (.ref a), some (.int at0), some (.ref st), some (.ref nl), some (.ref kl), some (.ref rl), v6, v7, v8, v9, v10, v11] ∧ Lp K a st nl kl rl ns c H H' xs ∧ xs.length = i) ⟨none, none, none, none, none, none, [], rfl, L0.ms hst m5, rfl⟩ ?_ ?_⟩⟩⟩
 ·rintro i σ H6 hi ⟨v6, v7, v8, v9, v10, v11, xs, rfl, L, hl⟩
  refine ⟨_, rfl, _, rfl, _, rfl, _, _, rfl, rfl, _, rfl, _, _, rfl, rfl, (by show (0 : Int) < 5; decide), _, _, rfl, rfl, a, ns, _, rfl, L.scr, hn, by omega, fun v => ⟨st, v, rfl, L.sta, fun p H7 p0 p1 m7 f7 => ?_⟩⟩
  have L7 := L.ms hst m7
  have i12 : i < 12 := by omega
  refine ⟨_, rfl, _, rfl, by omega, by omega, lD (n := (0 + (i : Int)).toNat) (fun j acc H' => ∃ hs : List Nat, acc = hs.map (fun h : Nat => V.int h) ∧ hs.length ≤ j ∧ j ≤ 12 ∧ (∀ h ∈ hs, ∃ x, xs[h]? = some x ∧ HY x.r) ∧ aK H7 H') ⟨[], rfl, Nat.le_refl _, by omega, fun h z => (by cases z), .refl _⟩ (fun j acc H' z => ?_) (fun j acc H' R k hj z => ?_) fun acc H8 z => ?_⟩
  ·obtain ⟨hs, rfl, h1, h2, _⟩ := z
   rw [List.length_map]; exact bc (by omega)
  ·obtain ⟨hs, rfl, h1, h2, h3, s7⟩ := z
   have hj' : j < xs.length := by omega
   have ex : xs[j]? = some xs[j] := List.getElem?_eq_getElem hj'
   have L8 := L7.grow s7
   have rw8 := L8.rws.row xs[j] (List.getElem_mem hj')
   refine ⟨_, rfl, _, rfl, rl, _, _, _, rfl, rfl, .of L8.rws.lst, (by rw [Int.zero_add]; exact pY ex), xs[j].a, _, _, _, rfl, rfl, .of rw8.row, rfl, small (by simp), fun tl htl => ⟨tl, _, rfl, .inr (.of ai), rfl, rfl, _, rfl, ?_⟩⟩
   have s8 := ao htl (.tup [.str iy, .str dy])
   have L9 := L8.grow s8
   have rw9 := L9.rws.row xs[j] (List.getElem_mem hj')
   have no : R (hs.map (fun h : Nat => V.int h)) (upd H' tl (.tup [.str iy, .str dy])) := k _ _ ⟨hs, rfl, by omega, by omega, h3, s7.trans s8⟩
   refine mY (fun c1 => ?_) (fun c1 => bH no)
   have hh := Ee (k := xs[j].r.kind) c1
   refine ⟨_, rfl, _, rfl, rl, _, _, _, rfl, rfl, .of L9.rws.lst, (by rw [Int.zero_add]; exact pY ex), xs[j].a, _, _, .int xs[j].r.deep, rfl, rfl, .of rw9.row, rfl, _, _, rfl, rfl, _, rfl, mY (fun c2 => ?_) (fun c2 => no)⟩
   have hd : xs[j].r.deep < 8 := of_decide_eq_true c2
   refine ⟨_, rfl, k _ _ ⟨hs ++ [j], ?_, by simp; omega, by omega, fun h hm => ?_, s7.trans s8⟩⟩
   ·rw [List.map_append, Int.zero_add]; rfl
   ·rcases List.mem_append.mp hm with hm | hm
    ·exact h3 h hm
    ·rw [List.mem_singleton.mp hm]; exact ⟨_, ex, hh.1, hh.2, hd⟩
  ·obtain ⟨hs, rfl, h1, h2, h3, s8⟩ := z
   intro hl2 hhl
   have L9 := (L7.grow s8).grow (ao hhl (.lst (hs.map fun h : Nat => V.int h)))
   have eh : upd H8 hl2 (.lst (hs.map fun h : Nat => V.int h)) hl2 = some (.lst (hs.map fun h : Nat => V.int h)) := ai
   generalize upd H8 hl2 (.lst (hs.map fun h : Nat => V.int h)) = H9 at L9 eh ⊢
   dsimp only [bp]; show iC _ _ _ _ _
   refine cb (fun σ' H' => σ' = [some (.ref a), some (.int at0), some (.ref st), some (.ref nl), some (.ref kl), some (.ref rl), some (.int (0 + (i : Int))), some (.int p), some (.ref hl2), v9, v10, v11] ∧ Lp K a st nl kl rl ns c H H' xs ∧ H' hl2 = some (.lst (hs.map fun h : Nat => V.int h)) ∧ (0 < i → hs ≠ [])) (fun N hN => ?_) ?_
   ·refine ⟨_, rfl, _, _, rfl, rfl, _, rfl, mY (fun c1 => ?_) (fun c1 => bH (hN _ _ ⟨rfl, L9, eh, fun z => absurd (decide_eq_true (by omega)) c1⟩))⟩
    have i0 : 0 < i := by
     have : (0 : Int) + (i : Int) > 0 := of_decide_eq_true c1
     omega
    refine ⟨_, rfl, small (by simp), fun el hel => ⟨hl2, el, _, rfl, rfl, .of (ao hel _ _ _ eh), .of ai, _, rfl, mY (fun c2 => ?_) (fun c2 => ?_)⟩⟩
    ·have Lz := L9.grow (ao hel (.lst []))
     exact ⟨_, rfl, q rl xs c _ Lz.same Lz.rws Lz.ok (by omega)⟩
    ·exact hN _ _ ⟨rfl, L9.grow (ao hel _), ao hel _ _ _ eh, fun _ z => c2 (decide_eq_true (by rw [z]; rfl))⟩
   rintro σ H10 ⟨rfl, L10, e10, hne⟩
   refine ⟨_, rfl, ?_⟩
   dsimp only [bp]; show iC _ _ _ _ _
   refine cb (fun σ' H' => ∃ ab : Int, σ' = [some (.ref a), some (.int at0), some (.ref st), some (.ref nl), some (.ref kl), some (.ref rl), some (.int (0 + (i : Int))), some (.int p), some (.ref hl2), some (.int ab), v10, v11] ∧ Lp K a st nl kl rl ns c H H' xs ∧ ((i = 0 ∧ ab = -1) ∨ ∃ (j : Nat) (x : Lr), j < i ∧ xs[j]? = some x ∧ ab = (j : Int) ∧ HY x.r)) (fun N hN => ?_) ?_
   ·refine ⟨_, rfl, _, _, rfl, rfl, _, rfl, mY (fun c1 => ?_) (fun c1 => hN _ _ ⟨-1, rfl, L10, .inl ⟨?_, rfl⟩⟩)⟩
    ·have i0 : 0 < i := by
      have : (0 : Int) + (i : Int) > 0 := of_decide_eq_true c1
      omega
     have ln : 0 < hs.length := List.length_pos_iff.mpr (hne i0)
     have lm : (hs.map fun h : Nat => V.int h).length = hs.length := List.length_map _
     refine ⟨_, rfl, _, rfl, hl2, _, rfl, .inl (.of e10), _, _, rfl, rfl, _, rfl, _, _, rfl, rfl, ⟨by decide, by decide⟩, _, rfl, hl2, _, rfl, .inl (.of e10), _, _, rfl, rfl, (by show (0 : Int) < (((hs.map fun h : Nat => V.int h).length : Nat) : Int); omega), small (by simp), fun dl hdl => ?_⟩
     obtain ⟨u, hu, hu3⟩ := Io (x := (((hs.map fun h : Nat => V.int h).length : Nat) : Int) - 1) (y := 0) (z := p / 4 % (((hs.map fun h : Nat => V.int h).length : Nat) : Int)) (m := p % 4 % 3) (by omega) (by omega)
     have z0 := Int.emod_nonneg (p / 4) (show (((hs.map fun h : Nat => V.int h).length : Nat) : Int) ≠ 0 by omega)
     have z1 := Int.emod_lt_of_pos (p / 4) (show 0 < (((hs.map fun h : Nat => V.int h).length : Nat) : Int) by omega)
     have u0 : 0 ≤ u ∧ u < (((hs.map fun h : Nat => V.int h).length : Nat) : Int) := by rcases hu3 with h | h | h <;> omega
     obtain ⟨j, rfl⟩ := Int.eq_ofNat_of_zero_le u0.1
     have hj : j < hs.length := by omega
     obtain ⟨x, hx, hx2⟩ := h3 hs[j] (List.getElem_mem hj)
     refine ⟨_, rfl, _, _, rfl, rfl, (by show (0 : Int) < 4; decide), _, _, rfl, rfl, (by show (0 : Int) < 3; decide), dl, _, _, _, rfl, rfl, .of ai, hu, hl2, _, _, .int (hs[j] : Nat), rfl, rfl, .of (ao hdl _ _ _ e10), ?_, hN _ _ ⟨_, rfl, L10.grow (ao hdl _), .inr ⟨hs[j], x, ?_, hx, rfl, hx2⟩⟩⟩
     ·exact bY (by rw [List.getElem?_map, List.getElem?_eq_getElem hj]; rfl)
     ·have := (List.getElem?_eq_some_iff.mp hx).1; omega
    ·have h : ¬ ((0 : Int) + (i : Int) > 0) := fun z => c1 (decide_eq_true z)
     omega
   rintro σ H11 ⟨ab, rfl, L11, hab⟩
   obtain ⟨kd, hkd, ekd⟩ := ER (m := p / 64 % 12) (by omega) (by omega)
   refine ⟨_, rfl, _, rfl, _, _, rfl, rfl, ⟨by decide, by decide⟩, _, _, rfl, rfl, (by show (0 : Int) < 12; decide), kl, _, _, _, rfl, rfl, .of L11.kl, ekd, ?_⟩
   dsimp only [bp]; show iC _ _ _ _ _
   refine cb (fun σ' H' => ∃ kd : Str, σ' = [some (.ref a), some (.int at0), some (.ref st), some (.ref nl), some (.ref kl), some (.ref rl), some (.int (0 + (i : Int))), some (.int p), some (.ref hl2), some (.int ab), some (.str kd), v11] ∧ Lp K a st nl kl rl ns c H H' xs ∧ kd ∈ nY) (fun N hN => ?_) ?_
   ·have no : N _ _ := hN _ _ ⟨kd, rfl, L11, hkd⟩
    refine ⟨_, rfl, rfl, _, rfl, mY (fun c1 => ?_) (fun c1 => bH no)⟩
    refine ⟨_, rfl, _, _, rfl, rfl, ⟨by decide, by decide⟩, _, _, rfl, rfl, (by show (0 : Int) < 6; decide), _, _, rfl, rfl, _, rfl, mY (fun c2 => ?_) (fun c2 => no)⟩
    obtain ⟨k5, hk5, ek5⟩ := FQ (m := p / 64 % 5) (by omega) (by omega)
    exact ⟨small (by simp), fun dl hdl => ⟨_, rfl, _, _, rfl, rfl, ⟨by decide, by decide⟩, _, _, rfl, rfl, (by show (0 : Int) < 5; decide), dl, _, _, _, rfl, rfl, .of ai, ek5, hN _ _ ⟨k5, rfl, L11.grow (ao hdl _), hk5⟩⟩⟩
   rintro σ H12 ⟨kd, rfl, L12, hkd⟩
   refine Co ?_
   show iC _ _ _ _ _
   refine cb (fun σ' H' => ∃ mo : Mo, σ' = [some (.ref a), some (.int at0), some (.ref st), some (.ref nl), some (.ref kl), some (.ref rl), some (.int (0 + (i : Int))), some (.int p), some (.ref hl2), some (.int ab), some (.str kd), some mo.v] ∧ Lp K a st nl kl rl ns c H H' xs ∧ ((kd = dy ∧ ∃ ws, mo = .tx ws ∧ Wds ws) ∨ (kd ≠ dy ∧ mo = .no))) (fun N hN => ?_) ?_
   ·refine ⟨_, rfl, rfl, _, rfl, mY (fun c1 => ?_) (fun c1 => hN _ _ ⟨.no, rfl, L12, .inr ⟨fun z => c1 (decide_eq_true (by rw [z]; rfl)), rfl⟩⟩)⟩
    have ek : kd = dy := by
     have := of_decide_eq_true c1
     injection this
    exact ⟨_, rfl, _, rfl, st, p, rfl, L12.sta, fun ws Hx mx hw => hN _ _ ⟨.tx ws, rfl, L12.ms hst mx, .inl ⟨ek, ws, rfl, hw⟩⟩⟩
   rintro σ H13 ⟨mo, rfl, L13, hmo⟩
   show iC _ _ _ _ _
   refine cb (fun σ' H' => ∃ mo : Mo, σ' = [some (.ref a), some (.int at0), some (.ref st), some (.ref nl), some (.ref kl), some (.ref rl), some (.int (0 + (i : Int))), some (.int p), some (.ref hl2), some (.int ab), some (.str kd), some mo.v] ∧ Lp K a st nl kl rl ns c H H' xs ∧ Iv kd mo) (fun N hN => ?_) ?_
   ·have nwg : ui ≠ dy := by decide +kernel
    refine ⟨_, rfl, rfl, _, rfl, mY (fun c1 => ?_) (fun c1 => hN _ _ ⟨mo, rfl, L13, ?_⟩)⟩
    ·have ek : kd = ui := by
      have := of_decide_eq_true c1
      injection this
     exact ⟨_, rfl, _, _, rfl, rfl, ⟨by decide, by decide⟩, _, _, rfl, rfl, (by show (0 : Int) < 9; decide), _, _, rfl, rfl, hN _ _ ⟨.nu (1 + p / 4096 % 9), rfl, L13, .inr (.inl ⟨ek, _, rfl, by omega, by omega⟩)⟩⟩
    ·have ng : kd ≠ ui := fun z => c1 (decide_eq_true (by rw [z]; rfl))
     rcases hmo with h | ⟨h, e⟩
     ·exact .inl h
     ·exact .inr (.inr ⟨h, ng, e⟩)
   rintro σ H14 ⟨mo, rfl, L14, hmo⟩
   have ln : (nms c).length = 24 := by simp [nms]
   refine ⟨_, rfl, .inl ⟨rfl, _, .of L14.rws.lst⟩, _, rfl, _, rfl, _, rfl, nl, _, _, .str (nm c i), rfl, rfl, .of L14.nl, ?_, _, rfl, _, rfl, st, _, rfl, L14.sta, fun u H15 u0 u1 m15 f15 => ?_⟩
   ·rw [Int.zero_add]
    refine bY ?_
    rw [List.getElem?_map]
    unfold nms
    rw [List.getElem?_map, List.getElem?_range (by omega)]; rfl
   have L15 := L14.ms hst m15
   refine ⟨_, rfl, u, nl, nms c, rfl, L15.nl, ln, fun tt H16 htt s16 e16 => ?_⟩
   have L16 := L15.grow s16
   refine ⟨_, rfl, _, rfl, small (by simp), fun ra hra => ?_⟩
   have hrlH : H rl = none := hrl0
   have nar : ra ≠ rl := fun z => by rw [z, L16.rws.lst] at hra; cases hra
   have e17 : upd H16 ra (.lst [.str kd, .str (nm c i), .ref tt, mo.v, .int ab, .int 1]) rl = some (.lst (xs.map fun x => V.ref x.a)) := by rw [aD nar.symm]; exact L16.rws.lst
   refine ⟨rl, _, _, rfl, rfl, e17, (by rw [List.length_map]; exact bc (by omega)), ?_⟩
   have tg : ∃ p, tgs u (nms c) = tgs p (nms c) := ⟨u, rfl⟩
   refine ⟨_, rfl, _, _, rfl, rfl, _, rfl, mY (fun c1 => ?_) (fun c1 => ?_)⟩
   ·have c1' : ab ≥ 0 := of_decide_eq_true c1
    rcases hab with ⟨_, h⟩ | ⟨j, x, hj, hx, eab, hh⟩
    ·omega
    subst eab
    have hxm : x ∈ xs := List.mem_of_getElem? hx
    have rx := L16.rws.row x hxm
    have xra : x.a ≠ ra := fun z => by rw [← z, rx.row] at hra; cases hra
    have xrl : x.a ≠ rl := fun z => by
     have h := rx.row
     rw [z, L16.rws.lst] at h
     injection h with h
     injection h with h
     cases xs with
     | nil => cases h
     | cons y ys => rw [List.map_cons] at h; injection h with h _; cases h
    refine ⟨_, rfl, _, rfl, rl, _, _, .ref x.a, rfl, rfl, .of ai, ?_, x.a, _, _, .int x.r.deep, rfl, rfl, .of (by rw [aD xrl, aD xra]; exact rx.row), rfl, _, _, rfl, rfl, _, rfl, _, rfl, rl, _, _, .ref ra, rfl, rfl, .of ai, ?_, ra, _, _, 5, rfl, rfl, (by rw [aD nar, ai]), rfl, ?_⟩
    ·refine bY ?_
     rw [List.getElem?_append_left (by rw [List.length_map]; omega), List.getElem?_map, hx]; rfl
    ·rw [Int.zero_add]
     refine bY ?_
     rw [List.getElem?_append_right (by rw [List.length_map]; omega), List.length_map, hl, Nat.sub_self]; rfl
    ·refine ⟨_, _, _, _, _, _, _, rfl, L16.snoc (r := ⟨kd, nm c i, tgs u (nms c), mo, (j : Int), x.r.deep + 1⟩) hS hrlH hra e16 (by omega) ⟨by rw [hl], hkd, hmo, tg, .inr ⟨j, x, by omega, hx, rfl, hh, rfl⟩⟩ (by rw [ai]; rfl) (by rw [aD nar.symm, ai]) (fun b h1 h2 => by rw [aD h1, aD h2, aD h1]), by simp; omega⟩
   ·have c1' : ¬ ab ≥ 0 := fun z => c1 (decide_eq_true z)
    rcases hab with ⟨h, h'⟩ | ⟨j, x, hj, hx, eab, hh⟩
    ·refine ⟨_, _, _, _, _, _, _, rfl, L16.snoc (r := ⟨kd, nm c i, tgs u (nms c), mo, ab, 1⟩) hS hrlH hra e16 (by omega) ⟨by rw [hl], hkd, hmo, tg, .inl ⟨by omega, h', rfl⟩⟩ ?_ ai (fun b h1 h2 => by rw [aD h2, aD h1]), by simp; omega⟩
     rw [aD nar, ai]; rfl
    ·omega
 ·rintro σ H6 ⟨v6, v7, v8, v9, v10, v11, xs, rfl, L, hl⟩
  exact ⟨_, rfl, q rl xs c H6 L.same L.rws L.ok (by omega)⟩
end
inductive Bx where
 | mk (kind name : Str) (tags : List Str) (more : Mo) (kids : List Bx) : Bx
inductive IsBx (H : Hp) : Addr → Bx → Prop where
 | mk {a t ks : Addr} {kind name : Str} {tags : List Str} {more : Mo} {kids : List Bx} {as : List Addr} (box : H a = some (.tup [.str kind, .str name, .ref t, more.v, .ref ks])) (tg : H t = some (.tup (tags.map V.str)))
   (ks : H ks = some (.tup (as.map V.ref))) (n : as.length = kids.length) (k : ∀ (i : Nat) (b : Addr) (z : Bx), as[i]? = some b → kids[i]? = some z → IsBx H b z) : IsBx H a (.mk kind name tags more kids)
theorem IsBx.same {H H' : Hp} (s : aK H H') {a : Addr} {b : Bx} (h : IsBx H a b) : IsBx H' a b := by
 induction h with
 | mk h1 h2 h3 h4 h5 ih => exact .mk (s _ _ h1) (s _ _ h2) (s _ _ h3) h4 ih
noncomputable def bz (xs : List Lr) (k : Nat) : List Nat := (List.range xs.length).filter fun j => match xs[j]? with | some x => x.r.about == (k : Int) | none => false
theorem gK {xs : List Lr} {k j : Nat} : j ∈ bz xs k ↔ ∃ x, xs[j]? = some x ∧ x.r.about = (k : Int) := by
 unfold bz
 rw [List.mem_filter, List.mem_range]
 constructor
 ·rintro ⟨h, e⟩
  rw [List.getElem?_eq_getElem h] at e
  exact ⟨_, List.getElem?_eq_getElem h, by simpa using e⟩
 ·rintro ⟨x, hx, e⟩
  refine ⟨(List.getElem?_eq_some_iff.mp hx).1, ?_⟩
  rw [hx]
  simpa using e
theorem cq {c : Int} {xs : List Lr} (h : RwsOk c xs) {k j : Nat} (hj : j ∈ bz xs k) : k < j ∧ j < xs.length := by
 obtain ⟨x, hx, e⟩ := gK.mp hj
 refine ⟨?_, (List.getElem?_eq_some_iff.mp hx).1⟩
 rcases (h.row j x hx).about with ⟨_, e2, _⟩ | ⟨i, y, hi, _, e2, _⟩ <;> omega
noncomputable def bx (xs : List Lr) : Nat → Nat → Bx
 | 0, _ => .mk Str.empty Str.empty [] .no []
 | n + 1, k => match xs[k]? with
  | some x => .mk x.r.kind x.r.name x.r.tags x.r.more ((bz xs k).map (bx xs n))
  | none => .mk Str.empty Str.empty [] .no []
theorem zW {c : Int} {xs : List Lr} (h : RwsOk c xs) : ∀ (n m k : Nat), xs.length - k ≤ n → n ≤ m → k < xs.length → bx xs m k = bx xs n k
 | 0, _, k, h1, _, h3 => by omega
 | n + 1, 0, _, _, h2, _ => by omega
 | n + 1, m + 1, k, h1, h2, h3 => by
  unfold bx
  rw [List.getElem?_eq_getElem h3]
  have : (bz xs k).map (bx xs m) = (bz xs k).map (bx xs n) := List.map_congr_left fun j hj => by
   obtain ⟨a, b⟩ := cq h hj
   exact zW h n m j (by omega) (by omega) b
  simp only [this]
noncomputable def rE (xs : List Lr) (k : Nat) : Bx := bx xs (xs.length - k) k
theorem zR {c : Int} {xs : List Lr} (h : RwsOk c xs) {k : Nat} {x : Lr} (hx : xs[k]? = some x) : rE xs k = .mk x.r.kind x.r.name x.r.tags x.r.more ((bz xs k).map (rE xs)) := by
 have hk := (List.getElem?_eq_some_iff.mp hx).1
 obtain ⟨n, hn⟩ : ∃ n, xs.length - k = n + 1 := ⟨xs.length - k - 1, by omega⟩
 have e : rE xs k = bx xs (n + 1) k := by unfold rE; rw [hn]
 have e2 : bx xs (n + 1) k = .mk x.r.kind x.r.name x.r.tags x.r.more ((bz xs k).map (bx xs n)) := by rw [bx, hx]
 have : (bz xs k).map (bx xs n) = (bz xs k).map (rE xs) := List.map_congr_left fun j hj => by
  obtain ⟨a, b⟩ := cq h hj
  exact zW h _ _ j (Nat.le_refl _) (by omega) b
 rw [e, e2, this]
noncomputable def kF (xs : List Lr) (k j : Nat) : Bool := match xs[j]? with | some x => x.r.about == (k : Int) | none => false
theorem wO {xs : List Lr} {k j : Nat} {x : Lr} (h : xs[j]? = some x) : kF xs k j = (x.r.about == (k : Int)) := by unfold kF; rw [h]
section
variable {P : Program} {w : World} {K : PySem.W.Frag} {mg : Str → Option Value} {base : Heap} {A : Adr}
noncomputable abbrev zo : Scope := (match bC kR with | (.Assign _ (.ListComp _ _ sc _) _) :: _ => sc | _ => ap kR)
theorem wP : Blk (ap kR) vy zo ["_law_j"] [0, 1] := ⟨rfl, by decide +kernel, by decide +kernel, by decide +kernel, by decide +kernel⟩
theorem zy : (cR vy ["_law_j"] [0, 1]).Nodup := by decide +kernel
noncomputable def BR (n : Nat) : Sp := fun vs H Q _ => ∃ (rl : Addr) (xs : List Lr) (c : Int) (k : Nat), vs = [.ref rl, .int (k : Int)] ∧ Rws H rl xs ∧ RwsOk c xs ∧ k < xs.length ∧ xs.length - k ≤ n ∧
 ∀ (a : Addr) (H' : Hp), aK H H' → IsBx H' a (rE xs k) → Q (.ref a) H'
seal PE PS PSs L2.PA PT PI PG in
theorem Dp (T : Txt K mg A) (n : Nat) (uZ : FnOk P w K mg base CX0 n A.qm A.pZ kL (BR n)) : FnOk P w K mg base CX0 (n + 1) A.qm A.pZ kL (BR (n + 1)) := by
 refine T.jo.F.ok wQ (fun vs H Q E h => ?_) (fun cdv B outer s H vs Q E hr h => ?_)
 ·obtain ⟨rl, xs, c, k, rfl, _⟩ := h; rfl
 obtain ⟨rl, xs, c, k, rfl, R, ok, hk, hn, q⟩ := h
 have n12 := ok.n
 refine ⟨_, @ag _ _ _ _ _ (fG (i := 2) wP rfl (cJ rfl T.cL (aa (ax aN rfl T.bR ca (aa (pv 0) ae)) ae)) (fun _ _ _ _ _ => aS (i := 0) zy rfl (.inl rfl)) (fun _ _ _ _ _ => ik (aE bW (aI (gV (K := K) rfl) (aI (gV (K := K) rfl) (pv 1) (pv 0) (fun _ _ => rfl)) af (fun _ _ => rfl)) (pv 2) (aG _))) (fun _ _ _ _ _ => az uZ hr rfl T.jo.m T.jo.F.kp T.jo.b .nil bg (aa (pv 1) (aa (pv 0) ae))) wQ.nd rfl rfl)
  (av (aO (aJ Es (ck cT rfl T.cy db (aa (fW vU (aI aW (pv 0) (pv 1) (fun _ _ => rfl)) hW (hX af)) ae)) (aM (aa (ck cT rfl T.cy db (aa (pv 2) ae)) ae))))), ?_⟩
 refine ⟨_, rfl, rl, _, rfl, .inl (.of R.lst), _, rfl, by omega, by rw [List.length_map]; omega, lD (n := (((xs.map fun x => V.ref x.a).length : Nat) : Int).toNat) (fun j acc H' => ∃ as : List Addr, acc = as.map V.ref ∧ as.length = ((List.range j).filter (kF xs k)).length ∧ (∀ (i : Nat) (b : Addr) (m : Nat), as[i]? = some b → ((List.range j).filter (kF xs k))[i]? = some m → IsBx H' b (rE xs m)) ∧ aK H H' ∧ j ≤ 12)
  ⟨[], rfl, rfl, fun i b m h => by simp at h, .refl _, by omega⟩ (fun j acc H' z => ?_) (fun j acc H' N kk hj z => ?_) fun acc H' z => ?_⟩
 ·obtain ⟨as, rfl, h1, _, _, h2⟩ := z
  rw [List.length_map, h1]
  have := List.length_filter_le (kF xs k) (List.range j)
  rw [List.length_range] at this
  exact bc (by omega)
 ·obtain ⟨as, rfl, h1, h3, s1, h2⟩ := z
  have hj' : j < xs.length := by simp at hj; omega
  have ex : xs[j]? = some xs[j] := List.getElem?_eq_getElem hj'
  have R1 := R.same s1
  have r1 := R1.row xs[j] (List.getElem_mem hj')
  have ef : (List.range (j + 1)).filter (kF xs k) = (List.range j).filter (kF xs k) ++ (if kF xs k j then [j] else []) := by
   rw [List.range_succ, List.filter_append]
   congr 1
   by_cases e : kF xs k j <;> simp [e]
  refine ⟨_, rfl, _, rfl, rl, _, _, _, rfl, rfl, .of R1.lst, (by rw [Int.zero_add]; exact pY ex), xs[j].a, _, _, .int xs[j].r.about, rfl, rfl, .of r1.row, rfl, _, rfl, rfl, _, rfl, mY (fun c1 => ?_) (fun c1 => ?_)⟩
  ·have ea : xs[j].r.about = (k : Int) := by
    have := of_decide_eq_true c1
    injection this
   have ek : kF xs k j = true := by rw [wO ex, ea]; simp
   have hkj := cq ok (gK.mpr ⟨_, ex, ea⟩)
   rw [ek, if_pos rfl] at ef
   refine ⟨_, rfl, _, rfl, rl, xs, c, j, (by rw [Int.zero_add]; rfl), R1, ok, hj', by omega, fun a H2 s2 hb => kk _ _ ⟨as ++ [a], by rw [List.map_append]; rfl, ?_, ?_, s1.trans s2, by omega⟩⟩
   ·rw [ef]; simp; omega
   ·intro i b m hb' hm
    rw [ef] at hm
    rw [List.getElem?_append] at hb' hm
    rw [← h1] at hm
    split at hb'
    ·rename_i hi
     rw [if_pos hi] at hm
     exact (h3 i b m hb' hm).same s2
    ·rename_i hi
     rw [if_neg hi] at hm
     have i0 : i - as.length = 0 := by have := (List.getElem?_eq_some_iff.mp hb').1; simp at this; omega
     rw [i0] at hb' hm
     cases hb'
     cases hm
     exact hb
  ·have ek : kF xs k j = false := by
    rw [wO ex]
    refine Bool.eq_false_iff.mpr fun e => c1 (decide_eq_true ?_)
    rw [show xs[j].r.about = (k : Int) by simpa using e]
   rw [ek] at ef
   simp at ef
   exact kk _ _ ⟨as, rfl, by rw [ef]; exact h1, by rw [ef]; exact h3, s1, by omega⟩
 ·obtain ⟨as, rfl, h1, h3, s1, h2⟩ := z
  intro l hl
  have ex : xs[k]? = some xs[k] := List.getElem?_eq_getElem hk
  have e1 : upd H' l (.lst (as.map V.ref)) l = some (.lst (as.map V.ref)) := ai
  have s2 := s1.trans (ao hl (.lst (as.map V.ref)))
  have h3' : ∀ (i : Nat) (b : Addr) (m : Nat), as[i]? = some b → (bz xs k)[i]? = some m → IsBx (upd H' l (.lst (as.map V.ref))) b (rE xs m) := fun i b m hb hm => (h3 i b m hb (by
   have e : (((xs.map fun x => V.ref x.a).length : Nat) : Int).toNat = xs.length := by simp
   rw [e]; exact hm)).same (ao hl _)
  have h1' : as.length = (bz xs k).length := by
   have e : (((xs.map fun x => V.ref x.a).length : Nat) : Int).toNat = xs.length := by simp
   rw [e] at h1; exact h1
  generalize upd H' l (.lst (as.map V.ref)) = H2 at e1 s2 h3' ⊢
  have R2 := R.same s2
  have r2 := R2.row xs[k] (List.getElem_mem hk)
  refine ⟨_, rfl, _, rfl, rl, _, _, _, rfl, rfl, .of R2.lst, pY ex, 4, rfl, xs[k].a, _, rfl, .of r2.row, fun p hp => ⟨p, _, rfl, .inl ⟨.of ai, fun t1 ht1 => ?_⟩⟩⟩
  have c4 : gX (xs[k].r.vs xs[k].t) none (some 4) = [.str xs[k].r.kind, .str xs[k].r.name, .ref xs[k].t, xs[k].r.more.v] := by rw [CS _ _ (by decide)]; rfl
  rw [c4] at ht1 ⊢
  have s3 := (ao hp (.lst [V.str xs[k].r.kind, .str xs[k].r.name, .ref xs[k].t, xs[k].r.more.v])).trans (ao ht1 (.tup [V.str xs[k].r.kind, .str xs[k].r.name, .ref xs[k].t, xs[k].r.more.v]))
  have et1 : upd (upd H2 p (.lst [V.str xs[k].r.kind, .str xs[k].r.name, .ref xs[k].t, xs[k].r.more.v])) t1 (.tup [V.str xs[k].r.kind, .str xs[k].r.name, .ref xs[k].t, xs[k].r.more.v]) t1 = some (.tup [V.str xs[k].r.kind, .str xs[k].r.name, .ref xs[k].t, xs[k].r.more.v]) := ai
  generalize upd (upd H2 p (.lst [V.str xs[k].r.kind, .str xs[k].r.name, .ref xs[k].t, xs[k].r.more.v])) t1 (.tup [V.str xs[k].r.kind, .str xs[k].r.name, .ref xs[k].t, xs[k].r.more.v]) = H3 at s3 et1 ⊢
  refine ⟨_, rfl, l, _, rfl, .inl ⟨.of (s3 _ _ e1), fun t2 ht2 => ⟨small (by simp), fun t3 ht3 => ?_⟩⟩⟩
  have s4 := ao ht2 (.tup (as.map V.ref))
  have s5 := ao ht3 (.tup [V.ref t2])
  refine ⟨t1, t3, _, _, rfl, rfl, .of (s5 _ _ (s4 _ _ et1)), .of ai, by simp, small (by simp), fun e => by simp at e, fun _ a ha => ?_⟩
  have s6 := ao ha (.tup ([V.str xs[k].r.kind, .str xs[k].r.name, .ref xs[k].t, xs[k].r.more.v] ++ [V.ref t2]))
  have sA := ((s3.trans s4).trans s5).trans s6
  refine q a _ (s2.trans sA) ?_
  rw [zR ok ex]
  refine .mk (t := xs[k].t) (ks := t2) (as := as) ai (sA _ _ r2.tags) (s6 _ _ (s5 _ _ ai)) (by rw [List.length_map]; exact h1') fun i b z hb hz => ?_
  rw [List.getElem?_map] at hz
  cases em : (bz xs k)[i]? with
  | none => rw [em] at hz; cases hz
  | some m =>
   rw [em] at hz
   cases hz
   exact (h3' i b m hb em).same sA
theorem BL (T : Txt K mg A) : ∀ n, FnOk P w K mg base CX0 n A.qm A.pZ kL (BR n)
 | 0 => ⟨fun vs H Q E h => by obtain ⟨_, xs, _, k, _, _, _, h1, h2, _⟩ := h; omega, fun _ _ _ _ _ _ vs Q E _ _ _ _ h => by obtain ⟨_, xs, _, k, _, _, _, h1, h2, _⟩ := h; omega⟩
 | n + 1 => Dp T n (BL T n)
end
noncomputable def od (xs : List Lr) : Nat → Nat → List Nat
 | 0, _ => []
 | n + 1, k => k :: ((bz xs k).map (od xs n)).flatten
noncomputable def JE (xs : List Lr) (k : Nat) : List Nat := od xs (xs.length - k) k
theorem AM (xs : List Lr) (k : Nat) : (bz xs k).Pairwise (· < ·) := List.Pairwise.filter _ List.pairwise_lt_range
theorem aP {c : Bool} {A B : Prop} (h : c = false) (b : B) : if c = true then A else B := by subst h; exact bH b
theorem aH {c : Bool} {A B : Prop} (h : c = true) (a : A) : if c = true then A else B := by subst h; exact bd a
inductive F2 {α β : Type} (R : α → β → Prop) : List α → List β → Prop where
 | nil : F2 R [] []
 | cons {a : α} {b : β} {l : List α} {m : List β} (h : R a b) (t : F2 R l m) : F2 R (a :: l) (b :: m)
section
variable {α β : Type} {R S : α → β → Prop}
theorem F2.mono (h : ∀ a b, R a b → S a b) {l : List α} {m : List β} (x : F2 R l m) : F2 S l m := by
 induction x with
 | nil => exact .nil
 | cons r _ ih => exact .cons (h _ _ r) ih
theorem F2.len {l : List α} {m : List β} (x : F2 R l m) : l.length = m.length := by
 induction x with
 | nil => rfl
 | cons _ _ ih => rw [List.length_cons, List.length_cons, ih]
theorem F2.append {l l' : List α} {m m' : List β} (x : F2 R l m) (y : F2 R l' m') : F2 R (l ++ l') (m ++ m') := by
 induction x with
 | nil => exact y
 | cons r _ ih => exact .cons r ih
theorem F2.one {a : α} {b : β} (h : R a b) : F2 R [a] [b] := .cons h .nil
theorem F2.get {l : List α} {m : List β} (x : F2 R l m) : ∀ {i : Nat} {a : α} {b : β}, l[i]? = some a → m[i]? = some b → R a b := by
 induction x with
 | nil => intro i a b h; cases h
 | cons r _ ih =>
  intro i a b h1 h2
  cases i with
  | zero => cases h1; cases h2; exact r
  | succ i => exact ih (by simpa using h1) (by simpa using h2)
theorem F2.of : ∀ {l : List α} {m : List β}, l.length = m.length → (∀ (i : Nat) (a : α) (b : β), l[i]? = some a → m[i]? = some b → R a b) → F2 R l m
 | [], [], _, _ => .nil
 | [], _ :: _, h, _ => by cases h
 | _ :: _, [], h, _ => by cases h
 | a :: l, b :: m, h, k => .cons (k 0 a b rfl rfl) (F2.of (by simpa using h) fun i x y h1 h2 => k (i + 1) x y (by simpa using h1) (by simpa using h2))
theorem F2.last {l : List α} {m : List β} {b : β} (x : F2 R l (m ++ [b])) : ∃ l' a, l = l' ++ [a] ∧ F2 R l' m ∧ R a b := by
 induction m generalizing l with
 | nil =>
  cases x with
  | cons r t => cases t; exact ⟨[], _, rfl, .nil, r⟩
 | cons c m ih =>
  cases x with
  | cons r t =>
   obtain ⟨l', a, rfl, t', r'⟩ := ih t
   exact ⟨_ :: l', a, rfl, .cons r t', r'⟩
end
noncomputable abbrev Fg (xs : List Lr) (H : Hp) (as : List Addr) (js : List Nat) : Prop := F2 (fun a j => IsBx H a (rE xs j)) as js
theorem IsBx.row {c : Int} {xs : List Lr} (ok : RwsOk c xs) {H : Hp} {a : Addr} {k : Nat} {x : Lr} (hx : xs[k]? = some x) (h : IsBx H a (rE xs k)) : ∃ (t ks : Addr) (as : List Addr), H a = some (.tup [.str x.r.kind, .str x.r.name, .ref t, x.r.more.v, .ref ks]) ∧ H t = some (.tup (x.r.tags.map V.str)) ∧ H ks = some (.tup (as.map V.ref)) ∧ Fg xs H as (bz xs k) := by
 rw [zR ok hx] at h
 cases h with
 | @mk _ t ks _ _ _ _ _ as h1 h2 h3 h4 h5 =>
  refine ⟨t, ks, as, h1, h2, h3, F2.of (by rw [h4, List.length_map]) fun i b j hb hj => h5 i b _ hb ?_⟩
  rw [List.getElem?_map, hj]; rfl
noncomputable def anc (xs : List Lr) : Nat → Nat → List Nat
 | 0, _ => []
 | n + 1, k => match xs[k]? with
  | some x => (if x.r.about < 0 then [] else anc xs n x.r.about.toNat) ++ [k]
  | none => []
theorem wU {c : Int} {xs : List Lr} (h : RwsOk c xs) : ∀ (n m k : Nat), k < n → n ≤ m → k < xs.length → anc xs m k = anc xs n k
 | 0, _, k, h1, _, _ => by omega
 | n + 1, 0, _, _, h2, _ => by omega
 | n + 1, m + 1, k, h1, h2, h3 => by
  have ex : xs[k]? = some xs[k] := List.getElem?_eq_getElem h3
  unfold anc
  rw [ex]
  dsimp only
  rcases (h.row k _ ex).about with ⟨_, e, _⟩ | ⟨j, y, hj, hy, e, _⟩
  ·rw [e, if_pos (by decide), if_pos (by decide)]
  ·rw [e, if_neg (by omega), if_neg (by omega), Int.toNat_natCast, wU h n m j (by omega) (by omega) (by omega)]
noncomputable def wm (xs : List Lr) (k : Nat) : List Nat := anc xs (k + 1) k
theorem ou {c : Int} {xs : List Lr} (h : RwsOk c xs) {j k : Nat} (hk : k ∈ bz xs j) : wm xs k = wm xs j ++ [k] := by
 obtain ⟨x, hx, e⟩ := gK.mp hk
 obtain ⟨h1, h2⟩ := cq h hk
 unfold wm
 rw [show anc xs (k + 1) k = _ from by rw [anc, hx]]
 dsimp only
 rw [e, if_neg (by omega), Int.toNat_natCast, wU h (j + 1) k j (by omega) (by omega) (by omega)]
noncomputable def jq (xs : List Lr) (js : List Nat) : Nat := ((js.map (JE xs)).flatten).length
noncomputable def Lk (H : Hp) : Nat → V → V → Prop
 | 0, _, _ => False
 | n + 1, u, v => (u = v ∧ dR u = true ∧ ∀ x, u ≠ .bl x) ∨ ∃ a b xs ys, u = .ref a ∧ v = .ref b ∧ ((H a = some (.tup xs) ∧ H b = some (.tup ys)) ∨ (H a = some (.lst xs) ∧ H b = some (.lst ys))) ∧ xs.length ≤ 10000 ∧ F2 (Lk H n) xs ys
theorem Lk.flat {H : Hp} {n : Nat} {v : V} (h : dR v = true) (b : ∀ x, v ≠ .bl x) : Lk H (n + 1) v v := .inl ⟨rfl, h, b⟩
theorem Lk.tup {H : Hp} {n : Nat} {a b : Addr} {xs ys : List V} (ha : H a = some (.tup xs)) (hb : H b = some (.tup ys)) (l : xs.length ≤ 10000) (k : F2 (Lk H n) xs ys) : Lk H (n + 1) (.ref a) (.ref b) := .inr ⟨a, b, xs, ys, rfl, rfl, .inl ⟨ha, hb⟩, l, k⟩
theorem Lk.same {H H' : Hp} (s : aK H H') : ∀ {n : Nat} {u v : V}, Lk H n u v → Lk H' n u v
 | 0, _, _, h => h.elim
 | n + 1, _, _, h => h.imp id fun ⟨a, b, xs, ys, e1, e2, e3, l, k⟩ => ⟨a, b, xs, ys, e1, e2, e3.imp (fun z => ⟨s _ _ z.1, s _ _ z.2⟩) (fun z => ⟨s _ _ z.1, s _ _ z.2⟩), l, k.mono fun _ _ x => Lk.same s x⟩
theorem Lk.strs {H : Hp} {n : Nat} : ∀ (l : List Str), F2 (Lk H (n + 1)) (l.map V.str) (l.map V.str)
 | [] => .nil
 | _ :: l => .cons (Lk.flat rfl (fun _ e => by cases e)) (Lk.strs l)
theorem yT (xs : List Lr) (k : Nat) : (bz xs k).length ≤ xs.length := by
 unfold bz
 have := List.length_filter_le (fun j => match xs[j]? with | some x => x.r.about == (k : Int) | none => false) (List.range xs.length)
 rw [List.length_range] at this
 exact this
theorem yk (a b : Str) : (a ++ b).cps.toList = a.cps.toList ++ b.cps.toList := Array.toList_append
theorem Ec (c : Int) (k : Nat) : (nm c k).cps.toList = (List.replicate (nmP c).toNat mS.cps.toList).flatten ++ sgA.cps.toList.getD (nmJ c k) 0 :: (List.replicate (nmN c - 1 - nmP c).toNat mS.cps.toList).flatten := by
 unfold nm
 rw [yk, yk]
 unfold ki
 simp
theorem DU : mS.cps.toList = [109] := by decide +kernel
theorem rS (c : Int) (k : Nat) : (nm c k).cps.toList = List.replicate (nmP c).toNat 109 ++ sgA.cps.toList.getD (nmJ c k) 0 :: List.replicate (nmN c - 1 - nmP c).toNat 109 := by
 rw [Ec, DU]
 simp
theorem FR : ∀ p q : Fin 36, sgA.cps.toList.getD p.val 0 = sgA.cps.toList.getD q.val 0 → p = q := by decide +kernel
theorem Dv {c : Int} {i j : Nat} (hi : i < 24) (hj : j < 24) (e : nm c i = nm c j) : i = j := by
 have e2 : (nm c i).cps.toList = (nm c j).cps.toList := by rw [e]
 rw [rS, rS] at e2
 have e3 := List.append_cancel_left e2
 injection e3 with e4 _
 obtain ⟨a1, a2⟩ := vi c i
 obtain ⟨b1, b2⟩ := vi c j
 have e5 := congrArg Fin.val (FR ⟨_, a2⟩ ⟨_, b2⟩ e4)
 dsimp only at e5
 have e6 : (c / 64 + i) % nmM c = (c / 64 + j) % nmM c := by rw [a1, b1, e5]
 unfold nmM at e6
 split at e6 <;> omega
theorem yU (c : Int) (k : Nat) : (nm c k).length = (nmN c).toNat := by
 have e : (nm c k).length = (nm c k).cps.toList.length := (Array.length_toList).symm
 rw [e, rS, List.length_append, List.length_replicate, List.length_cons, List.length_replicate]
 have h1 := su c
 have h2 := zF c
 omega
inductive Tr where
 | non : Tr
 | bl (b : Bool) : Tr
 | int (i : Int) : Tr
 | str (x : Str) : Tr
 | tup (l : List Tr) : Tr
 | lst (l : List Tr) : Tr
 | dic : Tr
inductive TrAt (H : Hp) : Tr → V → Prop where
 | non : TrAt H .non .non
 | bl (b : Bool) : TrAt H (.bl b) (.bl b)
 | int (i : Int) : TrAt H (.int i) (.int i)
 | str (x : Str) (h : x.length ≤ 100000) : TrAt H (.str x) (.str x)
 | tup {a : Addr} {vs : List V} {l : List Tr} (e : H a = some (.tup vs)) (n : vs.length = l.length) (k : ∀ (i : Nat) (v : V) (t : Tr), vs[i]? = some v → l[i]? = some t → TrAt H t v) : TrAt H (.tup l) (.ref a)
 | lst {a : Addr} {vs : List V} {l : List Tr} (e : H a = some (.lst vs)) (n : vs.length = l.length) (k : ∀ (i : Nat) (v : V) (t : Tr), vs[i]? = some v → l[i]? = some t → TrAt H t v) : TrAt H (.lst l) (.ref a)
 | dic {a : Addr} (e : H a = some (.dK [])) : TrAt H .dic (.ref a)
theorem TrAt.same {H H' : Hp} (s : aK H H') {t : Tr} {v : V} (h : TrAt H t v) : TrAt H' t v := by
 induction h with
 | non => exact .non
 | bl b => exact .bl b
 | int i => exact .int i
 | str x h => exact .str x h
 | tup e n _ ih => exact .tup (s _ _ e) n ih
 | lst e n _ ih => exact .lst (s _ _ e) n ih
 | dic e => exact .dic (s _ _ e)
noncomputable abbrev bL (H : Hp) (l : List Tr) (vs : List V) : Prop := F2 (TrAt H) l vs
theorem bL.same {H H' : Hp} (s : aK H H') {l : List Tr} {vs : List V} (h : bL H l vs) : bL H' l vs := h.mono fun _ _ x => x.same s
theorem TrAt.tup' {H : Hp} {a : Addr} {vs : List V} {l : List Tr} (e : H a = some (.tup vs)) (k : bL H l vs) : TrAt H (.tup l) (.ref a) := .tup e k.len.symm fun _ _ _ h1 h2 => k.get h2 h1
theorem TrAt.lst' {H : Hp} {a : Addr} {vs : List V} {l : List Tr} (e : H a = some (.lst vs)) (k : bL H l vs) : TrAt H (.lst l) (.ref a) := .lst e k.len.symm fun _ _ _ h1 h2 => k.get h2 h1
theorem TrAt.tupE {H : Hp} {v : V} {l : List Tr} (h : TrAt H (.tup l) v) : ∃ a vs, v = .ref a ∧ H a = some (.tup vs) ∧ bL H l vs := by
 cases h with
 | tup e n k => exact ⟨_, _, rfl, e, F2.of n.symm fun i t v h1 h2 => k i v t h2 h1⟩
noncomputable def tyT : Tr → String
 | .non => "NoneType"
 | .bl _ => "bool"
 | .int _ => "int"
 | .str _ => "str"
 | .tup _ => "tuple"
 | .lst _ => "list"
 | .dic => "dict"
theorem TrAt.is {K : PySem.W.Frag} {H : Hp} {t : Tr} {v : V} (h : TrAt H t v) : Is K H v (tyT t) := by
 cases h with
 | non => exact .non
 | bl b => exact .bl b
 | int i => exact .int i
 | str x _ => exact .str x
 | tup e _ _ => exact .tup e
 | lst e _ _ => exact .lst e
 | dic e => exact .dK e
noncomputable def bT (z : Str) (c : Nat) : Bool := !(Builtin.Str.occurrences z ⟨#[c]⟩ 0 z.length 1).isEmpty
noncomputable def cA (x z : Str) : Bool := x.cps.toList.all (bT z)
noncomputable def ia : Str := "abcdefghijklmnopqrstuvwxyz"
noncomputable def fb : Str := "abcdefghijklmnopqrstuvwxyz0123456789"
noncomputable def gS : Str := "ABCDEFGHIJKLMNOPQRSTUVWXYZabcdefghijklmnopqrstuvwxyz0123456789"
noncomputable abbrev bl1 : Str := WM.bl
noncomputable def Jp : Tr → Bool
 | .int i => decide (0 ≤ i)
 | _ => false
noncomputable def ju (t : Tr) (a b : Int) : Bool := match t with
 | .int i => decide (0 ≤ i) && (decide (a ≤ i) && decide (i ≤ b))
 | _ => false
noncomputable def cV (x : Str) : Bool := (decide (1 ≤ (x.length : Int)) && decide ((x.length : Int) ≤ 8)) && (bT ia (x.cps.toList.getD 0 0) && cA x fb)
noncomputable def cX : Tr → Bool
 | .str x => cV x
 | _ => false
def dm : List Str := ["blank", "words", "row", "flow", "column", "grid", "pile"]
def br : List Str := ["blank", "words"]
noncomputable def jR : Tr → Bool
 | .str x => dm.any fun y => y == x
 | _ => false
noncomputable def dt : Tr → Str
 | .str x => x
 | _ => Str.empty
noncomputable def gp : Tr → Bool
 | .tup l => decide (l.length ≤ 4) && (l.all cX && decide (dQ (l.map dt) = l.length))
 | _ => false
noncomputable def df (x : Str) : Bool := (decide (1 ≤ (x.length : Int)) && decide ((x.length : Int) ≤ 20)) && cA x gS
noncomputable def jt (x : Str) : Bool := decide ((x.length : Int) ≤ 80) && (decide (x = Str.empty) || (Txt.split x bl1).all df)
noncomputable def sj : Tr → Bool
 | .str x => jt x
 | _ => false
noncomputable def IM : Tr → Bool
 | .non => true
 | _ => false
noncomputable def dS (k : Str) (m : Tr) : Bool := if k = "words" then sj m else if k = "grid" then ju m 1 9 else IM m
noncomputable def gM (k : Str) : Tr → Bool
 | .tup l => decide (l.length ≤ if (br.any fun y => y == k) = true then 0 else 12)
 | _ => false
noncomputable def aT : Tr → Bool
 | .tup [k, n, tg, m, ks] => jR k && cX n && gp tg && (dS (dt k) m && gM (dt k) ks)
 | _ => false
noncomputable def ah : Tr → Str
 | .tup [_, n, _, _, _] => dt n
 | _ => Str.empty
noncomputable def aj : Tr → List Tr
 | .tup [_, _, _, _, .tup l] => l
 | _ => []
noncomputable def jQ : Nat → List (Tr × Nat) → List Str → Bool
 | 0, _, _ => false
 | _ + 1, [], _ => true
 | n + 1, (t, d) :: st, ns => if aT t && decide (d ≤ 8) && !ns.contains (ah t) && decide (ns.length < 40) then jQ n ((aj t).reverse.map (fun k => (k, d + 1)) ++ st) (ah t :: ns) else false
noncomputable def bN (t : Tr) : Bool := jQ 42 [(t, 1)] []
theorem kj : bootBuiltins "str" = some (.type "str") := by decide +kernel
theorem Cf : bootBuiltins "set" = some (.type "set") := by decide +kernel
theorem Ac : ∀ (l : List Str), l.length ≤ (Str.join bl1 l).length + 1
 | [] => by simp
 | [x] => by simp
 | x :: y :: r => by
  have h := Ac (y :: r)
  have e : Str.join bl1 (x :: y :: r) = x ++ bl1 ++ Str.join bl1 (y :: r) := rfl
  rw [e, Str.length_append, Str.length_append]
  have b1 : bl1.length = 1 := by decide +kernel
  rw [List.length_cons] at h
  rw [List.length_cons, List.length_cons]
  omega
theorem tV (x : Str) : (Txt.split x bl1).length ≤ x.length + 1 := by
 have h := Ac (Txt.split x bl1)
 rw [StrLaws.join_split] at h
 exact h
section
variable {P : Program} {w : World} {K : PySem.W.Frag} {mg : Str → Option Value} {base : Heap} {A : Adr}
noncomputable def HD : Sp := fun vs H Q _ => ∃ (v : V) (t : Tr), vs = [v] ∧ TrAt H t v ∧ Q (.bl (Jp t)) H
seal PE PS PSs L2.PA PT PI PG in
theorem vN (T : Txt K mg A) : FnOk P w K mg base CX0 1 A.pF A.pH hZ HD := by
 refine T.ir.F.ok vW (fun vs H Q E h => ?_) (fun cdv B outer s H vs Q E hr h => ?_)
 ·obtain ⟨v, t, rfl, _⟩ := h; rfl
 obtain ⟨v, t, rfl, h, q⟩ := h
 refine ⟨_, av (aO (cZ (ax bG rfl T.ay aL (aa (pv 0) (aa (bK rfl T.nF xH (v := .ty "int") rfl) ae))) (cZ (zM (ax bG rfl T.ay aL (aa (pv 0) (aa (bK rfl T.gP lW (v := .ty "bool") rfl) ae)))) (de (bO Fk (pv 0) af (aG _)))))), ?_⟩
 have I := h.is (K := K)
 refine ⟨_, rfl, v, "int", _, _, rfl, I.ty, I.kit T.kit "int", _, rfl, ?_⟩
 cases h with
 | int i => exact bd ⟨_, rfl, _, "bool", _, _, rfl, I.ty, I.kit T.kit "bool", _, rfl, _, rfl, bd ⟨_, rfl, _, _, rfl, rfl, q⟩⟩
 | bl b => exact bd ⟨_, rfl, _, "bool", _, _, rfl, I.ty, I.kit T.kit "bool", _, rfl, _, rfl, bH q⟩
 | non => exact bH q
 | str x _ => exact bH q
 | tup e n k => exact bH q
 | lst e n k => exact bH q
 | dic e => exact bH q
noncomputable def Cc : Sp := fun vs H Q _ => ∃ (v : V) (t : Tr) (a b : Int), vs = [v, .int a, .int b] ∧ TrAt H t v ∧ Q (.bl (ju t a b)) H
seal PE PS PSs L2.PA PT PI PG in
theorem mL (T : Txt K mg A) : FnOk P w K mg base CX0 2 A.pi A.pE ip Cc := by
 have ye := vN (P := P) (w := w) (base := base) T
 refine T.dA.F.ok uR (fun vs H Q E h => ?_) (fun cdv B outer s H vs Q E hr h => ?_)
 ·obtain ⟨v, t, a, b, rfl, _⟩ := h; rfl
 obtain ⟨v, t, a, b, rfl, h, q⟩ := h
 refine ⟨_, av (aO (cZ (az ye hr rfl T.ir.m T.ir.F.kp T.ir.b .nil bg (aa (pv 0) ae)) (de (ny gn gn (pv 1) (pv 0) (pv 2))))), ?_⟩
 refine ⟨_, rfl, v, t, rfl, h, _, rfl, ?_⟩
 cases h with
 | int i =>
  by_cases h0 : 0 ≤ i
  ·refine aH (decide_eq_true h0) ⟨_, rfl, _, rfl, _, _, rfl, rfl, _, rfl, ?_⟩
   have e : ju (.int i) a b = (decide (a ≤ i) && decide (i ≤ b)) := by
    show (decide (0 ≤ i) && (decide (a ≤ i) && decide (i ≤ b))) = _
    rw [decide_eq_true h0, Bool.true_and]
   rw [e] at q
   by_cases h1 : a ≤ i
   ·refine aH (decide_eq_true h1) ⟨_, rfl, _, _, rfl, rfl, ?_⟩
    rw [decide_eq_true h1, Bool.true_and] at q
    exact q
   ·refine aP (decide_eq_false h1) ?_
    rw [decide_eq_false h1, Bool.false_and] at q
    exact q
  ·refine aP (decide_eq_false h0) ?_
   have e : ju (.int i) a b = false := by
    show (decide (0 ≤ i) && (decide (a ≤ i) && decide (i ≤ b))) = _
    rw [decide_eq_false h0, Bool.false_and]
   rw [e] at q
   exact q
 | bl b => exact bH q
 | non => exact bH q
 | str x _ => exact bH q
 | tup e n k => exact bH q
 | lst e n k => exact bH q
 | dic e => exact bH q
noncomputable abbrev sJ : Scope := (match bC fJ with | (.Return (some (.Call _ ((.ListComp _ _ sc _) :: _) _ _)) _) :: _ => sc | _ => ap fJ)
theorem qG : Blk (ap fJ) lU sJ ["sign"] [1] := ⟨rfl, by decide +kernel, by decide +kernel, by decide +kernel, by decide +kernel⟩
theorem sU : (cR lU ["sign"] [1]).Nodup := by decide +kernel
noncomputable def Hq : Sp := fun vs H Q _ => ∃ x z : Str, vs = [.str x, .str z] ∧ x.length ≤ 100000 ∧ ∀ H', aK H H' → Q (.bl (cA x z)) H'
seal PE PS PSs L2.PA PT PI PG in
theorem pj (T : Txt K mg A) : FnOk P w K mg base CX0 1 A.sF A.rA jG Hq := by
 refine T.eI.F.ok yn (fun vs H Q E h => ?_) (fun cdv B outer s H vs Q E hr h => ?_)
 ·obtain ⟨x, z, rfl, _⟩ := h; rfl
 obtain ⟨x, z, rfl, hx, q⟩ := h
 refine ⟨_, av (aO (ax (nK rfl) rfl T.pw Aq (aa (dZ qG rfl (vo (pv 0)) (fun _ _ _ _ _ => aS (i := 0) sU rfl (.inl rfl)) (fun _ _ _ _ _ => fj) (fun _ _ _ _ _ => bO oS (pv 0) (pv 1) rfl)) ae))), ?_⟩
 refine ⟨_, rfl, x, rfl, EL (fun c => V.bl (bT z c)) (Nat.lt_of_le_of_lt (show x.cps.size ≤ 100000 from hx) (by decide)) (fun c Q hQ => ⟨_, rfl, _, rfl, _, _, rfl, rfl, hQ⟩) fun l hl => ?_⟩
 refine ⟨l, x.cps.toList.map (bT z), rfl, .of (by rw [ai, List.map_map]; rfl), ?_⟩
 have e : (x.cps.toList.map (bT z)).all id = cA x z := by unfold cA; rw [List.all_map]; rfl
 rw [e]
 exact q _ (ao hl _)
noncomputable def CU : Sp := fun vs H Q _ => ∃ (v : V) (t : Tr), vs = [v] ∧ TrAt H t v ∧ ∀ H', aK H H' → Q (.bl (cX t)) H'
seal PE PS PSs L2.PA PT PI PG in
theorem qX (T : Txt K mg A) : FnOk P w K mg base CX0 2 A.tZ A.uy li CU := by
 have me := pj (P := P) (w := w) (base := base) T
 obtain ⟨t1, mh⟩ := T.cO
 obtain ⟨t2, zu⟩ := T.iM
 obtain ⟨t3, sQ⟩ := T.ff
 refine T.fP.F.ok yE (fun vs H Q E h => ?_) (fun cdv B outer s H vs Q E hr h => ?_)
 ·obtain ⟨v, t, rfl, _⟩ := h; rfl
 obtain ⟨v, t, rfl, h, q⟩ := h
 refine ⟨_, @ag _ _ _ _ _ (bF (PW.pt (dL (cz (cg (ax bG rfl T.ay aL (aa (pv 0) (aa (bK rfl T.gR kj (v := .ty "str") rfl) ae))))) (du (cz (rQ gn gn af (ax dJ rfl T.bR ca (aa (pv 0) ae)) (bU rfl mh (v := .int 8) ⟨_, rfl⟩)))))) (av (aO gq)) aR)
  (av (aO (cZ (bO oS (aI qT (pv 0) af (fun _ _ => rfl)) (bU rfl zu (v := .str "abcdefghijklmnopqrstuvwxyz") ⟨_, rfl⟩) rfl) (de (az me hr rfl T.eI.m T.eI.F.kp T.eI.b .nil bg (aa (pv 0) (aa (bU rfl sQ (v := .str "abcdefghijklmnopqrstuvwxyz0123456789") ⟨_, rfl⟩) ae))))))), ?_⟩
 have I := h.is (K := K)
 refine ⟨_, rfl, v, "str", _, _, rfl, I.ty, I.kit T.kit "str", _, rfl, ?_⟩
 cases h with
 | str x hx =>
  have sz : x.length ≤ sizeLine := rT (by omega)
  refine bH ⟨_, rfl, x, rfl, sz, _, _, rfl, rfl, _, rfl, ?_⟩
  by_cases h1 : 1 ≤ (x.length : Int)
  ·refine aH (decide_eq_true h1) ⟨_, _, rfl, rfl, _, rfl, ?_⟩
   by_cases h8 : (x.length : Int) ≤ 8
   ·refine aP (by show (!decide ((x.length : Int) ≤ 8)) = false; rw [decide_eq_true h8]; rfl) ?_
    have e : cX (.str x) = (bT ia (x.cps.toList.getD 0 0) && cA x fb) := by
     show ((decide (1 ≤ (x.length : Int)) && decide ((x.length : Int) ≤ 8)) && (bT ia (x.cps.toList.getD 0 0) && cA x fb)) = _
     rw [decide_eq_true h1, decide_eq_true h8, Bool.true_and, Bool.true_and]
    rw [e] at q
    have hl : 0 < x.cps.toList.length := by rw [Array.length_toList]; show 0 < x.length; omega
    refine ⟨_, rfl, x, _, x.cps.toList.getD 0 0, rfl, rfl, sz, ?_, _, _, rfl, rfl, _, rfl, ?_⟩
    ·refine bY (j := 0) ?_
     rw [List.getD_eq_getElem?_getD, List.getElem?_eq_getElem hl]; rfl
    ·show if bT ia (x.cps.toList.getD 0 0) = true then _ else _
     cases hs : bT ia (x.cps.toList.getD 0 0) with
     | true =>
      rw [hs, Bool.true_and] at q
      exact bd ⟨_, rfl, x, fb, rfl, hx, q⟩
     | false =>
      rw [hs, Bool.false_and] at q
      exact bH (q _ (.refl _))
   ·refine aH (by show (!decide ((x.length : Int) ≤ 8)) = true; rw [decide_eq_false h8]; rfl) ?_
    have e : cX (.str x) = false := by
     show ((decide (1 ≤ (x.length : Int)) && decide ((x.length : Int) ≤ 8)) && (bT ia (x.cps.toList.getD 0 0) && cA x fb)) = _
     rw [decide_eq_false h8, Bool.and_false, Bool.false_and]
    rw [e] at q
    exact q _ (.refl _)
  ·refine aP (decide_eq_false h1) ⟨_, rfl, bd ?_⟩
   have e : cX (.str x) = false := by
    show ((decide (1 ≤ (x.length : Int)) && decide ((x.length : Int) ≤ 8)) && (bT ia (x.cps.toList.getD 0 0) && cA x fb)) = _
    rw [decide_eq_false h1, Bool.false_and, Bool.false_and]
   rw [e] at q
   exact q _ (.refl _)
 | int i => exact bd (bd (q _ (.refl _)))
 | bl b => exact bd (bd (q _ (.refl _)))
 | non => exact bd (bd (q _ (.refl _)))
 | tup e n k => exact bd (bd (q _ (.refl _)))
 | lst e n k => exact bd (bd (q _ (.refl _)))
 | dic e => exact bd (bd (q _ (.refl _)))
end
theorem nz (x : Str) : ∀ ss : List Str, inV (.str x) (ss.map V.str) = ss.any fun y => y == x
 | [] => rfl
 | s :: ss => by
  show (eqV (.str s) (.str x) || inV (.str x) (ss.map V.str)) = _
  rw [nz x ss, List.any_cons]; rfl
theorem eU : ∀ ss : List Str, (ss.map V.str).all dR = true
 | [] => rfl
 | _ :: ss => by rw [List.map_cons, List.all_cons, eU ss]; rfl
section
variable {P : Program} {w : World} {K : PySem.W.Frag} {mg : Str → Option Value} {base : Heap} {A : Adr}
noncomputable def CC : Sp := fun vs H Q _ => ∃ (v : V) (t : Tr), vs = [v] ∧ TrAt H t v ∧ Q (.bl (jR t)) H
seal PE PS PSs L2.PA PT PI PG in
theorem yJ (T : Txt K mg A) : FnOk P w K mg base CX0 1 A.tO A.uE lH CC := by
 obtain ⟨Ap, CG, hq⟩ := T.nZ
 refine T.lA.F.ok yV (fun vs H Q E h => ?_) (fun cdv B outer s H vs Q E hr h => ?_)
 ·obtain ⟨v, t, rfl, _⟩ := h; rfl
 obtain ⟨v, t, rfl, h, q⟩ := h
 refine ⟨_, av (aO (cZ (ax bG rfl T.ay aL (aa (pv 0) (aa (bK rfl T.gR kj (v := .ty "str") rfl) ae))) (de (bO lB (pv 0) (bU rfl CG (v := .ref Ap) rfl) rfl)))), ?_⟩
 have I := h.is (K := K)
 refine ⟨_, rfl, v, "str", _, _, rfl, I.ty, I.kit T.kit "str", _, rfl, ?_⟩
 cases h with
 | str x _ =>
  refine bd ⟨_, rfl, Ap, _, rfl, .inr (rb hq H), rfl, eU _, ?_⟩
  rw [if_neg (by decide), nz]
  exact q
 | int i => exact bH q
 | bl b => exact bH q
 | non => exact bH q
 | tup e n k => exact bH q
 | lst e n k => exact bH q
 | dic e => exact bH q
end
section
variable {P : Program} {w : World} {K : PySem.W.Frag} {mg : Str → Option Value} {base : Heap} {A : Adr}
theorem Ab {H : Hp} : ∀ {l : List Tr} {vs : List V}, bL H l vs → l.all cX = true → vs = (l.map dt).map V.str
 | [], _, .nil, _ => rfl
 | t :: l, _, .cons h k, ha => by
  rw [List.all_cons, Bool.and_eq_true] at ha
  cases h with
  | str x _ => rw [List.map_cons, List.map_cons, ← Ab k ha.2]; rfl
  | int i => cases ha.1
  | bl b => cases ha.1
  | non => cases ha.1
  | tup e n k => cases ha.1
  | lst e n k => cases ha.1
  | dic e => cases ha.1
noncomputable abbrev tm : Scope := (match bC fE with | _ :: (.Return (some (.BoolOp _ ((.Call _ ((.ListComp _ _ sc _) :: _) _ _) :: _) _)) _) :: _ => sc | _ => ap fE)
theorem rk : Blk (ap fE) ma tm ["tag"] [] := ⟨rfl, by decide +kernel, by decide +kernel, by decide +kernel, by decide +kernel⟩
theorem sL : (cR ma ["tag"] []).Nodup := by decide +kernel
noncomputable def Bo : Sp := fun vs H Q _ => ∃ (v : V) (t : Tr), vs = [v] ∧ TrAt H t v ∧ ∀ H', aK H H' → Q (.bl (gp t)) H'
seal PE PS PSs L2.PA PT PI PG in
theorem xr (T : Txt K mg A) : FnOk P w K mg base CX0 3 A.rz A.rn jr Bo := by
 have oH := qX (P := P) (w := w) (base := base) T
 obtain ⟨t1, vz⟩ := T.fY
 refine T.jD.F.ok xT (fun vs H Q E h => ?_) (fun cdv B outer s H vs Q E hr h => ?_)
 ·obtain ⟨v, t, rfl, _⟩ := h; rfl
 obtain ⟨v, t, rfl, h, q⟩ := h
 refine ⟨_, @ag _ _ _ _ _ (bF (PW.pt (dL (cz (cg (ax bG rfl T.ay aL (aa (pv 0) (aa (bK rfl T.cy db (v := .ty "tuple") rfl) ae))))) (du (aE iS (ax aN rfl T.bR ca (aa (pv 0) ae)) (bU rfl vz (v := .int 4) ⟨_, rfl⟩) (aG _))))) (av (aO gq)) aR)
  (av (aO (cZ (ax (nK rfl) rfl T.pw Aq (aa (dZ rk rfl (rK (pv 0)) (fun _ _ _ _ _ => aS (i := 0) sL rfl (.inl rfl)) (fun _ _ _ _ _ => fj) (fun _ _ _ _ _ => az oH hr rfl T.fP.m T.fP.F.kp T.fP.b .nil bg (aa (pv 0) ae))) ae)) (de (bO bW (uk rfl T.bR ca rfl T.rZ Cf (pv 0)) (ax aN rfl T.bR ca (aa (pv 0) ae)) (aG _)))))), ?_⟩
 have I := h.is (K := K)
 refine ⟨_, rfl, v, "tuple", _, _, rfl, I.ty, I.kit T.kit "tuple", _, rfl, ?_⟩
 cases t with
 | tup l =>
  obtain ⟨a, vs, rfl, ea, k⟩ := h.tupE
  have lk := k.len
  refine bH ⟨_, rfl, a, vs, rfl, .inr (.of ea), _, _, rfl, rfl, _, rfl, ?_⟩
  by_cases h4 : l.length ≤ 4
  ·refine aP (decide_eq_false (by omega)) ?_
   have eT : gp (.tup l) = (l.all cX && decide (dQ (l.map dt) = l.length)) := by
    show (decide (l.length ≤ 4) && _) = _
    rw [decide_eq_true h4, Bool.true_and]
   rw [eT] at q
   refine ⟨_, rfl, a, rfl, .inr ⟨⟨_, .of ea⟩, pW (xs := vs) (fun i acc H' => acc = ((l.take i).map fun t => V.bl (cX t)) ∧ aK H H') ⟨rfl, .refl _⟩ (fun i acc H' z => .of (z.2 _ _ ea)) (fun i acc H' z => ?_) (fun i x acc H' N kk hx z => ?_) fun acc H' z => ?_⟩⟩
   ·rw [z.1, List.length_map, List.length_take]; exact bc (by omega)
   ·obtain ⟨rfl, s1⟩ := z
    dsimp only [oP]
    rw [if_pos rfl]
    have hi : i < l.length := by have := (List.getElem?_eq_some_iff.mp hx).1; omega
    have et : l[i]? = some l[i] := List.getElem?_eq_getElem hi
    refine ⟨_, rfl, x, l[i], rfl, (k.get et hx).same s1, fun H2 s2 => kk _ _ ⟨?_, s1.trans s2⟩⟩
    rw [List.take_add_one, et, List.map_append]; rfl
   ·obtain ⟨rfl, s1⟩ := z
    rw [← lk, List.take_length]
    intro p hp
    have s2 := s1.trans (ao hp (.lst (l.map fun t => V.bl (cX t))))
    refine ⟨p, l.map cX, rfl, .of (by rw [ai, List.map_map]; rfl), _, rfl, ?_⟩
    have e : (l.map cX).all id = l.all cX := by rw [List.all_map]; rfl
    rw [e]
    cases ha : l.all cX with
    | true =>
     rw [ha, Bool.true_and] at q
     have evs := Ab k ha
     have ea2 := s2 _ _ ea
     refine bd ⟨_, rfl, a, l.map dt, rfl, .of (by rw [← evs]; exact ea2), by rw [List.length_map]; omega, _, rfl, a, vs, rfl, .inr (.of ea2), rfl, ?_⟩
     have e2 : decide (V.int (dQ (l.map dt) : Nat) = V.int (vs.length : Nat)) = decide (dQ (l.map dt) = l.length) := by
      rw [lk]
      by_cases c : dQ (l.map dt) = vs.length
      ·rw [decide_eq_true c, decide_eq_true (by rw [c])]
      ·rw [decide_eq_false c, decide_eq_false]
       intro z
       injection z with z
       exact c (by omega)
     rw [e2]
     exact q _ s2
    | false =>
     rw [ha, Bool.false_and] at q
     exact bH (q _ s2)
  ·refine aH (decide_eq_true (by omega)) ?_
   have eT : gp (.tup l) = false := by
    show (decide (l.length ≤ 4) && _) = _
    rw [decide_eq_false h4, Bool.false_and]
   rw [eT] at q
   exact q _ (.refl _)
 | str x => exact bd (bd (q _ (.refl _)))
 | int i => exact bd (bd (q _ (.refl _)))
 | bl b => exact bd (bd (q _ (.refl _)))
 | non => exact bd (bd (q _ (.refl _)))
 | lst l => exact bd (bd (q _ (.refl _)))
 | dic => exact bd (bd (q _ (.refl _)))
end
section
variable {P : Program} {w : World} {K : PySem.W.Frag} {mg : Str → Option Value} {base : Heap} {A : Adr}
noncomputable def Cq : Sp := fun vs H Q _ => ∃ x : Str, vs = [.str x] ∧ x.length ≤ 100000 ∧ ∀ H', aK H H' → Q (.bl (df x)) H'
seal PE PS PSs L2.PA PT PI PG in
theorem yH (T : Txt K mg A) : FnOk P w K mg base CX0 2 A.ul A.tI lG Cq := by
 have me := pj (P := P) (w := w) (base := base) T
 obtain ⟨t1, lX⟩ := T.cN
 obtain ⟨t2, sO⟩ := T.fg
 refine T.kW.F.ok zv (fun vs H Q E h => ?_) (fun cdv B outer s H vs Q E hr h => ?_)
 ·obtain ⟨x, rfl, _⟩ := h; rfl
 obtain ⟨x, rfl, hx, q⟩ := h
 refine ⟨_, av (aO (cZ (ny gn gn af (ax dJ rfl T.bR ca (aa (pv 0) ae)) (bU rfl lX (v := .int 20) ⟨_, rfl⟩)) (de (az me hr rfl T.eI.m T.eI.F.kp T.eI.b .nil bg (aa (pv 0) (aa (bU rfl sO (v := .str "ABCDEFGHIJKLMNOPQRSTUVWXYZabcdefghijklmnopqrstuvwxyz0123456789") ⟨_, rfl⟩) ae)))))), ?_⟩
 have sz : x.length ≤ sizeLine := rT (by omega)
 refine ⟨_, rfl, x, rfl, sz, _, _, rfl, rfl, _, rfl, ?_⟩
 have eW : df x = ((decide (1 ≤ (x.length : Int)) && decide ((x.length : Int) ≤ 20)) && cA x gS) := rfl
 rw [eW] at q
 by_cases h1 : 1 ≤ (x.length : Int)
 ·rw [decide_eq_true h1, Bool.true_and] at q
  refine aH (decide_eq_true h1) ⟨_, _, rfl, rfl, _, rfl, ?_⟩
  by_cases h2 : (x.length : Int) ≤ 20
  ·rw [decide_eq_true h2, Bool.true_and] at q
   exact aH (decide_eq_true h2) ⟨_, rfl, x, gS, rfl, hx, q⟩
  ·rw [decide_eq_false h2, Bool.false_and] at q
   exact aP (decide_eq_false h2) (q _ (.refl _))
 ·rw [decide_eq_false h1, Bool.false_and, Bool.false_and] at q
  exact aP (decide_eq_false h1) ⟨_, rfl, bH (q _ (.refl _))⟩
noncomputable abbrev mE : Scope := (match bC cH with | _ :: (.Return (some (.BoolOp _ (_ :: (.Call _ ((.ListComp _ _ sc _) :: _) _ _) :: _) _)) _) :: _ => sc | _ => ap cH)
theorem lJ : Blk (ap cH) gk mE ["word"] [] := ⟨rfl, by decide +kernel, by decide +kernel, by decide +kernel, by decide +kernel⟩
theorem mf : (cR gk ["word"] []).Nodup := by decide +kernel
noncomputable def DN : Sp := fun vs H Q _ => ∃ (v : V) (t : Tr), vs = [v] ∧ TrAt H t v ∧ ∀ H', aK H H' → Q (.bl (sj t)) H'
theorem uq (x : Str) : ∀ p ∈ Txt.split x bl1, p.length ≤ x.length := by
 have h := StrLaws.join_split x bl1
 have go : ∀ (l : List Str), ∀ p ∈ l, p.length ≤ (Str.join bl1 l).length := by
  intro l
  induction l with
  | nil => intro p hp; cases hp
  | cons y l ih =>
   intro p hp
   cases l with
   | nil => rw [List.mem_singleton.mp hp]; exact Nat.le_refl _
   | cons z r =>
    have e : Str.join bl1 (y :: z :: r) = y ++ bl1 ++ Str.join bl1 (z :: r) := rfl
    rw [e, Str.length_append, Str.length_append]
    rcases List.mem_cons.mp hp with rfl | hp
    ·omega
    ·have := ih p hp; omega
 intro p hp
 have := go _ p hp
 rw [h] at this
 exact this
seal PE PS PSs L2.PA PT PI PG in
theorem oD (T : Txt K mg A) : FnOk P w K mg base CX0 3 A.jM A.jO eG DN := by
 have AT := yH (P := P) (w := w) (base := base) T
 obtain ⟨t1, mw⟩ := T.cQ
 refine T.dX.F.ok oT (fun vs H Q E h => ?_) (fun cdv B outer s H vs Q E hr h => ?_)
 ·obtain ⟨v, t, rfl, _⟩ := h; rfl
 obtain ⟨v, t, rfl, h, q⟩ := h
 refine ⟨_, @ag _ _ _ _ _ (bF (PW.pt (dL (cz (cg (ax bG rfl T.ay aL (aa (pv 0) (aa (bK rfl T.gR kj (v := .ty "str") rfl) ae))))) (du (aE iS (ax dJ rfl T.bR ca (aa (pv 0) ae)) (bU rfl mw (v := .int 80) ⟨_, rfl⟩) (aG _))))) (av (aO gq)) aR)
  (av (aO (zX (bO bW (pv 0) ar (aG _)) (de (ax (nK rfl) rfl T.pw Aq (aa (dZ lJ rfl (rK (gY PySem.F.plainAttrs_str PySem.F.slot_str_split PySem.F.type_str_split Cv (pv 0) (aa ar ae))) (fun _ _ _ _ _ => aS (i := 0) mf rfl (.inl rfl)) (fun _ _ _ _ _ => fj) (fun _ _ _ _ _ => az AT hr rfl T.kW.m T.kW.F.kp T.kW.b .nil bg (aa (pv 0) ae))) ae)))))), ?_⟩
 have I := h.is (K := K)
 refine ⟨_, rfl, v, "str", _, _, rfl, I.ty, I.kit T.kit "str", _, rfl, ?_⟩
 cases h with
 | str x hx =>
  have sz : x.length ≤ sizeLine := rT (by omega)
  have eW : sj (.str x) = (decide ((x.length : Int) ≤ 80) && (decide (x = Str.empty) || (Txt.split x bl1).all df)) := rfl
  rw [eW] at q
  refine bH ⟨_, rfl, x, rfl, sz, _, _, rfl, rfl, _, rfl, ?_⟩
  by_cases h8 : (x.length : Int) ≤ 80
  ·rw [decide_eq_true h8, Bool.true_and] at q
   refine aP (decide_eq_false (by omega)) ⟨_, rfl, rfl, _, rfl, ?_⟩
   by_cases he : x = Str.empty
   ·rw [decide_eq_true he, Bool.true_or] at q
    exact aH (decide_eq_true (by rw [he]; rfl)) (q _ (.refl _))
   ·rw [decide_eq_false he, Bool.false_or] at q
    refine aP (decide_eq_false fun z => he (by injection z)) ?_
    have sl := tV x
    refine ⟨_, rfl, rfl, x, bl1, rfl, rfl, by decide +kernel, by omega, by omega, fun l hl => ?_⟩
    have s0 := ao hl (.lst ((Txt.split x bl1).map V.str))
    have e0 : upd H l (.lst ((Txt.split x bl1).map V.str)) l = some (.lst ((Txt.split x bl1).map V.str)) := ai
    generalize upd H l (.lst ((Txt.split x bl1).map V.str)) = H0 at s0 e0 ⊢
    refine ⟨l, rfl, .inl ⟨⟨_, .of e0⟩, nR (xs := (Txt.split x bl1).map V.str) (fun i acc H' => acc = (((Txt.split x bl1).take i).map fun z => V.bl (df z)) ∧ aK H0 H') ⟨rfl, .refl _⟩ (fun i acc H' z => .of (z.2 _ _ e0)) (fun i acc H' z => ?_) (fun i y acc H' N kk hy z => ?_) fun acc H' z => ?_⟩⟩
    ·rw [z.1, List.length_map, List.length_take]; exact bc (by omega)
    ·obtain ⟨rfl, s1⟩ := z
     dsimp only [oP]
     rw [if_pos rfl]
     rw [List.getElem?_map] at hy
     cases ez : (Txt.split x bl1)[i]? with
     | none => rw [ez] at hy; cases hy
     | some z =>
      rw [ez] at hy
      cases hy
      refine ⟨_, rfl, z, rfl, by have := uq x z (List.mem_of_getElem? ez); omega, fun H2 s2 => kk _ _ ⟨?_, s1.trans s2⟩⟩
      rw [List.take_add_one, ez, List.map_append]; rfl
    ·obtain ⟨rfl, s1⟩ := z
     rw [List.length_map, List.take_length]
     intro p hp
     have s2 := s0.trans (s1.trans (ao hp (.lst ((Txt.split x bl1).map fun z => V.bl (df z)))))
     refine ⟨p, (Txt.split x bl1).map df, rfl, .of (by rw [ai, List.map_map]; rfl), ?_⟩
     have e : ((Txt.split x bl1).map df).all id = (Txt.split x bl1).all df := by rw [List.all_map]; rfl
     rw [e]
     exact q _ s2
  ·rw [decide_eq_false h8, Bool.false_and] at q
   exact aH (decide_eq_true (by omega)) (q _ (.refl _))
 | int i => exact bd (bd (q _ (.refl _)))
 | bl b => exact bd (bd (q _ (.refl _)))
 | non => exact bd (bd (q _ (.refl _)))
 | tup e n k => exact bd (bd (q _ (.refl _)))
 | lst e n k => exact bd (bd (q _ (.refl _)))
 | dic e => exact bd (bd (q _ (.refl _)))
noncomputable def HW : Sp := fun vs H Q _ => ∃ (k : Str) (v : V) (t : Tr), vs = [.str k, v] ∧ TrAt H t v ∧ ∀ H', aK H H' → Q (.bl (dS k t)) H'
seal PE PS PSs L2.PA PT PI PG in
theorem zG (T : Txt K mg A) : FnOk P w K mg base CX0 4 A.tw A.tS kO HW := by
 have pU := oD (P := P) (w := w) (base := base) T
 have jV := (mL (P := P) (w := w) (base := base) T).mono (show 2 ≤ 3 by decide)
 obtain ⟨t1, pR⟩ := T.dw
 refine T.kS.F.ok zD (fun vs H Q E h => ?_) (fun cdv B outer s H vs Q E hr h => ?_)
 ·obtain ⟨k, v, t, rfl, _⟩ := h; rfl
 obtain ⟨k, v, t, rfl, h, q⟩ := h
 refine ⟨_, @ag _ _ _ _ _ (bF (aE bW (pv 0) ar (aG _)) (av (aO (az pU hr rfl T.dX.m T.dX.F.kp T.dX.b .nil bg (aa (pv 1) ae)))) aR)
  (@ag _ _ _ _ _ (bF (aE bW (pv 0) ar (aG _)) (av (aO (az jV hr rfl T.dA.m T.dA.F.kp T.dA.b .nil bg (aa (pv 1) (aa af (aa (bU rfl pR (v := .int 9) ⟨_, rfl⟩) ae)))))) aR)
  (av (aO (bO oE (pv 1) cu (aG _))))), ?_⟩
 unfold dS at q
 refine ⟨_, rfl, rfl, _, rfl, mY (fun c => ?_) (fun c => ?_)⟩
 ·have e : k = "words" := by
   have := of_decide_eq_true c
   injection this
  rw [if_pos e] at q
  exact ⟨_, rfl, v, t, rfl, h, q⟩
 ·have e : ¬ k = "words" := fun e => c (decide_eq_true (by rw [e]))
  rw [if_neg e] at q
  refine ⟨_, rfl, rfl, _, rfl, mY (fun c2 => ?_) (fun c2 => ?_)⟩
  ·have e2 : k = "grid" := by
    have := of_decide_eq_true c2
    injection this
   rw [if_pos e2] at q
   exact ⟨_, rfl, v, t, 1, 9, rfl, h, q _ (.refl _)⟩
  ·have e2 : ¬ k = "grid" := fun e => c2 (decide_eq_true (by rw [e]))
   rw [if_neg e2] at q
   refine ⟨_, rfl, rfl, ?_⟩
   have e3 : decide (v = .non) = IM t := by
    cases h with
    | non => rfl
    | _ => exact decide_eq_false (fun z => by cases z)
   rw [e3]
   exact q _ (.refl _)
noncomputable def Eu : Sp := fun vs H Q _ => ∃ (k : Str) (v : V) (t : Tr), vs = [.str k, v] ∧ TrAt H t v ∧ Q (.bl (gM k t)) H
seal PE PS PSs L2.PA PT PI PG in
theorem xE (T : Txt K mg A) : FnOk P w K mg base CX0 1 A.qJ A.rF jE Eu := by
 obtain ⟨ja, mi, hq⟩ := T.gD
 obtain ⟨t1, vG⟩ := T.fV
 refine T.jk.F.ok pM (fun vs H Q E h => ?_) (fun cdv B outer s H vs Q E hr h => ?_)
 ·obtain ⟨k, v, t, rfl, _⟩ := h; rfl
 obtain ⟨k, v, t, rfl, h, q⟩ := h
 refine ⟨_, @ag _ _ _ _ _ (aF (i := 2) pM.nd rfl (Or.inl rfl) (qv (aE lB (pv 0) (bU rfl mi (v := .ref ja) rfl) rfl) af (bU rfl vG (v := .int 12) ⟨_, rfl⟩)))
  (av (aO (cZ (ax bG rfl T.ay aL (aa (pv 1) (aa (bK rfl T.cy db (v := .ty "tuple") rfl) ae))) (de (bO gn (ax aN rfl T.bR ca (aa (pv 1) ae)) (pv 2) (aG _)))))), ?_⟩
 refine ⟨_, rfl, ja, _, rfl, .inr (rb hq H), rfl, eU _, _, rfl, ?_⟩
 rw [if_neg (show ¬ (false = true) by decide), nz]
 have I := h.is (K := K)
 have fin : ∀ m : Int, (∀ l, gM k (.tup l) = decide ((l.length : Int) ≤ m)) → Ck (Fv (tCB (fun xs H Q => ∃ x T t b, xs = [x, .ty T] ∧ TyOf K H x t ∧ PySem.W.kitOne K t (.type T) = some b ∧ Q (.bl b) H) (gL (oi 1) (gL (tC (.ty "tuple")) nk))) (tOp (rI0 fun i j => .bl (decide (i ≤ j))) (tCB (fun xs H Q => ∃ p ys, xs = [.ref p] ∧ (SqL K H p ys ∨ SqT K H p ys) ∧ Q (.int ys.length) H) (gL (oi 1) nk)) (oi 2))) { nx := fun _ H' => Q .non H', rt := Q } [some (.str k), some v, some (.int m)] H := fun m hm => by
  refine ⟨_, rfl, v, "tuple", _, _, rfl, I.ty, I.kit T.kit "tuple", _, rfl, ?_⟩
  cases t with
  | tup l =>
   obtain ⟨a, vs, rfl, ea, kk⟩ := h.tupE
   have lk := kk.len
   rw [hm, lk] at q
   exact bd ⟨_, rfl, a, vs, rfl, .inr (.of ea), _, rfl, _, _, rfl, rfl, q⟩
  | str x => exact bH q
  | int i => exact bH q
  | bl b => exact bH q
  | non => exact bH q
  | lst l => exact bH q
  | dic => exact bH q
 cases hk : br.any fun y => y == k with
 | true =>
  refine aH hk (fin 0 fun l => ?_)
  show decide (l.length ≤ if (br.any fun y => y == k) = true then 0 else 12) = _
  rw [hk, if_pos rfl]
  by_cases c : l.length ≤ 0
  ·rw [decide_eq_true c, decide_eq_true (by omega)]
  ·rw [decide_eq_false c, decide_eq_false (by omega)]
 | false =>
  refine aP hk (fin 12 fun l => ?_)
  show decide (l.length ≤ if (br.any fun y => y == k) = true then 0 else 12) = _
  rw [hk, if_neg (by decide)]
  by_cases c : l.length ≤ 12
  ·rw [decide_eq_true c, decide_eq_true (by omega)]
  ·rw [decide_eq_false c, decide_eq_false (by omega)]
end
theorem tR {t : Tr} (h : jR t = true) : ∃ x, t = .str x := by
 cases t with
 | str x => exact ⟨x, rfl⟩
 | _ => cases h
theorem oK {t : Tr} (h : cX t = true) : ∃ x, t = .str x := by
 cases t with
 | str x => exact ⟨x, rfl⟩
 | _ => cases h
theorem AQ {k : Str} {t : Tr} (h : gM k t = true) : ∃ l, t = .tup l ∧ l.length ≤ 12 := by
 cases t with
 | tup l =>
  refine ⟨l, rfl, ?_⟩
  have := of_decide_eq_true (show decide (l.length ≤ if (br.any fun y => y == k) = true then 0 else 12) = true from h)
  split at this <;> omega
 | _ => cases h
theorem rL {t : Tr} (h : aT t = true) : ∃ (k n : Str) (tg m : Tr) (l : List Tr), t = .tup [.str k, .str n, tg, m, .tup l] ∧ l.length ≤ 12 := by
 unfold aT at h
 split at h
 ·rename_i k n tg m ks
  simp only [Bool.and_eq_true] at h
  obtain ⟨⟨⟨h1, h2⟩, _⟩, _, h5⟩ := h
  obtain ⟨x, rfl⟩ := tR h1
  obtain ⟨y, rfl⟩ := oK h2
  obtain ⟨l, rfl, hl⟩ := AQ h5
  exact ⟨x, y, tg, m, l, rfl, hl⟩
 ·cases h
theorem Cw {l : List Tr} (h : l.length ≠ 5) : aT (.tup l) = false := by
 unfold aT
 split
 ·rename_i k n tg m ks e
  injection e with e
  rw [e] at h
  exact absurd rfl h
 ·rfl
theorem JA {α : Type} : ∀ {l : List α}, l.length = 5 → ∃ a b c d e, l = [a, b, c, d, e]
 | [a, b, c, d, e], _ => ⟨a, b, c, d, e, rfl⟩
theorem fZ {H H' : Hp} (s : aK H H') {l : Addr} (h : H' l = none) : H l = none := by
 cases e : H l with
 | none => rfl
 | some o => rw [s _ _ e] at h; cases h
theorem uA {α : Type} (f : α → V) (l : List α) (a : α) : ((l ++ [a]).map f)[((l ++ [a]).map f).length - 1]? = some (f a) := by simp
section
variable {P : Program} {w : World} {K : PySem.W.Frag} {mg : Str → Option Value} {base : Heap} {A : Adr}
noncomputable def DC : Sp := fun vs H Q _ => ∃ (v : V) (t : Tr), vs = [v] ∧ TrAt H t v ∧ ∀ H', aK H H' → Q (.bl (aT t)) H'
seal PE PS PSs L2.PA PT PI PG in
theorem pS (T : Txt K mg A) : FnOk P w K mg base CX0 5 A.ko A.kE fc DC := by
 have Bk := (yJ (P := P) (w := w) (base := base) T).mono (show 1 ≤ 4 by decide)
 have oH := (qX (P := P) (w := w) (base := base) T).mono (show 2 ≤ 4 by decide)
 have yC := (xr (P := P) (w := w) (base := base) T).mono (show 3 ≤ 4 by decide)
 have Br := zG (P := P) (w := w) (base := base) T
 have yL := (xE (P := P) (w := w) (base := base) T).mono (show 1 ≤ 4 by decide)
 refine T.eY.F.ok pP (fun vs H Q E h => ?_) (fun cdv B outer s H vs Q E hr h => ?_)
 ·obtain ⟨v, t, rfl, _⟩ := h; rfl
 obtain ⟨v, t, rfl, h, q⟩ := h
 refine ⟨_, @ag _ _ _ _ _ (bF (PW.pt (dL (cz (cg (ax bG rfl T.ay aL (aa (pv 0) (aa (bK rfl T.cy db (v := .ty "tuple") rfl) ae))))) (du (aE nO (ax aN rfl T.bR ca (aa (pv 0) ae)) af (aG _))))) (av (aO gq)) aR)
  (@ag _ _ _ _ _ (bF (PW.pt (dL (cz (cg (az Bk hr rfl T.lA.m T.lA.F.kp T.lA.b .nil bg (aa (aI aY (pv 0) af (fun _ _ => rfl)) ae)))) (dL (cz (cg (az oH hr rfl T.fP.m T.fP.F.kp T.fP.b .nil bg (aa (aI aY (pv 0) af (fun _ _ => rfl)) ae)))) (du (cz (cg (az yC hr rfl T.jD.m T.jD.F.kp T.jD.b .nil bg (aa (aI aY (pv 0) af (fun _ _ => rfl)) ae)))))))) (av (aO gq)) aR)
  (av (aO (cZ (az Br hr rfl T.kS.m T.kS.F.kp T.kS.b .nil bg (aa (aI aY (pv 0) af (fun _ _ => rfl)) (aa (aI aY (pv 0) af (fun _ _ => rfl)) ae))) (de (az yL hr rfl T.jk.m T.jk.F.kp T.jk.b .nil bg (aa (aI aY (pv 0) af (fun _ _ => rfl)) (aa (aI aY (pv 0) af (fun _ _ => rfl)) ae)))))))), ?_⟩
 have I := h.is (K := K)
 refine ⟨_, rfl, v, "tuple", _, _, rfl, I.ty, I.kit T.kit "tuple", _, rfl, ?_⟩
 cases t with
 | tup l =>
  obtain ⟨a, vs, rfl, ea, k⟩ := h.tupE
  have lk := k.len
  refine bH ⟨_, rfl, a, vs, rfl, .inr (.of ea), rfl, _, rfl, ?_⟩
  by_cases h5 : l.length = 5
  ·refine aP (by simp; omega) ?_
   obtain ⟨t0, t1, t2, t3, t4, rfl⟩ := JA h5
   cases k with
   | @cons _ v0 _ _ a0 k =>
   cases k with
   | @cons _ v1 _ _ a1 k =>
   cases k with
   | @cons _ v2 _ _ a2 k =>
   cases k with
   | @cons _ v3 _ _ a3 k =>
   cases k with
   | @cons _ v4 _ _ a4 k =>
   cases k
   have eA : aT (.tup [t0, t1, t2, t3, t4]) = (jR t0 && cX t1 && gp t2 && (dS (dt t0) t3 && gM (dt t0) t4)) := rfl
   rw [eA] at q
   refine ⟨_, rfl, a, _, _, _, rfl, rfl, .of ea, rfl, v0, t0, rfl, a0, _, rfl, ?_⟩
   cases hk : jR t0 with
   | false =>
    rw [hk, Bool.false_and, Bool.false_and, Bool.false_and] at q
    exact bd (bd (q _ (.refl _)))
   | true =>
    rw [hk, Bool.true_and] at q
    obtain ⟨x0, rfl⟩ := tR hk
    cases a0 with
    | str _ hx0 =>
    refine bH ⟨_, rfl, a, _, _, _, rfl, rfl, .of ea, rfl, v1, t1, rfl, a1, fun H1 s1 => ⟨_, rfl, ?_⟩⟩
    cases hn : cX t1 with
    | false =>
     rw [hn, Bool.false_and, Bool.false_and] at q
     exact bd (bd (q _ s1))
    | true =>
     rw [hn, Bool.true_and] at q
     refine bH ⟨_, rfl, a, _, _, _, rfl, rfl, .of (s1 _ _ ea), rfl, v2, t2, rfl, a2.same s1, fun H2 s2 => ⟨_, rfl, ?_⟩⟩
     replace s2 := s1.trans s2
     cases ht : gp t2 with
     | false =>
      rw [ht, Bool.false_and] at q
      exact bd (q _ s2)
     | true =>
      rw [ht, Bool.true_and] at q
      refine bH ⟨_, rfl, a, _, _, _, rfl, rfl, .of (s2 _ _ ea), rfl, _, rfl, a, _, _, _, rfl, rfl, .of (s2 _ _ ea), rfl, x0, v3, t3, rfl, a3.same s2, fun H3 s3 => ⟨_, rfl, ?_⟩⟩
      replace s3 := s2.trans s3
      change ∀ H', aK H H' → Q (.bl (dS x0 t3 && gM x0 t4)) H' at q
      cases hm : dS x0 t3 with
      | false =>
       rw [hm, Bool.false_and] at q
       exact bH (q _ s3)
      | true =>
       rw [hm, Bool.true_and] at q
       exact bd ⟨_, rfl, a, _, _, _, rfl, rfl, .of (s3 _ _ ea), rfl, _, rfl, a, _, _, _, rfl, rfl, .of (s3 _ _ ea), rfl, x0, v4, t4, rfl, a4.same s3, q _ s3⟩
  ·rw [Cw h5] at q
   refine aH (by simp; omega) ?_
   exact q _ (.refl _)
 | str x => exact bd (bd (q _ (.refl _)))
 | int i => exact bd (bd (q _ (.refl _)))
 | bl b => exact bd (bd (q _ (.refl _)))
 | non => exact bd (bd (q _ (.refl _)))
 | lst l => exact bd (bd (q _ (.refl _)))
 | dic => exact bd (bd (q _ (.refl _)))
theorem Txt.nb (T : Txt K mg A) : ClsAt K A.c_PaneError [A.c_NoShare, A.c_NoBox, A.c_NoText, A.c_NoRule, A.c_NoName, A.c_NoPlace, A.c_NoPage, A.c_NoChange, A.c_NoUndo, A.c_NoRow] A.c_NoBox := (uL T.cls).2 _ (by simp)
theorem wD (T : Txt K mg A) {N : List Str} {qual : Str} {scope : Scope} {f : Addr} {cd : Value} {B : Around} {outer : List Env} {s : Shared} {H : Hp} {E : XK} {x : Str} {j np cp pp pos : _} (hg : Gl (fH (CXW P w) P w K mg base N qual scope f cd B outer s H E) "NoBox") :
  PS (fH (CXW P w) P w K mg base N qual scope f cd B outer s H E) (.Raise (some (.Call (.Name "NoBox" np) [.Constant (.str x) j cp] [] pp)) none pos) (vZ E A.c_NoBox (gL (tC (.str x)) nk)) :=
 so vg rfl hg T.m_NoBox T.nb.exc PySem.F.excBase_ValueError PySem.F.excBase_ValueError (by decide) (by show 1 ≤ 1000; omega) (aa ar ae) (fun σ H Q h => ⟨by show 1 ≤ sizeLine; decide, h⟩)
noncomputable def lS (H H1 : Hp) (e : Addr) (p : Tr × Nat) : Prop := ∃ v, H1 e = some (.tup [v, .int p.2]) ∧ TrAt H p.1 v
theorem lS.same {H H1 H2 : Hp} {e : Addr} {p : Tr × Nat} (s : aK H1 H2) (h : lS H H1 e p) : lS H H2 e p := let ⟨v, h1, h2⟩ := h; ⟨v, s _ _ h1, h2⟩
theorem lS.upd {H H1 : Hp} {e l : Addr} {p : Tr × Nat} {o o' : HO} (h : lS H H1 e p) (hl : H1 l = some o) (ho : ∀ xs, o ≠ .tup xs) : lS H (upd H1 l o') e p := by
 obtain ⟨v, h1, h2⟩ := h
 refine ⟨v, ?_, h2⟩
 rw [aD (fun z => by rw [z, hl] at h1; cases h1; exact ho _ rfl)]
 exact h1
noncomputable abbrev mr : Scope := (match bC cI with | _ :: _ :: (.While _ (_ :: _ :: _ :: _ :: _ :: _ :: _ :: _ :: (.Expr (.Call _ ((.ListComp _ _ sc _) :: _) _ _) _) :: _) _ _) :: _ => sc | _ => ap cI)
theorem lL : Blk (ap cI) gg mr ["kid"] [5] := ⟨rfl, by decide +kernel, by decide +kernel, by decide +kernel, by decide +kernel⟩
theorem lY : (cR gg ["kid"] [5]).Nodup := by decide +kernel
noncomputable def Jh (c0 : Addr) : Sp := fun vs H Q E => ∃ (v : V) (t : Tr), vs = [v] ∧ TrAt H t v ∧ (bN t = true → ∀ H', aK H H' → Q .non H') ∧ (bN t = false → ∀ H', aK H H' → E (.ref c0) none H')
seal PE PS PSs L2.PA PT PI PG in
theorem iI (T : Txt K mg A) : FnOk P w K mg base (CXW P w) 6 A.jL A.jN dW (Jh A.c_NoBox) := by
 have qD := pS (P := P) (w := w) (base := base) T
 obtain ⟨g1, uP⟩ := T.fX
 obtain ⟨g2, sY⟩ := T.fe
 refine T.cv.F.okW cE (fun vs H Q E h => ?_) (fun cdv B outer s H vs Q E hr h => ?_)
 ·obtain ⟨v, t, rfl, _⟩ := h; rfl
 obtain ⟨v, t, rfl, h, qg, qb⟩ := h
 refine ⟨_, @ag _ _ _ _ _ (aF (i := 1) cE.nd rfl (Or.inl rfl) CA)
  (@ag _ _ _ _ _ (aF (i := 2) cE.nd rfl (Or.inl rfl) (bb (aa (aM (aa (pv 0) (aa af ae))) ae)))
  (av (xG PassesOwn.leaving (wK (pv 2) (fun _ => rfl)) (@ag _ _ _ _ _ (aF (i := 3) cE.nd rfl (Or.inl rfl) (DF PySem.F.plainAttrs_list PySem.F.slot_list_pop PySem.F.type_list_pop Dd (pv 2)))
  (@ag _ _ _ _ _ (aF (i := 4) cE.nd rfl (Or.inl rfl) (aI aY (pv 3) af (fun _ _ => rfl)))
  (@ag _ _ _ _ _ (aF (i := 5) cE.nd rfl (Or.inr rfl) (aI aY (pv 3) af (fun _ _ => rfl)))
  (@ag _ _ _ _ _ (bF (cz (cg (az qD hr rfl T.eY.m T.eY.F.kp T.eY.b .nil bg (aa (pv 4) ae)))) (av (wD T rfl)) aR)
  (@ag _ _ _ _ _ (bF (aE iS (pv 5) (bU rfl uP (v := .int 8) ⟨_, rfl⟩) (aG _)) (av (wD T rfl)) aR)
  (@ag _ _ _ _ _ (bF (Hk (FY (sE hr) (aI aY (pv 4) af (fun _ _ => rfl)) (pv 1))) (av (wD T rfl)) aR)
  (@ag _ _ _ _ _ (DZ (sE hr) (pv 1) (aI aY (pv 4) af (fun _ _ => rfl)) gq rfl)
  (@ag _ _ _ _ _ (bF (aE iS (ax AV rfl T.bR ca (aa (pv 1) ae)) (bU rfl sY (v := .int 40) ⟨_, rfl⟩) (aG _)) (av (wD T rfl)) aR)
  (av (dC (gY PySem.F.plainAttrs_list PySem.F.slot_list_extend PySem.F.type_list_extend iH (pv 2) (aa (dZ lL rfl (rK (aI aY (pv 4) af (fun _ _ => rfl))) (fun _ _ _ _ _ => aS (i := 0) lY rfl (.inl rfl)) (fun _ _ _ _ _ => fj) (fun _ _ _ _ _ => aM (aa (pv 0) (aa (aJ cU (pv 1) af) ae)))) ae))))))))))))))), ?_⟩
 intro dn hdn
 have s1 := ao hdn (.dK [])
 refine ⟨_, rfl, small (by simp), fun e1 he1 => ⟨small (by simp), fun wl hwl => ?_⟩⟩
 have s2 := ao he1 (.tup [v, V.int 1])
 have s3 := ao hwl (.lst [V.ref e1])
 have hdn' := hdn
 have nwd : wl ≠ dn := fun z => by
  rw [z, s2 _ _ (ai : upd H dn (.dK []) dn = _)] at hwl; cases hwl
 have hwl' : H wl = none := fZ (s1.trans s2) hwl
 have n40 : (1000 : Nat) < sizeLine := bc (Nat.le_refl _)
 refine ⟨fun m σ H1 => ∃ (js : List (Tr × Nat)) (es : List Addr) (ns : List Str) (kvs : List (Key × V)) (v3 v4 v5 : Option V), σ = [some v, some (.ref dn), some (.ref wl), v3, v4, v5] ∧ aK H H1 ∧ H1 dn = some (.dK kvs) ∧ H1 wl = some (.lst (es.map V.ref)) ∧ F2 (lS H H1) es js ∧
   (∀ y : Str, (jP kvs (Sum.inr y : Key)).isSome = ns.contains y) ∧ kvs.length = ns.length ∧ ns.length ≤ 40 ∧ js.length ≤ 12 * ns.length + 1 ∧ m + ns.length = 42 ∧ bN t = jQ m js.reverse ns,
  ⟨42, [(t, 1)], [e1], [], [], none, none, none, rfl, (s1.trans s2).trans s3, ?_, ai, .one ⟨v, s3 _ _ ai, h⟩, fun y => rfl, rfl, by decide, by simp, rfl, rfl⟩, ?_⟩
 ·exact s3 _ _ (s2 _ _ ai)
 rintro m σ H1 ⟨js, es, ns, kvs, v3, v4, v5, rfl, sH, ed, ew, be, hv, hl, h40, hj, hm, hd⟩
 rcases List.eq_nil_or_concat js with rfl | ⟨js', p, rfl⟩
 ·cases be
  refine ⟨_, rfl, _, .inl ⟨_, .of ew, rfl⟩, aP (by simp) ?_⟩
  refine qg ?_ _ sH
  rw [hd]
  obtain ⟨m', rfl⟩ : ∃ m', m = m' + 1 := ⟨m - 1, by omega⟩
  rfl
 ·rw [List.concat_eq_append] at be hj hd
  obtain ⟨es', e, rfl, be', ⟨bv, ee, bt⟩⟩ := be.last
  obtain ⟨bt0, d⟩ := p
  obtain ⟨m', rfl⟩ : ∃ m', m = m' + 1 := ⟨m - 1, by omega⟩
  refine ⟨_, rfl, _, .inl ⟨_, .of ew, rfl⟩, aH (by simp) ?_⟩
  refine ⟨fun σ' H' => _, fun σ' H' h => h, ?_⟩
  rw [List.reverse_append, List.reverse_singleton, List.singleton_append] at hd
  have hd' : bN t = if (aT bt0 && decide (d ≤ 8) && !ns.contains (ah bt0) && decide (ns.length < 40)) = true then jQ m' ((aj bt0).reverse.map (fun k => (k, d + 1)) ++ js'.reverse) (ah bt0 :: ns) else false := hd
  refine ⟨_, rfl, .inl ⟨rfl, _, .of ew⟩, wl, _, _, rfl, rfl, ew, uA _ _ _, ?_⟩
  have edl : ((es' ++ [e]).map V.ref).dropLast = es'.map V.ref := by rw [List.map_append]; exact List.dropLast_concat
  rw [edl]
  have k1 : upd H1 wl (.lst (es'.map V.ref)) e = some (.tup [bv, .int (d : Int)]) := by
   rw [aD (fun z => by rw [z, ew] at ee; cases ee)]; exact ee
  have k2 : upd H1 wl (.lst (es'.map V.ref)) wl = some (.lst (es'.map V.ref)) := ai
  have k3 : upd H1 wl (.lst (es'.map V.ref)) dn = some (.dK kvs) := by rw [aD nwd.symm]; exact ed
  have k4 : F2 (lS H (upd H1 wl (.lst (es'.map V.ref)))) es' js' := be'.mono fun _ _ x => x.upd ew (fun xs z => by cases z)
  have k5 : aK H (upd H1 wl (.lst (es'.map V.ref))) := fun b u z => by rw [aD (aX z hwl')]; exact sH _ _ z
  generalize upd H1 wl (.lst (es'.map V.ref)) = H2 at k1 k2 k3 k4 k5 ⊢
  refine ⟨_, rfl, e, _, _, _, rfl, rfl, .of k1, rfl, ?_⟩
  refine ⟨_, rfl, e, _, _, _, rfl, rfl, .of k1, rfl, ?_⟩
  refine ⟨_, rfl, bv, bt0, rfl, bt.same k5, fun H3 s4 => ⟨_, rfl, ?_⟩⟩
  have k6 := k5.trans s4
  cases ha : aT bt0 with
  | false =>
   refine bd (qb ?_ _ k6)
   rw [hd', ha]; rfl
  | true =>
   rw [ha] at hd'
   refine bH ⟨_, rfl, _, _, rfl, rfl, _, rfl, ?_⟩
   by_cases h8 : d ≤ 8
   ·refine aP (decide_eq_false (by omega)) ?_
    rw [decide_eq_true h8] at hd'
    obtain ⟨bk, bn, tg, mo, l, rfl, hl12⟩ := rL ha
    have eN : ah (.tup [.str bk, .str bn, tg, mo, .tup l]) = bn := rfl
    have eK : aj (.tup [.str bk, .str bn, tg, mo, .tup l]) = l := rfl
    rw [eN, eK] at hd'
    obtain ⟨ba, bvs, rfl, eb, kb⟩ := bt.tupE
    cases kb with
    | @cons _ w0 _ _ a0 kb =>
    cases kb with
    | @cons _ w1 _ _ a1 kb =>
    cases kb with
    | @cons _ w2 _ _ a2 kb =>
    cases kb with
    | @cons _ w3 _ _ a3 kb =>
    cases kb with
    | @cons _ w4 _ _ a4 kb =>
    cases kb
    cases a1 with
    | str _ hbn =>
    obtain ⟨ka, kvs4, rfl, ek, kk4⟩ := a4.tupE
    have lk4 := kk4.len
    have eb3 := k6 _ _ eb
    have ek3 := k6 _ _ ek
    have ed3 := s4 _ _ k3
    refine ⟨_, rfl, ba, _, _, _, rfl, rfl, .of eb3, rfl, _, rfl, dn, _, rfl, BM.k (k := Sum.inr bn) ed3, _, rfl, ?_⟩
    rw [hv bn]
    cases hc : ns.contains bn with
    | true =>
     refine bd (qb ?_ _ k6)
     rw [hd', hc]; rfl
    | false =>
     rw [hc] at hd'
     refine bH ?_
     have hnone : jP kvs (Sum.inr bn : Key) = none := by
      have := hv bn
      rw [hc] at this
      cases ev : jP kvs (Sum.inr bn : Key) with
      | none => rfl
      | some o => rw [ev] at this; cases this
     refine ⟨_, rfl, _, rfl, ba, _, _, _, rfl, rfl, .of eb3, rfl, dn, _, rfl, DG.k (k := Sum.inr bn) ed3 (by omega), ?_⟩
     rw [Dw _ hnone]
     have j1 : upd H3 dn (.dK (kvs ++ [(Sum.inr bn, V.bl true)])) dn = some (.dK (kvs ++ [(Sum.inr bn, V.bl true)])) := ai
     have j2 : upd H3 dn (.dK (kvs ++ [(Sum.inr bn, V.bl true)])) wl = some (.lst (es'.map V.ref)) := by rw [aD nwd]; exact s4 _ _ k2
     have j3 : F2 (lS H (upd H3 dn (.dK (kvs ++ [(Sum.inr bn, V.bl true)])))) es' js' := (k4.mono fun _ _ x => x.same s4).mono fun _ _ x => x.upd ed3 (fun xs z => by cases z)
     have j4 : aK H (upd H3 dn (.dK (kvs ++ [(Sum.inr bn, V.bl true)]))) := fun b u z => by rw [aD (aX z hdn')]; exact k6 _ _ z
     generalize upd H3 dn (.dK (kvs ++ [(Sum.inr bn, V.bl true)])) = H4 at j1 j2 j3 j4 ⊢
     refine ⟨_, rfl, dn, _, rfl, j1, _, _, rfl, rfl, _, rfl, ?_⟩
     have lkv : (kvs ++ [((Sum.inr bn : Key), V.bl true)]).length = ns.length + 1 := by rw [List.length_append, hl]; rfl
     by_cases h39 : ns.length < 40
     ·refine aP (decide_eq_false (by rw [lkv]; omega)) ?_
      rw [decide_eq_true h39] at hd'
      have hd2 : bN t = jQ m' (l.reverse.map (fun k => (k, d + 1)) ++ js'.reverse) (bn :: ns) := hd'
      have eb4 := j4 _ _ eb
      have ek4 := j4 _ _ ek
      rw [List.length_append, List.length_singleton] at hj
      have lbe := be'.len
      refine ⟨_, rfl, .inl ⟨rfl, _, .of j2⟩, _, rfl, ba, _, _, _, rfl, rfl, .of eb4, rfl, ka, rfl, .inr ⟨⟨_, .of ek4⟩,
       pW (xs := kvs4) (fun i acc H' => ∃ us : List Addr, acc = us.map V.ref ∧ aK H4 H' ∧ F2 (lS H H') us ((l.take i).map fun k => (k, d + 1))) ⟨[], rfl, .refl _, .nil⟩ (fun i acc H' z => ?_) (fun i acc H' z => ?_) (fun i x acc H' N kk hx z => ?_) fun acc H' z => ?_⟩⟩
      ·obtain ⟨_, _, s5, _⟩ := z; exact .of (s5 _ _ ek4)
      ·obtain ⟨us, rfl, _, u1⟩ := z
       have := u1.len
       rw [List.length_map, List.length_take] at this
       rw [List.length_map]; exact bc (by omega)
      ·obtain ⟨us, rfl, s5, u1⟩ := z
       dsimp only [oP]
       rw [if_pos rfl]
       have hi : i < l.length := by have := (List.getElem?_eq_some_iff.mp hx).1; omega
       have et : l[i]? = some l[i] := List.getElem?_eq_getElem hi
       refine ⟨_, rfl, _, rfl, _, _, rfl, rfl, small (by simp), fun p1 hp1 => ?_⟩
       have s6 := ao hp1 (.tup [x, V.int ((d : Int) + 1)])
       refine kk _ _ ⟨us ++ [p1], by rw [List.map_append]; rfl, s5.trans s6, ?_⟩
       rw [List.take_add_one, et, List.map_append]
       exact (u1.mono fun _ _ z => z.same s6).append (.one ⟨x, by rw [ai]; rfl, kk4.get et hx⟩)
      ·obtain ⟨us, rfl, s5, u1⟩ := z
       rw [← lk4, List.take_length] at u1
       have lu := u1.len
       rw [List.length_map] at lu
       intro l3 hl3
       have s6 := ao hl3 (.lst (us.map V.ref))
       have s7 := s5.trans s6
       refine ⟨wl, l3, _, _, rfl, rfl, s7 _ _ j2, ai, by rw [List.length_map, List.length_map]; exact small (by omega), ?_⟩
       have ew7 := s7 _ _ j2
       refine ⟨m', by omega, js' ++ l.map (fun k => (k, d + 1)), es' ++ us, bn :: ns, kvs ++ [(Sum.inr bn, V.bl true)], _, _, _, rfl, fun b u z => by rw [aD (aX z hwl')]; exact s7 _ _ (j4 _ _ z), ?_, by rw [ai, List.map_append], ?_, fun y => ?_, by rw [lkv]; rfl, by rw [List.length_cons]; omega, by rw [List.length_append, List.length_map, List.length_cons]; omega, by rw [List.length_cons]; omega, ?_⟩
       ·rw [aD nwd.symm]; exact s7 _ _ j1
       ·exact (((j3.mono fun _ _ x => x.same s7).append (u1.mono fun _ _ x => x.same s6))).mono fun _ _ x => x.upd ew7 (fun xs z => by cases z)
       ·rw [uo _ _ _ _ hnone]
        by_cases c : y = bn
        ·rw [if_pos (by rw [c]), c]; simp
        ·rw [if_neg (fun z => c (by injection z)), hv y]
         simp [c]
       ·rw [hd2, List.reverse_append, List.map_reverse]
     ·refine aH (decide_eq_true (by rw [lkv]; omega)) (qb ?_ _ j4)
      rw [hd', decide_eq_false h39]; rfl
   ·refine aH (decide_eq_true (by omega)) (qb ?_ _ k6)
    rw [hd', decide_eq_false h8]; rfl
end
noncomputable def fA : Nat → Tr → List Tr
 | 0, _ => []
 | n + 1, t => t :: ((aj t).reverse.map (fA n)).flatten
theorem BY {n : Nat} {t : Tr} {d : Nat} {st : List (Tr × Nat)} {ns : List Str} (h : jQ (n + 1) ((t, d) :: st) ns = true) :
  aT t = true ∧ ns.contains (ah t) = false ∧ jQ n ((aj t).reverse.map (fun k => (k, d + 1)) ++ st) (ah t :: ns) = true := by
 have h' : (if (aT t && decide (d ≤ 8) && !ns.contains (ah t) && decide (ns.length < 40)) = true then jQ n ((aj t).reverse.map (fun k => (k, d + 1)) ++ st) (ah t :: ns) else false) = true := h
 split at h'
 ·rename_i c
  simp only [Bool.and_eq_true, Bool.not_eq_true'] at c
  exact ⟨c.1.1.1, c.1.2, h'⟩
 ·cases h'
theorem vF : ∀ (n : Nat) (st : List (Tr × Nat)) (ns : List Str), jQ n st ns = true → ∀ ps : List (Tr × Nat), ps.map (·.1) = st.map (·.1) →
  (∀ u ∈ (ps.map fun p => fA p.2 p.1).flatten, aT u = true ∧ ns.contains (ah u) = false) ∧ (((ps.map fun p => fA p.2 p.1).flatten).map ah).Nodup
 | 0, _, _, h, _, _ => by cases h
 | n + 1, [], ns, _, ps, e => by
  have : ps = [] := List.map_eq_nil_iff.mp e
  subst this
  exact ⟨(fun u hu => by cases hu), List.nodup_nil⟩
 | n + 1, (t, d) :: st, ns, h, ps, e => by
  obtain ⟨h1, h2, h3⟩ := BY h
  cases ps with
  | nil => cases e
  | cons p ps =>
   rw [List.map_cons, List.map_cons] at e
   injection e with e1 e2
   obtain ⟨t', f⟩ := p
   have e1' : t' = t := e1
   subst e1'
   cases f with
   | zero =>
    obtain ⟨g1, g2⟩ := vF n _ _ h3 ((aj t').reverse.map (fun k => (k, 0)) ++ ps) (by rw [List.map_append, List.map_append, e2, List.map_map, List.map_map]; rfl)
    have z : ((((aj t').reverse.map (fun k => (k, 0)) ++ ps).map fun p : Tr × Nat => fA p.2 p.1).flatten) = (ps.map fun p => fA p.2 p.1).flatten := by
     rw [List.map_append, List.flatten_append, List.map_map]
     have : ((aj t').reverse.map ((fun p : Tr × Nat => fA p.2 p.1) ∘ fun k => (k, 0))).flatten = [] := by
      generalize (aj t').reverse = l
      induction l with
      | nil => rfl
      | cons a l ih => rw [List.map_cons, List.flatten_cons, ih]; rfl
     rw [this, List.nil_append]
    rw [z] at g1 g2
    refine ⟨fun u hu => ?_, ?_⟩
    ·have hu' : u ∈ (ps.map fun p => fA p.2 p.1).flatten := hu
     obtain ⟨a, b⟩ := g1 u hu'
     refine ⟨a, ?_⟩
     rw [List.contains_cons, Bool.or_eq_false_iff] at b
     exact b.2
    ·exact g2
   | succ f =>
    obtain ⟨g1, g2⟩ := vF n _ _ h3 ((aj t').reverse.map (fun k => (k, f)) ++ ps) (by rw [List.map_append, List.map_append, e2, List.map_map, List.map_map]; rfl)
    have z : ((((aj t').reverse.map (fun k => (k, f)) ++ ps).map fun p : Tr × Nat => fA p.2 p.1).flatten) = ((aj t').reverse.map (fA f)).flatten ++ (ps.map fun p => fA p.2 p.1).flatten := by
     rw [List.map_append, List.flatten_append, List.map_map]; rfl
    rw [z] at g1 g2
    have z2 : ((((t', f + 1) :: ps).map fun p => fA p.2 p.1).flatten) = t' :: (((aj t').reverse.map (fA f)).flatten ++ (ps.map fun p => fA p.2 p.1).flatten) := rfl
    rw [z2]
    refine ⟨fun u hu => ?_, ?_⟩
    ·rcases List.mem_cons.mp hu with rfl | hu
     ·exact ⟨h1, h2⟩
     ·obtain ⟨a, b⟩ := g1 u hu
      refine ⟨a, ?_⟩
      rw [List.contains_cons, Bool.or_eq_false_iff] at b
      exact b.2
    ·rw [List.map_cons, List.nodup_cons]
     refine ⟨fun hm => ?_, g2⟩
     obtain ⟨u, hu, eu⟩ := List.mem_map.mp hm
     obtain ⟨_, b⟩ := g1 u hu
     rw [List.contains_cons, Bool.or_eq_false_iff, eu] at b
     exact absurd b.1 (by simp)
theorem nB {t : Tr} (h : bN t = true) (f : Nat) : (∀ u ∈ fA f t, aT u = true) ∧ ((fA f t).map ah).Nodup := by
 obtain ⟨g1, g2⟩ := vF 42 [(t, 1)] [] h [(t, f)] rfl
 have z : (([(t, f)] : List (Tr × Nat)).map fun p => fA p.2 p.1).flatten = fA f t := by simp
 rw [z] at g1 g2
 exact ⟨fun u hu => (g1 u hu).1, g2⟩
theorem HP {α : Type} {l : List α} (h : l.Nodup) : l.reverse.Nodup := by
 refine List.pairwise_reverse.mpr ?_
 exact List.Pairwise.imp (fun a e => a e.symm) h
noncomputable def Mo.t : Mo → Tr
 | .no => .non
 | .tx ws => .str (WM.J ws)
 | .nu n => .int n
noncomputable def uF (r : Rw) (kids : List Tr) : Tr := .tup [.str r.kind, .str r.name, .tup (r.tags.map Tr.str), r.more.t, .tup kids]
noncomputable def wN (xs : List Lr) (p : Nat) (sp : Tr → Tr) : Nat → Nat → Tr
 | 0, _ => .non
 | n + 1, k => match xs[k]? with
  | some x => if k = p then sp (uF x.r ((bz xs k).map (wN xs p sp n))) else uF x.r ((bz xs k).map (wN xs p sp n))
  | none => .non
theorem Aw {c : Int} {xs : List Lr} (h : RwsOk c xs) (p : Nat) (sp : Tr → Tr) : ∀ (n m k : Nat), xs.length - k ≤ n → n ≤ m → k < xs.length → wN xs p sp m k = wN xs p sp n k
 | 0, _, k, h1, _, h3 => by omega
 | n + 1, 0, _, _, h2, _ => by omega
 | n + 1, m + 1, k, h1, h2, h3 => by
  unfold wN
  rw [List.getElem?_eq_getElem h3]
  have : (bz xs k).map (wN xs p sp m) = (bz xs k).map (wN xs p sp n) := List.map_congr_left fun j hj => by
   obtain ⟨a, b⟩ := cq h hj
   exact Aw h p sp n m j (by omega) (by omega) b
  simp only [this]
noncomputable def wOf (xs : List Lr) (p : Nat) (sp : Tr → Tr) (k : Nat) : Tr := wN xs p sp (xs.length - k) k
theorem Ia {c : Int} {xs : List Lr} (h : RwsOk c xs) (p : Nat) (sp : Tr → Tr) {k : Nat} {x : Lr} (hx : xs[k]? = some x) : wOf xs p sp k = if k = p then sp (uF x.r ((bz xs k).map (wOf xs p sp))) else uF x.r ((bz xs k).map (wOf xs p sp)) := by
 have hk := (List.getElem?_eq_some_iff.mp hx).1
 obtain ⟨n, hn⟩ : ∃ n, xs.length - k = n + 1 := ⟨xs.length - k - 1, by omega⟩
 have e : wOf xs p sp k = wN xs p sp (n + 1) k := by unfold wOf; rw [hn]
 have : (bz xs k).map (wN xs p sp n) = (bz xs k).map (wOf xs p sp) := List.map_congr_left fun j hj => by
  obtain ⟨a, b⟩ := cq h hj
  exact Aw h p sp _ _ j (Nat.le_refl _) (by omega) b
 rw [e, wN, hx]
 simp only [this]
noncomputable abbrev tOf (xs : List Lr) (k : Nat) : Tr := wOf xs 0 id k
theorem BN {c : Int} {xs : List Lr} (h : RwsOk c xs) {k : Nat} {x : Lr} (hx : xs[k]? = some x) : tOf xs k = uF x.r ((bz xs k).map (tOf xs)) := by
 have := Ia h 0 id hx
 unfold tOf
 rw [this]
 split <;> rfl
noncomputable def jh (xs : List Lr) : Nat → Nat → List Nat
 | 0, _ => []
 | n + 1, k => k :: ((bz xs k).reverse.map (jh xs n)).flatten
theorem uK {c : Int} {xs : List Lr} (h : RwsOk c xs) : ∀ {f i j : Nat}, i ∈ jh xs f j → ∃ s, wm xs i = wm xs j ++ s
 | 0, _, _, hi => by cases hi
 | f + 1, i, j, hi => by
  rcases List.mem_cons.mp hi with rfl | hi
  ·exact ⟨[], by simp⟩
  ·obtain ⟨l, hl, hi⟩ := List.mem_flatten.mp hi
   obtain ⟨m, hm, rfl⟩ := List.mem_map.mp hl
   obtain ⟨s, e⟩ := uK h hi
   rw [ou h (List.mem_reverse.mp hm), List.append_assoc] at e
   exact ⟨_, e⟩
theorem qB {c : Int} {xs : List Lr} (h : RwsOk c xs) : ∀ {f i j : Nat}, j < xs.length → i ∈ jh xs f j → j ≤ i ∧ i < xs.length
 | 0, _, _, _, hi => by cases hi
 | f + 1, i, j, hj, hi => by
  rcases List.mem_cons.mp hi with rfl | hi
  ·omega
  ·obtain ⟨l, hl, hi⟩ := List.mem_flatten.mp hi
   obtain ⟨m, hm, rfl⟩ := List.mem_map.mp hl
   obtain ⟨a, b⟩ := cq h (List.mem_reverse.mp hm)
   have := qB h b hi
   omega
theorem zY {α : Type} {f : Nat → List α} : ∀ {l : List Nat}, (∀ x ∈ l, (f x).Nodup) → l.Nodup → (∀ x ∈ l, ∀ y ∈ l, x ≠ y → ∀ z ∈ f x, z ∉ f y) → ((l.map f).flatten).Nodup
 | [], _, _, _ => List.nodup_nil
 | a :: l, h1, h2, h3 => by
  rw [List.map_cons, List.flatten_cons, List.nodup_append]
  obtain ⟨h4, h5⟩ := List.nodup_cons.mp h2
  refine ⟨h1 a (List.mem_cons_self ..), zY (fun x hx => h1 x (List.mem_cons_of_mem _ hx)) h5 fun x hx y hy => h3 x (List.mem_cons_of_mem _ hx) y (List.mem_cons_of_mem _ hy), fun z hz w hw e => ?_⟩
  subst e
  obtain ⟨m, hm, hz2⟩ := List.mem_flatten.mp hw
  obtain ⟨y, hy, rfl⟩ := List.mem_map.mp hm
  exact h3 a (List.mem_cons_self ..) y (List.mem_cons_of_mem _ hy) (fun e => h4 (e ▸ hy)) z hz hz2
theorem Cz {c : Int} {xs : List Lr} (h : RwsOk c xs) : ∀ (f j : Nat), j < xs.length → (jh xs f j).Nodup
 | 0, _, _ => List.nodup_nil
 | f + 1, j, hj => by
  show (j :: ((bz xs j).reverse.map (jh xs f)).flatten).Nodup
  rw [List.nodup_cons]
  refine ⟨fun hm => ?_, zY (fun x hx => Cz h f x (cq h (List.mem_reverse.mp hx)).2) (HP ((AM xs j).imp fun a => Nat.ne_of_lt a)) fun x hx y hy hne z hz hz2 => ?_⟩
  ·obtain ⟨l, hl, hi⟩ := List.mem_flatten.mp hm
   obtain ⟨m, hm, rfl⟩ := List.mem_map.mp hl
   obtain ⟨a, b⟩ := cq h (List.mem_reverse.mp hm)
   have := qB h b hi
   omega
  ·obtain ⟨s1, e1⟩ := uK h hz
   obtain ⟨s2, e2⟩ := uK h hz2
   rw [ou h (List.mem_reverse.mp hx), List.append_assoc] at e1
   rw [ou h (List.mem_reverse.mp hy), List.append_assoc, e1] at e2
   have e3 := List.append_cancel_left e2
   injection e3 with e4 _
   exact hne e4
theorem Fy : ∀ (n : Nat) (l : List Nat), l.Nodup → (∀ x ∈ l, x < n) → l.length ≤ n
 | 0, [], _, _ => Nat.le_refl _
 | 0, a :: _, _, h => absurd (h a (List.mem_cons_self ..)) (by omega)
 | n + 1, l, hn, h => by
  have h1 := Fy n (l.erase n) (hn.erase n) fun x hx => by
   have a := h x (List.mem_of_mem_erase hx)
   have b : x ≠ n := fun e => by subst e; exact (List.Nodup.not_mem_erase hn) hx
   omega
  by_cases hm : n ∈ l
  ·rw [List.length_erase_of_mem hm] at h1; omega
  ·rw [List.erase_of_not_mem hm] at h1; omega
theorem iR (z : Str) (c : Nat) : bT z c = decide (c ∈ z.cps.toList) := StrLaws.found_one z c
theorem AA {x z : Str} (h : ∀ c ∈ x.cps.toList, c ∈ z.cps.toList) : cA x z = true := List.all_eq_true.mpr fun c hc => by rw [iR]; exact decide_eq_true (h c hc)
theorem IC : ∀ i : Fin 26, sgA.cps.toList.getD i.val 0 ∈ ia.cps.toList := by decide +kernel
theorem Ik : ∀ i : Fin 36, sgA.cps.toList.getD i.val 0 ∈ fb.cps.toList := by decide +kernel
theorem IH : (109 : Nat) ∈ ia.cps.toList := by decide +kernel
theorem Fw : (109 : Nat) ∈ fb.cps.toList := by decide +kernel
theorem AG (c : Int) (k : Nat) : cV (nm c k) = true := by
 have h1 := su c
 have h2 := zF c
 have h3 := yU c k
 have hj := vi c k
 unfold cV
 rw [h3, decide_eq_true (by omega), decide_eq_true (by omega), rS, iR]
 have e1 : (List.replicate (nmP c).toNat 109 ++ sgA.cps.toList.getD (nmJ c k) 0 :: List.replicate (nmN c - 1 - nmP c).toNat 109).getD 0 0 ∈ ia.cps.toList := by
  by_cases h0 : (nmP c).toNat = 0
  ·rw [h0]
   have hm : nmM c = 26 := by unfold nmM; rw [if_neg (by omega)]
   have hl : nmJ c k < 26 := by
    have := Int.emod_lt_of_pos (c / 64 + k) (show (0 : Int) < nmM c by omega)
    have := hj.1
    omega
   exact IC ⟨_, hl⟩
  ·obtain ⟨n, hn⟩ : ∃ n, (nmP c).toNat = n + 1 := ⟨(nmP c).toNat - 1, by omega⟩
   rw [hn]
   exact IH
 rw [decide_eq_true e1, AA]
 ·rfl
 ·rw [rS]
  intro x hx
  rcases List.mem_append.mp hx with hx | hx
  ·rw [(List.mem_replicate.mp hx).2]; exact Fw
  ·rcases List.mem_cons.mp hx with rfl | hx
   ·exact Ik ⟨_, hj.2⟩
   ·rw [(List.mem_replicate.mp hx).2]; exact Fw
theorem sr (l : List Str) (h : l.Nodup) : ∀ i, i ≤ l.length → ce (fun i => l.getD i Str.empty) i = l.take i
 | 0, _ => by simp [ce]
 | i + 1, hi => by
  have hi' : i < l.length := hi
  rw [eX, sr l h i (by omega)]
  have e : l.getD i Str.empty = l[i] := by rw [List.getD_eq_getElem?_getD, List.getElem?_eq_getElem hi']; rfl
  rw [e]
  unfold nj
  have no : ¬ (l.take i).any (fun x => x == l[i]) = true := fun z => by
   obtain ⟨x, hx, ex⟩ := List.any_eq_true.mp z
   have ex' : x = l[i] := by simpa using ex
   subst ex'
   have hd : l = l.take i ++ l[i] :: l.drop (i + 1) := by rw [← List.drop_eq_getElem_cons hi', List.take_append_drop]
   rw [hd] at h
   exact (List.nodup_append.mp h).2.2 _ hx _ (List.mem_cons_self ..) rfl
  rw [if_neg no, List.take_add_one, List.getElem?_eq_getElem hi']
  rfl
theorem wI {l : List Str} (h : l.Nodup) : dQ l = l.length := by
 unfold dQ
 rw [sr l h _ (Nat.le_refl _), List.take_length]
theorem Ce (c : Int) {j : Nat} (h : j < 24) : (nms c).getD j Str.empty = nm c j := by
 unfold nms
 rw [List.getD_eq_getElem?_getD, List.getElem?_map, List.getElem?_range h]; rfl
theorem Ht (p c : Int) : (tgs p (nms c)).Nodup := by
 unfold tgs
 have h4 := (yK p).2
 refine List.Nodup.map_on' ?_ (List.nodup_range)
 intro a ha b hb e
 have ha' := List.mem_range.mp ha
 have hb' := List.mem_range.mp hb
 obtain ⟨e1, l1⟩ := vI p a
 obtain ⟨e2, l2⟩ := vI p b
 rw [Ce c l1, Ce c l2] at e
 have e3 := Dv l1 l2 e
 omega
where
 List.Nodup.map_on' {α β : Type} {f : α → β} {l : List α} (h : ∀ a ∈ l, ∀ b ∈ l, f a = f b → a = b) (hl : l.Nodup) : (l.map f).Nodup := by
  induction l with
  | nil => exact List.nodup_nil
  | cons x l ih =>
   obtain ⟨h1, h2⟩ := List.nodup_cons.mp hl
   rw [List.map_cons, List.nodup_cons]
   refine ⟨fun hm => ?_, ih (fun a ha b hb => h a (List.mem_cons_of_mem _ ha) b (List.mem_cons_of_mem _ hb)) h2⟩
   obtain ⟨y, hy, e⟩ := List.mem_map.mp hm
   exact h1 (h y (List.mem_cons_of_mem _ hy) x (List.mem_cons_self ..) e ▸ hy)
theorem Eg (c : Int) : (nms c).length = 24 := by unfold nms; simp
theorem tM {p c : Int} {x : Str} (h : x ∈ tgs p (nms c)) : ∃ k, x = nm c k := by
 have h2 := Fb (Eg c) h
 unfold nms at h2
 obtain ⟨k, _, rfl⟩ := List.mem_map.mp h2
 exact ⟨k, rfl⟩
theorem EF (p c : Int) : gp (.tup ((tgs p (nms c)).map Tr.str)) = true := by
 have h4 := EB p (nms c)
 show (decide (((tgs p (nms c)).map Tr.str).length ≤ 4) && (((tgs p (nms c)).map Tr.str).all cX && decide (dQ (((tgs p (nms c)).map Tr.str).map dt) = ((tgs p (nms c)).map Tr.str).length))) = true
 have e : ((tgs p (nms c)).map Tr.str).map dt = tgs p (nms c) := by
  rw [List.map_map]
  exact (List.map_congr_left fun x _ => rfl).trans (List.map_id _)
 rw [e, wI (Ht p c), List.length_map, decide_eq_true h4, decide_eq_true rfl, Bool.true_and, Bool.and_true]
 refine List.all_eq_true.mpr fun t ht => ?_
 obtain ⟨x, hx, rfl⟩ := List.mem_map.mp ht
 obtain ⟨k, rfl⟩ := tM hx
 exact AG c k
theorem BK : ∀ k ∈ nY, (dm.any fun y => y == k) = true := by decide +kernel
theorem AN : ∀ k ∈ nY, k.length ≤ 100000 := by decide +kernel
theorem Hf : ∀ c ∈ ls sgT, c ∈ gS.cps.toList := by decide +kernel
theorem HR : (32 : Nat) ∉ ls sgT := by decide +kernel
theorem Hy {l : List Nat} {b : Nat} (h : ∀ x ∈ l, x ≤ b) : l.sum ≤ l.length * b := by
 induction l with
 | nil => simp
 | cons x l ih =>
  have h1 := h x (List.mem_cons_self ..)
  have h2 := ih fun y hy => h y (List.mem_cons_of_mem _ hy)
  rw [List.sum_cons, List.length_cons, Nat.succ_mul]; omega
theorem CO {ws : List Str} (h : Wds ws) : (J ws).length ≤ 70 := by
 have h1 := StrLaws.join_length_le bl ws
 have h2 : (ws.map (·.length)).sum ≤ (ws.map (·.length)).length * 9 := Hy fun x hx => by
  obtain ⟨w, hw, rfl⟩ := List.mem_map.mp hx
  exact (h.w w hw).n1
 have b1 : bl.length = 1 := by decide +kernel
 rw [List.length_map] at h2
 rw [b1, Nat.mul_one] at h1
 have := h.n
 show (Str.join bl ws).length ≤ 70
 omega
theorem ET {ws : List Str} (h : Wds ws) : jt (J ws) = true := by
 have hl := CO h
 unfold jt
 rw [decide_eq_true (by omega), Bool.true_and]
 by_cases hw : ws = []
 ·subst hw; rw [decide_eq_true (show J [] = Str.empty from rfl)]; rfl
 ·have nb : ∀ w ∈ ws, 32 ∉ ls w := fun w hw' hb => HR ((h.w w hw').sg _ hb)
  rw [show Txt.split (J ws) bl1 = ws from WM.split_words nb hw]
  refine Bool.or_eq_true_iff.mpr (.inr (List.all_eq_true.mpr fun w hw' => ?_))
  have W := h.w w hw'
  have a1 := W.n0
  have a2 := W.n1
  unfold df
  rw [decide_eq_true (by omega), decide_eq_true (by omega), AA fun c hc => Hf c (W.sg c hc)]; rfl
theorem Er : ∀ k ∈ nY, k ≠ iy → k ≠ dy → (br.any fun y => y == k) = false := by decide +kernel
theorem Bd {c : Int} {xs : List Lr} (h : RwsOk c xs) {k : Nat} {x : Lr} (hx : xs[k]? = some x) (kids : List Tr) (hk : kids.length ≤ (bz xs k).length) : aT (uF x.r kids) = true := by
 have R := h.row k x hx
 obtain ⟨p, ep⟩ := R.tags
 have n12 := h.n
 have hl := yT xs k
 show (jR (.str x.r.kind) && cX (.str x.r.name) && gp (.tup (x.r.tags.map Tr.str)) && (dS x.r.kind x.r.more.t && gM x.r.kind (.tup kids))) = true
 have e1 : jR (.str x.r.kind) = true := BK _ R.kind
 have e2 : cX (.str x.r.name) = true := by rw [R.name]; exact AG c k
 have e3 : gp (.tup (x.r.tags.map Tr.str)) = true := by rw [ep]; exact EF p c
 have e4 : dS x.r.kind x.r.more.t = true := by
  unfold dS
  rcases R.more with ⟨a, ws, b, W⟩ | ⟨a, n, b, n1, n9⟩ | ⟨a1, a2, b⟩
  ·rw [b, a, if_pos (show dy = "words" from rfl)]
   exact ET W
  ·rw [b, a, if_neg (by decide +kernel), if_pos (show ui = "grid" from rfl)]
   show (decide (0 ≤ n) && (decide (1 ≤ n) && decide (n ≤ 9))) = true
   rw [decide_eq_true (by omega), decide_eq_true n1, decide_eq_true n9]; rfl
  ·rw [b, if_neg (show ¬ x.r.kind = "words" from a1), if_neg (show ¬ x.r.kind = "grid" from a2)]; rfl
 have e5 : gM x.r.kind (.tup kids) = true := by
  show decide (kids.length ≤ if (br.any fun y => y == x.r.kind) = true then 0 else 12) = true
  refine decide_eq_true ?_
  by_cases h0 : bz xs k = []
  ·rw [h0] at hk
   have : kids.length = 0 := by simpa using hk
   omega
  ·obtain ⟨j, hj⟩ := List.exists_mem_of_ne_nil _ h0
   obtain ⟨y, hy, ey⟩ := gK.mp hj
   rcases (h.row j y hy).about with ⟨_, e, _⟩ | ⟨i, z, hi, hz, e, hh, _⟩
   ·omega
   ·have : i = k := by omega
    subst this
    rw [hx] at hz
    cases hz
    rw [Er _ R.kind hh.1 hh.2.1, if_neg (by decide)]
    omega
 rw [e1, e2, e3, e4, e5]; rfl
theorem xD {c : Int} {xs : List Lr} (h : RwsOk c xs) : ∀ (n : Nat) (js : List (Nat × Nat)) (ns : List Str), (∀ p ∈ js, p.1 < xs.length ∧ p.2 = 12 - p.1) → (((js.map fun p => jh xs p.2 p.1).flatten).Nodup) → (∀ i ∈ (js.map fun p => jh xs p.2 p.1).flatten, ns.contains (nm c i) = false) →
  ns.length + (js.map fun p => jh xs p.2 p.1).flatten.length ≤ 40 → (js.map fun p => jh xs p.2 p.1).flatten.length < n → jQ n (js.map fun p => (tOf xs p.1, match xs[p.1]? with | some x => x.r.deep.toNat | none => 0)) ns = true
 | 0, _, _, _, _, _, _, hn => by omega
 | n + 1, [], _, _, _, _, _, _ => rfl
 | n + 1, (j, f) :: js, ns, h1, h2, h3, h4, h5 => by
  obtain ⟨hj, hf⟩ := h1 (j, f) (List.mem_cons_self ..)
  have hj' : j < xs.length := hj
  have n12 := h.n
  have ex : xs[j]? = some xs[j] := List.getElem?_eq_getElem hj'
  obtain ⟨g, hg⟩ : ∃ g, f = g + 1 := ⟨f - 1, by have : f = 12 - j := hf; omega⟩
  subst hg
  have hf' : g + 1 = 12 - j := hf
  have eL : (((j, g + 1) :: js).map fun p : Nat × Nat => jh xs p.2 p.1).flatten = j :: (((bz xs j).reverse.map (jh xs g)).flatten ++ (js.map fun p => jh xs p.2 p.1).flatten) := rfl
  rw [eL] at h2 h3 h4 h5
  have hd := h.deep j _ ex
  have R := h.row j _ ex
  show (if (aT (tOf xs j) && decide ((match xs[j]? with | some x => x.r.deep.toNat | none => 0) ≤ 8) && !ns.contains (ah (tOf xs j)) && decide (ns.length < 40)) = true then jQ n ((aj (tOf xs j)).reverse.map (fun k => (k, (match xs[j]? with | some x => x.r.deep.toNat | none => 0) + 1)) ++ js.map fun p => (tOf xs p.1, match xs[p.1]? with | some x => x.r.deep.toNat | none => 0)) (ah (tOf xs j) :: ns) else false) = true
  rw [ex]
  dsimp only
  have et := BN h ex
  have ea : aT (tOf xs j) = true := by rw [et]; exact Bd h ex _ (by rw [List.length_map]; exact Nat.le_refl _)
  have en : ah (tOf xs j) = nm c j := by rw [et]; exact R.name
  have ek : aj (tOf xs j) = (bz xs j).map (tOf xs) := by rw [et]; rfl
  rw [ea, en, ek, decide_eq_true (show xs[j].r.deep.toNat ≤ 8 by omega), h3 j (List.mem_cons_self ..), decide_eq_true (show ns.length < 40 by rw [List.length_cons] at h4; omega), if_pos (show (true && true && !false && true) = true from rfl)]
  rw [List.nodup_cons] at h2
  rw [List.length_cons] at h4 h5
  have eR : ∀ k ∈ (bz xs j), xs[k]?.map (fun x => x.r.deep.toNat) = some (xs[j].r.deep.toNat + 1) := fun k hk => by
   obtain ⟨y, hy, ey⟩ := gK.mp hk
   rcases (h.row k y hy).about with ⟨_, e, _⟩ | ⟨i, z, hi, hz, e, hh, e2⟩
   ·omega
   ·have : i = j := by omega
    subst this
    rw [ex] at hz
    cases hz
    rw [hy]
    show some y.r.deep.toNat = _
    congr 1
    omega
  have eS : ((bz xs j).map (tOf xs)).reverse.map (fun k => (k, xs[j].r.deep.toNat + 1)) = (((bz xs j).reverse.map fun k => (k, 12 - k)).map fun p : Nat × Nat => (tOf xs p.1, match xs[p.1]? with | some x => x.r.deep.toNat | none => 0)) := by
   rw [← List.map_reverse, List.map_map, List.map_map]
   refine List.map_congr_left fun k hk => ?_
   have := eR k (List.mem_reverse.mp hk)
   cases exk : xs[k]? with
   | none => rw [exk] at this; cases this
   | some y =>
    rw [exk] at this
    show (tOf xs k, xs[j].r.deep.toNat + 1) = (tOf xs k, match xs[k]? with | some x => x.r.deep.toNat | none => 0)
    rw [exk]
    injection this with this
    rw [← this]
  rw [eS, ← List.map_append]
  have eF : (((bz xs j).reverse.map fun k => (k, 12 - k)).map fun p : Nat × Nat => jh xs p.2 p.1) = (bz xs j).reverse.map (jh xs g) := by
   rw [List.map_map]
   refine List.map_congr_left fun k hk => ?_
   obtain ⟨a, b⟩ := cq h (List.mem_reverse.mp hk)
   exact (rod_fuel h (12 - k) g k (by omega) (by omega) b)
  have eL2 : ((((bz xs j).reverse.map fun k => (k, 12 - k)) ++ js).map fun p : Nat × Nat => jh xs p.2 p.1).flatten = ((bz xs j).reverse.map (jh xs g)).flatten ++ (js.map fun p => jh xs p.2 p.1).flatten := by
   rw [List.map_append, eF, List.flatten_append]
  refine xD h n _ _ (fun p hp => ?_) (by rw [eL2]; exact h2.2) (fun i hi => ?_) (by rw [eL2, List.length_cons]; omega) (by rw [eL2]; omega)
  ·rcases List.mem_append.mp hp with hp | hp
   ·obtain ⟨k, hk, rfl⟩ := List.mem_map.mp hp
    exact ⟨(cq h (List.mem_reverse.mp hk)).2, rfl⟩
   ·exact h1 p (List.mem_cons_of_mem _ hp)
  ·rw [eL2] at hi
   rw [List.contains_cons, Bool.or_eq_false_iff]
   refine ⟨?_, h3 i (List.mem_cons_of_mem _ hi)⟩
   have hij : i ≠ j := fun e => h2.1 (e ▸ hi)
   have hil : i < xs.length := by
    rcases List.mem_append.mp hi with hi | hi
    ·obtain ⟨l, hl, hi⟩ := List.mem_flatten.mp hi
     obtain ⟨m, hm, rfl⟩ := List.mem_map.mp hl
     exact (qB h (cq h (List.mem_reverse.mp hm)).2 hi).2
    ·obtain ⟨l, hl, hi⟩ := List.mem_flatten.mp hi
     obtain ⟨p, hp, rfl⟩ := List.mem_map.mp hl
     exact (qB h (h1 p (List.mem_cons_of_mem _ hp)).1 hi).2
   exact beq_eq_false_iff_ne.mpr fun e => hij (Dv (by omega) (by omega) e)
where
 rod_fuel {c : Int} {xs : List Lr} (h : RwsOk c xs) : ∀ (n m k : Nat), 12 - k ≤ n → 12 - k ≤ m → k < xs.length → jh xs n k = jh xs m k := by
  intro n
  induction n with
  | zero => intro m k h1 _ h3; have := h.n; omega
  | succ n ih =>
   intro m k h1 h2 h3
   have n12 := h.n
   obtain ⟨m', rfl⟩ : ∃ m', m = m' + 1 := ⟨m - 1, by omega⟩
   show k :: _ = k :: _
   congr 2
   refine List.map_congr_left fun j hj => ?_
   obtain ⟨a, b⟩ := cq h (List.mem_reverse.mp hj)
   exact ih m' j (by omega) (by omega) b
theorem Cr {c : Int} {xs : List Lr} (h : RwsOk c xs) (h0 : 0 < xs.length) : bN (tOf xs 0) = true := by
 have ex : xs[0]? = some xs[0] := List.getElem?_eq_getElem h0
 have nd := Cz h 12 0 h0
 have lim := Fy 12 _ nd fun i hi => by have := qB h h0 hi; have := h.n; omega
 have d1 : xs[0].r.deep.toNat = 1 := by
  rcases (h.row 0 _ ex).about with ⟨_, _, e⟩ | ⟨j, _, hj, _⟩
  ·rw [e]; rfl
  ·omega
 have := xD h 42 [(0, 12)] [] (by intro p hp; rw [List.mem_singleton.mp hp]; exact ⟨h0, rfl⟩) (by simpa using nd) (fun i _ => rfl) (by simp; omega) (by simp; omega)
 rw [List.map_cons, List.map_nil, ex] at this
 dsimp only at this
 rw [d1] at this
 exact this
theorem FA {c : Int} {xs : List Lr} (h : RwsOk c xs) {H : Hp} : ∀ (n k : Nat) (a : Addr), xs.length - k ≤ n → k < xs.length → IsBx H a (rE xs k) → TrAt H (tOf xs k) (.ref a)
 | 0, k, _, h1, h2, _ => by omega
 | n + 1, k, a, h1, h2, x => by
  have ex : xs[k]? = some xs[k] := List.getElem?_eq_getElem h2
  obtain ⟨t, ks, as, x1, x2, x3, x4⟩ := x.row h ex
  have R := h.row k _ ex
  have n1 := su c
  obtain ⟨p, ep⟩ := R.tags
  rw [BN h ex]
  refine TrAt.tup' x1 (.cons (.str _ (AN _ R.kind)) (.cons (.str _ (by rw [R.name, yU]; omega)) (.cons (TrAt.tup' x2 ?_) (.cons ?_ (.cons (TrAt.tup' x3 ?_) .nil)))))
  ·have hb : ∀ z ∈ xs[k].r.tags, z.length ≤ 100000 := fun z hz => by
    rw [ep] at hz
    obtain ⟨i, rfl⟩ := tM hz
    rw [yU]; omega
   generalize xs[k].r.tags = l at hb
   clear ep x2
   induction l with
   | nil => exact .nil
   | cons z l ih => exact .cons (.str z (hb z (List.mem_cons_self ..))) (ih fun y hy => hb y (List.mem_cons_of_mem _ hy))
  ·rcases R.more with ⟨_, ws, b, W⟩ | ⟨_, m, b, _⟩ | ⟨_, _, b⟩ <;> rw [b]
   ·exact .str _ (by have := CO W; omega)
   ·exact .int m
   ·exact .non
  ·have go : ∀ (js : List Nat), (∀ j ∈ js, j ∈ bz xs k) → ∀ (l : List Addr), Fg xs H l js → bL H (js.map (tOf xs)) (l.map V.ref) := by
    intro js
    induction js with
    | nil => intro _ l u; cases u; exact .nil
    | cons j js ih =>
     intro hm l u
     cases u with
     | cons ua ub =>
      obtain ⟨z1, z2⟩ := cq h (hm j (List.mem_cons_self ..))
      exact .cons (FA h n j _ (by omega) z2 ua) (ih (fun i hi => hm i (List.mem_cons_of_mem _ hi)) _ ub)
   exact go _ (fun _ z => z) _ x4
end KP
namespace TX
open PySem WM
open Builtin Builtin.Str
end TX
namespace KP
open PySem L2 PyProof.Rows
noncomputable def SqE (H : Hp) (a : Addr) (xs : List V) : Prop := H a = some (.tup xs) ∨ H a = some (.lst xs)
section
variable {P : Program} {w : World} {K : PySem.W.Frag} {mg : Str → Option Value} {base : Heap} {A : Adr}
theorem SqE.same {H H' : Hp} {a : Addr} {xs : List V} (s : aK H H') (h : SqE H a xs) : SqE H' a xs := h.imp (s _ _) (s _ _)
theorem SqE.seq {H : Hp} {a : Addr} {xs : List V} (h : SqE H a xs) : SqL K H a xs ∨ SqT K H a xs := h.elim (fun e => .inr (.of e)) fun e => .inl (.of e)
theorem SqE.ix {H : Hp} {a : Addr} {xs : List V} {i : Int} {v : V} {Q : VK} (h : SqE H a xs) (e : atI xs i = some v) (q : Q v H) : rIx K (.ref a) (.int i) H Q :=
 h.elim (fun z => .inr (.inl ⟨a, xs, i, v, rfl, rfl, .of z, e, q⟩)) fun z => .inl ⟨a, xs, i, v, rfl, rfl, .of z, e, q⟩
theorem DT {H : Hp} {v : V} (h : dR v = true) (nb : ∀ x, v ≠ .bl x) : ∃ S, Is K H v S ∧ uu S "tuple" = false ∧ uu S "list" = false ∧ uu S "bool" = false := by
 cases v with
 | non => exact ⟨_, .non, rfl, rfl, rfl⟩
 | bl x => exact absurd rfl (nb x)
 | int i => exact ⟨_, .int i, rfl, rfl, rfl⟩
 | str x => exact ⟨_, .str x, rfl, rfl, rfl⟩
 | _ => cases h
noncomputable abbrev xR : Scope := (match bC iL with | (.If _ (_ :: (.Return (some (.BoolOp _ (_ :: (.Call _ ((.ListComp _ _ sc _) :: _) _ _) :: _) _)) _) :: _) _ _) :: _ => sc | _ => ap iL)
theorem we : Blk (ap iL) rq xR ["_law_k"] [0, 1] := ⟨rfl, by decide +kernel, by decide +kernel, by decide +kernel, by decide +kernel⟩
theorem xx : (cR rq ["_law_k"] [0, 1]).Nodup := by decide +kernel
noncomputable def yR (n : Nat) : Sp := fun vs H Q _ => ∃ u v : V, vs = [u, v] ∧ Lk H n u v ∧ ∀ H', aK H H' → Q (.bl true) H'
seal PE PS PSs L2.PA PT PI PG in
theorem AX (T : Txt K mg A) (n : Nat) (sG : FnOk P w K mg base CX0 n A.mQ A.nV iZ (yR n)) : FnOk P w K mg base CX0 (n + 1) A.mQ A.nV iZ (yR (n + 1)) := by
 refine T.gN.F.ok AW (fun vs H Q E h => ?_) (fun cdv B outer s H vs Q E hr h => ?_)
 ·obtain ⟨u, v, rfl, _⟩ := h; rfl
 obtain ⟨u, v, rfl, lk, q⟩ := h
 refine ⟨_, @ag _ _ _ _ _ (bF (cg (ax BF rfl T.ay aL (aa (pv 1) (aa (aM (aa (bK rfl T.cy db (v := .ty "tuple") rfl) (aa (bK rfl T.mB zz (v := .ty "list") rfl) ae))) ae)))) (@ag _ _ _ _ _ (bF (PW.pt (dL (aE nO (ax bG rfl T.ay aL (aa (pv 0) (aa (bK rfl T.cy db (v := .ty "tuple") rfl) ae))) (ax bG rfl T.ay aL (aa (pv 1) (aa (bK rfl T.cy db (v := .ty "tuple") rfl) ae))) (aG _)) (du (aE nO (ax bG rfl T.ay aL (aa (pv 0) (aa (bK rfl T.mB zz (v := .ty "list") rfl) ae))) (ax bG rfl T.ay aL (aa (pv 1) (aa (bK rfl T.mB zz (v := .ty "list") rfl) ae))) (aG _))))) (av (aO gq)) aR)
  (av (aO (cZ (bO bW (ax aN rfl T.bR ca (aa (pv 0) ae)) (ax aN rfl T.bR ca (aa (pv 1) ae)) (aG _)) (de (ax (nK rfl) rfl T.pw Aq (aa (dZ we rfl (cJ rfl T.cL (aa (ax aN rfl T.bR ca (aa (pv 1) ae)) ae)) (fun _ _ _ _ _ => aS (i := 0) xx rfl (.inl rfl)) (fun _ _ _ _ _ => fj) (fun _ _ _ _ _ => az sG hr rfl T.gN.m T.gN.F.kp T.gN.b .nil bg (aa (aI (Ax (K := K) rfl) (pv 1) (pv 0) (fun _ _ => rfl)) (aa (aI (Ax (K := K) rfl) (pv 2) (pv 0) (fun _ _ => rfl)) ae)))) ae))))))) aR)
  (@ag _ _ _ _ _ (bF (PW.pt (dL (cg (ax bG rfl T.ay aL (aa (pv 1) (aa (bK rfl T.gP lW (v := .ty "bool") rfl) ae)))) (du (cg (ax bG rfl T.ay aL (aa (pv 0) (aa (bK rfl T.gP lW (v := .ty "bool") rfl) ae))))))) (av (aO (cZ (ax bG rfl T.ay aL (aa (pv 0) (aa (bK rfl T.gP lW (v := .ty "bool") rfl) ae))) (cZ (ax bG rfl T.ay aL (aa (pv 1) (aa (bK rfl T.gP lW (v := .ty "bool") rfl) ae))) (de (bO bW (pv 0) (pv 1) (aG _))))))) aR)
  (av (aO (bO bW (pv 0) (pv 1) (aG _))))), ?_⟩
 refine ⟨_, rfl, (by show 2 ≤ sizeLine; decide), fun p hp => ?_⟩
 have s1 : aK H (upd H p (.tup [.ty "tuple", .ty "list"])) := ao hp _
 have e1 : upd H p (.tup [.ty "tuple", .ty "list"]) p = some (.tup [.ty "tuple", .ty "list"]) := ai
 replace lk := Lk.same s1 lk
 replace q : ∀ H', aK (upd H p (.tup [.ty "tuple", .ty "list"])) H' → Q (.bl true) H' := fun H' z => q H' (s1.trans z)
 generalize upd H p (.tup [.ty "tuple", .ty "list"]) = H1 at s1 e1 q lk ⊢
 rcases lk with ⟨rfl, fl, nb⟩ | ⟨a, b, xs, ys, rfl, rfl, e, hl, k⟩
 ·obtain ⟨S, hS, n1, n2, n3⟩ := DT (K := K) (H := H1) fl nb
  have k2 : PySem.W.kitAny K (.type S) [.type "tuple", .type "list"] = some false := rf fun c hc => by
   simp only [List.mem_cons, List.not_mem_nil, or_false] at hc
   rcases hc with rfl | rfl
   ·rw [hS.kit T.kit "tuple", n1]
   ·rw [hS.kit T.kit "list", n2]
  have k3 : PySem.W.kitOne K (.type S) (.type "bool") = some false := by rw [hS.kit T.kit "bool", n3]
  have sc : HZ u u = true := by cases u <;> first | rfl | cases fl
  refine ⟨u, p, "tuple", "list", _, false, rfl, e1, hS.ty, k2, _, rfl, bH ?_⟩
  refine ⟨_, rfl, u, "bool", _, false, rfl, hS.ty, k3, _, rfl, bH ⟨_, rfl, u, "bool", _, false, rfl, hS.ty, k3, _, rfl, bH ?_⟩⟩
  refine ⟨_, rfl, _, rfl, sc, ?_⟩
  rw [decide_eq_true rfl]
  exact q _ (.refl _)
 ·have hx : SqE H1 a xs := e.imp And.left And.left
  have hy : SqE H1 b ys := e.imp And.right And.right
  obtain ⟨S, iA, iB, k2⟩ : ∃ S, Is K H1 (.ref a) S ∧ Is K H1 (.ref b) S ∧ PySem.W.kitAny K (.type S) [.type "tuple", .type "list"] = some true := by
   rcases e with ⟨ea, eb⟩ | ⟨ea, eb⟩
   ·exact ⟨_, .tup ea, .tup eb, by unfold PySem.W.kitAny PySem.W.kitOne; rfl⟩
   ·refine ⟨_, .lst ea, .lst eb, ?_⟩
    unfold PySem.W.kitAny
    rw [yF T.kit (S := "list") (T := "tuple") rfl rfl]
    show PySem.W.kitAny K (.type "list") [.type "list"] = some true
    unfold PySem.W.kitAny PySem.W.kitOne; rfl
  have lxy := k.len
  refine ⟨.ref b, p, "tuple", "list", _, true, rfl, e1, iB.ty, k2, _, rfl, bd ?_⟩
  refine ⟨_, rfl, .ref a, "tuple", _, _, rfl, iA.ty, iA.kit T.kit "tuple", _, rfl, .ref b, "tuple", _, _, rfl, iB.ty, iB.kit T.kit "tuple", rfl, _, rfl, aP (by simp) ?_⟩
  refine ⟨_, rfl, .ref a, "list", _, _, rfl, iA.ty, iA.kit T.kit "list", _, rfl, .ref b, "list", _, _, rfl, iB.ty, iB.kit T.kit "list", rfl, _, rfl, aP (by simp) ?_⟩
  refine ⟨_, rfl, a, xs, rfl, hx.seq, _, rfl, b, ys, rfl, hy.seq, rfl, _, rfl, aH (decide_eq_true (by rw [lxy])) ?_⟩
  refine ⟨_, rfl, b, ys, rfl, hy.seq, _, rfl, by omega, by have k := (show (10000 : Nat) ≤ sizeLine by decide); omega, lD (n := ((ys.length : Nat) : Int).toNat) (fun j acc H' => acc = List.replicate j (V.bl true) ∧ j ≤ 10000 ∧ aK H1 H') ⟨rfl, by omega, .refl _⟩ (fun j acc H' z => ?_) (fun j acc H' N kk hj z => ?_) fun acc H' z => ?_⟩
  ·obtain ⟨rfl, h1, _⟩ := z
   rw [List.length_replicate]
   exact Nat.lt_of_le_of_lt h1 (by decide)
  ·obtain ⟨rfl, h1, s2⟩ := z
   have hj' : j < ys.length := by omega
   have hjx : j < xs.length := by omega
   dsimp only [oP]
   rw [if_pos rfl]
   refine ⟨_, rfl, _, rfl, (hx.same s2).ix (v := xs[j]) (by rw [Int.zero_add]; exact bY (List.getElem?_eq_getElem hjx)) ⟨_, rfl, _, rfl, (hy.same s2).ix (v := ys[j]) (by rw [Int.zero_add]; exact bY (List.getElem?_eq_getElem hj')) ?_⟩⟩
   exact ⟨_, _, rfl, Lk.same s2 (k.get (List.getElem?_eq_getElem hjx) (List.getElem?_eq_getElem hj')), fun H2 s3 => kk _ _ ⟨by rw [← List.replicate_append_replicate (n := j) (m := 1)]; rfl, by omega, s2.trans s3⟩⟩
  ·obtain ⟨rfl, h1, s2⟩ := z
   intro l hl2
   have s3 := s2.trans (ao hl2 (.lst (List.replicate ((ys.length : Nat) : Int).toNat (V.bl true))))
   refine ⟨l, List.replicate ((ys.length : Nat) : Int).toNat true, rfl, .of (by rw [ai, List.map_replicate]), ?_⟩
   rw [show (List.replicate ((ys.length : Nat) : Int).toNat true).all id = true from List.all_eq_true.mpr fun x hx => by rw [(List.mem_replicate.mp hx).2]; rfl]
   exact q _ s3
theorem AD (T : Txt K mg A) : ∀ n, FnOk P w K mg base CX0 n A.mQ A.nV iZ (yR n)
 | 0 => ⟨fun vs H Q E h => by obtain ⟨_, _, _, h, _⟩ := h; exact h.elim, fun _ _ _ _ _ _ vs Q E _ _ _ _ h => by obtain ⟨_, _, _, h, _⟩ := h; exact h.elim⟩
 | n + 1 => AX T n (AD T n)
end
open PySem L2 PyProof.Rows WM TX
noncomputable def kindOf : Tr → Str
 | .tup [k, _, _, _, _] => dt k
 | _ => Str.empty
noncomputable def fM : Tr → List Str
 | .tup [_, _, .tup l, _, _] => l.map dt
 | _ => []
noncomputable def eQ : Tr → Tr
 | .tup [_, _, _, m, _] => m
 | _ => .non
noncomputable def col : Str := " : "
noncomputable def nl : Str := "\n"
structure Bok (t : Tr) : Prop where
 form : t = .tup [.str (kindOf t), .str (ah t), .tup ((fM t).map Tr.str), eQ t, .tup (aj t)]
 kind : kindOf t ∈ dm
 name : cV (ah t) = true
 tags : ∀ x ∈ fM t, cV x = true
 tlen : (fM t).length ≤ 4
 words : kindOf t = "words" → ∃ x, eQ t = .str x ∧ jt x = true
 grid : kindOf t = "grid" → ∃ i : Int, eQ t = .int i ∧ 1 ≤ i ∧ i ≤ 9
 other : kindOf t ≠ "words" → kindOf t ≠ "grid" → eQ t = .non
 kids : (aj t).length ≤ 12
theorem xi : ∀ {l : List Tr}, l.all cX = true → (l.map dt).map Tr.str = l
 | [], _ => rfl
 | a :: l, h => by
  rw [List.all_cons, Bool.and_eq_true] at h
  obtain ⟨x, rfl⟩ := oK h.1
  rw [List.map_cons, List.map_cons, xi h.2]; rfl
theorem bf {t : Tr} (h : aT t = true) : Bok t := by
 obtain ⟨k, n, tg, m, l, rfl, hl⟩ := rL h
 have h' : (jR (.str k) && cX (.str n) && gp tg && (dS k m && gM k (.tup l))) = true := h
 simp only [Bool.and_eq_true] at h'
 obtain ⟨⟨⟨hk, hn⟩, ht⟩, hm, _⟩ := h'
 cases tg with
 | tup tl =>
  have ht' : (decide (tl.length ≤ 4) && (tl.all cX && decide (dQ (tl.map dt) = tl.length))) = true := ht
  simp only [Bool.and_eq_true, decide_eq_true_eq] at ht'
  obtain ⟨t1, t2, t3⟩ := ht'
  have hkm : k ∈ dm := by
   have : (dm.any fun y => y == k) = true := hk
   obtain ⟨y, hy, e⟩ := List.any_eq_true.mp this
   rw [← eq_of_beq e]; exact hy
  refine ⟨?_, hkm, hn, fun x hx => ?_, ?_, fun e => ?_, fun e => ?_, fun e1 e2 => ?_, hl⟩
  ·show Tr.tup [.str k, .str n, .tup tl, m, .tup l] = .tup [.str k, .str n, .tup ((tl.map dt).map Tr.str), m, .tup l]
   rw [xi t2]
  ·have hx' : x ∈ tl.map dt := hx
   obtain ⟨y, hy, rfl⟩ := List.mem_map.mp hx'
   have := List.all_eq_true.mp t2 y hy
   obtain ⟨z, rfl⟩ := oK this
   exact this
  ·show (tl.map dt).length ≤ 4
   rw [List.length_map]; exact t1
  ·have e' : k = "words" := e
   unfold dS at hm
   rw [if_pos e'] at hm
   cases m with
   | str x => exact ⟨x, rfl, hm⟩
   | _ => cases hm
  ·have e' : k = "grid" := e
   unfold dS at hm
   rw [if_neg (by rw [e']; decide), if_pos e'] at hm
   cases m with
   | int i =>
    have hm' : (decide (0 ≤ i) && (decide (1 ≤ i) && decide (i ≤ 9))) = true := hm
    simp only [Bool.and_eq_true, decide_eq_true_eq] at hm'
    exact ⟨i, rfl, hm'.2⟩
   | _ => cases hm
  ·have e1' : ¬ k = "words" := e1
   have e2' : ¬ k = "grid" := e2
   unfold dS at hm
   rw [if_neg e1', if_neg e2'] at hm
   show m = .non
   cases m with
   | non => rfl
   | _ => cases hm
 | _ => cases ht
theorem Bq : ∀ c ∈ fb.cps.toList, c ≠ 32 ∧ c ≠ 10 ∧ c ≠ 58 := by decide +kernel
theorem qZ {x z : Str} (h : cA x z = true) {c : Nat} (hc : c ∈ ls x) : c ∈ z.cps.toList := by
 have := List.all_eq_true.mp h c hc
 rw [iR] at this
 exact of_decide_eq_true this
theorem zH {x : Str} (h : cV x = true) : (∀ c ∈ ls x, c ≠ 32 ∧ c ≠ 10 ∧ c ≠ 58) ∧ x.length ≤ 8 := by
 unfold cV at h
 simp only [Bool.and_eq_true, decide_eq_true_eq] at h
 exact ⟨fun c hc => Bq c (qZ h.2.2 hc), by omega⟩
section
variable {t : Tr} (b : Bok t)
include b
end
theorem cF (a b : Str) : (a ++ b).length = a.length + b.length := by
 show (a.cps ++ b.cps).size = _
 rw [Array.size_append]; rfl
noncomputable def dM : Nat → Nat → Tr → List (Nat × Tr)
 | 0, _, _ => []
 | f + 1, d, t => (d, t) :: ((aj t).map (dM f (d + 1))).flatten
noncomputable def cf : Nat → Tr → Bool
 | 0, _ => false
 | f + 1, t => aT t && (aj t).all (cf f)
theorem aV {f : Nat} {t : Tr} (h : cf (f + 1) t = true) : aT t = true ∧ ∀ k ∈ aj t, cf f k = true := by
 have h' : (aT t && (aj t).all (cf f)) = true := h
 rw [Bool.and_eq_true] at h'
 exact ⟨h'.1, fun k hk => List.all_eq_true.mp h'.2 k hk⟩
theorem tz : ∀ {f g : Nat} {t : Tr}, f ≤ g → cf f t = true → cf g t = true
 | 0, _, _, _, h => by cases h
 | f + 1, 0, _, hg, _ => by omega
 | f + 1, g + 1, t, hg, h => by
  obtain ⟨h1, h2⟩ := aV h
  show (aT t && (aj t).all (cf g)) = true
  rw [h1, Bool.true_and]
  exact List.all_eq_true.mpr fun k hk => tz (by omega) (h2 k hk)
theorem qQ : ∀ {f g : Nat} {d : Nat} {t : Tr}, f ≤ g → cf f t = true → dM g d t = dM f d t
 | 0, _, _, _, _, h => by cases h
 | f + 1, 0, _, _, hg, _ => by omega
 | f + 1, g + 1, d, t, hg, h => by
  obtain ⟨h1, h2⟩ := aV h
  show (d, t) :: _ = (d, t) :: _
  congr 2
  exact List.map_congr_left fun k hk => qQ (by omega) (h2 k hk)
theorem wg : ∀ (n : Nat) (st : List (Tr × Nat)) (ns : List Str), jQ n st ns = true → ∀ p ∈ st, p.2 ≤ 8 ∧ cf (9 - p.2) p.1 = true
 | 0, _, _, h, _, _ => by cases h
 | n + 1, [], _, _, p, hp => by cases hp
 | n + 1, (t, d) :: st, ns, h, p, hp => by
  have h' : (if (aT t && decide (d ≤ 8) && !ns.contains (ah t) && decide (ns.length < 40)) = true then jQ n ((aj t).reverse.map (fun k => (k, d + 1)) ++ st) (ah t :: ns) else false) = true := h
  split at h'
  ·rename_i c
   simp only [Bool.and_eq_true, decide_eq_true_eq] at c
   have ih := wg n _ _ h'
   rcases List.mem_cons.mp hp with rfl | hp
   ·refine ⟨c.1.1.2, ?_⟩
    obtain ⟨f, hf⟩ : ∃ f, 9 - d = f + 1 := ⟨8 - d, by have := c.1.1.2; omega⟩
    show cf (9 - d) t = true
    rw [hf]
    show (aT t && (aj t).all (cf f)) = true
    rw [c.1.1.1, Bool.true_and]
    refine List.all_eq_true.mpr fun k hk => ?_
    have := (ih (k, d + 1) (List.mem_append_left _ (List.mem_map.mpr ⟨k, List.mem_reverse.mpr hk, rfl⟩))).2
    rwa [show 9 - (d + 1) = f by omega] at this
   ·exact ih p (List.mem_append_right _ hp)
  ·cases h'
noncomputable def zQ (p : Tr × Nat) : Nat := (dM (9 - p.2) 0 p.1).length
theorem uB : ∀ (f d e : Nat) (t : Tr), (dM f d t).length = (dM f e t).length
 | 0, _, _, _ => rfl
 | f + 1, d, e, t => by
  show (((aj t).map (dM f (d + 1))).flatten).length + 1 = (((aj t).map (dM f (e + 1))).flatten).length + 1
  rw [List.length_flatten, List.length_flatten, List.map_map, List.map_map]
  congr 2
  exact List.map_congr_left fun k _ => uB f (d + 1) (e + 1) k
theorem DW (l : List Nat) : l.reverse.sum = l.sum := by simp
theorem wE : ∀ (n : Nat) (st : List (Tr × Nat)) (ns : List Str), ns.length ≤ 40 → jQ n st ns = true → (st.map zQ).sum + ns.length ≤ 40
 | 0, _, _, _, h => by cases h
 | n + 1, [], ns, hn, _ => by simpa using hn
 | n + 1, (t, d) :: st, ns, hn, h => by
  have h' : (if (aT t && decide (d ≤ 8) && !ns.contains (ah t) && decide (ns.length < 40)) = true then jQ n ((aj t).reverse.map (fun k => (k, d + 1)) ++ st) (ah t :: ns) else false) = true := h
  split at h'
  ·rename_i c
   simp only [Bool.and_eq_true, decide_eq_true_eq] at c
   have ih := wE n _ _ (by rw [List.length_cons]; omega) h'
   rw [List.map_append, List.sum_append, List.map_map, List.length_cons, List.map_reverse, DW] at ih
   rw [List.map_cons, List.sum_cons]
   have e : zQ (t, d) = ((aj t).map (zQ ∘ fun k => (k, d + 1))).sum + 1 := by
    obtain ⟨f, hf⟩ : ∃ f, 9 - d = f + 1 := ⟨8 - d, by have := c.1.1.2; omega⟩
    show (dM (9 - d) 0 t).length = _
    rw [hf]
    show (((aj t).map (dM f 1)).flatten).length + 1 = _
    rw [List.length_flatten, List.map_map]
    congr 2
    refine List.map_congr_left fun k _ => ?_
    show (dM f 1 k).length = (dM (9 - (d + 1)) 0 k).length
    rw [show 9 - (d + 1) = f by omega, uB f 1 0]
   omega
  ·cases h'
theorem fh {t : Tr} (h : bN t = true) : cf 8 t = true ∧ (dM 8 0 t).length ≤ 40 := by
 refine ⟨(wg 42 _ _ h (t, 1) (List.mem_singleton.mpr rfl)).2, ?_⟩
 have := wE 42 _ _ (by simp) h
 have e : ([(t, 1)] : List (Tr × Nat)).map zQ = [(dM 8 0 t).length] := rfl
 rw [e] at this
 simpa using this
noncomputable def stk : List (Nat × Tr) → List (Nat × Tr)
 | [] => []
 | p :: r => p :: (stk r).dropWhile fun q => q.1 == p.1 + 1
theorem kB {D : Ends} {σ : L2.St} {H : Hp} (h : D.nx σ H) : qE D σ H := h
theorem cK {H : Hp} {t : Tr} {v : V} (h : TrAt H t v) (b : Bok t) : ∃ (a tg ks : Addr) (mv : V) (kv : List V), v = .ref a ∧ H a = some (.tup [.str (kindOf t), .str (ah t), .ref tg, mv, .ref ks]) ∧ H tg = some (.tup ((fM t).map V.str)) ∧ TrAt H (eQ t) mv ∧ H ks = some (.tup kv) ∧ bL H (aj t) kv := by
 have h' := h
 rw [b.form] at h'
 obtain ⟨a, vs, rfl, ea, k⟩ := h'.tupE
 cases k with
 | @cons _ v0 _ _ a0 k =>
 cases k with
 | @cons _ v1 _ _ a1 k =>
 cases k with
 | @cons _ v2 _ _ a2 k =>
 cases k with
 | @cons _ v3 _ _ a3 k =>
 cases k with
 | @cons _ v4 _ _ a4 k =>
 cases k
 cases a0
 cases a1
 obtain ⟨tg, tv, rfl, et, kt⟩ := a2.tupE
 obtain ⟨ks, kv, rfl, ek, kk⟩ := a4.tupE
 have etv : ∀ {l : List Str} {tv : List V}, bL H (l.map Tr.str) tv → tv = l.map V.str := by
  intro l
  induction l with
  | nil => intro tv h; cases h; rfl
  | cons x l ih =>
   intro tv h
   cases h with
   | cons h t => cases h; rw [ih t]; rfl
 rw [etv kt] at et
 exact ⟨a, tg, ks, v3, kv, rfl, ea, et, a3, ek, kk⟩
inductive NoL : Tr → Prop where
 | non : NoL .non
 | bl (b : Bool) : NoL (.bl b)
 | int (i : Int) : NoL (.int i)
 | str (x : Str) : NoL (.str x)
 | tup {l : List Tr} (h : ∀ t ∈ l, NoL t) : NoL (.tup l)
theorem TrAt.kp {H H' : Hp} (m : ∀ a xs, H a = some (.tup xs) → H' a = some (.tup xs)) {t : Tr} {v : V} (h : TrAt H t v) : NoL t → TrAt H' t v := by
 induction h with
 | non => exact fun _ => .non
 | bl b => exact fun _ => .bl b
 | int i => exact fun _ => .int i
 | str x h => exact fun _ => .str x h
 | @tup a vs l e n k ih =>
  intro nl
  cases nl with
  | tup hl => exact .tup (m _ _ e) n fun i v t h1 h2 => ih i v t h1 h2 (hl t (List.mem_of_getElem? h2))
 | lst e n k _ => exact fun z => by cases z
 | dic e => exact fun z => by cases z
theorem BQ (xs : List V) (n : Nat) (h : n ≤ xs.length) : gX xs (some (n : Int)) none = xs.drop n := by
 unfold gX
 rw [HT.sIx_none, HT.sIx_nat, Nat.min_eq_left h, List.take_of_length_le (by rw [List.length_drop]; exact Nat.le_refl _)]
theorem wC (xs : List V) (n : Nat) : gX xs (some (n : Int)) none = xs.drop n := by
 by_cases h : n ≤ xs.length
 ·exact BQ xs n h
 ·unfold gX
  rw [HT.sIx_none, HT.sIx_nat, Nat.min_eq_right (by omega), List.drop_length, List.take_nil, List.drop_of_length_le (by omega)]
theorem bh (x y : Str) : decide (V.str x = V.str y) = decide (x = y) := by
 by_cases h : x = y
 ·rw [h, decide_eq_true rfl, decide_eq_true rfl]
 ·rw [decide_eq_false h, decide_eq_false fun z => h (by injection z)]
noncomputable def gZ (H H' : Hp) : Prop := ∀ b xs, H b = some (.tup xs) → H' b = some (.tup xs)
theorem gZ.of {H H' : Hp} (s : aK H H') : gZ H H' := fun b xs e => s _ _ e
theorem gZ.trans {H H' H2 : Hp} (s : gZ H H') (t : gZ H' H2) : gZ H H2 := fun b xs e => t _ _ (s _ _ e)
theorem gZ.upd {H : Hp} {l : Addr} {ys : List V} (h : H l = some (.lst ys)) (o : HO) : gZ H (upd H l o) := fun b xs e => by
 rw [aD fun z => by rw [z, h] at e; cases e]; exact e
noncomputable def oZ (l : Addr) (H H' : Hp) : Prop := ∀ b u, b ≠ l → H b = some u → H' b = some u
theorem oZ.trans {l : Addr} {H H1 H2 : Hp} (a : oZ l H H1) (b : oZ l H1 H2) : oZ l H H2 := fun c u n e => b c u n (a c u n e)
theorem oZ.of {l : Addr} {H H' : Hp} (s : aK H H') : oZ l H H' := fun c u _ e => s _ _ e
theorem oZ.upd {l : Addr} {H : Hp} {o : HO} : oZ l H (upd H l o) := fun c u n e => by rw [aD n]; exact e
theorem oZ.tup {l : Addr} {H H' : Hp} (a : oZ l H H') {xs : List V} (h : H l = some (.lst xs)) : gZ H H' := fun b ys e => a b _ (fun z => by rw [z, h] at e; cases e) e
theorem zP {H : Hp} : ∀ {f : Nat} {t : Tr} {u v : V}, cf f t = true → TrAt H t u → TrAt H t v → Lk H (2 * f + 1) u v
 | 0, _, _, _, h, _, _ => by cases h
 | f + 1, t, u, v, h, hu, hv => by
  obtain ⟨al, fk⟩ := aV h
  have b := bf al
  obtain ⟨a, tg, ks, mv, kv, rfl, ea, et, am, ek, ak⟩ := cK hu b
  obtain ⟨a', tg', ks', mv', kv', rfl, ea', et', am', ek', ak'⟩ := cK hv b
  have hm : mv = mv' ∧ dR mv = true ∧ ∀ x, mv ≠ .bl x := by
   by_cases hw : kindOf t = "words"
   ·obtain ⟨x, ex, _⟩ := b.words hw
    rw [ex] at am am'
    cases am; cases am'; exact ⟨rfl, rfl, fun _ e => by cases e⟩
   ·by_cases hg : kindOf t = "grid"
    ·obtain ⟨i, ei, _⟩ := b.grid hg
     rw [ei] at am am'
     cases am; cases am'; exact ⟨rfl, rfl, fun _ e => by cases e⟩
    ·rw [b.other hw hg] at am am'
     cases am; cases am'; exact ⟨rfl, rfl, fun _ e => by cases e⟩
  obtain ⟨rfl, m1, m2⟩ := hm
  have lk := ak.len
  have lk' := ak'.len
  have h12 := b.kids
  have ht := b.tlen
  show Lk H (2 * f + 2 + 1) _ _
  refine Lk.tup ea ea' (by simp) (.cons (Lk.flat rfl (fun _ e => by cases e)) (.cons (Lk.flat rfl (fun _ e => by cases e)) (.cons ?_ (.cons (Lk.flat m1 m2) (.cons ?_ .nil)))))
  ·exact Lk.tup et et' (by rw [List.length_map]; omega) (Lk.strs _)
  ·refine Lk.tup ek ek' (by omega) (F2.of (by omega) fun i x y hx hy => ?_)
   have hi : i < (aj t).length := by have := (List.getElem?_eq_some_iff.mp hx).1; omega
   have e : (aj t)[i]? = some (aj t)[i] := List.getElem?_eq_getElem hi
   exact zP (fk _ (List.getElem_mem hi)) (ak.get e hx) (ak'.get e hy)
theorem Ir {st : Addr} {H H' : Hp} (m : Ms st H H') (hs : St st H) (a : Addr) (xs : List V) (e : H a = some (.tup xs)) : H' a = some (.tup xs) := m.keep _ _ (fun z => by
 obtain ⟨s, es, _⟩ := hs
 rw [z, es] at e
 cases e) e
theorem TrAt.ms {st : Addr} {H H' : Hp} (m : Ms st H H') (hs : St st H) {t : Tr} {v : V} (h : TrAt H t v) (n : NoL t) : TrAt H' t v := h.kp (Ir m hs) n
theorem xf : ∀ {f : Nat} {t : Tr}, cf f t = true → NoL t
 | 0, _, h => by cases h
 | f + 1, t, h => by
  obtain ⟨al, fk⟩ := aV h
  have b := bf al
  rw [b.form]
  refine .tup fun u hu => ?_
  simp only [List.mem_cons, List.not_mem_nil, or_false] at hu
  rcases hu with rfl | rfl | rfl | rfl | rfl
  ·exact .str _
  ·exact .str _
  ·refine .tup fun u hu => ?_
   obtain ⟨y, _, rfl⟩ := List.mem_map.mp hu
   exact .str _
  ·by_cases hw : kindOf t = "words"
   ·obtain ⟨x, ex, _⟩ := b.words hw
    rw [ex]; exact .str _
   ·by_cases hg : kindOf t = "grid"
    ·obtain ⟨i, ei, _⟩ := b.grid hg
     rw [ei]; exact .int _
    ·rw [b.other hw hg]; exact .non
  ·exact .tup fun k hk => xf (fk k hk)
noncomputable def aQ : Nat → Tr → List Tr
 | 0, _ => []
 | n + 1, t => t :: (aj t).flatMap (aQ n)
noncomputable def dk (t : Tr) : Nat → List Tr
 | 0 => [t]
 | n + 1 => (dk t n).flatMap aj
noncomputable def bfs (t : Tr) : Nat → List Tr
 | 0 => []
 | n + 1 => bfs t n ++ dk t n
theorem yf {α β : Type} (f : α → β) (g : α → List β) : ∀ l : List α, List.Perm (l.flatMap fun x => f x :: g x) (l.map f ++ l.flatMap g)
 | [] => .nil
 | x :: r => by
  rw [List.flatMap_cons, List.flatMap_cons, List.map_cons, List.cons_append, List.cons_append]
  refine .cons _ ?_
  exact ((yf f g r).append_left (g x)).trans (List.perm_append_comm_assoc _ _ _)
theorem xW {α β : Type} {f g : α → List β} (h : ∀ x, List.Perm (f x) (g x)) : ∀ l : List α, List.Perm (l.flatMap f) (l.flatMap g)
 | [] => .nil
 | x :: r => by
  rw [List.flatMap_cons, List.flatMap_cons]
  exact (h x).append (xW h r)
theorem fO : ∀ (n : Nat) (t : Tr), List.Perm (fA n t) (aQ n t)
 | 0, _ => .nil
 | n + 1, t => by
  refine .cons _ ?_
  rw [← List.flatMap_def]
  exact ((List.reverse_perm (aj t)).flatMap_right (fA n)).trans (xW (fO n) _)
theorem iW : ∀ (n d : Nat) (t : Tr), (dM n d t).map (·.2) = aQ n t
 | 0, _, _ => rfl
 | n + 1, d, t => by
  show t :: (((aj t).map (dM n (d + 1))).flatten).map (·.2) = t :: _
  rw [List.map_flatten, List.map_map, List.flatMap_def]
  congr 2
  exact List.map_congr_left fun k _ => iW n (d + 1) k
theorem rd (t : Tr) : ∀ (n m : Nat), List.Perm (bfs t n ++ (dk t n).flatMap (aQ m)) (aQ (n + m) t)
 | 0, m => by
  show List.Perm ([t].flatMap (aQ m)) _
  rw [List.flatMap_cons, List.flatMap_nil, List.append_nil, Nat.zero_add]
 | n + 1, m => by
  have ih := rd t n (m + 1)
  rw [show n + 1 + m = n + (m + 1) by omega]
  refine List.Perm.trans ?_ ih
  show List.Perm (bfs t n ++ dk t n ++ ((dk t n).flatMap aj).flatMap (aQ m)) _
  rw [List.append_assoc]
  refine List.Perm.append_left _ ?_
  have := (yf (fun x : Tr => x) (fun x => (aj x).flatMap (aQ m)) (dk t n)).symm
  rw [List.map_id', ← List.flatMap_assoc] at this
  exact this
theorem vh {t : Tr} (h : cf 8 t = true) : ∀ n, n ≤ 8 → ∀ u ∈ dk t n, cf (8 - n) u = true
 | 0, _, u, hu => by rw [List.mem_singleton.mp hu]; exact h
 | n + 1, hn, u, hu => by
  obtain ⟨k, hk, hu⟩ := List.mem_flatMap.mp hu
  have := vh h n (by omega) k hk
  rw [show 8 - n = (8 - (n + 1)) + 1 by omega] at this
  exact (aV this).2 u hu
theorem vT {t : Tr} (h : cf 8 t = true) : ∀ n, 8 ≤ n → dk t n = []
 | n, hn => by
  obtain ⟨m, rfl⟩ : ∃ m, n = 8 + m := ⟨n - 8, by omega⟩
  clear hn
  induction m with
  | zero =>
   cases e : dk t 8 with
   | nil => rfl
   | cons u r =>
    have := vh h 8 (Nat.le_refl _) u (by rw [e]; exact List.mem_cons_self ..)
    cases this
  | succ m ih =>
   show (dk t (8 + m)).flatMap aj = []
   rw [ih]; rfl
theorem BG {t : Tr} (h : cf 8 t = true) {n : Nat} {u : Tr} (hu : u ∈ dk t n) : aT u = true := by
 by_cases hn : ¬ n < 8
 ·rw [vT h n (by omega)] at hu; cases hu
 have hn := Decidable.not_not.mp hn
 have := vh h n (by omega) u hu
 rw [show 8 - n = (7 - n) + 1 by omega] at this
 exact (aV this).1
noncomputable def dP : Tr → List Tr → Tr
 | .tup [k, n, tg, m, _], l => .tup [k, n, tg, m, .tup l]
 | t, _ => t
theorem ji {t : Tr} (al : aT t = true) : dP t (aj t) = t := by
 have b := bf al
 rw [b.form]; rfl
noncomputable def bM (n : Str) (g : Tr → List Tr) : Nat → Tr → List Tr
 | 0, t => [t]
 | f + 1, t => if ah t = n then g t else [dP t ((aj t).flatMap (bM n g f))]
inductive WayTo (n : Str) : Tr → List Tr → Prop where
 | here {t : Tr} (h : ah t = n) : WayTo n t [t]
 | down {t b : Tr} {r : List Tr} (h : b ∈ aj t) (k : WayTo n b (b :: r)) : WayTo n t (t :: b :: r)
noncomputable def ky (bs : List Tr) : List Tr → List Tr
 | [] => bs
 | [_] => bs
 | a :: b :: r => [dP a ((aj a).flatMap fun k => if ah k = ah b then ky bs (b :: r) else [k])]
noncomputable def NdT (f : Nat) (t : Tr) : Prop := ((aQ f t).map ah).Nodup
theorem mM {f : Nat} {t : Tr} (h : NdT (f + 1) t) : ah t ∉ ((aj t).flatMap (aQ f)).map ah ∧ (((aj t).flatMap (aQ f)).map ah).Nodup := by
 unfold NdT at h
 rw [show aQ (f + 1) t = t :: (aj t).flatMap (aQ f) from rfl, List.map_cons, List.nodup_cons] at h
 exact h
theorem qW : ∀ {l : List Tr} {f : Nat} {b : Tr}, ((l.flatMap (aQ f)).map ah).Nodup → b ∈ l → NdT f b
 | x :: l, f, b, h, hb => by
  rw [List.flatMap_cons, List.map_append] at h
  obtain ⟨h1, h2, _⟩ := List.nodup_append.mp h
  rcases List.mem_cons.mp hb with rfl | hb
  ·exact h1
  ·exact qW h2 hb
theorem iQ {f : Tr → List Tr} : ∀ {l : List Tr}, (∀ k ∈ l, f k = [k]) → l.flatMap f = l
 | [], _ => rfl
 | x :: l, h => by
  rw [List.flatMap_cons, h x (List.mem_cons_self ..), iQ fun k hk => h k (List.mem_cons_of_mem _ hk)]; rfl
theorem uG {n : Str} {g : Tr → List Tr} : ∀ {f : Nat} {t : Tr}, cf f t = true → n ∉ (aQ f t).map ah → bM n g f t = [t]
 | 0, _, h, _ => by cases h
 | f + 1, t, h, hn => by
  obtain ⟨al, fk⟩ := aV h
  rw [show aQ (f + 1) t = t :: (aj t).flatMap (aQ f) from rfl, List.map_cons, List.mem_cons, not_or] at hn
  unfold bM
  rw [if_neg (fun z => hn.1 z.symm), iQ (fun k hk => uG (fk k hk) fun z => hn.2 ?_), ji al]
  obtain ⟨u, hu, e⟩ := List.mem_map.mp z
  exact List.mem_map.mpr ⟨u, List.mem_flatMap.mpr ⟨k, hk, hu⟩, e⟩
theorem wc {n : Str} : ∀ {f : Nat} {t : Tr} {p : List Tr}, cf f t = true → WayTo n t p → n ∈ (aQ f t).map ah
 | 0, _, _, h, _ => by cases h
 | f + 1, t, p, h, w => by
  cases w with
  | here e => exact List.mem_map.mpr ⟨t, List.mem_cons_self .., e⟩
  | @down _ b r hb k =>
   obtain ⟨u, hu, e⟩ := List.mem_map.mp (wc ((aV h).2 b hb) k)
   exact List.mem_map.mpr ⟨u, List.mem_cons_of_mem _ (List.mem_flatMap.mpr ⟨b, hb, hu⟩), e⟩
theorem iX {f : Nat} {t : Tr} (h : cf f t = true) : t ∈ aQ f t := by
 cases f with
 | zero => cases h
 | succ f => exact List.mem_cons_self ..
theorem ux {f : Nat} {n : Str} : ∀ {l : List Tr} {b k : Tr}, ((l.flatMap (aQ f)).map ah).Nodup → (∀ x ∈ l, cf f x = true) → b ∈ l → k ∈ l → n ∈ (aQ f b).map ah → ah k ≠ ah b → n ∉ (aQ f k).map ah
 | x :: l, b, k, h, hf, hb, hk, hn, ne => by
  rw [List.flatMap_cons, List.map_append] at h
  obtain ⟨h1, h2, h3⟩ := List.nodup_append.mp h
  have up : ∀ {y : Tr} {m : Str}, y ∈ l → m ∈ (aQ f y).map ah → m ∈ (l.flatMap (aQ f)).map ah := by
   intro y m hy hm
   obtain ⟨u, hu, e⟩ := List.mem_map.mp hm
   exact List.mem_map.mpr ⟨u, List.mem_flatMap.mpr ⟨_, hy, hu⟩, e⟩
  rcases List.mem_cons.mp hb with rfl | b2
  ·rcases List.mem_cons.mp hk with rfl | k2
   ·exact absurd rfl ne
   ·exact fun z => h3 _ hn _ (up k2 z) rfl
  ·rcases List.mem_cons.mp hk with rfl | k2
   ·exact fun z => h3 _ z _ (up b2 hn) rfl
   ·exact ux h2 (fun y hy => hf y (List.mem_cons_of_mem _ hy)) b2 k2 hn ne
theorem wW {f : Nat} : ∀ {l : List Tr} {b k : Tr}, ((l.flatMap (aQ f)).map ah).Nodup → (∀ x ∈ l, cf f x = true) → b ∈ l → k ∈ l → ah k = ah b → k = b
 | x :: l, b, k, h, hf, hb, hk, e => by
  rw [List.flatMap_cons, List.map_append] at h
  obtain ⟨h1, h2, h3⟩ := List.nodup_append.mp h
  have own : ∀ {y : Tr}, y ∈ l → ah y ∈ (l.flatMap (aQ f)).map ah := fun hy => List.mem_map.mpr ⟨_, List.mem_flatMap.mpr ⟨_, hy, iX (hf _ (List.mem_cons_of_mem _ hy))⟩, rfl⟩
  have hd : ah x ∈ (aQ f x).map ah := List.mem_map.mpr ⟨x, iX (hf x (List.mem_cons_self ..)), rfl⟩
  rcases List.mem_cons.mp hb with rfl | b2
  ·rcases List.mem_cons.mp hk with rfl | k2
   ·rfl
   ·exact absurd e.symm (h3 _ hd _ (own k2))
  ·rcases List.mem_cons.mp hk with rfl | k2
   ·exact absurd e (h3 _ hd _ (own b2))
   ·exact wW h2 (fun y hy => hf y (List.mem_cons_of_mem _ hy)) b2 k2 e
theorem jW {n : Str} {g : Tr → List Tr} : ∀ {f : Nat} {t : Tr} {p : List Tr} {u : Tr}, cf f t = true → NdT f t → WayTo n t p → p.getLast? = some u → ky (g u) p = bM n g f t
 | 0, _, _, _, h, _, _, _ => by cases h
 | f + 1, t, p, u, h, nd, w, hu => by
  obtain ⟨al, fk⟩ := aV h
  obtain ⟨n1, n2⟩ := mM nd
  cases w with
  | here e =>
   cases hu
   show g t = _
   unfold bM
   rw [if_pos e]
  | @down _ b r hb k =>
   have ih := jW (g := g) (u := u) (fk b hb) (qW n2 hb) k (by rw [← hu, List.getLast?_cons_cons])
   have hnb := wc (fk b hb) k
   have ne : ah t ≠ n := fun z => n1 (by
    rw [z]
    obtain ⟨x, hx, e⟩ := List.mem_map.mp hnb
    exact List.mem_map.mpr ⟨x, List.mem_flatMap.mpr ⟨b, hb, hx⟩, e⟩)
   unfold bM
   rw [if_neg ne]
   show [dP t _] = _
   congr 2
   rw [List.flatMap_def, List.flatMap_def]
   congr 1
   refine List.map_congr_left fun k hk => ?_
   by_cases e : ah k = ah b
   ·rw [if_pos e, wW n2 fk hb hk e]; exact ih
   ·rw [if_neg e, uG (fk k hk) (ux n2 fk hb hk hnb e)]
inductive PathD (t : Tr) : List Tr → Tr → Nat → Prop where
 | root : PathD t [t] t 8
 | step {q : List Tr} {u k : Tr} {f : Nat} (p : PathD t q u (f + 1)) (h : k ∈ aj u) : PathD t (q ++ [k]) k f
theorem PathD.way {t : Tr} {z : Str} {q : List Tr} {u : Tr} {f : Nat} (p : PathD t q u f) : ∀ {r : List Tr}, WayTo z u (u :: r) → WayTo z t (q ++ r) := by
 induction p with
 | root => exact fun w => w
 | @step q u k f p h ih =>
  intro r w
  have := ih (.down h w)
  rwa [List.append_assoc]
theorem PathD.fit {t : Tr} (h : cf 8 t = true) {q : List Tr} {u : Tr} {f : Nat} (p : PathD t q u f) : cf f u = true := by
 induction p with
 | root => exact h
 | step p hk ih => exact (aV ih).2 _ hk
theorem PathD.last {t : Tr} {q : List Tr} {u : Tr} {f : Nat} (p : PathD t q u f) : ∃ q', q = q' ++ [u] := by
 cases p with
 | root => exact ⟨[], rfl⟩
 | step p h => exact ⟨_, rfl⟩
theorem PathD.len {t : Tr} {q : List Tr} {u : Tr} {f : Nat} (p : PathD t q u f) : q.length + f = 9 := by
 induction p with
 | root => rfl
 | step p h ih => rw [List.length_append, List.length_singleton]; omega
theorem F2.lastL {α β : Type} {R : α → β → Prop} : ∀ {l : List α} {a : α} {m : List β}, F2 R (l ++ [a]) m → ∃ m' b, m = m' ++ [b] ∧ F2 R l m' ∧ R a b
 | [], a, _, .cons h .nil => ⟨[], _, rfl, .nil, h⟩
 | x :: l, a, _, .cons h k => by
  obtain ⟨m', b, rfl, k', r⟩ := F2.lastL k
  exact ⟨_ :: m', b, rfl, .cons h k', r⟩
theorem F2.memR {α β : Type} {R : α → β → Prop} : ∀ {l : List α} {m : List β}, F2 R l m → ∀ b ∈ m, ∃ a, R a b
 | _, _, .nil, _, h => nomatch h
 | _, _, .cons h k, b, hb => by
  rcases List.mem_cons.mp hb with rfl | hb
  ·exact ⟨_, h⟩
  ·exact F2.memR k b hb
noncomputable abbrev Ent := List Tr × Tr × Nat
noncomputable def vX (t : Tr) (H H1 : Hp) (l2 : Addr) (a : Addr) (e : Ent) : Prop := ∃ vs, H1 a = some (.lst vs) ∧ bL H e.1 vs ∧ a ≠ l2 ∧ H a = none ∧ PathD t e.1 e.2.1 e.2.2
theorem vX.same {t : Tr} {H H1 H2 : Hp} {l2 a : Addr} {e : Ent} (s : aK H1 H2) (h : vX t H H1 l2 a e) : vX t H H2 l2 a e := let ⟨bs, h1, h2⟩ := h; ⟨bs, s _ _ h1, h2⟩
theorem vX.upd {t : Tr} {H H1 : Hp} {l2 a : Addr} {e : Ent} (o : HO) (h : vX t H H1 l2 a e) : vX t H (upd H1 l2 o) l2 a e := let ⟨bs, h1, h2, h3, h4⟩ := h; ⟨bs, by rw [aD h3]; exact h1, h2, h3, h4⟩
noncomputable def gm (es : List Ent) : Nat := (es.map fun e => (aQ e.2.2 e.2.1).length).sum
theorem kZ (a b : List Ent) : gm (a ++ b) = gm a + gm b := by unfold gm; rw [List.map_append, List.sum_append]
noncomputable def jZ (e : Ent) : List Ent := (aj e.2.1).map fun k => (e.1 ++ [k], k, e.2.2 - 1)
theorem ue (e : Ent) : (jZ e).length = (aj e.2.1).length := List.length_map ..
theorem yA (e : Ent) : gm (jZ e) = ((aj e.2.1).map fun k => (aQ (e.2.2 - 1) k).length).sum := by unfold gm jZ; rw [List.map_map]; rfl
theorem AO (e : Ent) {f : Nat} (h : e.2.2 = f + 1) : gm [e] = gm (jZ e) + 1 := by
 rw [yA, h]
 show (aQ e.2.2 e.2.1).length + 0 = _
 rw [h]
 show ((aj e.2.1).flatMap (aQ f)).length + 1 + 0 = _
 rw [List.length_flatMap]; rfl
theorem wR : ∀ {es : List Ent}, (∀ e ∈ es, cf e.2.2 e.2.1 = true) → es.length ≤ gm es
 | [], _ => Nat.le_refl _
 | e :: es, h => by
  have h1 := wR fun x hx => h x (List.mem_cons_of_mem _ hx)
  have h2 : 1 ≤ (aQ e.2.2 e.2.1).length := List.length_pos_of_mem (iX (h e (List.mem_cons_self ..)))
  show es.length + 1 ≤ (aQ e.2.2 e.2.1).length + gm es
  omega
section
variable {P : Program} {w : World} {K : PySem.W.Frag} {mg : Str → Option Value} {base : Heap} {A : Adr}
theorem Txt.nn (T : Txt K mg A) : ClsAt K A.c_PaneError [A.c_NoShare, A.c_NoBox, A.c_NoText, A.c_NoRule, A.c_NoName, A.c_NoPlace, A.c_NoPage, A.c_NoChange, A.c_NoUndo, A.c_NoRow] A.c_NoName := (uL T.cls).2 _ (by simp)
theorem IP (T : Txt K mg A) {N : List Str} {qual : Str} {scope : Scope} {f : Addr} {cd : Value} {B : Around} {outer : List Env} {s : Shared} {H : Hp} {E : XK} {x : Str} {j np cp pp pos : _} (hg : Gl (fH (CXW P w) P w K mg base N qual scope f cd B outer s H E) "NoName") :
  PS (fH (CXW P w) P w K mg base N qual scope f cd B outer s H E) (.Raise (some (.Call (.Name "NoName" np) [.Constant (.str x) j cp] [] pp)) none pos) (vZ E A.c_NoName (gL (tC (.str x)) nk)) :=
 so vg rfl hg T.m_NoName T.nn.exc PySem.F.excBase_ValueError PySem.F.excBase_ValueError (by decide) (by show 1 ≤ 1000; omega) (aa ar ae) (fun σ H Q h => ⟨by show 1 ≤ sizeLine; decide, h⟩)
noncomputable abbrev xp : Scope := (match bC iP with | _ :: (.While _ (_ :: _ :: (.Expr (.Call _ ((.ListComp _ _ sc _) :: _) _ _) _) :: _) _ _) :: _ => sc | _ => ap iP)
theorem vQ : Blk (ap iP) qL xp ["kid"] [3] := ⟨rfl, by decide +kernel, by decide +kernel, by decide +kernel, by decide +kernel⟩
theorem xL : (cR qL ["kid"] [3]).Nodup := by decide +kernel
noncomputable def IS (c0 : Addr) : Sp := fun vs H Q E => ∃ (dv : V) (t : Tr) (z : Str), vs = [dv, .str z] ∧ TrAt H t dv ∧ cf 8 t = true ∧ (aQ 8 t).length ≤ 40 ∧
 (∀ p, WayTo z t p → ∀ (l : Addr) (vs : List V) (H' : Hp), H l = none → aK H H' → H' l = some (.lst vs) → bL H' p vs → Q (.ref l) H') ∧ (z ∉ (aQ 8 t).map ah → ∀ H', aK H H' → E (.ref c0) none H')
seal PE PS PSs L2.PA PT PI PG in
theorem BE (T : Txt K mg A) : FnOk P w K mg base (CXW P w) 1 A.xN A.xV mZ (IS A.c_NoName) := by
 refine T.nX.F.okW oU (fun vs H Q E h => ?_) (fun cdv B outer s H vs Q E hr h => ?_)
 ·obtain ⟨dv, t, z, rfl, _⟩ := h; rfl
 obtain ⟨dv, t, z, rfl, ht, f8, n40, qf, qn⟩ := h
 refine ⟨_, @ag _ _ _ _ _ (aF (i := 2) oU.nd rfl (Or.inl rfl) (qv (cg (ax bG rfl T.ay aL (aa (pv 1) (aa (bK rfl T.gR kj (v := .ty "str") rfl) ae)))) (bb (aa (bb (aa (pv 0) ae)) ae)) (bb ae)))
  (@ag _ _ _ _ _ (PS.nox (xG PassesOwn.never (wK (pv 2) (fun _ => rfl)) (@ag _ _ _ _ _ (aF (i := 3) oU.nd rfl (Or.inr rfl) (DF PySem.F.plainAttrs_list PySem.F.slot_list_pop PySem.F.type_list_pop Dd (pv 2)))
  (@ag _ _ _ _ _ (bF (aE bW (aI aY (aI aW (pv 3) (mP jC af) (fun _ _ => rfl)) af (fun _ _ => rfl)) (pv 1) (aG _)) (av (aO (pv 3))) aR)
  (av (dC (gY PySem.F.plainAttrs_list PySem.F.slot_list_extend PySem.F.type_list_extend iH (pv 2) (aa (dZ vQ rfl (rK (aI aY (aI aW (pv 3) (mP jC af) (fun _ _ => rfl)) af (fun _ _ => rfl))) (fun _ _ _ _ _ => aS (i := 0) xL rfl (.inl rfl)) (fun _ _ _ _ _ => fj) (fun _ _ _ _ _ => aJ wb (pv 1) (bb (aa (pv 0) ae)))) ae))))))))
  (av (IP T rfl))), ?_⟩
 refine ⟨_, rfl, _, "str", _, true, rfl, .str z, yF T.kit (S := "str") (T := "str") rfl rfl, _, rfl, bd ⟨_, rfl, small (by simp), fun l1 hl1 => ⟨small (by simp), fun l2 hl2 => ?_⟩⟩⟩
 have s1 := ao hl1 (.lst [dv])
 have s2 := ao hl2 (.lst [V.ref l1])
 have n12 : l1 ≠ l2 := fun e => by rw [← e, ai] at hl2; cases hl2
 have hl2' : H l2 = none := by rw [aD n12.symm] at hl2; exact hl2
 refine ⟨fun m σ H1 => ∃ (es : List Ent) (ws : List Addr) (v3 : Option V), σ = [some dv, some (.str z), some (.ref l2), v3] ∧ aK H H1 ∧ H1 l2 = some (.lst (ws.map V.ref)) ∧ F2 (vX t H H1 l2) ws es ∧
   (z ∈ (aQ 8 t).map ah → ∃ e ∈ es, z ∈ (aQ e.2.2 e.2.1).map ah) ∧ gm es ≤ 40 ∧ m = gm es,
  ⟨_, [([t], t, 8)], [l1], none, rfl, s1.trans s2, ai, .one ⟨[dv], by rw [aD n12, ai], .one ht, n12, hl1, .root⟩, fun h => ⟨_, List.mem_singleton.mpr rfl, h⟩, by unfold gm; simpa using n40, rfl⟩, ?_⟩
 rintro m σ H1 ⟨es, ws, v3, rfl, s3, e2, bw, hin, hm, rfl⟩
 rcases List.eq_nil_or_concat es with rfl | ⟨es', e, rfl⟩
 ·cases bw
  refine ⟨_, rfl, _, .inl ⟨_, .of e2, rfl⟩, aP (by simp) ?_⟩
  refine qn (fun h => ?_) _ s3
  obtain ⟨e, he, _⟩ := hin h
  cases he
 ·rw [List.concat_eq_append] at bw hin hm ⊢
  obtain ⟨ws', wj, rfl, bw', bj⟩ := bw.last
  refine ⟨_, rfl, _, .inl ⟨_, .of e2, rfl⟩, aH (by simp) ?_⟩
  refine ⟨fun σ' H' => _, fun σ' H' h => h, ?_⟩
  obtain ⟨q, u, f⟩ := e
  obtain ⟨vs, g1, g2, g3, g4, g5⟩ := bj
  have fu := g5.fit f8
  have gl := g5.len
  obtain ⟨f', rfl⟩ : ∃ f', f = f' + 1 := by
   cases f with
   | zero => cases fu
   | succ f => exact ⟨f, rfl⟩
  obtain ⟨al, fk⟩ := aV fu
  have b := bf al
  obtain ⟨q', eq'⟩ := g5.last
  have fits_all : ∀ x ∈ es', cf x.2.2 x.2.1 = true := fun x hx => by
   obtain ⟨_, _, _, _, _, _, px⟩ := F2.memR bw' x hx
   exact px.fit f8
  have ge := wR fits_all
  have r1 : gm [((q, u, f' + 1) : Ent)] = gm (jZ (q, u, f' + 1)) + 1 := AO _ rfl
  rw [kZ, r1] at hm
  have lws := bw'.len
  dsimp only at g2 gl
  obtain ⟨vs', bv, rfl, g6, gu⟩ := F2.lastL (show bL H (q' ++ [u]) vs by rw [← eq']; exact g2)
  have gu' := gu
  obtain ⟨a, tg, ks, mv, kv, rfl, ea, et, am, ek, ak⟩ := cK gu' b
  have lk := ak.len
  have k12 := b.kids
  have lq : vs'.length + 1 + (f' + 1) = 9 := by
   have := g2.len
   rw [List.length_append, List.length_singleton] at this
   omega
  refine ⟨_, rfl, .inl ⟨rfl, _, .of e2⟩, l2, _, _, rfl, rfl, e2, uA _ _ _, ?_⟩
  have ed : ((ws' ++ [wj]).map V.ref).dropLast = ws'.map V.ref := by rw [List.map_append]; exact List.dropLast_concat
  rw [ed]
  have bw2 : F2 (vX t H (upd H1 l2 (.lst (ws'.map V.ref))) l2) ws' es' := bw'.mono fun _ _ x => x.upd _
  have k1 : upd H1 l2 (.lst (ws'.map V.ref)) wj = some (.lst (vs' ++ [.ref a])) := by rw [aD g3]; exact g1
  have k2 : upd H1 l2 (.lst (ws'.map V.ref)) l2 = some (.lst (ws'.map V.ref)) := ai
  have s4 : aK H (upd H1 l2 (.lst (ws'.map V.ref))) := fun b u e => by rw [aD (aX e hl2')]; exact s3 _ _ e
  generalize upd H1 l2 (.lst (ws'.map V.ref)) = H2 at bw2 k1 k2 s4 ⊢
  have hat : atI (vs' ++ [V.ref a]) (-1) = some (.ref a) := by
   unfold atI ixN
   rw [if_neg (by decide), if_pos (by simp; omega)]
   show (vs' ++ [V.ref a])[(-1 + ((vs' ++ [V.ref a]).length : Int)).toNat]? = some _
   rw [show (-1 + ((vs' ++ [V.ref a]).length : Int)).toNat = vs'.length by simp; omega]
   simp
  refine ⟨_, rfl, _, rfl, wj, _, _, _, rfl, rfl, .of k1, hat, a, _, _, _, rfl, rfl, .of (s4 _ _ ea), rfl, _, rfl, rfl, _, rfl, ?_⟩
  rw [bh]
  by_cases en : ah u = z
  ·refine aH (decide_eq_true en) ?_
   refine ⟨_, rfl, qf q ?_ wj _ H2 g4 s4 k1 (bL.same s4 g2)⟩
   have := g5.way (r := []) (.here en)
   rwa [List.append_nil] at this
  ·refine aP (decide_eq_false en) ?_
   refine kB ?_
   refine ⟨_, rfl, .inl ⟨rfl, _, .of k2⟩, _, rfl, _, rfl, wj, _, _, _, rfl, rfl, .of k1, hat, a, _, _, _, rfl, rfl, .of (s4 _ _ ea), rfl, ks, rfl, .inr ⟨⟨_, .of (s4 _ _ ek)⟩,
    pW (xs := kv) (fun i acc H' => ∃ us : List Addr, acc = us.map V.ref ∧ aK H2 H' ∧ F2 (vX t H H' l2) us ((jZ (q, u, f' + 1)).take i)) ⟨[], rfl, .refl _, .nil⟩ (fun i acc H' z => ?_) (fun i acc H' z => ?_) (fun i x acc H' N kk hx z => ?_) fun acc H' z => ?_⟩⟩
   ·obtain ⟨_, _, s5, _⟩ := z; exact .of (s5 _ _ (s4 _ _ ek))
   ·obtain ⟨us, rfl, _, u1⟩ := z
    have l0 := u1.len
    rw [List.length_take, ue] at l0
    have l0' : us.length = min i (aj u).length := l0
    rw [List.length_map]
    exact bc (by omega)
   ·obtain ⟨us, rfl, s5, u1⟩ := z
    dsimp only [oP]
    rw [if_pos rfl]
    have hi : i < (aj u).length := by have := (List.getElem?_eq_some_iff.mp hx).1; omega
    have ej : (aj u)[i]? = some (aj u)[i] := List.getElem?_eq_getElem hi
    have hkid := List.getElem_mem hi
    generalize (aj u)[i] = kd at ej hkid
    have eE : (jZ (q, u, f' + 1))[i]? = some (q ++ [kd], kd, f') := by unfold jZ; rw [List.getElem?_map, ej]; rfl
    refine ⟨_, rfl, _, rfl, small (by simp), fun p1 hp1 => ?_⟩
    have s6 := ao hp1 (.lst [x])
    refine ⟨wj, p1, _, _, rfl, rfl, s6 _ _ (s5 _ _ k1), ai, small (by simp only [List.length_append, List.length_singleton]; omega), fun p2 hp2 => ?_⟩
    have s7 := ao hp2 (.lst (vs' ++ [V.ref a] ++ [x]))
    have n2 : p2 ≠ l2 := fun e => by rw [e, s6 _ _ (s5 _ _ k2)] at hp2; cases hp2
    have hp2' : H p2 = none := fZ (s4.trans (s5.trans s6)) hp2
    refine kk _ _ ⟨us ++ [p2], by rw [List.map_append]; rfl, s5.trans (s6.trans s7), ?_⟩
    rw [List.take_add_one, eE]
    exact (u1.mono fun _ _ x => x.same (s6.trans s7)).append (.one ⟨_, ai, g2.append (.one (ak.get ej hx)), n2, hp2', .step g5 hkid⟩)
   ·obtain ⟨us, rfl, s5, u1⟩ := z
    have lE : (jZ (q, u, f' + 1)).length = (aj u).length := List.length_map ..
    rw [← lk, ← lE, List.take_length] at u1
    have lenu := u1.len
    rw [ue] at lenu
    have lenu' : us.length = (aj u).length := lenu
    intro l3 hl3
    have s6 := ao hl3 (.lst (us.map V.ref))
    have s7 := s5.trans s6
    refine ⟨l2, l3, _, _, rfl, rfl, s7 _ _ k2, ai, small (by rw [List.length_map, List.length_map]; omega), ?_⟩
    refine ⟨gm (es' ++ jZ (q, u, f' + 1)), by rw [kZ, kZ, r1]; omega, es' ++ jZ (q, u, f' + 1), ws' ++ us, some (.ref wj), rfl, fun b u e => by rw [aD (aX e hl2')]; exact s7 _ _ (s4 _ _ e), by rw [ai, List.map_append], ((bw2.mono fun _ _ x => x.same s7).append (u1.mono fun _ _ x => x.same s6)).mono fun _ _ x => x.upd _, fun hz => ?_, by rw [kZ]; omega, rfl⟩
    obtain ⟨e, he, hz⟩ := hin hz
    rcases List.mem_append.mp he with he | he
    ·exact ⟨e, List.mem_append_left _ he, hz⟩
    ·rw [List.mem_singleton.mp he] at hz
     obtain ⟨y, hy, ey⟩ := List.mem_map.mp hz
     rcases List.mem_cons.mp (show y ∈ u :: (aj u).flatMap (aQ f') from hy) with rfl | hy
     ·exact absurd ey en
     ·obtain ⟨k, hk, hy⟩ := List.mem_flatMap.mp hy
      exact ⟨(q ++ [k], k, f'), List.mem_append_right _ (List.mem_map.mpr ⟨k, hk, rfl⟩), List.mem_map.mpr ⟨y, hy, ey⟩⟩
end
end KP
namespace L2
open PySem PySem.Spec PyProof.Rows
theorem aU {t u : TS} {D : Ends} {σ : St} {H : Hp} (h : ∀ N : St → Hp → Prop, (∀ σ' H', u D σ' H' → N σ' H') → t { D with nx := N } σ H) : iC t u D σ H := h (u D) fun _ _ h => h
end L2
namespace KP
open PySem L2 PyProof.Rows WM TX
inductive TrM (B H : Hp) : Tr → V → Prop where
 | old {t : Tr} {v : V} (h : TrAt B t v) : TrM B H t v
 | tup {a : Addr} {vs : List V} {l : List Tr} (e : H a = some (.tup vs)) (n : vs.length = l.length) (k : ∀ (i : Nat) (v : V) (t : Tr), vs[i]? = some v → l[i]? = some t → TrM B H t v) : TrM B H (.tup l) (.ref a)
theorem TrM.keep {B H H' : Hp} (s : gZ H H') {t : Tr} {v : V} (h : TrM B H t v) : TrM B H' t v := by
 induction h with
 | old h => exact .old h
 | tup e n _ ih => exact .tup (s _ _ e) n ih
theorem TrM.tr {B H : Hp} (s : aK B H) {t : Tr} {v : V} (h : TrM B H t v) : TrAt H t v := by
 induction h with
 | old h => exact h.same s
 | tup e n _ ih => exact .tup e n ih
theorem TrM.tup' {B H : Hp} {a : Addr} {vs : List V} {l : List Tr} (e : H a = some (.tup vs)) (k : F2 (TrM B H) l vs) : TrM B H (.tup l) (.ref a) := .tup e k.len.symm fun _ _ _ h1 h2 => k.get h2 h1
theorem TrM.olds {B H : Hp} {l : List Tr} {vs : List V} (h : bL B l vs) : F2 (TrM B H) l vs := h.mono fun _ _ x => .old x
theorem da {t : Tr} (b : Bok t) (ks : List Tr) : dP t ks = .tup [.str (kindOf t), .str (ah t), .tup ((fM t).map Tr.str), eQ t, .tup ks] :=
 (congrArg (fun x => dP x ks) b.form).trans rfl
theorem Ci {H : Hp} {t : Tr} {v : V} (h : TrAt H t v) (b : Bok t) : ∃ (a tg ks : Addr) (mv : V) (kv : List V), v = .ref a ∧ H a = some (.tup [.str (kindOf t), .str (ah t), .ref tg, mv, .ref ks]) ∧ H ks = some (.tup kv) ∧ bL H (aj t) kv ∧
  ∀ (H' : Hp) (r k2 : Addr) (ks' : List Tr), H' r = some (.tup [.str (kindOf t), .str (ah t), .ref tg, mv, .ref k2]) → TrM H H' (.tup ks') (.ref k2) → TrM H H' (dP t ks') (.ref r) := by
 have h' := h
 rw [b.form] at h'
 obtain ⟨a, vs, rfl, ea, k⟩ := h'.tupE
 cases k with
 | @cons _ v0 _ _ a0 k =>
 cases k with
 | @cons _ v1 _ _ a1 k =>
 cases k with
 | @cons _ v2 _ _ a2 k =>
 cases k with
 | @cons _ v3 _ _ a3 k =>
 cases k with
 | @cons _ v4 _ _ a4 k =>
 cases k
 have a0' := a0
 have a1' := a1
 cases a0
 cases a1
 have a2' := a2
 obtain ⟨tg, tv, rfl, et, kt⟩ := a2.tupE
 obtain ⟨ks, kv, rfl, ek, kk⟩ := a4.tupE
 refine ⟨a, tg, ks, v3, kv, rfl, ea, ek, kk, fun H' r k2 ks' e t2 => ?_⟩
 rw [da b]
 exact TrM.tup' e (.cons (.old a0') (.cons (.old a1') (.cons (.old a2') (.cons (.old a3) (.cons t2 .nil)))))
theorem Bt {bs : List Tr} (h : bs.length ≤ 1) : ∀ q : List Tr, (ky bs q).length ≤ 1
 | [] => h
 | [_] => h
 | _ :: _ :: _ => Nat.le_refl _
theorem jY {H : Hp} {l : List Tr} {vs : List V} (h : bL H l vs) {i : Nat} {v : V} (hv : vs[i]? = some v) : ∃ t, l[i]? = some t ∧ TrAt H t v := by
 have hi := (List.getElem?_eq_some_iff.mp hv).1
 have hi' : i < l.length := by rw [h.len]; exact hi
 exact ⟨l[i], List.getElem?_eq_getElem hi', h.get (List.getElem?_eq_getElem hi') hv⟩
section
variable {P : Program} {w : World} {K : PySem.W.Frag} {mg : Str → Option Value} {base : Heap} {A : Adr}
noncomputable def zt : Sp := fun vs H Q _ => ∃ (B0 : Hp) (bv : V) (t : Tr) (ka : Addr) (ks : List Tr) (kv : List V), vs = [bv, .ref ka] ∧ aK B0 H ∧ TrAt B0 t bv ∧ aT t = true ∧ (H ka = some (.lst kv) ∨ H ka = some (.tup kv)) ∧ F2 (TrM B0 H) ks kv ∧ ∀ v H', aK H H' → TrM B0 H' (dP t ks) v → Q v H'
seal PE PS PSs L2.PA PT PI PG in
theorem mK (T : Txt K mg A) : FnOk P w K mg base CX0 1 A.pq A.pr ie zt := by
 refine T.dz.F.ok vY (fun vs H Q E h => ?_) (fun cdv B outer s H vs Q E hr h => ?_)
 ·obtain ⟨B0, bv, t, ka, ks, kv, rfl, _⟩ := h; rfl
 obtain ⟨B0, bv, t, ka, ks, kv, rfl, s0, ht, al, hk, kk, q⟩ := h
 refine ⟨_, av (aO (aM (aa (aI aY (pv 0) af (fun _ _ => rfl)) (aa (aI aY (pv 0) af (fun _ _ => rfl)) (aa (aI aY (pv 0) af (fun _ _ => rfl)) (aa (aI aY (pv 0) af (fun _ _ => rfl)) (aa (ck cT rfl T.cy db (aa (pv 1) ae)) ae))))))), ?_⟩
 have b := bf al
 obtain ⟨a, tg, k0, mv, kv0, rfl, ea0, _, _, like⟩ := Ci ht b
 have ea := s0 _ _ ea0
 refine ⟨_, rfl, a, _, _, _, rfl, rfl, .of ea, rfl, _, rfl, a, _, _, _, rfl, rfl, .of ea, rfl, _, rfl, a, _, _, _, rfl, rfl, .of ea, rfl, _, rfl, a, _, _, _, rfl, rfl, .of ea, rfl, _, rfl, ka, kv, rfl, ?_⟩
 rcases hk with hk | hk
 ·refine .inl ⟨.of hk, fun l hl => ⟨small (by simp), fun r hr => ?_⟩⟩
  have s1 := ao hl (.tup kv)
  have s2 := ao hr (.tup [V.str (kindOf t), .str (ah t), .ref tg, mv, .ref l])
  exact q _ _ (s1.trans s2) (like _ r l ks ai (TrM.tup' (s2 _ _ ai) (kk.mono fun _ _ y => y.keep (.of (s1.trans s2)))))
 ·refine .inr ⟨.of hk, small (by simp), fun r hr => ?_⟩
  have s2 := ao hr (.tup [V.str (kindOf t), .str (ah t), .ref tg, mv, .ref ka])
  exact q _ _ s2 (like _ r ka ks ai (TrM.tup' (s2 _ _ hk) (kk.mono fun _ _ y => y.keep (.of s2))))
noncomputable def zn : Sp := fun vs H Q _ => ∃ (B0 : Hp) (wl bl : Addr) (p bs : List Tr) (pvs bv : List V) (r : Tr), vs = [.ref wl, .ref bl] ∧ aK B0 H ∧ H wl = some (.lst pvs) ∧ bL B0 p pvs ∧ (∀ x ∈ p, aT x = true ∧ ∀ k ∈ aj x, aT k = true) ∧ p ≠ [] ∧ p.length ≤ 8 ∧ H bl = some (.lst bv) ∧ F2 (TrM B0 H) bs bv ∧ bs.length ≤ 1 ∧ ky bs p = [r] ∧ ∀ v H', aK H H' → TrM B0 H' r v → Q v H'
seal PE PS PSs L2.PA PT PI PG in
theorem pC (T : Txt K mg A) : FnOk P w K mg base CX0 2 A.rV A.rh jg zn := by
 have kq := mK (P := P) (w := w) (base := base) T
 refine T.eJ.F.ok gf (fun vs H Q E h => ?_) (fun cdv B outer s H vs Q E hr h => ?_)
 ·obtain ⟨B0, wl, bl, p, bs, pvs, bv, r, rfl, _⟩ := h; rfl
 obtain ⟨B0, wl, bl, p, bs, pvs, bv, r, rfl, s0, ew, kp, hp, p0, p8, eb, kb, b1, er, q⟩ := h
 refine ⟨_, @ag _ _ _ _ _ (fN PassesOwn.never rfl (Bi rfl T.cL (aa (aJ vj (ax aN rfl T.bR ca (aa (pv 0) ae)) af) (aa (mP jC af) (aa (mP jC af) ae)))) (aS (i := 2) gf.nd rfl (Or.inl rfl)) (@ag _ _ _ _ _ (aF (i := 3) gf.nd rfl (Or.inl rfl) (bb ae))
  (@ag _ _ _ _ _ (fN PassesOwn.never rfl (vL (aI aY (aI aW (pv 0) (pv 2) (fun _ _ => rfl)) af (fun _ _ => rfl))) (aS (i := 4) gf.nd rfl (Or.inl rfl)) (av (dC (gY PySem.F.plainAttrs_list PySem.F.slot_list_extend PySem.F.type_list_extend iH (pv 3) (aa (qv (aE bW (aI aY (pv 4) af (fun _ _ => rfl)) (aI aY (aI aW (pv 0) (aJ cU (pv 2) af) (fun _ _ => rfl)) af (fun _ _ => rfl)) (aG _)) (pv 1) (bb (aa (pv 4) ae))) ae)))))
  (av (aF (i := 1) gf.nd rfl (Or.inl rfl) (bb (aa (az kq hr rfl T.dz.m T.dz.F.kp T.dz.b .nil bg (aa (aI aW (pv 0) (pv 2) (fun _ _ => rfl)) (aa (pv 3) ae))) ae)))))))
  (av (aO (aI aW (pv 1) af (fun _ _ => rfl)))), ?_⟩
 have lp := kp.len
 have pl : 1 ≤ p.length := List.length_pos_iff.mpr p0
 refine aU fun N1 k1 => ?_
 refine ⟨_, rfl, wl, pvs, rfl, .inl (.of ew), _, _, rfl, rfl, _, rfl, _, rfl, _, rfl, ⟨by omega, by omega⟩, ?_⟩
 have en : ((pvs.length : Int) - 2 + 1).toNat = p.length - 1 := by omega
 refine BV (lo := (pvs.length : Int) - 2) (n := ((pvs.length : Int) - 2 + 1).toNat) (fun i σ H' => ∃ (x : Addr) (bv' : List V) (v2 v3 v4 : Option V), σ = [some (.ref wl), some (.ref x), v2, v3, v4] ∧ aK H H' ∧ H' x = some (.lst bv') ∧ F2 (TrM B0 H') (ky bs (p.drop (p.length - 1 - i))) bv') ⟨bl, bv, none, none, none, rfl, .refl _, eb, ?_⟩ ?_ ?_
 ·have e1 : ky bs (p.drop (p.length - 1 - 0)) = bs := by
   have : (p.drop (p.length - 1 - 0)).length = 1 := by rw [List.length_drop]; omega
   match p.drop (p.length - 1 - 0), this with
   | [y], _ => rfl
  rw [e1]
  exact kb
 ·rintro i σ H2 hi ⟨x, bv', v2, v3, v4, rfl, s2, e2, k2⟩
  rw [en] at hi
  obtain ⟨m, hm⟩ : ∃ m : Nat, m = p.length - 2 - i := ⟨_, rfl⟩
  have eat : (pvs.length : Int) - 2 + (i : Int) * (-1) = (m : Int) := by omega
  have m0 : m < p.length := by omega
  have m1 : m + 1 < p.length := by omega
  have d0 : p.drop m = p[m] :: p.drop (m + 1) := List.drop_eq_getElem_cons m0
  have d1 : p.drop (m + 1) = p[m + 1] :: p.drop (m + 1 + 1) := List.drop_eq_getElem_cons m1
  rw [show p.length - 1 - i = m + 1 by omega] at k2
  obtain ⟨va, hva⟩ : ∃ v, pvs[m]? = some v := ⟨_, List.getElem?_eq_getElem (by omega)⟩
  obtain ⟨vb, hvb⟩ : ∃ v, pvs[m + 1]? = some v := ⟨_, List.getElem?_eq_getElem (by omega)⟩
  have ta := kp.get (List.getElem?_eq_getElem m0) hva
  have tb := kp.get (List.getElem?_eq_getElem m1) hvb
  obtain ⟨aA, kA⟩ := hp _ (List.getElem_mem m0)
  obtain ⟨aB, _⟩ := hp _ (List.getElem_mem m1)
  have eR : ky bs (p.drop m) = [dP p[m] ((aj p[m]).flatMap fun k => if ah k = ah p[m + 1] then ky bs (p.drop (m + 1)) else [k])] := by
   rw [d0, d1]; rfl
  generalize p[m] = ta' at ta aA kA eR
  generalize p[m + 1] = tb' at tb aB eR
  have lR := Bt b1 (p.drop (m + 1))
  generalize ky bs (p.drop (m + 1)) = R at k2 eR lR
  have bA := bf aA
  have bB := bf aB
  obtain ⟨a1, tg1, ks1, mv1, kv1, rfl, ea1, _, _, ek1, ak1⟩ := cK ta bA
  obtain ⟨a2, tg2, ks2, mv2, kv2, rfl, ea2, _, _, ek2, ak2⟩ := cK tb bB
  have k12 := bA.kids
  have lk := ak1.len
  have ew2 := s2 _ _ ew
  have s02 := s0.trans s2
  replace ea1 := s02 _ _ ea1
  replace ea2 := s02 _ _ ea2
  replace ek1 := s02 _ _ ek1
  have atA : atI pvs (m : Int) = some (.ref a1) := bY hva
  have atB : atI pvs ((m : Int) + 1) = some (.ref a2) := by
   rw [show (m : Int) + 1 = ((m + 1 : Nat) : Int) by omega]
   exact bY hvb
  show iC _ _ _ _ _
  rw [eat]
  refine aU fun Na ka => ?_
  refine ⟨small (by simp), fun kl hkl => ka _ _ ?_⟩
  have s3 := ao hkl (.lst [])
  have g3 : upd H2 kl (.lst []) kl = some (.lst []) := ai
  have nw : wl ≠ kl := fun z => by rw [← z, ew2] at hkl; cases hkl
  have nx : x ≠ kl := fun z => by rw [← z, e2] at hkl; cases hkl
  have hk0 : H kl = none := fZ s2 hkl
  have hkB : B0 kl = none := fZ s0 hk0
  have ew3 := s3 _ _ ew2
  have e3 := s3 _ _ e2
  have k3 := k2.mono fun _ _ y => y.keep (.of s3)
  have ea3 := s3 _ _ ea1
  have eb3 := s3 _ _ ea2
  have ek3 := s3 _ _ ek1
  have ak3 : F2 (TrM B0 (upd H2 kl (.lst []))) (aj ta') kv1 := TrM.olds ak1
  have s03 := s2.trans s3
  generalize upd H2 kl (.lst []) = H3 at g3 ew3 e3 k3 ea3 eb3 ek3 ak3 s03 ⊢
  (try dsimp only [bp]); show iC _ _ _ _ _
  refine aU fun Nb kb' => ?_
  refine ⟨_, rfl, _, rfl, wl, _, _, _, rfl, rfl, .of ew3, atA, a1, _, _, _, rfl, rfl, .of ea3, rfl, ks1, rfl, ⟨_, .of ek3⟩, vP (xs := kv1) (fun j σ H' => ∃ (ws : List V) (v4 : Option V), σ = [some (.ref wl), some (.ref x), some (.int (m : Int)), some (.ref kl), v4] ∧ oZ kl H3 H' ∧ H' kl = some (.lst ws) ∧ ws.length ≤ j * 1 ∧ F2 (TrM B0 H') (((aj ta').take j).flatMap fun k => if ah k = ah tb' then R else [k]) ws) ⟨[], v4, rfl, .of (.refl _), g3, Nat.le_refl _, .nil⟩ (fun j σ H' _ z => ?_) ?_ ?_⟩
  ·obtain ⟨_, _, _, b4, _⟩ := z
   exact .of (b4 _ _ (fun z => by rw [z, g3] at ek3; cases ek3) ek3)
  ·rintro j v σ H4 hv ⟨ws, v4, rfl, b4, g4, lw, k4⟩
   have sT := b4.tup g3
   obtain ⟨kd, hkd, kk⟩ := jY ak1 hv
   have s04 : aK B0 H4 := fun b u z => b4 _ _ (aX z hkB) (s0.trans s03 _ _ z)
   have kk4 := kk.same s04
   have km := List.mem_of_getElem? hkd
   obtain ⟨ad, tgd, ksd, mvd, kvd, rfl, ead, _⟩ := cK kk4 (bf (kA kd km))
   have jl : j < (aj ta').length := (List.getElem?_eq_some_iff.mp hkd).1
   have ej : ((aj ta').take (j + 1)).flatMap (fun k => if ah k = ah tb' then R else [k]) = ((aj ta').take j).flatMap (fun k => if ah k = ah tb' then R else [k]) ++ (if ah kd = ah tb' then R else [kd]) := by
    rw [List.take_add_one, hkd, List.flatMap_append]
    show _ ++ [kd].flatMap _ = _
    rw [List.flatMap_cons, List.flatMap_nil, List.append_nil]
   refine ⟨_, rfl, .inl ⟨rfl, _, .of g4⟩, _, rfl, ad, _, _, _, rfl, rfl, .of ead, rfl, _, rfl, _, rfl, _, _, rfl, rfl, wl, _, _, _, rfl, rfl, .of (b4 _ _ nw ew3), atB, a2, _, _, _, rfl, rfl, .of (sT _ _ eb3), rfl, rfl, _, rfl, ?_⟩
   rw [bh]
   by_cases hn : ah kd = ah tb'
   ·rw [if_pos hn] at ej
    refine aH (decide_eq_true hn) ?_
    have e4 := b4 _ _ nx e3
    have lk3 := k3.len
    refine ⟨_, rfl, kl, x, _, _, rfl, rfl, g4, e4, small (by omega), ?_⟩
    have t5 : gZ H4 (upd H4 kl (.lst (ws ++ bv'))) := .upd g4 _
    refine ⟨_, _, rfl, b4.trans .upd, ai, by rw [List.length_append]; omega, ?_⟩
    rw [ej]
    exact (k4.mono fun _ _ y => y.keep t5).append (k3.mono fun _ _ y => y.keep (sT.trans t5))
   ·rw [if_neg hn] at ej
    refine aP (decide_eq_false hn) ?_
    refine ⟨_, rfl, small (by simp), fun l1 hl1 => ?_⟩
    have s5 := ao hl1 (.lst [V.ref ad])
    have n1 : l1 ≠ kl := fun z => by rw [z, g4] at hl1; cases hl1
    refine ⟨kl, l1, _, _, rfl, rfl, s5 _ _ g4, ai, small (by rw [List.length_singleton]; omega), ?_⟩
    have t5 : gZ H4 (upd (upd H4 l1 (.lst [V.ref ad])) kl (.lst (ws ++ [V.ref ad]))) := (gZ.of s5).trans (.upd (s5 _ _ g4) _)
    refine ⟨_, _, rfl, (b4.trans (.of s5)).trans .upd, ai, by rw [List.length_append, List.length_singleton]; omega, ?_⟩
    rw [ej]
    exact (k4.mono fun _ _ y => y.keep t5).append (.one (.old kk))
  rintro σ H4 ⟨ws, v4, rfl, b4, g4, lw, k4⟩
  rw [← lk, List.take_length] at k4
  refine kb' _ _ ?_
  have sT := b4.tup g3
  have s04 : aK H H4 := fun b u z => b4 _ _ (aX z hk0) (s03 _ _ z)
  have sB4 : aK B0 H4 := s0.trans s04
  refine ⟨_, rfl, _, rfl, wl, _, _, _, rfl, rfl, .of (b4 _ _ nw ew3), atA, _, rfl, B0, .ref a1, ta', kl, _, ws, rfl, sB4, ta, aA, .inl g4, k4, fun v H5 s5 t5 => ⟨small (by simp), fun x2 hx2 => ?_⟩⟩
  have s6 := ao hx2 (.lst [v])
  refine ⟨x2, [v], _, _, _, rfl, s04.trans (s5.trans s6), ai, ?_⟩
  rw [show p.length - 1 - (i + 1) = m by omega, eR]
  exact .one (t5.keep (.of s6))
 ·rintro σ H2 ⟨x, bv', v2, v3, v4, rfl, s2, e2, k2⟩
  rw [en, Nat.sub_self, List.drop_zero, er] at k2
  refine k1 _ _ ?_
  cases k2 with
  | cons h k =>
  cases k
  exact ⟨_, rfl, x, _, _, _, rfl, rfl, .of e2, rfl, q _ _ s2 h⟩
end
theorem jd {z : Str} : ∀ {f : Nat} {t : Tr} {p : List Tr}, cf f t = true → WayTo z t p → ∀ x ∈ p, aT x = true ∧ ∀ k ∈ aj x, aT k = true
 | 0, _, _, h, _ => by cases h
 | f + 1, t, p, h, w => by
  obtain ⟨al, fk⟩ := aV h
  have hd : aT t = true ∧ ∀ k ∈ aj t, aT k = true := ⟨al, fun k hk => by
   have := fk k hk
   cases f with
   | zero => cases this
   | succ f => exact (aV this).1⟩
  cases w with
  | here e => intro x hx; rw [List.mem_singleton.mp hx]; exact hd
  | @down _ b r hb k =>
   intro x hx
   rcases List.mem_cons.mp hx with rfl | hx
   ·exact hd
   ·exact jd (fk b hb) k x hx
theorem kK {z : Str} : ∀ {f : Nat} {t : Tr} {p : List Tr}, cf f t = true → WayTo z t p → p ≠ [] ∧ p.length ≤ f
 | 0, _, _, h, _ => by cases h
 | f + 1, t, p, h, w => by
  cases w with
  | here e => exact ⟨List.cons_ne_nil _ _, by rw [List.length_singleton]; omega⟩
  | @down _ b r hb k =>
   have := (kK ((aV h).2 b hb) k).2
   exact ⟨List.cons_ne_nil _ _, by rw [List.length_cons]; omega⟩
theorem og {n : Str} {g : Tr → List Tr} (hg : ∀ u, (g u).length = 1) : ∀ (f : Nat) (t : Tr), (bM n g f t).length = 1
 | 0, _ => rfl
 | f + 1, t => by
  unfold bM
  split
  ·exact hg t
  ·rfl
noncomputable def dB (m : Tr) : Tr → Tr
 | .tup [k, n, tg, _, ks] => .tup [k, n, tg, m, ks]
 | t => t
noncomputable def dE (m : Tr) : Tr → Tr
 | .tup [k, n, _, mo, ks] => .tup [k, n, m, mo, ks]
 | t => t
theorem sq {H : Hp} {t : Tr} {v : V} (h : TrAt H t v) (b : Bok t) : ∃ (a : Addr) (v2 v3 v4 : V), v = .ref a ∧ H a = some (.tup [.str (kindOf t), .str (ah t), v2, v3, v4]) ∧ TrAt H (.str (kindOf t)) (.str (kindOf t)) ∧ TrAt H (.str (ah t)) (.str (ah t)) ∧ TrAt H (.tup ((fM t).map Tr.str)) v2 ∧ TrAt H (eQ t) v3 ∧ TrAt H (.tup (aj t)) v4 := by
 have h' := h
 rw [b.form] at h'
 obtain ⟨a, vs, rfl, ea, k⟩ := h'.tupE
 cases k with
 | @cons _ v0 _ _ a0 k =>
 cases k with
 | @cons _ v1 _ _ a1 k =>
 cases k with
 | @cons _ v2 _ _ a2 k =>
 cases k with
 | @cons _ v3 _ _ a3 k =>
 cases k with
 | @cons _ v4 _ _ a4 k =>
 cases k
 have a0' := a0
 have a1' := a1
 cases a0
 cases a1
 exact ⟨a, v2, v3, v4, rfl, ea, a0', a1', a2, a3, a4⟩
theorem vm {xs : List V} {x : V} : atI (xs ++ [x]) (-1) = some x := by
 unfold atI ixN
 rw [if_neg (by decide), if_pos (by simp; omega)]
 show (xs ++ [x])[(-1 + ((xs ++ [x]).length : Int)).toNat]? = some x
 rw [show (-1 + ((xs ++ [x]).length : Int)).toNat = xs.length by simp; omega]
 simp
section
variable {P : Program} {w : World} {K : PySem.W.Frag} {mg : Str → Option Value} {base : Heap} {A : Adr}
theorem Txt.np (T : Txt K mg A) : ClsAt K A.c_PaneError [A.c_NoShare, A.c_NoBox, A.c_NoText, A.c_NoRule, A.c_NoName, A.c_NoPlace, A.c_NoPage, A.c_NoChange, A.c_NoUndo, A.c_NoRow] A.c_NoPlace := (uL T.cls).2 _ (by simp)
theorem Cl (T : Txt K mg A) {N : List Str} {qual : Str} {scope : Scope} {f : Addr} {cd : Value} {B : Around} {outer : List Env} {s : Shared} {H : Hp} {E : XK} {x : Str} {j np cp pp pos : _} (hg : Gl (fH (CXW P w) P w K mg base N qual scope f cd B outer s H E) "NoPlace") :
  PS (fH (CXW P w) P w K mg base N qual scope f cd B outer s H E) (.Raise (some (.Call (.Name "NoPlace" np) [.Constant (.str x) j cp] [] pp)) none pos) (vZ E A.c_NoPlace (gL (tC (.str x)) nk)) :=
 so vg rfl hg T.m_NoPlace T.np.exc PySem.F.excBase_ValueError PySem.F.excBase_ValueError (by decide) (by show 1 ≤ 1000; omega) (aa ar ae) (fun σ H Q h => ⟨by show 1 ≤ sizeLine; decide, h⟩)
noncomputable def DR (A : Adr) : Sp := fun vs H Q E => ∃ (dv : V) (t : Tr) (z : Str), vs = [dv, .str z] ∧ TrAt H t dv ∧ (bN t = false → ∀ H', aK H H' → E (.ref A.c_NoBox) none H') ∧ (bN t = true → z ∉ (aQ 8 t).map ah → ∀ H', aK H H' → E (.ref A.c_NoName) none H') ∧
 (bN t = true → ∀ p, WayTo z t p → ∀ (l : Addr) (vs : List V) (H' : Hp), aK H H' → H' l = some (.lst vs) → bL H' p vs → Q (.ref l) H')
seal PE PS PSs L2.PA PT PI PG in
theorem lg (T : Txt K mg A) : FnOk P w K mg base (CXW P w) 7 A.xO A.xu nN (DR A) := by
 have gi := iI (P := P) (w := w) (base := base) T
 have CW := (BE (P := P) (w := w) (base := base) T).mono (show 1 ≤ 6 by decide)
 refine T.cW.F.okW Bb (fun vs H Q E h => ?_) (fun cdv B outer s H vs Q E hr h => ?_)
 ·obtain ⟨dv, t, z, rfl, _⟩ := h; rfl
 obtain ⟨dv, t, z, rfl, ht, qb, qn, qf⟩ := h
 refine ⟨_, @ag _ _ _ _ _ (dC (az gi hr rfl T.cv.m T.cv.F.kp T.cv.b .nil (kn fun _ _ _ z => z) (aa (pv 0) ae)))
  (av (aO (az CW hr rfl T.nX.m T.nX.F.kp T.nX.b .nil (kn fun _ _ _ z => z) (aa (pv 0) (aa (pv 1) ae))))), ?_⟩
 refine ⟨_, rfl, dv, t, rfl, ht, fun hd H1 s1 => ?_, fun hd H1 s1 => qb hd _ s1⟩
 obtain ⟨f8, n40⟩ := fh hd
 have n40' : (aQ 8 t).length ≤ 40 := by rw [← iW 8 0, List.length_map]; exact n40
 exact ⟨_, rfl, _, rfl, dv, t, z, rfl, ht.same s1, f8, n40', fun p hw l vs H2 hl s2 e2 k2 => qf hd p hw l vs H2 (s1.trans s2) e2 k2, fun hz H2 s2 => qn hd hz _ (s1.trans s2)⟩
noncomputable def Bs (c0 : Addr) : Sp := fun vs H Q E => ∃ (B0 : Hp) (wl : Addr) (p : List Tr) (pvs : List V) (xv : V) (x r : Tr), vs = [.ref wl, xv] ∧ aK B0 H ∧ H wl = some (.lst pvs) ∧ bL B0 p pvs ∧ (∀ x ∈ p, aT x = true ∧ ∀ k ∈ aj x, aT k = true) ∧ p ≠ [] ∧ p.length ≤ 8 ∧ TrM B0 H x xv ∧ ky [x] p = [r] ∧
 (bN r = true → ∀ v H', aK H H' → TrM B0 H' r v → Q v H') ∧ (bN r = false → ∀ H', aK H H' → E (.ref c0) none H')
seal PE PS PSs L2.PA PT PI PG in
theorem mC (T : Txt K mg A) : FnOk P w K mg base (CXW P w) 7 A.tU A.uh kT (Bs A.c_NoBox) := by
 have gi := iI (P := P) (w := w) (base := base) T
 have mz := (pC (P := P) (w := w) (base := base) T).mono (show 2 ≤ 6 by decide)
 refine T.dg.F.okW rm (fun vs H Q E h => ?_) (fun cdv B outer s H vs Q E hr h => ?_)
 ·obtain ⟨B0, wl, p, pvs, xv, x, r, rfl, _⟩ := h; rfl
 obtain ⟨B0, wl, p, pvs, xv, x, r, rfl, s0, ew, kp, hp, p0, p8, hx, er, qt, qf⟩ := h
 refine ⟨_, @ag _ _ _ _ _ (aF (i := 2) rm.nd rfl (Or.inl rfl) (az mz hr rfl T.eJ.m T.eJ.F.kp T.eJ.b .nil bg (aa (pv 0) (aa (bb (aa (pv 1) ae)) ae))))
  (@ag _ _ _ _ _ (dC (az gi hr rfl T.cv.m T.cv.F.kp T.cv.b .nil (kn fun _ _ _ z => z) (aa (pv 2) ae)))
  (av (aO (pv 2)))), ?_⟩
 refine ⟨_, rfl, _, rfl, small (by simp), fun l hl => ?_⟩
 have s1 := ao hl (.lst [xv])
 refine ⟨B0, wl, l, p, [x], pvs, [xv], r, rfl, s0.trans s1, s1 _ _ ew, kp, hp, p0, p8, ai, .one (hx.keep (.of s1)), Nat.le_refl _, er, fun v H2 s2 t2 => ?_⟩
 have s02 := s1.trans s2
 refine ⟨_, rfl, v, r, rfl, t2.tr (s0.trans s02), fun hd H3 s3 => ?_, fun hd H3 s3 => qf hd _ (s02.trans s3)⟩
 exact ⟨_, rfl, qt hd _ _ (s02.trans s3) (t2.keep (.of s3))⟩
noncomputable def yY (A : Adr) : Sp := fun vs H Q E => ∃ (dv mv : V) (t m : Tr) (z : Str), vs = [dv, .str z, mv] ∧ TrAt H t dv ∧ TrAt H m mv ∧ (bN t = false → ∀ H', aK H H' → E (.ref A.c_NoBox) none H') ∧ (bN t = true → z ∉ (aQ 8 t).map ah → ∀ H', aK H H' → E (.ref A.c_NoName) none H') ∧
 (bN t = true → ∀ p u, WayTo z t p → p.getLast? = some u → (kindOf u ≠ "words" → ∀ H', aK H H' → E (.ref A.c_NoBox) none H') ∧ (kindOf u = "words" → ∀ r, bM z (fun u => [dB m u]) 8 t = [r] → (bN r = true → ∀ v H', aK H H' → TrAt H' r v → Q v H') ∧ (bN r = false → ∀ H', aK H H' → E (.ref A.c_NoBox) none H')))
seal PE PS PSs L2.PA PT PI PG in
theorem vK (T : Txt K mg A) : FnOk P w K mg base (CXW P w) 8 A.pJ A.pN hU (yY A) := by
 have gU := lg (P := P) (w := w) (base := base) T
 have je := mC (P := P) (w := w) (base := base) T
 refine T.ib.F.okW jy (fun vs H Q E h => ?_) (fun cdv B outer s H vs Q E hr h => ?_)
 ·obtain ⟨dv, mv, t, m, z, rfl, _⟩ := h; rfl
 obtain ⟨dv, mv, t, m, z, rfl, ht, hm, qb, qn, qw⟩ := h
 refine ⟨_, @ag _ _ _ _ _ (aF (i := 3) jy.nd rfl (Or.inl rfl) (az gU hr rfl T.cW.m T.cW.F.kp T.cW.b .nil (kn fun _ _ _ z => z) (aa (pv 0) (aa (pv 1) ae))))
  (@ag _ _ _ _ _ (aF (i := 4) jy.nd rfl (Or.inl rfl) (aI aW (pv 3) (mP jC af) (fun _ _ => rfl)))
  (@ag _ _ _ _ _ (bF (aE nO (aI aY (pv 4) af (fun _ _ => rfl)) ar (aG _)) (av (wD T rfl)) aR)
  (av (aO (az je hr rfl T.dg.m T.dg.F.kp T.dg.b .nil (kn fun _ _ _ z => z) (aa (pv 3) (aa (aM (aa (aI aY (pv 4) af (fun _ _ => rfl)) (aa (aI aY (pv 4) af (fun _ _ => rfl)) (aa (aI aY (pv 4) af (fun _ _ => rfl)) (aa (pv 2) (aa (aI aY (pv 4) af (fun _ _ => rfl)) ae)))))) ae))))))), ?_⟩
 refine ⟨_, rfl, _, rfl, dv, t, z, rfl, ht, qb, qn, fun hd p hw wl pvs H1 s1 e1 kp => ?_⟩
 obtain ⟨f8, _⟩ := fh hd
 obtain ⟨p0, p8⟩ := kK f8 hw
 have pa := jd f8 hw
 have nd : NdT 8 t := ((fO 8 t).map ah).nodup (nB hd 8).2
 obtain ⟨q', u, eq'⟩ : ∃ q' u, p = q' ++ [u] := ⟨p.dropLast, p.getLast p0, (List.dropLast_concat_getLast p0).symm⟩
 have hu : p.getLast? = some u := by rw [eq', List.getLast?_append]; rfl
 obtain ⟨qk, qr⟩ := qw hd p u hw hu
 have er := jW (g := fun u => [dB m u]) f8 nd hw hu
 obtain ⟨r, er2⟩ : ∃ r, bM z (fun u => [dB m u]) 8 t = [r] := by
  have := og (n := z) (g := fun u => [dB m u]) (fun _ => rfl) 8 t
  exact List.length_eq_one_iff.mp this
 have au := (pa u (by rw [eq']; simp)).1
 have bu := bf au
 obtain ⟨vs', uv, rfl, _, tu⟩ := F2.lastL (show bL H1 (q' ++ [u]) pvs by rw [← eq']; exact kp)
 obtain ⟨a, v2, v3, v4, rfl, ea, t0, t1, t2, t3, t4⟩ := sq tu bu
 refine ⟨_, rfl, _, rfl, wl, _, _, _, rfl, rfl, .of e1, vm, ?_⟩
 (try dsimp only [bp]); show iC _ _ _ _ _
 refine ⟨_, rfl, a, _, _, _, rfl, rfl, .of ea, rfl, rfl, _, rfl, ?_⟩
 by_cases hk : ¬ kindOf u = "words"
 ·refine aH (by rw [bh, decide_eq_false hk]; rfl) ?_
  exact qk hk _ s1
 have hk := Decidable.not_not.mp hk
 obtain ⟨qt, qf⟩ := qr hk r er2
 refine aP (by rw [bh, decide_eq_true hk]; rfl) ?_
 refine kB ?_
 refine ⟨_, rfl, _, rfl, a, _, _, _, rfl, rfl, .of ea, rfl, _, rfl, a, _, _, _, rfl, rfl, .of ea, rfl, _, rfl, a, _, _, _, rfl, rfl, .of ea, rfl, _, rfl, _, rfl, a, _, _, _, rfl, rfl, .of ea, rfl, small (by simp), fun x hx => ?_⟩
 have s2 := ao hx (.tup [V.str (kindOf u), .str (ah u), v2, mv, v4])
 refine ⟨H1, wl, p, _, .ref x, dB m u, r, rfl, s2, s2 _ _ e1, kp, pa, p0, p8, ?_, er.trans er2, fun hd2 v H3 s3 t3' => qt hd2 v H3 (s1.trans (s2.trans s3)) (t3'.tr (s2.trans s3)), fun hd2 H3 s3 => qf hd2 H3 (s1.trans (s2.trans s3))⟩
 have e : dB m u = .tup [.str (kindOf u), .str (ah u), .tup ((fM u).map Tr.str), m, .tup (aj u)] := (congrArg (dB m) bu.form).trans rfl
 rw [e]
 exact TrM.tup' ai (.cons (.old t0) (.cons (.old t1) (.cons (.old t2) (.cons (.old (hm.same s1)) (.cons (.old t4) .nil)))))
end
section
variable {P : Program} {w : World} {K : PySem.W.Frag} {mg : Str → Option Value} {base : Heap} {A : Adr}
noncomputable def zd (A : Adr) : Sp := fun vs H Q E => ∃ (dv mv : V) (t m : Tr) (z : Str), vs = [dv, .str z, mv] ∧ TrAt H t dv ∧ TrAt H m mv ∧ (bN t = false → ∀ H', aK H H' → E (.ref A.c_NoBox) none H') ∧ (bN t = true → z ∉ (aQ 8 t).map ah → ∀ H', aK H H' → E (.ref A.c_NoName) none H') ∧
 (bN t = true → ∀ p u, WayTo z t p → p.getLast? = some u → (∀ r, bM z (fun u => [dE m u]) 8 t = [r] → (bN r = true → ∀ v H', aK H H' → TrAt H' r v → Q v H') ∧ (bN r = false → ∀ H', aK H H' → E (.ref A.c_NoBox) none H')))
seal PE PS PSs L2.PA PT PI PG in
theorem uQ (T : Txt K mg A) : FnOk P w K mg base (CXW P w) 8 A.pA A.pz im (zd A) := by
 have gU := lg (P := P) (w := w) (base := base) T
 have je := mC (P := P) (w := w) (base := base) T
 refine T.ig.F.okW jw (fun vs H Q E h => ?_) (fun cdv B outer s H vs Q E hr h => ?_)
 ·obtain ⟨dv, mv, t, m, z, rfl, _⟩ := h; rfl
 obtain ⟨dv, mv, t, m, z, rfl, ht, hm, qb, qn, qw⟩ := h
 refine ⟨_, @ag _ _ _ _ _ (aF (i := 3) jw.nd rfl (Or.inl rfl) (az gU hr rfl T.cW.m T.cW.F.kp T.cW.b .nil (kn fun _ _ _ z => z) (aa (pv 0) (aa (pv 1) ae))))
  (@ag _ _ _ _ _ (aF (i := 4) jw.nd rfl (Or.inl rfl) (aI aW (pv 3) (mP jC af) (fun _ _ => rfl)))
  (av (aO (az je hr rfl T.dg.m T.dg.F.kp T.dg.b .nil (kn fun _ _ _ z => z) (aa (pv 3) (aa (aM (aa (aI aY (pv 4) af (fun _ _ => rfl)) (aa (aI aY (pv 4) af (fun _ _ => rfl)) (aa (pv 2) (aa (aI aY (pv 4) af (fun _ _ => rfl)) (aa (aI aY (pv 4) af (fun _ _ => rfl)) ae)))))) ae)))))), ?_⟩
 refine ⟨_, rfl, _, rfl, dv, t, z, rfl, ht, qb, qn, fun hd p hw wl pvs H1 s1 e1 kp => ?_⟩
 obtain ⟨f8, _⟩ := fh hd
 obtain ⟨p0, p8⟩ := kK f8 hw
 have pa := jd f8 hw
 have nd : NdT 8 t := ((fO 8 t).map ah).nodup (nB hd 8).2
 obtain ⟨q', u, eq'⟩ : ∃ q' u, p = q' ++ [u] := ⟨p.dropLast, p.getLast p0, (List.dropLast_concat_getLast p0).symm⟩
 have hu : p.getLast? = some u := by rw [eq', List.getLast?_append]; rfl
 have qr := qw hd p u hw hu
 have er := jW (g := fun u => [dE m u]) f8 nd hw hu
 obtain ⟨r, er2⟩ : ∃ r, bM z (fun u => [dE m u]) 8 t = [r] := by
  have := og (n := z) (g := fun u => [dE m u]) (fun _ => rfl) 8 t
  exact List.length_eq_one_iff.mp this
 have au := (pa u (by rw [eq']; simp)).1
 have bu := bf au
 obtain ⟨vs', uv, rfl, _, tu⟩ := F2.lastL (show bL H1 (q' ++ [u]) pvs by rw [← eq']; exact kp)
 obtain ⟨a, v2, v3, v4, rfl, ea, t0, t1, t2, t3, t4⟩ := sq tu bu
 refine ⟨_, rfl, _, rfl, wl, _, _, _, rfl, rfl, .of e1, vm, ?_⟩
 (try dsimp only [bp])
 obtain ⟨qt, qf⟩ := qr r er2
 refine ⟨_, rfl, _, rfl, a, _, _, _, rfl, rfl, .of ea, rfl, _, rfl, a, _, _, _, rfl, rfl, .of ea, rfl, _, rfl, _, rfl, a, _, _, _, rfl, rfl, .of ea, rfl, _, rfl, a, _, _, _, rfl, rfl, .of ea, rfl, small (by simp), fun x hx => ?_⟩
 have s2 := ao hx (.tup [V.str (kindOf u), .str (ah u), mv, v3, v4])
 refine ⟨H1, wl, p, _, .ref x, dE m u, r, rfl, s2, s2 _ _ e1, kp, pa, p0, p8, ?_, er.trans er2, fun hd2 v H3 s3 t3' => qt hd2 v H3 (s1.trans (s2.trans s3)) (t3'.tr (s2.trans s3)), fun hd2 H3 s3 => qf hd2 H3 (s1.trans (s2.trans s3))⟩
 have e : dE m u = .tup [.str (kindOf u), .str (ah u), m, eQ u, .tup (aj u)] := (congrArg (dE m) bu.form).trans rfl
 rw [e]
 exact TrM.tup' ai (.cons (.old t0) (.cons (.old t1) (.cons (.old (hm.same s1)) (.cons (.old t3) (.cons (.old t4) .nil)))))
noncomputable def By (A : Adr) : Sp := fun vs H Q E => ∃ (dv : V) (t : Tr) (z : Str), vs = [dv, .str z] ∧ TrAt H t dv ∧ (bN t = false → ∀ H', aK H H' → E (.ref A.c_NoBox) none H') ∧ (bN t = true → z ∉ (aQ 8 t).map ah → ∀ H', aK H H' → E (.ref A.c_NoName) none H') ∧
 (bN t = true → ∀ p, WayTo z t p → (p.length = 1 → ∀ H', aK H H' → E (.ref A.c_NoPlace) none H') ∧ (p.length ≠ 1 → ∀ r, bM z (fun _ => []) 8 t = [r] → ∀ v H', aK H H' → TrAt H' r v → Q v H'))
seal PE PS PSs L2.PA PT PI PG in
theorem zp (T : Txt K mg A) : FnOk P w K mg base (CXW P w) 8 A.tE A.tD kM (By A) := by
 have gU := lg (P := P) (w := w) (base := base) T
 have mz := (pC (P := P) (w := w) (base := base) T).mono (show 2 ≤ 7 by decide)
 refine T.kQ.F.okW rB (fun vs H Q E h => ?_) (fun cdv B outer s H vs Q E hr h => ?_)
 ·obtain ⟨dv, t, z, rfl, _⟩ := h; rfl
 obtain ⟨dv, t, z, rfl, ht, qb, qn, qw⟩ := h
 refine ⟨_, @ag _ _ _ _ _ (aF (i := 2) rB.nd rfl (Or.inl rfl) (az gU hr rfl T.cW.m T.cW.F.kp T.cW.b .nil (kn fun _ _ _ z => z) (aa (pv 0) (aa (pv 1) ae))))
  (@ag _ _ _ _ _ (bF (aE bW (ax aN rfl T.bR ca (aa (pv 2) ae)) af (aG _)) (av (Cl T rfl)) aR)
  (av (aO (az mz hr rfl T.eJ.m T.eJ.F.kp T.eJ.b .nil bg (aa (pv 2) (aa (bb ae) ae)))))), ?_⟩
 refine ⟨_, rfl, _, rfl, dv, t, z, rfl, ht, qb, qn, fun hd p hw wl pvs H1 s1 e1 kp => ?_⟩
 obtain ⟨f8, _⟩ := fh hd
 obtain ⟨p0, p8⟩ := kK f8 hw
 have pa := jd f8 hw
 have nd : NdT 8 t := ((fO 8 t).map ah).nodup (nB hd 8).2
 obtain ⟨q1, q2⟩ := qw hd p hw
 have lp := kp.len
 obtain ⟨u, hu⟩ : ∃ u, p.getLast? = some u := ⟨p.getLast p0, List.getLast?_eq_some_getLast p0⟩
 have er := jW (g := fun _ => []) f8 nd hw hu
 (try dsimp only [bp]); show iC _ _ _ _ _
 refine ⟨_, rfl, wl, pvs, rfl, .inl (.of e1), rfl, _, rfl, ?_⟩
 by_cases h1 : p.length = 1
 ·refine aH (decide_eq_true (by rw [← lp, h1]; rfl)) ?_
  exact q1 h1 _ s1
 ·refine aP (decide_eq_false fun z => h1 (by injection z with z; omega)) ?_
  refine kB ?_
  obtain ⟨r, er2⟩ : ∃ r, ky [] p = [r] := by
   match p, p0, h1 with
   | [], h, _ => exact absurd rfl h
   | [_], _, h => exact absurd rfl h
   | a :: b :: r, _, _ => exact ⟨_, rfl⟩
  refine ⟨_, rfl, small (by simp), fun l hl => ?_⟩
  have s2 := ao hl (.lst [])
  exact ⟨H1, wl, l, p, [], pvs, [], r, rfl, s2, s2 _ _ e1, kp, pa, p0, p8, ai, .nil, Nat.zero_le _, er2, fun v H3 s3 t3 => q2 h1 r (er.symm.trans er2) v H3 (s1.trans (s2.trans s3)) (t3.tr (s2.trans s3))⟩
noncomputable def EK (A : Adr) : Sp := fun vs H Q E => ∃ (bv pv' : V) (t pl : Tr), vs = [bv, pv'] ∧ TrAt H t bv ∧ aT t = true ∧ TrAt H pl pv' ∧
 ((br.any fun y => y == kindOf t) = true → ∀ H', aK H H' → E (.ref A.c_NoPlace) none H') ∧ ((br.any fun y => y == kindOf t) = false → (pl = .non → Q (.int ((aj t).length : Int)) H) ∧ (pl ≠ .non → (ju pl 0 ((aj t).length : Int) = true → Q pv' H) ∧ (ju pl 0 ((aj t).length : Int) = false → ∀ H', aK H H' → E (.ref A.c_NoPlace) none H')))
seal PE PS PSs L2.PA PT PI PG in
theorem yp (T : Txt K mg A) : FnOk P w K mg base (CXW P w) 3 A.rc A.rH jK (EK A) := by
 have jV := mL (P := P) (w := w) (base := base) T
 obtain ⟨ja, mi, hq⟩ := T.gD
 refine T.jm.F.okW xn (fun vs H Q E h => ?_) (fun cdv B outer s H vs Q E hr h => ?_)
 ·obtain ⟨bv, pv', t, pl, rfl, _⟩ := h; rfl
 obtain ⟨bv, pv', t, pl, rfl, ht, al, hp, qk, qn⟩ := h
 refine ⟨_, @ag _ _ _ _ _ (bF (aE lB (aI aY (pv 0) af (fun _ _ => rfl)) (bU rfl mi (v := .ref ja) rfl) rfl) (av (Cl T rfl)) aR)
  (@ag _ _ _ _ _ (bF (aE oE (pv 1) cu (aG _)) (av (aO (ax aN rfl T.bR ca (aa (aI aY (pv 0) af (fun _ _ => rfl)) ae)))) aR)
  (@ag _ _ _ _ _ (bF (cz (cg (az jV hr rfl T.dA.m T.dA.F.kp T.dA.b .nil bg (aa (pv 1) (aa af (aa (ax aN rfl T.bR ca (aa (aI aY (pv 0) af (fun _ _ => rfl)) ae)) ae)))))) (av (Cl T rfl)) aR)
  (av (aO (pv 1))))), ?_⟩
 have b := bf al
 obtain ⟨a, tg, ks, mv, kv, rfl, ea, _, _, ek, ak⟩ := cK ht b
 have lk := ak.len
 refine ⟨_, rfl, a, _, _, _, rfl, rfl, .of ea, rfl, ja, _, rfl, .inr (rb hq H), rfl, eU _, _, rfl, ?_⟩
 rw [if_neg (show ¬ (false = true) by decide), nz]
 show (if (br.any fun y => y == kindOf t) = true then _ else _)
 cases hk : (br.any fun y => y == kindOf t) with
 | true => exact bd (qk hk _ (.refl _))
 | false =>
 obtain ⟨q1, q2⟩ := qn hk
 refine bH ?_
 refine kB ?_
 refine ⟨_, rfl, rfl, _, rfl, ?_⟩
 by_cases hn : pl = .non
 ·subst hn
  cases hp
  refine aH rfl ?_
  refine ⟨_, rfl, a, _, _, _, rfl, rfl, .of ea, rfl, ks, _, rfl, .inr (.of ek), ?_⟩
  rw [← lk]
  exact q1 rfl
 ·have hv : pv' ≠ .non := fun z => hn (by subst z; cases hp; rfl)
  obtain ⟨q3, q4⟩ := q2 hn
  refine aP (decide_eq_false hv) ?_
  refine kB ?_
  refine ⟨_, rfl, _, rfl, a, _, _, _, rfl, rfl, .of ea, rfl, ks, _, rfl, .inr (.of ek), pv', pl, 0, _, rfl, hp, _, rfl, ?_⟩
  rw [← lk]
  cases hw : ju pl 0 ((aj t).length : Int) with
  | true => exact bH (kB ⟨_, rfl, q3 hw⟩)
  | false => exact bd (q4 hw _ (.refl _))
end
theorem yb {K : PySem.W.Frag} {H : Hp} {a : Addr} {xs : List V} {lo hi : Option Int} {Z : VK} (e : H a = some (.tup xs)) (k : ∀ p H', aK H H' → H' p = some (.tup (gX xs lo hi)) → Z (.ref p) H') : Fs K (.ref a) lo hi H Z :=
 ⟨a, xs, rfl, .of e, fun p H' h => by
  rcases h with ⟨rfl, rfl, h⟩ | ⟨h, rfl⟩
  ·exact k _ _ (.refl _) (by rw [h]; exact e)
  ·exact k _ _ (ao h _) ai⟩
theorem qU {K : PySem.W.Frag} {H : Hp} {a b : Addr} {xs ys : List V} {Z : VK} (e : H a = some (.tup xs)) (f : H b = some (.tup ys)) (hl : xs.length + ys.length ≤ 1000) (k : ∀ p H', aK H H' → H' p = some (.tup (xs ++ ys)) → Z (.ref p) H') : Fl K (.ref a) (.ref b) H Z :=
 ⟨a, b, xs, ys, rfl, rfl, .of e, .of f, small hl, fun h => by subst h; exact k _ _ (.refl _) f, fun _ h => by subst h; exact k _ _ (.refl _) (by rw [List.append_nil]; exact e), fun _ _ p hp => k _ _ (ao hp _) ai⟩
theorem F2.take {α β : Type} {R : α → β → Prop} {l : List α} {m : List β} (h : F2 R l m) (n : Nat) : F2 R (l.take n) (m.take n) := by
 induction h generalizing n with
 | nil => rw [List.take_nil, List.take_nil]; exact .nil
 | cons a b ih =>
  cases n with
  | zero => exact .nil
  | succ n => rw [List.take_succ_cons, List.take_succ_cons]; exact .cons a (ih n)
theorem F2.drop {α β : Type} {R : α → β → Prop} {l : List α} {m : List β} (h : F2 R l m) (n : Nat) : F2 R (l.drop n) (m.drop n) := by
 induction h generalizing n with
 | nil => rw [List.drop_nil, List.drop_nil]; exact .nil
 | cons a b ih =>
  cases n with
  | zero => exact .cons a b
  | succ n => rw [List.drop_succ_cons, List.drop_succ_cons]; exact ih n
theorem iY (xs : List V) (n : Nat) (h : n ≤ xs.length) : gX xs none (some (n : Int)) = xs.take n := by
 unfold gX
 rw [HT.sIx_none, HT.sIx_nat, Nat.min_eq_left h, List.drop_zero, Nat.sub_zero]
noncomputable def plc (pl : Tr) (n : Nat) : Option Nat := match pl with
 | .non => some n
 | .int i => if 0 ≤ i ∧ i ≤ (n : Int) then some i.toNat else none
 | _ => none
noncomputable def rO (x pl u : Tr) : Tr := dP u ((aj u).take ((plc pl (aj u).length).getD 0) ++ [x] ++ (aj u).drop ((plc pl (aj u).length).getD 0))
section
variable {P : Program} {w : World} {K : PySem.W.Frag} {mg : Str → Option Value} {base : Heap} {A : Adr}
noncomputable def tY (A : Adr) : Sp := fun vs H Q E => ∃ (dv xv lv : V) (t x pl : Tr) (z : Str), vs = [dv, .str z, xv, lv] ∧ TrAt H t dv ∧ TrAt H x xv ∧ TrAt H pl lv ∧ (bN t = false → ∀ H', aK H H' → E (.ref A.c_NoBox) none H') ∧ (bN t = true → z ∉ (aQ 8 t).map ah → ∀ H', aK H H' → E (.ref A.c_NoName) none H') ∧
 (bN t = true → ∀ p u, WayTo z t p → p.getLast? = some u → (((br.any fun y => y == kindOf u) = true ∨ plc pl (aj u).length = none) → ∀ H', aK H H' → E (.ref A.c_NoPlace) none H') ∧
  ((br.any fun y => y == kindOf u) = false → plc pl (aj u).length ≠ none → ∀ r, bM z (fun u => [rO x pl u]) 8 t = [r] → (bN r = true → ∀ v H', aK H H' → TrAt H' r v → Q v H') ∧ (bN r = false → ∀ H', aK H H' → E (.ref A.c_NoBox) none H')))
seal PE PS PSs L2.PA PT PI PG in
theorem wz (T : Txt K mg A) : FnOk P w K mg base (CXW P w) 8 A.my A.jB fQ (tY A) := by
 have gU := lg (P := P) (w := w) (base := base) T
 have je := mC (P := P) (w := w) (base := base) T
 have zg := (yp (P := P) (w := w) (base := base) T).mono (show 3 ≤ 7 by decide)
 have kq := (mK (P := P) (w := w) (base := base) T).mono (show 1 ≤ 7 by decide)
 refine T.F_with_kid.okW hJ (fun vs H Q E h => ?_) (fun cdv B outer s H vs Q E hr h => ?_)
 ·obtain ⟨dv, xv, lv, t, x, pl, z, rfl, _⟩ := h; rfl
 obtain ⟨dv, xv, lv, t, x, pl, z, rfl, ht, hx, hpl, qb, qn, qw⟩ := h
 refine ⟨_, @ag _ _ _ _ _ (aF (i := 4) hJ.nd rfl (Or.inl rfl) (az gU hr rfl T.cW.m T.cW.F.kp T.cW.b .nil (kn fun _ _ _ z => z) (aa (pv 0) (aa (pv 1) ae))))
  (@ag _ _ _ _ _ (aF (i := 5) hJ.nd rfl (Or.inl rfl) (aI aW (pv 4) (mP jC af) (fun _ _ => rfl)))
  (@ag _ _ _ _ _ (aF (i := 6) hJ.nd rfl (Or.inl rfl) (az zg hr rfl T.jm.m T.jm.F.kp T.jm.b .nil (kn fun _ _ _ z => z) (aa (pv 5) (aa (pv 3) ae))))
  (av (aO (az je hr rfl T.dg.m T.dg.F.kp T.dg.b .nil (kn fun _ _ _ z => z) (aa (pv 4) (aa (az kq hr rfl T.dz.m T.dz.F.kp T.dz.b .nil bg (aa (pv 5) (aa (aJ mH (aJ mH (fW nH (aI aY (pv 5) af (fun _ _ => rfl)) hW (hX (pv 6))) (aM (aa (pv 2) ae))) (fW nH (aI aY (pv 5) af (fun _ _ => rfl)) (hX (pv 6)) hW)) ae))) ae))))))), ?_⟩
 refine ⟨_, rfl, _, rfl, dv, t, z, rfl, ht, qb, qn, fun hd p hw wl pvs H1 s1 e1 kp => ?_⟩
 obtain ⟨f8, _⟩ := fh hd
 obtain ⟨p0, p8⟩ := kK f8 hw
 have pa := jd f8 hw
 have nd : NdT 8 t := ((fO 8 t).map ah).nodup (nB hd 8).2
 obtain ⟨q', u, eq'⟩ : ∃ q' u, p = q' ++ [u] := ⟨p.dropLast, p.getLast p0, (List.dropLast_concat_getLast p0).symm⟩
 have hu : p.getLast? = some u := by rw [eq', List.getLast?_append]; rfl
 obtain ⟨qk, qr⟩ := qw hd p u hw hu
 have er := jW (g := fun u => [rO x pl u]) f8 nd hw hu
 obtain ⟨r, er2⟩ : ∃ r, bM z (fun u => [rO x pl u]) 8 t = [r] := by
  have := og (n := z) (g := fun u => [rO x pl u]) (fun _ => rfl) 8 t
  exact List.length_eq_one_iff.mp this
 have au := (pa u (by rw [eq']; simp)).1
 have bu := bf au
 obtain ⟨vs', uv, rfl, _, tu⟩ := F2.lastL (show bL H1 (q' ++ [u]) pvs by rw [← eq']; exact kp)
 have tu' := tu
 obtain ⟨a, tg, ks, mv, kv, rfl, ea, _, _, ek, ak⟩ := cK tu bu
 have lk := ak.len
 have k12 := bu.kids
 refine ⟨_, rfl, _, rfl, wl, _, _, _, rfl, rfl, .of e1, vm, ?_⟩
 (try dsimp only [bp]); show iC _ _ _ _ _
 refine cb (fun σ' H' => ∃ k : Nat, σ' = [some dv, some (.str z), some xv, some lv, some (.ref wl), some (.ref a), some (.int (k : Int))] ∧ H' = H1 ∧ (br.any fun y => y == kindOf u) = false ∧ plc pl (aj u).length = some k ∧ k ≤ (aj u).length) (fun N kN => ?_) ?_
 ·refine ⟨_, rfl, _, rfl, .ref a, lv, u, pl, rfl, tu', au, hpl.same s1, fun hk H' s' => qk (.inl hk) _ (s1.trans s'), fun hk => ⟨fun hn => ?_, fun hn => ⟨fun hwt => ?_, fun hwf H' s' => qk (.inr ?_) _ (s1.trans s')⟩⟩⟩
  ·subst hn
   exact kN _ _ ⟨_, rfl, rfl, hk, rfl, Nat.le_refl _⟩
  ·cases pl with
   | int i =>
    have h' : (decide (0 ≤ i) && (decide ((0 : Int) ≤ i) && decide (i ≤ ((aj u).length : Int)))) = true := hwt
    simp only [Bool.and_eq_true, decide_eq_true_eq] at h'
    cases hpl
    refine kN _ _ ⟨i.toNat, ?_, rfl, hk, if_pos ⟨h'.1, h'.2.2⟩, by omega⟩
    rw [show ((i.toNat : Nat) : Int) = i by omega]; rfl
   | _ => cases hwt
  ·cases pl with
   | int i =>
    have h' : (decide (0 ≤ i) && (decide ((0 : Int) ≤ i) && decide (i ≤ ((aj u).length : Int)))) = false := hwf
    refine if_neg fun ⟨h1, h2⟩ => ?_
    rw [decide_eq_true h1, decide_eq_true h2] at h'
    cases h'
   | non => exact absurd rfl hn
   | _ => rfl
 rintro σ2 H2 ⟨k, rfl, rfl, hk, hpk, kl⟩
 obtain ⟨qt, qf⟩ := qr hk (by rw [hpk]; exact Option.some_ne_none _) r er2
 refine ⟨_, rfl, _, rfl, _, rfl, a, _, _, _, rfl, rfl, .of ea, rfl, _, rfl, _, rfl, yb ek fun p1 H3 s3 e3 => ?_⟩
 rw [iY _ _ (by omega)] at e3
 refine ⟨_, rfl, small (by simp), fun p2 hp2 => ?_⟩
 have s4 := ao hp2 (.tup [xv])
 refine qU (s4 _ _ e3) ai (by rw [List.length_take, List.length_singleton]; omega) fun p3 H5 s5 e5 => ?_
 have s15 := s3.trans (s4.trans s5)
 refine ⟨_, rfl, a, _, _, _, rfl, rfl, .of (s15 _ _ ea), rfl, _, rfl, _, rfl, ?_⟩
 dsimp only [vV]
 refine yb (s15 _ _ ek) fun p4 H6 s6 e6 => ?_
 rw [wC] at e6
 refine qU (s6 _ _ e5) e6 (by simp only [List.length_append, List.length_take, List.length_drop, List.length_singleton]; omega) fun p5 H7 s7 e7 => ?_
 have s17 := s15.trans (s6.trans s7)
 have kk : F2 (TrM H2 H7) ((aj u).take k ++ [x] ++ (aj u).drop k) (kv.take k ++ [xv] ++ kv.drop k) := TrM.olds (((F2.take ak k).append (.one (hx.same s1))).append (F2.drop ak k))
 refine ⟨H2, .ref a, u, p5, _, _, rfl, s17, tu', au, .inr e7, kk, fun v H8 s8 t8 => ?_⟩
 have s18 := s17.trans s8
 refine ⟨H2, wl, p, _, v, rO x pl u, r, rfl, s18, s18 _ _ e1, kp, pa, p0, p8, ?_, er.trans er2, fun hd2 v H9 s9 t9 => qt hd2 v H9 (s1.trans (s18.trans s9)) (t9.tr (s18.trans s9)), fun hd2 H9 s9 => qf hd2 H9 (s1.trans (s18.trans s9))⟩
 unfold rO
 rw [hpk]
 exact t8
end
theorem oq (f : Nat → Str) : ∀ n, (ce f n).length ≤ n
 | 0 => Nat.le_refl _
 | n + 1 => by
  rw [eX]
  have := oq f n
  unfold nj
  split
  ·omega
  ·rw [List.length_append]; show _ + 1 ≤ _; omega
theorem wn (l : List Str) : ∀ n, n ≤ l.length → (ce (fun i => l.getD i Str.empty) n).length = n → ce (fun i => l.getD i Str.empty) n = l.take n ∧ (l.take n).Nodup
 | 0, _, _ => ⟨by rw [List.take_zero]; rfl, by rw [List.take_zero]; exact List.nodup_nil⟩
 | n + 1, hn, h => by
  rw [eX] at h ⊢
  have l1 := oq (fun i => l.getD i Str.empty) n
  unfold nj at h ⊢
  split at h
  ·omega
  ·rename_i hno
   rw [List.length_append] at h
   obtain ⟨e, nd⟩ := wn l n (by omega) (by have : ([l.getD n Str.empty] : List Str).length = 1 := rfl; omega)
   have eg : l.getD n Str.empty = l[n] := by rw [List.getD_eq_getElem?_getD, List.getElem?_eq_getElem (by omega)]; rfl
   rw [e] at hno ⊢
   rw [if_neg hno]
   have et : l.take (n + 1) = l.take n ++ [l[n]] := by rw [List.take_add_one, List.getElem?_eq_getElem (by omega)]; rfl
   rw [eg] at hno ⊢
   refine ⟨et.symm, ?_⟩
   rw [et]
   refine List.nodup_append.mpr ⟨nd, by simp, fun a ha b hb => ?_⟩
   rw [List.mem_singleton.mp hb]
   intro z
   exact hno (List.any_eq_true.mpr ⟨a, ha, by simp [z]⟩)
theorem AL {l : List Str} (h : dQ l = l.length) : l.Nodup := by
 have := (wn l l.length (Nat.le_refl _) h).2
 rwa [List.take_length] at this
noncomputable def sX (st : List (Tr × Nat)) : List Tr := st.flatMap fun p => fA (9 - p.2) p.1
theorem DI : ∀ (n : Nat) (st : List (Tr × Nat)) (ns : List Str), (∀ p ∈ st, p.2 ≤ 8 ∧ cf (9 - p.2) p.1 = true) → ((sX st).map ah ++ ns).Nodup → (sX st).length + ns.length ≤ 40 → (sX st).length < n → jQ n st ns = true
 | 0, _, _, _, _, _, h => by omega
 | n + 1, [], _, _, _, _, _ => rfl
 | n + 1, (t, d) :: st, ns, hf, hn, hl, hk => by
  obtain ⟨d8, ft⟩ := hf (t, d) (List.mem_cons_self ..)
  dsimp only at d8 ft
  obtain ⟨m, hm⟩ : ∃ m, 8 - d = m := ⟨_, rfl⟩
  have e9 : 9 - d = m + 1 := by omega
  rw [e9] at ft
  obtain ⟨al, fk⟩ := aV ft
  have eA : sX ((t, d) :: st) = t :: (((aj t).reverse.map (fA m)).flatten ++ sX st) := by
   unfold sX
   rw [List.flatMap_cons]
   dsimp only
   rw [e9]; rfl
  have eB : sX ((aj t).reverse.map (fun k => (k, d + 1)) ++ st) = ((aj t).reverse.map (fA m)).flatten ++ sX st := by
   unfold sX
   rw [List.flatMap_append, List.flatMap_def, List.map_map]
   congr 2
   refine List.map_congr_left fun k _ => ?_
   show fA (9 - (d + 1)) k = fA m k
   rw [show 9 - (d + 1) = m by omega]
  rw [eA] at hn hl hk
  rw [List.map_cons, List.cons_append, List.nodup_cons] at hn
  rw [List.length_cons] at hl hk
  have n1 : ns.contains (ah t) = false := by
   cases h : ns.contains (ah t) with
   | false => rfl
   | true => exact absurd (List.mem_append_right _ (List.contains_iff_mem.mp h)) hn.1
  show (if (aT t && decide (d ≤ 8) && !ns.contains (ah t) && decide (ns.length < 40)) = true then jQ n ((aj t).reverse.map (fun k => (k, d + 1)) ++ st) (ah t :: ns) else false) = true
  rw [if_pos (by rw [al, n1, decide_eq_true d8, decide_eq_true (show ns.length < 40 by omega)]; rfl)]
  refine DI n _ _ (fun p hp => ?_) ?_ ?_ ?_
  ·rcases List.mem_append.mp hp with hp | hp
   ·obtain ⟨k, hk, rfl⟩ := List.mem_map.mp hp
    have := fk k (List.mem_reverse.mp hk)
    dsimp only
    have m0 : m ≠ 0 := fun z => by rw [z] at this; cases this
    exact ⟨by omega, by rw [show 9 - (d + 1) = m by omega]; exact this⟩
   ·exact hf p (List.mem_cons_of_mem _ hp)
  ·rw [eB]
   exact (List.perm_middle.nodup_iff).mpr (List.nodup_cons.mpr hn)
  ·rw [eB, List.length_cons]; omega
  ·rw [eB]; omega
theorem xY {t : Tr} (f8 : cf 8 t = true) (l : (aQ 8 t).length ≤ 40) (nd : NdT 8 t) : bN t = true := by
 have p := fO 8 t
 have eA : sX [(t, 1)] = fA 8 t := by
  show fA 8 t ++ [] = fA 8 t
  exact List.append_nil _
 have lp := p.length_eq
 refine DI 42 _ _ (fun p hp => ?_) ?_ ?_ ?_
 ·rw [List.mem_singleton.mp hp]; exact ⟨show 1 ≤ 8 by decide, f8⟩
 ·rw [eA, List.append_nil]; exact (p.map ah).symm.nodup nd
 ·rw [eA, List.length_nil]; omega
 ·rw [eA]; omega
theorem dG {t : Tr} (h : bN t = true) : cf 8 t = true ∧ (aQ 8 t).length ≤ 40 ∧ NdT 8 t := by
 obtain ⟨f8, n40⟩ := fh h
 exact ⟨f8, by rw [← iW 8 0, List.length_map]; exact n40, ((fO 8 t).map ah).nodup (nB h 8).2⟩
theorem yd {t : Tr} : ∀ (f n : Nat), (∀ m, n ≤ m → m < n + f → ∀ u ∈ dk t m, aT u = true) → dk t (n + f) = [] → ∀ u ∈ dk t n, cf f u = true
 | 0, n, _, he, u, hu => by rw [Nat.add_zero] at he; rw [he] at hu; cases hu
 | f + 1, n, ha, he, u, hu => by
  show (aT u && (aj u).all (cf f)) = true
  rw [ha n (Nat.le_refl _) (by omega) u hu, Bool.true_and]
  refine List.all_eq_true.mpr fun k hk => ?_
  exact yd f (n + 1) (fun m h1 h2 => ha m (by omega) (by omega)) (by rw [show n + 1 + f = n + (f + 1) by omega]; exact he) k (List.mem_flatMap.mpr ⟨u, hu, hk⟩)
theorem Ez {t : Tr} {i : Nat} (hi : i < 8) (ha : ∀ m, m ≤ i → ∀ u ∈ dk t m, aT u = true) (he : dk t (i + 1) = []) : bN t = (decide ((bfs t (i + 1)).length ≤ 40) && decide (dQ ((bfs t (i + 1)).map ah) = (bfs t (i + 1)).length)) := by
 have fi : cf (i + 1) t = true := yd (i + 1) 0 (fun m _ h2 => ha m (by omega)) (by rw [Nat.zero_add]; exact he) t (List.mem_singleton.mpr rfl)
 have f8 : cf 8 t = true := tz (by omega) fi
 have p := rd t (i + 1) (7 - i)
 rw [he, List.flatMap_nil, List.append_nil, show i + 1 + (7 - i) = 8 by omega] at p
 have lp := p.length_eq
 cases hd : bN t with
 | true =>
  obtain ⟨_, l, nd⟩ := dG hd
  rw [decide_eq_true (show (bfs t (i + 1)).length ≤ 40 by omega), wI ((p.map ah).symm.nodup nd), decide_eq_true (List.length_map ..)]; rfl
 | false =>
  refine Eq.symm ?_
  by_cases l : (bfs t (i + 1)).length ≤ 40
  ·rw [decide_eq_true l, Bool.true_and]
   refine decide_eq_false fun e => ?_
   rw [← List.length_map (f := ah)] at e
   have nd : ((bfs t (i + 1)).map ah).Nodup := AL e
   have := xY f8 (by omega) ((p.map ah).nodup nd)
   rw [hd] at this; cases this
  ·rw [decide_eq_false l]; rfl
theorem EC (t : Tr) (n : Nat) : (bfs t n).length + (dk t n).length = (aQ (n + 1) t).length := by
 have p := (rd t n 1).length_eq
 rw [List.length_append] at p
 have e : (dk t n).flatMap (aQ 1) = dk t n := iQ fun k _ => by show k :: (aj k).flatMap (fun _ => []) = [k]; simp
 rw [e] at p
 exact p
noncomputable def edL (z : Str) (h : Tr → List Tr → List Tr) : Nat → Tr → List Tr
 | 0, t => [t]
 | f + 1, t => if ah t = z then h t ((aj t).flatMap (edL z h f)) else [dP t ((aj t).flatMap (edL z h f))]
theorem uV {z : Str} {h : Tr → List Tr → List Tr} : ∀ {f : Nat} {t : Tr}, cf f t = true → z ∉ (aQ f t).map ah → edL z h f t = [t]
 | 0, _, h, _ => by cases h
 | f + 1, t, h, hn => by
  obtain ⟨al, fk⟩ := aV h
  rw [show aQ (f + 1) t = t :: (aj t).flatMap (aQ f) from rfl, List.map_cons, List.mem_cons, not_or] at hn
  unfold edL
  rw [if_neg (fun z => hn.1 z.symm), iQ (fun k hk => uV (fk k hk) fun z => hn.2 ?_), ji al]
  obtain ⟨u, hu, e⟩ := List.mem_map.mp z
  exact List.mem_map.mpr ⟨u, List.mem_flatMap.mpr ⟨k, hk, hu⟩, e⟩
theorem An {z : Str} {h : Tr → List Tr → List Tr} : ∀ {f : Nat} {t : Tr}, cf f t = true → NdT f t → edL z h f t = bM z (fun u => h u (aj u)) f t
 | 0, _, h, _ => by cases h
 | f + 1, t, hf, nd => by
  obtain ⟨al, fk⟩ := aV hf
  obtain ⟨n1, n2⟩ := mM nd
  unfold edL bM
  by_cases e : ah t = z
  ·rw [if_pos e, if_pos e, iQ fun k hk => uV (fk k hk) fun hz => n1 ?_]
   rw [e]
   obtain ⟨u, hu, e2⟩ := List.mem_map.mp hz
   exact List.mem_map.mpr ⟨u, List.mem_flatMap.mpr ⟨k, hk, hu⟩, e2⟩
  ·rw [if_neg e, if_neg e, List.flatMap_def, List.flatMap_def, List.map_congr_left fun k hk => An (h := h) (fk k hk) (qW n2 hk)]
theorem Dn {z : Str} {t : Tr} {p : List Tr} {f : Nat} (h : cf (f + 1) t = true) (nd : NdT (f + 1) t) (w : WayTo z t p) : p.length = 1 ↔ ah t = z := by
 cases w with
 | here e => exact ⟨fun _ => e, fun _ => rfl⟩
 | @down _ b r hb k =>
  refine ⟨fun z => by simp at z, fun e => absurd ?_ (mM nd).1⟩
  rw [e]
  obtain ⟨u, hu, e2⟩ := List.mem_map.mp (wc ((aV h).2 b hb) k)
  exact List.mem_map.mpr ⟨u, List.mem_flatMap.mpr ⟨b, hb, hu⟩, e2⟩
theorem uU : ∀ {l : List Tr}, (l.map ah).Nodup → ∀ {u v : Tr}, u ∈ l → v ∈ l → ah u = ah v → u = v
 | x :: l, h, u, v, hu, hv, e => by
  rw [List.map_cons, List.nodup_cons] at h
  rcases List.mem_cons.mp hu with hu1 | hu2
  ·rcases List.mem_cons.mp hv with hv1 | hv2
   ·rw [hu1, hv1]
   ·exact absurd (List.mem_map.mpr ⟨v, hv2, by rw [← e, hu1]⟩) h.1
  ·rcases List.mem_cons.mp hv with hv1 | hv2
   ·exact absurd (List.mem_map.mpr ⟨u, hu2, by rw [e, hv1]⟩) h.1
   ·exact uU h.2 hu2 hv2 e
theorem pK {t : Tr} {ks : List Tr} (al : aT t = true) (hl : ks.length ≤ (aj t).length) : aT (dP t ks) = true ∧ ah (dP t ks) = ah t ∧ aj (dP t ks) = ks := by
 have b := bf al
 rw [da b]
 refine ⟨?_, rfl, rfl⟩
 rw [b.form] at al
 have al' : (jR (.str (kindOf t)) && cX (.str (ah t)) && gp (.tup ((fM t).map Tr.str)) && (dS (kindOf t) (eQ t) && gM (kindOf t) (.tup (aj t)))) = true := al
 show (jR (.str (kindOf t)) && cX (.str (ah t)) && gp (.tup ((fM t).map Tr.str)) && (dS (kindOf t) (eQ t) && gM (kindOf t) (.tup ks))) = true
 rw [Bool.and_eq_true, Bool.and_eq_true (dS _ _)] at al' ⊢
 refine ⟨al'.1, al'.2.1, ?_⟩
 have h2 : decide ((aj t).length ≤ if (br.any fun y => y == kindOf t) = true then 0 else 12) = true := al'.2.2
 exact decide_eq_true (Nat.le_trans hl (of_decide_eq_true h2))
theorem iE {g : Tr → List Tr} : ∀ {l : List Tr}, (∀ k ∈ l, (g k).length ≤ 1) → (l.flatMap g).length ≤ l.length
 | [], _ => Nat.le_refl _
 | x :: l, h => by
  have h1 := h x (List.mem_cons_self ..)
  have h2 := iE fun k hk => h k (List.mem_cons_of_mem _ hk)
  rw [List.flatMap_cons, List.length_append, List.length_cons]; omega
theorem wX {z : Str} (f : Nat) (t : Tr) : (bM z (fun _ => []) f t).length ≤ 1 := by
 cases f with
 | zero => exact Nat.le_refl _
 | succ f => unfold bM; split <;> simp
theorem uz {z : Str} : ∀ {f : Nat} {t : Tr}, cf f t = true → ∀ v ∈ bM z (fun _ => []) f t, cf f v = true
 | 0, _, h, _, _ => by cases h
 | f + 1, t, h, v, hv => by
  obtain ⟨al, fk⟩ := aV h
  unfold bM at hv
  split at hv
  ·cases hv
  ·rw [List.mem_singleton.mp hv]
   obtain ⟨a1, _, a3⟩ := pK al (iE fun k _ => wX (z := z) f k)
   show (aT _ && (aj _).all (cf f)) = true
   rw [a1, a3, Bool.true_and]
   refine List.all_eq_true.mpr fun k hk => ?_
   obtain ⟨y, hy, hk⟩ := List.mem_flatMap.mp hk
   exact uz (fk y hy) k hk
theorem wv {α β : Type} {g g' : α → List β} : ∀ {l : List α}, (∀ k ∈ l, (g k).Sublist (g' k)) → (l.flatMap g).Sublist (l.flatMap g')
 | [], _ => .slnil
 | x :: l, h => by
  rw [List.flatMap_cons, List.flatMap_cons]
  exact (h x (List.mem_cons_self ..)).append (wv fun k hk => h k (List.mem_cons_of_mem _ hk))
theorem xA {z : Str} : ∀ {f : Nat} {t : Tr}, cf f t = true → (((bM z (fun _ => []) f t).flatMap (aQ f)).map ah).Sublist ((aQ f t).map ah)
 | 0, _, h => by cases h
 | f + 1, t, h => by
  obtain ⟨al, fk⟩ := aV h
  unfold bM
  split
  ·exact List.nil_sublist _
  ·obtain ⟨_, a2, a3⟩ := pK al (iE fun k _ => wX (z := z) f k)
   rw [List.flatMap_cons, List.flatMap_nil, List.append_nil]
   show ((dP t _ :: (aj (dP t _)).flatMap (aQ f)).map ah).Sublist ((t :: (aj t).flatMap (aQ f)).map ah)
   rw [a3, List.map_cons, List.map_cons, a2, List.flatMap_assoc, List.map_flatMap, List.map_flatMap]
   exact .cons₂ _ (wv fun k hk => xA (fk k hk))
theorem Dm {z : Str} {t r : Tr} (h : bN t = true) (e : bM z (fun _ => []) 8 t = [r]) : bN r = true := by
 obtain ⟨f8, l, nd⟩ := dG h
 have s := xA (z := z) f8
 rw [e, List.flatMap_cons, List.flatMap_nil, List.append_nil] at s
 have ls := s.length_le
 rw [List.length_map, List.length_map] at ls
 exact xY (uz f8 r (by rw [e]; exact List.mem_singleton.mpr rfl)) (by omega) (s.nodup nd)
noncomputable def Ho : Tr → Bool
 | .tup l => decide (l.length ≠ 5)
 | _ => true
inductive TgF : Tr → Prop where
 | txt (l : List Str) : TgF (.tup (l.map Tr.str))
 | lst (l : List Tr) : TgF (.lst l)
inductive MoF : Tr → Prop where
 | non : MoF .non
 | int (i : Int) : MoF (.int i)
 | str (x : Str) : MoF (.str x)
inductive Fm : Tr → Prop where
 | odd {u : Tr} (h : Ho u = true) : Fm u
 | box {k n : Str} {tg m : Tr} {ks : List Tr} (hk : k ∈ dm) (ht : TgF tg) (tl : ∀ l, tg = .tup l → l.length ≤ 5) (hm : MoF m) (h0 : (br.any fun y => y == k) = true → ks = []) (kl : ks.length ≤ 13) (hs : ∀ x ∈ ks, Fm x) : Fm (.tup [.str k, .str n, tg, m, .tup ks])
theorem ww {u : Tr} (h : Ho u = true) : aj u = [] ∧ aT u = false := by
 unfold Ho at h
 split at h
 ·rename_i l
  have h' := of_decide_eq_true h
  match l, h' with
  | [], _ => exact ⟨rfl, rfl⟩
  | [_], _ => exact ⟨rfl, rfl⟩
  | [_, _], _ => exact ⟨rfl, rfl⟩
  | [_, _, _], _ => exact ⟨rfl, rfl⟩
  | [_, _, _, _], _ => exact ⟨rfl, rfl⟩
  | [_, _, _, _, _], h => exact absurd rfl h
  | _ :: _ :: _ :: _ :: _ :: _ :: _, _ => exact ⟨by unfold aj; split <;> simp_all, by unfold aT; split <;> simp_all⟩
 ·rename_i hu
  cases u with
  | tup l => exact absurd rfl (hu l)
  | _ => exact ⟨rfl, rfl⟩
theorem EW {u : Tr} (h : Fm u) : ∀ k ∈ aj u, Fm k := by
 cases h with
 | odd h => rw [(ww h).1]; exact fun _ z => nomatch z
 | box _ _ _ _ _ _ hs => exact hs
theorem Dz {t : Tr} (h : Fm t) : ∀ n, ∀ u ∈ dk t n, Fm u
 | 0, u, hu => by rw [List.mem_singleton.mp hu]; exact h
 | n + 1, u, hu => by
  obtain ⟨k, hk, hu⟩ := List.mem_flatMap.mp hu
  exact EW (Dz h n k hk) u hu
theorem Ch {t : Tr} (b : Bok t) : MoF (eQ t) := by
 by_cases hw : kindOf t = "words"
 ·obtain ⟨x, e, _⟩ := b.words hw
  rw [e]; exact .str x
 ·by_cases hg : kindOf t = "grid"
  ·obtain ⟨i, e, _⟩ := b.grid hg
   rw [e]; exact .int i
  ·rw [b.other hw hg]; exact .non
theorem AI {t : Tr} (al : aT t = true) (h : (br.any fun y => y == kindOf t) = true) : aj t = [] := by
 have b := bf al
 rw [b.form] at al
 have al' : (jR (.str (kindOf t)) && cX (.str (ah t)) && gp (.tup ((fM t).map Tr.str)) && (dS (kindOf t) (eQ t) && gM (kindOf t) (.tup (aj t)))) = true := al
 rw [Bool.and_eq_true, Bool.and_eq_true (dS _ _)] at al'
 have h2 : decide ((aj t).length ≤ if (br.any fun y => y == kindOf t) = true then 0 else 12) = true := al'.2.2
 rw [if_pos h] at h2
 exact List.length_eq_zero_iff.mp (Nat.le_zero.mp (of_decide_eq_true h2))
theorem rP {t : Tr} {ks : List Tr} (al : aT t = true) (h0 : (br.any fun y => y == kindOf t) = true → ks = []) (kl : ks.length ≤ 13) (hs : ∀ x ∈ ks, Fm x) : Fm (dP t ks) := by
 have b := bf al
 have tl := b.tlen
 rw [da b]
 exact .box b.kind (.txt _) (fun l e => by injection e with e; rw [← e, List.length_map]; omega) (Ch b) h0 kl hs
theorem AE : ∀ {f : Nat} {t : Tr}, cf f t = true → Fm t
 | 0, _, h => by cases h
 | f + 1, t, h => by
  obtain ⟨al, fk⟩ := aV h
  have k12 := (bf al).kids
  rw [← ji al]
  exact rP al (AI al) (by omega) fun x hx => AE (fk x hx)
theorem Am {z : Str} {g : Tr → List Tr} (g1 : ∀ u, (g u).length ≤ 1) : ∀ {f : Nat} {t : Tr}, cf f t = true → (∀ u ∈ aQ f t, ah u = z → aT u = true → (∀ k ∈ aj u, Fm k) → ∀ v ∈ g u, Fm v) → (∀ v ∈ bM z g f t, Fm v) ∧ (bM z g f t).length ≤ 1
 | 0, _, h, _ => by cases h
 | f + 1, t, h, hg => by
  obtain ⟨al, fk⟩ := aV h
  have k12 := (bf al).kids
  have ih : ∀ k ∈ aj t, (∀ v ∈ bM z g f k, Fm v) ∧ (bM z g f k).length ≤ 1 := fun k hk => Am g1 (fk k hk) fun u hu => hg u (List.mem_cons_of_mem _ (List.mem_flatMap.mpr ⟨k, hk, hu⟩))
  unfold bM
  split
  ·rename_i e
   exact ⟨hg t (List.mem_cons_self ..) e al fun k hk => AE (fk k hk), g1 t⟩
  ·refine ⟨fun v hv => ?_, Nat.le_refl _⟩
   rw [List.mem_singleton.mp hv]
   have fl := iE fun k hk => (ih k hk).2
   refine rP al (fun h0 => ?_) (by omega) fun x hx => ?_
   ·rw [AI al h0]; rfl
   ·obtain ⟨k, hk, hx⟩ := List.mem_flatMap.mp hx
    exact (ih k hk).1 x hx
noncomputable def cnt (F : Nat) (l : List Tr) : Nat := (l.flatMap (aQ F)).length
theorem kG (F : Nat) (x : Tr) (l : List Tr) : cnt F (x :: l) = (aQ F x).length + cnt F l := by unfold cnt; rw [List.flatMap_cons, List.length_append]
theorem ql (F : Nat) (a b : List Tr) : cnt F (a ++ b) = cnt F a + cnt F b := by unfold cnt; rw [List.flatMap_append, List.length_append]
theorem gz (F : Nat) (x : Tr) : cnt F [x] = (aQ F x).length := by rw [kG]; rfl
theorem dY (F : Nat) (t : Tr) : (aQ (F + 1) t).length = cnt F (aj t) + 1 := by
 show ((aj t).flatMap (aQ F)).length + 1 = _
 rfl
open Classical in
theorem wH {z : Str} {g : Tr → List Tr} {e : Nat} : ∀ {f : Nat} {t : Tr} (F : Nat), cf f t = true → NdT f t → (∀ u ∈ aQ f t, ah u = z → aT u = true → ∀ F, cnt F (g u) ≤ (aQ F u).length + e) → cnt F (bM z g f t) ≤ (aQ F t).length + (if z ∈ (aQ f t).map ah then e else 0)
 | 0, _, _, h, _, _ => by cases h
 | f + 1, t, F, h, nd, hg => by
  obtain ⟨al, fk⟩ := aV h
  obtain ⟨n1, n2⟩ := mM nd
  unfold bM
  by_cases hz : ah t = z
  ·rw [if_pos hz, if_pos (show z ∈ (aQ (f + 1) t).map ah from List.mem_map.mpr ⟨t, List.mem_cons_self .., hz⟩)]
   exact hg t (List.mem_cons_self ..) hz al F
  ·rw [if_neg hz, gz]
   have b := bf al
   have ek : aj (dP t ((aj t).flatMap (bM z g f))) = (aj t).flatMap (bM z g f) := by rw [da b]; rfl
   cases F with
   | zero => exact Nat.zero_le _
   | succ F =>
    rw [dY, dY, ek]
    have key : ∀ l : List Tr, (∀ k ∈ l, k ∈ aj t) → ((l.flatMap (aQ f)).map ah).Nodup → cnt F (l.flatMap (bM z g f)) ≤ cnt F l + (if z ∈ (l.flatMap (aQ f)).map ah then e else 0) := by
     intro l
     induction l with
     | nil => intro _ _; exact Nat.zero_le _
     | cons x l ih =>
      intro hl hn
      have i1 := ih (fun k hk => hl k (List.mem_cons_of_mem _ hk)) (by rw [List.flatMap_cons, List.map_append] at hn; exact (List.nodup_append.mp hn).2.1)
      have hx := hl x (List.mem_cons_self ..)
      have i2 := wH (z := z) (g := g) (e := e) F (fk x hx) (qW n2 hx) fun u hu => hg u (List.mem_cons_of_mem _ (List.mem_flatMap.mpr ⟨x, hx, hu⟩))
      rw [List.flatMap_cons, List.map_append] at hn
      have h3 := (List.nodup_append.mp hn).2.2
      rw [List.flatMap_cons, ql, kG, List.flatMap_cons, List.map_append]
      by_cases zx : z ∈ (aQ f x).map ah
      ·have zl : z ∉ (l.flatMap (aQ f)).map ah := fun q => h3 _ zx _ q rfl
       rw [if_neg zl] at i1
       rw [if_pos zx] at i2
       rw [if_pos (List.mem_append_left _ zx)]; omega
      ·rw [if_neg zx] at i2
       by_cases zl : z ∈ (l.flatMap (aQ f)).map ah
       ·rw [if_pos zl] at i1
        rw [if_pos (List.mem_append_right _ zl)]; omega
       ·rw [if_neg zl] at i1
        rw [if_neg (fun q => (List.mem_append.mp q).elim zx zl)]; omega
    have := key (aj t) (fun k hk => hk) n2
    have e2 : (z ∈ (aQ (f + 1) t).map ah) = (z ∈ ((aj t).flatMap (aQ f)).map ah) := by
     rw [show aQ (f + 1) t = t :: (aj t).flatMap (aQ f) from rfl, List.map_cons, List.mem_cons]
     exact propext ⟨fun h => h.resolve_left fun q => hz q.symm, .inr⟩
    simp only [e2]
    omega
theorem Dl : ∀ {f g : Nat} {t : Tr}, f ≤ g → cf f t = true → aQ g t = aQ f t
 | f, g, t, h, hf => by rw [← iW g 0, ← iW f 0, qQ h hf]
theorem wT : ∀ {f g : Nat} (t : Tr), f ≤ g → (aQ f t).length ≤ (aQ g t).length
 | 0, g, t, _ => Nat.zero_le _
 | f + 1, 0, t, h => by omega
 | f + 1, g + 1, t, h => by
  rw [dY, dY]
  refine Nat.succ_le_succ ?_
  generalize aj t = l
  induction l with
  | nil => exact Nat.le_refl _
  | cons x l ih =>
   have := wT x (show f ≤ g by omega)
   rw [kG, kG]; omega
theorem ED {z : Str} {g : Tr → List Tr} {e : Nat} {t r : Tr} (h : bN t = true) (hg : ∀ u ∈ aQ 8 t, ah u = z → aT u = true → ∀ F, cnt F (g u) ≤ (aQ F u).length + e) (er : bM z g 8 t = [r]) (F : Nat) : (aQ F r).length ≤ 40 + e := by
 obtain ⟨f8, l, nd⟩ := dG h
 have c := wH F f8 nd hg
 rw [er, gz] at c
 have p : (aQ F t).length ≤ 40 := by
  rcases Nat.le_total F 8 with h8 | h8
  ·exact Nat.le_trans (wT t h8) l
  ·rw [Dl h8 f8]; exact l
 have : ∀ {c : Prop} [Decidable c], (if c then e else 0) ≤ e := fun {c} _ => by split <;> omega
 exact Nat.le_trans c (Nat.add_le_add p this)
theorem wJ {z y : Str} {cap : List Nat} {tt : TT} {te : TE} {σ : L2.St} {Z : List V → Hp → Prop} {H1 : Hp} (bad : Nat → Bool) (hz : z.cps.size < sizeLine) (ht : ∀ c ∈ z.cps.toList, ∀ Q : Bool → Hp → Prop, Q (bad c) H1 → tt ((fw [y] cap σ).set 0 (some (.str ⟨#[c]⟩))) H1 Q)
  (he : ∀ c, ∀ Q : VK, Q (.str ⟨#[c]⟩) H1 → te ((fw [y] cap σ).set 0 (some (.str ⟨#[c]⟩))) H1 Q) (hd : ∀ acc : List V, acc.length ≤ z.cps.size → (acc.length = 0 ↔ z.cps.toList.all (fun c => !bad c) = true) → Z acc H1) : uJ [y] cap (bp 0) tt te σ Z (Itc z) H1 := by
 refine EO z.cps.size (fun i acc H => (acc.length ≤ i ∧ (acc.length = 0 ↔ (z.cps.toList.take i).all (fun c => !bad c) = true)) ∧ H = H1 ∧ i ≤ z.cps.size) ⟨⟨Nat.le_refl _, by simp⟩, rfl, Nat.zero_le _⟩ (fun i acc H p => Nat.lt_of_le_of_lt (Nat.le_trans p.1.1 p.2.2) hz) (fun i acc H hi p => hi) (fun acc H p => Nat.le_refl _) (fun i x acc H H3 R k hi p yl => ?_) (fun acc H p => ?_)
 ·obtain ⟨⟨p1, p2⟩, rfl, _⟩ := p
  obtain ⟨e, c, rfl, ec⟩ := yl
  subst e
  refine ⟨sC y cap σ _, ?_⟩
  have ec' : z.cps.toList[i]? = some c := by rw [Array.getElem?_toList]; exact ec
  refine ht c (by rw [Array.mem_toList_iff]; exact Array.mem_of_getElem? ec) _ ?_
  have et : (z.cps.toList.take (i + 1)).all (fun c => !bad c) = ((z.cps.toList.take i).all (fun c => !bad c) && !bad c) := by
   rw [List.take_add_one, ec', List.all_append]; simp
  cases hb : bad c with
  | true =>
   refine bd (he c _ (k _ _ ⟨⟨?_, ?_⟩, rfl, hi⟩))
   ·rw [List.length_append]; show _ + 1 ≤ _; omega
   ·rw [et, hb, List.length_append]; simp
  | false =>
   refine bH (k _ _ ⟨⟨by omega, ?_⟩, rfl, hi⟩)
   rw [et, hb, p2]; simp
 ·obtain ⟨⟨p1, p2⟩, rfl, _⟩ := p
  rw [List.take_of_length_le (by rw [Array.length_toList]; exact Nat.le_refl _)] at p2
  exact hd acc p1 p2
theorem Ak (l : List Str) : dQ l ≤ l.length := oq _ _
noncomputable def ug : Str := "abcdefghijklmnopqrstuvwxyzABCDEFGHIJKLMNOPQRSTUVWXYZ0123456789"
theorem EH : ∀ c ∈ gS.cps.toList, c ∈ ug.cps.toList := by decide +kernel
theorem Eh : ∀ c ∈ ug.cps.toList, c ∈ gS.cps.toList := by decide +kernel
theorem FX (c : Nat) : bT ug c = bT gS c := by
 rw [iR, iR]
 by_cases h : c ∈ gS.cps.toList
 ·rw [decide_eq_true h, decide_eq_true (EH c h)]
 ·rw [decide_eq_false h, decide_eq_false fun z => h (Eh c z)]
theorem zO : ∀ c ∈ fb.cps.toList, bT "0123456789" c = !bT ia c := by decide +kernel
section
variable {P : Program} {w : World} {K : PySem.W.Frag} {mg : Str → Option Value} {base : Heap} {A : Adr}
noncomputable abbrev oY : Scope := (match bC dj with | _ :: _ :: (.Return (some (.Compare (.Call _ ((.ListComp _ _ sc _) :: _) _ _) _ _ _)) _) :: _ => sc | _ => ap dj)
theorem mT : Blk (ap dj) iw oY ["_law_one"] [1] := ⟨rfl, by decide +kernel, by decide +kernel, by decide +kernel, by decide +kernel⟩
theorem oG : (cR iw ["_law_one"] [1]).Nodup := by decide +kernel
noncomputable def yI : Sp := fun vs H Q _ => ∃ (x : Str), vs = [.str x] ∧ x.length ≤ 100000 ∧ ∀ H', aK H H' → Q (.bl (cV x)) H'
seal PE PS PSs L2.PA PT PI PG in
theorem uY (T : Txt K mg A) : FnOk P w K mg base CX0 1 A.lT A.lN fS yI := by
 refine T.cS.F.ok jU (fun vs H Q E h => ?_) (fun cdv B outer s H vs Q E hr h => ?_)
 ·obtain ⟨x, rfl, _⟩ := h; rfl
 obtain ⟨x, rfl, hx, q⟩ := h
 refine ⟨_, @ag _ _ _ _ _ (aF (i := 1) jU.nd rfl (Or.inr rfl) ar)
  (@ag _ _ _ _ _ (bF (PW.pt (dL (cz (cg (ax bG rfl T.ay aL (aa (pv 0) (aa (bK rfl T.gR kj (v := .ty "str") rfl) ae))))) (dL (cz (rQ gn gn af (ax dJ rfl T.bR ca (aa (pv 0) ae)) af)) (du (aE oS (aI qT (pv 0) af (fun _ _ => rfl)) ar rfl))))) (av (aO gq)) aR)
  (av (aO (bO bW (ax aN rfl T.bR ca (aa (dZ mT rfl (vo (pv 0)) (fun _ _ _ _ _ => aS (i := 0) oG rfl (.inl rfl)) (fun _ _ _ _ _ => ik (aE nT (pv 0) (pv 1) rfl)) (fun _ _ _ _ _ => pv 0)) ae)) af (aG _))))), ?_⟩
 have sz : x.length ≤ sizeLine := rT hx
 have hS : Is K H (.str x) "str" := .str _
 refine ⟨_, rfl, .str x, "str", _, true, rfl, hS.ty, hS.kit T.kit "str", _, rfl, bH ?_⟩
 refine ⟨_, rfl, x, rfl, sz, _, _, rfl, rfl, _, rfl, ?_⟩
 by_cases h1 : ¬ 1 ≤ (x.length : Int)
 ·have e : cV x = false := by unfold cV; rw [decide_eq_false h1]; rfl
  refine aP (decide_eq_false h1) ⟨_, rfl, bd (aH rfl ?_)⟩
  rw [e] at q
  exact q _ (.refl _)
 have h1 := Decidable.not_not.mp h1
 refine aH (decide_eq_true h1) ⟨_, _, rfl, rfl, _, rfl, ?_⟩
 by_cases h8 : ¬ (x.length : Int) ≤ 8
 ·refine aH (by show (!decide ((x.length : Int) ≤ 8)) = true; rw [decide_eq_false h8]; rfl) ?_
  have e : cV x = false := by unfold cV; rw [decide_eq_true h1, decide_eq_false h8]; rfl
  rw [e] at q
  exact q _ (.refl _)
 have h8 := Decidable.not_not.mp h8
 refine aP (by show (!decide ((x.length : Int) ≤ 8)) = false; rw [decide_eq_true h8]; rfl) ?_
 have hp : 0 < x.cps.toList.length := by rw [Array.length_toList]; show 0 < x.length; omega
 have at0 : atI x.cps.toList 0 = some (x.cps.toList.getD 0 0) := by
  refine bY (j := 0) ?_
  rw [List.getD_eq_getElem?_getD, List.getElem?_eq_getElem hp]; rfl
 have m0 : x.cps.toList.getD 0 0 ∈ x.cps.toList := by
  rw [List.getD_eq_getElem?_getD, List.getElem?_eq_getElem hp]; exact List.getElem_mem hp
 refine ⟨_, rfl, x, _, x.cps.toList.getD 0 0, rfl, rfl, sz, at0, _, _, rfl, rfl, _, rfl, ?_⟩
 have en : cV x = (bT ia (x.cps.toList.getD 0 0) && cA x fb) := by unfold cV; rw [decide_eq_true h1, decide_eq_true h8]; rfl
 show (if bT "0123456789" (x.cps.toList.getD 0 0) = true then _ else _)
 cases hdg : bT "0123456789" (x.cps.toList.getD 0 0) with
 | true =>
  refine bd ?_
  have e : cV x = false := by
   rw [en]
   cases ho : cA x fb with
   | false => rw [Bool.and_false]
   | true =>
    have := zO _ (qZ ho m0)
    rw [hdg] at this
    cases hl : bT ia (x.cps.toList.getD 0 0) with
    | false => rfl
    | true => rw [hl] at this; cases this
  rw [e] at q
  exact q _ (.refl _)
 | false =>
 refine bH ?_
 refine ⟨_, rfl, x, rfl, wJ (fun c => !bT fb c) (Nat.lt_of_le_of_lt (show x.cps.size ≤ 8 by show x.length ≤ 8; omega) (by decide)) (fun c hc Q hQ => ?_) (fun c Q hQ => ?_) fun acc la ha l hl => ?_⟩
 ·exact ⟨_, rfl, _, rfl, _, _, rfl, rfl, _, rfl, hQ⟩
 ·exact ⟨_, rfl, hQ⟩
 refine ⟨l, _, rfl, .inl (.of ai), rfl, ?_⟩
 have e : decide (V.int (acc.length : Int) = V.int 0) = cV x := by
  have e1 : decide (V.int (acc.length : Int) = V.int 0) = cA x fb := by
   have hh : (fun c => !(fun c => !bT fb c) c) = bT fb := by funext c; simp
   rw [hh] at ha
   cases ho : cA x fb with
   | true => rw [ha.mpr ho]; rfl
   | false =>
    refine decide_eq_false fun z => ?_
    injection z with z
    have := ha.mp (by omega)
    have ho' : x.cps.toList.all (bT fb) = false := ho
    rw [ho'] at this; cases this
  rw [e1, en]
  cases ho : cA x fb with
  | false => rw [Bool.and_false]
  | true =>
   have := zO _ (qZ ho m0)
   rw [hdg] at this
   cases hl : bT ia (x.cps.toList.getD 0 0) with
   | false => rw [hl] at this; cases this
   | true => rfl
 rw [e]
 exact q _ (ao hl _)
noncomputable abbrev iN : Scope := (match bC cB with | _ :: _ :: _ :: (.Assign _ (.ListComp _ _ sc _) _) :: _ => sc | _ => ap cB)
theorem ii : Blk (ap cB) dO iN ["_law_word_here"] [1] := ⟨rfl, by decide +kernel, by decide +kernel, by decide +kernel, by decide +kernel⟩
theorem pc : (cR dO ["_law_word_here"] [1]).Nodup := by decide +kernel
noncomputable abbrev oC : Scope := (match bC cB with | _ :: _ :: _ :: (.Assign _ (.ListComp _ [⟨_, _, ((.BoolOp _ (_ :: (.Compare (.Call _ ((.ListComp _ _ sc _) :: _) _ _) _ _ _) :: _) _) :: _), _⟩] _ _) _) :: _ => sc | _ => ap cB)
theorem nI : Blk iN (cR dO ["_law_word_here"] [1]) oC ["_law_one"] [1] := ⟨rfl, by decide +kernel, by decide +kernel, by decide +kernel, by decide +kernel⟩
theorem oR : (cR (cR dO ["_law_word_here"] [1]) ["_law_one"] [1]).Nodup := by decide +kernel
noncomputable def zm : Sp := fun vs H Q _ => ∃ (v : V) (m : Tr), vs = [v] ∧ TrAt H m v ∧ MoF m ∧ ∀ H', aK H H' → Q (.bl (sj m)) H'
seal PE PS PSs L2.PA PT PI PG in
theorem uW (T : Txt K mg A) : FnOk P w K mg base CX0 1 A.lQ A.lM fT zm := by
 refine T.fR.F.ok fq (fun vs H Q E h => ?_) (fun cdv B outer s H vs Q E hr h => ?_)
 ·obtain ⟨v, m, rfl, _⟩ := h; rfl
 obtain ⟨v, m, rfl, hv, hm, q⟩ := h
 refine ⟨_, @ag _ _ _ _ _ (aF (i := 1) fq.nd rfl (Or.inr rfl) ar)
  (@ag _ _ _ _ _ (bF (PW.pt (dL (cz (cg (ax bG rfl T.ay aL (aa (pv 0) (aa (bK rfl T.gR kj (v := .ty "str") rfl) ae))))) (du (aE iS (ax dJ rfl T.bR ca (aa (pv 0) ae)) af (aG _))))) (av (aO gq)) aR)
  (@ag _ _ _ _ _ (aF (i := 2) fq.nd rfl (Or.inl rfl) (gY PySem.F.plainAttrs_str PySem.F.slot_str_split PySem.F.type_str_split AS (pv 0) (aa ar ae)))
  (@ag _ _ _ _ _ (fG (i := 3) ii rfl (rK (pv 2)) (fun _ _ _ _ _ => aS (i := 0) pc rfl (.inl rfl)) (fun _ _ _ _ _ => ik (PW.pt (dL (cz (rQ gn gn af (ax dJ rfl T.bR ca (aa (pv 0) ae)) af)) (du (aE iS (ax (sV (K := K) rfl) rfl T.bR ca (aa (dZ (nI.re ii.nocell) rfl (vo (pv 0)) (fun _ _ _ _ _ => aS (i := 0) oR rfl (.inl rfl)) (fun _ _ _ _ _ => ik (aE nT (pv 0) (pv 1) rfl)) (fun _ _ _ _ _ => pv 0)) ae)) af (aG _)))))) (fun _ _ _ _ _ => pv 0) fq.nd rfl rfl)
  (av (aO (zX (bO bW (pv 0) ar (aG _)) (de (bO (nC (Nat.lt_of_succ_lt (sE hr))) (pv 3) (bb ae) (aG _))))))))), ?_⟩
 cases hm with
 | non =>
  cases hv
  have hS : Is K H V.non "NoneType" := .non
  exact ⟨_, rfl, .non, "str", _, false, rfl, hS.ty, hS.kit T.kit "str", _, rfl, bd (q _ (.refl _))⟩
 | int i =>
  cases hv
  have hS : Is K H (.int i) "int" := .int i
  exact ⟨_, rfl, .int i, "str", _, false, rfl, hS.ty, hS.kit T.kit "str", _, rfl, bd (q _ (.refl _))⟩
 | str x =>
 cases hv with
 | str _ hx =>
 have q : ∀ H', aK H H' → Q (.bl (jt x)) H' := q
 have sz : x.length ≤ sizeLine := rT hx
 have hS : Is K H (.str x) "str" := .str _
 refine ⟨_, rfl, .str x, "str", _, true, rfl, hS.ty, hS.kit T.kit "str", _, rfl, bH ?_⟩
 refine ⟨_, rfl, x, rfl, sz, _, _, rfl, rfl, _, rfl, ?_⟩
 by_cases h80 : ¬ (x.length : Int) ≤ 80
 ·refine aH (decide_eq_true (by omega)) ?_
  have e : jt x = false := by unfold jt; rw [decide_eq_false h80]; rfl
  rw [e] at q
  exact q _ (.refl _)
 have h80 := Decidable.not_not.mp h80
 refine aP (decide_eq_false (by omega)) ?_
 dsimp only [qE]
 have sl := tV x
 refine ⟨_, rfl, rfl, x, bl1, rfl, rfl, by decide +kernel, by omega, by omega, fun l hl => ?_⟩
 have ew : jt x = (decide (x = Str.empty) || (Txt.split x bl1).all df) := by unfold jt; rw [decide_eq_true h80]; rfl
 have hpl := uq x
 generalize Txt.split x bl1 = ws at sl ew hpl ⊢
 have s0 := ao hl (.lst (ws.map V.str))
 have e0 : upd H l (.lst (ws.map V.str)) l = some (.lst (ws.map V.str)) := ai
 generalize upd H l (.lst (ws.map V.str)) = H0 at s0 e0 ⊢
 (try dsimp only [bp]); show iC _ _ _ _ _
 refine ⟨_, rfl, l, rfl, .inl ⟨⟨_, .of e0⟩, nR (xs := ws.map V.str) (fun i acc H' => (acc.length ≤ i ∧ i ≤ ws.length ∧ (acc = [] ↔ (ws.take i).all df = true)) ∧ aK H0 H') ⟨⟨Nat.zero_le _, Nat.zero_le _, by simp⟩, .refl _⟩ (fun i acc H' z => .of (z.2 _ _ e0)) (fun i acc H' z => bc (by have := z.1.1; have := z.1.2.1; omega)) (fun i y acc H' N kk hy z => ?_) fun acc H' z => ?_⟩⟩
 ·obtain ⟨⟨z1, z2, z3⟩, s1⟩ := z
  rw [List.getElem?_map] at hy
  cases ez : ws[i]? with
  | none => rw [ez] at hy; cases hy
  | some z =>
  rw [ez] at hy
  cases hy
  have hi : i < ws.length := (List.getElem?_eq_some_iff.mp ez).1
  have hm := List.mem_of_getElem? ez
  have h80z := hpl z hm
  have et : (ws.take (i + 1)).all df = ((ws.take i).all df && df z) := by
   rw [List.take_add_one, ez, List.all_append]; simp
  have bad : ∀ H2, aK H' H2 → df z = false → N (acc ++ [V.str z]) H2 := fun H2 s2 hb => kk _ _ ⟨⟨by rw [List.length_append]; show _ + 1 ≤ _; omega, by omega, by rw [et, hb, Bool.and_false]; simp⟩, s1.trans s2⟩
  have good : ∀ H2, aK H' H2 → df z = true → N acc H2 := fun H2 s2 hb => kk _ _ ⟨⟨by omega, by omega, by rw [et, hb, Bool.and_true]; exact z3⟩, s1.trans s2⟩
  refine ⟨_, rfl, z, rfl, small (by omega), _, _, rfl, rfl, _, rfl, ?_⟩
  by_cases h1 : ¬ 1 ≤ (z.length : Int)
  ·have e : df z = false := by unfold df; rw [decide_eq_false h1]; rfl
   exact aP (decide_eq_false h1) ⟨_, rfl, bd (aH rfl ⟨_, rfl, bad _ (.refl _) e⟩)⟩
  have h1 := Decidable.not_not.mp h1
  refine aH (decide_eq_true h1) ⟨_, _, rfl, rfl, _, rfl, ?_⟩
  by_cases h20 : ¬ (z.length : Int) ≤ 20
  ·have e : df z = false := by unfold df; rw [decide_eq_true h1, decide_eq_false h20]; rfl
   exact aH (by show (!decide ((z.length : Int) ≤ 20)) = true; rw [decide_eq_false h20]; rfl) (aH rfl ⟨_, rfl, bad _ (.refl _) e⟩)
  have h20 := Decidable.not_not.mp h20
  have ez2 : df z = cA z gS := by unfold df; rw [decide_eq_true h1, decide_eq_true h20]; rfl
  refine aP (by show (!decide ((z.length : Int) ≤ 20)) = false; rw [decide_eq_true h20]; rfl) ?_
  refine ⟨_, rfl, z, rfl, wJ (fun c => !bT gS c) (Nat.lt_of_le_of_lt (show z.cps.size ≤ 20 by show z.length ≤ 20; omega) (by decide)) (fun c hc Q hQ => ?_) (fun c Q hQ => ?_) fun acc2 la ha l2 hl2 => ?_⟩
  ·refine ⟨_, rfl, _, rfl, _, _, rfl, rfl, _, rfl, ?_⟩
   have e : (!(!(Builtin.Str.occurrences ug ⟨#[c]⟩ 0 ug.length 1).isEmpty)) = !bT gS c := by
    show (!bT ug c) = _
    rw [FX]
   exact e ▸ hQ
  ·exact ⟨_, rfl, hQ⟩
  have hh : (fun c => !(fun c => !bT gS c) c) = bT gS := by funext c; simp
  rw [hh] at ha
  refine ⟨l2, _, rfl, .inl (.of ai), _, _, rfl, rfl, _, rfl, ?_⟩
  cases ho : cA z gS with
  | true =>
   have a0 := ha.mpr ho
   exact aP (decide_eq_false (by omega)) (good _ (ao hl2 _) (ez2.trans ho))
  | false =>
   have a0 : acc2.length ≠ 0 := fun z0 => by
    have := ha.mp z0
    have ho' : z.cps.toList.all (bT gS) = false := ho
    rw [ho'] at this; cases this
   exact aH (decide_eq_true (by omega)) ⟨_, rfl, bad _ (ao hl2 _) (ez2.trans ho)⟩
 ·obtain ⟨⟨z1, z2, z3⟩, s1⟩ := z
  rw [List.length_map, List.take_length] at z3
  intro l2 hl2
  have s2 := s1.trans (ao hl2 (.lst acc))
  have s02 := s0.trans s2
  refine ⟨_, rfl, rfl, _, rfl, ?_⟩
  rw [bh]
  by_cases he : x = Str.empty
  ·refine aH (decide_eq_true he) ?_
   rw [ew, decide_eq_true he] at q
   exact q _ s02
  ·refine aP (decide_eq_false he) ?_
   rw [ew, decide_eq_false he, Bool.false_or] at q
   refine ⟨_, rfl, small (by simp), fun l3 hl3 => ?_⟩
   refine ⟨l2, l3, acc, rfl, rfl, .of (ao hl3 _ _ _ ai), .of ai, ?_⟩
   have e : decide (acc = []) = ws.all df := by
    cases hw : ws.all df with
    | true => exact decide_eq_true (z3.mpr hw)
    | false => exact decide_eq_false fun z => by rw [z3.mp z] at hw; cases hw
   rw [e]
   exact q _ (s02.trans (ao hl3 _))
end
theorem wf {H : Hp} : ∀ {l : List Str} {tv : List V}, bL H (l.map Tr.str) tv → tv = l.map V.str ∧ ∀ x ∈ l, x.length ≤ 100000
 | [], tv, h => by cases h; exact ⟨rfl, fun _ z => nomatch z⟩
 | x :: l, tv, h => by
  cases h with
  | cons h t =>
   obtain ⟨e, k⟩ := wf t
   cases h with
   | str _ hx => exact ⟨by rw [e]; rfl, fun y hy => by rcases List.mem_cons.mp hy with rfl | hy; exact hx; exact k y hy⟩
theorem HX {k n : Str} {tg m : Tr} {ks : List Tr} (hk : k ∈ dm) : aT (.tup [.str k, .str n, tg, m, .tup ks]) = (cV n && gp tg && (dS k m && gM k (.tup ks))) := by
 have : (dm.any fun y => y == k) = true := List.any_eq_true.mpr ⟨k, hk, by simp⟩
 show ((dm.any fun y => y == k) && cV n && gp tg && (dS k m && gM k (.tup ks))) = _
 rw [this, Bool.true_and]
section
variable {P : Program} {w : World} {K : PySem.W.Frag} {mg : Str → Option Value} {base : Heap} {A : Adr}
noncomputable abbrev pT : Scope := (match bC dF with | _ :: _ :: (.If (.BoolOp _ ((.Compare (.Call _ ((.ListComp _ _ sc _) :: _) _ _) _ _ _) :: _) _) _ _ _) :: _ => sc | _ => ap dF)
theorem oO : Blk (ap dF) jx pT ["_law_tag"] [] := ⟨rfl, by decide +kernel, by decide +kernel, by decide +kernel, by decide +kernel⟩
theorem pO : (cR jx ["_law_tag"] []).Nodup := by decide +kernel
noncomputable def Bg : Sp := fun vs H Q _ => ∃ (v : V) (k n : Str) (tg m : Tr) (ks : List Tr), vs = [v] ∧ TrAt H (.tup [.str k, .str n, tg, m, .tup ks]) v ∧ k ∈ dm ∧ TgF tg ∧ (∀ l, tg = .tup l → l.length ≤ 5) ∧ MoF m ∧ ((br.any fun y => y == k) = true → ks = []) ∧ ks.length ≤ 13 ∧ ∀ H', aK H H' → Q (.bl (aT (.tup [.str k, .str n, tg, m, .tup ks]))) H'
seal PE PS PSs L2.PA PT PI PG in
theorem xK (T : Txt K mg A) : FnOk P w K mg base CX0 2 A.nE A.nW gB Bg := by
 have lO := uY (P := P) (w := w) (base := base) T
 have sP := uW (P := P) (w := w) (base := base) T
 refine T.gs.F.ok dh (fun vs H Q E h => ?_) (fun cdv B outer s H vs Q E hr h => ?_)
 ·obtain ⟨v, k, n, tg, m, ks, rfl, _⟩ := h; rfl
 obtain ⟨v, k, n, tg, m, ks, rfl, h, hk, ht, tl, hm, h0, kl, q⟩ := h
 refine ⟨_, @ag _ _ _ _ _ (oz (pv 0) (vJ rfl (bZ (aS (i := 1) dh.nd rfl (Or.inl rfl)) (bZ (aS (i := 2) dh.nd rfl (Or.inl rfl)) (bZ (aS (i := 3) dh.nd rfl (Or.inl rfl)) (bZ (aS (i := 4) dh.nd rfl (Or.inl rfl)) (bZ (aS (i := 5) dh.nd rfl (Or.inl rfl)) mU)))))))
  (@ag _ _ _ _ _ (bF (PW.pt (dL (cz (cg (az lO hr rfl T.cS.m T.cS.F.kp T.cS.b .nil bg (aa (pv 2) ae)))) (dL (cz (cg (ax bG rfl T.ay aL (aa (pv 3) (aa (bK rfl T.cy db (v := .ty "tuple") rfl) ae))))) (dL (aE iS (ax aN rfl T.bR ca (aa (pv 3) ae)) af (aG _)) (du (aE iS (ax aN rfl T.bR ca (aa (pv 5) ae)) af (aG _))))))) (av (aO gq)) aR)
  (@ag _ _ _ _ _ (bF (PW.pt (dL (aE iS (ax aN rfl T.bR ca (aa (dZ oO rfl (vL (pv 3)) (fun _ _ _ _ _ => aS (i := 0) pO rfl (.inl rfl)) (fun _ _ _ _ _ => ik (cz (cg (az lO hr rfl T.cS.m T.cS.F.kp T.cS.b .nil bg (aa (pv 0) ae))))) (fun _ _ _ _ _ => pv 0)) ae)) af (aG _)) (du (aE zZ (uk rfl T.bR ca rfl T.rZ Cf (pv 3)) (ax aN rfl T.bR ca (aa (pv 3) ae)) (aG _))))) (av (aO gq)) aR)
  (@ag _ _ _ _ _ (bF (aE bW (pv 1) ar (aG _)) (av (aO (cZ (az sP hr rfl T.fR.m T.fR.F.kp T.fR.b .nil bg (aa (pv 4) ae)) (de (bO (DJ (Nat.lt_of_succ_lt (sE hr))) (pv 5) (aM ae) (aG _)))))) aR)
  (@ag _ _ _ _ _ (bF (aE bW (pv 1) ar (aG _)) (av (aO (cZ (ax bG rfl T.ay aL (aa (pv 4) (aa (bK rfl T.nF xH (v := .ty "int") rfl) ae))) (cZ (zM (ax bG rfl T.ay aL (aa (pv 4) (aa (bK rfl T.gP lW (v := .ty "bool") rfl) ae)))) (de (ny gn gn af (pv 4) af)))))) aR)
  (av (aO (cZ (bO oE (pv 4) cu (aG _)) (de (zX (bO nO (pv 1) ar (aG _)) (de (bO (DJ (Nat.lt_of_succ_lt (sE hr))) (pv 5) (aM ae) (aG _)))))))))))), ?_⟩
 rw [HX hk] at q
 obtain ⟨a, vs, rfl, ea, kk⟩ := h.tupE
 cases kk with
 | @cons _ v0 _ _ a0 kk =>
 cases kk with
 | @cons _ v1 _ _ a1 kk =>
 cases kk with
 | @cons _ v2 _ _ a2 kk =>
 cases kk with
 | @cons _ v3 _ _ a3 kk =>
 cases kk with
 | @cons _ v4 _ _ a4 kk =>
 cases kk
 cases a0
 cases a1 with
 | str _ hn =>
 obtain ⟨kp, kv, rfl, ek, ak⟩ := a4.tupE
 have lk := ak.len
 refine ⟨_, rfl, a, _, rfl, .of ea, rfl, _, _, rfl, _, _, rfl, _, _, rfl, _, _, rfl, _, _, rfl, rfl, ?_⟩
 (try dsimp only [bp]); show iC _ _ _ _ _
 refine ⟨_, rfl, n, rfl, hn, fun H1 s1 => ⟨_, rfl, ?_⟩⟩
 cases en : cV n with
 | false =>
  rw [en] at q
  exact bd (q _ s1)
 | true =>
 rw [en, Bool.true_and] at q
 refine bH ?_
 cases ht with
 | lst l =>
  cases a2 with
  | lst et _ _ =>
  have iT : Is K H1 _ "list" := .lst (s1 _ _ et)
  exact ⟨_, rfl, _, "tuple", _, false, rfl, iT.ty, iT.kit T.kit "tuple", _, rfl, bd (q _ s1)⟩
 | txt l =>
 have tl5 := tl _ rfl
 rw [List.length_map] at tl5
 obtain ⟨tp, tv, rfl, et, kt⟩ := a2.tupE
 obtain ⟨rfl, hts⟩ := wf kt
 have et1 := s1 _ _ et
 have iT : Is K H1 (.ref tp) "tuple" := .tup et1
 refine ⟨_, rfl, .ref tp, "tuple", _, true, rfl, iT.ty, iT.kit T.kit "tuple", _, rfl, bH ?_⟩
 have etg : gp (.tup (l.map Tr.str)) = (decide (l.length ≤ 4) && (l.all cV && decide (dQ l = l.length))) := by
  show (decide ((l.map Tr.str).length ≤ 4) && ((l.map Tr.str).all cX && decide (dQ ((l.map Tr.str).map dt) = (l.map Tr.str).length))) = _
  rw [List.length_map, List.all_map, List.map_map, show (dt ∘ Tr.str) = id from rfl, List.map_id]; rfl
 rw [etg] at q
 refine ⟨_, rfl, tp, _, rfl, .inr (.of et1), _, _, rfl, rfl, _, rfl, ?_⟩
 by_cases l4 : ¬ l.length ≤ 4
 ·rw [decide_eq_false l4] at q
  exact aH (decide_eq_true (by rw [List.length_map]; omega)) (q _ s1)
 have l4 := Decidable.not_not.mp l4
 rw [decide_eq_true l4, Bool.true_and] at q
 refine aP (decide_eq_false (by rw [List.length_map]; omega)) ?_
 refine ⟨_, rfl, kp, _, rfl, .inr (.of (s1 _ _ ek)), _, _, rfl, rfl, _, rfl, ?_⟩
 have ekd : gM k (.tup ks) = decide (ks.length ≤ 12) := by
  show decide (ks.length ≤ if (br.any fun y => y == k) = true then 0 else 12) = _
  split
  ·rename_i h; rw [h0 h]; rfl
  ·rfl
 rw [ekd] at q
 by_cases l12 : ¬ ks.length ≤ 12
 ·rw [decide_eq_false l12, Bool.and_false, Bool.and_false] at q
  exact aH (decide_eq_true (by omega)) (q _ s1)
 have l12 := Decidable.not_not.mp l12
 rw [decide_eq_true l12, Bool.and_true] at q
 refine aP (decide_eq_false (by omega)) ?_
 dsimp only [qE]
 refine ⟨_, rfl, tp, rfl, ⟨_, .of et1⟩, pW (xs := l.map V.str) (fun i acc H' => (acc.length ≤ i ∧ i ≤ l.length ∧ (acc = [] ↔ (l.take i).all cV = true)) ∧ aK H1 H') ⟨⟨Nat.zero_le _, Nat.zero_le _, by simp⟩, .refl _⟩ (fun i acc H' z => .of (z.2 _ _ et1)) (fun i acc H' z => bc (by have := z.1.1; have := z.1.2.1; omega)) (fun i x acc H' N kk hx z => ?_) fun acc H' z => ?_⟩
 ·obtain ⟨⟨z1, z2, z3⟩, s2⟩ := z
  rw [List.getElem?_map] at hx
  cases ez : l[i]? with
  | none => rw [ez] at hx; cases hx
  | some z =>
  rw [ez] at hx
  cases hx
  have hi : i < l.length := (List.getElem?_eq_some_iff.mp ez).1
  have et : (l.take (i + 1)).all cV = ((l.take i).all cV && cV z) := by
   rw [List.take_add_one, ez, List.all_append]; simp
  refine ⟨_, rfl, z, rfl, hts z (List.mem_of_getElem? ez), fun H3 s3 => ⟨_, rfl, ?_⟩⟩
  cases ezn : cV z with
  | true => exact bH (kk _ _ ⟨⟨by omega, by omega, by rw [et, ezn, Bool.and_true]; exact z3⟩, s2.trans s3⟩)
  | false => exact bd ⟨_, rfl, kk _ _ ⟨⟨by rw [List.length_append]; show _ + 1 ≤ _; omega, by omega, by rw [et, ezn, Bool.and_false]; simp⟩, s2.trans s3⟩⟩
 obtain ⟨⟨z1, z2, z3⟩, s2⟩ := z
 rw [List.length_map, List.take_length] at z3
 intro l5 hl5
 have s3 := s1.trans (s2.trans (ao hl5 (.lst acc)))
 refine ⟨l5, _, rfl, .inl (.of ai), _, _, rfl, rfl, _, rfl, ?_⟩
 generalize upd H' l5 (.lst acc) = H3 at s3 ⊢
 cases ena : l.all cV with
 | false =>
  rw [ena] at q
  have a0 : acc ≠ [] := fun z => by rw [z3.mp z] at ena; cases ena
  have a1 := List.length_pos_iff.mpr a0
  exact aH (decide_eq_true (by omega)) (q _ s3)
 | true =>
 rw [ena, Bool.true_and] at q
 have a0 := z3.mpr ena
 subst a0
 refine aP rfl ?_
 refine ⟨_, rfl, tp, l, rfl, .of (s3 _ _ et), by omega, _, rfl, tp, _, rfl, .inr (.of (s3 _ _ et)), _, _, rfl, rfl, _, rfl, ?_⟩
 have Ak := Ak l
 by_cases hm2 : ¬ dQ l = l.length
 ·rw [decide_eq_false hm2] at q
  exact aH (decide_eq_true (by rw [List.length_map]; omega)) (q _ s3)
 have hm2 := Decidable.not_not.mp hm2
 rw [decide_eq_true hm2, Bool.true_and] at q
 refine aP (decide_eq_false (by rw [hm2, List.length_map]; omega)) ?_
 dsimp only [qE]
 have kv0 : (br.any fun y => y == k) = true → kv = [] := fun z => List.length_eq_zero_iff.mp (by rw [← lk, h0 z]; rfl)
 have a3' := a3.same s3
 unfold dS at q
 refine ⟨_, rfl, rfl, _, rfl, ?_⟩
 by_cases hw : k = "words"
 ·rw [if_pos hw] at q
  have e0 := kv0 (by rw [hw]; decide +kernel)
  subst e0
  refine aH (decide_eq_true (by rw [hw])) ?_
  refine ⟨_, rfl, v3, m, rfl, a3', hm, fun H4 s4 => ⟨_, rfl, ?_⟩⟩
  have s34 := s3.trans s4
  cases hwt : sj m with
  | false =>
   rw [hwt] at q
   exact bH (q _ s34)
  | true =>
  rw [hwt] at q
  refine bd ⟨_, rfl, small (by simp), fun p hp => ?_⟩
  exact ⟨kp, p, [], [], rfl, rfl, .of (ao hp _ _ _ (s34 _ _ ek)), .of ai, rfl, rfl, q _ (s34.trans (ao hp _))⟩
 rw [if_neg hw] at q
 refine aP (decide_eq_false fun z => hw (by injection z)) ?_
 dsimp only [qE]
 refine ⟨_, rfl, rfl, _, rfl, ?_⟩
 by_cases hg : k = "grid"
 ·rw [if_pos hg] at q
  refine aH (decide_eq_true (by rw [hg])) ?_
  cases hm with
  | non =>
   cases a3'
   have I : Is K H3 .non "NoneType" := .non
   exact ⟨_, rfl, .non, "int", _, false, rfl, I.ty, I.kit T.kit "int", _, rfl, bH (q _ s3)⟩
  | str x =>
   cases a3'
   have I : Is K H3 (.str x) "str" := .str x
   exact ⟨_, rfl, .str x, "int", _, false, rfl, I.ty, I.kit T.kit "int", _, rfl, bH (q _ s3)⟩
  | int i =>
  cases a3'
  have I : Is K H3 (.int i) "int" := .int i
  refine ⟨_, rfl, .int i, "int", _, true, rfl, I.ty, I.kit T.kit "int", _, rfl, bd ?_⟩
  refine ⟨_, rfl, .int i, "bool", _, false, rfl, I.ty, I.kit T.kit "bool", _, rfl, _, rfl, bd ?_⟩
  have q' : ∀ H', aK H H' → Q (.bl (decide (0 ≤ i) && (decide ((1 : Int) ≤ i) && decide (i ≤ 9)))) H' := q
  refine ⟨_, rfl, _, _, rfl, rfl, _, rfl, ?_⟩
  by_cases i1 : ¬ (1 : Int) ≤ i
  ·rw [decide_eq_false i1, Bool.false_and, Bool.and_false] at q'
   exact aP (decide_eq_false i1) (q' _ s3)
  have i1 := Decidable.not_not.mp i1
  rw [decide_eq_true i1, decide_eq_true (show 0 ≤ i by omega), Bool.true_and, Bool.true_and] at q'
  exact aH (decide_eq_true i1) ⟨_, _, rfl, rfl, q' _ s3⟩
 rw [if_neg hg] at q
 refine aP (decide_eq_false fun z => hg (by injection z)) ?_
 dsimp only [qE]
 refine ⟨_, rfl, rfl, _, rfl, ?_⟩
 cases hm with
 | str x =>
  cases a3'
  exact bH (q _ s3)
 | int i =>
  cases a3'
  exact bH (q _ s3)
 | non =>
 cases a3'
 refine bd ?_
 refine ⟨_, rfl, rfl, _, rfl, ?_⟩
 by_cases hb : k = "blank"
 ·have e0 := kv0 (by rw [hb]; decide +kernel)
  subst e0
  refine aP (by rw [hb]; rfl) ?_
  refine ⟨_, rfl, small (by simp), fun p hp => ?_⟩
  exact ⟨kp, p, [], [], rfl, rfl, .of (ao hp _ _ _ (s3 _ _ ek)), .of ai, rfl, rfl, q _ (s3.trans (ao hp _))⟩
 ·refine aH (by rw [bh, decide_eq_false hb]; rfl) ?_
  exact q _ s3
end
theorem EG {t : Tr} (h : bN t = true) (n : Nat) : ∀ u ∈ dk t n, aT u = true := fun u hu => BG (fh h).1 hu
section
variable {P : Program} {w : World} {K : PySem.W.Frag} {mg : Str → Option Value} {base : Heap} {A : Adr}
noncomputable def Dg : Sp := fun vs H Q _ => ∃ (v : V) (t : Tr), vs = [v] ∧ TrAt H t v ∧ Fm t ∧ (∀ F, (aQ F t).length ≤ 50) ∧ ∀ H', aK H H' → Q (.bl (bN t)) H'
seal PE PS PSs L2.PA PT PI PG in
theorem Fd (T : Txt K mg A) : FnOk P w K mg base CX0 3 A.ym A.xQ nQ Dg := by
 have vw := xK (P := P) (w := w) (base := base) T
 refine T.mJ.F.ok eV (fun vs H Q E h => ?_) (fun cdv B outer s H vs Q E hr h => ?_)
 ·obtain ⟨v, t, rfl, _⟩ := h; rfl
 obtain ⟨v, t, rfl, h, fm, cn, q⟩ := h
 refine ⟨_, @ag _ _ _ _ _ (aF (i := 1) eV.nd rfl (Or.inl rfl) (bb (aa (pv 0) ae)))
  (@ag _ _ _ _ _ (aF (i := 2) eV.nd rfl (Or.inl rfl) (bb ae))
  (@ag _ _ _ _ _ (fN PassesOwn.never rfl (cJ rfl T.cL (aa af ae)) (aS (i := 3) eV.nd rfl (Or.inl rfl)) (@ag _ _ _ _ _ (fN PassesOwn.never rfl (lF (pv 1)) (aS (i := 4) eV.nd rfl (Or.inl rfl)) (@ag _ _ _ _ _ (bF (PW.pt (dL (cz (cg (ax bG rfl T.ay aL (aa (pv 4) (aa (bK rfl T.cy db (v := .ty "tuple") rfl) ae))))) (dL (aE nO (ax aN rfl T.bR ca (aa (pv 4) ae)) af (aG _)) (du (cz (cg (az vw hr rfl T.gs.m T.gs.F.kp T.gs.b .nil bg (aa (pv 4) ae)))))))) (av (aO gq)) aR)
  (av (dC (gY PySem.F.plainAttrs_list PySem.F.slot_list_append PySem.F.type_list_append iV (pv 2) (aa (aI aY (pv 4) af (fun _ _ => rfl)) ae))))))
  (@ag _ _ _ _ _ (aF (i := 5) eV.nd rfl (Or.inl rfl) (bb ae))
  (@ag _ _ _ _ _ (fN PassesOwn.never rfl (lF (pv 1)) (aS (i := 4) eV.nd rfl (Or.inl rfl)) (av (dC (gY PySem.F.plainAttrs_list PySem.F.slot_list_extend PySem.F.type_list_extend zb (pv 5) (aa (aI aY (pv 4) af (fun _ _ => rfl)) ae)))))
  (@ag _ _ _ _ _ (aF (i := 1) eV.nd rfl (Or.inl rfl) (pv 5))
  (av (bF (aE (nC (Nat.lt_of_succ_lt (sE hr))) (pv 1) (bb ae) (aG _)) (av (aO (cZ (bO zZ (pv 3) af (aG _)) (cZ (bO gn (ax aN rfl T.bR ca (aa (pv 2) ae)) af (aG _)) (de (bO bW (yS rfl T.bR ca rfl T.rZ Cf (pv 2)) (ax aN rfl T.bR ca (aa (pv 2) ae)) (aG _))))))) aR)))))))
  (av (aO gq)))), ?_⟩
 have q0 : bN t = false → ∀ H', aK H H' → Q (.bl false) H' := fun e => by rw [e] at q; exact q
 refine ⟨_, rfl, small (by simp), fun l0 hl0 => ?_⟩
 have s1 := ao hl0 (.lst [v])
 have e1 : upd H l0 (.lst [v]) l0 = some (.lst [v]) := ai
 generalize upd H l0 (.lst [v]) = H1 at s1 e1 ⊢
 (try dsimp only [bp]); show iC _ _ _ _ _
 refine ⟨small (by simp), fun nl hnl => ?_⟩
 have s2 := s1.trans (ao hnl (.lst []))
 have e2 : upd H1 nl (.lst []) nl = some (.lst (((bfs t 0).map ah).map V.str)) := ai
 have n0 : l0 ≠ nl := fun z => by rw [← z, e1] at hnl; cases hnl
 have f2 := ao hnl (.lst []) _ _ e1
 generalize upd H1 nl (.lst []) = H2 at s2 e2 f2 ⊢
 have hn0 : H nl = none := fZ s1 hnl
 (try dsimp only [bp]); show iC _ _ _ _ _
 refine ⟨_, rfl, by decide, by decide, ?_⟩
 refine gH (n := (9 : Int).toNat) (fun i σ H' => ∃ (l : Addr) (vs : List V) (v3 v4 v5 : Option V), σ = [some v, some (.ref l), some (.ref nl), v3, v4, v5] ∧ aK H H' ∧ l ≠ nl ∧ H' l = some (.lst vs) ∧ H' nl = some (.lst (((bfs t i).map ah).map V.str)) ∧ bL H (dk t i) vs ∧ dk t i ≠ [] ∧ ∀ m, m < i → ∀ u ∈ dk t m, aT u = true) ⟨l0, [v], none, none, none, rfl, s2, n0, f2, e2, .one h, List.cons_ne_nil _ _, fun m hm => by omega⟩ ?_ ?_
 ·rintro i σ H3 hi ⟨l, vs, v3, v4, v5, rfl, s3, nl3, e3, f3, k3, ne3, al3⟩
  have i9 : i < 9 := hi
  have b1 := EC t i
  have c1 := cn (i + 1)
  have eb : bfs t (i + 1) = bfs t i ++ dk t i := rfl
  have lv := k3.len
  have fl := Dz fm i
  refine aU fun Na ka => ?_
  refine ⟨_, rfl, l, rfl, ⟨_, .of e3⟩, rM (K := K) (a := l) (xs := vs) (fun j σ H' => ∃ v4, σ = [some v, some (.ref l), some (.ref nl), some (.int (0 + (i : Int))), v4, v5] ∧ oZ nl H3 H' ∧ H' nl = some (.lst (((bfs t i ++ (dk t i).take j).map ah).map V.str)) ∧ ∀ u ∈ (dk t i).take j, aT u = true) ⟨v4, rfl, .of (.refl _), by rw [List.take_zero, List.append_nil]; exact f3, fun u hu => by rw [List.take_zero] at hu; cases hu⟩ (fun j σ H' _ z => ?_) ?_ ?_⟩
  ·obtain ⟨_, _, b4, _⟩ := z; exact .of (b4 _ _ nl3 e3)
  ·rintro j x σ H4 hx ⟨v4, rfl, b4, f4, a4⟩
   obtain ⟨u, hu, ku⟩ := jY k3 hx
   have s4 : aK H H4 := fun b u z => b4 _ _ (aX z hn0) (s3 _ _ z)
   have ku4 := ku.same s4
   have um := List.mem_of_getElem? hu
   have jl : j < (dk t i).length := (List.getElem?_eq_some_iff.mp hu).1
   have bad : aT u = false → bN t = false := fun hb => by
    cases hd : bN t with
    | false => rfl
    | true => rw [EG hd i u um] at hb; cases hb
   refine aU fun Nb kb => ?_
   cases fl u um with
   | odd ho =>
    have ha := q0 (bad (ww ho).2)
    have I := ku4.is (K := K)
    by_cases ht : ∃ tl, u = .tup tl
    ·obtain ⟨tl, rfl⟩ := ht
     obtain ⟨a, tv, rfl, ea, kt⟩ := ku4.tupE
     have lt := kt.len
     have l5 : tl.length ≠ 5 := of_decide_eq_true ho
     refine ⟨_, rfl, .ref a, "tuple", _, true, rfl, I.ty, I.kit T.kit "tuple", _, rfl, bH ?_⟩
     refine ⟨_, rfl, a, _, rfl, .inr (.of ea), rfl, _, rfl, aH ?_ (ha _ s4)⟩
     show (!decide (V.int (tv.length : Int) = V.int 5)) = true
     rw [decide_eq_false fun z => l5 (by injection z with z; omega)]; rfl
    ·refine ⟨_, rfl, x, "tuple", _, false, rfl, I.ty, ?_, _, rfl, bd (ha _ s4)⟩
     have := I.kit T.kit "tuple"
     refine this.trans ?_
     cases u with
     | tup tl => exact absurd ⟨tl, rfl⟩ ht
     | _ => rfl
   | @box k n tg m ks hk ht tl hm h0 kl hs =>
   obtain ⟨a, tv, rfl, ea, kt⟩ := ku4.tupE
   have lt := kt.len
   have kt1 : tv[1]? = some (.str n) := by
    cases kt with
    | cons _ kt =>
    cases kt with
    | cons h kt => cases h; rfl
   have iT : Is K H4 (.ref a) "tuple" := .tup ea
   refine ⟨_, rfl, .ref a, "tuple", _, true, rfl, iT.ty, iT.kit T.kit "tuple", _, rfl, bH ?_⟩
   refine ⟨_, rfl, a, _, rfl, .inr (.of ea), rfl, _, rfl, aP (by rw [← lt]; rfl) ?_⟩
   refine ⟨_, rfl, .ref a, k, n, tg, m, ks, rfl, ku4, hk, ht, tl, hm, h0, kl, fun H5 s5 => ⟨_, rfl, ?_⟩⟩
   cases hal : aT (.tup [.str k, .str n, tg, m, .tup ks]) with
   | false => exact bd (q0 (bad hal) _ (s4.trans s5))
   | true =>
   refine bH ?_
   refine kB (kb _ _ ?_)
   have f5 := s5 _ _ f4
   refine ⟨_, rfl, .inl ⟨rfl, _, .of f5⟩, _, rfl, a, _, _, _, rfl, rfl, .of (s5 _ _ ea), bY (j := 1) kt1, nl, _, _, rfl, rfl, f5, bc (by simp only [List.length_map, List.length_append, List.length_take]; omega), ?_⟩
   refine ⟨_, rfl, (b4.trans (.of s5)).trans .upd, ?_, ?_⟩
   ·rw [ai, List.take_add_one, hu, ← List.append_assoc]; simp [ah, dt]
   ·intro y hy
    rw [List.take_add_one, hu] at hy
    rcases List.mem_append.mp hy with hy | hy
    ·exact a4 y hy
    ·rw [List.mem_singleton.mp hy]; exact hal
  rintro σ H4 ⟨v4, rfl, b4, f4, a4⟩
  rw [← lv, List.take_length] at f4 a4
  rw [← eb] at f4
  refine ka _ _ ?_
  have s4 : aK H H4 := fun b u z => b4 _ _ (aX z hn0) (s3 _ _ z)
  have e4 := b4 _ _ nl3 e3
  have al4 : ∀ m, m < i + 1 → ∀ u ∈ dk t m, aT u = true := fun m hm => by
   rcases Nat.lt_or_ge m i with h | h
   ·exact al3 m h
   ·rw [show m = i by omega]; exact a4
  refine aU fun Nb kb => ?_
  refine ⟨small (by simp), fun il hil => ?_⟩
  refine kb _ _ ?_
  have s5 := ao hil (.lst [])
  have g5 : upd H4 il (.lst []) il = some (.lst []) := ai
  have ni : il ≠ nl := fun z => by rw [z, f4] at hil; cases hil
  have nil' : il ≠ l := fun z => by rw [z, e4] at hil; cases hil
  have f5 := s5 _ _ f4
  have e5 := s5 _ _ e4
  have s05 := s4.trans s5
  have hil0 : H il = none := fZ s4 hil
  generalize upd H4 il (.lst []) = H5 at s5 g5 f5 e5 s05 ⊢
  have lk : ∀ j, (((dk t i).take j).flatMap aj).length ≤ 700 := fun j => by
   have : ∀ m : List Tr, (∀ u ∈ m, aT u = true) → (m.flatMap aj).length ≤ m.length * 12 := by
    intro m
    induction m with
    | nil => intro _; exact Nat.le_refl _
    | cons u m ih =>
     intro hm
     have h1 := (bf (hm u (List.mem_cons_self ..))).kids
     have h2 := ih fun x hx => hm x (List.mem_cons_of_mem _ hx)
     rw [List.flatMap_cons, List.length_append, List.length_cons]; omega
   have := this ((dk t i).take j) fun u hu => a4 u (List.mem_of_mem_take hu)
   rw [List.length_take] at this
   omega
  refine aU fun Nc kc => ?_
  refine ⟨_, rfl, l, rfl, ⟨_, .of e5⟩, rM (K := K) (a := l) (xs := vs) (fun j σ H' => ∃ v4 ws, σ = [some v, some (.ref l), some (.ref nl), some (.int (0 + (i : Int))), v4, some (.ref il)] ∧ oZ il H5 H' ∧ H' il = some (.lst ws) ∧ bL H (((dk t i).take j).flatMap aj) ws) ⟨v4, [], rfl, .of (.refl _), g5, .nil⟩ (fun j σ H' _ z => ?_) ?_ ?_⟩
  ·obtain ⟨_, _, _, b6, _⟩ := z; exact .of (b6 _ _ nil'.symm e5)
  ·rintro j x σ H6 hx ⟨v4, ws, rfl, b6, g6, k6⟩
   obtain ⟨u, hu, ku⟩ := jY k3 hx
   have s6 : aK H H6 := fun b u z => b6 _ _ (aX z hil0) (s05 _ _ z)
   have al := a4 u (List.mem_of_getElem? hu)
   have b := bf al
   obtain ⟨a, tg, ks, mv, kv, rfl, ea, et, am, ek, ak⟩ := cK ku b
   have lj := lk (j + 1)
   have ej : ((dk t i).take (j + 1)).flatMap aj = ((dk t i).take j).flatMap aj ++ aj u := by
    rw [List.take_add_one, hu, List.flatMap_append]
    show _ ++ [u].flatMap aj = _
    rw [List.flatMap_cons, List.flatMap_nil, List.append_nil]
   rw [ej, List.length_append] at lj
   have l6 := k6.len
   have lak := ak.len
   refine ⟨_, rfl, .inl ⟨rfl, _, .of g6⟩, _, rfl, a, _, _, _, rfl, rfl, .of (s6 _ _ ea), rfl, il, ks, _, _, rfl, rfl, g6, s6 _ _ ek, small (by omega), ?_⟩
   refine ⟨_, ws ++ kv, rfl, b6.trans .upd, ai, ?_⟩
   rw [ej]
   exact k6.append ak
  rintro σ H6 ⟨v4, ws, rfl, b6, g6, k6⟩
  rw [← lv, List.take_length] at k6
  refine kc _ _ ?_
  have s6 : aK H H6 := fun b u z => b6 _ _ (aX z hil0) (s05 _ _ z)
  have f6 := b6 _ _ ni.symm f5
  have elev : dk t (i + 1) = (dk t i).flatMap aj := rfl
  rw [← elev] at k6
  have l6 := k6.len
  refine aU fun Nd kd => ?_
  refine ⟨_, rfl, ?_⟩
  refine kd _ _ ?_
  refine ⟨_, rfl, small (by simp), fun p hp => ?_⟩
  have s7 := ao hp (.lst [])
  have g7 := s7 _ _ g6
  have f7 := s7 _ _ f6
  have s07 := s6.trans s7
  have p7 : upd H6 p (.lst []) p = some (.lst []) := ai
  generalize upd H6 p (.lst []) = H7 at s7 g7 f7 s07 p7 ⊢
  refine ⟨il, p, ws, rfl, rfl, .of g7, .of p7, _, rfl, ?_⟩
  by_cases hw : ¬ ws = []
  ·refine aP (decide_eq_false hw) ?_
   refine kB ?_
   refine ⟨il, ws, _, _, _, rfl, s07, ni, g7, f7, k6, fun z => hw ?_, al4⟩
   rw [z] at l6
   exact List.length_eq_zero_iff.mp l6.symm
  have hw := Decidable.not_not.mp hw
  refine aH (decide_eq_true hw) ?_
  have lev0 : dk t (i + 1) = [] := List.length_eq_zero_iff.mp (by rw [l6, hw]; rfl)
  have lb : (((bfs t (i + 1)).map ah).map V.str).length = (bfs t (i + 1)).length := by rw [List.length_map, List.length_map]
  have lb2 : (bfs t (i + 1)).length ≤ 50 := by rw [eb, List.length_append]; omega
  refine ⟨_, rfl, _, _, rfl, rfl, _, rfl, ?_⟩
  by_cases h8 : ¬ i < 8
  ·have hd : bN t = false := by
    cases hd : bN t with
    | false => rfl
    | true => exact absurd (vT (fh hd).1 i (by omega)) ne3
   have e8 : (fun i j : Int => V.bl (decide (i < j))) (0 + (i : Int)) 8 = V.bl false := congrArg V.bl (decide_eq_false (by omega))
   exact aP (decide_eq_false (by omega)) (by first | exact e8 ▸ q0 hd _ s07 | (rw [e8]; exact q0 hd _ s07))
  have h8 := Decidable.not_not.mp h8
  have hd := Ez h8 (fun m hm => al4 m (by omega)) lev0
  refine aH (decide_eq_true (by omega)) ?_
  refine ⟨_, rfl, nl, _, rfl, .inl (.of f7), _, _, rfl, rfl, _, rfl, ?_⟩
  by_cases h40 : ¬ (bfs t (i + 1)).length ≤ 40
  ·rw [decide_eq_false h40] at hd
   exact aP (decide_eq_false (by omega)) (q0 hd _ s07)
  have h40 := Decidable.not_not.mp h40
  rw [decide_eq_true h40, Bool.true_and] at hd
  refine aH (decide_eq_true (by omega)) ?_
  refine ⟨_, rfl, nl, _, rfl, .of f7, by rw [List.length_map]; omega, _, rfl, nl, _, rfl, .inl (.of f7), rfl, ?_⟩
  have em : decide (V.int ((dQ ((bfs t (i + 1)).map ah) : Nat) : Int) = V.int ((((bfs t (i + 1)).map ah).map V.str).length : Int)) = bN t := by
   rw [hd, lb]
   by_cases e : dQ ((bfs t (i + 1)).map ah) = (bfs t (i + 1)).length
   ·rw [e, decide_eq_true rfl, decide_eq_true rfl]
   ·rw [decide_eq_false e, decide_eq_false fun z => e (by injection z with z; omega)]
  rw [em]
  exact q _ s07
 ·rintro σ H3 ⟨l, vs, v3, v4, v5, rfl, s3, nl3, e3, f3, k3, ne3, al3⟩
  have hd : bN t = false := by
   cases hd : bN t with
   | false => rfl
   | true => exact absurd (vT (fh hd).1 _ (by decide)) ne3
  exact q0 hd _ s3
end
noncomputable def hOf (wd : Str) (th pl : Tr) (t : Tr) (ks : List Tr) : List Tr :=
 if wd = "gone" then [] else if wd = "kid" then [dP t (ks.take ((plc pl ks.length).getD 0) ++ [th] ++ ks.drop ((plc pl ks.length).getD 0))] else if wd = "text" then [dB th (dP t ks)] else [dE th (dP t ks)]
theorem Et (wd : Str) (th pl t : Tr) (ks : List Tr) : (hOf wd th pl t ks).length ≤ 1 := by
 unfold hOf; split; exact Nat.zero_le _; split; exact Nat.le_refl _; split <;> exact Nat.le_refl _
theorem vp {z wd : Str} {th pl : Tr} (f : Nat) (t : Tr) : (edL z (hOf wd th pl) f t).length ≤ 1 := by
 cases f with
 | zero => exact Nat.le_refl _
 | succ f =>
  unfold edL
  split
  ·exact Et ..
  ·exact Nat.le_refl _
section
variable {P : Program} {w : World} {K : PySem.W.Frag} {mg : Str → Option Value} {base : Heap} {A : Adr}
noncomputable def yu (n : Nat) : Sp := fun vs H Q _ => ∃ (B0 : Hp) (bv : V) (t : Tr), vs = [bv] ∧ aK B0 H ∧ TrAt B0 t bv ∧ cf n t = true ∧ (aQ n t).length ≤ 60 ∧ ∀ (l : Addr) (ws : List V) (H' : Hp), H l = none → aK H H' → H' l = some (.lst ws) → bL B0 (aQ n t) ws → Q (.ref l) H'
seal PE PS PSs L2.PA PT PI PG in
theorem CL (T : Txt K mg A) (n : Nat) (lz : FnOk P w K mg base CX0 n A.qo A.pX kP (yu n)) : FnOk P w K mg base CX0 (n + 1) A.qo A.pX kP (yu (n + 1)) := by
 refine T.dH.F.ok qF (fun vs H Q E h => ?_) (fun cdv B outer s H vs Q E hr h => ?_)
 ·obtain ⟨B0, bv, t, rfl, _⟩ := h; rfl
 obtain ⟨B0, bv, t, rfl, sB, ht, hf, h60, q⟩ := h
 refine ⟨_, @ag _ _ _ _ _ (aF (i := 1) qF.nd rfl (Or.inl rfl) (bb (aa (pv 0) ae)))
  (@ag _ _ _ _ _ (fN PassesOwn.never rfl (vL (aI aY (pv 0) af (fun _ _ => rfl))) (aS (i := 2) qF.nd rfl (Or.inl rfl)) (av (dC (gY PySem.F.plainAttrs_list PySem.F.slot_list_extend PySem.F.type_list_extend iH (pv 1) (aa (az lz hr rfl T.dH.m T.dH.F.kp T.dH.b .nil bg (aa (pv 2) ae)) ae)))))
  (av (aO (pv 1)))), ?_⟩
 obtain ⟨al, fk⟩ := aV hf
 obtain ⟨a, tg, ks, mv, kv, rfl, ea, et, am, ek, ak⟩ := cK ht (bf al)
 replace ea := sB _ _ ea
 replace ek := sB _ _ ek
 have lk := ak.len
 have eP : aQ (n + 1) t = t :: (aj t).flatMap (aQ n) := rfl
 have h60' : ∀ j, ((t :: ((aj t).take j).flatMap (aQ n))).length ≤ 60 := fun j => by
  have : (((aj t).take j).flatMap (aQ n)).length ≤ ((aj t).flatMap (aQ n)).length := by
   conv => rhs; rw [← List.take_append_drop j (aj t), List.flatMap_append, List.length_append]
   omega
  rw [eP, List.length_cons] at h60
  rw [List.length_cons]; omega
 refine ⟨_, rfl, small (by simp), fun l hl => ?_⟩
 have s0 := ao hl (.lst [V.ref a])
 have e0 : upd H l (.lst [V.ref a]) l = some (.lst [V.ref a]) := ai
 generalize upd H l (.lst [V.ref a]) = H0 at s0 e0 ⊢
 (try dsimp only [bp]); show iC _ _ _ _ _
 refine ⟨_, rfl, a, _, _, _, rfl, rfl, .of (s0 _ _ ea), rfl, ks, rfl, ⟨_, .of (s0 _ _ ek)⟩, vP (xs := kv) (fun j σ H' => ∃ (ws : List V) (v2 : Option V), σ = [some (.ref a), some (.ref l), v2] ∧ aK H H' ∧ H' l = some (.lst ws) ∧ bL B0 (t :: ((aj t).take j).flatMap (aQ n)) ws) ⟨[.ref a], none, rfl, s0, e0, .one ht⟩ (fun j σ H' _ z => ?_) ?_ ?_⟩
 ·obtain ⟨_, _, _, s1, _⟩ := z
  exact .of (s1 _ _ ek)
 ·rintro j v σ H1 hv ⟨ws, v2, rfl, s1, e1, k1⟩
  obtain ⟨kd, hkd, kk⟩ := jY ak hv
  have km := List.mem_of_getElem? hkd
  have ej : ((aj t).take (j + 1)).flatMap (aQ n) = ((aj t).take j).flatMap (aQ n) ++ aQ n kd := by
   rw [List.take_add_one, hkd, List.flatMap_append]
   show _ ++ [kd].flatMap _ = _
   rw [List.flatMap_cons, List.flatMap_nil, List.append_nil]
  have lj := h60' (j + 1)
  rw [ej, List.length_cons, List.length_append] at lj
  have l1 := k1.len
  rw [List.length_cons] at l1
  refine ⟨_, rfl, .inl ⟨rfl, _, .of e1⟩, _, rfl, B0, v, kd, rfl, sB.trans s1, kk, fk kd km, by omega, fun b zs H2 hb s2 e2 k2 => ⟨l, b, _, _, rfl, rfl, s2 _ _ e1, e2, ?_, ?_⟩⟩
  ·have := k2.len
   exact small (by omega)
  ·refine ⟨_, _, rfl, fun b' u e => by rw [aD (aX e hl)]; exact s2 _ _ (s1 _ _ e), ai, ?_⟩
   rw [ej, ← List.cons_append]
   exact k1.append k2
 ·rintro σ H1 ⟨ws, v2, rfl, s1, e1, k1⟩
  rw [← lk, List.take_length, ← eP] at k1
  exact ⟨_, rfl, q l ws H1 hl s1 e1 k1⟩
theorem zL (T : Txt K mg A) : ∀ n, FnOk P w K mg base CX0 n A.qo A.pX kP (yu n)
 | 0 => ⟨fun vs H Q E h => (by obtain ⟨_, _, _, _, _, _, h, _⟩ := h; cases h), fun _ _ _ _ _ _ vs Q E _ _ _ _ h => (by obtain ⟨_, _, _, _, _, _, h, _⟩ := h; cases h)⟩
 | n + 1 => CL T n (zL T n)
noncomputable def qA (n : Nat) : Sp := fun vs H Q _ => ∃ (B0 : Hp) (bv tv pv' : V) (t th pl : Tr) (ea : Addr) (wd z : Str), vs = [bv, .ref ea] ∧ aK B0 H ∧ TrAt B0 t bv ∧ B0 ea = some (.tup [.str wd, .str z, tv, pv']) ∧ TrAt B0 th tv ∧ TrAt B0 pl pv' ∧ cf n t = true ∧ NdT n t ∧ wd ∈ (["text", "tags", "kid", "gone"] : List Str) ∧
 (∀ u ∈ aQ n t, ah u = z → wd = "kid" → plc pl (aj u).length ≠ none) ∧ ∀ (l : Addr) (ws : List V) (H' : Hp), H l = none → aK H H' → H' l = some (.lst ws) → F2 (TrM B0 H') (edL z (hOf wd th pl) n t) ws → Q (.ref l) H'
seal PE PS PSs L2.PA PT PI PG in
theorem yo (T : Txt K mg A) (n : Nat) (mj : FnOk P w K mg base CX0 n A.jf A.jA fI (qA n)) : FnOk P w K mg base CX0 (n + 1) A.jf A.jA fI (qA (n + 1)) := by
 refine T.eO.F.ok cc (fun vs H Q E h => ?_) (fun cdv B outer s H vs Q E hr h => ?_)
 ·obtain ⟨B0, bv, tv, pv', t, th, pl, ea, wd, z, rfl, _⟩ := h; rfl
 obtain ⟨B0, bv, tv, pv', t, th, pl, ea, wd, z, rfl, sB, ht, ee, hth, hpl, hf, nd, hwd, hpc, q⟩ := h
 refine ⟨_, @ag _ _ _ _ _ (oz (pv 1) (vJ rfl (bZ (aS (i := 2) cc.nd rfl (Or.inl rfl)) (bZ (aS (i := 3) cc.nd rfl (Or.inl rfl)) (bZ (aS (i := 4) cc.nd rfl (Or.inl rfl)) (bZ (aS (i := 5) cc.nd rfl (Or.inl rfl)) mU))))))
  (@ag _ _ _ _ _ (bF (PW.pt (jF (aE bW (aI aY (pv 0) af (fun _ _ => rfl)) (pv 3) (aG _)) (gC (aE bW (pv 2) ar (aG _))))) (av (aO (bb ae))) aR)
  (@ag _ _ _ _ _ (aF (i := 6) cc.nd rfl (Or.inl rfl) (bb ae))
  (@ag _ _ _ _ _ (fN PassesOwn.never rfl (vL (aI aY (pv 0) af (fun _ _ => rfl))) (aS (i := 7) cc.nd rfl (Or.inl rfl)) (av (dC (gY PySem.F.plainAttrs_list PySem.F.slot_list_extend PySem.F.type_list_extend iH (pv 6) (aa (az mj hr rfl T.eO.m T.eO.F.kp T.eO.b .nil bg (aa (pv 7) (aa (pv 1) ae))) ae)))))
  (@ag _ _ _ _ _ (bF (PW.pt (jF (aE bW (aI aY (pv 0) af (fun _ _ => rfl)) (pv 3) (aG _)) (gC (aE bW (pv 2) ar (aG _))))) (@ag _ _ _ _ _ (aF (i := 8) cc.nd rfl (Or.inl rfl) (aI aW (bb (aa (pv 5) (aa (ax aN rfl T.bR ca (aa (pv 6) ae)) ae))) (ck ox rfl T.nF xH (aa (bO oE (pv 5) cu (aG _)) ae)) (fun _ _ => rfl)))
  (av (aF (i := 6) cc.nd rfl (Or.inl rfl) (aJ wb (aJ wb (fW vU (pv 6) hW (hX (pv 8))) (bb (aa (pv 4) ae))) (fW vU (pv 6) (hX (pv 8)) hW))))) aR)
  (@ag _ _ _ _ _ (aF (i := 0) cc.nd rfl (Or.inl rfl) (aJ mH (fW nH (pv 0) hW (hX af)) (aM (aa (ck cT rfl T.cy db (aa (pv 6) ae)) ae))))
  (@ag _ _ _ _ _ (bF (PW.pt (jF (aE bW (aI aY (pv 0) af (fun _ _ => rfl)) (pv 3) (aG _)) (gC (aE bW (pv 2) ar (aG _))))) (av (aF (i := 0) cc.nd rfl (Or.inl rfl) (aJ mH (fW nH (pv 0) hW (hX af)) (aM (aa (pv 4) (aa (aI aY (pv 0) af (fun _ _ => rfl)) ae)))))) aR)
  (@ag _ _ _ _ _ (bF (PW.pt (jF (aE bW (aI aY (pv 0) af (fun _ _ => rfl)) (pv 3) (aG _)) (gC (aE bW (pv 2) ar (aG _))))) (av (aF (i := 0) cc.nd rfl (Or.inl rfl) (aJ mH (fW nH (pv 0) hW (hX af)) (aM (aa (pv 4) (aa (aI aY (pv 0) af (fun _ _ => rfl)) (aa (aI aY (pv 0) af (fun _ _ => rfl)) ae))))))) aR)
  (av (aO (bb (aa (pv 0) ae))))))))))), ?_⟩
 obtain ⟨al, fk⟩ := aV hf
 have b := bf al
 obtain ⟨a, v2, v3, v4, rfl, ea0, t0, t1, t2, t3, t4⟩ := sq ht b
 obtain ⟨ks, kv, rfl, ek, ak⟩ := t4.tupE
 have lk := ak.len
 have k12 := b.kids
 obtain ⟨n1, n2⟩ := mM nd
 refine ⟨_, rfl, ea, _, rfl, .of (sB _ _ ee), rfl, _, _, rfl, _, _, rfl, _, _, rfl, _, _, rfl, rfl, ?_⟩
 (try dsimp only [bp]); show iC _ _ _ _ _
 have hnd : ah t = z → (aj t).flatMap (edL z (hOf wd th pl) n) = aj t := fun e => iQ fun k hk => uV (fk k hk) fun hz => n1 (by
  rw [e]
  obtain ⟨u, hu, e2⟩ := List.mem_map.mp hz
  exact List.mem_map.mpr ⟨u, List.mem_flatMap.mpr ⟨k, hk, hu⟩, e2⟩)
 have kl12 := iE (g := edL z (hOf wd th pl) n) (l := aj t) fun k _ => vp n k
 have t4' := t4
 refine aU fun N1 k1 => ?_
 have fin : ¬ (ah t = z ∧ wd = "gone") → N1 [some (.ref a), some (.ref ea), some (.str wd), some (.str z), some tv, some pv', none, none, none] H := fun hg => by
  refine k1 _ _ ?_
  refine aU fun N2 k2 => ?_
  refine ⟨small (by simp), fun kl hkl => k2 _ _ ?_⟩
  have s1 := ao hkl (.lst [])
  have g1 : upd H kl (.lst []) kl = some (.lst []) := ai
  generalize upd H kl (.lst []) = H1 at s1 g1 ⊢
  have sB1 := sB.trans s1
  have hkB : B0 kl = none := fZ sB hkl
  (try dsimp only [bp])
  refine aU fun N3 k3 => ?_
  refine ⟨_, rfl, a, _, _, _, rfl, rfl, .of (sB1 _ _ ea0), rfl, ks, rfl, ⟨_, .of (sB1 _ _ ek)⟩, vP (xs := kv) (fun j σ H' => ∃ (ws : List V) (v7 : Option V), σ = [some (.ref a), some (.ref ea), some (.str wd), some (.str z), some tv, some pv', some (.ref kl), v7, none] ∧ aK H H' ∧ H' kl = some (.lst ws) ∧ F2 (TrM B0 H') (((aj t).take j).flatMap (edL z (hOf wd th pl) n)) ws) ⟨[], none, rfl, s1, g1, .nil⟩ (fun j σ H' _ z => ?_) ?_ ?_⟩
  ·obtain ⟨_, _, _, s4, _⟩ := z
   exact .of (s4 _ _ (sB _ _ ek))
  ·rintro j v σ H2 hv ⟨ws, v7, rfl, s2, g2, kk2⟩
   obtain ⟨kd, hkd, kk⟩ := jY ak hv
   have km := List.mem_of_getElem? hkd
   have jl : j < (aj t).length := (List.getElem?_eq_some_iff.mp hkd).1
   have ej : ((aj t).take (j + 1)).flatMap (edL z (hOf wd th pl) n) = ((aj t).take j).flatMap (edL z (hOf wd th pl) n) ++ edL z (hOf wd th pl) n kd := by
    rw [List.take_add_one, hkd, List.flatMap_append]
    show _ ++ [kd].flatMap _ = _
    rw [List.flatMap_cons, List.flatMap_nil, List.append_nil]
   have lj := iE (g := edL z (hOf wd th pl) n) (l := (aj t).take j) fun k _ => vp n k
   rw [List.length_take] at lj
   have l2 := kk2.len
   refine ⟨_, rfl, .inl ⟨rfl, _, .of g2⟩, _, rfl, _, rfl, B0, v, tv, pv', kd, th, pl, ea, wd, z, rfl, sB.trans s2, kk, ee, hth, hpl, fk kd km, qW n2 km, hwd, fun u hu => hpc u (List.mem_cons_of_mem _ (List.mem_flatMap.mpr ⟨kd, km, hu⟩)), fun b zs H3 hb s3 e3 k3' => ⟨kl, b, _, _, rfl, rfl, s3 _ _ g2, e3, ?_, ?_⟩⟩
   ·have := k3'.len
    have := vp (z := z) (wd := wd) (th := th) (pl := pl) n kd
    exact small (by omega)
   ·have t5 : gZ H2 (upd H3 kl (.lst (ws ++ zs))) := (gZ.of s3).trans (.upd (s3 _ _ g2) _)
    refine ⟨_, _, rfl, fun b' u e => by rw [aD (aX e hkl)]; exact s3 _ _ (s2 _ _ e), ai, ?_⟩
    rw [ej]
    exact (kk2.mono fun _ _ y => y.keep t5).append (k3'.mono fun _ _ y => y.keep (.upd (s3 _ _ g2) _))
  rintro σ H2 ⟨ws, v7, rfl, s2, g2, kk2⟩
  rw [← lk, List.take_length] at kk2
  refine k3 _ _ ?_
  have sB2 := sB.trans s2
  generalize eKS0 : (aj t).flatMap (edL z (hOf wd th pl) n) = KS at kk2 hnd kl12
  have lks := kk2.len
  refine cb (fun σ' H' => ∃ (kl' : Addr) (ws' : List V) (v8 : Option V), σ' = [some (.ref a), some (.ref ea), some (.str wd), some (.str z), some tv, some pv', some (.ref kl'), v7, v8] ∧ aK H H' ∧ H' kl' = some (.lst ws') ∧ F2 (TrM B0 H') (if ah t = z ∧ wd = "kid" then KS.take ((plc pl KS.length).getD 0) ++ [th] ++ KS.drop ((plc pl KS.length).getD 0) else KS) ws') (fun N kN => ?_) ?_
  ·refine ⟨_, rfl, a, _, _, _, rfl, rfl, .of (sB2 _ _ ea0), rfl, _, rfl, rfl, _, rfl, ?_⟩
   rw [bh]
   have no : ¬ (ah t = z ∧ wd = "kid") → N [some (.ref a), some (.ref ea), some (.str wd), some (.str z), some tv, some pv', some (.ref kl), v7, none] H2 := fun h => kN _ _ ⟨kl, ws, none, rfl, s2, g2, by rw [if_neg h]; exact kk2⟩
   by_cases hz : ¬ ah t = z
   ·exact aP (decide_eq_false hz) (no fun h => hz h.1)
   have hz := Decidable.not_not.mp hz
   refine aH (decide_eq_true hz) ⟨_, rfl, rfl, _, rfl, ?_⟩
   rw [bh]
   by_cases hk : ¬ wd = "kid"
   ·exact aP (decide_eq_false hk) (no fun h => hk h.2)
   have hk := Decidable.not_not.mp hk
   refine aH (decide_eq_true hk) ?_
   have eKS := hnd hz
   obtain ⟨k, hk1, hk2, hk3⟩ : ∃ k : Nat, plc pl KS.length = some k ∧ k ≤ KS.length ∧ atI [pv', .int (ws.length : Int)] (if decide (pv' = .non) = true then 1 else 0) = some (.int (k : Int)) := by
    have hp := hpc t (List.mem_cons_self ..) hz hk
    rw [← eKS] at hp
    cases pl with
    | non =>
     cases hpl
     exact ⟨KS.length, rfl, Nat.le_refl _, by rw [lks]; rfl⟩
    | int i =>
     cases hpl
     have e : plc (.int i) KS.length = if 0 ≤ i ∧ i ≤ (KS.length : Int) then some i.toNat else none := rfl
     rw [e] at hp ⊢
     by_cases h : 0 ≤ i ∧ i ≤ (KS.length : Int)
     ·rw [if_pos h]
      exact ⟨i.toNat, rfl, by omega, by rw [show ((i.toNat : Nat) : Int) = i by omega]; rfl⟩
     ·rw [if_neg h] at hp; exact absurd rfl hp
    | _ => exact absurd rfl hp
   refine aU fun N4 k4 => ?_
   refine ⟨_, rfl, _, rfl, kl, ws, rfl, .inl (.of g2), small (by simp), fun p hp => ⟨_, rfl, rfl, .inr ⟨_, rfl, p, _, _, _, rfl, rfl, .of ai, hk3, k4 _ _ ?_⟩⟩⟩
   have s3 := ao hp (.lst [pv', V.int (ws.length : Int)])
   have g3 := s3 _ _ g2
   have kk3 := kk2.mono fun _ _ y => y.keep (.of s3)
   generalize upd H2 p (.lst [pv', V.int (ws.length : Int)]) = H3 at s3 g3 kk3 ⊢
   (try dsimp only [bp])
   refine ⟨_, rfl, _, rfl, _, rfl, kl, ws, rfl, .of g3, fun p1 hp1 => ?_⟩
   rw [iY _ _ (by omega)]
   have s4 := ao hp1 (.lst (ws.take k))
   have e4 : upd H3 p1 (.lst (ws.take k)) p1 = some (.lst (ws.take k)) := ai
   have g4 := s4 _ _ g3
   generalize upd H3 p1 (.lst (ws.take k)) = H4 at s4 e4 g4 ⊢
   refine ⟨_, rfl, small (by simp), fun p2 hp2 => ?_⟩
   have s5 := ao hp2 (.lst [tv])
   have e5 : upd H4 p2 (.lst [tv]) p2 = some (.lst [tv]) := ai
   have g5 := s5 _ _ g4
   have f5 := s5 _ _ e4
   generalize upd H4 p2 (.lst [tv]) = H5 at s5 e5 g5 f5 ⊢
   refine ⟨p1, p2, _, _, rfl, rfl, f5, e5, small (by rw [List.length_take, List.length_singleton]; omega), fun p3 hp3 => ?_⟩
   have s6 := ao hp3 (.lst (ws.take k ++ [tv]))
   have e6 : upd H5 p3 (.lst (ws.take k ++ [tv])) p3 = some (.lst (ws.take k ++ [tv])) := ai
   have g6 := s6 _ _ g5
   generalize upd H5 p3 (.lst (ws.take k ++ [tv])) = H6 at s6 e6 g6 ⊢
   refine ⟨_, rfl, _, rfl, _, rfl, ?_⟩
   dsimp only [vV]
   refine ⟨kl, ws, rfl, .of g6, fun p4 hp4 => ?_⟩
   rw [wC]
   have s7 := ao hp4 (.lst (ws.drop k))
   refine ⟨p3, p4, _, _, rfl, rfl, s7 _ _ e6, ai, small (by simp only [List.length_append, List.length_take, List.length_drop, List.length_singleton]; omega), fun p5 hp5 => ?_⟩
   have s8 := ao hp5 (.lst (ws.take k ++ [tv] ++ ws.drop k))
   have s38 := s4.trans (s5.trans (s6.trans (s7.trans s8)))
   refine kN _ _ ⟨p5, _, _, rfl, s2.trans (s3.trans s38), ai, ?_⟩
   rw [if_pos ⟨hz, hk⟩, hk1]
   have kk8 := kk3.mono fun _ _ y => y.keep (.of s38)
   exact ((F2.take kk8 k).append (.one (.old hth))).append (F2.drop kk8 k)
  rintro σ H3 ⟨kl', ws', v8, rfl, s3, g3, kk3⟩
  have sB3 := sB.trans s3
  generalize eK2 : (if ah t = z ∧ wd = "kid" then KS.take ((plc pl KS.length).getD 0) ++ [th] ++ KS.drop ((plc pl KS.length).getD 0) else KS) = K2 at kk3
  have lK2 : K2.length ≤ 13 := by
   rw [← eK2]
   split
   ·simp only [List.length_append, List.length_take, List.length_drop, List.length_singleton]; omega
   ·omega
  have l3 := kk3.len
  refine aU fun N5 k5 => ?_
  refine ⟨_, rfl, _, rfl, yb (sB3 _ _ ea0) fun p1 H4 s4 e4 => ?_⟩
  rw [show gX [V.str (kindOf t), .str (ah t), v2, v3, .ref ks] none (some 4) = [V.str (kindOf t), .str (ah t), v2, v3] from iY _ 4 (by simp)] at e4
  refine ⟨_, rfl, kl', ws', rfl, .inl ⟨.of (s4 _ _ g3), fun p2 hp2 => ⟨small (by simp), fun p3 hp3 => ?_⟩⟩⟩
  have s5 := ao hp2 (.tup ws')
  have s6 := ao hp3 (.tup [V.ref p2])
  have e5 := s6 _ _ (ai : upd H4 p2 (.tup ws') p2 = some (.tup ws'))
  refine qU (s6 _ _ (s5 _ _ e4)) ai (by simp) fun p7 H7 s7 e7 => k5 _ _ ?_
  have s37 := s4.trans (s5.trans (s6.trans s7))
  have tk7 : TrM B0 H7 (.tup K2) (.ref p2) := .tup' (s7 _ _ e5) (kk3.mono fun _ _ y => y.keep (.of s37))
  have s07 := s3.trans s37
  clear s4 s5 s6 s7 e4 e5 s37 hp2 hp3
  (try dsimp only [bp])
  refine cb (fun σ' H' => ∃ (p8 : Addr) (m8 : V), σ' = [some (.ref p8), some (.ref ea), some (.str wd), some (.str z), some tv, some pv', some (.ref kl'), v7, v8] ∧ aK H H' ∧ H' p8 = some (.tup [V.str (kindOf t), .str (ah t), v2, m8, .ref p2]) ∧ TrM B0 H' (.tup K2) (.ref p2) ∧ TrAt B0 (if ah t = z ∧ wd = "text" then th else eQ t) m8) (fun N kN => ?_) ?_
  ·refine ⟨_, rfl, p7, _, _, _, rfl, rfl, .of e7, rfl, _, rfl, rfl, _, rfl, ?_⟩
   rw [bh]
   have no : ¬ (ah t = z ∧ wd = "text") → N [some (.ref p7), some (.ref ea), some (.str wd), some (.str z), some tv, some pv', some (.ref kl'), v7, v8] H7 := fun h => kN _ _ ⟨p7, v3, rfl, s07, e7, tk7, by rw [if_neg h]; exact t3⟩
   by_cases hz : ¬ ah t = z
   ·exact aP (decide_eq_false hz) (no fun h => hz h.1)
   have hz := Decidable.not_not.mp hz
   refine aH (decide_eq_true hz) ⟨_, rfl, rfl, _, rfl, ?_⟩
   rw [bh]
   by_cases hk : ¬ wd = "text"
   ·exact aP (decide_eq_false hk) (no fun h => hk h.2)
   have hk := Decidable.not_not.mp hk
   refine aH (decide_eq_true hk) ?_
   refine ⟨_, rfl, _, rfl, yb e7 fun p1 H4 s4 e4 => ?_⟩
   rw [show gX ([V.str (kindOf t), .str (ah t), v2, v3] ++ [.ref p2]) none (some 3) = [V.str (kindOf t), .str (ah t), v2] from iY _ 3 (by simp)] at e4
   refine ⟨_, rfl, _, rfl, p7, _, _, _, rfl, rfl, .of (s4 _ _ e7), rfl, small (by simp), fun p3 hp3 => ?_⟩
   have s5 := ao hp3 (.tup [tv, V.ref p2])
   refine qU (s5 _ _ e4) ai (by simp) fun p9 H9 s9 e9 => kN _ _ ?_
   have s79 := s4.trans (s5.trans s9)
   exact ⟨p9, tv, rfl, s07.trans s79, e9, tk7.keep (.of s79), by rw [if_pos ⟨hz, hk⟩]; exact hth⟩
  clear s07 tk7 e7
  rintro σ H8 ⟨p8, m8, rfl, s8, e8, tk8, tm8⟩
  refine cb (fun σ' H' => ∃ (p9 : Addr) (g9 : V), σ' = [some (.ref p9), some (.ref ea), some (.str wd), some (.str z), some tv, some pv', some (.ref kl'), v7, v8] ∧ aK H H' ∧ H' p9 = some (.tup [V.str (kindOf t), .str (ah t), g9, m8, .ref p2]) ∧ TrM B0 H' (.tup K2) (.ref p2) ∧ TrAt B0 (if ah t = z ∧ wd = "tags" then th else .tup ((fM t).map Tr.str)) g9) (fun N kN => ?_) ?_
  ·refine ⟨_, rfl, p8, _, _, _, rfl, rfl, .of e8, rfl, _, rfl, rfl, _, rfl, ?_⟩
   rw [bh]
   have no : ¬ (ah t = z ∧ wd = "tags") → N [some (.ref p8), some (.ref ea), some (.str wd), some (.str z), some tv, some pv', some (.ref kl'), v7, v8] H8 := fun h => kN _ _ ⟨p8, v2, rfl, s8, e8, tk8, by rw [if_neg h]; exact t2⟩
   by_cases hz : ¬ ah t = z
   ·exact aP (decide_eq_false hz) (no fun h => hz h.1)
   have hz := Decidable.not_not.mp hz
   refine aH (decide_eq_true hz) ⟨_, rfl, rfl, _, rfl, ?_⟩
   rw [bh]
   by_cases hk : ¬ wd = "tags"
   ·exact aP (decide_eq_false hk) (no fun h => hk h.2)
   have hk := Decidable.not_not.mp hk
   refine aH (decide_eq_true hk) ?_
   refine ⟨_, rfl, _, rfl, yb e8 fun p1 H4 s4 e4 => ?_⟩
   rw [show gX [V.str (kindOf t), .str (ah t), v2, m8, .ref p2] none (some 2) = [V.str (kindOf t), .str (ah t)] from iY _ 2 (by simp)] at e4
   refine ⟨_, rfl, _, rfl, p8, _, _, _, rfl, rfl, .of (s4 _ _ e8), rfl, _, rfl, p8, _, _, _, rfl, rfl, .of (s4 _ _ e8), rfl, small (by simp), fun p3 hp3 => ?_⟩
   have s5 := ao hp3 (.tup [tv, m8, V.ref p2])
   refine qU (s5 _ _ e4) ai (by simp) fun p9 H9 s9 e9 => kN _ _ ?_
   have s79 := s4.trans (s5.trans s9)
   exact ⟨p9, tv, rfl, s8.trans s79, e9, tk8.keep (.of s79), by rw [if_pos ⟨hz, hk⟩]; exact hth⟩
  rintro σ H9 ⟨p9, g9, rfl, s9, e9, tk9, tg9⟩
  refine ⟨_, rfl, small (by simp), fun l hl => ?_⟩
  have s10 := ao hl (.lst [V.ref p9])
  refine q l _ _ (fZ s9 hl) (s9.trans s10) ai ?_
  have eE : edL z (hOf wd th pl) (n + 1) t = [.tup [.str (kindOf t), .str (ah t), if ah t = z ∧ wd = "tags" then th else .tup ((fM t).map Tr.str), if ah t = z ∧ wd = "text" then th else eQ t, .tup K2]] := by
   rw [← eK2]
   unfold edL
   rw [eKS0]
   by_cases hz : ah t = z
   ·rw [if_pos hz]
    have ng : wd ≠ "gone" := fun h => hg ⟨hz, h⟩
    unfold hOf
    rw [if_neg ng]
    have d1 : ¬ (("kid" : Str) = "tags") := by decide +kernel
    have d2 : ¬ (("kid" : Str) = "text") := by decide +kernel
    have d3 : ¬ (("text" : Str) = "kid") := by decide +kernel
    have d4 : ¬ (("text" : Str) = "tags") := by decide +kernel
    have d5 : ¬ (("tags" : Str) = "kid") := by decide +kernel
    have d6 : ¬ (("tags" : Str) = "text") := by decide +kernel
    simp only [List.mem_cons, List.not_mem_nil, or_false] at hwd
    rcases hwd with rfl | rfl | rfl | rfl
    ·rw [if_neg d3, if_pos rfl, if_neg (fun h => d4 h.2), if_pos ⟨hz, rfl⟩, if_neg (fun h => d3 h.2), da b]; rfl
    ·rw [if_neg d5, if_neg d6, if_pos ⟨hz, rfl⟩, if_neg (fun h => d6 h.2), if_neg (fun h => d5 h.2), da b]; rfl
    ·rw [if_pos rfl, if_neg (fun h => d1 h.2), if_neg (fun h => d2 h.2), if_pos ⟨hz, rfl⟩, da b]
    ·exact absurd rfl ng
   ·rw [if_neg hz, if_neg (fun h => hz h.1), if_neg (fun h => hz h.1), if_neg (fun h => hz h.1), da b]
  rw [eE]
  exact .one (.tup' (s10 _ _ e9) (.cons (.old t0) (.cons (.old t1) (.cons (.old tg9) (.cons (.old tm8) (.cons (tk9.keep (.of s10)) .nil))))))
 refine ⟨_, rfl, a, _, _, _, rfl, rfl, .of (sB _ _ ea0), rfl, _, rfl, rfl, _, rfl, ?_⟩
 rw [bh]
 by_cases hz : ¬ ah t = z
 ·exact aP (decide_eq_false hz) (fin fun h => hz h.1)
 have hz := Decidable.not_not.mp hz
 refine aH (decide_eq_true hz) ⟨_, rfl, rfl, _, rfl, ?_⟩
 rw [bh]
 by_cases hg : ¬ wd = "gone"
 ·exact aP (decide_eq_false hg) (fin fun h => hg h.2)
 have hg := Decidable.not_not.mp hg
 refine aH (decide_eq_true hg) ⟨small (by simp), fun l hl => ?_⟩
 refine q l [] _ hl (ao hl _) ai ?_
 unfold edL hOf
 rw [if_pos hz, if_pos hg]
 exact .nil
theorem tH (T : Txt K mg A) : ∀ n, FnOk P w K mg base CX0 n A.jf A.jA fI (qA n)
 | 0 => ⟨fun vs H Q E h => (by obtain ⟨_, _, _, _, _, _, _, _, _, _, _, _, _, _, _, _, h, _⟩ := h; cases h), fun _ _ _ _ _ _ vs Q E _ _ _ _ h => (by obtain ⟨_, _, _, _, _, _, _, _, _, _, _, _, _, _, _, _, h, _⟩ := h; cases h)⟩
 | n + 1 => yo T n (tH T n)
end
section
noncomputable abbrev Adr.clsL (A : Adr) : List Addr := [A.c_NoShare, A.c_NoBox, A.c_NoText, A.c_NoRule, A.c_NoName, A.c_NoPlace, A.c_NoPage, A.c_NoChange, A.c_NoUndo, A.c_NoRow]
variable {P : Program} {w : World} {K : PySem.W.Frag} {mg : Str → Option Value} {base : Heap} {A : Adr}
theorem vk : bootBuiltins "ValueError" = some (.type "ValueError") := by decide +kernel
noncomputable def sZ (A : Adr) (c : Addr) : Option Str := if c = A.c_NoBox then some "NoBox" else if c = A.c_NoName then some "NoName" else if c = A.c_NoPlace then some "NoPlace" else none
noncomputable def mI (A : Adr) : Sp := fun vs H Q _ => ∃ (a c : Addr) (x : Str), vs = [.ref a] ∧ sZ A c = some x ∧ H a = some (oW a c) ∧ ∀ H', aK H H' → Q (.str x) H'
noncomputable abbrev wB : Scope := (match bC iK with | _ :: (.Assign _ (.ListComp _ _ sc _) _) :: _ => sc | _ => ap iK)
theorem vf : Blk (ap iK) sw wB ["_law_word_here", "_law_good_here"] [] := ⟨rfl, by decide +kernel, by decide +kernel, by decide +kernel, by decide +kernel⟩
theorem pI : (cR sw ["_law_word_here", "_law_good_here"] []).Nodup := by decide +kernel
seal PE PS PSs L2.PA PT PI PG in
theorem EQ (T : Txt K mg A) : FnOkH P w K mg base 1 A.rj A.sy jX (mI A) := by
 refine T.nJ.F.okH oy (fun vs H Q E h => ?_) (fun cdv B outer s H vs Q E x C hA hx hr h => ?_)
 ·obtain ⟨a, c, x, rfl, _⟩ := h; rfl
 obtain ⟨a, c, xw, rfl, hw, ha, q⟩ := h
 refine ⟨_, @ag _ _ _ _ _ (aF (i := 1) oy.nd rfl (Or.inl rfl) (bb (aa (aM (aa ar (aa (ax ly rfl T.ay aL (aa (pv 0) (aa (bU rfl T.m_NoBox (v := .ref A.c_NoBox) rfl) ae))) ae))) (aa (aM (aa ar (aa (ax ly rfl T.ay aL (aa (pv 0) (aa (bU rfl T.m_NoName (v := .ref A.c_NoName) rfl) ae))) ae))) (aa (aM (aa ar (aa (ax ly rfl T.ay aL (aa (pv 0) (aa (bU rfl T.m_NoPlace (v := .ref A.c_NoPlace) rfl) ae))) ae))) ae)))))
  (@ag _ _ _ _ _ (xX (x0 := x) (C0 := C) (i := 2) vf hA (Cj (pv 1)) (fun _ _ _ _ _ => DY (x0 := x) (C0 := C) (K := K) (n := 2) rfl hA (bZ (aS (i := 0) pI rfl (.inl rfl)) (bZ (aS (i := 1) pI rfl (.inl rfl)) mU)) rfl rfl) (fun _ _ _ _ _ => ik (cg (pv 1))) (fun _ _ _ _ _ => pv 0) oy.nd rfl rfl)
  (@ag _ _ _ _ _ (bF (cg (ax zi rfl T.ay aL (aa (pv 0) (aa (aM (aa (bU rfl T.m_NoShare (v := .ref A.c_NoShare) rfl) (aa (bU rfl T.m_NoText (v := .ref A.c_NoText) rfl) (aa (bU rfl T.m_NoRule (v := .ref A.c_NoRule) rfl) (aa (bU rfl T.m_NoPage (v := .ref A.c_NoPage) rfl) (aa (bU rfl T.m_NoChange (v := .ref A.c_NoChange) rfl) (aa (bU rfl T.m_NoUndo (v := .ref A.c_NoUndo) rfl) (aa (bU rfl T.m_NoRow (v := .ref A.c_NoRow) rfl) ae)))))))) ae)))) (av (aO ar)) aR)
  (@ag _ _ _ _ _ (bF (PW.pt (dL (aE nO (ax aN rfl T.bR ca (aa (pv 2) ae)) af (aG _)) (du (cz (cg (ax ly rfl T.ay aL (aa (pv 0) (aa (bK rfl T.eZ vk (v := .ty "ValueError") rfl) ae)))))))) (av (aO ar)) aR)
  (av (aO (aI aW (pv 2) af (fun _ _ => rfl))))))), ?_⟩
 try dsimp only [cxU, fH, Cx.nox]
 have key : ∃ b1 b2 b3 : Bool, ExcIsi K c ∧ PySem.W.kitOne K (.ref c) (.ref A.c_NoBox) = some b1 ∧ PySem.W.kitOne K (.ref c) (.ref A.c_NoName) = some b2 ∧ PySem.W.kitOne K (.ref c) (.ref A.c_NoPlace) = some b3 ∧ PySem.W.kitAny K (.ref c) ([A.c_NoShare, A.c_NoText, A.c_NoRule, A.c_NoPage, A.c_NoChange, A.c_NoUndo, A.c_NoRow].map Value.ref) = some false ∧
   PySem.W.kitOne K (.ref c) (.type "ValueError") = some true ∧ ([(("NoBox" : Str), b1), ("NoName", b2), ("NoPlace", b3)].filter (·.2)).map (·.1) = [xw] := by
  have nd := zk T.cls
  have hc : (c = A.c_NoBox ∧ xw = "NoBox") ∨ (c = A.c_NoName ∧ xw = "NoName") ∨ (c = A.c_NoPlace ∧ xw = "NoPlace") := by
   unfold sZ at hw
   by_cases h1 : c = A.c_NoBox
   ·rw [if_pos h1] at hw; cases hw; exact .inl ⟨h1, rfl⟩
   rw [if_neg h1] at hw
   by_cases h2 : c = A.c_NoName
   ·rw [if_pos h2] at hw; cases hw; exact .inr (.inl ⟨h2, rfl⟩)
   rw [if_neg h2] at hw
   by_cases h3 : c = A.c_NoPlace
   ·rw [if_pos h3] at hw; cases hw; exact .inr (.inr ⟨h3, rfl⟩)
   rw [if_neg h3] at hw; cases hw
  have no : ∀ {c z : Addr}, ClsAt K A.c_PaneError A.clsL c → z ∈ A.clsL → c ≠ z → PySem.W.kitOne K (.ref c) (.ref z) = some false := fun F hz n => by rw [F.each _ hz, beq_eq_false_iff_ne.mpr n]
  have yes : ∀ {c : Addr}, ClsAt K A.c_PaneError A.clsL c → c ∈ A.clsL → PySem.W.kitOne K (.ref c) (.ref c) = some true := fun F hz => by rw [F.each _ hz, beq_self_eq_true]
  have oth : ∀ {c : Addr}, ClsAt K A.c_PaneError A.clsL c → (∀ z ∈ [A.c_NoShare, A.c_NoText, A.c_NoRule, A.c_NoPage, A.c_NoChange, A.c_NoUndo, A.c_NoRow], c ≠ z) → PySem.W.kitAny K (.ref c) ([A.c_NoShare, A.c_NoText, A.c_NoRule, A.c_NoPage, A.c_NoChange, A.c_NoUndo, A.c_NoRow].map Value.ref) = some false := fun F n => rf fun y hy => by
   obtain ⟨z, hz, rfl⟩ := List.mem_map.mp hy
   exact no F (by simp at hz ⊢; rcases hz with h | h | h | h | h | h | h <;> simp [h]) (n z hz)
  have ne : ∀ (i j : Nat) {a b : Addr}, A.clsL[i]? = some a → A.clsL[j]? = some b → i ≠ j → a ≠ b := fun i j {a b} hi hj n e => n ((List.getElem?_inj (List.getElem?_eq_some_iff.mp hi).1 nd).mp (hi.trans (by rw [e, hj])))
  have ne7 : ∀ (i : Nat) {a : Addr}, A.clsL[i]? = some a → i ≠ 0 ∧ i ≠ 2 ∧ i ≠ 3 ∧ i ≠ 6 ∧ i ≠ 7 ∧ i ≠ 8 ∧ i ≠ 9 → ∀ z ∈ [A.c_NoShare, A.c_NoText, A.c_NoRule, A.c_NoPage, A.c_NoChange, A.c_NoUndo, A.c_NoRow], a ≠ z := fun i {a} hi n z hz => by
   simp only [List.mem_cons, List.not_mem_nil, or_false] at hz
   rcases hz with rfl | rfl | rfl | rfl | rfl | rfl | rfl
   ·exact ne i 0 hi rfl n.1
   ·exact ne i 2 hi rfl n.2.1
   ·exact ne i 3 hi rfl n.2.2.1
   ·exact ne i 6 hi rfl n.2.2.2.1
   ·exact ne i 7 hi rfl n.2.2.2.2.1
   ·exact ne i 8 hi rfl n.2.2.2.2.2.1
   ·exact ne i 9 hi rfl n.2.2.2.2.2.2
  have m : ∀ (i : Nat) {a : Addr}, A.clsL[i]? = some a → a ∈ A.clsL := fun i {a} h => List.mem_of_getElem? h
  rcases hc with ⟨rfl, rfl⟩ | ⟨rfl, rfl⟩ | ⟨rfl, rfl⟩
  ·exact ⟨true, false, false, T.nb.isi, yes T.nb (m 1 rfl), no T.nb (m 4 rfl) (ne 1 4 rfl rfl (by decide)), no T.nb (m 5 rfl) (ne 1 5 rfl rfl (by decide)), oth T.nb (ne7 1 rfl (by decide)), T.nb.ve, rfl⟩
  ·exact ⟨false, true, false, T.nn.isi, no T.nn (m 1 rfl) (ne 4 1 rfl rfl (by decide)), yes T.nn (m 4 rfl), no T.nn (m 5 rfl) (ne 4 5 rfl rfl (by decide)), oth T.nn (ne7 4 rfl (by decide)), T.nn.ve, rfl⟩
  ·exact ⟨false, false, true, T.np.isi, no T.np (m 1 rfl) (ne 5 1 rfl rfl (by decide)), no T.np (m 4 rfl) (ne 5 4 rfl rfl (by decide)), yes T.np (m 5 rfl), oth T.np (ne7 5 rfl (by decide)), T.np.ve, rfl⟩
 obtain ⟨b1, b2, b3, isi, e1, e2, e3, e4, e5, e6⟩ := key
 refine aU fun N1 j1 => ?_
 refine ⟨_, rfl, a, c, A.c_NoBox, _, b1, rfl, ha, isi, .inl ⟨rfl, e1⟩, small (by simp), fun p1 hp1 => ?_⟩
 have s1 := ao hp1 (.tup [V.str "NoBox", .bl b1])
 refine ⟨_, rfl, a, c, A.c_NoName, _, b2, rfl, s1 _ _ ha, isi, .inl ⟨rfl, e2⟩, small (by simp), fun p2 hp2 => ?_⟩
 have s2 := ao hp2 (.tup [V.str "NoName", .bl b2])
 refine ⟨_, rfl, a, c, A.c_NoPlace, _, b3, rfl, s2 _ _ (s1 _ _ ha), isi, .inl ⟨rfl, e3⟩, small (by simp), fun p3 hp3 => ?_⟩
 have s3 := ao hp3 (.tup [V.str "NoPlace", .bl b3])
 refine ⟨small (by simp), fun wl hwl => ?_⟩
 have s4 := ao hwl (.lst [V.ref p1, .ref p2, .ref p3])
 have k1 := s4 _ _ (s3 _ _ (s2 _ _ (ai : upd H p1 (.tup [V.str "NoBox", .bl b1]) p1 = _)))
 have k2 := s4 _ _ (s3 _ _ (ai : upd (upd H p1 (.tup [V.str "NoBox", .bl b1])) p2 (.tup [V.str "NoName", .bl b2]) p2 = _))
 have k3 := s4 _ _ (ai : upd (upd (upd H p1 (.tup [V.str "NoBox", .bl b1])) p2 (.tup [V.str "NoName", .bl b2])) p3 (.tup [V.str "NoPlace", .bl b3]) p3 = _)
 have k4 : upd (upd (upd (upd H p1 (.tup [V.str "NoBox", .bl b1])) p2 (.tup [V.str "NoName", .bl b2])) p3 (.tup [V.str "NoPlace", .bl b3])) wl (.lst [V.ref p1, .ref p2, .ref p3]) wl = some (.lst [V.ref p1, .ref p2, .ref p3]) := ai
 have s04 := s1.trans (s2.trans (s3.trans s4))
 clear s1 s2 s3 s4
 generalize upd (upd (upd (upd H p1 (.tup [V.str "NoBox", .bl b1])) p2 (.tup [V.str "NoName", .bl b2])) p3 (.tup [V.str "NoPlace", .bl b3])) wl (.lst [V.ref p1, .ref p2, .ref p3]) = H4 at k1 k2 k3 k4 s04 ⊢
 refine j1 _ _ ?_
 refine aU fun N2 j2 => ?_
 refine ⟨_, rfl, wl, rfl, ⟨_, .of k4⟩, fun i m acc H' => m = 3 - i ∧ i ≤ 3 ∧ H' = H4 ∧ acc = ((([(("NoBox" : Str), b1), ("NoName", b2), ("NoPlace", b3)].take i).filter (·.2)).map (·.1)).map V.str, ⟨3, rfl, by decide, rfl, rfl⟩, fun i m acc H' z => by obtain ⟨_, _, rfl, _⟩ := z; exact s04 _ _ hx, fun i m acc H' z => ?_⟩
 obtain ⟨rfl, hi, rfl, rfl⟩ := z
 refine ⟨?_, ?_⟩
 ·refine Nat.lt_of_le_of_lt (m := 3) ?_ (by decide)
  rw [List.length_map, List.length_map]
  exact Nat.le_trans (List.length_filter_le _ _) (by rw [List.length_take]; exact Nat.min_le_right _ _)
 rcases Nat.lt_or_ge i 3 with h3 | h3
 ·obtain ⟨p, nm, b, g1, g2, g3⟩ : ∃ p nm b, [V.ref p1, .ref p2, .ref p3][i]? = some (.ref p) ∧ H' p = some (.tup [V.str nm, .bl b]) ∧ [(("NoBox" : Str), b1), ("NoName", b2), ("NoPlace", b3)][i]? = some (nm, b) := by
   match i, h3 with
   | 0, _ => exact ⟨p1, _, _, rfl, k1, rfl⟩
   | 1, _ => exact ⟨p2, _, _, rfl, k2, rfl⟩
   | 2, _ => exact ⟨p3, _, _, rfl, k3, rfl⟩
  refine .inr ⟨⟨_, _, .of k4, g1⟩, fun y H3 hy => ?_⟩
  obtain ⟨rfl, hy⟩ := hy
  have hy' := hy _ (.of k4)
  rw [g1] at hy'
  cases hy'
  refine ⟨s04 _ _ hx, p, _, rfl, .of g2, rfl, _, _, rfl, _, _, rfl, rfl, FU _ _ _ _ _ _, _, rfl, _, rfl, ?_⟩
  have ef : ([(("NoBox" : Str), b1), ("NoName", b2), ("NoPlace", b3)].take (i + 1)).filter (·.2) = ([(("NoBox" : Str), b1), ("NoName", b2), ("NoPlace", b3)].take i).filter (·.2) ++ (if b = true then [(nm, b)] else []) := by
   rw [List.take_add_one, g3, List.filter_append]
   congr 1
   cases b <;> rfl
  cases b with
  | true => exact bd ⟨_, rfl, 3 - (i + 1), by omega, rfl, by omega, rfl, by rw [ef, List.map_append, List.map_append]; rfl⟩
  | false => exact bH ⟨3 - (i + 1), by omega, rfl, by omega, rfl, by rw [ef]; simp⟩
 ·have e3' : i = 3 := by omega
  subst e3'
  refine .inl ⟨⟨_, .of k4, by simp⟩, fun tl htl => ?_⟩
  have el : ((([(("NoBox" : Str), b1), ("NoName", b2), ("NoPlace", b3)].take 3).filter (·.2)).map (·.1)).map V.str = [V.str xw] := by
   rw [show [(("NoBox" : Str), b1), ("NoName", b2), ("NoPlace", b3)].take 3 = [(("NoBox" : Str), b1), ("NoName", b2), ("NoPlace", b3)] from rfl, e6]; rfl
  rw [el]
  have s5 := ao htl (.lst [V.str xw])
  have e5' : upd H' tl (.lst [V.str xw]) tl = some (.lst [V.str xw]) := ai
  have s05 := s04.trans s5
  generalize upd H' tl (.lst [V.str xw]) = H5 at s5 e5' s05 ⊢
  refine j2 _ _ ?_
  refine aU fun N3 j3 => ?_
  refine ⟨_, rfl, small (by simp), fun q1 hq1 => ?_⟩
  have s6 := ao hq1 (.tup ([A.c_NoShare, A.c_NoText, A.c_NoRule, A.c_NoPage, A.c_NoChange, A.c_NoUndo, A.c_NoRow].map V.ref))
  refine ⟨a, c, q1, [A.c_NoShare, A.c_NoText, A.c_NoRule, A.c_NoPage, A.c_NoChange, A.c_NoUndo, A.c_NoRow], false, rfl, s6 _ _ (s05 _ _ ha), ai, isi, e4, _, rfl, bH ?_⟩
  refine j3 _ _ ?_
  refine aU fun N4 j4 => ?_
  have s06 := s05.trans s6
  have e6' := s6 _ _ e5'
  refine ⟨_, rfl, tl, _, rfl, .inl (.of e6'), rfl, _, rfl, aP (show (!decide (V.int (([V.str xw].length : Nat) : Int) = V.int 1)) = false from rfl) ?_⟩
  refine ⟨_, rfl, a, c, A.c_NoBox, _, true, rfl, s06 _ _ ha, isi, .inr ⟨_, rfl, e5⟩, _, rfl, bH ?_⟩
  refine j4 _ _ ?_
  exact ⟨_, rfl, tl, _, _, _, rfl, rfl, .of e6', rfl, q _ s06⟩
end
inductive Out where
 | word (x : Str) : Out
 | doc (r : Tr) : Out
noncomputable def hV (z : Str) (t : Tr) : Option Tr := (aQ 8 t).find? fun u => decide (ah u = z)
noncomputable def hG (wd z : Str) (th pl t : Tr) : Out := match hV z t with
 | none => .word "NoName"
 | some u => if wd = "gone" ∧ ah t = z then .word "NoPlace" else if wd = "kid" ∧ ((br.any fun y => y == kindOf u) = true ∨ plc pl (aj u).length = none) then .word "NoPlace" else if wd = "text" ∧ kindOf u ≠ "words" then .word "NoBox" else
  match edL z (hOf wd th pl) 8 t with
  | [r] => if bN r = true then .doc r else .word "NoBox"
  | _ => .word "NoBox"
noncomputable def gOf (wd : Str) (th pl u : Tr) : List Tr := if wd = "gone" then [] else if wd = "kid" then [rO th pl u] else if wd = "text" then [dB th u] else [dE th u]
theorem qq {z : Str} {g g' : Tr → List Tr} (hg : ∀ u, aT u = true → g u = g' u) : ∀ {f : Nat} {t : Tr}, cf f t = true → bM z g f t = bM z g' f t
 | 0, _, h => by cases h
 | f + 1, t, h => by
  obtain ⟨al, fk⟩ := aV h
  unfold bM
  rw [hg t al, List.flatMap_def, List.flatMap_def, List.map_congr_left fun k hk => qq hg (fk k hk)]
theorem II {wd z : Str} {th pl t : Tr} (h : bN t = true) : edL z (hOf wd th pl) 8 t = bM z (gOf wd th pl) 8 t := by
 obtain ⟨f8, _, nd⟩ := dG h
 rw [An f8 nd]
 refine qq (fun u al => ?_) f8
 unfold hOf gOf
 split
 ·rfl
 ·split
  ·rfl
  ·rw [ji al]
theorem wV {z : Str} : ∀ {f : Nat} {t : Tr} {p : List Tr} {u : Tr}, cf f t = true → WayTo z t p → p.getLast? = some u → ah u = z ∧ u ∈ aQ f t
 | 0, _, _, _, h, _, _ => by cases h
 | f + 1, t, p, u, h, w, hu => by
  cases w with
  | here e => cases hu; exact ⟨e, List.mem_cons_self ..⟩
  | @down _ b r hb k =>
   rw [List.getLast?_cons_cons] at hu
   obtain ⟨h1, h2⟩ := wV ((aV h).2 b hb) k hu
   exact ⟨h1, List.mem_cons_of_mem _ (List.mem_flatMap.mpr ⟨b, hb, h2⟩)⟩
theorem Ba {z : Str} {t : Tr} (h : hV z t = none) : z ∉ (aQ 8 t).map ah := fun hz => by
 obtain ⟨u, hu, e⟩ := List.mem_map.mp hz
 have := List.find?_eq_none.mp h u hu
 exact this (decide_eq_true e)
theorem oX {z : Str} {t u : Tr} (h : hV z t = some u) : u ∈ aQ 8 t ∧ ah u = z := ⟨List.mem_of_find?_eq_some h, by have := List.find?_some (p := fun u => decide (ah u = z)) h; exact of_decide_eq_true this⟩
theorem BP {z : Str} {t u v : Tr} {p : List Tr} (hd : bN t = true) (h : hV z t = some u) (w : WayTo z t p) (hv : p.getLast? = some v) : v = u := by
 obtain ⟨f8, _, nd⟩ := dG hd
 obtain ⟨h1, h2⟩ := wV f8 w hv
 obtain ⟨h3, h4⟩ := oX h
 exact uU nd h2 h3 (h1.trans h4.symm)
theorem AK {z : Str} {t : Tr} (h : z ∉ (aQ 8 t).map ah) : hV z t = none := List.find?_eq_none.mpr fun u hu e => h (List.mem_map.mpr ⟨u, hu, of_decide_eq_true e⟩)
theorem oh {z : Str} {t v : Tr} {p : List Tr} (hd : bN t = true) (w : WayTo z t p) (hv : p.getLast? = some v) : hV z t = some v := by
 cases h : hV z t with
 | none => exact absurd (wc (dG hd).1 w) (Ba h)
 | some u => rw [BP hd h w hv]
theorem ID {wd z : Str} {th pl t : Tr} (h : wd ≠ "gone") : ∃ r, bM z (gOf wd th pl) 8 t = [r] :=
 List.length_eq_one_iff.mp (og (fun u => by unfold gOf; rw [if_neg h]; split; rfl; split <;> rfl) 8 t)
theorem CQ {z : Str} {t : Tr} (h : ah t ≠ z) : ∃ r, bM z (fun _ => []) 8 t = [r] := by
 unfold bM
 rw [if_neg h]
 exact ⟨_, rfl⟩
theorem xt {wd z : Str} {th pl t : Tr} (h : hV z t = none) : hG wd z th pl t = .word "NoName" := by unfold hG; rw [h]
theorem Ay {wd z : Str} {th pl t u r : Tr} (h : hV z t = some u) (h1 : ¬ (wd = "gone" ∧ ah t = z)) (h2 : ¬ (wd = "kid" ∧ ((br.any fun y => y == kindOf u) = true ∨ plc pl (aj u).length = none))) (h3 : ¬ (wd = "text" ∧ kindOf u ≠ "words")) (hr : edL z (hOf wd th pl) 8 t = [r]) :
  hG wd z th pl t = if bN r = true then .doc r else .word "NoBox" := by unfold hG; rw [h]; dsimp only; rw [if_neg h1, if_neg h2, if_neg h3, hr]
section
variable {P : Program} {w : World} {K : PySem.W.Frag} {mg : Str → Option Value} {base : Heap} {A : Adr}
theorem xy (T : Txt K mg A) {c : Addr} {x : Str} (h : sZ A c = some x) : ClsAt K A.c_PaneError A.clsL c := by
 unfold sZ at h
 by_cases h1 : c = A.c_NoBox
 ·rw [h1]; exact T.nb
 rw [if_neg h1] at h
 by_cases h2 : c = A.c_NoName
 ·rw [h2]; exact T.nn
 rw [if_neg h2] at h
 by_cases h3 : c = A.c_NoPlace
 ·rw [h3]; exact T.np
 rw [if_neg h3] at h; cases h
theorem xz : sZ A A.c_NoBox = some ("NoBox" : Str) := if_pos rfl
theorem DO (T : Txt K mg A) : sZ A A.c_NoName = some ("NoName" : Str) := by
 have nd := zk T.cls
 have ne : A.c_NoName ≠ A.c_NoBox := fun e => by simp [e] at nd
 unfold sZ
 rw [if_neg ne, if_pos rfl]
theorem IT (T : Txt K mg A) : sZ A A.c_NoPlace = some ("NoPlace" : Str) := by
 have nd := zk T.cls
 have n1 : A.c_NoPlace ≠ A.c_NoBox := fun e => by simp [e] at nd
 have n2 : A.c_NoPlace ≠ A.c_NoName := fun e => by simp [e] at nd
 unfold sZ
 rw [if_neg n1, if_neg n2, if_pos rfl]
noncomputable def yX : Sp := fun vs H Q _ => ∃ (dv tv pv' : V) (t th pl : Tr) (ea : Addr) (wd z : Str), vs = [dv, .ref ea] ∧ TrAt H t dv ∧ H ea = some (.tup [.str wd, .str z, tv, pv']) ∧ TrAt H th tv ∧ TrAt H pl pv' ∧ wd ∈ (["text", "tags", "kid", "gone"] : List Str) ∧
 (bN t = false → ∀ H', aK H H' → Q (.str "NoBox") H') ∧ (bN t = true → (∀ r, hG wd z th pl t = .doc r → ∀ v H', aK H H' → TrAt H' r v → Q v H') ∧ (∀ x, hG wd z th pl t = .word x → ∀ H', aK H H' → Q (.str x) H'))
seal PE PS PSs L2.PA PT PI PG in
theorem zV (T : Txt K mg A) : FnOk P w K mg base CX0 9 A.yj A.xj nU yX := by
 have G1 := vK (P := P) (w := w) (base := base) T
 have G2 := uQ (P := P) (w := w) (base := base) T
 have G3 := zp (P := P) (w := w) (base := base) T
 have G4 := wz (P := P) (w := w) (base := base) T
 have GW : FnOkH P w K mg base 1 A.rj A.sy jX (mI A) := EQ T
 refine T.dU.F.ok gG (fun vs H Q E h => ?_) (fun cdv B outer s H vs Q E hr h => ?_)
 ·obtain ⟨dv, tv, pv', t, th, pl, ea, wd, z, rfl, _⟩ := h; rfl
 obtain ⟨dv, tv, pv', t, th, pl, ea, wd, z, rfl, ht, ee, hth, hpl, hwd, qb, qd⟩ := h
 refine ⟨_, @ag _ _ _ _ _ (oz (pv 1) (vJ rfl (bZ (aS (i := 2) gG.nd rfl (Or.inl rfl)) (bZ (aS (i := 3) gG.nd rfl (Or.inl rfl)) (bZ (aS (i := 4) gG.nd rfl (Or.inl rfl)) (bZ (aS (i := 5) gG.nd rfl (Or.inl rfl)) mU))))))
  (@av _ _ _ (El (ts := fun a => Ck (lP (spH a (mI A)) [] E0 (gL (oi 6) nk))) (C0 := A.c_PaneError) (i := 6)
   (vt (aE bW (pv 2) ar (aG _)) (mW G1 hr rfl T.ib.m T.ib.F.kp T.ib.b .nil (aa (pv 0) (aa (pv 3) (aa (pv 4) ae))))
   (vt (aE bW (pv 2) ar (aG _)) (mW G2 hr rfl T.ig.m T.ig.F.kp T.ig.b .nil (aa (pv 0) (aa (pv 3) (aa (pv 4) ae))))
   (vt (aE bW (pv 2) ar (aG _)) (mW G3 hr rfl T.kQ.m T.kQ.F.kp T.kQ.b .nil (aa (pv 0) (aa (pv 3) ae)))
   (vt (aE oE (pv 5) cu (aG _)) (mW (dvs := [V.non]) G4 hr rfl T.m_with_kid T.F_with_kid.kp T.bd_with_kid (.cons rfl .nil) (aa (pv 0) (aa (pv 3) (aa (pv 4) ae))))
   (mW G4 hr rfl T.m_with_kid T.F_with_kid.kp T.b_with_kid .nil (aa (pv 0) (aa (pv 3) (aa (pv 4) (aa (pv 5) ae))))))))) rfl rfl rfl rfl T.m_PaneError (uL T.cls).1 (by decide) gG.nd rfl rfl rfl (fun a => @av _ _ _ (aO (Df GW ((hr.mono (by decide)).u _) rfl rfl T.nJ.m T.nJ.F.kp T.nJ.b (aa (pv 6) ae)))))), ?_⟩
 try dsimp only [fH, Cx.nox]
 have hx : ∀ {c : Addr} {x : Str} {H2 : Hp} {D : Ends} {σ : L2.St}, sZ A c = some x → (∀ H', aK H2 H' → Q (.str x) H') → D.rt = Q → (∀ a, (σ.set 6 (some (.ref a)))[6]? = some (some (.ref a))) → ∃ C bm nid, Value.ref c = Value.ref C ∧ W.excIn K C bm nid = true ∧ jv K C A.c_PaneError = true ∧ ∀ a, H2 a = none → Ck (lP (spH a (mI A)) [] E0 (gL (oi 6) nk)) D (σ.set 6 (some (.ref a))) (upd H2 a (oW a C)) := fun {c x H2 D σ} hw q hD hσ => by
  refine ⟨c, _, _, rfl, (xy T hw).exc, (xy T hw).below, fun a na => ⟨_, hσ a, ⟨c, ai⟩, a, c, x, rfl, hw, ai, fun H3 s3 => ?_⟩⟩
  rw [hD]
  exact q _ ((ao na _).trans s3)
 have qn : bN t = true → z ∉ (aQ 8 t).map ah → ∀ H', aK H H' → Q (.str "NoName") H' := fun hd hz => (qd hd).2 _ (xt (AK hz))
 have qe : ∀ {u r : Tr}, bN t = true → hV z t = some u → ¬ (wd = "gone" ∧ ah t = z) → ¬ (wd = "kid" ∧ ((br.any fun y => y == kindOf u) = true ∨ plc pl (aj u).length = none)) → ¬ (wd = "text" ∧ kindOf u ≠ "words") → bM z (gOf wd th pl) 8 t = [r] → (bN r = true → ∀ v H', aK H H' → TrAt H' r v → Q v H') ∧ (bN r = false → ∀ H', aK H H' → Q (.str "NoBox") H') := fun {u r} hd hu h1 h2 h3 er => by
  have e := Ay hu h1 h2 h3 ((II hd).trans er)
  refine ⟨fun hr => (qd hd).1 r (by rw [e, if_pos hr]), fun hr => (qd hd).2 _ (by rw [e, if_neg (by rw [hr]; decide)])⟩
 have g1 : ¬ (("text" : Str) = "gone") := by decide +kernel
 have g2 : ¬ (("tags" : Str) = "gone") := by decide +kernel
 have g3 : ¬ (("kid" : Str) = "gone") := by decide +kernel
 have d1 : ¬ (("kid" : Str) = "tags") := by decide +kernel
 have d2 : ¬ (("kid" : Str) = "text") := by decide +kernel
 have d3 : ¬ (("text" : Str) = "kid") := by decide +kernel
 have d4 : ¬ (("text" : Str) = "tags") := by decide +kernel
 have d5 : ¬ (("tags" : Str) = "kid") := by decide +kernel
 have d6 : ¬ (("tags" : Str) = "text") := by decide +kernel
 have d7 : ¬ (("gone" : Str) = "kid") := by decide +kernel
 have d8 : ¬ (("gone" : Str) = "text") := by decide +kernel
 have d9 : ¬ (("gone" : Str) = "tags") := by decide +kernel
 refine ⟨_, rfl, ea, _, rfl, .of ee, rfl, _, _, rfl, _, _, rfl, _, _, rfl, _, _, rfl, rfl, ?_⟩
 (try dsimp only [bp])
 simp only [List.mem_cons, List.not_mem_nil, or_false] at hwd
 refine ⟨_, rfl, rfl, _, rfl, ?_⟩
 rw [bh]
 rcases hwd with rfl | rfl | rfl | rfl
 ·-- a text
  refine aH (decide_eq_true rfl) ⟨_, rfl, _, rfl, _, rfl, dv, tv, t, th, z, rfl, ht, hth, fun hd H' s' => hx xz (fun H2 s2 => qb hd _ (s'.trans s2)) rfl fun _ => rfl, fun hd hz H' s' => hx (DO T) (fun H2 s2 => qn hd hz _ (s'.trans s2)) rfl fun _ => rfl, fun hd p u hw hu => ?_⟩
  have hh := oh hd hw hu
  refine ⟨fun hk H' s' => hx xz (fun H2 s2 => (qd hd).2 _ ?_ _ (s'.trans s2)) rfl fun _ => rfl, fun hk r er => ?_⟩
  ·unfold hG
   rw [hh]
   dsimp only
   rw [if_neg (fun h => g1 h.1), if_neg (fun h => d3 h.1), if_pos ⟨rfl, hk⟩]
  ·have eg : gOf "text" th pl = fun u => [dB th u] := by funext u; unfold gOf; rw [if_neg g1, if_neg d3, if_pos rfl]
   obtain ⟨q1, q2⟩ := qe hd hh (fun h => g1 h.1) (fun h => d3 h.1) (fun h => h.2 hk) (by rw [eg]; exact er)
   exact ⟨q1, fun hr H' s' => hx xz (fun H2 s2 => q2 hr _ (s'.trans s2)) rfl fun _ => rfl⟩
 ·-- tags
  refine aP (decide_eq_false d6) ⟨_, rfl, rfl, _, rfl, ?_⟩
  rw [bh]
  refine aH (decide_eq_true rfl) ⟨_, rfl, _, rfl, _, rfl, dv, tv, t, th, z, rfl, ht, hth, fun hd H' s' => hx xz (fun H2 s2 => qb hd _ (s'.trans s2)) rfl fun _ => rfl, fun hd hz H' s' => hx (DO T) (fun H2 s2 => qn hd hz _ (s'.trans s2)) rfl fun _ => rfl, fun hd p u hw hu r er => ?_⟩
  have hh := oh hd hw hu
  have eg : gOf "tags" th pl = fun u => [dE th u] := by funext u; unfold gOf; rw [if_neg g2, if_neg d5, if_neg d6]
  obtain ⟨q1, q2⟩ := qe hd hh (fun h => g2 h.1) (fun h => d5 h.1) (fun h => d6 h.1) (by rw [eg]; exact er)
  exact ⟨q1, fun hr H' s' => hx xz (fun H2 s2 => q2 hr _ (s'.trans s2)) rfl fun _ => rfl⟩
 ·-- a box more
  refine aP (decide_eq_false d2) ⟨_, rfl, rfl, _, rfl, ?_⟩
  rw [bh]
  refine aP (decide_eq_false d1) ⟨_, rfl, rfl, _, rfl, ?_⟩
  rw [bh]
  refine aP (decide_eq_false g3) ⟨_, rfl, rfl, _, rfl, ?_⟩
  have eg : gOf "kid" th pl = fun u => [rO th pl u] := by funext u; unfold gOf; rw [if_neg g3, if_pos rfl]
  have body : ∀ {D : Ends} {σ : L2.St}, D.rt = Q → (∀ a, (σ.set 6 (some (.ref a)))[6]? = some (some (.ref a))) → tY A [dv, .str z, tv, pv'] H D.rt (fun cls _ H2 => ∃ C bm nid, cls = Value.ref C ∧ W.excIn K C bm nid = true ∧ jv K C A.c_PaneError = true ∧ ∀ a, H2 a = none → Ck (lP (spH a (mI A)) [] E0 (gL (oi 6) nk)) D (σ.set 6 (some (.ref a))) (upd H2 a (oW a C))) := fun {D σ} hD hσ => by
   refine ⟨dv, tv, pv', t, th, pl, z, rfl, ht, hth, hpl, fun hd H' s' => hx xz (fun H2 s2 => qb hd _ (s'.trans s2)) hD hσ, fun hd hz H' s' => hx (DO T) (fun H2 s2 => qn hd hz _ (s'.trans s2)) hD hσ, fun hd p u hw hu => ?_⟩
   have hh := oh hd hw hu
   refine ⟨fun hk H' s' => hx (IT T) (fun H2 s2 => (qd hd).2 _ ?_ _ (s'.trans s2)) hD hσ, fun hk hp r er => ?_⟩
   ·unfold hG
    rw [hh]
    dsimp only
    rw [if_neg (fun h => g3 h.1), if_pos ⟨rfl, hk⟩]
   ·obtain ⟨q1, q2⟩ := qe hd hh (fun h => g3 h.1) (fun h => h.2.elim (fun h => by rw [hk] at h; cases h) hp) (fun h => d2 h.1) (by rw [eg]; exact er)
    rw [hD]
    exact ⟨q1, fun hr H' s' => hx xz (fun H2 s2 => q2 hr _ (s'.trans s2)) hD hσ⟩
  by_cases hn : pv' = .non
  ·refine aH (decide_eq_true hn) ⟨_, rfl, _, rfl, _, rfl, ?_⟩
   subst hn
   exact body rfl fun _ => rfl
  ·exact aP (decide_eq_false hn) ⟨_, rfl, _, rfl, _, rfl, _, rfl, body rfl fun _ => rfl⟩
 ·-- a box gone
  refine aP (decide_eq_false d8) ⟨_, rfl, rfl, _, rfl, ?_⟩
  rw [bh]
  refine aP (decide_eq_false d9) ⟨_, rfl, rfl, _, rfl, ?_⟩
  rw [bh]
  refine aH (decide_eq_true rfl) ⟨_, rfl, _, rfl, dv, t, z, rfl, ht, fun hd H' s' => hx xz (fun H2 s2 => qb hd _ (s'.trans s2)) rfl fun _ => rfl, fun hd hz H' s' => hx (DO T) (fun H2 s2 => qn hd hz _ (s'.trans s2)) rfl fun _ => rfl, fun hd p hw => ?_⟩
  obtain ⟨f8, _, nd⟩ := dG hd
  obtain ⟨p0, _⟩ := kK f8 hw
  have hu : p.getLast? = some (p.getLast p0) := List.getLast?_eq_some_getLast p0
  have hh := oh hd hw hu
  have hroot := Dn f8 nd hw
  refine ⟨fun h1 H' s' => hx (IT T) (fun H2 s2 => (qd hd).2 _ ?_ _ (s'.trans s2)) rfl fun _ => rfl, fun h1 r er v H' s' tv' => ?_⟩
  ·unfold hG
   rw [hh]
   dsimp only
   rw [if_pos ⟨rfl, hroot.mp h1⟩]
  ·have eg : gOf "gone" th pl = fun _ => [] := by funext u; unfold gOf; rw [if_pos rfl]
   obtain ⟨q1, q2⟩ := qe hd hh (fun h => h1 (hroot.mpr h.2)) (fun h => d7 h.1) (fun h => d8 h.1) (by rw [eg]; exact er)
   exact q1 (Dm hd er) v H' s' tv'
end
inductive PlF : Tr → Prop where
 | non : PlF .non
 | int (i : Int) : PlF (.int i)
 | bl (b : Bool) : PlF (.bl b)
structure ThF (wd : Str) (th : Tr) : Prop where
 text : wd = "text" → MoF th
 tags : wd = "tags" → TgF th ∧ ∀ l, th = .tup l → l.length ≤ 5
 kid : wd = "kid" → Fm th ∧ ∀ F, (aQ F th).length ≤ 3
theorem Jg (wd : Str) (th pl u : Tr) : (gOf wd th pl u).length ≤ 1 := by
 unfold gOf; split; exact Nat.zero_le _; split; exact Nat.le_refl _; split <;> exact Nat.le_refl _
theorem tG {u m : Tr} (b : Bok u) : dB m u = .tup [.str (kindOf u), .str (ah u), .tup ((fM u).map Tr.str), m, .tup (aj u)] := (congrArg (dB m) b.form).trans rfl
theorem uf {u m : Tr} (b : Bok u) : dE m u = .tup [.str (kindOf u), .str (ah u), m, eQ u, .tup (aj u)] := (congrArg (dE m) b.form).trans rfl
theorem DK {x pl u : Tr} (b : Bok u) : aj (rO x pl u) = (aj u).take ((plc pl (aj u).length).getD 0) ++ [x] ++ (aj u).drop ((plc pl (aj u).length).getD 0) := by
 unfold rO
 rw [da b]; rfl
theorem Jy {wd z : Str} {th pl t u : Tr} (hd : bN t = true) (hh : hV z t = some u) (ht : ThF wd th) (hw : wd ∈ (["text", "tags", "kid", "gone"] : List Str)) (hk : wd = "kid" → (br.any fun y => y == kindOf u) = false) : (∀ v ∈ bM z (gOf wd th pl) 8 t, Fm v) ∧ (bM z (gOf wd th pl) 8 t).length ≤ 1 := by
 obtain ⟨f8, _, nd⟩ := dG hd
 obtain ⟨hm, hn⟩ := oX hh
 refine Am (Jg wd th pl) f8 fun y hy ey al fk v hv => ?_
 have e : y = u := uU nd hy hm (ey.trans hn.symm)
 subst e
 have b := bf al
 have k12 := b.kids
 have t4 := b.tlen
 unfold gOf at hv
 split at hv
 ·cases hv
 ·rename_i n1
  split at hv
  ·rename_i e
   rw [List.mem_singleton.mp hv]
   unfold rO
   refine rP al (fun h0 => by rw [hk e] at h0; cases h0) (by simp only [List.length_append, List.length_take, List.length_drop, List.length_singleton]; omega) fun x hx => ?_
   rcases List.mem_append.mp hx with hx | hx
   ·rcases List.mem_append.mp hx with hx | hx
    ·exact fk x (List.mem_of_mem_take hx)
    ·rw [List.mem_singleton.mp hx]; exact (ht.kid e).1
   ·exact fk x (List.mem_of_mem_drop hx)
  ·rename_i n2
   split at hv
   ·rename_i e
    rw [List.mem_singleton.mp hv, tG b]
    exact .box b.kind (.txt _) (fun l e => by injection e with e; rw [← e, List.length_map]; omega) (ht.text e) (AI al) (by omega) fk
   ·rename_i n3
    have e : wd = "tags" := by
     simp only [List.mem_cons, List.not_mem_nil, or_false] at hw
     rcases hw with h | h | h | h
     ·exact absurd h n3
     ·exact h
     ·exact absurd h n2
     ·exact absurd h n1
    rw [List.mem_singleton.mp hv, uf b]
    exact .box b.kind (ht.tags e).1 (ht.tags e).2 (Ch b) (AI al) (by omega) fk
theorem wA {F : Nat} {u v : Tr} (h : aj v = aj u) : (aQ F v).length = (aQ F u).length := by
 cases F with
 | zero => rfl
 | succ F => rw [dY, dY, h]
theorem Ih {wd z : Str} {th pl t r : Tr} (hd : bN t = true) (ht : ThF wd th) (er : bM z (gOf wd th pl) 8 t = [r]) (F : Nat) : (aQ F r).length ≤ 43 := by
 refine ED (e := 3) hd (fun u hu hz al F => ?_) er F
 have b := bf al
 unfold gOf
 split
 ·exact Nat.zero_le _
 ·split
  ·rename_i e
   rw [gz]
   cases F with
   | zero => exact Nat.zero_le _
   | succ F =>
    rw [dY, dY, DK b, ql, ql, gz]
    have h3 := (ht.kid e).2 F
    have e2 : cnt F (aj u) = cnt F ((aj u).take ((plc pl (aj u).length).getD 0)) + cnt F ((aj u).drop ((plc pl (aj u).length).getD 0)) := by rw [← ql, List.take_append_drop]
    omega
  ·split
   ·rw [gz, wA (show aj (dB th u) = aj u by rw [tG b]; rfl)]; omega
   ·rw [gz, wA (show aj (dE th u) = aj u by rw [uf b]; rfl)]; omega
theorem fB : ∀ {f : Nat} {t : Tr}, cf f t = true → ∀ u ∈ aQ f t, aT u = true
 | 0, _, h, _, _ => by cases h
 | f + 1, t, h, u, hu => by
  obtain ⟨al, fk⟩ := aV h
  rcases List.mem_cons.mp (show u ∈ t :: (aj t).flatMap (aQ f) from hu) with rfl | hu
  ·exact al
  ·obtain ⟨k, hk, hu⟩ := List.mem_flatMap.mp hu
   exact fB (fk k hk) u hu
section
variable {P : Program} {w : World} {K : PySem.W.Frag} {mg : Str → Option Value} {base : Heap} {A : Adr}
noncomputable abbrev yD : Scope := (match bC kX with | _ :: (.Assign _ (.ListComp _ _ sc _) _) :: _ => sc | _ => ap kX)
theorem xh : Blk (ap kX) uS yD ["_law_box_here"] [3] := ⟨rfl, by decide +kernel, by decide +kernel, by decide +kernel, by decide +kernel⟩
theorem zE : (cR uS ["_law_box_here"] [3]).Nodup := by decide +kernel
noncomputable def IB : Sp := fun vs H Q _ => ∃ (dv tv pv' : V) (t th pl : Tr) (ea : Addr) (wd z : Str), vs = [dv, .ref ea] ∧ TrAt H t dv ∧ bN t = true ∧ H ea = some (.tup [.str wd, .str z, tv, pv']) ∧ TrAt H th tv ∧ TrAt H pl pv' ∧ wd ∈ (["text", "tags", "kid", "gone"] : List Str) ∧ PlF pl ∧ ThF wd th ∧
 (∀ r, hG wd z th pl t = .doc r → ∀ v H', aK H H' → TrAt H' r v → Q v H') ∧ (∀ x, hG wd z th pl t = .word x → ∀ H', aK H H' → Q (.str x) H')
seal PE PS PSs L2.PA PT PI PG in
theorem FP (T : Txt K mg A) : FnOk P w K mg base CX0 9 A.Ae A.Ag qp IB := by
 have lz := zL (P := P) (w := w) (base := base) T 8
 have mj := tH (P := P) (w := w) (base := base) T 8
 have Dh := (Fd (P := P) (w := w) (base := base) T).mono (show 3 ≤ 8 by decide)
 refine T.qa.F.ok fU (fun vs H Q E h => ?_) (fun cdv B outer s H vs Q E hr h => ?_)
 ·obtain ⟨dv, tv, pv', t, th, pl, ea, wd, z, rfl, _⟩ := h; rfl
 obtain ⟨dv, tv, pv', t, th, pl, ea, wd, z, rfl, ht, hd, ee, hth, hpl, hwd, hpf, htf, qd, qw⟩ := h
 refine ⟨_, @ag _ _ _ _ _ (oz (pv 1) (vJ rfl (bZ (aS (i := 2) fU.nd rfl (Or.inl rfl)) (bZ (aS (i := 3) fU.nd rfl (Or.inr rfl)) (bZ (aS (i := 4) fU.nd rfl (Or.inl rfl)) (bZ (aS (i := 5) fU.nd rfl (Or.inl rfl)) mU))))))
  (@ag _ _ _ _ _ (fG (i := 6) xh rfl (lF (az lz hr rfl T.dH.m T.dH.F.kp T.dH.b .nil bg (aa (pv 0) ae))) (fun _ _ _ _ _ => aS (i := 0) zE rfl (.inl rfl)) (fun _ _ _ _ _ => ik (aE bW (aI (uI (K := K) rfl) (pv 0) af (fun _ _ => rfl)) (pv 1) (aG _))) (fun _ _ _ _ _ => pv 0) fU.nd rfl rfl)
  (@ag _ _ _ _ _ (bF (aE (nC (Nat.lt_of_succ_lt (sE hr))) (pv 6) (bb ae) (aG _)) (av (aO ar)) aR)
  (@ag _ _ _ _ _ (bF (PW.pt (jF (aE bW (pv 2) ar (aG _)) (gC (aE bW (aI aY (pv 0) af (fun _ _ => rfl)) (pv 3) (aG _))))) (av (aO ar)) aR)
  (@ag _ _ _ _ _ (bF (aE bW (pv 2) ar (aG _)) (@ag _ _ _ _ _ (aF (i := 7) fU.nd rfl (Or.inl rfl) (zX (bO oE (pv 5) cu (aG _)) (de (cZ (zM (ax bG rfl T.ay aL (aa (pv 5) (aa (bK rfl T.gP lW (v := .ty "bool") rfl) ae)))) (de (ny gn gn af (pv 5) (ax aN rfl T.bR ca (aa (aI aY (aI aW (pv 6) af (fun _ _ => rfl)) af (fun _ _ => rfl)) ae))))))))
  (av (bF (PW.pt (dL (cz (cg (pv 7))) (du (aE lB (aI aY (aI aW (pv 6) af (fun _ _ => rfl)) af (fun _ _ => rfl)) (aM (aa ar (aa ar ae))) rfl)))) (av (aO ar)) aR))) aR)
  (@ag _ _ _ _ _ (aF (i := 8) fU.nd rfl (Or.inl rfl) (aI aW (az mj hr rfl T.eO.m T.eO.F.kp T.eO.b .nil bg (aa (pv 0) (aa (pv 1) ae))) af (fun _ _ => rfl)))
  (@ag _ _ _ _ _ (bF (PW.pt (dL (PW.pt (jF (aE bW (pv 2) ar (aG _)) (gC (aE nO (aI aY (aI aW (pv 6) af (fun _ _ => rfl)) af (fun _ _ => rfl)) ar (aG _))))) (du (cz (cg (az Dh hr rfl T.mJ.m T.mJ.F.kp T.mJ.b .nil bg (aa (pv 8) ae))))))) (av (aO ar)) aR)
  (av (aO (pv 8))))))))), ?_⟩
 obtain ⟨f8, l40, nd⟩ := dG hd
 refine ⟨_, rfl, ea, _, rfl, .of ee, rfl, _, _, rfl, _, _, rfl, _, _, rfl, _, _, rfl, rfl, ?_⟩
 (try dsimp only [bp])
 refine aU fun N1 k1 => ?_
 refine ⟨_, rfl, H, dv, t, rfl, .refl _, ht, f8, by omega, fun al aw H1 hal s1 e1 ka => ?_⟩
 have la := ka.len
 refine ⟨al, rfl, ⟨_, .of e1⟩, nR (xs := aw) (fun i acc H' => bL H (((aQ 8 t).take i).filter fun u => decide (ah u = z)) acc ∧ H' = H1) ⟨.nil, rfl⟩ (fun i acc H' c => .of (by rw [c.2]; exact e1)) (fun i acc H' c => bc ?_) (fun i x acc H' N kk hx c => ?_) fun acc H' c => ?_⟩
 ·have h1 := c.1.len
  have h2 := List.length_filter_le (fun u => decide (ah u = z)) ((aQ 8 t).take i)
  rw [List.length_take] at h2
  omega
 ·obtain ⟨c1, rfl⟩ := c
  obtain ⟨u, hu, ku⟩ := jY ka hx
  have au := fB f8 u (List.mem_of_getElem? hu)
  obtain ⟨a, tg, ks, mv, kv, rfl, ea', _⟩ := cK ku (bf au)
  have et : ((aQ 8 t).take (i + 1)).filter (fun u => decide (ah u = z)) = ((aQ 8 t).take i).filter (fun u => decide (ah u = z)) ++ (if ah u = z then [u] else []) := by
   rw [List.take_add_one, hu, List.filter_append]
   congr 1
   by_cases e : ah u = z <;> simp [e]
  refine ⟨_, rfl, a, _, _, _, rfl, rfl, .of (s1 _ _ ea'), rfl, _, rfl, rfl, _, rfl, ?_⟩
  rw [bh]
  by_cases e : ah u = z
  ·rw [if_pos e] at et
   exact aH (decide_eq_true e) ⟨_, rfl, kk _ _ ⟨by rw [et]; exact c1.append (.one ku), rfl⟩⟩
  ·rw [if_neg e, List.append_nil] at et
   exact aP (decide_eq_false e) (kk _ _ ⟨by rw [et]; exact c1, rfl⟩)
 obtain ⟨c1, rfl⟩ := c
 rw [← la, List.take_length] at c1
 have hfind : hV z t = ((aQ 8 t).filter fun u => decide (ah u = z)).head? := by unfold hV; rw [List.head?_filter]
 generalize (aQ 8 t).filter (fun u => decide (ah u = z)) = fl at c1 hfind
 intro hl hhl
 have s2 := s1.trans (ao hhl (.lst acc))
 have e2 : upd H' hl (.lst acc) hl = some (.lst acc) := ai
 generalize upd H' hl (.lst acc) = H2 at s2 e2 ⊢
 refine k1 _ _ ?_
 refine aU fun N2 k2 => ?_
 refine ⟨_, rfl, small (by simp), fun p hp => ?_⟩
 have s3 := ao hp (.lst [])
 have e3 := s3 _ _ e2
 have p3 : upd H2 p (.lst []) p = some (.lst []) := ai
 have s03 := s2.trans s3
 clear s3 e2 hp
 generalize upd H2 p (.lst []) = H3 at e3 p3 s03 ⊢
 refine ⟨hl, p, acc, rfl, rfl, .of e3, .of p3, _, rfl, ?_⟩
 cases c1 with
 | nil => exact bd (qw _ (xt hfind) _ s03)
 | @cons u hv fl' acc' ku kr =>
 have hh : hV z t = some u := hfind
 have hh2 := oX hh
 have au := fB f8 u hh2.1
 have bu := bf au
 obtain ⟨a, tg, ks, mv, kv, rfl, ea', _, _, ek, ak⟩ := cK ku bu
 have lk := ak.len
 have al0 := fB f8 t (iX f8)
 obtain ⟨a0, tg0, ks0, mv0, kv0, rfl, ea0, _⟩ := cK ht (bf al0)
 refine aP (decide_eq_false fun z => by cases z) ?_
 refine kB (k2 _ _ ?_)
 have d1 : ¬ (("kid" : Str) = "gone") := by decide +kernel
 have d2 : ¬ (("kid" : Str) = "text") := by decide +kernel
 refine aU fun N3 k3 => ?_
 have go3 : ¬ (wd = "gone" ∧ ah t = z) → N3 [some (.ref a0), some (.ref ea), some (.str wd), some (.str z), some tv, some pv', some (.ref hl), none, none] H3 := fun hg => by
  refine k3 _ _ ?_
  have eL : atI (V.ref a :: acc') 0 = some (.ref a) := bY (j := 0) rfl
  refine cb (fun σ' H' => ∃ v7 : Option V, σ' = [some (.ref a0), some (.ref ea), some (.str wd), some (.str z), some tv, some pv', some (.ref hl), v7, none] ∧ aK H3 H' ∧ ¬ (wd = "kid" ∧ ((br.any fun y => y == kindOf u) = true ∨ plc pl (aj u).length = none))) (fun N kN => ?_) ?_
  ·refine ⟨_, rfl, rfl, _, rfl, ?_⟩
   rw [bh]
   by_cases hk : ¬ wd = "kid"
   ·exact aP (decide_eq_false hk) (kN _ _ ⟨none, rfl, .refl _, fun h => hk h.1⟩)
   have hk := Decidable.not_not.mp hk
   refine aH (decide_eq_true hk) ?_
   have bad : ((br.any fun y => y == kindOf u) = true ∨ plc pl (aj u).length = none) → ∀ H', aK H3 H' → Q (.str "NoPlace") H' := fun h H' s' => by
    refine qw _ ?_ _ (s03.trans s')
    unfold hG
    rw [hh]
    dsimp only
    rw [if_neg hg, if_pos ⟨hk, h⟩]
   refine cb (fun σ' H' => ∃ b : Bool, σ' = [some (.ref a0), some (.ref ea), some (.str wd), some (.str z), some tv, some pv', some (.ref hl), some (.bl b), none] ∧ H' = H3 ∧ (b = true ↔ plc pl (aj u).length ≠ none)) (fun N4 kN4 => ?_) ?_
   ·cases hpf with
    | non =>
     cases hpl
     refine ⟨_, rfl, rfl, _, rfl, bd (kN4 _ _ ⟨true, rfl, rfl, ?_⟩)⟩
     exact ⟨fun _ z => (by cases z), fun _ => rfl⟩
    | bl b =>
     cases hpl
     have I : Is K H3 (.bl b) "bool" := .bl b
     refine ⟨_, rfl, rfl, _, rfl, bH ?_⟩
     refine ⟨_, rfl, .bl b, "bool", _, true, rfl, I.ty, I.kit T.kit "bool", _, rfl, _, rfl, bH (kN4 _ _ ⟨false, rfl, rfl, ?_⟩)⟩
     exact ⟨fun z => (by cases z), fun z => absurd rfl z⟩
    | int i =>
     cases hpl
     have I : Is K H3 (.int i) "int" := .int i
     refine ⟨_, rfl, rfl, _, rfl, bH ?_⟩
     refine ⟨_, rfl, .int i, "bool", _, false, rfl, I.ty, I.kit T.kit "bool", _, rfl, _, rfl, bd ?_⟩
     have ep : plc (.int i) (aj u).length = if 0 ≤ i ∧ i ≤ ((aj u).length : Int) then some i.toNat else none := rfl
     refine ⟨_, rfl, _, _, rfl, rfl, _, rfl, ?_⟩
     by_cases i0 : ¬ 0 ≤ i
     ·refine aP (decide_eq_false i0) (kN4 _ _ ⟨false, rfl, rfl, ?_⟩)
      rw [ep, if_neg fun h => i0 h.1]
      exact ⟨fun z => (by cases z), fun z => absurd rfl z⟩
     have i0 := Decidable.not_not.mp i0
     refine aH (decide_eq_true i0) ?_
     refine ⟨_, rfl, hl, _, _, _, rfl, rfl, .of e3, eL, a, _, _, _, rfl, rfl, .of (s03 _ _ ea'), rfl, ks, kv, rfl, .inr (.of (s03 _ _ ek)), _, _, rfl, rfl, kN4 _ _ ⟨decide (i ≤ (kv.length : Int)), rfl, rfl, ?_⟩⟩
     rw [ep, lk]
     by_cases h : i ≤ (kv.length : Int)
     ·rw [decide_eq_true h, if_pos ⟨i0, h⟩]; simp
     ·rw [decide_eq_false h, if_neg fun z => h z.2]; simp
   rintro σ H4 ⟨b, rfl, rfl, hb⟩
   refine ⟨_, rfl, _, rfl, ?_⟩
   cases b with
   | false => exact bd (bad (.inr (Classical.byContradiction fun z => by have := hb.mpr z; cases this)) _ (.refl _))
   | true =>
   refine bH ?_
   refine ⟨_, rfl, hl, _, _, _, rfl, rfl, .of e3, eL, a, _, _, _, rfl, rfl, .of (s03 _ _ ea'), rfl, ?_⟩
   refine ⟨small (by simp), fun p hp => ⟨p, br.map V.str, rfl, .inr (.of ai), rfl, eU _, _, rfl, ?_⟩⟩
   rw [if_neg (show ¬ (false = true) by decide), nz]
   have s5 := ao hp (.tup [V.str "blank", V.str "words"])
   cases hkl : (br.any fun y => y == kindOf u) with
   | true => exact bd (bad (.inl hkl) _ s5)
   | false =>
    exact bH (kN _ _ ⟨_, rfl, s5, fun h => h.2.elim (fun z => by rw [hkl] at z; cases z) (hb.mp rfl)⟩)
  rintro σ H4 ⟨v7, rfl, s4, hkid⟩
  have s04 := s03.trans s4
  have e4 := s4 _ _ e3
  clear s4 e3 p3 s03
  obtain ⟨r, er⟩ : ∃ r, bM z (gOf wd th pl) 8 t = [r] := by
   by_cases h : wd = "gone"
   ·have eg : gOf wd th pl = fun _ => [] := by funext u; unfold gOf; rw [if_pos h]
    rw [eg]
    exact CQ fun e => hg ⟨h, e⟩
   ·exact ID h
  have er' := (II (wd := wd) (z := z) (th := th) (pl := pl) hd).trans er
  refine aU fun N5 k5 => ?_
  refine ⟨_, rfl, _, rfl, H4, .ref a0, tv, pv', t, th, pl, ea, wd, z, rfl, .refl _, ht.same s04, s04 _ _ ee, hth.same s04, hpl.same s04, f8, nd, hwd, fun u' hu' eu' hk' hp' => hkid ⟨hk', .inr ?_⟩, fun l ws H5 hl5 s5 e5 kk5 => ?_⟩
  ·rw [← uU nd hu' hh2.1 (eu'.trans hh2.2.symm)]; exact hp'
  rw [er'] at kk5
  cases kk5 with
  | @cons _ rv _ _ kr kz =>
  cases kz
  have tr := kr.tr s5
  refine ⟨l, _, _, _, rfl, rfl, .of e5, bY (j := 0) rfl, k5 _ _ ?_⟩
  have s05 := s04.trans s5
  have e6 := s5 _ _ e4
  have fmr : Fm r := (Jy (wd := wd) (th := th) (pl := pl) hd hh htf hwd fun h => by
   cases hkl : (br.any fun y => y == kindOf u) with
   | false => rfl
   | true => exact absurd ⟨h, .inl hkl⟩ hkid).1 r (by rw [er]; exact List.mem_singleton.mpr rfl)
  have cnr := Ih (wd := wd) (z := z) (th := th) (pl := pl) hd htf er
  refine aU fun N6 k6 => ?_
  have gd : ¬ (wd = "text" ∧ kindOf u ≠ "words") → IR (tB (lP Dg [] E0 (gL (oi 8) nk))) [some (.ref a0), some (.ref ea), some (.str wd), some (.str z), some tv, some pv', some (.ref hl), v7, some rv] H5 fun b H6 => if b = true then Q (.str "NoBox") H6 else N6 [some (.ref a0), some (.ref ea), some (.str wd), some (.str z), some tv, some pv', some (.ref hl), v7, some rv] H6 := fun h3 => by
   refine ⟨_, rfl, rv, r, rfl, tr, fmr, fun F => Nat.le_trans (cnr F) (by decide), fun H6 s6 => ⟨_, rfl, ?_⟩⟩
   have e := Ay (r := r) hh hg hkid h3 er'
   cases hdr : bN r with
   | true =>
    rw [if_pos hdr] at e
    exact bH (k6 _ _ ⟨_, rfl, qd r e rv _ (s05.trans s6) (tr.same s6)⟩)
   | false =>
    rw [if_neg (by rw [hdr]; decide)] at e
    exact bd (qw _ e _ (s05.trans s6))
  refine ⟨_, rfl, rfl, _, rfl, ?_⟩
  rw [bh]
  by_cases hwt : ¬ wd = "text"
  ·exact aP (decide_eq_false hwt) (bH (gd fun h => hwt h.1))
  have hwt := Decidable.not_not.mp hwt
  refine aH (decide_eq_true hwt) ⟨_, rfl, hl, _, _, _, rfl, rfl, .of e6, eL, a, _, _, _, rfl, rfl, .of (s05 _ _ ea'), rfl, rfl, _, rfl, ?_⟩
  by_cases hkw : ¬ kindOf u = "words"
  ·refine aH (by rw [bh, decide_eq_false hkw]; rfl) (bd (qw _ ?_ _ s05))
   unfold hG
   rw [hh]
   dsimp only
   rw [if_neg hg, if_neg hkid, if_pos ⟨hwt, hkw⟩]
  have hkw := Decidable.not_not.mp hkw
  exact aP (by rw [bh, decide_eq_true hkw]; rfl) (gd fun h => h.2 hkw)
 refine ⟨_, rfl, rfl, _, rfl, ?_⟩
 rw [bh]
 by_cases hg : ¬ wd = "gone"
 ·exact aP (decide_eq_false hg) (go3 fun h => hg h.1)
 have hg := Decidable.not_not.mp hg
 refine aH (decide_eq_true hg) ⟨_, rfl, a0, _, _, _, rfl, rfl, .of (s03 _ _ ea0), rfl, _, rfl, rfl, _, rfl, ?_⟩
 rw [bh]
 by_cases hz : ¬ ah t = z
 ·exact aP (decide_eq_false hz) (go3 fun h => hz h.2)
 have hz := Decidable.not_not.mp hz
 refine aH (decide_eq_true hz) ?_
 refine qw _ ?_ _ s03
 unfold hG
 rw [hh]
 dsimp only
 rw [if_pos ⟨hg, hz⟩]
end
open PySem L2 PyProof.Rows
noncomputable def Hd (N : Addr → Bool) (H : Hp) : Hp := fun b => if N b = true then none else H b
theorem Hd.get {N : Addr → Bool} {H : Hp} {b : Addr} {o : HO} (h : Hd N H b = some o) : H b = some o ∧ N b = false := by
 unfold Hd at h
 split at h
 ·cases h
 ·rename_i c; exact ⟨h, by simpa using c⟩
noncomputable def Al (N : Addr → Bool) (H : Hp) : Prop := ∀ b, N b = true → H b ≠ none
structure Gr (N : Addr → Bool) (H H' : Hp) : Prop where
 same : aK (Hd N H) (Hd N H')
 keep : ∀ b, N b = true → H' b = H b
section
variable {N : Addr → Bool} {H H' H2 B : Hp}
theorem Gr.refl (H : Hp) : Gr N H H := ⟨.refl _, fun _ _ => rfl⟩
theorem Gr.trans (a : Gr N H H') (b : Gr N H' H2) : Gr N H H2 := ⟨a.same.trans b.same, fun c h => (b.keep c h).trans (a.keep c h)⟩
theorem Gr.al (a : Gr N H H') (h : Al N H) : Al N H' := fun b hb => by rw [a.keep b hb]; exact h b hb
theorem Gr.new {p : Addr} (h : Al N H) (hp : H p = none) (o : HO) : Gr N H (upd H p o) := ⟨fun b u e => by
  obtain ⟨e1, e2⟩ := Hd.get e
  unfold Hd
  rw [if_neg (by rw [e2]; decide), aD (aX e1 hp)]
  exact e1, fun b hb => aD fun z => h b hb (z ▸ hp)⟩
theorem Hd.new {p : Addr} (h : Al N H) (hp : H p = none) (o : HO) : Hd N (upd H p o) p = some o := by
 unfold Hd
 rw [if_neg fun z => h p z hp, ai]
noncomputable def Yl (N : Addr → Bool) (B : Hp) (te : TE) (σ : L2.St) (t : Tr) : Prop := ∀ H, aK B (Hd N H) → Al N H → ∀ Q : VK, (∀ v H', Gr N H H' → TrAt (Hd N H') t v → Q v H') → te σ H Q
noncomputable def Ya (N : Addr → Bool) (B : Hp) (ta : TA) (σ : L2.St) (ts : List Tr) : Prop := ∀ H, aK B (Hd N H) → Al N H → ∀ Q : List V → Hp → Prop, (∀ vs H', Gr N H H' → bL (Hd N H') ts vs → Q vs H') → ta σ H Q
variable {σ : L2.St} {te tf : TE} {ta : TA} {t : Tr} {ts l l2 : List Tr} {K : PySem.W.Frag}
theorem bi (x : Str) (h : x.length ≤ 100000 := by decide +kernel) : Yl N B (tC (.str x)) σ (.str x) := fun H s al Q k => k _ H (.refl _) (.str x h)
theorem gO : Yl N B (tC .non) σ .non := fun H s al Q k => k _ H (.refl _) .non
theorem pL (i : Int) : Yl N B (tC (.int i)) σ (.int i) := fun H s al Q k => k _ H (.refl _) (.int i)
theorem gr {i : Nat} {v : V} (e : σ[i]? = some (some v)) (h : TrAt B t v) : Yl N B (oi i) σ t := fun H s al Q k => ⟨v, e, k v H (.refl _) (h.same s)⟩
theorem aZ : Ya N B nk σ [] := fun H s al Q k => k [] H (.refl _) .nil
theorem aq (h : Yl N B te σ t) (k : Ya N B ta σ ts) : Ya N B (gL te ta) σ (t :: ts) := fun H s al Q q => h H s al _ fun v H1 g1 t1 => k H1 (s.trans g1.same) (g1.al al) _ fun vs H2 g2 t2 => q (v :: vs) H2 (g1.trans g2) (.cons (t1.same g2.same) t2)
theorem bq (h : Ya N B ta σ ts) (hn : ts.length ≤ 1000 := by simp) : Yl N B (Im ta) σ (.tup ts) := fun H s al Q q => h H s al _ fun vs H1 g1 t1 =>
 ⟨by rw [← t1.len]; exact small hn, fun p hp => q _ _ (g1.trans (.new (g1.al al) hp _)) (TrAt.tup' (Hd.new (g1.al al) hp _) (bL.same (Gr.new (g1.al al) hp _).same t1))⟩
theorem wo (h : Ya N B ta σ ts) (hn : ts.length ≤ 1000 := by simp) : Yl N B (Ip ta) σ (.lst ts) := fun H s al Q q => h H s al _ fun vs H1 g1 t1 =>
 ⟨by rw [← t1.len]; exact small hn, fun p hp => q _ _ (g1.trans (.new (g1.al al) hp _)) (TrAt.lst' (Hd.new (g1.al al) hp _) (bL.same (Gr.new (g1.al al) hp _).same t1))⟩
theorem FE (z : Str) (k : Int) (h0 : 0 ≤ k ∧ k ≤ 100 ∧ z.length ≤ 10 ∧ (ki z k.toNat).length ≤ 100000 := by decide +kernel) : Yl N B (tOp (fun x y H Q => ∃ (z : Str) (k : Int), x = .str z ∧ y = .int k ∧ 0 ≤ k ∧ k ≤ 100 ∧ z.length ≤ 10 ∧ Q (.str (ki z k.toNat)) H) (tC (.str z)) (tC (.int k))) σ (.str (ki z k.toNat)) :=
 fun H s al Q q => ⟨z, k, rfl, rfl, h0.1, h0.2.1, h0.2.2.1, q _ H (.refl _) (.str _ h0.2.2.2)⟩
end
section
variable {N : Addr → Bool} {B : Hp} {σ : L2.St} {te tf : TE} {a b : Str}
theorem jp (h : Yl N B te σ (.str a)) (k : Yl N B tf σ (.str b)) (hl : (a ++ b).length ≤ 100000) (hz : a.length + b.length ≤ 1000) : Yl N B (tOp (fun x y H Q => ∃ i j, x = .str i ∧ y = .str j ∧ i.length + j.length ≤ sizeLine ∧ Q (.str (i ++ j)) H) te tf) σ (.str (a ++ b)) := fun H s al Q q => h H s al _ fun v H1 g1 t1 => k H1 (s.trans g1.same) (g1.al al) _ fun w H2 g2 t2 => by
 cases t1
 cases t2
 exact ⟨a, b, rfl, rfl, small hz, q _ _ (g1.trans g2) (.str _ hl)⟩
theorem vH {i : Nat} {n : Int} (e : σ[i]? = some (some (.int n))) (hl : n.natAbs.log2 < 1920) (hz : (toString n : Str).length ≤ 100000) : Yl N B (tCB (fun xs H Q => ∃ i, xs = [V.int i] ∧ i.natAbs.log2 < 1920 ∧ Q (V.str (toString i : Str)) H) (gL (oi i) nk)) σ (.str (toString n : Str)) := fun H s al Q q => ⟨_, e, n, rfl, hl, q _ H (.refl _) (.str _ hz)⟩
end
theorem Il : ∀ k : Fin 1000, (toString (k.val : Int) : Str).length ≤ 3 ∧ (k.val : Int).natAbs.log2 < 1920 := by decide +kernel
noncomputable def cj (kd x : Str) (tg : List Tr) (m : Tr) : Tr := .tup [.str kd, .str x, .tup tg, m, .tup []]
noncomputable def BS (x xa xb xc xd y : Str) : List Tr := [cj "blank" x [.str "t"] .non, .tup [.str "row", .str x, .tup [], .non, .tup [cj "words" xa [] (.str "Hi you"), cj "blank" xb [] .non]], .tup [.str "pile", .str x, .tup [], .non, .tup [.tup [.str "column", .str xc, .tup [], .non, .tup [cj "flow" xd [] .non]]]],
 cj "blank" y [] .non, .non, cj "grid" x [] (.int 3), cj "grid" x [] (.int 0), .tup [.str "row", .str x, .tup [], .non]]
theorem mG {t : Tr} (h : aj t = []) (F : Nat) : (aQ F t).length ≤ 1 := by
 cases F with
 | zero => exact Nat.zero_le _
 | succ F => rw [dY, h]; exact Nat.le_refl _
theorem jH {kd x : Str} {tg : List Str} {m : Tr} (hk : kd ∈ dm) (ht : tg.length ≤ 5) (hm : MoF m) : Fm (cj kd x (tg.map Tr.str) m) := .box hk (.txt tg) (fun l e => by injection e with e; rw [← e, List.length_map]; exact ht) hm (fun _ => rfl) (Nat.zero_le _) fun _ z => nomatch z
theorem HF (x xa xb xc xd y : Str) : ∀ t ∈ BS x xa xb xc xd y, Fm t ∧ ∀ F, (aQ F t).length ≤ 3 := by
 have kb : ("blank" : Str) ∈ dm := by decide +kernel
 have kw : ("words" : Str) ∈ dm := by decide +kernel
 have kr : ("row" : Str) ∈ dm := by decide +kernel
 have kp : ("pile" : Str) ∈ dm := by decide +kernel
 have kc : ("column" : Str) ∈ dm := by decide +kernel
 have kf : ("flow" : Str) ∈ dm := by decide +kernel
 have kg : ("grid" : Str) ∈ dm := by decide +kernel
 have nr : ¬ (br.any fun y => y == ("row" : Str)) = true := by decide +kernel
 have np : ¬ (br.any fun y => y == ("pile" : Str)) = true := by decide +kernel
 have nc : ¬ (br.any fun y => y == ("column" : Str)) = true := by decide +kernel
 have one : ∀ {t : Tr}, aj t = [] → ∀ F, (aQ F t).length ≤ 3 := fun h F => Nat.le_trans (mG h F) (by decide)
 have tg0 : ∀ l, Tr.tup [] = .tup l → l.length ≤ 5 := fun l e => by injection e with e; rw [← e]; decide
 intro t ht
 unfold BS at ht
 simp only [List.mem_cons, List.not_mem_nil, or_false] at ht
 rcases ht with rfl | rfl | rfl | rfl | rfl | rfl | rfl | rfl
 ·exact ⟨jH (tg := ["t"]) kb (by decide) .non, one rfl⟩
 ·refine ⟨.box kr (.txt []) tg0 .non (fun z => absurd z nr) (by simp) fun u hu => ?_, fun F => ?_⟩
  ·simp only [List.mem_cons, List.not_mem_nil, or_false] at hu
   rcases hu with rfl | rfl
   ·exact jH (tg := []) kw (by decide) (.str _)
   ·exact jH (tg := []) kb (by decide) .non
  ·cases F with
   | zero => exact Nat.zero_le _
   | succ F =>
    rw [dY]
    show cnt F [cj "words" xa [] (.str "Hi you"), cj "blank" xb [] .non] + 1 ≤ 3
    rw [kG, gz]
    have h1 := mG (t := cj "words" xa [] (.str "Hi you")) rfl F
    have h2 := mG (t := cj "blank" xb [] .non) rfl F
    omega
 ·have hf : Fm (cj "flow" xd [] .non) := jH (tg := []) kf (by decide) .non
  refine ⟨.box kp (.txt []) tg0 .non (fun z => absurd z np) (by simp) fun u hu => ?_, fun F => ?_⟩
  ·rw [List.mem_singleton.mp hu]
   exact .box kc (.txt []) tg0 .non (fun z => absurd z nc) (by simp) fun u hu => by rw [List.mem_singleton.mp hu]; exact hf
  ·cases F with
   | zero => exact Nat.zero_le _
   | succ F =>
    rw [dY]
    show cnt F [.tup [.str "column", .str xc, .tup [], .non, .tup [cj "flow" xd [] .non]]] + 1 ≤ 3
    rw [gz]
    cases F with
    | zero => exact Nat.le_of_ble_eq_true rfl
    | succ F =>
     rw [dY]
     show cnt F [cj "flow" xd [] .non] + 1 + 1 ≤ 3
     rw [gz]
     have h1 := mG (t := cj "flow" xd [] .non) rfl F
     omega
 ·exact ⟨jH (tg := []) kb (by decide) .non, one rfl⟩
 ·exact ⟨.odd rfl, one rfl⟩
 ·exact ⟨jH (tg := []) kg (by decide) (.int _), one rfl⟩
 ·exact ⟨jH (tg := []) kg (by decide) (.int _), one rfl⟩
 ·exact ⟨.odd rfl, one rfl⟩
noncomputable def Dq : List Tr := [.tup [.str "a", .str "b9"], .tup [], .tup [.str "a", .str "a"], .lst [.str "a"], .tup [.str "x", .str "y", .str "z", .str "w"], .tup [.str "A"], .tup [.str "q"], .tup [.str "x", .str "y", .str "z", .str "w", .str "v"]]
theorem HM : ∀ t ∈ Dq, TgF t ∧ ∀ l, t = .tup l → l.length ≤ 5 := by
 intro t ht
 have tx : ∀ (l : List Str), l.length ≤ 5 → TgF (.tup (l.map Tr.str)) ∧ ∀ l', Tr.tup (l.map Tr.str) = .tup l' → l'.length ≤ 5 := fun l h => ⟨.txt l, fun l' e => by injection e with e; rw [← e, List.length_map]; exact h⟩
 unfold Dq at ht
 simp only [List.mem_cons, List.not_mem_nil, or_false] at ht
 rcases ht with rfl | rfl | rfl | rfl | rfl | rfl | rfl | rfl
 ·exact tx ["a", "b9"] (by decide)
 ·exact tx [] (by decide)
 ·exact tx ["a", "a"] (by decide)
 ·exact ⟨.lst _, fun l e => by cases e⟩
 ·exact tx ["x", "y", "z", "w"] (by decide)
 ·exact tx ["A"] (by decide)
 ·exact tx ["q"] (by decide)
 ·exact tx ["x", "y", "z", "w", "v"] (by decide)
theorem TrAt.lstE {H : Hp} {v : V} {l : List Tr} (h : TrAt H (.lst l) v) : ∃ a vs, v = .ref a ∧ H a = some (.lst vs) ∧ bL H l vs := by
 cases h with
 | lst e n k => exact ⟨_, _, rfl, e, F2.of n.symm fun i t v h1 h2 => k i v t h2 h1⟩
theorem vO {H : Hp} {ts : List Tr} {vs : List V} (h : bL H ts vs) {i : Int} (h0 : 0 ≤ i) (h1 : i < ts.length) : ∃ v t, atI vs i = some v ∧ t ∈ ts ∧ TrAt H t v := by
 obtain ⟨k, rfl⟩ := Int.eq_ofNat_of_zero_le h0
 have hk : k < ts.length := by omega
 have hk' : k < vs.length := by rw [← h.len]; exact hk
 exact ⟨vs[k], ts[k], bY (List.getElem?_eq_getElem hk'), List.getElem_mem hk, h.get (List.getElem?_eq_getElem hk) (List.getElem?_eq_getElem hk')⟩
section
variable {P : Program} {w : World} {K : PySem.W.Frag} {mg : Str → Option Value} {base : Heap} {A : Adr}
noncomputable def FO : Sp := fun vs H Q _ => ∃ (st nl : Addr) (k : Int) (ns : List Str), vs = [.ref st, .ref nl, .int k] ∧ St st H ∧ nl ≠ st ∧ H nl = some (.lst (ns.map V.str)) ∧ ns ≠ [] ∧ ns.length ≤ 100 ∧ (∀ x ∈ ns, x.length ≤ 8) ∧ 0 ≤ k ∧ k ≤ 999 ∧
 ∀ (ea : Addr) (H' : Hp) (wd z : Str) (tv pv' : V) (th pl : Tr), Ms st H H' → H' ea = some (.tup [.str wd, .str z, tv, pv']) → TrAt H' th tv → TrAt H' pl pv' → wd ∈ (["text", "tags", "kid", "gone"] : List Str) → PlF pl → ThF wd th → Q (.ref ea) H'
seal PE PS PSs L2.PA PT PI PG in
theorem Fe (T : Txt K mg A) : FnOk P w K mg base CX0 3 A.ya A.xB nA FO := by
 have fv := (za (P := P) (w := w) (base := base) T).mono (show 1 ≤ 2 by decide)
 have qR := AF (P := P) (w := w) (base := base) T
 refine T.nP.F.ok bP (fun vs H Q E h => ?_) (fun cdv B outer s H vs Q E hr h => ?_)
 ·obtain ⟨st, nl, k, ns, rfl, _⟩ := h; rfl
 obtain ⟨st, nl, k, ns, rfl, hst, nn, hnl, n0, n1, n8, k0, k1, q⟩ := h
 refine ⟨_, @ag _ _ _ _ _ (aF (i := 3) bP.nd rfl (Or.inl rfl) (az fv hr rfl T.bJ.m T.bJ.F.kp T.bJ.b .nil bg (aa (pv 0) (aa (pv 2) ae))))
  (@ag _ _ _ _ _ (aF (i := 4) bP.nd rfl (Or.inl rfl) (aI aW (bb (aa (aI aW (pv 1) (aJ bI (aJ cM (pv 3) af) (ax aN rfl T.bR ca (aa (pv 1) ae))) (fun _ _ => rfl)) (aa ar ae))) (ck ox rfl T.nF xH (aa (bO bW (aJ bI (aJ cM (pv 3) af) af) af (aG _)) ae)) (fun _ _ => rfl)))
  (@ag _ _ _ _ _ (aF (i := 5) bP.nd rfl (Or.inl rfl) (aI aW (bb (aa ar (aa ar (aa ar (aa ar (aa ar (aa ar (aa ar (aa ar ae))))))))) (aJ bI (pv 3) af) (fun _ _ => rfl)))
  (@ag _ _ _ _ _ (aF (i := 6) bP.nd rfl (Or.inl rfl) (az fv hr rfl T.bJ.m T.bJ.F.kp T.bJ.b .nil bg (aa (pv 0) (aa (pv 3) ae))))
  (@ag _ _ _ _ _ (aF (i := 7) bP.nd rfl (Or.inl rfl) cu)
  (@ag _ _ _ _ _ (bF (aE bW (pv 5) ar (aG _)) (av (aF (i := 7) bP.nd rfl (Or.inl rfl) (aI aW (bb (aa (az qR hr rfl T.gT.m T.gT.F.kp T.gT.b .nil bg (aa (pv 0) (aa (pv 6) ae))) (aa ar (aa ar (aa cu (aa ar (aa (aJ qc ar af) (aa ar (aa (aJ qc ar af) ae))))))))) (aJ bI (pv 6) af) (fun _ _ => rfl)))) aR)
  (@ag _ _ _ _ _ (bF (aE bW (pv 5) ar (aG _)) (@ag _ _ _ _ _ (aF (i := 8) bP.nd rfl (Or.inl rfl) (bb (aa (aM (aa ar (aa ar ae))) (aa (aM ae) (aa (aM (aa ar (aa ar ae))) (aa (bb (aa ar ae)) (aa (aM (aa ar (aa ar (aa ar (aa ar ae))))) (aa (aM (aa ar ae)) (aa (aM (aa ar ae)) (aa (aM (aa ar (aa ar (aa ar (aa ar (aa ar ae)))))) ae))))))))))
  (av (aF (i := 7) bP.nd rfl (Or.inl rfl) (aI aW (pv 8) (aJ bI (pv 6) af) (fun _ _ => rfl))))) aR)
  (@ag _ _ _ _ _ (bF (aE bW (pv 5) ar (aG _)) (@ag _ _ _ _ _ (aF (i := 9) bP.nd rfl (Or.inl rfl) (aJ cG ar (ck gx rfl T.gR kj (aa (pv 2) ae))))
  (@ag _ _ _ _ _ (aF (i := 10) bP.nd rfl (Or.inl rfl) (aM (aa ar (aa (pv 9) (aa (aM (aa ar ae)) (aa cu (aa (aM ae) ae)))))))
  (@ag _ _ _ _ _ (aF (i := 11) bP.nd rfl (Or.inl rfl) (aM (aa ar (aa (pv 9) (aa (aM ae) (aa cu (aa (aM (aa (aM (aa ar (aa (aJ cG (pv 9) ar) (aa (aM ae) (aa ar (aa (aM ae) ae)))))) (aa (aM (aa ar (aa (aJ cG (pv 9) ar) (aa (aM ae) (aa cu (aa (aM ae) ae)))))) ae))) ae)))))))
  (@ag _ _ _ _ _ (aF (i := 12) bP.nd rfl (Or.inl rfl) (aM (aa ar (aa (pv 9) (aa (aM ae) (aa cu (aa (aM (aa (aM (aa ar (aa (aJ cG (pv 9) ar) (aa (aM ae) (aa cu (aa (aM (aa (aM (aa ar (aa (aJ cG (pv 9) ar) (aa (aM ae) (aa cu (aa (aM ae) ae)))))) ae)) ae)))))) ae)) ae)))))))
  (@ag _ _ _ _ _ (aF (i := 13) bP.nd rfl (Or.inl rfl) (aM (aa ar (aa (aI aW (pv 1) (aJ bI (aJ cM (pv 6) af) (ax aN rfl T.bR ca (aa (pv 1) ae))) (fun _ _ => rfl)) (aa (aM ae) (aa cu (aa (aM ae) ae)))))))
  (@ag _ _ _ _ _ (aF (i := 8) bP.nd rfl (Or.inl rfl) (bb (aa (pv 10) (aa (pv 11) (aa (pv 12) (aa (pv 13) (aa cu (aa (aM (aa ar (aa (pv 9) (aa (aM ae) (aa af (aa (aM ae) ae)))))) (aa (aM (aa ar (aa (pv 9) (aa (aM ae) (aa af (aa (aM ae) ae)))))) ae)))))))))
  (@ag _ _ _ _ _ (aF (i := 8) bP.nd rfl (Or.inl rfl) (aJ wb (pv 8) (bb (aa (aM (aa ar (aa (pv 9) (aa (aM ae) (aa cu ae))))) ae))))
  (av (aF (i := 7) bP.nd rfl (Or.inl rfl) (aI aW (pv 8) (aI aW (bb (aa af (aa af (aa af (aa af (aa af (aa af (aa af (aa af (aa af (aa af (aa af (aa af ae))))))))))))) (aJ bI (pv 6) af) (fun _ _ => rfl)) (fun _ _ => rfl))))))))))) aR)
  (@ag _ _ _ _ _ (aF (i := 14) bP.nd rfl (Or.inl rfl) (aI aW (bb (aa cu (aa (aJ bI (aJ cM (pv 6) af) af) (aa (aJ bI (aJ cM (pv 6) af) af) (aa (mP jC af) (aa cu (aa af (aa (aJ bI (aJ cM (pv 6) af) af) (aa gq ae))))))))) (aJ bI (aJ cM (pv 6) af) af) (fun _ _ => rfl)))
  (av (aO (aM (aa (pv 5) (aa (pv 4) (aa (pv 7) (aa (pv 14) ae))))))))))))))), ?_⟩
 have lp : 0 < ns.length := List.length_pos_iff.mpr n0
 refine aU fun N1 j1 => ?_
 refine ⟨_, rfl, _, rfl, st, k, rfl, hst, fun p H1 p0 p1 m1 f1 => j1 _ _ ?_⟩
 have hn1 := m1.keep _ _ nn hnl
 (try dsimp only [bp])
 refine aU fun N2 j2 => ?_
 have hp8 := Int.emod_nonneg (p / 8) (show (ns.length : Int) ≠ 0 by omega)
 have hp9 := Int.emod_lt_of_pos (p / 8) (show (0 : Int) < (ns.length : Int) by omega)
 obtain ⟨nm, hnm, hn8⟩ : ∃ nm : Str, atI (ns.map V.str) (p / 8 % ((ns.map V.str).length : Int)) = some (.str nm) ∧ nm ∈ ns := by
  rw [List.length_map]
  obtain ⟨v, h1, h2⟩ := mV (xs := ns.map V.str) hp8 (by rw [List.length_map]; exact hp9)
  obtain ⟨x, hx, rfl⟩ := List.mem_map.mp h2
  exact ⟨x, h1, hx⟩
 have pick2 : ∀ b : Bool, ∃ z : Str, atI [V.str nm, .str "zzz9"] (if b = true then 1 else 0) = some (.str z) := fun b => by
  cases b
  ·exact ⟨nm, rfl⟩
  ·exact ⟨"zzz9", rfl⟩
 obtain ⟨z, hz⟩ := pick2 (decide (V.int (p / 8 % 11) = V.int 10))
 refine ⟨_, rfl, _, rfl, _, _, rfl, rfl, ⟨by decide, by decide⟩, _, rfl, nl, _, rfl, .inl (.of hn1), _, _, rfl, rfl, (by rw [List.length_map]; omega), nl, _, _, _, rfl, rfl, .of hn1, hnm, small (by simp), fun l1 hl1 => ?_⟩
 have m2 := m1.grow (ao hl1 (.lst [V.str nm, .str "zzz9"]))
 have hn2 := ao hl1 (.lst [V.str nm, .str "zzz9"]) _ _ hn1
 refine ⟨_, rfl, _, _, rfl, rfl, ⟨by decide, by decide⟩, _, _, rfl, rfl, (by show (0 : Int) < 11; decide), rfl, .inr ⟨_, rfl, l1, _, _, _, rfl, rfl, .of ai, hz, j2 _ _ ?_⟩⟩
 generalize upd H1 l1 (.lst [V.str nm, .str "zzz9"]) = H2 at m2 hn2 ⊢
 (try dsimp only [bp])
 refine aU fun N3 j3 => ?_
 obtain ⟨wd, hwd, hwm⟩ : ∃ wd : Str, atI ([(("text" : Str)), "tags", "kid", "kid", "gone", "kid", "text", "kid"].map V.str) (p % 8) = some (.str wd) ∧ wd ∈ (["text", "tags", "kid", "gone"] : List Str) := by
  obtain ⟨v, h1, h2⟩ := mV (xs := [(("text" : Str)), "tags", "kid", "kid", "gone", "kid", "text", "kid"].map V.str) (Int.emod_nonneg p (show (8 : Int) ≠ 0 by decide)) (Int.emod_lt_of_pos p (show (0 : Int) < 8 by decide))
  obtain ⟨x, hx, rfl⟩ := List.mem_map.mp h2
  refine ⟨x, h1, ?_⟩
  simp only [List.mem_cons, List.not_mem_nil, or_false] at hx ⊢
  rcases hx with h | h | h | h | h | h | h | h <;> simp [h]
 refine ⟨small (by simp), fun l2 hl2 => ?_⟩
 have m3 := m2.grow (ao hl2 (.lst [V.str "text", .str "tags", .str "kid", .str "kid", .str "gone", .str "kid", .str "text", .str "kid"]))
 have hn3 := ao hl2 (.lst [V.str "text", .str "tags", .str "kid", .str "kid", .str "gone", .str "kid", .str "text", .str "kid"]) _ _ hn2
 refine ⟨_, rfl, _, _, rfl, rfl, (by show (0 : Int) < 8; decide), l2, _, _, _, rfl, rfl, .of ai, hwd, j3 _ _ ?_⟩
 generalize upd H2 l2 (.lst [V.str "text", .str "tags", .str "kid", .str "kid", .str "gone", .str "kid", .str "text", .str "kid"]) = H3 at m3 hn3 ⊢
 (try dsimp only [bp])
 refine aU fun N4 j4 => ?_
 refine ⟨_, rfl, _, rfl, st, p, rfl, m3.st, fun o H4 o0 o1 m4 f4 => j4 _ _ ?_⟩
 have hn4 := m4.keep _ _ nn hn3
 have m04 := m3.trans m4
 clear m1 m2 m3 m4 hn1 hn2 hn3
 (try dsimp only [bp])
 refine aU fun N5 j5 => j5 _ _ ?_
 clear j1 j2 j3 j4 j5
 (try dsimp only [bp])
 have al0 : ∀ {H : Hp}, Al (fun _ => false) H := fun {H} b hb => by cases hb
 refine cb (fun σ' H' => ∃ (tv : V) (th : Tr), σ' = [some (.ref st), some (.ref nl), some (.int k), some (.int p), some (.str z), some (.str wd), some (.int o), some tv, none, none, none, none, none, none, none] ∧ Ms st H H' ∧ H' nl = some (.lst (ns.map V.str)) ∧ TrAt H' th tv ∧ (wd = "text" → MoF th)) (fun N kN => ?_) ?_
 ·refine ⟨_, rfl, rfl, _, rfl, ?_⟩
  rw [bh]
  by_cases hw : ¬ wd = "text"
  ·exact aP (decide_eq_false hw) (kN _ _ ⟨.non, .non, rfl, m04, hn4, .non, fun h => absurd h hw⟩)
  have hw := Decidable.not_not.mp hw
  refine aH (decide_eq_true hw) ?_
  refine ⟨_, rfl, _, rfl, st, o, rfl, m04.st, fun ws H5 m5 wds => ?_⟩
  have m05 := m04.trans m5
  have hn5 := m5.keep _ _ nn hn4
  refine (aq (bi _) (aq (bi _) (aq gO (aq (bi _) (aq (FE _ _) (aq (bi _) (aq (FE _ _) aZ))))))) H5 (.refl (Hd (fun _ => false) H5)) al0 _ fun vs H6 g6 t6 => ?_
  have s6 : aK H5 H6 := g6.same
  have t6' : bL H6 _ vs := t6
  have tj : TrAt H6 (.str (J ws)) (.str (J ws)) := .str _ (by have := CO wds; omega)
  have t7 := F2.cons tj t6'
  have l7 := t7.len
  refine ⟨by rw [← l7]; exact small (by simp), fun l hl => ?_⟩
  have s7 := ao hl (.lst (.str (J ws) :: vs))
  obtain ⟨v, t, hv, ht, tt⟩ := vO t7 (Int.emod_nonneg o (show (8 : Int) ≠ 0 by decide)) (by have := Int.emod_lt_of_pos o (show (0 : Int) < 8 by decide); simp only [List.length_cons, List.length_nil]; omega)
  refine ⟨_, rfl, _, _, rfl, rfl, (by show (0 : Int) < 8; decide), l, _, _, v, rfl, rfl, .of ai, hv, kN _ _ ⟨v, t, rfl, (m05.grow s6).grow s7, s7 _ _ (s6 _ _ hn5), tt.same s7, fun _ => ?_⟩⟩
  simp only [List.mem_cons, List.not_mem_nil, or_false] at ht
  rcases ht with rfl | rfl | rfl | rfl | rfl | rfl | rfl | rfl
  all_goals first | exact .str _ | exact .non
 rintro σ H5 ⟨tv, th, rfl, m5, hn5, tt5, p5⟩
 clear m04 hn4 f4 f1
 refine cb (fun σ' H' => ∃ (tv : V) (th : Tr) (v8 : Option V), σ' = [some (.ref st), some (.ref nl), some (.int k), some (.int p), some (.str z), some (.str wd), some (.int o), some tv, v8, none, none, none, none, none, none] ∧ Ms st H H' ∧ H' nl = some (.lst (ns.map V.str)) ∧ TrAt H' th tv ∧ (wd = "text" → MoF th) ∧ (wd = "tags" → TgF th ∧ ∀ l, th = .tup l → l.length ≤ 5)) (fun N kN => ?_) ?_
 ·refine ⟨_, rfl, rfl, _, rfl, ?_⟩
  rw [bh]
  by_cases hw : ¬ wd = "tags"
  ·exact aP (decide_eq_false hw) (kN _ _ ⟨tv, th, none, rfl, m5, hn5, tt5, p5, fun h => absurd h hw⟩)
  have hw := Decidable.not_not.mp hw
  have nt : ¬ (("tags" : Str) = "text") := by decide +kernel
  refine aH (decide_eq_true hw) ?_
  refine aU fun N6 j6 => ?_
  refine (wo (ts := Dq) (aq (bq (aq (bi _) (aq (bi _) aZ))) (aq (bq aZ) (aq (bq (aq (bi _) (aq (bi _) aZ))) (aq (wo (aq (bi _) aZ)) (aq (bq (aq (bi _) (aq (bi _) (aq (bi _) (aq (bi _) aZ))))) (aq (bq (aq (bi _) aZ)) (aq (bq (aq (bi _) aZ)) (aq (bq (aq (bi _) (aq (bi _) (aq (bi _) (aq (bi _) (aq (bi _) aZ)))))) aZ)))))))) (by decide)) H5 (.refl (Hd (fun _ => false) H5)) al0 _ fun v H6 g6 t6 => j6 _ _ ?_
  have s6 : aK H5 H6 := g6.same
  obtain ⟨l, vs, rfl, el, kl⟩ := TrAt.lstE (H := H6) t6
  obtain ⟨v, t, hv, ht, tt⟩ := vO kl (Int.emod_nonneg o (show (8 : Int) ≠ 0 by decide)) (by have := Int.emod_lt_of_pos o (show (0 : Int) < 8 by decide); exact this)
  (try dsimp only [bp])
  refine ⟨_, rfl, _, rfl, _, _, rfl, rfl, (by show (0 : Int) < 8; decide), l, _, _, v, rfl, rfl, .of el, hv, kN _ _ ⟨v, t, _, rfl, m5.grow s6, s6 _ _ hn5, tt, fun h => absurd (hw.symm.trans h) nt, fun _ => HM t ht⟩⟩
 clear tt5 p5 tv th m5 hn5 H5
 rintro σ H5 ⟨tv, th, v8, rfl, m5, hn5, tt5, p5, p6⟩
 refine cb (fun σ' H' => ∃ (tv : V) (th : Tr) (v8 v9 v10 v11 v12 v13 : Option V), σ' = [some (.ref st), some (.ref nl), some (.int k), some (.int p), some (.str z), some (.str wd), some (.int o), some tv, v8, v9, v10, v11, v12, v13, none] ∧ Ms st H H' ∧ TrAt H' th tv ∧ ThF wd th) (fun N kN => ?_) ?_
 ·refine ⟨_, rfl, rfl, _, rfl, ?_⟩
  rw [bh]
  by_cases hw : ¬ wd = "kid"
  ·exact aP (decide_eq_false hw) (kN _ _ ⟨tv, th, v8, none, none, none, none, none, rfl, m5, tt5, ⟨p5, p6, fun h => absurd h hw⟩⟩)
  have hw := Decidable.not_not.mp hw
  have nt : ¬ (("kid" : Str) = "text") := by decide +kernel
  have ng : ¬ (("kid" : Str) = "tags") := by decide +kernel
  refine aH (decide_eq_true hw) ?_
  obtain ⟨dk1, dk2⟩ := Il ⟨k.toNat, by omega⟩
  rw [show (((⟨k.toNat, by omega⟩ : Fin 1000).val : Nat) : Int) = k by show ((k.toNat : Nat) : Int) = k; omega] at dk1 dk2
  have on : ("n" : Str).length = 1 := by decide +kernel
  have oa : ("a" : Str).length = 1 := by decide +kernel
  have ob : ("b" : Str).length = 1 := by decide +kernel
  have oc : ("c" : Str).length = 1 := by decide +kernel
  have od : ("d" : Str).length = 1 := by decide +kernel
  have lx : (("n" : Str) ++ (toString k : Str)).length ≤ 4 := by rw [cF]; omega
  refine aU fun N1 j1 => ?_
  refine (jp (a := "n") (b := (toString k : Str)) (bi _) (vH rfl dk2 (by omega)) (by omega) (by omega)) H5 (.refl (Hd (fun _ => false) H5)) al0 _ fun v H6 g6 t6 => j1 _ _ ?_
  cases t6 with
  | str _ hx =>
  generalize (("n" : Str) ++ (toString k : Str)) = x at lx hx
  have s6 : aK H5 H6 := g6.same
  (try dsimp only [bp])
  clear j1 N1
  have la : (x ++ ("a" : Str)).length ≤ 5 := by rw [cF]; omega
  have lb : (x ++ ("b" : Str)).length ≤ 5 := by rw [cF]; omega
  have lc : (x ++ ("c" : Str)).length ≤ 5 := by rw [cF]; omega
  have ld : (x ++ ("d" : Str)).length ≤ 5 := by rw [cF]; omega
  refine aU fun N1 j1 => ?_
  refine (bq (ts := [.str "blank", .str x, .tup [.str "t"], .non, .tup []]) (aq (bi _) (aq (gr rfl (.str _ hx)) (aq (bq (aq (bi _) aZ)) (aq gO (aq (bq aZ) aZ)))))) H6 (.refl (Hd (fun _ => false) H6)) al0 _ fun v10 H7 g7 t7 => j1 _ _ ?_
  have s7 : aK H6 H7 := g7.same
  have t10 : TrAt H7 (cj "blank" x [.str "t"] .non) v10 := t7
  clear j1 N1 t7
  (try dsimp only [bp])
  refine aU fun N1 j1 => ?_
  refine (bq (ts := [.str "row", .str x, .tup [], .non, .tup [cj "words" (x ++ ("a" : Str)) [] (.str "Hi you"), cj "blank" (x ++ ("b" : Str)) [] .non]]) (aq (bi _) (aq (gr rfl (.str _ hx)) (aq (bq aZ) (aq gO (aq (bq (aq (bq (aq (bi _) (aq (jp (gr rfl (.str _ hx)) (bi _) (by omega) (by omega)) (aq (bq aZ) (aq (bi _) (aq (bq aZ) aZ)))))) (aq (bq (aq (bi _) (aq (jp (gr rfl (.str _ hx)) (bi _) (by omega) (by omega)) (aq (bq aZ) (aq gO (aq (bq aZ) aZ)))))) aZ))) aZ)))))) H7 (.refl (Hd (fun _ => false) H7)) al0 _ fun v11 H8 g8 t8 => j1 _ _ ?_
  have s8 : aK H7 H8 := g8.same
  have t11 : TrAt H8 (.tup [.str "row", .str x, .tup [], .non, .tup [cj "words" (x ++ ("a" : Str)) [] (.str "Hi you"), cj "blank" (x ++ ("b" : Str)) [] .non]]) v11 := t8
  have t10 := t10.same s8
  clear j1 N1 t8
  (try dsimp only [bp])
  refine aU fun N1 j1 => ?_
  refine (bq (ts := [.str "pile", .str x, .tup [], .non, .tup [.tup [.str "column", .str (x ++ ("c" : Str)), .tup [], .non, .tup [cj "flow" (x ++ ("d" : Str)) [] .non]]]]) (aq (bi _) (aq (gr rfl (.str _ hx)) (aq (bq aZ) (aq gO (aq (bq (aq (bq (aq (bi _) (aq (jp (gr rfl (.str _ hx)) (bi _) (by omega) (by omega)) (aq (bq aZ) (aq gO (aq (bq (aq (bq (aq (bi _) (aq (jp (gr rfl (.str _ hx)) (bi _) (by omega) (by omega)) (aq (bq aZ) (aq gO (aq (bq aZ) aZ)))))) aZ)) aZ)))))) aZ)) aZ)))))) H8 (.refl (Hd (fun _ => false) H8)) al0 _ fun v12 H9 g9 t9 => j1 _ _ ?_
  have s9 : aK H8 H9 := g9.same
  have t12 : TrAt H9 (.tup [.str "pile", .str x, .tup [], .non, .tup [.tup [.str "column", .str (x ++ ("c" : Str)), .tup [], .non, .tup [cj "flow" (x ++ ("d" : Str)) [] .non]]]]) v12 := t9
  have t10 := t10.same s9
  have t11 := t11.same s9
  clear j1 N1 t9
  have hn9 := s9 _ _ (s8 _ _ (s7 _ _ (s6 _ _ hn5)))
  have m9 := (((m5.grow s6).grow s7).grow s8).grow s9
  (try dsimp only [bp])
  refine aU fun N1 j1 => ?_
  have ho8 := Int.emod_nonneg (o / 64) (show (ns.length : Int) ≠ 0 by omega)
  have ho9 := Int.emod_lt_of_pos (o / 64) (show (0 : Int) < (ns.length : Int) by omega)
  obtain ⟨y, hy, hy8⟩ : ∃ y : Str, atI (ns.map V.str) (o / 64 % ((ns.map V.str).length : Int)) = some (.str y) ∧ y.length ≤ 8 := by
   rw [List.length_map]
   obtain ⟨v, h1, h2⟩ := mV (xs := ns.map V.str) ho8 (by rw [List.length_map]; exact ho9)
   obtain ⟨x, hx, rfl⟩ := List.mem_map.mp h2
   exact ⟨x, h1, n8 x hx⟩
  have yN : Yl (fun _ => false) H9 (tOp (DX K) (oi 1) (tOp (rI (fun x j => 0 < j) fun i j => V.int (i % j)) (tOp (rI IF fun i j => V.int (i / j)) (oi 6) (tC (V.int 64))) (tCB (fun xs H_1 Q => ∃ p ys, xs = [V.ref p] ∧ (SqL K H_1 p ys ∨ SqT K H_1 p ys) ∧ Q (V.int ↑ys.length) H_1) (gL (oi 1) nk)))) [some (.ref st), some (.ref nl), some (.int k), some (.int p), some (.str z), some (.str wd), some (.int o), some tv, v8, some (.str x), some v10, some v11, some v12, none, none] (.str y) := fun Hx sx alx Qx qx => by
   have hnx : Hx nl = some (.lst (ns.map V.str)) := sx _ _ hn9
   exact ⟨_, rfl, _, rfl, _, _, rfl, rfl, ⟨by decide, by decide⟩, _, rfl, nl, _, rfl, .inl (.of hnx), _, _, rfl, rfl, (by rw [List.length_map]; omega), nl, _, _, _, rfl, rfl, .of hnx, hy, qx _ _ (.refl _) (.str _ (by omega))⟩
  refine (bq (ts := [.str "blank", .str y, .tup [], .non, .tup []]) (aq (bi _) (aq yN (aq (bq aZ) (aq gO (aq (bq aZ) aZ)))))) H9 (.refl (Hd (fun _ => false) H9)) al0 _ fun v13 Ha ga ta => j1 _ _ ?_
  have sa : aK H9 Ha := ga.same
  have t13 : TrAt Ha (cj "blank" y [] .non) v13 := ta
  have t10 := t10.same sa
  have t11 := t11.same sa
  have t12 := t12.same sa
  clear j1 N1 ta yN
  (try dsimp only [bp])
  refine aU fun N1 j1 => ?_
  refine (wo (ts := [cj "blank" x [.str "t"] .non, .tup [.str "row", .str x, .tup [], .non, .tup [cj "words" (x ++ ("a" : Str)) [] (.str "Hi you"), cj "blank" (x ++ ("b" : Str)) [] .non]], .tup [.str "pile", .str x, .tup [], .non, .tup [.tup [.str "column", .str (x ++ ("c" : Str)), .tup [], .non, .tup [cj "flow" (x ++ ("d" : Str)) [] .non]]]], cj "blank" y [] .non, .non, cj "grid" x [] (.int 3), cj "grid" x [] (.int 0)]) (aq (gr rfl t10) (aq (gr rfl t11) (aq (gr rfl t12) (aq (gr rfl t13) (aq gO (aq (bq (aq (bi _) (aq (gr rfl (.str _ hx)) (aq (bq aZ) (aq (pL _) (aq (bq aZ) aZ)))))) (aq (bq (aq (bi _) (aq (gr rfl (.str _ hx)) (aq (bq aZ) (aq (pL _) (aq (bq aZ) aZ)))))) aZ)))))))) Ha (.refl (Hd (fun _ => false) Ha)) al0 _ fun vb Hb gb tb => j1 _ _ ?_
  have sb : aK Ha Hb := gb.same
  obtain ⟨l8, ws8, rfl, e8, k8⟩ := TrAt.lstE (H := Hb) tb
  clear j1 N1 tb t10 t11 t12 t13
  (try dsimp only [bp])
  refine aU fun N1 j1 => ?_
  refine ⟨_, rfl, ?_⟩
  refine (wo (ts := [.tup [.str "row", .str x, .tup [], .non]]) (aq (bq (aq (bi _) (aq (gr rfl (.str _ hx)) (aq (bq aZ) (aq gO aZ))))) aZ)) Hb (.refl (Hd (fun _ => false) Hb)) al0 _ fun vc Hc gc tc => ?_
  have sc : aK Hb Hc := gc.same
  obtain ⟨l9, ws9, rfl, e9, k9⟩ := TrAt.lstE (H := Hc) tc
  have l8' := k8.len
  have l9' := k9.len
  refine ⟨l8, l9, ws8, ws9, rfl, rfl, sc _ _ e8, e9, small (by rw [← l8', ← l9']; simp), fun l hl => j1 _ _ ?_⟩
  have sd := ao hl (.lst (ws8 ++ ws9))
  have kd : bL (upd Hc l (.lst (ws8 ++ ws9))) (BS x (x ++ ("a" : Str)) (x ++ ("b" : Str)) (x ++ ("c" : Str)) (x ++ ("d" : Str)) y) (ws8 ++ ws9) := (bL.same (sc.trans sd) k8).append (bL.same sd k9)
  have ed : upd Hc l (.lst (ws8 ++ ws9)) l = some (.lst (ws8 ++ ws9)) := ai
  have md := (((m9.grow sa).grow sb).grow sc).grow sd
  clear k8 k9 e8 e9 tc m9 hn9 j1 N1
  generalize upd Hc l (.lst (ws8 ++ ws9)) = He at sd kd ed md ⊢
  generalize ws8 ++ ws9 = ws at kd ed
  (try dsimp only [bp])
  obtain ⟨j, hj, hj8⟩ : ∃ j : Int, atI [V.int 0, .int 1, .int 2, .int 0, .int 5, .int 1, .int 3, .int 4, .int 6, .int 7, .int 2, .int 0] (o % 12) = some (.int j) ∧ 0 ≤ j ∧ j < 8 := by
   obtain ⟨v, h1, h2⟩ := mV (xs := [V.int 0, .int 1, .int 2, .int 0, .int 5, .int 1, .int 3, .int 4, .int 6, .int 7, .int 2, .int 0]) (Int.emod_nonneg o (show (12 : Int) ≠ 0 by decide)) (Int.emod_lt_of_pos o (show (0 : Int) < 12 by decide))
   simp only [List.mem_cons, List.not_mem_nil, or_false] at h2
   rcases h2 with rfl | rfl | rfl | rfl | rfl | rfl | rfl | rfl | rfl | rfl | rfl | rfl <;> exact ⟨_, h1, by decide, by decide⟩
  obtain ⟨v, t, hv, ht, tt⟩ := vO kd hj8.1 hj8.2
  refine ⟨_, rfl, small (by simp), fun lf hlf => ?_⟩
  have sf := ao hlf (.lst [V.int 0, .int 1, .int 2, .int 0, .int 5, .int 1, .int 3, .int 4, .int 6, .int 7, .int 2, .int 0])
  refine ⟨_, rfl, _, _, rfl, rfl, (by show (0 : Int) < 12; decide), lf, _, _, _, rfl, rfl, .of ai, hj, l, _, _, v, rfl, rfl, .of (sf _ _ ed), hv, kN _ _ ⟨v, t, _, _, _, _, _, _, rfl, md.grow sf, tt.same sf, ⟨fun h => absurd (hw.symm.trans h) nt, fun h => absurd (hw.symm.trans h) ng, fun _ => HF _ _ _ _ _ _ t ht⟩⟩⟩
 clear tt5 p5 p6 tv th m5 hn5 H5 v8
 rintro σ H5 ⟨tv, th, v8, v9, v10, v11, v12, v13, rfl, m5, tt5, thf⟩
 refine aU fun N1 j1 => ?_
 refine ⟨_, rfl, _, _, rfl, rfl, ⟨by decide, by decide⟩, _, _, rfl, rfl, (by show (0 : Int) < 3; decide), _, rfl, _, _, rfl, rfl, ⟨by decide, by decide⟩, _, _, rfl, rfl, (by show (0 : Int) < 14; decide), _, rfl, _, rfl, _, _, rfl, rfl, ⟨by decide, by decide⟩, _, _, rfl, rfl, (by show (0 : Int) < 2; decide), small (by simp), fun l hl => ?_⟩
 have s6 := ao hl (.lst [V.non, .int (o / 512 % 3), .int (o / 512 % 14), .int (-1), .non, .int 0, .int (o / 512 % 2), .bl true])
 obtain ⟨pv', hpv, pl, hpl, tpl⟩ : ∃ pv', atI [V.non, .int (o / 512 % 3), .int (o / 512 % 14), .int (-1), .non, .int 0, .int (o / 512 % 2), .bl true] (o / 16 % 8) = some pv' ∧ ∃ pl, PlF pl ∧ ∀ H, TrAt H pl pv' := by
  obtain ⟨v, h1, h2⟩ := mV (xs := [V.non, .int (o / 512 % 3), .int (o / 512 % 14), .int (-1), .non, .int 0, .int (o / 512 % 2), .bl true]) (Int.emod_nonneg (o / 16) (show (8 : Int) ≠ 0 by decide)) (Int.emod_lt_of_pos (o / 16) (show (0 : Int) < 8 by decide))
  simp only [List.mem_cons, List.not_mem_nil, or_false] at h2
  rcases h2 with rfl | rfl | rfl | rfl | rfl | rfl | rfl | rfl
  all_goals first | exact ⟨_, h1, .non, .non, fun _ => .non⟩ | exact ⟨_, h1, .int _, .int _, fun _ => .int _⟩ | exact ⟨_, h1, .bl _, .bl _, fun _ => .bl _⟩
 refine ⟨_, rfl, _, _, rfl, rfl, ⟨by decide, by decide⟩, _, _, rfl, rfl, (by show (0 : Int) < 8; decide), l, _, _, pv', rfl, rfl, .of ai, hpv, j1 _ _ ?_⟩
 (try dsimp only [bp])
 refine ⟨_, rfl, _, rfl, _, rfl, _, rfl, small (by simp), fun ea hea => ?_⟩
 have s7 := ao hea (.tup [V.str wd, .str z, tv, pv'])
 exact q ea _ wd z tv pv' th pl ((m5.grow s6).grow s7) ai (tt5.same (s6.trans s7)) (tpl _) hwm hpl thf
end
noncomputable def exK (j k : Nat) : Tr := .tup [.str "blank", .str (("e" : Str) ++ (toString (0 + (j : Int)) : Str) ++ ("x" : Str) ++ (toString (0 + (k : Int)) : Str)), .tup [], .non, .tup []]
noncomputable def rwK (j : Nat) : Tr := .tup [.str "row", .str (("d" : Str) ++ (toString (0 + (j : Int)) : Str)), .tup [], .non, .tup ((List.range 12).map (exK j))]
noncomputable def plT : Tr := .tup [.str "pile", .str "r", .tup [], .non, .tup ((List.range 3).map rwK)]
theorem HC : plT = .tup [.str "pile", .str "r", .tup [], .non, .tup ((List.range 3).map rwK)] := rfl
theorem HB (j : Nat) : rwK j = .tup [.str "row", .str (("d" : Str) ++ (toString (0 + (j : Int)) : Str)), .tup [], .non, .tup ((List.range 12).map (exK j))] := rfl
theorem Hw (j k : Nat) : exK j k = .tup [.str "blank", .str (("e" : Str) ++ (toString (0 + (j : Int)) : Str) ++ ("x" : Str) ++ (toString (0 + (k : Int)) : Str)), .tup [], .non, .tup []] := rfl
theorem HU : bN plT = true := by decide +kernel
noncomputable def IG : Out → Bool
 | .word x => x == ("NoBox" : Str)
 | _ => false
theorem Jb : IG (hG "kid" "r" (cj "blank" "b" [] .non) (.int 0) plT) = true := by decide +kernel
theorem HA {o : Out} (h : IG o = true) : o = .word "NoBox" := by
 cases o with
 | word x => have : x = ("NoBox" : Str) := eq_of_beq h; rw [this]
 | doc r => cases h
noncomputable def xU : Tr := .tup [.str "row", .str "a", .tup [], .int 3, .tup []]
theorem FI : xU = .tup [.str "row", .str "a", .tup [], .int 3, .tup []] := rfl
theorem Jn : bN xU = false := by decide +kernel
theorem d14 : ∀ k : Fin 14, (toString (0 + (k.val : Int)) : Str).length ≤ 3 ∧ (0 + (k.val : Int)).natAbs.log2 < 1920 := by decide +kernel
theorem En : ∀ x ∈ (["d", "e", "x"] : List Str), x.length = 1 := by decide +kernel
noncomputable def EY : List Tr := [.tup [.str "text", .str "a", .str "", .int 0], .tup [.str "tags", .str "a", .tup [], .int 0], .tup [.str "kid", .str "a", cj "blank" "b" [] .non, .int 0], .tup [.str "gone", .str "a", .non, .int 0]]
theorem EI : ∀ t ∈ EY, ∃ (wd z : Str) (th pl : Tr), t = .tup [.str wd, .str z, th, pl] ∧ wd ∈ (["text", "tags", "kid", "gone"] : List Str) := by
 intro t ht
 unfold EY at ht
 simp only [List.mem_cons, List.not_mem_nil, or_false] at ht
 rcases ht with rfl | rfl | rfl | rfl
 all_goals exact ⟨_, _, _, _, rfl, by simp⟩
theorem Au {H : Hp} {wd z : Str} {th pl : Tr} {v : V} (h : TrAt H (.tup [.str wd, .str z, th, pl]) v) : ∃ a tv pv', v = .ref a ∧ H a = some (.tup [.str wd, .str z, tv, pv']) ∧ TrAt H th tv ∧ TrAt H pl pv' := by
 obtain ⟨a, vs, rfl, ea, k⟩ := h.tupE
 cases k with
 | @cons _ v0 _ _ a0 k =>
 cases k with
 | @cons _ v1 _ _ a1 k =>
 cases k with
 | @cons _ v2 _ _ a2 k =>
 cases k with
 | @cons _ v3 _ _ a3 k =>
 cases k
 cases a0
 cases a1
 exact ⟨a, v2, v3, rfl, ea, a2, a3⟩
theorem Ar {sp : Sp} {dvs : List V} {E : XK} {te : TE} {jq : TA} {σ : L2.St} {H B : Hp} {t : Tr} {Q : VK} (y : Yl (fun _ => false) B te σ t) (s : aK B H) (k : ∀ v H', aK H H' → TrAt H' t v → jq σ H' fun vs H2 => sp (v :: vs ++ dvs) H2 Q E) : lP sp dvs E (gL te jq) σ H Q := y H s (fun b hb => by cases hb) _ fun v H' g t' => k v H' g.same t'
theorem FS {K : PySem.W.Frag} {B : Hp} {tl : TE} {g : TG} {tb : TS} {D : Ends} {σ : L2.St} {H : Hp} {ts : List Tr} (y : Yl (fun _ => false) B tl σ (.lst ts)) (s : aK B H) (k : ∀ a ws H', aK H H' → H' a = some (.lst ws) → bL H' ts ws → Hz (fun _ H1 R => R (Itl K a) H1) g tb D σ H') : Hz (Ct K tl) g tb D σ H :=
 y H s (fun b hb => by cases hb) _ fun v H' g' t' => by
  obtain ⟨a, ws, rfl, e, kk⟩ := TrAt.lstE (H := H') t'
  exact ⟨a, rfl, ⟨_, .of e⟩, k a ws H' g'.same e kk⟩
section
variable {P : Program} {w : World} {K : PySem.W.Frag} {mg : Str → Option Value} {base : Heap} {A : Adr}
noncomputable abbrev lI : Scope := (match bC cD with | _ :: _ :: _ :: (.For _ _ ((.Assign _ (.ListComp _ _ sc _) _) :: _) _ _) :: _ => sc | _ => ap cD)
theorem kI : Blk (ap cD) fK lI ["_law_k"] [3] := ⟨rfl, by decide +kernel, by decide +kernel, by decide +kernel, by decide +kernel⟩
theorem lK : (cR fK ["_law_k"] [3]).Nodup := by decide +kernel
noncomputable def Dk : Sp := fun vs H Q _ => vs = [] ∧ ∀ H', aK H H' → Q (.bl true) H'
seal PE PS PSs L2.PA PT PI PG bN hG plT xU rwK exK jQ in
theorem yG (T : Txt K mg A) : FnOk P w K mg base CX0 10 A.iJ A.jc dD Dk := by
 have nh := zV (P := P) (w := w) (base := base) T
 refine T.dI.F.ok cm (fun vs H Q E h => ?_) (fun cdv B outer s H vs Q E hr h => ?_)
 ·obtain ⟨rfl, _⟩ := h; rfl
 obtain ⟨rfl, q⟩ := h
 refine ⟨_, @ag _ _ _ _ _ (aF (i := 0) cm.nd rfl (Or.inl rfl) (aM (aa ar (aa ar (aa (aM ae) (aa cu (aa (aM ae) ae)))))))
  (@ag _ _ _ _ _ (fN PassesOwn.never rfl (lF (bb (aa (aM (aa ar (aa ar (aa ar (aa af ae))))) (aa (aM (aa ar (aa ar (aa (aM ae) (aa af ae))))) (aa (aM (aa ar (aa ar (aa (pv 0) (aa af ae))))) (aa (aM (aa ar (aa ar (aa cu (aa af ae))))) ae)))))) (aS (i := 1) cm.nd rfl (Or.inl rfl)) (av (bF (aE nO (az nh hr rfl T.dU.m T.dU.F.kp T.dU.b .nil bg (aa (aM (aa ar (aa ar (aa (aM ae) (aa af (aa (aM ae) ae)))))) (aa (pv 1) ae))) ar (aG _)) (av (aO gq)) aR)))
  (@ag _ _ _ _ _ (aF (i := 2) cm.nd rfl (Or.inl rfl) (bb ae))
  (@ag _ _ _ _ _ (fN PassesOwn.never rfl (cJ rfl T.cL (aa af ae)) (aS (i := 3) cm.nd rfl (Or.inr rfl)) (@ag _ _ _ _ _ (fG (i := 4) kI rfl (cJ rfl T.cL (aa af ae)) (fun _ _ _ _ _ => aS (i := 0) lK rfl (.inl rfl)) (fun _ _ _ _ _ => fj) (fun _ _ _ _ _ => aM (aa ar (aa (aJ cG (aJ cG (aJ cG ar (ck gx rfl T.gR kj (aa (pv 1) ae))) ar) (ck gx rfl T.gR kj (aa (pv 0) ae))) (aa (aM ae) (aa cu (aa (aM ae) ae)))))) cm.nd rfl rfl)
  (av (dC (gY PySem.F.plainAttrs_list PySem.F.slot_list_append PySem.F.type_list_append iV (pv 2) (aa (aM (aa ar (aa (aJ cG ar (ck gx rfl T.gR kj (aa (pv 3) ae))) (aa (aM ae) (aa cu (aa (ck cT rfl T.cy db (aa (pv 4) ae)) ae)))))) ae))))))
  (av (aO (bO bW (az nh hr rfl T.dU.m T.dU.F.kp T.dU.b .nil bg (aa (aM (aa ar (aa ar (aa (aM ae) (aa cu (aa (ck cT rfl T.cy db (aa (pv 2) ae)) ae)))))) (aa (aM (aa ar (aa ar (aa (pv 0) (aa af ae))))) ae))) ar (aG _))))))), ?_⟩
 have al0 : ∀ {H : Hp}, Al (fun _ => false) H := fun {H} b hb => by cases hb
 have ol := En
 refine aU fun N1 j1 => ?_
 refine (bq (ts := [.str "blank", .str "b", .tup [], .non, .tup []]) (aq (bi _) (aq (bi _) (aq (bq aZ) (aq gO (aq (bq aZ) aZ)))))) H (.refl (Hd (fun _ => false) H)) al0 _ fun bv H1 g1 t1 => j1 _ _ ?_
 have s1 : aK H H1 := g1.same
 have tb : TrAt H1 (cj "blank" "b" [] .non) bv := t1
 clear t1 j1 N1 g1
 (try dsimp only [bp])
 refine aU fun N1 j1 => ?_
 refine FS (ts := EY) (wo (ts := EY) (aq (bq (aq (bi _) (aq (bi _) (aq (bi _) (aq (pL _) aZ))))) (aq (bq (aq (bi _) (aq (bi _) (aq (bq aZ) (aq (pL _) aZ))))) (aq (bq (aq (bi _) (aq (bi _) (aq (gr rfl tb) (aq (pL _) aZ))))) (aq (bq (aq (bi _) (aq (bi _) (aq gO (aq (pL _) aZ))))) aZ)))) (by decide)) (.refl _) fun l ws H2 s2 el kl => ?_
 have tb2 := tb.same s2
 refine rM (K := K) (a := l) (xs := ws) (fun j σ H' => ∃ v1, σ = [some bv, v1, none, none, none] ∧ aK H2 H') ⟨none, rfl, .refl _⟩ (fun j σ H' _ z => ?_) ?_ ?_
 ·obtain ⟨_, _, s3⟩ := z; exact .of (s3 _ _ el)
 ·rintro j x σ H3 hx ⟨v1, rfl, s3⟩
  obtain ⟨t, ht, tt⟩ := jY kl hx
  obtain ⟨wd, z, th, pl, rfl, hwd⟩ := EI t (List.mem_of_getElem? ht)
  show lP yX _ _ _ _ _ _
  refine Ar (t := .tup [.str "row", .str "a", .tup [], .int 3, .tup []]) (bq (ts := [.str "row", .str "a", .tup [], .int 3, .tup []]) (aq (bi _) (aq (bi _) (aq (bq aZ) (aq (pL _) (aq (bq aZ) aZ)))))) (.refl _) fun dv H4 s4 t4 => ?_
  have td : TrAt H4 xU dv := by rw [FI]; exact t4
  obtain ⟨a, tv, pv', rfl, ea, k1, k2⟩ := Au (tt.same (s3.trans s4))
  refine ⟨_, rfl, dv, tv, pv', xU, th, pl, a, wd, z, rfl, td, ea, k1, k2, hwd, fun _ H5 s5 => ?_, fun hd => (by rw [Jn] at hd; cases hd)⟩
  exact ⟨rfl, _, rfl, aP rfl (kB ⟨_, rfl, s3.trans (s4.trans s5)⟩)⟩
 rintro σ H3 ⟨v1, rfl, s3⟩
 refine j1 _ _ ?_
 have s03 := s1.trans (s2.trans s3)
 have tb3 := tb2.same s3
 clear tb tb2 s1 s2 s3 kl el j1 N1
 (try dsimp only [bp])
 refine aU fun N1 j1 => ?_
 refine ⟨small (by simp), fun ll hll => j1 _ _ ?_⟩
 have s6 := s03.trans (ao hll (.lst []))
 have e6 : upd H3 ll (.lst []) ll = some (.lst []) := ai
 have tb6 := tb3.same (ao hll (.lst []))
 have hll0 : H3 ll = none := hll
 have s36 := ao hll (.lst [])
 generalize upd H3 ll (.lst []) = H5 at s6 e6 tb6 s36 ⊢
 clear j1 N1
 (try dsimp only [bp])
 refine aU fun N1 j1 => ?_
 refine ⟨_, rfl, by decide, by decide, gH (n := (3 : Int).toNat) (fun i σ H' => i ≤ 3 ∧ ∃ x3 x4 kv, σ = [some bv, v1, some (.ref ll), x3, x4] ∧ aK H3 H' ∧ H' ll = some (.lst kv) ∧ bL (Hd (fun b => b == ll) H') ((List.range i).map rwK) kv) ⟨by omega, none, none, [], rfl, s36, e6, .nil⟩ (fun i σ H6 hi p => ?_) fun σ H6 p => ?_⟩
 ·obtain ⟨h3, x3, x4, kv, rfl, s7, e7, k7⟩ := p
  have hi3 : i < 3 := hi
  obtain ⟨d1, d2⟩ := d14 ⟨i, by omega⟩
  dsimp only at d1 d2
  have lk7 := k7.len
  rw [List.length_map, List.length_range] at lk7
  (try dsimp only [bp]); show iC _ _ _ _ _
  refine ⟨12, rfl, by decide, by decide, lD (n := 12) (fun j acc Hj => bL (Hd (fun b => b == ll) Hj) ((List.range j).map (exK i)) acc ∧ Gr (fun b => b == ll) H6 Hj ∧ j ≤ 12) ⟨.nil, .refl _, by omega⟩ (fun j acc Hj z => bc (by have := z.1.len; rw [List.length_map, List.length_range] at this; have := z.2.2; omega)) (fun j acc Hj R kk hj z => ?_) fun acc Hj z => ?_⟩
  ·obtain ⟨z1, z2, z3⟩ := z
   dsimp only [oP]; rw [if_pos rfl]
   have hj12 : j < 12 := hj
   have al6 : Al (fun b => b == ll) Hj := z2.al fun b hb => by rw [eq_of_beq hb, e7]; simp
   obtain ⟨d5, d6⟩ := d14 ⟨j, by omega⟩
   dsimp only at d5 d6
   have he1 : ("e" : Str).length = 1 := ol _ (by simp)
   have hx1 : ("x" : Str).length = 1 := ol _ (by simp)
   refine (bq (ts := [.str "blank", .str (("e" : Str) ++ (toString (0 + (i : Int)) : Str) ++ ("x" : Str) ++ (toString (0 + (j : Int)) : Str)), .tup [], .non, .tup []]) (aq (bi _) (aq (jp (jp (jp (bi _) (vH rfl d2 (by omega)) (by rw [cF, he1]; omega) (by omega)) (bi _) (by rw [cF, cF, he1, hx1]; omega) (by rw [cF, he1, hx1]; omega)) (vH rfl d6 (by omega)) (by rw [cF, cF, cF, he1, hx1]; omega) (by rw [cF, cF, he1, hx1]; omega)) (aq (bq aZ) (aq gO (aq (bq aZ) aZ)))))) Hj (.refl (Hd (fun b => b == ll) Hj)) al6 _ fun v6 H7 g7 t7 => kk _ _ ⟨?_, z2.trans g7, by omega⟩
   rw [List.range_succ, List.map_append]
   exact (bL.same g7.same z1).append (.cons (by rw [Hw]; exact t7) .nil)
  ·obtain ⟨z1, z2, z3⟩ := z
   intro il hil
   have al6 : Al (fun b => b == ll) Hj := z2.al fun b hb => by rw [eq_of_beq hb, e7]; simp
   have g8 := Gr.new al6 hil (.lst acc)
   have e8 := Hd.new al6 hil (.lst acc)
   have z8 := bL.same g8.same z1
   have g9 := z2.trans g8
   have al8 := g8.al al6
   generalize upd Hj il (.lst acc) = H8 at g8 e8 z8 g9 al8 ⊢
   have e7' : H8 ll = some (.lst kv) := by rw [g9.keep ll (by simp)]; exact e7
   have hd1 : ("d" : Str).length = 1 := ol _ (by simp)
   refine ⟨_, rfl, .inl ⟨rfl, _, .of e7'⟩, ?_⟩
   refine (bq (ts := [.str "row", .str (("d" : Str) ++ (toString (0 + (i : Int)) : Str)), .tup [], .non, .tup ((List.range 12).map (exK i))]) (aq (bi _) (aq (jp (bi _) (vH rfl d2 (by omega)) (by rw [cF, hd1]; omega) (by omega)) (aq (bq aZ) (aq gO (aq ?_ aZ)))))) H8 (.refl (Hd (fun b => b == ll) H8)) al8 _ fun v9 H9 g10 t9 => ?_
   ·intro Hx sx al Qx qx
    have ex := sx _ _ e8
    exact ⟨_, rfl, il, acc, rfl, .inl ⟨.of (Hd.get ex).1, fun t ht => qx _ _ (.new al ht _) (TrAt.tup' (Hd.new al ht _) (bL.same (sx.trans (Gr.new al ht _).same) z8))⟩⟩
   have e9 : H9 ll = some (.lst kv) := by rw [g10.keep ll (by simp)]; exact e7'
   refine ⟨ll, kv, _, rfl, rfl, e9, bc (by omega), hi, _, _, kv ++ [v9], rfl, fun b u z => ?_, ai, ?_⟩
   ·have nb := aX z hll0
    rw [aD nb]
    have h6 := s7 _ _ z
    have : Hd (fun b => b == ll) H6 b = some u := by unfold Hd; rw [if_neg (by simp; exact nb)]; exact h6
    exact (Hd.get ((g9.trans g10).same _ _ this)).1
   ·have sh : aK (Hd (fun b => b == ll) H9) (Hd (fun b => b == ll) (upd H9 ll (.lst (kv ++ [v9])))) := fun b u z => by
     obtain ⟨z1, z2⟩ := Hd.get z
     unfold Hd
     rw [if_neg (Bool.eq_false_iff.mp z2), aD (fun e => by rw [e] at z2; simp at z2)]; exact z1
    rw [List.range_succ, List.map_append]
    exact (bL.same ((g9.trans g10).same.trans sh) k7).append (.cons (by rw [HB]; exact t9.same sh) .nil)
 ·obtain ⟨h3, x3, x4, kv, rfl, s7, e7, k7⟩ := p
  refine j1 _ _ ?_
  have tb7 := tb3.same s7
  show lP yX _ _ _ _ _ _
  refine Ar (t := .tup [.str "pile", .str "r", .tup [], .non, .tup ((List.range 3).map rwK)]) (bq (ts := [.str "pile", .str "r", .tup [], .non, .tup ((List.range 3).map rwK)]) (aq (bi _) (aq (bi _) (aq (bq aZ) (aq gO (aq ?_ aZ)))))) (.refl H6) fun v9 H9 s9 t9 => ?_
  ·intro Hx sx al Qx qx
   have ex : Hx ll = some (.lst kv) := sx _ _ e7
   have sk : aK (Hd (fun b => b == ll) H6) Hx := fun b u z => sx _ _ (Hd.get z).1
   exact ⟨_, rfl, ll, kv, rfl, .inl ⟨.of ex, fun t ht => qx _ _ ⟨ao ht _, fun b hb => by cases hb⟩ (TrAt.tup' ai (bL.same (sk.trans (ao ht _)) k7))⟩⟩
  have td : TrAt H9 plT v9 := by rw [HC]; exact t9
  refine (bq (ts := [.str "kid", .str "r", cj "blank" "b" [] .non, .int 0]) (aq (bi _) (aq (bi _) (aq (gr rfl (tb7.same s9)) (aq (pL _) aZ))))) H9 (.refl (Hd (fun _ => false) H9)) al0 _ fun ev Ha ga ta => ?_
  have sa : aK H9 Ha := ga.same
  obtain ⟨a, tv, pv', rfl, ea, k1, k2⟩ := Au (H := Ha) ta
  refine ⟨v9, tv, pv', plT, _, _, a, _, _, rfl, td.same sa, ea, k1, k2, by simp, fun hd => (by rw [HU] at hd; cases hd), fun _ => ?_⟩
  have e := HA Jb
  refine ⟨fun r h => (by rw [e] at h; cases h), fun x h Hb sb => ?_⟩
  rw [e] at h
  cases h
  exact ⟨rfl, q _ (s03.trans (s7.trans (s9.trans (sa.trans sb))))⟩
end
theorem IJ {x : Str} (h : cV x = true) : x.length ≤ 8 := (zH h).2
noncomputable def qV (H : Hp) (o : Out) (v : V) : Prop := match o with
 | .word x => v = .str x
 | .doc r => TrAt H r v ∧ bN r = true
theorem qV.same {H H' : Hp} {o : Out} {v : V} (s : aK H H') (h : qV H o v) : qV H' o v := by
 cases o with
 | word x => exact h
 | doc r => exact ⟨h.1.same s, h.2⟩
theorem At {wd z : Str} {th pl t r : Tr} (h : hG wd z th pl t = .doc r) : bN r = true := by
 unfold hG at h
 split at h
 ·cases h
 ·split at h
  ·cases h
  ·split at h
   ·cases h
   ·split at h
    ·cases h
    ·split at h
     ·split at h
      ·rename_i hd
       cases h
       exact hd
      ·cases h
     ·cases h
theorem HI {H : Hp} {o : Out} {u v : V} (hu : qV H o u) (hv : qV H o v) : Lk H 17 u v := by
 cases o with
 | word x =>
  have e1 : u = .str x := hu
  have e2 : v = .str x := hv
  rw [e1, e2]
  exact Lk.flat rfl fun _ z => by cases z
 | doc r => exact zP (dG hu.2).1 hu.1 hv.1
section
variable {P : Program} {w : World} {K : PySem.W.Frag} {mg : Str → Option Value} {base : Heap} {A : Adr}
theorem ur {K : PySem.W.Frag} {H H1 : Hp} {al : Addr} {aw : List V} {t : Tr} {y : Str} {cap : List Nat} {σ : L2.St} {Z : List V → Hp → Prop} {te : TE} (s1 : aK H H1) (e1 : H1 al = some (.lst aw)) (ka : bL H (aQ 8 t) aw) (f8 : cf 8 t = true) (l40 : (aQ 8 t).length ≤ 40)
  (he : ∀ (a : Addr) (vs : List V) (x : Str) (Q : VK), H1 a = some (.tup vs) → vs[1]? = some (.str x) → Q (.str x) H1 → te ((fw [y] cap σ).set 0 (some (.ref a))) H1 Q) (hd : Z (((aQ 8 t).map ah).map V.str) H1) : uJ [y] cap (bp 0) oP te σ Z (Itl K al) H1 := by
 have la := ka.len
 refine nR (xs := aw) (fun i acc H' => acc = (((aQ 8 t).take i).map ah).map V.str ∧ H' = H1) ⟨rfl, rfl⟩ (fun i acc H' c => .of (by rw [c.2]; exact e1)) (fun i acc H' c => bc ?_) (fun i x acc H' N kk hx c => ?_) fun acc H' c => ?_
 ·rw [c.1, List.length_map, List.length_map, List.length_take]; omega
 ·obtain ⟨rfl, rfl⟩ := c
  obtain ⟨u, hu, ku⟩ := jY ka hx
  have au := fB f8 u (List.mem_of_getElem? hu)
  obtain ⟨a, tg, ks, mv, kv, rfl, ea', _⟩ := cK ku (bf au)
  unfold oP
  dsimp only
  rw [if_pos rfl]
  refine he a _ (ah u) _ (s1 _ _ ea') rfl (kk _ _ ⟨?_, rfl⟩)
  rw [List.take_add_one, hu, List.map_append, List.map_append]; rfl
 ·obtain ⟨rfl, rfl⟩ := c
  rw [← la, List.take_length]; exact hd
noncomputable def spLaw (K : PySem.W.Frag) : Sp := fun vs H Q _ => ∃ (a : Addr) (ns : List Int), vs = [.ref a] ∧ SqL K H a (ns.map V.int) ∧ ns.length ≤ 63 ∧ ∀ H', Q (.bl true) H'
noncomputable abbrev CD : Scope := (match bC mF with | _ :: _ :: _ :: (.For _ _ ((.Assign _ (.ListComp _ _ sc _) _) :: _) _ _) :: _ => sc | _ => ap mF)
theorem Bu : Blk (ap mF) wq CD ["_law_box_here"] [] := ⟨rfl, by decide +kernel, by decide +kernel, by decide +kernel, by decide +kernel⟩
theorem DA : (cR wq ["_law_box_here"] []).Nodup := by decide +kernel
noncomputable abbrev Dc : Scope := (match bC mF with | _ :: _ :: _ :: (.For _ _ (_ :: _ :: _ :: _ :: (.If (.BoolOp _ (_ :: (.Compare (.ListComp _ _ sc _) _ _ _) :: _) _) _ _ _) :: _) _ _) :: _ => sc | _ => ap mF)
theorem BB : Blk (ap mF) wq Dc ["_law_box_here"] [] := ⟨rfl, by decide +kernel, by decide +kernel, by decide +kernel, by decide +kernel⟩
theorem DB : (cR wq ["_law_box_here"] []).Nodup := by decide +kernel
seal PE PS PSs L2.PA PT PI PG bN hG in
theorem ok_law (T : Txt K mg A) : FnOk P w K mg base CX0 18 A.Fj A.yr AB (spLaw K) := by
 have CB := (Eo (P := P) (w := w) (base := base) T).mono (show 3 ≤ 17 by decide)
 have oj := (wS (P := P) (w := w) (base := base) T).mono (show 2 ≤ 17 by decide)
 have cY := (vx (P := P) (w := w) (base := base) T).mono (show 1 ≤ 17 by decide)
 have uZ := (BL (P := P) (w := w) (base := base) T 12).mono (show 12 ≤ 17 by decide)
 have sG := AD (P := P) (w := w) (base := base) T 17
 have lz := (zL (P := P) (w := w) (base := base) T 8).mono (show 8 ≤ 17 by decide)
 have Cm := (Fe (P := P) (w := w) (base := base) T).mono (show 3 ≤ 17 by decide)
 have Ef := (FP (P := P) (w := w) (base := base) T).mono (show 9 ≤ 17 by decide)
 have nh := (zV (P := P) (w := w) (base := base) T).mono (show 9 ≤ 17 by decide)
 have oV := (yG (P := P) (w := w) (base := base) T).mono (show 10 ≤ 17 by decide)
 refine T.Fz.F.ok iu (fun vs H Q E h => ?_) (fun cdv B outer s H vs Q E hr h => ?_)
 ·obtain ⟨a, ns, rfl, _⟩ := h; rfl
 obtain ⟨a, ns, rfl, hS, hn, q⟩ := h
 refine ⟨_, @ag _ _ _ _ _ (aF (i := 1) iu.nd rfl (Or.inl rfl) (az CB hr rfl T.nM.m T.nM.F.kp T.nM.b .nil bg (aa (pv 0) (aa af ae))))
  (@ag _ _ _ _ _ (aF (i := 2) iu.nd rfl (Or.inl rfl) (az uZ hr rfl T.jo.m T.jo.F.kp T.jo.b .nil bg (aa (pv 1) (aa af ae))))
  (@ag _ _ _ _ _ (aF (i := 3) iu.nd rfl (Or.inl rfl) (az oj hr rfl T.fF.m T.fF.F.kp T.fF.b .nil bg (aa (pv 0) (aa af ae))))
  (@ag _ _ _ _ _ (fN PassesOwn.never rfl (cJ rfl T.cL (aa (aJ cU af (aJ bI (az cY hr rfl T.bo.m T.bo.F.kp T.bo.b .nil bg (aa (pv 0) (aa af ae))) af)) ae)) (aS (i := 4) iu.nd rfl (Or.inl rfl)) (@ag _ _ _ _ _ (fG (i := 5) Bu rfl (lF (az lz hr rfl T.dH.m T.dH.F.kp T.dH.b .nil bg (aa (pv 2) ae))) (fun _ _ _ _ _ => aS (i := 0) DA rfl (.inl rfl)) (fun _ _ _ _ _ => fj) (fun _ _ _ _ _ => aI (uI (K := K) rfl) (pv 0) af (fun _ _ => rfl)) iu.nd rfl rfl)
  (@ag _ _ _ _ _ (aF (i := 6) iu.nd rfl (Or.inl rfl) (az Cm hr rfl T.nP.m T.nP.F.kp T.nP.b .nil bg (aa (pv 3) (aa (pv 5) (aa (aJ cU (aJ bI (az cY hr rfl T.bo.m T.bo.F.kp T.bo.b .nil bg (aa (pv 0) (aa (aJ cU af (aJ bI (pv 4) af)) ae))) af) (aJ rD af (pv 4))) ae)))))
  (@ag _ _ _ _ _ (aF (i := 7) iu.nd rfl (Or.inl rfl) (az Ef hr rfl T.qa.m T.qa.F.kp T.qa.b .nil bg (aa (pv 2) (aa (pv 6) ae))))
  (@ag _ _ _ _ _ (aF (i := 8) iu.nd rfl (Or.inl rfl) (az nh hr rfl T.dU.m T.dU.F.kp T.dU.b .nil bg (aa (pv 2) (aa (pv 6) ae))))
  (@ag _ _ _ _ _ (bF (PW.pt (dL (cz (cg (az sG hr rfl T.gN.m T.gN.F.kp T.gN.b .nil bg (aa (pv 8) (aa (pv 7) ae))))) (du (aE (FJ hr.units0) (dZ BB rfl (lF (az lz hr rfl T.dH.m T.dH.F.kp T.dH.b .nil bg (aa (pv 2) ae))) (fun _ _ _ _ _ => aS (i := 0) DB rfl (.inl rfl)) (fun _ _ _ _ _ => fj) (fun _ _ _ _ _ => aI (uI (K := K) rfl) (pv 0) af (fun _ _ => rfl))) (pv 5) (aG _))))) (av (aO gq)) aR)
  (av (bF (cz (cg (ax bG rfl T.ay aL (aa (pv 7) (aa (bK rfl T.gR kj (v := .ty "str") rfl) ae))))) (av (aF (i := 2) iu.nd rfl (Or.inl rfl) (pv 7))) aR))))))))
  (av (aO (Cb oV hr rfl T.dI.m T.dI.F.kp T.dI.b .nil bg)))))), ?_⟩
 refine aU fun N0 k0 => ?_
 refine ⟨_, rfl, a, ns, 0, rfl, hS, hn, by decide, fun rl xs c H1 s1 R1 ok h0 => k0 _ _ ?_⟩
 (try dsimp only [bp])
 refine aU fun N1 k1 => ?_
 have n12 := ok.n
 have h0' : 0 < xs.length := h0
 have dr := Cr ok h0'
 refine ⟨_, rfl, rl, xs, c, 0, rfl, R1, ok, h0', by omega, fun d H2 s2 b2 => k1 _ _ ?_⟩
 have t2 := FA ok _ 0 d (Nat.le_refl _) h0' b2
 have hS2 := gw (gw hS s1) s2
 generalize tOf xs 0 = t at dr t2
 clear R1 ok h0 h0' n12 b2 hS s1 s2 k0 N0 k1 N1
 (try dsimp only [bp])
 refine aU fun N2 k2 => ?_
 refine ⟨_, rfl, a, ns, 9, rfl, hS2, hn, by decide, fun st H7 hst s7 f7 hSt => k2 _ _ ?_⟩
 have off : Off K a st (ns.map V.int) := .of hS2 hst
 have hS7 := gw hS2 s7
 have t7 := t2.same s7
 clear k2 N2
 (try dsimp only [bp])
 refine aU fun N3 k3 => ?_
 refine ⟨_, rfl, a, ns, 10, rfl, hS7, hn, by decide, fun c10 => ?_⟩
 have c0 := Int.emod_nonneg c10 (show (7 : Int) ≠ 0 by decide)
 have c7 := Int.emod_lt_of_pos c10 (show (0 : Int) < 7 by decide)
 refine ⟨_, _, rfl, rfl, (by show (0 : Int) < 7; decide), _, _, rfl, rfl, _, rfl, by omega, by omega, ?_⟩
 refine gH (n := (3 + c10 % 7).toNat) (fun i σ H' => ∃ (dv : V) (t : Tr) (v4 v5 v6 v7 v8 : Option V), σ = [some (.ref a), some (.ref rl), some dv, some (.ref st), v4, v5, v6, v7, v8] ∧ Ms st H7 H' ∧ TrAt H' t dv ∧ bN t = true) ⟨.ref d, t, none, none, none, none, none, rfl, .of hSt (.refl _), t7, dr⟩ ?_ ?_
 ·clear dr t7 t2 t
  rintro i σ H8 hi ⟨dv, t, v4, v5, v6, v7, v8, rfl, m8, t8, hd⟩
  have i9 : i < 9 := by omega
  obtain ⟨f8, l40, nd⟩ := dG hd
  have nL := xf f8
  have hS8 := m8.seq off hS7
  have hst8 := m8.st
  refine aU fun Na ka => ?_
  refine ⟨_, rfl, H8, dv, t, rfl, .refl _, t8, f8, by omega, fun al aw H9 hal s9 e9 kk9 => ⟨al, rfl, ⟨_, .of e9⟩, ur s9 e9 kk9 f8 l40 (fun b vs x Q hb hx hQ => ⟨_, rfl, b, _, _, _, rfl, rfl, .of hb, bY (j := 1) hx, hQ⟩) fun nl hnl => ka _ _ ?_⟩⟩
  have m9 := m8.grow s9
  have m10 := m9.grow (ao hnl (.lst (((aQ 8 t).map ah).map V.str)))
  have e10 : upd H9 nl (.lst (((aQ 8 t).map ah).map V.str)) nl = some (.lst (((aQ 8 t).map ah).map V.str)) := ai
  have t10 := t8.same (s9.trans (ao hnl (.lst (((aQ 8 t).map ah).map V.str))))
  have nst : nl ≠ st := fun z => by
   obtain ⟨sv, hs, _⟩ := m9.st
   rw [z, hs] at hnl; cases hnl
  generalize upd H9 nl (.lst (((aQ 8 t).map ah).map V.str)) = H10 at m10 e10 t10 ⊢
  clear ka Na kk9 e9 s9
  (try dsimp only [bp])
  refine aU fun Na ka => ?_
  have hS10 := m10.seq off hS7
  have nm8 : ∀ x ∈ (aQ 8 t).map ah, x.length ≤ 8 := fun x hx => by
   obtain ⟨u, hu, rfl⟩ := List.mem_map.mp hx
   exact IJ (bf (fB f8 u hu)).name
  have nne : (aQ 8 t).map ah ≠ [] := fun z => by
   have : ah t ∈ (aQ 8 t).map ah := List.mem_map.mpr ⟨t, iX f8, rfl⟩
   rw [z] at this; cases this
  refine ⟨_, rfl, _, rfl, _, rfl, _, rfl, _, _, rfl, rfl, (by show (0 : Int) < 8; decide), _, _, rfl, rfl, a, ns, _, rfl, hS10, hn, by omega, fun c11 => ?_⟩
  have d0 := Int.emod_nonneg c11 (show (90 : Int) ≠ 0 by decide)
  have d9 := Int.emod_lt_of_pos c11 (show (0 : Int) < 90 by decide)
  refine ⟨_, _, rfl, rfl, (by show (0 : Int) < 90; decide), _, rfl, _, _, rfl, rfl, .inl ⟨by decide, by decide⟩, _, _, rfl, rfl, st, nl, _, (aQ 8 t).map ah, rfl, m10.st, nst, e10, nne, by rw [List.length_map]; omega, nm8, by omega, by omega, fun ea H11 wd z tv pv' th pl m11 ee hth hpl hwd hpf htf => ka _ _ ?_⟩
  have t11 := TrAt.ms m11 m10.st t10 nL
  have e11 := m11.keep _ _ nst e10
  have m711 := m10.trans m11
  clear ka Na m10 e10 t10 m11 m8 m9
  (try dsimp only [bp])
  refine cb (fun σ' H' => ∃ uv, σ' = [some (.ref a), some (.ref rl), some dv, some (.ref st), some (.int (0 + (i : Int))), some (.ref nl), some (.ref ea), some uv, v8] ∧ aK H11 H' ∧ qV H' (hG wd z th pl t) uv) (fun N kN => ?_) ?_
  ·refine ⟨_, rfl, _, rfl, dv, tv, pv', t, th, pl, ea, wd, z, rfl, t11, hd, ee, hth, hpl, hwd, hpf, htf, fun r h v H' s' tr => kN _ _ ⟨v, rfl, s', ?_⟩, fun x h H' s' => kN _ _ ⟨_, rfl, s', ?_⟩⟩
   ·rw [h]; exact ⟨tr, At h⟩
   ·rw [h]; rfl
  rintro σ H12 ⟨uv, rfl, s12, o12⟩
  refine cb (fun σ' H' => ∃ hv, σ' = [some (.ref a), some (.ref rl), some dv, some (.ref st), some (.int (0 + (i : Int))), some (.ref nl), some (.ref ea), some uv, some hv] ∧ aK H12 H' ∧ qV H' (hG wd z th pl t) hv) (fun N kN => ?_) ?_
  ·refine ⟨_, rfl, _, rfl, dv, tv, pv', t, th, pl, ea, wd, z, rfl, t11.same s12, s12 _ _ ee, hth.same s12, hpl.same s12, hwd, fun hf => (by rw [hd] at hf; cases hf), fun _ => ⟨fun r h v H' s' tr => kN _ _ ⟨v, rfl, s', ?_⟩, fun x h H' s' => kN _ _ ⟨_, rfl, s', ?_⟩⟩⟩
   ·rw [h]; exact ⟨tr, At h⟩
   ·rw [h]; rfl
  rintro σ H13 ⟨hv, rfl, s13, o13⟩
  have s113 := s12.trans s13
  refine aU fun Na ka => ?_
  refine ⟨_, rfl, _, rfl, hv, uv, rfl, HI o13 (o12.same s13), fun H14 s14 => ⟨_, rfl, bH ?_⟩⟩
  have s114 := s113.trans s14
  refine ⟨_, rfl, H14, dv, t, rfl, .refl _, t11.same s114, f8, by omega, fun al aw H15 hal s15 e15 kk15 => ⟨al, rfl, ⟨_, .of e15⟩, ur s15 e15 kk15 f8 l40 (fun b vs x Q hb hx hQ => ⟨_, rfl, b, _, _, _, rfl, rfl, .of hb, bY (j := 1) hx, hQ⟩) fun nl2 hnl2 => ?_⟩⟩
  have s16 := ao hnl2 (.lst (((aQ 8 t).map ah).map V.str))
  have s116 := s114.trans (s15.trans s16)
  refine ⟨_, rfl, nl2, nl, _, _, rfl, rfl, .of ai, .of (s116 _ _ e11), eU _, eU _, _, rfl, ?_⟩
  refine aP (by rw [if_pos rfl, tW (eU _)]; rfl) (kB (ka _ _ ?_))
  have m16 := m711.grow s116
  have o16 := o12.same (s13.trans (s14.trans (s15.trans s16)))
  have t16 := t11.same s116
  cases hO : hG wd z th pl t with
  | word x =>
   rw [hO] at o16
   have e : uv = .str x := o16
   subst e
   have I : Is K (upd H15 nl2 (.lst (((aQ 8 t).map ah).map V.str))) (.str x) "str" := .str x
   refine ⟨_, rfl, .str x, "str", _, true, rfl, I.ty, I.kit T.kit "str", _, rfl, bH ?_⟩
   exact ⟨dv, t, _, _, _, _, _, rfl, m16, t16, hd⟩
  | doc r =>
   rw [hO] at o16
   obtain ⟨tr, hr'⟩ := o16
   have b := bf (fB (dG hr').1 r (iX (dG hr').1))
   have I := tr.is (K := K)
   refine ⟨_, rfl, uv, "str", _, false, rfl, I.ty, ?_, _, rfl, bd ⟨_, rfl, uv, r, _, _, _, _, _, rfl, m16, tr, hr'⟩⟩
   have := I.kit T.kit "str"
   refine this.trans ?_
   rw [b.form]; rfl
 rintro σ H8 ⟨dv, t, v4, v5, v6, v7, v8, rfl, m8, t8, hd⟩
 refine k3 _ _ ?_
 exact ⟨rfl, fun H9 s9 => q _⟩
end
noncomputable abbrev fo (x : Str) (s : Stmt) (kV dc pm : Value) (an : Option Addr) (cd ct : Value) : FuncData := PySem.W.fnOf x x (gy s) (bC s) (ap s) .none kV dc pm an cd ct
noncomputable abbrev foD (x : Str) (s : Stmt) (dT : Addr) (kV dc pm : Value) (an : Option Addr) (cd ct : Value) : FuncData := PySem.W.fnOf x x (gy s) (bC s) (ap s) (.ref dT) kV dc pm an cd ct
noncomputable abbrev Pd (K : PySem.W.Frag) (x : Str) (s : Stmt) (f : Addr) (oc : Value) (od : Option Addr) (kV dc pm : Value) (an : Option Addr) (cd ct : Value) (sl : Array (Option Value)) : Prop :=
 PySem.W.nsIn K mainGlobals x = some (some (.ref f)) ∧ K.lookup f = some ⟨oc, od, .func (fo x s kV dc pm an cd ct), sl⟩ ∧ PySem.W.codeIn K cd x = true ∧ PySem.W.keepIn K (.ref f) = true
theorem Pd.dx {K : PySem.W.Frag} {h : Heap} {mg : Str → Option Value} {x : Str} {s : Stmt} {f : Addr} {oc : Value} {od an : Option Addr} {kV dc pm cd ct : Value} {sl : Array (Option Value)} {ps : List Str} (a : Pd K x s f oc od kV dc pm an cd ct sl) (X : K.In h) (G : h.Ns mainGlobals mg)
  (b : ∀ (kV doc pm : Value) (an : Option Addr) (cdv ct : Value) (us : List Value), us.length = ps.length → bindArgs (fo x s kV doc pm an cdv ct) ⟨us, []⟩ = pure (ps.zip us)) : Dx K mg x s ps f (fo x s kV dc pm an cd ct) :=
 have F := Hm a.2.1 a.2.2.1 a.2.2.2
 ⟨F, F.binds b, PySem.W.mg_of X G a.1⟩
theorem ln0 {α : Type} {p : List α → Prop} (q : p []) (us : List α) (e : us.length = 0) : p us := match us, e with | [], _ => q
theorem ln1 {α : Type} {p : List α → Prop} (q : ∀ a, p [a]) (us : List α) (e : us.length = 1) : p us := match us, e with | [_], _ => q _
theorem ln2 {α : Type} {p : List α → Prop} (q : ∀ a b, p [a, b]) (us : List α) (e : us.length = 2) : p us := match us, e with | [_, _], _ => q _ _
theorem ln3 {α : Type} {p : List α → Prop} (q : ∀ a b c, p [a, b, c]) (us : List α) (e : us.length = 3) : p us := match us, e with | [_, _, _], _ => q _ _ _
theorem ln4 {α : Type} {p : List α → Prop} (q : ∀ a b c d, p [a, b, c, d]) (us : List α) (e : us.length = 4) : p us := match us, e with | [_, _, _, _], _ => q _ _ _ _
theorem ln5 {α : Type} {p : List α → Prop} (q : ∀ a b c d e, p [a, b, c, d, e]) (us : List α) (e : us.length = 5) : p us := match us, e with | [_, _, _, _, _], _ => q _ _ _ _ _
theorem ln6 {α : Type} {p : List α → Prop} (q : ∀ a b c d e f, p [a, b, c, d, e, f]) (us : List α) (e : us.length = 6) : p us := match us, e with | [_, _, _, _, _, _], _ => q _ _ _ _ _ _
theorem ln7 {α : Type} {p : List α → Prop} (q : ∀ a b c d e f g, p [a, b, c, d, e, f, g]) (us : List α) (e : us.length = 7) : p us := match us, e with | [_, _, _, _, _, _, _], _ => q _ _ _ _ _ _ _
theorem ln8 {α : Type} {p : List α → Prop} (q : ∀ a b c d e f g h, p [a, b, c, d, e, f, g, h]) (us : List α) (e : us.length = 8) : p us := match us, e with | [_, _, _, _, _, _, _, _], _ => q _ _ _ _ _ _ _ _
theorem txt_mk {K : PySem.W.Frag} {h : Heap} {mg : Str → Option Value} (X : K.In h) (G : h.Ns mainGlobals mg)
  {f1 f2 f3 f4 f5 f6 f7 f8 f9 f10 f11 f12 f13 f14 f15 f16 f17 f18 f19 f20 f21 f22 f23 f24 f25 f26 f27 f28 f29 f30 f31 f32 f33 f34 f35 f36 f37 f38 f39 f40 f41 f42 f43 : Addr} {o1 n1 o2 n2 o3 n3 o4 n4 o5 n5 o6 n6 o7 n7 o8 n8 o9 n9 o10 n10 o11 n11 o12 n12 o13 n13 o14 n14 o15 n15 o16 n16 o17 n17 o18 n18 o19 n19 o20 n20 o21 n21 o22 n22 o23 n23 o24 n24 o25 n25 o26 n26 o27 n27 o28 n28 o29 n29 o30 n30 o31 n31 o32 n32 o33 n33 o34 n34 o35 n35 o36 n36 o37 n37 o38 n38 o39 n39 o40 n40 o41 n41 o42 n42 o43 n43 : Option Addr} {s1 s2 s3 s4 s5 s6 s7 s8 s9 s10 s11 s12 s13 s14 s15 s16 s17 s18 s19 s20 s21 s22 s23 s24 s25 s26 s27 s28 s29 s30 s31 s32 s33 s34 s35 s36 s37 s38 s39 s40 s41 s42 s43 : Array (Option Value)}
  {q1 v1 d1 p1 c1 t1 q2 v2 d2 p2 c2 t2 q3 v3 d3 p3 c3 t3 q4 v4 d4 p4 c4 t4 q5 v5 d5 p5 c5 t5 q6 v6 d6 p6 c6 t6 q7 v7 d7 p7 c7 t7 q8 v8 d8 p8 c8 t8 q9 v9 d9 p9 c9 t9 q10 v10 d10 p10 c10 t10 q11 v11 d11 p11 c11 t11 q12 v12 d12 p12 c12 t12 q13 v13 d13 p13 c13 t13 q14 v14 d14 p14 c14 t14 q15 v15 d15 p15 c15 t15 q16 v16 d16 p16 c16 t16 q17 v17 d17 p17 c17 t17 q18 v18 d18 p18 c18 t18 q19 v19 d19 p19 c19 t19 q20 v20 d20 p20 c20 t20 q21 v21 d21 p21 c21 t21 q22 v22 d22 p22 c22 t22 q23 v23 d23 p23 c23 t23 q24 v24 d24 p24 c24 t24 q25 v25 d25 p25 c25 t25 q26 v26 d26 p26 c26 t26 q27 v27 d27 p27 c27 t27 q28 v28 d28 p28 c28 t28 q29 v29 d29 p29 c29 t29 q30 v30 d30 p30 c30 t30 q31 v31 d31 p31 c31 t31 q32 v32 d32 p32 c32 t32 q33 v33 d33 p33 c33 t33 q34 v34 d34 p34 c34 t34 q35 v35 d35 p35 c35 t35 q36 v36 d36 p36 c36 t36 q37 v37 d37 p37 c37 t37 q38 v38 d38 p38 c38 t38 q39 v39 d39 p39 c39 t39 q40 v40 d40 p40 c40 t40 q41 v41 d41 p41 c41 t41 q42 v42 d42 p42 c42 t42 q43 v43 d43 p43 c43 t43 : Value}
  {dT21 : Addr} {oo21 : Option Addr} {os21 : Array (Option Value)} {oe21 : Value} {on21 : Nat}
  {t_MOST_NAME_SIGNS : Tok}
  {t_MOST_TAGS : Tok}
  {t_MOST_KIDS : Tok}
  {t_MOST_COLUMNS : Tok}
  {t_MOST_TEXT_SIGNS : Tok}
  {t_MOST_WORD_SIGNS : Tok}
  {t_MOST_BOXES : Tok}
  {t_MOST_DEEP : Tok}
  {r_KINDS : Addr}
  {r_KIDLESS : Addr}
  {x_PaneError x_NoShare x_NoBox x_NoText x_NoRule x_NoName x_NoPlace x_NoPage x_NoChange x_NoUndo x_NoRow : Addr}
  {t_LETTERS : Tok}
  {t_NAME_SIGNS : Tok}
  {t_TEXT_SIGNS : Tok}
  (a1 : Pd K "is_number" ke f1 q1 o1 v1 d1 p1 n1 c1 t1 s1)
  (a2 : Pd K "is_within" jS f2 q2 o2 v2 d2 p2 n2 c2 t2 s2)
  (a3 : Pd K "has_only" fJ f3 q3 o3 v3 d3 p3 n3 c3 t3 s3)
  (a4 : Pd K "is_name" pb f4 q4 o4 v4 d4 p4 n4 c4 t4 s4)
  (a5 : Pd K "is_kind" oB f5 q5 o5 v5 d5 p5 n5 c5 t5 s5)
  (a6 : Pd K "are_tags" fE f6 q6 o6 v6 d6 p6 n6 c6 t6 s6)
  (a7 : Pd K "is_word" oJ f7 q7 o7 v7 d7 p7 n7 c7 t7 s7)
  (a8 : Pd K "is_words_text" cH f8 q8 o8 v8 d8 p8 n8 c8 t8 s8)
  (a9 : Pd K "is_more" oN f9 q9 o9 v9 d9 p9 n9 c9 t9 s9)
  (a10 : Pd K "are_kids" mq f10 q10 o10 v10 d10 p10 n10 c10 t10 s10)
  (a11 : Pd K "is_box_alone" gQ f11 q11 o11 v11 d11 p11 n11 c11 t11 s11)
  (a12 : Pd K "need_document" cI f12 q12 o12 v12 d12 p12 n12 c12 t12 s12)
  (a13 : Pd K "way_to" iP f13 q13 o13 v13 d13 p13 n13 c13 t13 s13)
  (a14 : Pd K "way_in" rY f14 q14 o14 v14 d14 p14 n14 c14 t14 s14)
  (a15 : Pd K "with_kids" kx f15 q15 o15 v15 d15 p15 n15 c15 t15 s15)
  (a16 : Pd K "replaced" mn f16 q16 o16 v16 d16 p16 n16 c16 t16 s16)
  (a17 : Pd K "checked" pd f17 q17 o17 v17 d17 p17 n17 c17 t17 s17)
  (a18 : Pd K "with_text" kh f18 q18 o18 v18 d18 p18 n18 c18 t18 s18)
  (a19 : Pd K "with_tags" kD f19 q19 o19 v19 d19 p19 n19 c19 t19 s19)
  (a20 : Pd K "place_in" ml f20 q20 o20 v20 d20 p20 n20 c20 t20 s20)
  (a21 : PySem.W.nsIn K mainGlobals "with_kid" = some (some (.ref f21))) (l21 : K.lookup f21 = some ⟨q21, o21, .func (foD "with_kid" fL dT21 v21 d21 p21 n21 c21 t21), s21⟩) (cc21 : PySem.W.codeIn K c21 "with_kid" = true) (k21 : PySem.W.keepIn K (.ref f21) = true)
  (e21 : K.lookup dT21 = some ⟨oe21, oo21, .seq #[.none] on21, os21⟩)
  (a22 : Pd K "without" oF f22 q22 o22 v22 d22 p22 n22 c22 t22 s22)
  (a23 : Pd K "_law_cell_at" kH f23 q23 o23 v23 d23 p23 n23 c23 t23 s23)
  (a24 : Pd K "_law_mix" vq f24 q24 o24 v24 d24 p24 n24 c24 t24 s24)
  (a25 : Pd K "_law_state" oA f25 q25 o25 v25 d25 p25 n25 c25 t25 s25)
  (a26 : Pd K "_law_names" oQ f26 q26 o26 v26 d26 p26 n26 c26 t26 s26)
  (a27 : Pd K "_law_tags" iD f27 q27 o27 v27 d27 p27 n27 c27 t27 s27)
  (a28 : Pd K "_law_text" iU f28 q28 o28 v28 d28 p28 n28 c28 t28 s28)
  (a29 : Pd K "_law_rows" iG f29 q29 o29 v29 d29 p29 n29 c29 t29 s29)
  (a30 : Pd K "_law_box" kR f30 q30 o30 v30 d30 p30 n30 c30 t30 s30)
  (a31 : Pd K "_law_same" iL f31 q31 o31 v31 d31 p31 n31 c31 t31 s31)
  (a32 : Pd K "_law_good_text" cB f32 q32 o32 v32 d32 p32 n32 c32 t32 s32)
  (a33 : Pd K "_law_good_name" dj f33 q33 o33 v33 d33 p33 n33 c33 t33 s33)
  (a34 : Pd K "_law_good_box" dF f34 q34 o34 v34 d34 p34 n34 c34 t34 s34)
  (a35 : Pd K "_law_good" rW f35 q35 o35 v35 d35 p35 n35 c35 t35 s35)
  (a36 : Pd K "_law_word" iK f36 q36 o36 v36 d36 p36 n36 c36 t36 s36)
  (a37 : Pd K "_law_edit" qN f37 q37 o37 v37 d37 p37 n37 c37 t37 s37)
  (a38 : Pd K "_law_edited" mD f38 q38 o38 v38 d38 p38 n38 c38 t38 s38)
  (a39 : Pd K "_law_all" uT f39 q39 o39 v39 d39 p39 n39 c39 t39 s39)
  (a40 : Pd K "_law_due" kX f40 q40 o40 v40 d40 p40 n40 c40 t40 s40)
  (a41 : Pd K "_law_done" rN f41 q41 o41 v41 d41 p41 n41 c41 t41 s41)
  (a42 : Pd K "_law_no_documents" cD f42 q42 o42 v42 d42 p42 n42 c42 t42 s42)
  (a43 : Pd K "law" mF f43 q43 o43 v43 d43 p43 n43 c43 t43 s43)
  (cO : PySem.W.nsIn K mainGlobals "MOST_NAME_SIGNS" = some (some (.int 8 t_MOST_NAME_SIGNS)))
  (fY : PySem.W.nsIn K mainGlobals "MOST_TAGS" = some (some (.int 4 t_MOST_TAGS)))
  (fV : PySem.W.nsIn K mainGlobals "MOST_KIDS" = some (some (.int 12 t_MOST_KIDS)))
  (dw : PySem.W.nsIn K mainGlobals "MOST_COLUMNS" = some (some (.int 9 t_MOST_COLUMNS)))
  (cQ : PySem.W.nsIn K mainGlobals "MOST_TEXT_SIGNS" = some (some (.int 80 t_MOST_TEXT_SIGNS)))
  (cN : PySem.W.nsIn K mainGlobals "MOST_WORD_SIGNS" = some (some (.int 20 t_MOST_WORD_SIGNS)))
  (fe : PySem.W.nsIn K mainGlobals "MOST_BOXES" = some (some (.int 40 t_MOST_BOXES)))
  (fX : PySem.W.nsIn K mainGlobals "MOST_DEEP" = some (some (.int 8 t_MOST_DEEP)))
  (iM : PySem.W.nsIn K mainGlobals "LETTERS" = some (some (.str "abcdefghijklmnopqrstuvwxyz" t_LETTERS)))
  (ff : PySem.W.nsIn K mainGlobals "NAME_SIGNS" = some (some (.str "abcdefghijklmnopqrstuvwxyz0123456789" t_NAME_SIGNS)))
  (fg : PySem.W.nsIn K mainGlobals "TEXT_SIGNS" = some (some (.str "ABCDEFGHIJKLMNOPQRSTUVWXYZabcdefghijklmnopqrstuvwxyz0123456789" t_TEXT_SIGNS)))
  (nZ : PySem.W.nsIn K mainGlobals "KINDS" = some (some (.ref r_KINDS))) (q_KINDS : ut K r_KINDS ["blank", "words", "row", "flow", "column", "grid", "pile"] = true)
  (gD : PySem.W.nsIn K mainGlobals "KIDLESS" = some (some (.ref r_KIDLESS))) (q_KIDLESS : ut K r_KIDLESS ["blank", "words"] = true)
  (eZ : PySem.W.nsIn K mainGlobals "ValueError" = some none)
  (pw : PySem.W.nsIn K mainGlobals "all" = some none)
  (gP : PySem.W.nsIn K mainGlobals "bool" = some none)
  (nF : PySem.W.nsIn K mainGlobals "int" = some none)
  (ay : PySem.W.nsIn K mainGlobals "isinstance" = some none)
  (bR : PySem.W.nsIn K mainGlobals "len" = some none)
  (mB : PySem.W.nsIn K mainGlobals "list" = some none)
  (cL : PySem.W.nsIn K mainGlobals "range" = some none)
  (rZ : PySem.W.nsIn K mainGlobals "set" = some none)
  (gR : PySem.W.nsIn K mainGlobals "str" = some none)
  (cy : PySem.W.nsIn K mainGlobals "tuple" = some none)
  (y_PaneError : PySem.W.nsIn K mainGlobals "PaneError" = some (some (.ref x_PaneError)))
  (y_NoShare : PySem.W.nsIn K mainGlobals "NoShare" = some (some (.ref x_NoShare)))
  (y_NoBox : PySem.W.nsIn K mainGlobals "NoBox" = some (some (.ref x_NoBox)))
  (y_NoText : PySem.W.nsIn K mainGlobals "NoText" = some (some (.ref x_NoText)))
  (y_NoRule : PySem.W.nsIn K mainGlobals "NoRule" = some (some (.ref x_NoRule)))
  (y_NoName : PySem.W.nsIn K mainGlobals "NoName" = some (some (.ref x_NoName)))
  (y_NoPlace : PySem.W.nsIn K mainGlobals "NoPlace" = some (some (.ref x_NoPlace)))
  (y_NoPage : PySem.W.nsIn K mainGlobals "NoPage" = some (some (.ref x_NoPage)))
  (y_NoChange : PySem.W.nsIn K mainGlobals "NoChange" = some (some (.ref x_NoChange)))
  (y_NoUndo : PySem.W.nsIn K mainGlobals "NoUndo" = some (some (.ref x_NoUndo)))
  (y_NoRow : PySem.W.nsIn K mainGlobals "NoRow" = some (some (.ref x_NoRow)))
  (cls : oI K x_PaneError [x_NoShare, x_NoBox, x_NoText, x_NoRule, x_NoName, x_NoPlace, x_NoPage, x_NoChange, x_NoUndo, x_NoRow] = true)
  (up : Ff K x_PaneError [x_NoShare, x_NoBox, x_NoText, x_NoRule, x_NoName, x_NoPlace, x_NoPage, x_NoChange, x_NoUndo, x_NoRow] = true)
  (kit : vD K = true) :
  ∃ A : Adr, (∀ (s : Shared) (u : Value), BindsTo s A.yr ⟨[u], []⟩ [("_law_script", u)]) ∧ Txt K mg A := by
 have D1 := a1.dx X G (ps := hZ) fun _ _ _ _ _ _ => ln1 fun _ => rfl
 have D2 := a2.dx X G (ps := ip) fun _ _ _ _ _ _ => ln3 fun _ _ _ => rfl
 have D3 := a3.dx X G (ps := jG) fun _ _ _ _ _ _ => ln2 fun _ _ => rfl
 have D4 := a4.dx X G (ps := li) fun _ _ _ _ _ _ => ln1 fun _ => rfl
 have D5 := a5.dx X G (ps := lH) fun _ _ _ _ _ _ => ln1 fun _ => rfl
 have D6 := a6.dx X G (ps := jr) fun _ _ _ _ _ _ => ln1 fun _ => rfl
 have D7 := a7.dx X G (ps := lG) fun _ _ _ _ _ _ => ln1 fun _ => rfl
 have D8 := a8.dx X G (ps := eG) fun _ _ _ _ _ _ => ln1 fun _ => rfl
 have D9 := a9.dx X G (ps := kO) fun _ _ _ _ _ _ => ln2 fun _ _ => rfl
 have D10 := a10.dx X G (ps := jE) fun _ _ _ _ _ _ => ln2 fun _ _ => rfl
 have D11 := a11.dx X G (ps := fc) fun _ _ _ _ _ _ => ln1 fun _ => rfl
 have D12 := a12.dx X G (ps := dW) fun _ _ _ _ _ _ => ln1 fun _ => rfl
 have D13 := a13.dx X G (ps := mZ) fun _ _ _ _ _ _ => ln2 fun _ _ => rfl
 have D14 := a14.dx X G (ps := nN) fun _ _ _ _ _ _ => ln2 fun _ _ => rfl
 have D15 := a15.dx X G (ps := ie) fun _ _ _ _ _ _ => ln2 fun _ _ => rfl
 have D16 := a16.dx X G (ps := jg) fun _ _ _ _ _ _ => ln2 fun _ _ => rfl
 have D17 := a17.dx X G (ps := kT) fun _ _ _ _ _ _ => ln2 fun _ _ => rfl
 have D18 := a18.dx X G (ps := hU) fun _ _ _ _ _ _ => ln3 fun _ _ _ => rfl
 have D19 := a19.dx X G (ps := im) fun _ _ _ _ _ _ => ln3 fun _ _ _ => rfl
 have D20 := a20.dx X G (ps := jK) fun _ _ _ _ _ _ => ln2 fun _ _ => rfl
 have F21 := Ej (st := fL) l21 cc21 k21
 have b21 : gJ K (foD "with_kid" fL dT21 v21 d21 p21 n21 c21 t21) fQ [] := CH rfl e21 fun us hl => match us, hl with | [_, _, _, _], _ => ⟨_, rfl, rfl⟩
 have bd21 : gJ K (foD "with_kid" fL dT21 v21 d21 p21 n21 c21 t21) fQ [.none] := CH rfl e21 fun us hl => match us, (show us.length = 3 by simpa using hl) with | [_, _, _], _ => ⟨_, rfl, rfl⟩
 have D22 := a22.dx X G (ps := kM) fun _ _ _ _ _ _ => ln2 fun _ _ => rfl
 have D23 := a23.dx X G (ps := iq) fun _ _ _ _ _ _ => ln2 fun _ _ => rfl
 have D24 := a24.dx X G (ps := qj) fun _ _ _ _ _ _ => ln2 fun _ _ => rfl
 have D25 := a25.dx X G (ps := kY) fun _ _ _ _ _ _ => ln2 fun _ _ => rfl
 have D26 := a26.dx X G (ps := kJ) fun _ _ _ _ _ _ => ln1 fun _ => rfl
 have D27 := a27.dx X G (ps := nv) fun _ _ _ _ _ _ => ln2 fun _ _ => rfl
 have D28 := a28.dx X G (ps := nS) fun _ _ _ _ _ _ => ln2 fun _ _ => rfl
 have D29 := a29.dx X G (ps := mO) fun _ _ _ _ _ _ => ln2 fun _ _ => rfl
 have D30 := a30.dx X G (ps := kL) fun _ _ _ _ _ _ => ln2 fun _ _ => rfl
 have D31 := a31.dx X G (ps := iZ) fun _ _ _ _ _ _ => ln2 fun _ _ => rfl
 have D32 := a32.dx X G (ps := fT) fun _ _ _ _ _ _ => ln1 fun _ => rfl
 have D33 := a33.dx X G (ps := fS) fun _ _ _ _ _ _ => ln1 fun _ => rfl
 have D34 := a34.dx X G (ps := gB) fun _ _ _ _ _ _ => ln1 fun _ => rfl
 have D35 := a35.dx X G (ps := nQ) fun _ _ _ _ _ _ => ln1 fun _ => rfl
 have D36 := a36.dx X G (ps := jX) fun _ _ _ _ _ _ => ln1 fun _ => rfl
 have D37 := a37.dx X G (ps := nA) fun _ _ _ _ _ _ => ln3 fun _ _ _ => rfl
 have D38 := a38.dx X G (ps := fI) fun _ _ _ _ _ _ => ln2 fun _ _ => rfl
 have D39 := a39.dx X G (ps := kP) fun _ _ _ _ _ _ => ln1 fun _ => rfl
 have D40 := a40.dx X G (ps := qp) fun _ _ _ _ _ _ => ln2 fun _ _ => rfl
 have D41 := a41.dx X G (ps := nU) fun _ _ _ _ _ _ => ln2 fun _ _ => rfl
 have D42 := a42.dx X G (ps := dD) fun _ _ _ _ _ _ => ln0 rfl
 have D43 := a43.dx X G (ps := AB) fun _ _ _ _ _ _ => ln1 fun _ => rfl
 exact ⟨⟨f1, _, f2, _, f3, _, f4, _, f5, _, f6, _, f7, _, f8, _, f9, _, f10, _, f11, _, f12, _, f13, _, f14, _, f15, _, f16, _, f17, _, f18, _, f19, _, f20, _, f21, _, f22, _, f23, _, f24, _, f25, _, f26, _, f27, _, f28, _, f29, _, f30, _, f31, _, f32, _, f33, _, f34, _, f35, _, f36, _, f37, _, f38, _, f39, _, f40, _, f41, _, f42, _, f43, _, x_PaneError, x_NoShare, x_NoBox, x_NoText, x_NoRule, x_NoName, x_NoPlace, x_NoPage, x_NoChange, x_NoUndo, x_NoRow⟩, fun s u => .of_eq rfl, ⟨D1, D2, D3, D4, D5, D6, D7, D8, D9, D10, D11, D12, D13, D14, D15, D16, D17, D18, D19, D20, F21, b21, bd21, PySem.W.mg_of X G a21, D22, D23, D24, D25, D26, D27, D28, D29, D30, D31, D32, D33, D34, D35, D36, D37, D38, D39, D40, D41, D42, D43, ⟨_, PySem.W.mg_of X G cO⟩, ⟨_, PySem.W.mg_of X G fY⟩, ⟨_, PySem.W.mg_of X G fV⟩, ⟨_, PySem.W.mg_of X G dw⟩, ⟨_, PySem.W.mg_of X G cQ⟩, ⟨_, PySem.W.mg_of X G cN⟩, ⟨_, PySem.W.mg_of X G fe⟩, ⟨_, PySem.W.mg_of X G fX⟩, ⟨_, PySem.W.mg_of X G iM⟩, ⟨_, PySem.W.mg_of X G ff⟩, ⟨_, PySem.W.mg_of X G fg⟩, ⟨r_KINDS, PySem.W.mg_of X G nZ, q_KINDS⟩, ⟨r_KIDLESS, PySem.W.mg_of X G gD, q_KIDLESS⟩, PySem.W.mg_none_of X G eZ, PySem.W.mg_none_of X G pw, PySem.W.mg_none_of X G gP, PySem.W.mg_none_of X G nF, PySem.W.mg_none_of X G ay, PySem.W.mg_none_of X G bR, PySem.W.mg_none_of X G mB, PySem.W.mg_none_of X G cL, PySem.W.mg_none_of X G rZ, PySem.W.mg_none_of X G gR, PySem.W.mg_none_of X G cy, PySem.W.mg_of X G y_PaneError, PySem.W.mg_of X G y_NoShare, PySem.W.mg_of X G y_NoBox, PySem.W.mg_of X G y_NoText, PySem.W.mg_of X G y_NoRule, PySem.W.mg_of X G y_NoName, PySem.W.mg_of X G y_NoPlace, PySem.W.mg_of X G y_NoPage, PySem.W.mg_of X G y_NoChange, PySem.W.mg_of X G y_NoUndo, PySem.W.mg_of X G y_NoRow, cls, up, kit⟩⟩
end KP
def PySem.W.Fast.tw6277073428395842749 : Unit := ()
def PySem.W.Fast.tw190499520859805257 : Unit := ()
def PySem.W.Fast.tw11519005828433370889 : Unit := ()
def PySem.W.Fast.tw16359118656000027726 : Unit := ()
def PySem.W.Fast.tw6864377012822681851 : Unit := ()
def PySem.W.Fast.tw10135672901770354276 : Unit := ()
def PySem.W.Fast.tw17593166685933229780 : Unit := ()
def PySem.W.Fast.tw11813821878797179149 : Unit := ()
def PySem.W.Fast.tw9334122924932588858 : Unit := ()
def PySem.W.Fast.tw303959435035923252 : Unit := ()
def PySem.W.Fast.tw8624913514004721091 : Unit := ()
def PySem.W.Fast.tw6974455021169127966 : Unit := ()
def PySem.W.Fast.tw13522625329112898321 : Unit := ()
def PySem.W.Fast.tw6630877455779204626 : Unit := ()
def PySem.W.Fast.tw5789018979655581230 : Unit := ()
def PySem.W.Fast.tw6185606163370063971 : Unit := ()
def PySem.W.Fast.tw17358389846963910131 : Unit := ()
def PySem.W.Fast.tw342466957414247842 : Unit := ()
def PySem.W.Fast.tw13501307325716251073 : Unit := ()
def PySem.W.Fast.tw13047655109199251775 : Unit := ()
def PySem.W.Fast.tw16237449862576276968 : Unit := ()
def PySem.W.Fast.tw3016796514942767940 : Unit := ()
def PySem.W.Fast.tw15371400641020440463 : Unit := ()
def PySem.W.Fast.tw16986466408431821005 : Unit := ()
def PySem.W.Fast.tw9355491233896451572 : Unit := ()
def PySem.W.Fast.tw14663341291432188521 : Unit := ()
def PySem.W.Fast.tw6775074452407192267 : Unit := ()
def PySem.W.Fast.tw3167549103287259085 : Unit := ()
def PySem.W.Fast.tw5501165167659078761 : Unit := ()
def PySem.W.Fast.tw9466111224990818423 : Unit := ()
def PySem.W.Fast.tw5914497694269771282 : Unit := ()
def PySem.W.Fast.tw5906613904887796969 : Unit := ()
def PySem.W.Fast.tw4762339134202474214 : Unit := ()
def PySem.W.Fast.tw2222835563864666191 : Unit := ()
def PySem.W.Fast.tw1441209506745174977 : Unit := ()
def PySem.W.Fast.tw16167361770319145402 : Unit := ()
def PySem.W.Fast.tw16765260898623524640 : Unit := ()
def PySem.W.Fast.tw9342636625820258334 : Unit := ()
open PySem PySem.W PyProof.Rows
set_option maxRecDepth 100000 in
set_option maxHeartbeats 0 in
theorem PySem.Challenge.cw_panehouse_k13_whole_edits_holds : PySem.Challenge.rw_panehouse_k13_whole_edits.Holds := by
 w_on; o_law; k_head; (case hw => w_witness2)
 k_fill
 refine' L2.CP (l := PySem.Challenge.rw_panehouse_k13_whole_edits) (n := 63) (k := 18) (x := "_law_script") (CX := L2.CX0) (sp := KP.spLaw) rfl (by decide) rfl ⟨rfl, by decide, by decide⟩ (fun w h Y => PySem.W.kIn_of Y) ?F ?S ?C
 case F =>
  intro w mg fa h KX G hmg
  have T : ∃ A : KP.Adr, (∀ (s : Shared) (u : Value), BindsTo s A.yr ⟨[u], []⟩ [("_law_script", u)]) ∧ KP.Txt (L2.KOf KX) mg A := by
   dsimp only [L2.KOf]
   refine' KP.txt_mk KX G ?a1 ?a2 ?a3 ?a4 ?a5 ?a6 ?a7 ?a8 ?a9 ?a10 ?a11 ?a12 ?a13 ?a14 ?a15 ?a16 ?a17 ?a18 ?a19 ?a20 ?a21 ?l21 ?cc21 ?k21 ?e21 ?a22 ?a23 ?a24 ?a25 ?a26 ?a27 ?a28 ?a29 ?a30 ?a31 ?a32 ?a33 ?a34 ?a35 ?a36 ?a37 ?a38 ?a39 ?a40 ?a41 ?a42 ?a43 ?cO ?fY ?fV ?dw ?cQ ?cN ?fe ?fX ?iM ?ff ?fg ?nZ ?q_KINDS ?gD ?q_KIDLESS ?eZ ?pw ?gP ?nF ?ay ?bR ?mB ?cL ?rZ ?gR ?cy ?y_PaneError ?y_NoShare ?y_NoBox ?y_NoText ?y_NoRule ?y_NoName ?y_NoPlace ?y_NoPage ?y_NoChange ?y_NoUndo ?y_NoRow ?cls ?up ?kit
   (case a1 => refine ⟨?_, ?_, ?_, ?_⟩ <;> k_is)
   (case a2 => refine ⟨?_, ?_, ?_, ?_⟩ <;> k_is)
   (case a3 => refine ⟨?_, ?_, ?_, ?_⟩ <;> k_is)
   (case a4 => refine ⟨?_, ?_, ?_, ?_⟩ <;> k_is)
   (case a5 => refine ⟨?_, ?_, ?_, ?_⟩ <;> k_is)
   (case a6 => refine ⟨?_, ?_, ?_, ?_⟩ <;> k_is)
   (case a7 => refine ⟨?_, ?_, ?_, ?_⟩ <;> k_is)
   (case a8 => refine ⟨?_, ?_, ?_, ?_⟩ <;> k_is)
   (case a9 => refine ⟨?_, ?_, ?_, ?_⟩ <;> k_is)
   (case a10 => refine ⟨?_, ?_, ?_, ?_⟩ <;> k_is)
   (case a11 => refine ⟨?_, ?_, ?_, ?_⟩ <;> k_is)
   (case a12 => refine ⟨?_, ?_, ?_, ?_⟩ <;> k_is)
   (case a13 => refine ⟨?_, ?_, ?_, ?_⟩ <;> k_is)
   (case a14 => refine ⟨?_, ?_, ?_, ?_⟩ <;> k_is)
   (case a15 => refine ⟨?_, ?_, ?_, ?_⟩ <;> k_is)
   (case a16 => refine ⟨?_, ?_, ?_, ?_⟩ <;> k_is)
   (case a17 => refine ⟨?_, ?_, ?_, ?_⟩ <;> k_is)
   (case a18 => refine ⟨?_, ?_, ?_, ?_⟩ <;> k_is)
   (case a19 => refine ⟨?_, ?_, ?_, ?_⟩ <;> k_is)
   (case a20 => refine ⟨?_, ?_, ?_, ?_⟩ <;> k_is)
   (case a21 => k_is)
   (case l21 => k_is)
   (case cc21 => k_is)
   (case k21 => k_is)
   (case e21 => k_is)
   (case a22 => refine ⟨?_, ?_, ?_, ?_⟩ <;> k_is)
   (case a23 => refine ⟨?_, ?_, ?_, ?_⟩ <;> k_is)
   (case a24 => refine ⟨?_, ?_, ?_, ?_⟩ <;> k_is)
   (case a25 => refine ⟨?_, ?_, ?_, ?_⟩ <;> k_is)
   (case a26 => refine ⟨?_, ?_, ?_, ?_⟩ <;> k_is)
   (case a27 => refine ⟨?_, ?_, ?_, ?_⟩ <;> k_is)
   (case a28 => refine ⟨?_, ?_, ?_, ?_⟩ <;> k_is)
   (case a29 => refine ⟨?_, ?_, ?_, ?_⟩ <;> k_is)
   (case a30 => refine ⟨?_, ?_, ?_, ?_⟩ <;> k_is)
   (case a31 => refine ⟨?_, ?_, ?_, ?_⟩ <;> k_is)
   (case a32 => refine ⟨?_, ?_, ?_, ?_⟩ <;> k_is)
   (case a33 => refine ⟨?_, ?_, ?_, ?_⟩ <;> k_is)
   (case a34 => refine ⟨?_, ?_, ?_, ?_⟩ <;> k_is)
   (case a35 => refine ⟨?_, ?_, ?_, ?_⟩ <;> k_is)
   (case a36 => refine ⟨?_, ?_, ?_, ?_⟩ <;> k_is)
   (case a37 => refine ⟨?_, ?_, ?_, ?_⟩ <;> k_is)
   (case a38 => refine ⟨?_, ?_, ?_, ?_⟩ <;> k_is)
   (case a39 => refine ⟨?_, ?_, ?_, ?_⟩ <;> k_is)
   (case a40 => refine ⟨?_, ?_, ?_, ?_⟩ <;> k_is)
   (case a41 => refine ⟨?_, ?_, ?_, ?_⟩ <;> k_is)
   (case a42 => refine ⟨?_, ?_, ?_, ?_⟩ <;> k_is)
   (case a43 => refine ⟨?_, ?_, ?_, ?_⟩ <;> k_is)
   (case cO => k_is)
   (case fY => k_is)
   (case fV => k_is)
   (case dw => k_is)
   (case cQ => k_is)
   (case cN => k_is)
   (case fe => k_is)
   (case fX => k_is)
   (case iM => k_is)
   (case ff => k_is)
   (case fg => k_is)
   (case nZ => k_is)
   (case q_KINDS => kernel_rfl)
   (case gD => k_is)
   (case q_KIDLESS => kernel_rfl)
   (case eZ => k_is)
   (case pw => k_is)
   (case gP => k_is)
   (case nF => k_is)
   (case ay => k_is)
   (case bR => k_is)
   (case mB => k_is)
   (case cL => k_is)
   (case rZ => k_is)
   (case gR => k_is)
   (case cy => k_is)
   (case y_PaneError => k_is)
   (case y_NoShare => k_is)
   (case y_NoBox => k_is)
   (case y_NoText => k_is)
   (case y_NoRule => k_is)
   (case y_NoName => k_is)
   (case y_NoPlace => k_is)
   (case y_NoPage => k_is)
   (case y_NoChange => k_is)
   (case y_NoUndo => k_is)
   (case y_NoRow => k_is)
   (case cls => kernel_rfl)
   (case up => kernel_rfl)
   (case kit => kernel_rfl)
  obtain ⟨A, hb, T⟩ := T
  have e0 := hmg.symm.trans T.Fz.m
  cases e0
  exact ⟨A.yr, hb, fun base kb nb => KP.ok_law T⟩
 case S => exact fun K H a ns hl _ hS => ⟨a, ns, rfl, hS, hl, fun _ => rfl⟩
 case C => exact fun _ _ _ _ z => z
