import PyProof.Rows.All
import Wide.All
import OpenK.AllK
import Wide.FinOn
import Lean
import PyProof.EqAt
import PyProof.EqKinds
import PyProof.TupleCall
import PyProof.Rows.SortRuns
import PyProof.DictItems
import PyProof.DictWalks
import PyProof.CollectIter
import PyProof.Rows.SortRev
import KE.KSortTup
import KE.KDictList
import OpenK.KOwn
import PyProof.NsDelKeeps
import PyProof.RulesAs
import KE.KIsAll
import PyProof.ExcArgsOwn
import KE.KMinBuiltin
import PyProof.Draws
import PyProof.EnumMake
import PyProof.Rows.EnumRows
import KE.KSortTup
import KE.KDictList
import KE.KItemsList
import PyProof.Rows.SortRev
import PyProof.DictItems
import PyProof.DictWalks
import PyProof.CollectIter
import PySem.Challenge.RW_evenform_k12_rows_turned
set_option Elab.async false
set_option linter.all false
set_option maxRecDepth 100000
/-! THE HAND LAYER, for ints, bools, texts, own classes, LISTS and tuples (index, slices, in, append, pop ..), calls, loops. Paste it whole ahead of your own text; what your proof does not reach may be deleted. -/
namespace L2
open PySem PySem.Spec PyProof.Rows

/-- a key: an int or a str -/
abbrev Key := Sum Int Str
def keyIs : Key → Value → Bool
  | .inl k, v => Value.isInt k v
  | .inr x, v => Value.isStrOf x v
def keyH (w : World) : Key → Int
  | .inl k => hashInt k
  | .inr x => hashStr w x
theorem keyIs_shape : ∀ {k : Key} {v : Value}, keyIs k v = true → (∃ i t, k = Sum.inl i ∧ v = Value.int i t) ∨ (∃ x t, k = Sum.inr x ∧ v = Value.str x t)
  | .inl i, v, h => by
    obtain ⟨t, e⟩ := Value.isInt_shape (k := i) (v := v) h
    exact .inl ⟨i, t, rfl, e⟩
  | .inr x, v, h => by
    obtain ⟨t, e⟩ := Value.isStrOf_shape (x := x) (v := v) h
    exact .inr ⟨x, t, rfl, e⟩
theorem key_ll (a b : Int) : decide ((Sum.inl a : Key) = Sum.inl b) = (a == b) := by
  by_cases e : a = b
  · subst e; simp
  · have h : ¬ (Sum.inl a : Key) = Sum.inl b := fun q => e (Sum.inl.inj q)
    rw [decide_eq_false h]
    exact (beq_eq_false_iff_ne.mpr e).symm
theorem key_rr (a b : Str) : decide ((Sum.inr a : Key) = Sum.inr b) = decide (a = b) := by
  by_cases e : a = b
  · subst e; simp
  · have h : ¬ (Sum.inr a : Key) = Sum.inr b := fun q => e (Sum.inr.inj q)
    rw [decide_eq_false h, decide_eq_false e]
theorem key_lr (a : Int) (b : Str) : decide ((Sum.inl a : Key) = Sum.inr b) = false := decide_eq_false (fun q => nomatch q)
theorem key_rl (a : Str) (b : Int) : decide ((Sum.inr a : Key) = Sum.inl b) = false := decide_eq_false (fun q => nomatch q)

def mixKind (prog : Program) (w : World) : PySem.KeyKind prog w Key where
  is := keyIs
  hash := keyH w
  inj := fun v a b ha hb => by
    rcases keyIs_shape ha with ⟨i, t, rfl, rfl⟩ | ⟨x, t, rfl, rfl⟩
    · rcases keyIs_shape hb with ⟨j, u, rfl, e⟩ | ⟨y, u, rfl, e⟩
      · injection e with e1 _; rw [e1]
      · exact nomatch e
    · rcases keyIs_shape hb with ⟨j, u, rfl, e⟩ | ⟨y, u, rfl, e⟩
      · exact nomatch e
      · injection e with e1 _; rw [e1]
  byValue := fun k v h => by
    rcases keyIs_shape h with ⟨i, t, rfl, rfl⟩ | ⟨x, t, rfl, rfl⟩ <;> rfl
  pyHash := fun hv h => by
    rcases keyIs_shape hv with ⟨i, t, rfl, rfl⟩ | ⟨x, t, rfl, rfl⟩
    · exact wpAny_pyHash_int h
    · exact wpAny_pyHash_str h
  eqBool := fun hu hv h => by
    rcases keyIs_shape hu with ⟨i, t, rfl, rfl⟩ | ⟨x, t, rfl, rfl⟩
    · rcases keyIs_shape hv with ⟨j, u, rfl, rfl⟩ | ⟨y, u, rfl, rfl⟩
      · rw [key_ll] at h; exact wpAny_eqBool_int h
      · rw [key_lr] at h; exact SeqAt.EqAt.int_str i t y u _ _ _ _ h
    · rcases keyIs_shape hv with ⟨j, u, rfl, rfl⟩ | ⟨y, u, rfl, rfl⟩
      · rw [key_rl] at h; exact SeqAt.EqAt.str_int x t j u _ _ _ _ h
      · rw [key_rr] at h; exact wpAny_eqBool_str h
  «strs» := fun k x t v h => by
    rcases keyIs_shape h with ⟨i, u, rfl, e⟩ | ⟨y, u, rfl, e⟩
    · exact nomatch e
    · injection e with e1 _
      subst e1
      cases v <;> rfl

end L2

namespace L2
open PySem PySem.Spec PyProof.Rows

/-- a value, without the heap -/
inductive V where
  | non | bl (b : Bool) | int (i : Int) | str (x : Str) | byt (b : Array UInt8) | flt (b : UInt64) | ref (a : Addr) | ty (n : String)
  deriving DecidableEq

def RelV : V → Value → Prop
  | .non, u => u = Value.none
  | .bl b, u => u = Value.bool b
  | .int i, u => ∃ t, u = Value.int i t
  | .str x, u => ∃ t, u = Value.str x t
  | .byt b, u => ∃ t, u = Value.bytes b t
  | .flt b, u => ∃ t, u = Value.float b t
  | .ref a, u => u = Value.ref a
  | .ty n, u => u = Value.type n

abbrev Vals : List V → List Value → Prop := Paired RelV
theorem Vals.length {xs : List V} {us : List Value} (r : Vals xs us) : xs.length = us.length := Paired.length r
theorem Vals.get : ∀ {xs : List V} {us : List Value} {i : Nat} {x : V}, Vals xs us → xs[i]? = some x → ∃ u, us[i]? = some u ∧ RelV x u
  | _, _, _, _, .nil, e => by simp at e
  | _, _, 0, _, .cons r _, e => by simp at e; subst e; exact ⟨_, rfl, r⟩
  | _, _, i + 1, x, .cons _ t, e => by
    obtain ⟨u, h1, h2⟩ := Vals.get (i := i) (x := x) t (by simpa using e)
    exact ⟨u, by simpa using h1, h2⟩
theorem Vals.set {x : V} {u : Value} (r : RelV x u) : ∀ {xs : List V} {us : List Value} (i : Nat), Vals xs us → Vals (xs.set i x) (us.set i u)
  | _, _, _, .nil => .nil
  | _, _, 0, .cons _ t => .cons r t
  | _, _, i + 1, .cons q t => .cons q (Vals.set r i t)
theorem Vals.append : ∀ {xs ys : List V} {us ws : List Value}, Vals xs us → Vals ys ws → Vals (xs ++ ys) (us ++ ws)
  | _, _, _, _, .nil, s => s
  | _, _, _, _, .cons r t, s => .cons r (Vals.append t s)
theorem Vals.take : ∀ {xs : List V} {us : List Value} (n : Nat), Vals xs us → Vals (xs.take n) (us.take n)
  | _, _, 0, _ => .nil
  | _, _, _ + 1, .nil => .nil
  | _, _, n + 1, .cons r t => .cons r (Vals.take n t)
theorem Vals.drop : ∀ {xs : List V} {us : List Value} (n : Nat), Vals xs us → Vals (xs.drop n) (us.drop n)
  | _, _, 0, r => r
  | _, _, _ + 1, .nil => .nil
  | _, _, n + 1, .cons _ t => Vals.drop n t
def RelO : Option V → Option Value → Prop
  | some v, some u => RelV v u
  | none, none => True
  | _, _ => False
def KV {κ : Type} : List (κ × V) → List (κ × Value) → Prop := Paired fun (p : κ × V) (q : κ × Value) => p.1 = q.1 ∧ RelV p.2 q.2

/-- a key of a dict (00_mix): an int or a text -/
def kV : Key → V
  | .inl i => .int i
  | .inr x => .str x

/-- what stands at a tracked address -/
inductive HO where
  /-- a list -/
  | lst (xs : List V)
  /-- a tuple (never changes) -/
  | tup (xs : List V)
  /-- a dict whose keys are ints and texts; one whose keys are tuples of ints and texts (the empty one is both) -/
  | dK (kvs : List (Key × V)) | dT (kvs : List (List Key × V))
  /-- a set of ints: its members, its size -/
  | set (S : Int → Bool) (n : Nat)
  /-- an instance of the class at C, its dict at dx, its attributes -/
  | ins (C dx : Addr) (fs : List (Str × V))
  /-- the dict of the instance at x -/
  | own (x : Addr)
  /-- the dict of an exception -/
  | xd (fs : List (Str × V))
  /-- a bound method, f of x -/
  | met (f x : Addr)
  /-- a range object lo, lo + 1, .. below hi -/
  | rng (lo hi : Int)
  /-- a thing that is known to the object (the script; a dict while a loop walks it): read, never written while it is so -/
  | frz (o : Obj) (u : HO)
  /-- a code object's table -/
  | tbl (ps : Array Value)
  /-- any other thing, by what is true of its one object (a def of one's own: SetO a S n := HO.ext fun h => ..) -/
  | ext (φ : Heap → Prop)

abbrev Hp := Addr → Option HO
def upd (H : Hp) (a : Addr) (o : HO) : Hp := fun b => if b = a then some o else H b
theorem upd_same {H : Hp} {a : Addr} {o : HO} : upd H a o a = some o := by unfold upd; rw [if_pos rfl]
theorem upd_ne {H : Hp} {a b : Addr} {o : HO} (h : b ≠ a) : upd H a o b = H b := by unfold upd; rw [if_neg h]
/-- two objects of different content stand apart -/
theorem ne_of {H : Hp} {a b : Addr} {o u : HO} (h : H a = some o) (h' : H b = some u) (d : o ≠ u) : a ≠ b := by
  intro e; subst e; rw [h] at h'; exact d (Option.some.inj h')
theorem ne_of_none {H : Hp} {a b : Addr} {o : HO} (h : H a = some o) (h' : H b = none) : a ≠ b := by
  intro e; subst e; rw [h] at h'; cases h'

section
variable (P : Program) (w : World)
def ObjOk (H : Hp) (h : Heap) (a : Addr) : HO → Prop
  | .lst xs => xs.length ≤ sizeLine ∧ ∃ (its : List Value) (n : Nat), Vals xs its ∧ h.get? a = some { cls := .type "list", data := .seq its.toArray n }
  | .tup xs => xs.length ≤ sizeLine ∧ ∃ its : List Value, Vals xs its ∧ IsTup h a its.toArray
  | .dK kvs => kvs.length ≤ sizeLine ∧ (a == sysModules) = false ∧ ∃ vs, KV kvs vs ∧ h.DictOf (mixKind P w) a vs
  | .dT kvs => kvs.length ≤ sizeLine ∧ (a == sysModules) = false ∧ ∃ xs : List (List Key × Addr × Value),
      Paired (fun (p : List Key × V) (q : List Key × Addr × Value) => p.1 = q.1 ∧ H q.2.1 = some (.tup (p.1.map kV)) ∧ RelV p.2 q.2.2) kvs xs ∧
      ∃ o es ep, h.get? a = some o ∧ o.ExactDict ∧ o.data = .dict es ep ∧ es.toList = xs.map (entryOfKey (tupleKind (mixKind P w))) ∧ (xs.map (·.1)).Nodup
  | .set S n => h.SetOf (intKind P w) a S n
  | .ins C dx fs => H dx = some (.own a) ∧ fs.length ≤ 1000 ∧ dx ≠ a ∧ h.get? a = some (PySem.W.instObj C dx) ∧
      ∃ mA, h.Ns1 dx mA ∧ (∀ f, RelO (fs.lookup f) (mA f)) ∧ PySem.Within mA (fs.map (·.1))
  | .own _ => ∃ o, h.get? a = some o
  | .xd fs => ∃ mA, h.Ns1 a mA ∧ ∀ f, RelO (fs.lookup f) (mA f)
  | .rng lo hi => ∃ t u v, h.get? a = some { cls := .type "range", data := .fields #[.int lo t, .int hi u, .int 1 v] }
  | .frz o u => h.get? a = some o ∧ ObjOk H h a u
  | .tbl ps => h.get? a = some { cls := .none, data := .fields ps }
  | .met f x => h.get? a = some (PySem.W.methodObj (.ref f) (.ref x))
  | .ext φ => φ h ∧ (∃ o, h.get? a = some o) ∧ ∀ h1 h2 : Heap, φ h1 → (∀ o, h1.get? a = some o → h2.get? a = some o) → φ h2
/-- the abstract heap is held -/
def HOk (H : Hp) (h : Heap) : Prop := ∀ a o, H a = some o → ObjOk P w H h a o
end

section
variable {P : Program} {w : World} {H H' : Hp} {h h' : Heap} {a : Addr} {o : HO}
theorem ObjOk.lt (x : ObjOk P w H h a o) : a < h.objs.size := by
  cases o with
  | lst xs => obtain ⟨_, _, _, _, e⟩ := x; exact Heap.lt_size e
  | tup xs => obtain ⟨_, _, _, p⟩ := x; exact p.lt
  | dK kvs => obtain ⟨_, _, _, _, o, _, _, e, _⟩ := x; exact Heap.lt_size e
  | dT kvs => obtain ⟨_, _, _, _, o, _, _, e, _⟩ := x; exact Heap.lt_size e
  | set S n => obtain ⟨o, _, _, _, e, _⟩ := x; exact Heap.lt_size e
  | ins C dx fs => obtain ⟨_, _, _, e, _⟩ := x; exact Heap.lt_size e
  | own y => obtain ⟨_, e⟩ := x; exact Heap.lt_size e
  | xd fs => obtain ⟨_, ⟨_, _, _, e, _⟩, _⟩ := x; exact Heap.lt_size e
  | rng lo hi => obtain ⟨_, _, _, e⟩ := x; exact Heap.lt_size e
  | frz ob u => obtain ⟨e, _⟩ := x; exact Heap.lt_size e
  | tbl ps => exact Heap.lt_size (show h.get? a = some _ from x)
  | met f y => exact Heap.lt_size (show h.get? a = some _ from x)
  | ext φ => obtain ⟨_, ⟨_, e⟩, _⟩ := x; exact Heap.lt_size e
theorem Paired.mapP {α β : Type} {F G : α → β → Prop} : ∀ {l₁ : List α} {l₂ : List β}, Paired F l₁ l₂ → (∀ a b, F a b → G a b) → Paired G l₁ l₂
  | _, _, .nil, _ => .nil
  | _, _, .cons r t, f => .cons (f _ _ r) (Paired.mapP t f)
/-- what an object's description leans on: its own object, its own dict, the tuples -/
theorem ObjOk.stay (x : ObjOk P w H h a o) (k : ∀ b u, (b = a ∨ H b = some (.own a)) → h.get? b = some u → h'.get? b = some u)
    (ho : ∀ b, H b = some (.own a) → H' b = some (.own a)) (ht : ∀ b xs, H b = some (.tup xs) → H' b = some (.tup xs)) : ObjOk P w H' h' a o := by
  induction o with
  | lst xs => obtain ⟨z, its, n, r, e⟩ := x; exact ⟨z, its, n, r, k _ _ (.inl rfl) e⟩
  | tup xs => obtain ⟨z, its, r, ob, e, c⟩ := x; exact ⟨z, its, r, ob, k _ _ (.inl rfl) e, c⟩
  | dK kvs => obtain ⟨z, y, vs, r, ob, es, ep, e, c⟩ := x; exact ⟨z, y, vs, r, ob, es, ep, k _ _ (.inl rfl) e, c⟩
  | dT kvs =>
    obtain ⟨z, y, xs, r, ob, es, ep, e, c⟩ := x
    exact ⟨z, y, xs, Paired.mapP r fun p q z => ⟨z.1, ht _ _ z.2.1, z.2.2⟩, ob, es, ep, k _ _ (.inl rfl) e, c⟩
  | set S n => obtain ⟨ob, es, ep, t, e, c⟩ := x; exact ⟨ob, es, ep, t, k _ _ (.inl rfl) e, c⟩
  | ins C dx fs =>
    obtain ⟨d, z, ne, e, mA, ⟨od, es, ep, e2, c⟩, r⟩ := x
    exact ⟨ho _ d, z, ne, k _ _ (.inl rfl) e, mA, ⟨od, es, ep, k _ _ (.inr d) e2, c⟩, r⟩
  | own y => obtain ⟨ob, e⟩ := x; exact ⟨ob, k _ _ (.inl rfl) e⟩
  | xd fs => obtain ⟨mA, ⟨od, es, ep, e, c⟩, r⟩ := x; exact ⟨mA, ⟨od, es, ep, k _ _ (.inl rfl) e, c⟩, r⟩
  | rng lo hi => obtain ⟨t, u, v, e⟩ := x; exact ⟨t, u, v, k _ _ (.inl rfl) e⟩
  | frz ob u ih => obtain ⟨e, q⟩ := x; exact ⟨k _ _ (.inl rfl) e, ih q⟩
  | tbl ps =>
    have e : h.get? a = some { cls := .none, data := .fields ps } := x
    show h'.get? a = some { cls := .none, data := .fields ps }
    exact k a _ (.inl rfl) e
  | met f y =>
    have e : h.get? a = some (PySem.W.methodObj (.ref f) (.ref y)) := x
    show h'.get? a = some (PySem.W.methodObj (.ref f) (.ref y))
    exact k a _ (.inl rfl) e
  | ext φ => obtain ⟨p, ⟨o, e⟩, st⟩ := x; exact ⟨st _ _ p fun o q => k _ _ (.inl rfl) q, ⟨o, k _ _ (.inl rfl) e⟩, st⟩
theorem HOk.lt (x : HOk P w H h) (e : H a = some o) : a < h.objs.size := (x a o e).lt
theorem HOk.fresh (x : HOk P w H h) (e : h.objs.size ≤ a) : H a = none := by
  cases q : H a with
  | none => rfl
  | some u => exact absurd (Nat.lt_of_lt_of_le (x.lt q) e) (Nat.lt_irrefl _)
/-- every object of the heap is kept -/
theorem HOk.kept (x : HOk P w H h) (k : ∀ b u, h.get? b = some u → h'.get? b = some u) : HOk P w H h' := fun a o e =>
  (x a o e).stay (fun b u _ q => k b u q) (fun _ q => q) fun _ _ q => q
/-- a new object is laid and tracked -/
theorem HOk.laid (x : HOk P w H h) (k : ∀ b u, h.get? b = some u → h'.get? b = some u) (hp : h.objs.size ≤ a) (new : ObjOk P w (upd H a o) h' a o) : HOk P w (upd H a o) h' := fun b u e => by
  have hn := x.fresh hp
  by_cases hb : b = a
  · subst hb; rw [upd_same] at e; cases e; exact new
  · rw [upd_ne hb] at e
    exact (x b u e).stay (fun c v _ q => k c v q) (fun c q => by rw [upd_ne (ne_of_none q hn)]; exact q) fun c xs q => by rw [upd_ne (ne_of_none q hn)]; exact q
end

/-- what may be read as u: it is u, or a known u -/
def Rd (H : Hp) (a : Addr) (u : HO) : Prop := H a = some u ∨ ∃ o, H a = some (.frz o u)
theorem Rd.of {H : Hp} {a : Addr} {u : HO} (h : H a = some u) : Rd H a u := .inl h
theorem Rd.ok {P : Program} {w : World} {H : Hp} {h : Heap} {a : Addr} {u : HO} (r : Rd H a u) (x : HOk P w H h) : ObjOk P w H h a u := by
  rcases r with r | ⟨o, r⟩
  · exact x a u r
  · obtain ⟨_, q⟩ := x a _ r
    exact q
/-- what may be written -/
def Mut : Option HO → Prop
  | some (.lst _) => True
  | some (.dK _) => True
  | some (.dT _) => True
  | some (.set _ _) => True
  | some (.ins _ _ _) => True
  | some (.ext _) => True
  | _ => False
section
variable {P : Program} {w : World} {H : Hp} {h h' : Heap} {x e : Addr} {o' : HO}
/-- the object at e is changed: x itself, or the dict of the instance x -/
theorem HOk.write (ok : HOk P w H h) (mu : Mut (H x)) (he : e = x ∨ H e = some (.own x)) (k : ∀ b u, b ≠ e → h.get? b = some u → h'.get? b = some u) (heo : ∃ u, h'.get? e = some u)
    (new : ObjOk P w (upd H x o') h' x o') : HOk P w (upd H x o') h' := fun b u q => by
  have nown : ∀ c y, H c = some (.own y) → c ≠ x := fun c y r z => by subst z; rw [r] at mu; exact mu
  have ntup : ∀ c xs, H c = some (.tup xs) → c ≠ x := fun c xs r z => by subst z; rw [r] at mu; exact mu
  by_cases hb : b = x
  · subst hb; rw [upd_same] at q; cases q; exact new
  · rw [upd_ne hb] at q
    by_cases hbe : b = e
    · have q' : H b = some (.own x) := by
        rcases he with z | z
        · exact absurd (hbe.trans z) hb
        · rw [hbe]; exact z
      rw [q] at q'; cases q'
      obtain ⟨v, hv⟩ := heo
      exact ⟨v, by rw [hbe]; exact hv⟩
    · refine (ok b u q).stay (fun c v hc r => k c v ?_ r) (fun c r => by rw [upd_ne (nown c b r)]; exact r) fun c xs r => by rw [upd_ne (ntup c xs r)]; exact r
      rcases hc with rfl | hc
      · exact hbe
      · rintro rfl
        rcases he with z | z
        · exact nown c b hc z
        · rw [hc] at z; cases z; exact hb rfl
end

/-! ### kept unless tracked; of the frames at fs (the callers') the slots may change (an exception that passes writes there); of the records at ex (iterators) nothing is said -/
structure Un (fs ex : List Addr) (H H' : Hp) (h h' : Heap) : Prop where
  keep : ∀ b o, h.get? b = some o → H b = none → b ∉ fs → b ∉ ex → h'.get? b = some o
  slot : ∀ b o, h.get? b = some o → H b = none → b ∈ fs → b ∉ ex → ∃ sl, h'.get? b = some { o with slots := sl }
  free : ∀ b o, h.get? b = some o → H b = none → b ∉ ex → H' b = none
  there : ∀ b o, h.get? b = some o → b ∉ ex → ∃ o', h'.get? b = some o'
  tups : ∀ b xs, H b = some (.tup xs) → H' b = some (.tup xs)
  frzs : ∀ b o u, H b = some (.frz o u) → H' b = some (.frz o u)
  tbls : ∀ b ps, H b = some (.tbl ps) → ∃ more, H' b = some (.tbl (ps ++ more))
section
variable {fs fs' ex ex' : List Addr} {H H1 H2 : Hp} {h h1 h2 h' : Heap} {a x e : Addr} {o : HO}
theorem Un.any (u : Un fs ex H H1 h h1) {b : Addr} {ob : Obj} (q : h.get? b = some ob) (n : H b = none) (hx : b ∉ ex) : ∃ sl, h1.get? b = some { ob with slots := sl } := by
  by_cases hb : b ∈ fs
  · exact u.slot b ob q n hb hx
  · exact ⟨ob.slots, u.keep b ob q n hb hx⟩
theorem Un.trans (a : Un fs ex H H1 h h1) (b : Un fs ex H1 H2 h1 h2) : Un fs ex H H2 h h2 where
  keep := fun c ob q n hc hx => b.keep c ob (a.keep c ob q n hc hx) (a.free c ob q n hx) hc hx
  slot := fun c ob q n hc hx => by
    obtain ⟨sl, e1⟩ := a.slot c ob q n hc hx
    obtain ⟨sl', e2⟩ := b.slot c _ e1 (a.free c ob q n hx) hc hx
    exact ⟨sl', e2⟩
  free := fun c ob q n hx => by
    obtain ⟨o', e1⟩ := a.there c ob q hx
    exact b.free c o' e1 (a.free c ob q n hx) hx
  there := fun c ob q hx => by
    obtain ⟨o', e1⟩ := a.there c ob q hx
    exact b.there c o' e1 hx
  tups := fun c xs q => b.tups c xs (a.tups c xs q)
  frzs := fun c ob xs q => b.frzs c ob xs (a.frzs c ob xs q)
  tbls := fun c ps q => by
    obtain ⟨m1, e1⟩ := a.tbls c ps q
    obtain ⟨m2, e2⟩ := b.tbls c _ e1
    exact ⟨m1 ++ m2, by rw [e2, Array.append_assoc]⟩
theorem Un.kept (k : ∀ b u, h.get? b = some u → h'.get? b = some u) : Un fs ex H H h h' :=
  ⟨fun b ob q _ _ _ => k b ob q, fun b ob q _ _ _ => ⟨ob.slots, k b ob q⟩, fun _ _ _ n _ => n, fun b ob q _ => ⟨ob, k b ob q⟩, fun _ _ q => q, fun _ _ _ q => q, fun _ ps q => ⟨#[], by rw [q]; simp⟩⟩
theorem Un.refl : Un fs ex H H h h := Un.kept fun _ _ q => q
theorem Un.laid (k : ∀ b u, h.get? b = some u → h'.get? b = some u) (hp : h.objs.size ≤ a) (hn : H a = none) : Un fs ex H (upd H a o) h h' where
  keep := fun b u q _ _ _ => k b u q
  slot := fun b u q _ _ _ => ⟨u.slots, k b u q⟩
  free := fun b u q n _ => by rw [upd_ne (Nat.ne_of_lt (Nat.lt_of_lt_of_le (Heap.lt_size q) hp))]; exact n
  there := fun b u q _ => ⟨u, k b u q⟩
  tups := fun b xs q => by rw [upd_ne (ne_of_none q hn)]; exact q
  frzs := fun b u xs q => by rw [upd_ne (ne_of_none q hn)]; exact q
  tbls := fun b ps q => ⟨#[], by rw [upd_ne (ne_of_none q hn), q]; simp⟩
theorem Un.write (mu : Mut (H x)) (he : e = x ∨ H e = some (.own x)) (k : ∀ b u, b ≠ e → h.get? b = some u → h'.get? b = some u) (heo : ∃ u, h'.get? e = some u) : Un fs ex H (upd H x o) h h' := by
  have hx : ∀ b, H b = none → b ≠ x := fun b n z => by subst z; rw [n] at mu; exact mu
  have hb : ∀ b, H b = none → b ≠ e := fun b n z => by
    subst z
    rcases he with r | r
    · exact hx b n r
    · rw [n] at r; cases r
  have hm : ∀ b u, H b = some u → ¬ Mut (some u) → b ≠ x := fun b u q nm z => by subst z; rw [q] at mu; exact nm mu
  refine ⟨fun b u q n _ _ => k b u (hb b n) q, fun b u q n _ _ => ⟨u.slots, k b u (hb b n) q⟩, fun b u q n _ => by rw [upd_ne (hx b n)]; exact n, fun b u q _ => ?_,
    fun b xs q => by rw [upd_ne (hm b _ q fun z => z)]; exact q, fun b u xs q => by rw [upd_ne (hm b _ q fun z => z)]; exact q, fun b ps q => ⟨#[], by rw [upd_ne (hm b _ q fun z => z), q]; simp⟩⟩
  by_cases hbe : b = e
  · subst hbe; exact heo
  · exact ⟨u, k b u hbe q⟩
theorem Un.mono (u : Un fs ex H H1 h h1) (hs : ∀ b ∈ fs, b ∈ fs') (hx : ∀ b ∈ ex, b ∈ ex') : Un fs' ex' H H1 h h1 :=
  ⟨fun b ob q n hb he => u.keep b ob q n (fun z => hb (hs b z)) fun z => he (hx b z), fun _ _ q n _ he => u.any q n fun z => he (hx _ z), fun b ob q n he => u.free b ob q n fun z => he (hx b z), fun b ob q he => u.there b ob q fun z => he (hx b z), u.tups, u.frzs, u.tbls⟩
end

/-! ### the heap without what is tracked -/
def trk (h : Heap) (H : Hp) : List Addr := (List.range h.objs.size).filter fun a => (H a).isSome
def hidT (h : Heap) (H : Hp) : Heap := PySem.W.hideAll h (trk h H)
theorem hidT_size (h : Heap) (H : Hp) : (hidT h H).objs.size = h.objs.size := PySem.W.hideAll_size _ _
theorem hidT_get {h : Heap} {H : Hp} {b : Addr} {o : Obj} (e : h.get? b = some o) (n : H b = none) : (hidT h H).get? b = some o :=
  PySem.W.hideAll_get _ e fun hm => by
    have q : (H b).isSome = true := (List.mem_filter.mp hm).2
    rw [n] at q; simp at q
theorem of_hidT {h : Heap} {H : Hp} {b : Addr} {o : Obj} (e : (hidT h H).get? b = some o) : h.get? b = some o ∧ H b = none := by
  have e' : h.get? b = some o := PySem.W.of_hideAll (trk h H) e
  refine ⟨e', ?_⟩
  cases q : H b with
  | none => rfl
  | some x =>
    have hm : b ∈ trk h H := List.mem_filter.mpr ⟨List.mem_range.mpr (Heap.lt_size e'), by simp [q]⟩
    have z : (hidT h H).get? b = none := PySem.W.hideAll_none (trk h H) hm
    rw [z] at e; cases e

/-! ### OpenK's ledger, filled with every new object but one -/
def allNews (g h : Heap) (L : Addr) : List (Addr × Obj) := (List.range h.objs.size).filterMap fun a => if a = L ∨ (g.get? a).isSome = true then none else (h.get? a).map fun o => (a, o)
def rest (g h : Heap) (L d : Addr) : List (Addr × Obj) := (allNews g h L).filter fun p => decide (p.1 ≠ d)
end L2

namespace L2
open PySem PySem.Spec PyProof.Rows

/-- the module's facts, over the base: the heap at the law's entry without what is tracked there -/
structure Mod (K : PySem.W.Frag) (mg : Str → Option Value) (base : Heap) : Prop where
  kin : K.In base
  glob : base.Ns mainGlobals mg
  blt : ∃ mb, base.Ns builtinsNs mb ∧ ∀ x : Str, x ≠ "__name__" → mb x = bootBuiltins x
  nolimit : base.NoLimit

/-- the context: a def's body (or a comprehension's block) running. base: fixed through the whole law; s₀, H₀: the entry; outer: the frames whose slots others may change (a def's callers); stack: all frames that run;
   ex: iterators that were made ahead of the entry and are walked here (a comprehension's); fn: the names whose cells were made at the entry (a def: all; a comprehension's block: its own); calm: not within an except suite; pn: pins that every state bears; xe: what is wanted of an exception that leaves the code -/
structure Cx where
  prog : Program
  w : World
  K : PySem.W.Frag
  mg : Str → Option Value
  base : Heap
  A : Around
  N : List Str
  s₀ : Shared
  H₀ : Hp
  env : Env
  outer : List Env
  stack : List Env
  ex : List Addr
  fn : Str → Bool
  calm : Bool
  pn : List (Addr × Obj)
  xe : Value → Shared → Prop
/-- the callers' frames -/
def frs (l : List Env) : List Addr := l.filterMap (·.frame)
abbrev Cx.fs (X : Cx) : List Addr := frs X.outer

def Vis (sc : Scope) (x : Str) : Prop := sc.names.lookup x = some .local ∨ sc.names.lookup x = some .cell ∨ sc.names.lookup x = some .free
def Loc (sc : Scope) (x : Str) : Prop := sc.names.lookup x = some .local ∨ sc.names.lookup x = some .cell
def Look (env : Env) (h : Heap) (m : Str → Option Value) (x : Str) (u : Value) : Prop :=
  (env.kindOf x = some .local ∧ m x = some u) ∨ ((env.kindOf x = some .cell ∨ env.kindOf x = some .free) ∧ ∃ c, env.cells.lookup x = some c ∧ h.IsCell c (some u))

structure Cx.Ok (X : Cx) : Prop where
  mod : Mod X.K X.mg X.base
  kind : X.env.scope.kind = .function
  glob : X.env.globals = mainGlobals
  blt : X.env.builtins = builtinsNs
  above : X.s₀.heap.objs.size ≤ X.env.locals
  inj : ∀ x y c, X.env.cells.lookup x = some c → X.env.cells.lookup y = some c → x = y
  has : ∀ x, (X.env.kindOf x = some .cell ∨ X.env.kindOf x = some .free) → ∃ c, X.env.cells.lookup x = some c
  cab : ∀ x c, X.fn x = true → X.env.cells.lookup x = some c → X.s₀.heap.objs.size ≤ c
  hd : X.calm = true → X.A.handled = none
  frames : X.A.frames = some X.stack
  stk : X.stack = X.outer ∨ (X.stack = X.env :: X.outer ∧ X.env.frame = some X.env.locals)
  exf : ∀ b ∈ X.ex, b ≠ X.env.locals ∧ ∀ x c, X.env.cells.lookup x = some c → c ≠ b
  bs : ∀ b o, X.base.get? b = some o → X.s₀.heap.get? b = some o ∧ X.H₀ b = none
  bsz : X.base.objs.size ≤ X.s₀.heap.objs.size
  noex : ∀ b o, X.base.get? b = some o → b ∉ X.ex
  exfs : ∀ b ∈ X.ex, b ∉ X.fs
  funs : X.s₀.heap.FunFrames X.base X.outer
  frf : ∀ b ∈ X.fs, X.H₀ b = none

structure Inv (X : Cx) (pins : List (Addr × Obj)) (σ : List (Option V)) (H : Hp) (s : Shared) : Prop where
  ok : X.Ok
  os : s.os = X.s₀.os
  bare : AllBare s.gens
  base : Un X.fs X.ex X.H₀ H X.s₀.heap s.heap
  loc : ∃ m, s.heap.Ns X.env.locals m ∧ ∀ (i : Nat) (x : Str) (v : V), X.N[i]? = some x → σ[i]? = some (some v) → Vis X.env.scope x → ∃ u, RelV v u ∧ Look X.env s.heap m x u
  cell : ∀ x c, X.env.cells.lookup x = some c → ∃ v, s.heap.IsCell c v
  free : H X.env.locals = none
  freeC : ∀ x c, X.env.cells.lookup x = some c → H c = none
  pin : ∀ p ∈ X.pn ++ pins, s.heap.get? p.1 = some p.2 ∧ H p.1 = none ∧ p.1 ≠ X.env.locals ∧ p.1 ∉ X.fs ∧ ∀ v, p.2.data ≠ .cell v
  hok : HOk X.prog X.w H s.heap
  len : σ.length = X.N.length

section
variable {X : Cx} {pins : List (Addr × Obj)} {σ : List (Option V)} {H H' : Hp} {s : Shared} {h' : Heap}

theorem Cx.Ok.nofr (ok : X.Ok) {b : Addr} {o : Obj} (e : X.base.get? b = some o) : b ∉ X.fs := fun hb => by
  have := (ok.funs.mem hb).1
  rw [e] at this; cases this
theorem Inv.bs (I : Inv X pins σ H s) : ∀ b o, X.base.get? b = some o → s.heap.get? b = some o ∧ H b = none := fun b o e =>
  ⟨I.base.keep b o (I.ok.bs b o e).1 (I.ok.bs b o e).2 (I.ok.nofr e) (I.ok.noex b o e), I.base.free b o (I.ok.bs b o e).1 (I.ok.bs b o e).2 (I.ok.noex b o e)⟩
theorem Inv.bk (I : Inv X pins σ H s) : ∀ b o, X.base.get? b = some o → s.heap.get? b = some o := fun b o e => (I.bs b o e).1
theorem Inv.mod (I : Inv X pins σ H s) : Mod X.K X.mg X.base := I.ok.mod
theorem Inv.kIn (I : Inv X pins σ H s) : X.K.In s.heap := I.ok.mod.kin.keeps I.bk
theorem Inv.nolimit (I : Inv X pins σ H s) : s.heap.NoLimit := I.ok.mod.nolimit.keeps I.bk
theorem Inv.lt (I : Inv X pins σ H s) : X.env.locals < s.heap.objs.size := let ⟨_, hn, _⟩ := I.loc; hn.lt
theorem Inv.sz (I : Inv X pins σ H s) : X.s₀.heap.objs.size ≤ s.heap.objs.size := Nat.le_trans I.ok.above (Nat.le_of_lt I.lt)
theorem Inv.nofs (I : Inv X pins σ H s) {a : Addr} (h : s.heap.objs.size ≤ a) : a ∉ X.fs := fun hb => by
  obtain ⟨_, o, ho, _⟩ := I.ok.funs.mem hb
  exact absurd (Nat.lt_of_lt_of_le (Heap.lt_size ho) (Nat.le_trans I.sz h)) (Nat.lt_irrefl _)
theorem Inv.cne (I : Inv X pins σ H s) : ∀ x c, X.env.cells.lookup x = some c → c ≠ X.env.locals := fun x c e z => by
  obtain ⟨v, o, ho, hd⟩ := I.cell x c e
  obtain ⟨m, ⟨o', es, ep, ho', hd', _⟩, _⟩ := I.loc
  rw [z, ho'] at ho; cases ho; rw [hd'] at hd; cases hd
theorem Inv.funs (I : Inv X pins σ H s) : s.heap.FunFrames X.base X.outer := by
  have all : ∀ (l : List Env), (∀ b ∈ frs l, b ∈ X.fs) → X.s₀.heap.FunFrames X.base l → s.heap.FunFrames X.base l := by
    intro l
    induction l with
    | nil => intro _ _; trivial
    | cons env r ih =>
      intro hs hl
      obtain ⟨hk, ⟨L, o, hf, hn, ho, hd⟩, hr⟩ := hl
      have hL : L ∈ X.fs := hs L (by unfold frs; rw [List.filterMap_cons, hf]; exact List.mem_cons_self)
      obtain ⟨sl, e⟩ := I.base.slot L o ho (I.ok.frf L hL) hL fun z => I.ok.exfs L z hL
      exact ⟨hk, ⟨L, _, hf, hn, e, hd⟩, ih (fun b hb => hs b (by unfold frs; rw [List.filterMap_cons, hf]; exact List.mem_cons_of_mem _ hb)) hr⟩
  exact all X.outer (fun _ hb => hb) I.ok.funs

/-- the frames that run, for a call -/
theorem Inv.stack (I : Inv X pins σ H s) : s.heap.FunFrames X.base X.stack := by
  rcases I.ok.stk with e | ⟨e, hf⟩
  · rw [e]; exact I.funs
  · rw [e]
    obtain ⟨m, hn, _⟩ := I.loc
    refine .cons (by rw [I.ok.kind]; decide) hf hn ?_ I.funs
    exact Heap.get?_none_of_le (Nat.le_trans I.ok.bsz I.ok.above)
theorem Inv.stkSub (I : Inv X pins σ H s) : ∀ b ∈ frs X.stack, b ∈ X.env.locals :: X.fs := fun b hb => by
  rcases I.ok.stk with e | ⟨e, hf⟩
  · rw [e] at hb; exact List.mem_cons_of_mem _ hb
  · rw [e] at hb
    unfold frs at hb
    rw [List.filterMap_cons, hf] at hb
    exact hb
theorem Inv.stkFree (I : Inv X pins σ H s) : ∀ b ∈ frs X.stack, H b = none := fun b hb => by
  rcases List.mem_cons.mp (I.stkSub b hb) with e | hb
  · rw [e]; exact I.free
  · obtain ⟨_, o, ho, _⟩ := I.ok.funs.mem hb
    exact I.base.free b o ho (I.ok.frf b hb) fun z => I.ok.exfs b z hb

/-- THE STEP: the untracked objects but the frame and the records at ch are kept (the callers' frames up to slots), the frame's map is kept, the new abstract heap is held -/
theorem Inv.step {g' : Array GenState} {t' : Nat} {d' : Drawn} {ch : List Addr} (I : Inv X pins σ H s)
    (hch : ∀ b ∈ ch, (b ∈ X.ex ∨ X.s₀.heap.objs.size ≤ b) ∧ b ≠ X.env.locals ∧ (∀ x c, X.env.cells.lookup x = some c → c ≠ b) ∧ ∀ p ∈ X.pn ++ pins, p.1 ≠ b)
    (keep : ∀ b o, b ≠ X.env.locals → b ∉ X.fs → b ∉ ch → s.heap.get? b = some o → H b = none → h'.get? b = some o)
    (slot : ∀ b o, b ≠ X.env.locals → b ∈ X.fs → b ∉ ch → s.heap.get? b = some o → H b = none → ∃ sl, h'.get? b = some { o with slots := sl }) (free : ∀ b o, b ∉ ch → s.heap.get? b = some o → H b = none → H' b = none)
    (there : ∀ b o, b ∉ ch → s.heap.get? b = some o → ∃ o', h'.get? b = some o')
    (tups : ∀ b xs, H b = some (.tup xs) → H' b = some (.tup xs)) (frzs : ∀ b o u, H b = some (.frz o u) → H' b = some (.frz o u)) (tbls : ∀ b ps, H b = some (.tbl ps) → ∃ more, H' b = some (.tbl (ps ++ more)))
    (ns : ∀ m, s.heap.Ns X.env.locals m → h'.Ns X.env.locals m) (hok : HOk X.prog X.w H' h') (hg : AllBare g') :
    Inv X pins σ H' { s with heap := h', gens := g', drawn := d', toks := t' } := by
  have neL : ∀ b o, X.s₀.heap.get? b = some o → b ≠ X.env.locals := fun b o e => Nat.ne_of_lt (Nat.lt_of_lt_of_le (Heap.lt_size e) I.ok.above)
  have neC : ∀ b o, X.s₀.heap.get? b = some o → b ∉ X.ex → b ∉ ch := fun b o e hx hb => by
    rcases (hch b hb).1 with z | z
    · exact hx z
    · exact absurd (Nat.lt_of_lt_of_le (Heap.lt_size e) z) (Nat.lt_irrefl _)
  have cellK : ∀ x c, X.env.cells.lookup x = some c → ∀ v, s.heap.IsCell c v → h'.IsCell c v := fun x c e v ⟨o, ho, hd⟩ => by
    have nch : c ∉ ch := fun z => (hch c z).2.2.1 x c e rfl
    by_cases hc : c ∈ X.fs
    · obtain ⟨sl, q⟩ := slot c o (I.cne x c e) hc nch ho (I.freeC x c e)
      exact ⟨_, q, hd⟩
    · exact ⟨o, keep c o (I.cne x c e) hc nch ho (I.freeC x c e), hd⟩
  refine ⟨I.ok, I.os, hg, ⟨fun b o e n hb hx => ?_, fun b o e n hb hx => ?_, fun b o e n hx => ?_, fun b o e hx => ?_, fun b xs e => tups b xs (I.base.tups b xs e), fun b o xs e => frzs b o xs (I.base.frzs b o xs e), fun b ps e => ?_⟩, ?_, fun x c e => ?_, ?_, fun x c e => ?_, fun p hp => ?_, hok, I.len⟩
  · exact keep b o (neL b o e) hb (neC b o e hx) (I.base.keep b o e n hb hx) (I.base.free b o e n hx)
  · obtain ⟨sl, e1⟩ := I.base.slot b o e n hb hx
    obtain ⟨sl', e2⟩ := slot b _ (neL b o e) hb (neC b o e hx) e1 (I.base.free b o e n hx)
    exact ⟨sl', e2⟩
  · obtain ⟨o', e1⟩ := I.base.there b o e hx
    exact free b o' (neC b o e hx) e1 (I.base.free b o e n hx)
  · obtain ⟨o', e1⟩ := I.base.there b o e hx
    exact there b o' (neC b o e hx) e1
  · obtain ⟨m1, e1⟩ := I.base.tbls b ps e
    obtain ⟨m2, e2⟩ := tbls b _ e1
    exact ⟨m1 ++ m2, by rw [e2, Array.append_assoc]⟩
  · obtain ⟨m, hn, hl⟩ := I.loc
    refine ⟨m, ns m hn, fun i x v e1 e2 e3 => ?_⟩
    obtain ⟨u, r, l⟩ := hl i x v e1 e2 e3
    refine ⟨u, r, ?_⟩
    rcases l with l | ⟨k, c, e, z⟩
    · exact .inl l
    · exact .inr ⟨k, c, e, cellK x c e _ z⟩
  · obtain ⟨v, z⟩ := I.cell x c e
    exact ⟨v, cellK x c e v z⟩
  · obtain ⟨m, ⟨o, _, _, ho, _⟩, _⟩ := I.loc
    exact free _ o (fun z => (hch _ z).2.1 rfl) ho I.free
  · obtain ⟨v, o, ho, hd⟩ := I.cell x c e
    exact free c o (fun z => (hch c z).2.2.1 x c e rfl) ho (I.freeC x c e)
  · obtain ⟨e, n, ne, nf, d⟩ := I.pin p hp
    have nch : p.1 ∉ ch := fun z => (hch p.1 z).2.2.2 p hp rfl
    exact ⟨keep p.1 p.2 ne nf nch e n, free p.1 p.2 nch e n, ne, nf, d⟩
/-- .. where the frame's own object is kept too -/
theorem Inv.un {t' : Nat} (I : Inv X pins σ H s) (u : Un X.fs [] H H' s.heap h') (hok : HOk X.prog X.w H' h') : Inv X pins σ H' { s with heap := h', toks := t' } := by
  obtain ⟨m, ⟨o, es, ep, ho, r⟩, _⟩ := id I.loc
  obtain ⟨sl, hL⟩ := u.any ho I.free (by simp)
  exact I.step (g' := s.gens) (d' := s.drawn) (ch := []) (fun _ z => nomatch z) (fun b o _ hb _ e n => u.keep b o e n hb (by simp)) (fun b o _ hb _ e n => u.slot b o e n hb (by simp)) (fun b o _ e n => u.free b o e n (by simp)) (fun b o _ e => u.there b o e (by simp)) u.tups u.frzs u.tbls (fun m' hm => by
    obtain ⟨o', es', ep', ho', r'⟩ := hm
    rw [ho] at ho'; cases ho'
    exact ⟨_, es', ep', hL, r'⟩) hok I.bare
/-- behind a call (or a comprehension's block): the slots of this frame may have changed too, the records at ch may have turned -/
theorem Inv.call {g' : Array GenState} {t' : Nat} {d' : Drawn} {ch : List Addr} (I : Inv X pins σ H s) (u : Un (frs X.stack) ch H H' s.heap h') (hok : HOk X.prog X.w H' h') (hg : AllBare g')
    (hch : ∀ b ∈ ch, (b ∈ X.ex ∨ X.s₀.heap.objs.size ≤ b) ∧ b ≠ X.env.locals ∧ (∀ x c, X.env.cells.lookup x = some c → c ≠ b) ∧ ∀ p ∈ X.pn ++ pins, p.1 ≠ b) :
    Inv X pins σ H' { s with heap := h', gens := g', drawn := d', toks := t' } := by
  obtain ⟨m, ⟨o, es, ep, ho, r⟩, _⟩ := id I.loc
  obtain ⟨sl, hL⟩ := u.any ho I.free fun z => (hch _ z).2.1 rfl
  exact I.step (ch := ch) hch (fun b o hL hb hc e n => u.keep b o e n (fun z => (List.mem_cons.mp (I.stkSub b z)).elim hL hb) hc) (fun b o _ _ hc e n => u.any e n hc) (fun b o hc e n => u.free b o e n hc) (fun b o hc e => u.there b o e hc) u.tups u.frzs u.tbls (fun m' hm => by
    obtain ⟨o', es', ep', ho', r'⟩ := hm
    rw [ho] at ho'; cases ho'
    exact ⟨_, es', ep', hL, r'⟩) hok hg
/-- an untracked record of ours (an iterator) has turned -/
theorem Inv.turned {t' : Nat} {it : Addr} (I : Inv X pins σ H s) (k : ∀ b o, b ≠ it → s.heap.get? b = some o → h'.get? b = some o) (hn : H it = none) (hL : it ≠ X.env.locals)
    (h1 : it ∈ X.ex ∨ X.s₀.heap.objs.size ≤ it) (h2 : ∀ x c, X.env.cells.lookup x = some c → c ≠ it) (h3 : ∀ p ∈ X.pn ++ pins, p.1 ≠ it) : Inv X pins σ H { s with heap := h', toks := t' } := by
  have nit : ∀ b u, H b = some u → b ≠ it := fun b u e z => by rw [z, hn] at e; cases e
  refine I.step (g' := s.gens) (d' := s.drawn) (ch := [it]) (fun b hb => ?_) (fun b o _ _ hc e _ => k b o (fun z => hc (by simp [z])) e) (fun b o _ _ hc e _ => ⟨o.slots, k b o (fun z => hc (by simp [z])) e⟩) (fun _ _ _ _ n => n)
    (fun b o hc e => ⟨o, k b o (fun z => hc (by simp [z])) e⟩) (fun _ _ e => e) (fun _ _ _ e => e) (fun b ps e => ⟨#[], by rw [e]; simp⟩) (fun m hm => ?_) (fun b u e => ?_) I.bare
  · have e : b = it := by simpa using hb
    subst e
    exact ⟨h1, hL, h2, h3⟩
  · obtain ⟨o, es, ep, ho, r⟩ := hm
    exact ⟨o, es, ep, k _ o (Ne.symm hL) ho, r⟩
  · refine (I.hok b u e).stay (fun c v hc q => k c v ?_ q) (fun _ q => q) fun _ _ q => q
    rcases hc with z | z
    · rw [z]; exact nit b u e
    · exact nit c _ z
theorem Inv.tok (I : Inv X pins σ H s) (t : Nat) : Inv X pins σ H { s with toks := t } := I.un (h' := s.heap) (t' := t) Un.refl I.hok
/-- all objects kept -/
theorem Inv.kept {t' : Nat} (I : Inv X pins σ H s) (k : ∀ b u, s.heap.get? b = some u → h'.get? b = some u) : Inv X pins σ H { s with heap := h', toks := t' } := I.un (Un.kept k) (I.hok.kept k)
/-- a new object laid and tracked -/
theorem Inv.laid {a : Addr} {o : HO} {t' : Nat} (I : Inv X pins σ H s) (k : ∀ b u, s.heap.get? b = some u → h'.get? b = some u) (hp : s.heap.objs.size ≤ a) (new : ObjOk X.prog X.w (upd H a o) h' a o) :
    Inv X pins σ (upd H a o) { s with heap := h', toks := t' } := I.un (Un.laid k hp (I.hok.fresh hp)) (I.hok.laid k hp new)
/-- an object written -/
theorem Inv.write {x e : Addr} {o : HO} {t' : Nat} (I : Inv X pins σ H s) (mu : Mut (H x)) (he : e = x ∨ H e = some (.own x)) (k : ∀ b u, b ≠ e → s.heap.get? b = some u → h'.get? b = some u) (heo : ∃ u, h'.get? e = some u)
    (new : ObjOk X.prog X.w (upd H x o) h' x o) : Inv X pins σ (upd H x o) { s with heap := h', toks := t' } := I.un (Un.write mu he k heo) (I.hok.write mu he k heo new)
theorem Inv.pins_of {pins' : List (Addr × Obj)} (I : Inv X pins σ H s) (h : ∀ p ∈ pins', s.heap.get? p.1 = some p.2 ∧ H p.1 = none ∧ p.1 ≠ X.env.locals ∧ p.1 ∉ X.fs ∧ ∀ v, p.2.data ≠ .cell v) : Inv X pins' σ H s :=
  ⟨I.ok, I.os, I.bare, I.base, I.loc, I.cell, I.free, I.freeC, fun p hp => (List.mem_append.mp hp).elim (fun z => I.pin p (List.mem_append_left _ z)) (h p), I.hok, I.len⟩

theorem nodup_ix {N : List Str} (hN : N.Nodup) {i j : Nat} {x : Str} (a : N[i]? = some x) (b : N[j]? = some x) : i = j := by
  obtain ⟨h1, e1⟩ := List.getElem?_eq_some_iff.mp a
  obtain ⟨h2, e2⟩ := List.getElem?_eq_some_iff.mp b
  exact (List.getElem_inj hN).mp (e1.trans e2.symm)

/-- a name is stored; what changed -/
theorem store_ok2 {M : Model} {A : Around} {E : Value → Shared → Prop} {i : Nat} {x : Str} {v : V} {u : Value} {Q : Unit → Shared → Prop} (I : Inv X pins σ H s) (hN : X.N.Nodup) (hi : X.N[i]? = some x) (hx : Loc X.env.scope x) (r : RelV v u)
    (h : ∀ s', Inv X pins (σ.set i (some v)) H s' → (∃ a, Heap.SameBut a s.heap s'.heap ∧ (a = X.env.locals ∨ X.env.cells.lookup x = some a)) → Q () s') (hf : X.fn x = true ∨ X.env.scope.names.lookup x = some .local := by first | exact .inl rfl | exact .inr rfl | assumption) : wpAny M A (storeName X.env x u) Q E s := by
  obtain ⟨m, hn, hl⟩ := id I.loc
  have hcls : (X.env.scope.kind == .class || (X.env.scope.kind == .module && X.env.locals != X.env.globals)) = false := by rw [I.ok.kind]; rfl
  have hiσ : i < σ.length := by rw [I.len]; exact (List.getElem?_eq_some_iff.mp hi).1
  have cne := I.cne
  have tracked : ∀ {a : Addr} {h' : Heap}, (∃ o, s.heap.get? a = some o ∧ H a = none) → Heap.SameBut a s.heap h' → HOk X.prog X.w H h' := fun {a h'} ha hs b ob e => by
    obtain ⟨_, _, hfree⟩ := ha
    refine (I.hok b ob e).stay (fun c w' hc q => (hs.2 c ?_).trans q) (fun _ q => q) fun _ _ q => q
    rintro rfl
    rcases hc with rfl | hc
    · rw [hfree] at e; cases e
    · rw [hfree] at hc; cases hc
  rcases hx with hk | hk
  · refine wpAny_storeName_local hk hn (fun h' hn' hs => ?_) hcls
    obtain ⟨oL, _, _, hoL, _⟩ := id hn
    refine h _ ⟨I.ok, I.os, I.bare, ⟨fun b o e n hb hx => ?_, fun b o e n hb hx => ?_, I.base.free, fun b o e hx => ?_, I.base.tups, I.base.frzs, I.base.tbls⟩, ⟨_, hn', fun j y v' e1 e2 e3 => ?_⟩, fun y c e => ?_, I.free, I.freeC, fun p hp => ?_, tracked ⟨oL, hoL, I.free⟩ hs, by simpa using I.len⟩ ⟨_, hs, .inl rfl⟩
    · exact (hs.2 b (Nat.ne_of_lt (Nat.lt_of_lt_of_le (Heap.lt_size e) I.ok.above))).trans (I.base.keep b o e n hb hx)
    · obtain ⟨sl, e1⟩ := I.base.slot b o e n hb hx
      exact ⟨sl, (hs.2 b (Nat.ne_of_lt (Nat.lt_of_lt_of_le (Heap.lt_size e) I.ok.above))).trans e1⟩
    · obtain ⟨o', e1⟩ := I.base.there b o e hx
      exact ⟨o', (hs.2 b (Nat.ne_of_lt (Nat.lt_of_lt_of_le (Heap.lt_size e) I.ok.above))).trans e1⟩
    · by_cases hj : j = i
      · subst hj
        rw [hi] at e1; cases e1
        rw [List.getElem?_set_self hiσ] at e2
        cases e2
        exact ⟨u, r, .inl ⟨hk, by simp⟩⟩
      · rw [List.getElem?_set_ne (Ne.symm hj)] at e2
        obtain ⟨u', r', q⟩ := hl j y v' e1 e2 e3
        refine ⟨u', r', ?_⟩
        rcases q with ⟨k, e⟩ | ⟨k, c, e, z⟩
        · refine .inl ⟨k, ?_⟩
          have : y ≠ x := fun e => hj (nodup_ix hN e1 (e ▸ hi))
          simp [this, e]
        · exact .inr ⟨k, c, e, z.sameBut hs (cne y c e)⟩
    · obtain ⟨w', z⟩ := I.cell y c e
      exact ⟨w', z.sameBut hs (cne y c e)⟩
    · obtain ⟨e, n, ne, nf, d⟩ := I.pin p hp
      exact ⟨(hs.2 p.1 ne).trans e, n, ne, nf, d⟩
  · have hfn : X.fn x = true := by
      rcases hf with z | z
      · exact z
      · rw [z] at hk; cases hk
    obtain ⟨c, hc⟩ := I.ok.has x (.inl hk)
    obtain ⟨w', z⟩ := I.cell x c hc
    refine wpAny_storeName_cell I.ok.kind hk hc z (fun h' hc' hs => ?_)
    obtain ⟨oc, hoc, hocd⟩ := id z
    refine h { s with heap := h' } ⟨I.ok, I.os, I.bare, ⟨fun b o e n hb hx => ?_, fun b o e n hb hx => ?_, I.base.free, fun b o e hx => ?_, I.base.tups, I.base.frzs, I.base.tbls⟩, ⟨m, hn.sameBut hs (Ne.symm (cne x c hc)), fun j y v' e1 e2 e3 => ?_⟩, fun y c' e => ?_, I.free, I.freeC, fun p hp => ?_, tracked ⟨oc, hoc, I.freeC x c hc⟩ hs, by simpa using I.len⟩ ⟨c, hs, .inr hc⟩
    · exact (hs.2 b (Nat.ne_of_lt (Nat.lt_of_lt_of_le (Heap.lt_size e) (I.ok.cab x c hfn hc)))).trans (I.base.keep b o e n hb hx)
    · obtain ⟨sl, e1⟩ := I.base.slot b o e n hb hx
      exact ⟨sl, (hs.2 b (Nat.ne_of_lt (Nat.lt_of_lt_of_le (Heap.lt_size e) (I.ok.cab x c hfn hc)))).trans e1⟩
    · obtain ⟨o', e1⟩ := I.base.there b o e hx
      exact ⟨o', (hs.2 b (Nat.ne_of_lt (Nat.lt_of_lt_of_le (Heap.lt_size e) (I.ok.cab x c hfn hc)))).trans e1⟩
    · by_cases hj : j = i
      · subst hj
        rw [hi] at e1; cases e1
        rw [List.getElem?_set_self hiσ] at e2
        cases e2
        exact ⟨u, r, .inr ⟨.inl hk, c, hc, hc'⟩⟩
      · rw [List.getElem?_set_ne (Ne.symm hj)] at e2
        obtain ⟨u', r', q⟩ := hl j y v' e1 e2 e3
        refine ⟨u', r', ?_⟩
        rcases q with q | ⟨k, c', e, z'⟩
        · exact .inl q
        · refine .inr ⟨k, c', e, z'.sameBut hs ?_⟩
          rintro rfl
          exact hj (nodup_ix hN e1 (I.ok.inj _ _ _ e hc ▸ hi))
    · by_cases hcc : c' = c
      · subst hcc; exact ⟨_, hc'⟩
      · obtain ⟨w2, z2⟩ := I.cell y c' e
        exact ⟨w2, z2.sameBut hs hcc⟩
    · obtain ⟨e, n, ne, nf, d⟩ := I.pin p hp
      refine ⟨(hs.2 p.1 ?_).trans e, n, ne, nf, d⟩
      intro q
      rw [q, hoc] at e
      have q' : oc = p.2 := Option.some.inj e
      exact d w' (by rw [← q']; exact hocd)
theorem store_ok {M : Model} {A : Around} {E : Value → Shared → Prop} {i : Nat} {x : Str} {v : V} {u : Value} {Q : Unit → Shared → Prop} (I : Inv X pins σ H s) (hN : X.N.Nodup) (hi : X.N[i]? = some x) (hx : Loc X.env.scope x) (r : RelV v u)
    (h : ∀ s', Inv X pins (σ.set i (some v)) H s' → Q () s') (hf : X.fn x = true ∨ X.env.scope.names.lookup x = some .local := by first | exact .inl rfl | exact .inr rfl | assumption) : wpAny M A (storeName X.env x u) Q E s :=
  store_ok2 I hN hi hx r (fun s' I' _ => h s' I') hf
/-- behind a call or a block, the state as it is -/
theorem Inv.call' {s' : Shared} {ch : List Addr} (I : Inv X pins σ H s) (ho : s'.os = s.os) (u : Un (frs X.stack) ch H H' s.heap s'.heap) (hok : HOk X.prog X.w H' s'.heap) (hg : AllBare s'.gens)
    (hch : ∀ b ∈ ch, (b ∈ X.ex ∨ X.s₀.heap.objs.size ≤ b) ∧ b ≠ X.env.locals ∧ (∀ x c, X.env.cells.lookup x = some c → c ≠ b) ∧ ∀ p ∈ X.pn ++ pins, p.1 ≠ b) : Inv X pins σ H' s' := by
  obtain ⟨h', g', d', t', o'⟩ := s'
  have e : o' = s.os := ho
  subst e
  exact I.call (g' := g') (t' := t') (d' := d') u hok hg hch
end

/-! ### the judgements -/
/-- an exception: its class, its own dict's address (where it has one), the abstract heap behind it -/
abbrev XK := Value → Option Addr → Hp → Prop
abbrev St := List (Option V)
abbrev VK := V → Hp → Prop
/-- an expression's reading; a test's; an argument list's -/
abbrev TE := St → Hp → VK → Prop
abbrev TT := St → Hp → (Bool → Hp → Prop) → Prop
abbrev TA := St → Hp → (List V → Hp → Prop) → Prop
/-- what is wanted behind a statement -/
structure Ends where
  nx : St → Hp → Prop
  rt : VK
  bk : St → Hp → Prop := fun _ _ => False
  ct : St → Hp → Prop := fun _ _ => False
abbrev TS := Ends → St → Hp → Prop

def EP (X : Cx) (pins : List (Addr × Obj)) (σ : St) (Q : VK) (u : Value) (s' : Shared) : Prop := ∃ v H', Inv X pins σ H' s' ∧ RelV v u ∧ Q v H'
def TP (X : Cx) (pins : List (Addr × Obj)) (σ : St) (Q : Bool → Hp → Prop) (b : Bool) (s' : Shared) : Prop := ∃ H', Inv X pins σ H' s' ∧ Q b H'
def AP (X : Cx) (pins : List (Addr × Obj)) (σ : St) (Q : List V → Hp → Prop) (us : List Value) (s' : Shared) : Prop := ∃ vs H', Inv X pins σ H' s' ∧ Vals vs us ∧ Q vs H'
def SP (X : Cx) (pins : List (Addr × Obj)) (D : Ends) (f : Flow) (s' : Shared) : Prop :=
  match f with
  | .next => ∃ σ' H', Inv X pins σ' H' s' ∧ D.nx σ' H'
  | .brk => ∃ σ' H', Inv X pins σ' H' s' ∧ D.bk σ' H'
  | .cont => ∃ σ' H', Inv X pins σ' H' s' ∧ D.ct σ' H'
  | .ret u => ∃ v σ' H', Inv X pins σ' H' s' ∧ RelV v u ∧ D.rt v H'

def PE (X : Cx) (e : Expr) (t : TE) : Prop :=
  ∀ (pins : List (Addr × Obj)) (s : Shared) (σ : St) (H : Hp) (Q : VK), Inv X pins σ H s → t σ H Q → wpAny (model X.prog X.w) X.A (eval e X.env) (EP X pins σ Q) X.xe s
def PT (X : Cx) (e : Expr) (t : TT) : Prop :=
  ∀ (pins : List (Addr × Obj)) (s : Shared) (σ : St) (H : Hp) (Q : Bool → Hp → Prop), Inv X pins σ H s → t σ H Q → wpAny (model X.prog X.w) X.A (isTrue e X.env (eval e X.env)) (TP X pins σ Q) X.xe s
/-- a test whatever its 'whole' is (and, or) -/
def PW (X : Cx) (e : Expr) (t : TT) : Prop :=
  ∀ (whole : Sem Value) (pins : List (Addr × Obj)) (s : Shared) (σ : St) (H : Hp) (Q : Bool → Hp → Prop), Inv X pins σ H s → t σ H Q → wpAny (model X.prog X.w) X.A (isTrue e X.env whole) (TP X pins σ Q) X.xe s
theorem PW.pt {X : Cx} {e : Expr} {t : TT} (h : PW X e t) : PT X e t := h _
/-- an argument list (no star), from the left -/
def PA (X : Cx) (es : List Expr) (t : TA) : Prop :=
  ∀ (pos : Pos) (pins : List (Addr × Obj)) (s : Shared) (σ : St) (H : Hp) (Q : List V → Hp → Prop), Inv X pins σ H s → t σ H Q → wpAny (model X.prog X.w) X.A (spliced (backTo pos (starEach es X.env))) (AP X pins σ Q) X.xe s
def PS (X : Cx) (st : Stmt) (t : TS) : Prop :=
  ∀ (pins : List (Addr × Obj)) (s : Shared) (σ : St) (H : Hp) (D : Ends), Inv X pins σ H s → t D σ H → wpAny (model X.prog X.w) X.A (exec st X.env) (SP X pins D) X.xe s
def PSs (X : Cx) (st : List Stmt) (t : TS) : Prop :=
  ∀ (pins : List (Addr × Obj)) (s : Shared) (σ : St) (H : Hp) (D : Ends), Inv X pins σ H s → t D σ H → wpAny (model X.prog X.w) X.A (execs st X.env) (SP X pins D) X.xe s
/-- weaken the end -/
theorem thn {α : Type} {t : Sem α} {Q Q' : α → Shared → Prop} {M : Model} {A : Around} {E : Value → Shared → Prop} {s : Shared} (h : wpAny M A t Q E s) (hQ : ∀ a s, Q a s → Q' a s) : wpAny M A t Q' E s := wpAny_mono h hQ fun _ _ x => x
end L2

namespace L2
open PySem PySem.Spec PyProof.Rows
section
variable {X : Cx}

/-- two expressions in a row -/
theorem bin {a b : Expr} {ta tb : TE} (ha : PE X a ta) (hb : PE X b tb) {pins : List (Addr × Obj)} {s : Shared} {σ : St} {H : Hp} {R : V → V → Hp → Prop} (I : Inv X pins σ H s) (h : ta σ H fun x H1 => tb σ H1 fun y H2 => R x y H2)
    {α : Type} {Q : α → Shared → Prop} {f : Value → Value → Sem α}
    (hf : ∀ v u s2 x y H2, Inv X pins σ H2 s2 → RelV x v → RelV y u → R x y H2 → wpAny (model X.prog X.w) X.A (f v u) Q X.xe s2) :
    wpAny (model X.prog X.w) X.A (eval a X.env) (fun v s₁ => wpAny (model X.prog X.w) X.A (eval b X.env) (fun u s₂ => wpAny (model X.prog X.w) X.A (f v u) Q X.xe s₂) X.xe s₁) X.xe s := by
  refine thn (ha pins s σ H _ I h) fun v s1 ⟨x, H1, I1, r1, q1⟩ => ?_
  refine thn (hb pins s1 σ H1 _ I1 q1) fun u s2 ⟨y, H2, I2, r2, q2⟩ => ?_
  exact hf v u s2 x y H2 I2 r1 r2 q2

/-! ### names and constants -/
def tVar (i : Nat) : TE := fun σ H Q => ∃ v, σ[i]? = some (some v) ∧ Q v H
def tC (v : V) : TE := fun _ H Q => Q v H
theorem pe_var {i : Nat} {x : Str} {pos : Pos} (hN : X.N[i]? = some x) (hv : Vis X.env.scope x) (hd : (x == ("__debug__" : Str)) = false := by decide) (hcd : (x == ("__classdict__" : Str)) = false := by decide) : PE X (.Name x pos) (tVar i) := by
  intro pins s σ H Q I h
  obtain ⟨v, e, h⟩ := h
  obtain ⟨m, hn, hl⟩ := I.loc
  obtain ⟨u, r, l⟩ := hl i x v hN e hv
  have fin : EP X pins σ Q u s := ⟨v, H, I, r, h⟩
  rcases l with ⟨hk, hm⟩ | ⟨hk, c, hc, hcell⟩
  · exact wpAny_Name (wpAny_loadName_local I.ok.kind hk hn hm fin) hd
  · rcases hk with hk | hk
    · exact wpAny_Name (wpAny_loadName_cell I.ok.kind hk hc hcell fin) hd
    · exact wpAny_Name (wpAny_loadName_free I.ok.kind hk hc hcell fin hcd) hd
theorem pe_int {i j pos} : PE X (.Constant (.int i) j pos) (tC (.int i)) := fun _ _ _ H _ I h => wpAny_Constant_int ⟨.int i, H, I.tok _, ⟨_, rfl⟩, h⟩
theorem pe_bl {b j pos} : PE X (.Constant (.bool b) j pos) (tC (.bl b)) := fun _ _ _ H _ I h => Constant_bool ⟨.bl b, H, I, rfl, h⟩
theorem pe_non {j pos} : PE X (.Constant .none j pos) (tC .non) := fun _ _ _ H _ I h => Constant_none ⟨.non, H, I, rfl, h⟩
theorem pe_str {x j pos} : PE X (.Constant (.str x) j pos) (tC (.str x)) := fun _ _ _ H _ I h => Calls.Constant_str ⟨.str x, H, I.tok _, ⟨_, rfl⟩, h⟩

/-- a global name of the def -/
def Gl (X : Cx) (x : Str) : Prop := X.env.kindOf x = some .globalImplicit
theorem ld_glob {E : Value → Shared → Prop} {pins : List (Addr × Obj)} {s : Shared} {σ : St} {H : Hp} {x : Str} {u : Value} {pos : Pos} {Q : Value → Shared → Prop} (I : Inv X pins σ H s) (hg : Gl X x) (hm : X.mg x = some u) (h : Q u s)
    (hd : (x == ("__debug__" : Str)) = false := by decide) : wpAny (model X.prog X.w) X.A (eval (.Name x pos) X.env) Q E s :=
  Calls.Name_function_global I.ok.kind hg (Calls.loadGlobal_global (by rw [I.ok.glob]; exact I.mod.glob.keeps I.bk) hm h) hd
theorem ld_blt {E : Value → Shared → Prop} {pins : List (Addr × Obj)} {s : Shared} {σ : St} {H : Hp} {x : Str} {u : Value} {pos : Pos} {Q : Value → Shared → Prop} (I : Inv X pins σ H s) (hg : Gl X x) (hm : X.mg x = none) (hv : bootBuiltins x = some u) (h : Q u s)
    (hn : x ≠ "__name__" := by decide) (hd : (x == ("__debug__" : Str)) = false := by decide) : wpAny (model X.prog X.w) X.A (eval (.Name x pos) X.env) Q E s := by
  obtain ⟨mb, h1, h2⟩ := I.mod.blt
  exact Calls.Name_function_global I.ok.kind hg (Calls.loadGlobal_builtin (by rw [I.ok.glob]; exact I.mod.glob.keeps I.bk) hm (by rw [I.ok.blt]; exact h1.keeps I.bk) ((h2 x hn).trans hv) h) hd
/-- a module's constant, a class, a function, as a value -/
theorem pe_glob {x : Str} {v : V} {u : Value} {pos : Pos} (hg : Gl X x) (hm : X.mg x = some u) (r : RelV v u) (hd : (x == ("__debug__" : Str)) = false := by decide) : PE X (.Name x pos) (tC v) :=
  fun _ _ _ H _ I h => ld_glob I hg hm ⟨v, H, I, r, h⟩ hd
theorem pe_bltn {x : Str} {v : V} {u : Value} {pos : Pos} (hg : Gl X x) (hm : X.mg x = none) (hv : bootBuiltins x = some u) (r : RelV v u) (hn : x ≠ "__name__" := by decide) (hd : (x == ("__debug__" : Str)) = false := by decide) : PE X (.Name x pos) (tC v) :=
  fun _ _ _ H _ I h => ld_blt I hg hm hv ⟨v, H, I, r, h⟩ hn hd

/-! ### arithmetic -/
variable {a b : Expr} {ta tb : TE} {pos : Pos}
/-! ### comparisons -/
def PC (X : Cx) (op : CmpOp) (a b : Expr) (t : TE) : Prop :=
  ∀ (pins : List (Addr × Obj)) (s : Shared) (σ : St) (H : Hp) (Q : VK), Inv X pins σ H s → t σ H Q →
    wpAny (model X.prog X.w) X.A (eval a X.env) (fun v s₁ => wpAny (model X.prog X.w) X.A (eval b X.env) (fun u s₂ => wpAny (model X.prog X.w) X.A (compareOp op v u) (EP X pins σ Q) X.xe s₂) X.xe s₁) X.xe s
theorem nobehind (b : Expr) {op : CmpOp} (h : op ≠ .In) (h2 : op ≠ .NotIn) : behindInMarks op b = false := by
  have e1 : (op == CmpOp.In) = false := by cases op <;> first | rfl | exact absurd rfl h
  have e2 : (op == CmpOp.NotIn) = false := by cases op <;> first | rfl | exact absurd rfl h2
  cases b <;> simp [behindInMarks, e1, e2]
/-- a comparison as a value, as a test -/
def tB (t : TE) : TT := fun σ H Q => t σ H fun x H1 => ∃ c, x = .bl c ∧ Q c H1
theorem pt_cmp {op : CmpOp} {t : TE} (h : PC X op a b t) (h1 : behindInMarks op b = false := by first | exact nobehind _ (by decide) (by decide) | rfl) : PT X (.Compare a [op] [b] pos) (tB t) := by
  intro pins s σ H Q I hw
  refine wpAny_isTrue_Compare1 (thn (h pins s σ H _ I hw) fun v s1 h1 => thn h1 fun u s2 h2 => thn h2 fun c s3 ⟨x, H1, I1, r1, q1⟩ => ?_) h1
  obtain ⟨d, rfl, q⟩ := q1
  cases r1
  exact wpAny_truthy_bool ⟨H1, I1, q⟩
/-- an expression whose value is a bool, as a test -/
theorem pt_val {e : Expr} {t : TE} (h : PE X e t) (he : ∀ whole, isTrue e X.env whole = (do let v ← whole; standAt e.pos; holding [v] (truthy v)) := by intro _; rfl) : PT X e (tB t) := by
  intro pins s σ H Q I hw
  refine isTrue_plain (thn (h pins s σ H _ I hw) fun v s1 ⟨x, H1, I1, r1, q1⟩ => ?_) (he _)
  obtain ⟨d, rfl, q⟩ := q1
  cases r1
  exact wpAny_truthy_bool ⟨H1, I1, q⟩

/-! ### and, or, not -/
variable {tA tB' : TT} {rest : List Expr}
def tAnd (t u : TT) : TT := fun σ H Q => t σ H fun c H1 => if c = true then u σ H1 Q else Q false H1
def tOr (t u : TT) : TT := fun σ H Q => t σ H fun c H1 => if c = true then Q true H1 else u σ H1 Q
def tNot (t : TT) : TT := fun σ H Q => t σ H fun c H1 => Q (!c) H1
theorem pw_and1 (ha : PT X a tA) : PW X (.BoolOp .And [a] pos) tA := by
  intro wh pins s σ H Q I h
  refine isTrue_and (thn (ha pins s σ H Q I h) fun c s1 e => ?_)
  cases c with
  | true => exact isTrue_and_nil e
  | false => exact e
theorem pw_or1 (ha : PT X a tA) : PW X (.BoolOp .Or [a] pos) tA := by
  intro wh pins s σ H Q I h
  refine isTrue_or (thn (ha pins s σ H Q I h) fun c s1 e => ?_)
  cases c with
  | false => exact isTrue_or_nil e
  | true => exact e
theorem pw_and (ha : PT X a tA) (hb : PW X (.BoolOp .And (b :: rest) pos) tB') : PW X (.BoolOp .And (a :: b :: rest) pos) (tAnd tA tB') := by
  intro wh pins s σ H Q I h
  refine isTrue_and (thn (ha pins s σ H _ I h) fun c s1 ⟨H1, I1, q1⟩ => ?_)
  cases c with
  | true => exact hb wh pins s1 σ H1 Q I1 q1
  | false => exact ⟨H1, I1, q1⟩
theorem pw_or (ha : PT X a tA) (hb : PW X (.BoolOp .Or (b :: rest) pos) tB') : PW X (.BoolOp .Or (a :: b :: rest) pos) (tOr tA tB') := by
  intro wh pins s σ H Q I h
  refine isTrue_or (thn (ha pins s σ H _ I h) fun c s1 ⟨H1, I1, q1⟩ => ?_)
  cases c with
  | true => exact ⟨H1, I1, q1⟩
  | false => exact hb wh pins s1 σ H1 Q I1 q1
theorem pt_not (ha : PT X a tA) : PT X (.UnaryOp .Not a pos) (tNot tA) := by
  intro pins s σ H Q I h
  exact isTrue_not (ha pins s σ H (fun c H1 => Q (!c) H1) I h)
/-- .. as values (bools) -/
def tAndV (ta tb : TE) : TE := fun σ H Q => ta σ H fun x H1 => ∃ c, x = .bl c ∧ if c = true then tb σ H1 Q else Q (.bl false) H1
theorem pe_one {op} {t : TE} (h : PE X a t) : PE X (.BoolOp op [a] pos) t := fun pins s σ H Q I hw => BoolOp_one (h pins s σ H Q I hw)
theorem pe_and (ha : PE X a ta) (hb : PE X (.BoolOp .And (b :: rest) pos) tb) : PE X (.BoolOp .And (a :: b :: rest) pos) (tAndV ta tb) := by
  intro pins s σ H Q I h
  refine BoolOp_and (thn (ha pins s σ H _ I h) fun v s1 ⟨x, H1, I1, r1, q1⟩ => ?_)
  obtain ⟨c, rfl, q1⟩ := q1
  cases r1
  refine wpAny_truthy_bool ?_
  cases c with
  | true => exact hb pins s1 σ H1 Q I1 q1
  | false => exact ⟨.bl false, H1, I1, rfl, q1⟩
end
end L2

namespace L2
open PySem PySem.Spec PyProof.Rows

/-! ### a list, a tuple that is read: tracked, frozen, or an object of the module -/
def SqL (K : PySem.W.Frag) (H : Hp) (a : Addr) (xs : List V) : Prop :=
  Rd H a (.lst xs) ∨
    ∃ (o : Obj) (its : Array Value) (n : Nat), K.lookup a = some o ∧ o.cls = .type "list" ∧ o.dict = none ∧ o.data = .seq its n ∧ its.size ≤ sizeLine ∧ Vals xs its.toList
def SqT (K : PySem.W.Frag) (H : Hp) (a : Addr) (xs : List V) : Prop :=
  Rd H a (.tup xs) ∨
    ∃ (o : Obj) (its : Array Value) (n : Nat), K.lookup a = some o ∧ o.cls = .type "tuple" ∧ o.data = .seq its n ∧ its.size ≤ sizeLine ∧ Vals xs its.toList
def absV : Value → Option V
  | .none => some .non
  | .bool b => some (.bl b)
  | .int i _ => some (.int i)
  | .str x _ => some (.str x)
  | .bytes b _ => some (.byt b)
  | .float b _ => some (.flt b)
  | .ref a => some (.ref a)
  | .type n => some (.ty n)
  | _ => none
theorem RelV.abs {x : V} {u : Value} (r : RelV x u) : absV u = some x := by
  cases x with
  | non => cases r; rfl
  | bl _ => cases r; rfl
  | int _ => obtain ⟨t, rfl⟩ := r; rfl
  | str _ => obtain ⟨t, rfl⟩ := r; rfl
  | byt _ => obtain ⟨t, rfl⟩ := r; rfl
  | flt _ => obtain ⟨t, rfl⟩ := r; rfl
  | ref _ => cases r; rfl
  | ty _ => cases r; rfl
theorem RelV.inj {x y : V} {u : Value} (r : RelV x u) (q : RelV y u) : x = y := Option.some.inj (r.abs.symm.trans q.abs)
theorem Vals.inj : ∀ {xs ys : List V} {us : List Value}, Vals xs us → Vals ys us → xs = ys
  | _, _, _, .nil, .nil => rfl
  | _, _, _, .cons r t, .cons r' t' => by rw [r.inj r', Vals.inj t t']
section
variable {X : Cx} {pins : List (Addr × Obj)} {σ : St} {H : Hp} {s : Shared} {a : Addr} {xs ys : List V}
theorem SqL.of {K : PySem.W.Frag} (h : H a = some (.lst xs)) : SqL K H a xs := .inl (.inl h)
theorem SqT.of {K : PySem.W.Frag} (h : H a = some (.tup xs)) : SqT K H a xs := .inl (.inl h)
theorem Inv.list (I : Inv X pins σ H s) (h : SqL X.K H a xs) : ∃ its : List Value, Vals xs its ∧ PlainL s.heap a its.toArray ∧ xs.length ≤ sizeLine := by
  rcases h with h | ⟨o, its, n, hk, hc, hd, hs, hz, r⟩
  · obtain ⟨z, its, n, r, e⟩ := h.ok I.hok
    exact ⟨its, r, ⟨_, n, e, rfl, rfl, rfl⟩, z⟩
  · refine ⟨its.toList, r, ⟨o, n, I.kIn a o hk, hc, hd, by simpa using hs⟩, ?_⟩
    have e := r.length
    simp only [Array.length_toList] at e
    omega
theorem Inv.tuple (I : Inv X pins σ H s) (h : SqT X.K H a xs) : ∃ its : List Value, Vals xs its ∧ IsTup s.heap a its.toArray ∧ xs.length ≤ sizeLine := by
  rcases h with h | ⟨o, its, n, hk, hc, hs, hz, r⟩
  · obtain ⟨z, its, r, p⟩ := h.ok I.hok
    exact ⟨its, r, p, z⟩
  · refine ⟨its.toList, r, ⟨o, I.kIn a o hk, hc, n, by simpa using hs⟩, ?_⟩
    have e := r.length
    simp only [Array.length_toList] at e
    omega
theorem Inv.list_inj (I : Inv X pins σ H s) (h : SqL X.K H a xs) (h' : SqL X.K H a ys) : xs = ys := by
  obtain ⟨its, r, ⟨o, n, e, _, _, d⟩, _⟩ := I.list h
  obtain ⟨its', r', ⟨o', n', e', _, _, d'⟩, _⟩ := I.list h'
  rw [e] at e'; cases e'
  rw [d] at d'
  injection d' with d1 _
  have : its = its' := by simpa using congrArg Array.toList d1
  subst this
  exact r.inj r'
theorem Inv.tuple_inj (I : Inv X pins σ H s) (h : SqT X.K H a xs) (h' : SqT X.K H a ys) : xs = ys := by
  obtain ⟨its, r, ⟨o, e, _, n, d⟩, _⟩ := I.tuple h
  obtain ⟨its', r', ⟨o', e', _, n', d'⟩, _⟩ := I.tuple h'
  rw [e] at e'; cases e'
  rw [d] at d'
  injection d' with d1 _
  have : its = its' := by simpa using congrArg Array.toList d1
  subst this
  exact r.inj r'
end

/-! ### another wish about exceptions -/
abbrev Cx.wish (X : Cx) (E : Value → Shared → Prop) : Cx := { X with xe := E }
/-- no exception leaves -/
abbrev Cx.nox (X : Cx) : Cx := X.wish fun _ _ => False
theorem Cx.Ok.wish {X : Cx} (ok : X.Ok) (E : Value → Shared → Prop) : (X.wish E).Ok :=
  ⟨ok.mod, ok.kind, ok.glob, ok.blt, ok.above, ok.inj, ok.has, ok.cab, ok.hd, ok.frames, ok.stk, ok.exf, ok.bs, ok.bsz, ok.noex, ok.exfs, ok.funs, ok.frf⟩
theorem Cx.Ok.unwish {X : Cx} {E : Value → Shared → Prop} (ok : (X.wish E).Ok) : X.Ok :=
  ⟨ok.mod, ok.kind, ok.glob, ok.blt, ok.above, ok.inj, ok.has, ok.cab, ok.hd, ok.frames, ok.stk, ok.exf, ok.bs, ok.bsz, ok.noex, ok.exfs, ok.funs, ok.frf⟩
section
variable {X : Cx} {pins : List (Addr × Obj)} {σ : St} {H : Hp} {s : Shared} {E : Value → Shared → Prop}
theorem Inv.wish (I : Inv X pins σ H s) (E : Value → Shared → Prop) : Inv (X.wish E) pins σ H s := ⟨I.ok.wish E, I.os, I.bare, I.base, I.loc, I.cell, I.free, I.freeC, I.pin, I.hok, I.len⟩
theorem Inv.unwish (I : Inv (X.wish E) pins σ H s) : Inv X pins σ H s := ⟨I.ok.unwish, I.os, I.bare, I.base, I.loc, I.cell, I.free, I.freeC, I.pin, I.hok, I.len⟩
theorem SP.unwish {D : Ends} {f : Flow} {s' : Shared} (h : SP (X.wish E) pins D f s') : SP X pins D f s' := by
  cases f with
  | next => obtain ⟨σ', H', I, q⟩ := h; exact ⟨σ', H', I.unwish, q⟩
  | brk => obtain ⟨σ', H', I, q⟩ := h; exact ⟨σ', H', I.unwish, q⟩
  | cont => obtain ⟨σ', H', I, q⟩ := h; exact ⟨σ', H', I.unwish, q⟩
  | ret u => obtain ⟨v, σ', H', I, r, q⟩ := h; exact ⟨v, σ', H', I.unwish, r, q⟩
theorem PSs.nox {st : List Stmt} {t : TS} (h : PSs X.nox st t) : PSs X st t := fun pins s σ H D I hw =>
  wpAny_mono (h pins s σ H D (I.wish _) hw) (fun _ _ q => q.unwish) fun _ _ z => False.elim z
end

/-! ### blocks and small statements -/
section
variable {X : Cx} {st : Stmt} {rest : List Stmt} {t u : TS} {e : Expr} {te : TE} {pos : Pos}
def tNext : TS := fun D σ H => D.nx σ H
def tSeq (t u : TS) : TS := fun D σ H => t { D with nx := u D } σ H
theorem pss_nil : PSs X [] tNext := fun _ _ σ H _ I h => wpAny_execs_nil ⟨σ, H, I, h⟩
theorem pss_cons (h1 : PS X st t) (h2 : PSs X rest u) : PSs X (st :: rest) (tSeq t u) := by
  intro pins s σ H D I h
  refine wpAny_execs_cons (thn (h1 pins s σ H { D with nx := u D } I h) fun f s1 q => ?_)
  cases f with
  | next =>
    obtain ⟨σ', H', I', q⟩ := q
    exact h2 pins s1 σ' H' D I' q
  | ret v => exact q
  | brk => exact q
  | cont => exact q
theorem pss_one (h1 : PS X st t) : PSs X [st] t := by
  intro pins s σ H D I h
  refine wpAny_execs_cons (thn (h1 pins s σ H D I h) fun f s1 q => ?_)
  cases f with
  | next => exact wpAny_execs_nil q
  | ret v => exact q
  | brk => exact q
  | cont => exact q
/-- in a def's body nothing is shown -/
theorem Inv.quiet {pins : List (Addr × Obj)} {σ : St} {H : Hp} {s : Shared} (I : Inv X pins σ H s) : interactive X.env = false := by simp [interactive, I.ok.kind]
/-- an expression whose value is dropped -/
def tDrop (te : TE) : TS := fun D σ H => te σ H fun _ H1 => D.nx σ H1
theorem ps_expr (he : PE X e te) (hs : swapsWith e none pos.line X.env = pure false := by rfl) : PS X (.Expr e pos) (tDrop te) := by
  intro pins s σ H D I h
  exact wpAny_Expr_any (thn (he pins s σ H _ I h) fun v s1 ⟨x, H1, I1, r1, q1⟩ => ⟨σ, H1, I1, q1⟩) I.quiet hs
def tRet (te : TE) : TS := fun D σ H => te σ H D.rt
theorem ps_ret (he : PE X e te) : PS X (.Return (some e) pos) (tRet te) := by
  intro pins s σ H D I h
  exact wpAny_Return_some (thn (he pins s σ H _ I h) fun v s1 ⟨x, H1, I1, r1, q1⟩ => ⟨x, σ, H1, I1, r1, q1⟩)
def tIfS (c : TT) (t u : TS) : TS := fun D σ H => c σ H fun b H1 => if b = true then t D σ H1 else u D σ H1
theorem ps_if {c : Expr} {a b : List Stmt} {tc : TT} (hc : PT X c tc) (ha : PSs X a t) (hb : PSs X b u) : PS X (.If c a b pos) (tIfS tc t u) := by
  intro pins s σ H D I h
  refine wpAny_If (thn (hc pins s σ H _ I h) fun d s1 ⟨H1, I1, q1⟩ => ?_)
  cases d with
  | true => exact ha pins s1 σ H1 D I1 q1
  | false => exact hb pins s1 σ H1 D I1 q1
/-- code that the proof never comes to -/
def tNever : TS := fun _ _ _ => False
theorem ps_never : PS X st tNever := fun _ _ _ _ _ _ h => h.elim
end

/-! ### targets -/
abbrev TG := V → St → Hp → (St → Hp → Prop) → Prop
abbrev TGs := List V → St → Hp → (St → Hp → Prop) → Prop
def PG (X : Cx) (target : Expr) (t : TG) : Prop :=
  ∀ (pins : List (Addr × Obj)) (s : Shared) (σ : St) (H : Hp) (v : V) (u : Value) (Q : St → Hp → Prop), Inv X pins σ H s → RelV v u → t v σ H Q →
    wpAny (model X.prog X.w) X.A (assign target X.env u) (fun _ s' => ∃ σ' H', Inv X pins σ' H' s' ∧ Q σ' H') X.xe s
/-- several targets, one after another -/
def PGs (X : Cx) (ts : List Expr) (t : TGs) : Prop :=
  ∀ (pins : List (Addr × Obj)) (s : Shared) (σ : St) (H : Hp) (vs : List V) (us : List Value) (Q : St → Hp → Prop), Inv X pins σ H s → Vals vs us → t vs σ H Q →
    wpAny (model X.prog X.w) X.A (assignInOrder ((assignEach ts X.env).map (·.2)) us) (fun _ s' => ∃ σ' H', Inv X pins σ' H' s' ∧ Q σ' H') X.xe s
/-- o[i] = v, by values -/
abbrev TSet := V → V → V → Hp → (Hp → Prop) → Prop
def PSet (X : Cx) (t : TSet) : Prop :=
  ∀ (pins : List (Addr × Obj)) (s : Shared) (σ : St) (H : Hp) (o i v : V) (ov iv u : Value) (Q : Hp → Prop), Inv X pins σ H s → RelV o ov → RelV i iv → RelV v u → t o i v H Q →
    wpAny (model X.prog X.w) X.A (setItem ov iv u) (fun _ s' => ∃ H', Inv X pins σ H' s' ∧ Q H') X.xe s
section
variable {X : Cx} {pos : Pos}
def gName (i : Nat) : TG := fun v σ H Q => Q (σ.set i (some v)) H
theorem pg_name {i : Nat} {x : Str} (hN : X.N.Nodup) (hi : X.N[i]? = some x) (hx : Loc X.env.scope x) (hf : X.fn x = true ∨ X.env.scope.names.lookup x = some .local := by first | exact .inl rfl | exact .inr rfl | assumption) : PG X (.Name x pos) (gName i) := by
  intro pins s σ H v u Q I r h
  exact wpAny_assign_Name (store_ok I hN hi hx r (fun s' I' => ⟨_, H, I', h⟩) hf)
def gNil : TGs := fun vs σ H Q => vs = [] ∧ Q σ H
def gCons (t : TG) (u : TGs) : TGs := fun vs σ H Q => ∃ v r, vs = v :: r ∧ t v σ H fun σ' H' => u r σ' H' Q
theorem pgs_nil : PGs X [] gNil := by
  intro pins s σ H vs us Q I r h
  obtain ⟨e, h⟩ := h
  subst e
  cases r
  exact assignInOrder_nil ⟨σ, H, I, h⟩
theorem pgs_cons {e : Expr} {es : List Expr} {t : TG} {u : TGs} (h1 : PG X e t) (h2 : PGs X es u)
    (hs : (assignEach (e :: es) X.env).map (·.2) = assign e X.env :: (assignEach es X.env).map (·.2) := by rfl) : PGs X (e :: es) (gCons t u) := by
  intro pins s σ H vs us Q I r h
  obtain ⟨v, vr, e1, h⟩ := h
  subst e1
  cases r with
  | cons r rr =>
    rw [hs]
    refine assignInOrder_cons (thn (h1 pins s σ H _ _ _ I r h) fun _ s1 ⟨σ1, H1, I1, q1⟩ => ?_)
    exact h2 pins s1 σ1 H1 _ _ Q I1 rr q1
/-- (a, b, ..) = a tuple of that length -/
def gTup (K : PySem.W.Frag) (n : Nat) (t : TGs) : TG := fun v σ H Q => ∃ a xs, v = .ref a ∧ SqT K H a xs ∧ xs.length = n ∧ t xs σ H Q
theorem pg_tup {es : List Expr} {k : Nat} {t : TGs} {n : Nat} (hc : X.calm = true) (h : PGs X es t)
    (hn : (assignEach es X.env).length = n := by rfl) (hst : (assignEach es X.env).findIdx? (·.1) = none := by rfl) : PG X (.Tuple es k pos) (gTup X.K n t) := by
  intro pins s σ H v u Q I r hw
  obtain ⟨a, xs, e1, hq, hl, hw⟩ := hw
  subst e1
  cases r
  obtain ⟨its, rv, ht, hz⟩ := I.tuple hq
  refine assign_Tuple_tuple (I.ok.hd hc) ht (by simp [hn, ← hl, rv.length]) hst fun h' hx => ?_
  have I1 : Inv X pins σ H { s with heap := h' } := I.kept (t' := s.toks) fun b o e => hx b o (Nat.ne_of_lt (Heap.lt_size e)) e
  exact h pins _ σ H xs _ Q I1 (by simpa using rv) hw
/-- o[i] = .. -/
def gSub (to ti : TE) (t : TSet) : TG := fun v σ H Q => to σ H fun o H1 => ti σ H1 fun i H2 => t o i v H2 fun H3 => Q σ H3
theorem pg_sub {o i : Expr} {to ti : TE} {t : TSet} (ho : PE X o to) (hi : PE X i ti) (hs : PSet X t)
    (ha : ∀ v, assign (.Subscript o i pos) X.env v = (do
      let ov ← holding [v] (eval o X.env)
      let iv ← holding [v, ov] (eval i X.env)
      standAt pos
      holding [v, ov, iv] (setItem ov iv v)
      release [v, ov, iv] []) := by intro _; rfl) : PG X (.Subscript o i pos) (gSub to ti t) := by
  intro pins s σ H v u Q I r h
  rw [ha]
  refine wpAny_bind (wpAny_holding (thn (ho pins s σ H _ I h) fun ov s1 ⟨x, H1, I1, r1, q1⟩ => ?_))
  refine wpAny_bind (wpAny_holding (thn (hi pins s1 σ H1 _ I1 q1) fun iv s2 ⟨y, H2, I2, r2, q2⟩ => ?_))
  refine wpAny_bind (wpAny_standAt (wpAny_bind (wpAny_holding (thn (hs pins s2 σ H2 x y v ov iv u _ I2 r1 r2 r q2) fun _ s3 ⟨H3, I3, q3⟩ => ?_))))
  exact wpAny_release ⟨σ, H3, I3, q3⟩
/-- target = value -/
def tAsg (te : TE) (g : TG) : TS := fun D σ H => te σ H fun x H1 => g x σ H1 D.nx
theorem ps_asg {tg e : Expr} {te : TE} {g : TG} (he : PE X e te) (hg : PG X tg g) (hs : swapsWithSole [tg] e pos.line X.env = pure false := by rfl) (hw : swappedStores [tg] e X.env = pure none := by rfl)
    (h1 : (assignEach [tg] X.env).map (·.2) = [assign tg X.env] := by rfl) : PS X (.Assign [tg] e pos) (tAsg te g) := by
  intro pins s σ H D I h
  refine wpAny_Assign_stores (thn (he pins s σ H _ I h) fun v s1 ⟨x, H1, I1, r1, q1⟩ => ?_) hs hw
  rw [h1]
  exact thn (hg pins s1 σ H1 x v _ I1 r1 q1) fun _ s2 q => q
/-- name = value -/
theorem ps_set {i : Nat} {x : Str} {e : Expr} {te : TE} {pos' : Pos} (hN : X.N.Nodup) (hi : X.N[i]? = some x) (hx : Loc X.env.scope x) (he : PE X e te) (hs : swapsWith e (some (.Name x pos')) pos.line X.env = pure false := by rfl) (hf : X.fn x = true ∨ X.env.scope.names.lookup x = some .local := by first | exact .inl rfl | exact .inr rfl | assumption) :
    PS X (.Assign [.Name x pos'] e pos) (tAsg te (gName i)) := by
  intro pins s σ H D I h
  refine wpAny_Assign_Name (thn (he pins s σ H _ I h) fun v s1 ⟨y, H1, I1, r1, q1⟩ => ?_) hs
  exact store_ok I1 hN hi hx r1 (fun s2 I2 => ⟨_, H1, I2, q1⟩) hf
end

/-! ### while -/
section
variable {X : Cx} {pos : Pos}
end

/-! ### what a loop or a comprehension walks -/
/-- at turn i: it yields x (the heap may grow), or it stops -/
structure It where
  go : Nat → Hp → Prop
  yld : Nat → Hp → V → Hp → Prop
  stop : Nat → Hp → Prop
/-- the iterator's own objects may turn: they are not the frame's, not pinned, younger than the entry (or a comprehension's own) -/
def FpOk (X : Cx) (pins : List (Addr × Obj)) (H : Hp) (b : Addr) : Prop :=
  H b = none ∧ b ≠ X.env.locals ∧ b ∉ X.fs ∧ (b ∈ X.ex ∨ X.s₀.heap.objs.size ≤ b) ∧ (∀ x c, X.env.cells.lookup x = some c → c ≠ b) ∧ ∀ p ∈ X.pn ++ pins, p.1 ≠ b
theorem Inv.fpOk {X : Cx} {pins : List (Addr × Obj)} {σ : St} {H H' : Hp} {s : Shared} {b : Addr} (I : Inv X pins σ H s) (hb : s.heap.objs.size ≤ b) (hn : H' b = none) : FpOk X pins H' b := by
  refine ⟨hn, Nat.ne_of_gt (Nat.lt_of_lt_of_le I.lt hb), I.nofs hb, .inr (Nat.le_trans I.sz hb), fun x c e z => ?_, fun p hp z => ?_⟩
  · obtain ⟨v, q⟩ := I.cell x c e
    exact absurd (Nat.lt_of_lt_of_le q.lt (by rw [z]; exact hb)) (Nat.lt_irrefl _)
  · exact absurd (Nat.lt_of_lt_of_le (Heap.lt_size (I.pin p hp).1) (by rw [z]; exact hb)) (Nat.lt_irrefl _)
structure Turn (P : Program) (w : World) (K : PySem.W.Frag) (tg : Expr) (J : It) (fp : List Addr) (it : Addr) (tn : Nat → Heap → Prop) : Prop where
  mem : it ∈ fp
  obj : ∀ i h, tn i h → ∀ b ∈ fp, ∃ o, h.get? b = some o ∧ ∀ v, o.data ≠ .cell v
  keep : ∀ i h h', tn i h → (∀ b ∈ fp, ∀ o, h.get? b = some o → h'.get? b = some o) → tn i h'
  item : ∀ (X : Cx), X.prog = P → X.w = w → X.K = K → X.calm = true → ∀ (i : Nat) (pins : List (Addr × Obj)) (s : Shared) (σ : St) (H : Hp) (E : Value → Shared → Prop), Inv X pins σ H s → (∀ b ∈ fp, FpOk X pins H b) → tn i s.heap → J.go i H →
    wpAny (model P w) X.A (pyNext (.ref it)) (fun r s1 => ∃ u, r = some u ∧
      wpAny (model P w) X.A (letOwnedTupleGo tg (.ref it) u) (fun _ s2 => ∃ x H', Inv X pins σ H' s2 ∧ RelV x u ∧ J.yld i H x H' ∧ tn (i + 1) s2.heap ∧ ∀ b ∈ fp, H' b = none) E s1) E s
  done : ∀ (X : Cx), X.prog = P → X.w = w → X.K = K → X.calm = true → ∀ (i : Nat) (pins : List (Addr × Obj)) (s : Shared) (σ : St) (H : Hp) (E : Value → Shared → Prop), Inv X pins σ H s → (∀ b ∈ fp, FpOk X pins H b) → tn i s.heap → J.stop i H →
    wpAny (model P w) X.A (pyNext (.ref it)) (fun r s1 => r = none ∧ Inv X pins σ H s1) E s
  self : ∀ (A : Around) (i : Nat) (s : Shared) (Q : Value → Shared → Prop) (E : Value → Shared → Prop), tn i s.heap → Q (.ref it) s → wpAny (model P w) A (pyIter (.ref it)) Q E s
abbrev TI := St → Hp → (It → Hp → Prop) → Prop
/-- an iterator has come -/
def PIE (X : Cx) (pins : List (Addr × Obj)) (σ : St) (tg : Expr) (R : It → Hp → Prop) (itv : Value) (s2 : Shared) : Prop :=
  ∃ (it : Addr) (fp : List Addr) (tn : Nat → Heap → Prop) (J : It) (H' : Hp), itv = .ref it ∧ Inv X pins σ H' s2 ∧ Turn X.prog X.w X.K tg J fp it tn ∧ tn 0 s2.heap ∧ (∀ b ∈ fp, FpOk X pins H' b) ∧ R J H'
def PI (X : Cx) (tg iter : Expr) (wi : TI) : Prop :=
  ∀ (pins : List (Addr × Obj)) (s : Shared) (σ : St) (H : Hp) (R : It → Hp → Prop), Inv X pins σ H s → wi σ H R →
    wpAny (model X.prog X.w) X.A (eval iter X.env) (fun v s1 => wpAny (model X.prog X.w) X.A (pyIter v) (PIE X pins σ tg R) X.xe s1) X.xe s

/-- the step ahead of the store is nothing for an iterator that keeps no tuple -/
theorem go_of {M : Model} {A : Around} {E : Value → Shared → Prop} {s : Shared} {tg : Expr} {it : Addr} {u : Value} {o : Obj} {n : String} {vs : Array Value} {Q : Unit → Shared → Prop} (ho : s.heap.get? it = some o) (hc : o.cls = .type n) (hd : o.data = .fields vs)
    (hn : ["enumerate", "zip", "dict_itemiterator", "dict_reverseitemiterator", "odict_iterator", "itertools.zip_longest", "itertools.pairwise"].contains n = false) (hQ : Q () s) : wpAny M A (letOwnedTupleGo tg (.ref it) u) Q E s := by
  unfold letOwnedTupleGo
  cases tg <;> first
    | exact wpAny_pure hQ
    | (cases u <;> first
        | exact wpAny_pure hQ
        | (refine wpAny_bind (wpAny_load ho ?_)
           rw [hc, hd]
           show wpAny M A (if (["enumerate", "zip", "dict_itemiterator", "dict_reverseitemiterator", "odict_iterator", "itertools.zip_longest", "itertools.pairwise"].contains n && vs[0]? == some (rawInt _)) = true then _ else _) Q E s
           rw [if_neg (by intro h; rw [hn, Bool.false_and] at h; cases h)]
           exact wpAny_pure hQ))

/-- the list at a, as it stands at each turn (a loop may append to it) -/
def Itl (K : PySem.W.Frag) (a : Addr) : It :=
  ⟨fun i H => ∃ xs x, SqL K H a xs ∧ xs[i]? = some x, fun i H x H' => H' = H ∧ ∀ xs, SqL K H a xs → xs[i]? = some x, fun i H => ∃ xs, SqL K H a xs ∧ xs.length ≤ i⟩
def Itt (K : PySem.W.Frag) (a : Addr) : It :=
  ⟨fun i H => ∃ xs x, SqT K H a xs ∧ xs[i]? = some x, fun i H x H' => H' = H ∧ ∀ xs, SqT K H a xs → xs[i]? = some x, fun i H => ∃ xs, SqT K H a xs ∧ xs.length ≤ i⟩
/-- lo, lo + 1, .. (n of them) -/
def Itr (lo : Int) (n : Nat) : It := ⟨fun i _ => i < n, fun i H x H' => H' = H ∧ x = .int (lo + i), fun i _ => n ≤ i⟩
theorem turn_list {P : Program} {w : World} {K : PySem.W.Frag} {tg : Expr} (a it : Addr) : Turn P w K tg (Itl K a) [it] it (fun i h => h.IsListIter it a i) where
  mem := by simp
  obj := fun i h st b hb => by
    have e : b = it := by simpa using hb
    subst e
    obtain ⟨o, e, c, d⟩ := st
    exact ⟨o, e, fun v z => by rw [d] at z; cases z⟩
  keep := fun i h h' st k => st.at fun o e => k it (by simp) o e
  item := by
    intro X hP hw hK hc i pins s σ H E I hf st hg
    subst hP hw hK
    obtain ⟨xs, x, hq, hx⟩ := hg
    obtain ⟨its, rv, p, hz⟩ := I.list hq
    obtain ⟨u, hu, ru⟩ := rv.get hx
    obtain ⟨f0, f1, f2, f3, f4, f5⟩ := hf it (by simp)
    refine wpAny_pyNext_list_item st p.isList (x := u) (by simpa using hu) fun h' st' sb => ?_
    have I1 : Inv X pins σ H { s with heap := h' } := I.turned (t' := s.toks) (fun b o hb e => (sb.2 b hb).trans e) f0 f1 f3 f4 f5
    obtain ⟨o, e, c, d⟩ := id st'
    exact ⟨u, rfl, go_of (s := { s with heap := h' }) e c d (by decide) ⟨x, H, I1, ru, ⟨rfl, fun ys hy => by rw [I.list_inj hy hq]; exact hx⟩, st', fun b hb => (hf b hb).1⟩⟩
  done := by
    intro X hP hw hK hc i pins s σ H E I hf st hg
    subst hP hw hK
    obtain ⟨xs, hq, hx⟩ := hg
    obtain ⟨its, rv, p, hz⟩ := I.list hq
    obtain ⟨f0, f1, f2, f3, f4, f5⟩ := hf it (by simp)
    have hl := rv.length
    exact wpAny_pyNext_list_end (I.ok.hd hc) st p.isList (by simp; omega) fun h' eb => ⟨rfl, I.turned (t' := s.toks) (fun b o hb e => eb b o hb e) f0 f1 f3 f4 f5⟩
  self := fun _ _ _ _ _ st h => wpAny_pyIter_listiter st h
theorem turn_tuple {P : Program} {w : World} {K : PySem.W.Frag} {tg : Expr} (a it : Addr) : Turn P w K tg (Itt K a) [it] it (fun i h => h.IsTupleIter it a i) where
  mem := by simp
  obj := fun i h st b hb => by
    have e : b = it := by simpa using hb
    subst e
    obtain ⟨o, e, c, d⟩ := st
    exact ⟨o, e, fun v z => by rw [d] at z; cases z⟩
  keep := fun i h h' st k => st.at fun o e => k it (by simp) o e
  item := by
    intro X hP hw hK hc i pins s σ H E I hf st hg
    subst hP hw hK
    obtain ⟨xs, x, hq, hx⟩ := hg
    obtain ⟨its, rv, p, hz⟩ := I.tuple hq
    obtain ⟨u, hu, ru⟩ := rv.get hx
    obtain ⟨f0, f1, f2, f3, f4, f5⟩ := hf it (by simp)
    refine wpAny_pyNext_tuple_item st (show s.heap.IsTuple a its.toArray from p) (x := u) (by simpa using hu) fun h' st' sb => ?_
    have I1 : Inv X pins σ H { s with heap := h' } := I.turned (t' := s.toks) (fun b o hb e => (sb.2 b hb).trans e) f0 f1 f3 f4 f5
    obtain ⟨o, e, c, d⟩ := id st'
    exact ⟨u, rfl, go_of (s := { s with heap := h' }) e c d (by decide) ⟨x, H, I1, ru, ⟨rfl, fun ys hy => by rw [I.tuple_inj hy hq]; exact hx⟩, st', fun b hb => (hf b hb).1⟩⟩
  done := by
    intro X hP hw hK hc i pins s σ H E I hf st hg
    subst hP hw hK
    obtain ⟨xs, hq, hx⟩ := hg
    obtain ⟨its, rv, p, hz⟩ := I.tuple hq
    obtain ⟨f0, f1, f2, f3, f4, f5⟩ := hf it (by simp)
    have hl := rv.length
    exact wpAny_pyNext_tuple_end (I.ok.hd hc) st (show s.heap.IsTuple a its.toArray from p) (by simp; omega) fun h' eb => ⟨rfl, I.turned (t' := s.toks) (fun b o hb e => eb b o hb e) f0 f1 f3 f4 f5⟩
  self := fun _ _ _ _ _ st h => wpAny_pyIter_tupleiter st h
theorem turn_range {P : Program} {w : World} {K : PySem.W.Frag} {tg : Expr} (it : Addr) (lo : Int) (n : Nat) : Turn P w K tg (Itr lo n) [it] it (fun i h => IsRangeIter h it (lo + (i : Nat) * 1) ((n : Int) - (i : Nat)) 1) where
  mem := by simp
  obj := fun i h st b hb => by
    have e : b = it := by simpa using hb
    subst e
    exact ⟨_, st, fun v z => by
      have z' : Data.fields _ = Data.cell v := z
      cases z'⟩
  keep := fun i h h' st k => k it (by simp) _ st
  item := by
    intro X hP hw hK hc i pins s σ H E I hf st hg
    subst hP hw hK
    obtain ⟨f0, f1, f2, f3, f4, f5⟩ := hf it (by simp)
    have W := Walks.range (prog := X.prog) (w := X.w) (I.ok.hd hc) it lo 1 n
    refine W.item i s _ _ hg st fun v h' tk hv st' kk => ?_
    obtain ⟨t, rfl⟩ := hv
    have I1 : Inv X pins σ H { s with heap := h', toks := tk } := I.turned (fun b o hb e => kk b o (by simpa using hb) e) f0 f1 f3 f4 f5
    refine ⟨_, rfl, go_of (s := { s with heap := h', toks := tk }) (n := "range_iterator") st' rfl rfl (by decide) ⟨.int (lo + i), H, I1, ⟨t, ?_⟩, ⟨rfl, rfl⟩, st', fun b hb => (hf b hb).1⟩⟩
    rw [Int.mul_one]
  done := by
    intro X hP hw hK hc i pins s σ H E I hf st hg
    subst hP hw hK
    obtain ⟨f0, f1, f2, f3, f4, f5⟩ := hf it (by simp)
    exact wpAny_pyNext_range_end (I.ok.hd hc) st (by have : n ≤ i := hg; omega) fun h' eb => ⟨rfl, I.turned (t' := s.toks) (fun b o hb e => eb b o hb e) f0 f1 f3 f4 f5⟩
  self := fun _ _ _ _ _ st h => wpAny_pyIter_rangeiter st h
end L2

namespace L2
open PySem PySem.Spec PyProof.Rows
section
variable {X : Cx} {tg : Expr}
def iList (K : PySem.W.Frag) (tl : TE) : TI := fun σ H R => tl σ H fun x H1 => ∃ a, x = .ref a ∧ (∃ xs, SqL K H1 a xs) ∧ R (Itl K a) H1
def iTup (K : PySem.W.Frag) (tl : TE) : TI := fun σ H R => tl σ H fun x H1 => ∃ a, x = .ref a ∧ (∃ xs, SqT K H1 a xs) ∧ R (Itt K a) H1
theorem pi_list {l : Expr} {tl : TE} (hl : PE X l tl) : PI X tg l (iList X.K tl) := by
  intro pins s σ H R I h
  refine thn (hl pins s σ H _ I h) fun v s1 ⟨x, H1, I1, r1, q1⟩ => ?_
  obtain ⟨a, e, ⟨xs, hq⟩, q⟩ := q1
  subst e
  cases r1
  obtain ⟨its, rv, p, hz⟩ := I1.list hq
  refine wpAny_pyIter_list p.isList ?_
  refine ⟨s1.heap.objs.size, [s1.heap.objs.size], _, _, H1, rfl, I1.kept (t' := s1.toks) fun b o e => Heap.get?_push_of_some _ e, turn_list a _, ⟨_, Heap.get?_push_size _ rfl, rfl, rfl⟩, fun b hb => ?_, q⟩
  have e : b = s1.heap.objs.size := by simpa using hb
  subst e
  exact I1.fpOk (Nat.le_refl _) (I1.hok.fresh (Nat.le_refl _))
theorem pi_tup {l : Expr} {tl : TE} (hl : PE X l tl) : PI X tg l (iTup X.K tl) := by
  intro pins s σ H R I h
  refine thn (hl pins s σ H _ I h) fun v s1 ⟨x, H1, I1, r1, q1⟩ => ?_
  obtain ⟨a, e, ⟨xs, hq⟩, q⟩ := q1
  subst e
  cases r1
  obtain ⟨its, rv, p, hz⟩ := I1.tuple hq
  refine wpAny_pyIter_tuple (show s1.heap.IsTuple a its.toArray from p) ?_
  refine ⟨s1.heap.objs.size, [s1.heap.objs.size], _, _, H1, rfl, I1.kept (t' := s1.toks) fun b o e => Heap.get?_push_of_some _ e, turn_tuple a _, ⟨_, Heap.get?_push_size _ rfl, rfl, rfl⟩, fun b hb => ?_, q⟩
  have e : b = s1.heap.objs.size := by simpa using hb
  subst e
  exact I1.fpOk (Nat.le_refl _) (I1.hok.fresh (Nat.le_refl _))
/-- a range object just made, walked -/
theorem range_it {pins : List (Addr × Obj)} {σ : St} {H : Hp} {s : Shared} {R : It → Hp → Prop} {E : Value → Shared → Prop} {lo hi : Int} {t u v : Tok} {tk : Nat} (I : Inv X pins σ H s) (h1 : -(2 ^ 62) ≤ lo) (h2 : lo < 2 ^ 62) (h3 : -(2 ^ 62) ≤ hi) (h4 : hi < 2 ^ 62)
    (q : R (Itr lo (hi - lo).toNat) H) : wpAny (model X.prog X.w) X.A (pyIter (.ref s.heap.objs.size)) (PIE X pins σ tg R) E { s with heap := s.heap.push { cls := .type "range", data := .fields #[.int lo t, .int hi u, .int 1 v] }, toks := tk } := by
  refine wpAny_pyIter_range (IsRange.new ..) (small_one h1 h2 h3 h4) ?_
  have I1 : Inv X pins σ H { s with heap := s.heap.push { cls := .type "range", data := .fields #[.int lo t, .int hi u, .int 1 v] }, toks := tk } := I.kept fun b o e => Heap.get?_push_of_some _ e
  refine ⟨(s.heap.push { cls := .type "range", data := .fields #[.int lo t, .int hi u, .int 1 v] }).objs.size, [(s.heap.push { cls := .type "range", data := .fields #[.int lo t, .int hi u, .int 1 v] }).objs.size], _, _, H, rfl,
    I1.kept (t' := tk) fun b o e => Heap.get?_push_of_some _ e, turn_range _ lo (hi - lo).toNat, ?_, fun b hb => ?_, q⟩
  · have e1 : lo + ((0 : Nat) : Int) * 1 = lo := by simp
    have e2 : (((hi - lo).toNat : Nat) : Int) - ((0 : Nat) : Int) = Builtin.Range.rangeSize lo hi 1 := by rw [rangeSize_one]; split <;> omega
    show IsRangeIter _ _ (lo + ((0 : Nat) : Int) * 1) ((((hi - lo).toNat : Nat) : Int) - ((0 : Nat) : Int)) 1
    rw [e1, e2]
    exact Heap.get?_push_size _ rfl
  · have e : b = (s.heap.push { cls := .type "range", data := .fields #[.int lo t, .int hi u, .int 1 v] }).objs.size := by simpa using hb
    subst e
    exact I1.fpOk (Nat.le_refl _) (I1.hok.fresh (Nat.le_refl _))
def iRng1 (ta : TA) : TI := fun σ H R => ta σ H fun vs H1 => ∃ j : Int, vs = [.int j] ∧ -(2 ^ 62) ≤ j ∧ j < 2 ^ 62 ∧ R (Itr 0 j.toNat) H1
theorem pi_range1 {a : Expr} {ta : TA} {p pos : Pos} (hg : Gl X "range") (hm : X.mg "range" = none) (ha : PA X [a] ta) (hs : starEach [a] X.env = [(false, eval a X.env)] := by rfl) : PI X tg (.Call (.Name "range" p) [a] [] pos) (iRng1 ta) := by
  intro pins s σ H R I h
  refine Call_ (ld_blt I hg hm boot_range (PyProof.Rows.callWith_type1 (thn (ha pos pins s σ H _ I h) fun us s1 ⟨vs, H1, I1, r1, q1⟩ => ?_) hs rfl))
  obtain ⟨j, e, q1, q2, q⟩ := q1
  subst e
  cases r1 with
  | cons r rr =>
    cases rr
    obtain ⟨t, rfl⟩ := r
    exact call_range_1 (range_it I1 (by omega) (by omega) q1 q2 (by simpa using q))
/-! ### for -/
/-- W: the invariant by the turn and a measure; N: what the body is to reach -/
def tFor (wi : TI) (g : TG) (tb : TS) : TS := fun D σ H => wi σ H fun J H1 => ∃ W : Nat → Nat → St → Hp → Prop, (∃ m, W 0 m σ H1) ∧ ∀ i m σ H, W i m σ H →
  (J.stop i H ∧ D.nx σ H) ∨ (J.go i H ∧ ∃ N : St → Hp → Prop, (∀ σ' H', N σ' H' → ∃ m', m' < m ∧ W (i + 1) m' σ' H') ∧ ∀ x H', J.yld i H x H' → g x σ H' fun σ2 H2 => tb { D with nx := N, ct := N, bk := D.nx } σ2 H2)
/-- the records at fp as they stand -/
def pinsAt (fp : List Addr) (h : Heap) : List (Addr × Obj) := fp.filterMap fun b => (h.get? b).map fun o => (b, o)
theorem mem_pinsAt {fp : List Addr} {h : Heap} {b : Addr} {o : Obj} (hb : b ∈ fp) (e : h.get? b = some o) : (b, o) ∈ pinsAt fp h := List.mem_filterMap.mpr ⟨b, hb, by rw [e]; rfl⟩
theorem of_pinsAt {fp : List Addr} {h : Heap} {p : Addr × Obj} (hp : p ∈ pinsAt fp h) : p.1 ∈ fp ∧ h.get? p.1 = some p.2 := by
  obtain ⟨b, hb, e⟩ := List.mem_filterMap.mp hp
  cases q : h.get? b with
  | none => rw [q] at e; cases e
  | some o =>
    rw [q] at e
    have e' : (b, o) = p := Option.some.inj e
    subst e'
    exact ⟨hb, q⟩
theorem Inv.pinned {pins : List (Addr × Obj)} {σ : St} {H : Hp} {s : Shared} {fp : List Addr} (I : Inv X pins σ H s) (hf : ∀ b ∈ fp, FpOk X pins H b) (ho : ∀ b ∈ fp, ∃ o, s.heap.get? b = some o ∧ ∀ v, o.data ≠ .cell v) : Inv X (pins ++ pinsAt fp s.heap) σ H s :=
  I.pins_of fun p hp => (List.mem_append.mp hp).elim (fun z => I.pin p (List.mem_append_right _ z)) fun z => by
    obtain ⟨hb, e⟩ := of_pinsAt z
    obtain ⟨f0, f1, f2, _⟩ := hf p.1 hb
    obtain ⟨o, e', d⟩ := ho p.1 hb
    rw [e] at e'; cases e'
    exact ⟨e, f0, f1, f2, d⟩
theorem Inv.unpinned {pins pl : List (Addr × Obj)} {σ : St} {H : Hp} {s : Shared} (I : Inv X (pins ++ pl) σ H s) : Inv X pins σ H s := I.pins_of fun p hp => I.pin p (List.mem_append_right _ (List.mem_append_left _ hp))
theorem ps_for {iter : Expr} {body : List Stmt} {wi : TI} {g : TG} {tb : TS} {pos : Pos} (hp : PassesOwn (model X.prog X.w) X.A X.env X.xe) (hc : X.calm = true) (hi : PI X tg iter wi) (hg : PG X tg g) (hb : PSs X body tb)
    (hs : ∀ x, foldedSetIterable iter X.env x = pure x := by intro _; rfl) : PS X (.For tg iter body [] pos) (tFor wi g tb) := by
  intro pins s σ H D I h
  refine wpAny_For (thn (hi pins s σ H _ I h) fun v s1 h1 => thn h1 fun itv s2 h2 => ?_) hs
  obtain ⟨it, fp, tn, J, H2, e, I2, T, st2, f2, W, ⟨m0, w0⟩, turn⟩ := h2
  subst e
  -- what stays true of the iterator's objects through the loop
  have stat : ∀ {H' : Hp}, (∀ b ∈ fp, H' b = none) → ∀ b ∈ fp, FpOk X pins H' b := fun hn b hb => ⟨hn b hb, (f2 b hb).2⟩
  refine codeAny_forLoop_any (fun n s' => ∃ i σ' H', Inv X pins σ' H' s' ∧ tn i s'.heap ∧ (∀ b ∈ fp, H' b = none) ∧ W i n σ' H') ?_ m0 ⟨0, σ, H2, I2, st2, fun b hb => (f2 b hb).1, w0⟩
  rintro n s3 ⟨i, σ3, H3, I3, st3, fr3, w3⟩
  rcases turn i n σ3 H3 w3 with ⟨stop, qn⟩ | ⟨go, N, hN, step⟩
  · refine wpAny_passesOwn hp (thn (T.done X rfl rfl rfl hc i pins s3 σ3 H3 X.xe I3 (stat fr3) st3 stop) fun r s4 ⟨hr, I4⟩ => ?_)
    subst hr
    exact wpAny_execs_nil ⟨σ3, H3, I4, qn⟩
  · refine wpAny_passesOwn hp (thn (T.item X rfl rfl rfl hc i pins s3 σ3 H3 X.xe I3 (stat fr3) st3 go) fun r s4 ⟨u, hr, h4⟩ => ?_)
    subst hr
    refine wpAny_passesOwn hp (thn h4 fun _ s5 ⟨x, H5, I5, r5, y5, st5, fr5⟩ => ?_)
    have I5' := I5.pinned (stat fr5) (T.obj _ _ st5)
    refine wpAny_passesOwn hp (thn (hg _ s5 σ3 H5 x u _ I5' r5 (step x H5 y5)) fun _ s6 ⟨σ6, H6, I6, q6⟩ => ?_)
    refine wpAny_passesOwn hp (thn (hb _ s6 σ6 H6 _ I6 q6) fun f s7 q7 => ?_)
    have again : ∀ {σ7 : St} {H7 : Hp}, Inv X (pins ++ pinsAt fp s5.heap) σ7 H7 s7 → N σ7 H7 → ∃ m, m < n ∧ ∃ i σ' H', Inv X pins σ' H' s7 ∧ tn i s7.heap ∧ (∀ b ∈ fp, H' b = none) ∧ W i m σ' H' := fun {σ7 H7} I7 n7 => by
      obtain ⟨m', hm, w7⟩ := hN σ7 H7 n7
      refine ⟨m', hm, i + 1, σ7, H7, I7.unpinned, T.keep _ _ _ st5 fun b hb o e => (I7.pin (b, o) (List.mem_append_right _ (List.mem_append_right _ (mem_pinsAt hb e)))).1, fun b hb => ?_, w7⟩
      obtain ⟨o, e, d⟩ := T.obj _ _ st5 b hb
      exact (I7.pin (b, o) (List.mem_append_right _ (List.mem_append_right _ (mem_pinsAt hb e)))).2.1
    cases f with
    | next => obtain ⟨σ7, H7, I7, n7⟩ := q7; exact again I7 n7
    | cont => obtain ⟨σ7, H7, I7, n7⟩ := q7; exact again I7 n7
    | brk => obtain ⟨σ7, H7, I7, q7⟩ := q7; exact ⟨σ7, H7, I7.unpinned, q7⟩
    | ret v => obtain ⟨x7, σ7, H7, I7, r7, q7⟩ := q7; exact ⟨x7, σ7, H7, I7.unpinned, r7, q7⟩
end

/-! ### the forms one uses -/
/-- over a list that the body leaves as it is -/
theorem for_list {K : PySem.W.Frag} {a : Addr} {xs : List V} {g : TG} {tb : TS} {D : Ends} {σ : St} {H : Hp} (Pv : Nat → St → Hp → Prop) (h0 : Pv 0 σ H) (hl : ∀ i σ H, i ≤ xs.length → Pv i σ H → SqL K H a xs)
    (hs : ∀ i x σ H, xs[i]? = some x → Pv i σ H → g x σ H fun σ2 H2 => tb { D with nx := Pv (i + 1), ct := Pv (i + 1), bk := D.nx } σ2 H2) (hd : ∀ σ H, Pv xs.length σ H → D.nx σ H) :
    ∃ W : Nat → Nat → St → Hp → Prop, (∃ m, W 0 m σ H) ∧ ∀ i m σ H, W i m σ H →
      ((Itl K a).stop i H ∧ D.nx σ H) ∨ ((Itl K a).go i H ∧ ∃ N : St → Hp → Prop, (∀ σ' H', N σ' H' → ∃ m', m' < m ∧ W (i + 1) m' σ' H') ∧ ∀ x H', (Itl K a).yld i H x H' → g x σ H' fun σ2 H2 => tb { D with nx := N, ct := N, bk := D.nx } σ2 H2) := by
  refine ⟨fun i m σ H => m = xs.length - i ∧ i ≤ xs.length ∧ Pv i σ H, ⟨xs.length, by simp, Nat.zero_le _, h0⟩, ?_⟩
  rintro i m σ H ⟨rfl, hi, p⟩
  have q := hl i σ H hi p
  by_cases hlt : i < xs.length
  · refine .inr ⟨⟨xs, xs[i], q, by simp [hlt]⟩, Pv (i + 1), fun σ' H' p' => ⟨xs.length - (i + 1), by omega, rfl, hlt, p'⟩, fun x H' y => ?_⟩
    obtain ⟨e, y⟩ := y
    subst e
    exact hs i x σ _ (y xs q) p
  · have e : i = xs.length := by omega
    subst e
    exact .inl ⟨⟨xs, q, Nat.le_refl _⟩, hd σ H p⟩
theorem for_range {lo : Int} {n : Nat} {g : TG} {tb : TS} {D : Ends} {σ : St} {H : Hp} (Pv : Nat → St → Hp → Prop) (h0 : Pv 0 σ H)
    (hs : ∀ i σ H, i < n → Pv i σ H → g (.int (lo + i)) σ H fun σ2 H2 => tb { D with nx := Pv (i + 1), ct := Pv (i + 1), bk := D.nx } σ2 H2) (hd : ∀ σ H, Pv n σ H → D.nx σ H) :
    ∃ W : Nat → Nat → St → Hp → Prop, (∃ m, W 0 m σ H) ∧ ∀ i m σ H, W i m σ H →
      ((Itr lo n).stop i H ∧ D.nx σ H) ∨ ((Itr lo n).go i H ∧ ∃ N : St → Hp → Prop, (∀ σ' H', N σ' H' → ∃ m', m' < m ∧ W (i + 1) m' σ' H') ∧ ∀ x H', (Itr lo n).yld i H x H' → g x σ H' fun σ2 H2 => tb { D with nx := N, ct := N, bk := D.nx } σ2 H2) := by
  refine ⟨fun i m σ H => m = n - i ∧ i ≤ n ∧ Pv i σ H, ⟨n, by simp, Nat.zero_le _, h0⟩, ?_⟩
  rintro i m σ H ⟨rfl, hi, p⟩
  by_cases hlt : i < n
  · refine .inr ⟨hlt, Pv (i + 1), fun σ' H' p' => ⟨n - (i + 1), by omega, rfl, hlt, p'⟩, fun x H' y => ?_⟩
    obtain ⟨e, y⟩ := y
    subst e y
    exact hs i σ _ hlt p
  · have e : i = n := by omega
    subst e
    exact .inl ⟨Nat.le_refl _, hd σ H p⟩
end L2

namespace L2
open PySem PySem.Spec PyProof.Rows

abbrev R2 := V → V → Hp → VK → Prop
/-- a two-place operation on values: f is binaryOp op, inplaceOp op or compareOp op -/
def OpR (X : Cx) (f : Value → Value → Sem Value) (r : R2) : Prop :=
  ∀ (pins : List (Addr × Obj)) (s : Shared) (σ : St) (H : Hp) (x y : V) (v u : Value) (Q : VK), Inv X pins σ H s → RelV x v → RelV y u → r x y H Q →
    wpAny (model X.prog X.w) X.A (f v u) (EP X pins σ Q) X.xe s
/-- a one-place operation -/
def UnR (X : Cx) (f : Value → Sem Value) (r : V → Hp → VK → Prop) : Prop :=
  ∀ (pins : List (Addr × Obj)) (s : Shared) (σ : St) (H : Hp) (x : V) (v : Value) (Q : VK), Inv X pins σ H s → RelV x v → r x H Q →
    wpAny (model X.prog X.w) X.A (f v) (EP X pins σ Q) X.xe s
/-- a call of a value that is known (a builtin, a type) with values -/
def CallR (X : Cx) (f : Value) (r : List V → Hp → VK → Prop) : Prop :=
  ∀ (pins : List (Addr × Obj)) (s : Shared) (σ : St) (H : Hp) (xs : List V) (us : List Value) (Q : VK), Inv X pins σ H s → Vals xs us → r xs H Q →
    wpAny (model X.prog X.w) X.A (call f us) (EP X pins σ Q) X.xe s
def tOp (r : R2) (ta tb : TE) : TE := fun σ H Q => ta σ H fun x H1 => tb σ H1 fun y H2 => r x y H2 Q
def tUn (r : V → Hp → VK → Prop) (ta : TE) : TE := fun σ H Q => ta σ H fun x H1 => r x H1 Q
/-- ints in, under C, and a value out -/
def rI (C : Int → Int → Prop) (g : Int → Int → V) : R2 := fun x y H Q => ∃ i j, x = .int i ∧ y = .int j ∧ C i j ∧ Q (g i j) H
def rI0 (g : Int → Int → V) : R2 := fun x y H Q => ∃ i j, x = .int i ∧ y = .int j ∧ Q (g i j) H
def rU (g : Int → V) : V → Hp → VK → Prop := fun x H Q => ∃ i, x = .int i ∧ Q (g i) H

section
variable {X : Cx} {a b c : Expr} {ta tb tc : TE} {pos : Pos}

theorem binT (ha : PE X a ta) (hb : PE X b tb) {pins : List (Addr × Obj)} {s : Shared} {σ : St} {H : Hp} {R : V → V → Hp → Prop} (I : Inv X pins σ H s)
    (h : ta σ H fun x H1 => tb σ H1 fun y H2 => R x y H2) {Q : Value → Shared → Prop} {f : Value → Value → Sem Value}
    (hf : ∀ v u s2 x y H2, Inv X pins σ H2 s2 → RelV x v → RelV y u → R x y H2 → wpAny (model X.prog X.w) X.A (f v u) Q X.xe s2) :
    wpAny (model X.prog X.w) X.A (eval a X.env) (fun v s₁ => wpAny (model X.prog X.w) X.A (eval b X.env) (fun u s₂ => wpAny (model X.prog X.w) X.A (f v u) Q X.xe s₂) X.xe s₁) X.xe s := by
  refine thn (ha pins s σ H _ I h) fun v s1 ⟨x, H1, I1, r1, q1⟩ => ?_
  refine thn (hb pins s1 σ H1 _ I1 q1) fun u s2 ⟨y, H2, I2, r2, q2⟩ => ?_
  exact hf v u s2 x y H2 I2 r1 r2 q2

theorem pe_op {op : Operator} {r : R2} (ho : OpR X (binaryOp op) r) (ha : PE X a ta) (hb : PE X b tb) : PE X (.BinOp a op b pos) (tOp r ta tb) := by
  intro pins s σ H Q I h
  exact wpAny_BinOp (binT ha hb I h fun v u s2 x y H2 I2 rx ry q => ho pins s2 σ H2 x y v u Q I2 rx ry q)
theorem pe_un {op : UnaryOp} {r : V → Hp → VK → Prop} (ho : UnR X (unaryOp op) r) (ha : PE X a ta) : PE X (.UnaryOp op a pos) (tUn r ta) := by
  intro pins s σ H Q I h
  exact UnaryOp_ (thn (ha pins s σ H _ I h) fun v s1 ⟨x, H1, I1, r1, q1⟩ => ho pins s1 σ H1 x v Q I1 r1 q1)
/-! ### ints -/
theorem opI {f : Value → Value → Sem Value} {C : Int → Int → Prop} {g : Int → Int → Int}
    (rule : ∀ (i j : Int) (t u : Tok) (s : Shared) (Q : Value → Shared → Prop) (E : Value → Shared → Prop), C i j → Q (.int (g i j) s.toks) { s with toks := s.toks + 1 } → wpAny (model X.prog X.w) X.A (f (.int i t) (.int j u)) Q E s) :
    OpR X f (rI C fun i j => .int (g i j)) := by
  intro pins s σ H x y v u Q I rx ry h
  obtain ⟨i, j, rfl, rfl, hc, q⟩ := h
  obtain ⟨t, rfl⟩ := rx
  obtain ⟨t', rfl⟩ := ry
  exact rule i j t t' s _ _ hc ⟨.int (g i j), H, I.tok _, ⟨_, rfl⟩, q⟩
theorem opI0 {f : Value → Value → Sem Value} {g : Int → Int → Int}
    (rule : ∀ (i j : Int) (t u : Tok) (s : Shared) (Q : Value → Shared → Prop) (E : Value → Shared → Prop), Q (.int (g i j) s.toks) { s with toks := s.toks + 1 } → wpAny (model X.prog X.w) X.A (f (.int i t) (.int j u)) Q E s) :
    OpR X f (rI0 fun i j => .int (g i j)) := by
  intro pins s σ H x y v u Q I rx ry h
  obtain ⟨i, j, rfl, rfl, q⟩ := h
  obtain ⟨t, rfl⟩ := rx
  obtain ⟨t', rfl⟩ := ry
  exact rule i j t t' s _ _ ⟨.int (g i j), H, I.tok _, ⟨_, rfl⟩, q⟩
theorem opB0 {f : Value → Value → Sem Value} {g : Int → Int → Bool}
    (rule : ∀ (i j : Int) (t u : Tok) (s : Shared) (Q : Value → Shared → Prop) (E : Value → Shared → Prop), Q (.bool (g i j)) s → wpAny (model X.prog X.w) X.A (f (.int i t) (.int j u)) Q E s) :
    OpR X f (rI0 fun i j => .bl (g i j)) := by
  intro pins s σ H x y v u Q I rx ry h
  obtain ⟨i, j, rfl, rfl, q⟩ := h
  obtain ⟨t, rfl⟩ := rx
  obtain ⟨t', rfl⟩ := ry
  exact rule i j t t' s _ _ ⟨.bl (g i j), H, I, rfl, q⟩

def CDiv (i j : Int) : Prop := 0 < j ∧ j < 1073741824
def CPow (i j : Int) : Prop := 0 ≤ j ∧ j ≤ 1000000 ∧ i.natAbs < 2 ^ 64
def CMul (i j : Int) : Prop := (-(2 ^ 64) < i ∧ i < 2 ^ 64) ∨ (-(2 ^ 64) < j ∧ j < 2 ^ 64)
theorem CMul.ok {i j : Int} (h : CMul i j) : IntMulOk i j := by
  rcases h with ⟨h1, h2⟩ | ⟨h1, h2⟩
  · exact .of_left (intBits_le_64 h1 h2)
  · exact .of_right (intBits_le_64 h1 h2)
theorem op_add : OpR X (binaryOp .Add) (rI0 fun i j => .int (i + j)) := opI0 fun _ _ _ _ _ _ _ q => add_int q
theorem op_sub : OpR X (binaryOp .Sub) (rI0 fun i j => .int (i - j)) := opI0 fun _ _ _ _ _ _ _ q => sub_int q
/-- // by a positive divisor -/
theorem op_fdiv : OpR X (binaryOp .FloorDiv) (rI CDiv fun i j => .int (i / j)) := opI fun i j _ _ _ _ _ hc q => by
  have h1 : (0 : Int) < j := hc.1
  have h2 : j < 1073741824 := hc.2
  exact floordiv_int (by omega) (by rw [Int.fdiv_eq_ediv_of_nonneg i (by omega)]; exact q) (.inl (PyProof.noPylong_small (by omega)))
/-- % by a positive divisor of any size -/
theorem op_mod : OpR X (binaryOp .Mod) (rI (fun _ j => 0 < j) fun i j => .int (i % j)) := opI fun i j _ _ _ _ _ hc q => by
  have h1 : (0 : Int) < j := hc
  exact mod_int' (by omega) (by rw [Int.fmod_eq_emod_of_nonneg i (by omega)]; exact q)
theorem op_pow : OpR X (binaryOp .Pow) (rI CPow fun i j => .int (i ^ j.toNat)) := opI fun _ _ _ _ _ _ _ hc q => pow_int_small hc.1 hc.2.1 hc.2.2 q
theorem unI {f : Value → Sem Value} {g : Int → Int}
    (rule : ∀ (i : Int) (t : Tok) (s : Shared) (Q : Value → Shared → Prop) (E : Value → Shared → Prop), Q (.int (g i) s.toks) { s with toks := s.toks + 1 } → wpAny (model X.prog X.w) X.A (f (.int i t)) Q E s) :
    UnR X f (rU fun i => .int (g i)) := by
  intro pins s σ H x v Q I rx h
  obtain ⟨i, rfl, q⟩ := h
  obtain ⟨t, rfl⟩ := rx
  exact rule i t s _ _ ⟨.int (g i), H, I.tok _, ⟨_, rfl⟩, q⟩
theorem un_neg : UnR X (unaryOp .USub) (rU fun i => .int (-i)) := unI fun _ _ _ _ _ q => neg_int q
/-! ### bools among ints: n += (a < b) -/
end

/-! ### comparisons -/
/-- the scalars that == tells apart as data does -/
def scal : V → V → Bool
  | .non, .non => true | .non, .int _ => true | .int _, .non => true | .non, .bl _ => true | .bl _, .non => true | .non, .str _ => true | .str _, .non => true
  | .int _, .int _ => true | .bl _, .bl _ => true | .str _, .str _ => true | .byt _, .byt _ => true
  | .int _, .str _ => true | .str _, .int _ => true | .bl _, .str _ => true | .str _, .bl _ => true
  | _, _ => false
def rEq : R2 := fun x y H Q => scal x y = true ∧ Q (.bl (decide (x = y))) H
theorem dec_int {i j : Int} : decide (V.int i = V.int j) = (i == j) := by
  rw [Bool.eq_iff_iff]
  simp
theorem dec_bl {i j : Bool} : decide (V.bl i = V.bl j) = (i == j) := by
  rw [Bool.eq_iff_iff]
  simp
theorem dec_str {i j : Str} : decide (V.str i = V.str j) = (i == j) := by
  rw [Bool.eq_iff_iff]
  simp
theorem dec_byt {i j : Array UInt8} : decide (V.byt i = V.byt j) = (i.toList == j.toList) := by
  rw [Bool.eq_iff_iff]
  cases i
  cases j
  simp

section
variable {X : Cx} {a b c : Expr} {ta tb tc : TE} {pos : Pos}
theorem fin_bl {pins : List (Addr × Obj)} {σ : St} {H : Hp} {s : Shared} {Q : VK} {k k' : Bool} (I : Inv X pins σ H s) (q : Q (.bl k) H) (e : k = k') : EP X pins σ Q (.bool k') s := by
  subst e
  exact ⟨.bl k, H, I, rfl, q⟩
theorem op_eq : OpR X (compareOp .Eq) rEq := by
  intro pins s σ H x y v u Q I rx ry h
  obtain ⟨hs, q⟩ := h
  cases x with
  | non =>
    cases rx
    cases y with
    | non => cases ry; exact PySem.EqNone.eq_none_none (fin_bl I q (by simp))
    | bl j => cases ry; exact PySem.EqNone.eq_none_bool (fin_bl I q (by simp))
    | int j => obtain ⟨t', rfl⟩ := ry; exact PySem.EqNone.eq_none_int (fin_bl I q (by simp))
    | str j => obtain ⟨t', rfl⟩ := ry; exact PySem.EqNone.eq_none_str (fin_bl I q (by simp))
    | _ => exact absurd (show false = true from hs) Bool.false_ne_true
  | bl i =>
    cases rx
    cases y with
    | non => cases ry; exact PySem.EqNone.eq_bool_none (fin_bl I q (by simp))
    | bl j => cases ry; exact eq_bool (fin_bl I q dec_bl)
    | str j => obtain ⟨t', rfl⟩ := ry; exact PySem.EqMixed.eq_bool_str (fin_bl I q (by simp))
    | _ => exact absurd (show false = true from hs) Bool.false_ne_true
  | int i =>
    obtain ⟨t, rfl⟩ := rx
    cases y with
    | non => cases ry; exact PySem.EqNone.eq_int_none (fin_bl I q (by simp))
    | int j => obtain ⟨t', rfl⟩ := ry; exact eq_int (fin_bl I q dec_int)
    | str j => obtain ⟨t', rfl⟩ := ry; exact PySem.EqMixed.eq_int_str (fin_bl I q (by simp))
    | _ => exact absurd (show false = true from hs) Bool.false_ne_true
  | str i =>
    obtain ⟨t, rfl⟩ := rx
    cases y with
    | non => cases ry; exact PySem.EqNone.eq_str_none (fin_bl I q (by simp))
    | bl j => cases ry; exact PySem.EqMixed.eq_str_bool (fin_bl I q (by simp))
    | int j => obtain ⟨t', rfl⟩ := ry; exact PySem.EqMixed.eq_str_int (fin_bl I q (by simp))
    | str j => obtain ⟨t', rfl⟩ := ry; exact eq_str (fin_bl I q dec_str)
    | _ => exact absurd (show false = true from hs) Bool.false_ne_true
  | byt i =>
    obtain ⟨t, rfl⟩ := rx
    cases y with
    | byt j => obtain ⟨t', rfl⟩ := ry; exact PySem.W.eq_bytes (fin_bl I q dec_byt)
    | _ => exact absurd (show false = true from hs) Bool.false_ne_true
  | _ => cases y <;> exact absurd (show false = true from hs) Bool.false_ne_true
theorem op_lt : OpR X (compareOp .Lt) (rI0 fun i j => .bl (decide (i < j))) := opB0 fun _ _ _ _ _ _ _ q => lt_int q
theorem op_le : OpR X (compareOp .LtE) (rI0 fun i j => .bl (decide (i ≤ j))) := opB0 fun _ _ _ _ _ _ _ q => le_int q
theorem op_gt : OpR X (compareOp .Gt) (rI0 fun i j => .bl (decide (j < i))) := opB0 fun _ _ _ _ _ _ _ q => gt_int q
theorem op_ge : OpR X (compareOp .GtE) (rI0 fun i j => .bl (decide (j ≤ i))) := opB0 fun _ _ _ _ _ _ _ q => ge_int q
/-- is None, is not None: the right side a value none -/
theorem op_isN : OpR X (compareOp .Is) (fun x y H Q => y = .non ∧ Q (.bl (decide (x = .non))) H) := by
  intro pins s σ H x y v u Q I rx ry h
  obtain ⟨rfl, q⟩ := h
  cases ry
  refine is_none_gen (fin_bl I q ?_)
  cases x <;> first
    | (cases rx; rfl)
    | (obtain ⟨t, rfl⟩ := rx; rfl)
/-- two rules for one operation: by cases -/
theorem OpR.or {f : Value → Value → Sem Value} {r r' : R2} (h : OpR X f r) (h' : OpR X f r') : OpR X f (fun x y H Q => r x y H Q ∨ r' x y H Q) := by
  intro pins s σ H x y v u Q I rx ry q
  rcases q with q | q
  · exact h pins s σ H x y v u Q I rx ry q
  · exact h' pins s σ H x y v u Q I rx ry q

theorem nomark (b : Expr) {op : CmpOp} (h : op ≠ .In := by decide) (h2 : op ≠ .NotIn := by decide) : behindInMarks op b = false := by
  have e1 : (op == CmpOp.In) = false := by cases op <;> first | rfl | exact absurd rfl h
  have e2 : (op == CmpOp.NotIn) = false := by cases op <;> first | rfl | exact absurd rfl h2
  cases b <;> simp [behindInMarks, e1, e2]
/-- a comparison as a value; hm: nomark b, or (for in, not in) by with_unfolding_all rfl -/
theorem pe_cmpR {op : CmpOp} {r : R2} (ho : OpR X (compareOp op) r) (ha : PE X a ta) (hb : PE X b tb) (hm : behindInMarks op b = false) : PE X (.Compare a [op] [b] pos) (tOp r ta tb) := by
  intro pins s σ H Q I h
  exact wpAny_Compare1 (binT ha hb I h fun v u s2 x y H2 I2 rx ry q => ho pins s2 σ H2 x y v u Q I2 rx ry q) hm
/-- a reading of a value as a test -/
def tTest (t : TE) : TT := fun σ H Q => t σ H fun x H' => ∃ k, x = .bl k ∧ Q k H'
theorem pt_cmpR {op : CmpOp} {r : R2} (ho : OpR X (compareOp op) r) (ha : PE X a ta) (hb : PE X b tb) (hm : behindInMarks op b = false) : PT X (.Compare a [op] [b] pos) (tTest (tOp r ta tb)) := by
  intro pins s σ H Q I h
  refine wpAny_isTrue_Compare1 (thn (ha pins s σ H _ I h) fun v s1 ⟨x, H1, I1, r1, q1⟩ => thn (hb pins s1 σ H1 _ I1 q1) fun u s2 ⟨y, H2, I2, r2, q2⟩ =>
    thn (ho pins s2 σ H2 x y v u _ I2 r1 r2 q2) fun c s3 ⟨z, H3, I3, r3, k, e, q3⟩ => ?_) hm
  subst e
  cases r3
  exact wpAny_truthy_bool ⟨H3, I3, q3⟩
/-! ### truth -/
theorem line63 : (sizeLine : Nat) < 2 ^ 63 := by rw [sizeLine_eq]; decide
/-! ### strs and bytes -/
/-! ### scalar builtins, by CallR -/
theorem vals1 {x : V} {us : List Value} (r : Vals [x] us) : ∃ u, us = [u] ∧ RelV x u := by
  cases r with
  | cons r1 r2 => cases r2; exact ⟨_, rfl, r1⟩
theorem vals2 {x y : V} {us : List Value} (r : Vals [x, y] us) : ∃ u w', us = [u, w'] ∧ RelV x u ∧ RelV y w' := by
  cases r with
  | cons r1 r2 =>
    cases r2 with
    | cons r3 r4 => cases r4; exact ⟨_, _, rfl, r1, r3⟩
theorem call_min2 (hc : X.calm = true) : CallR X (.builtin "min") (fun xs H Q => ∃ i j, xs = [.int i, .int j] ∧ Q (.int (if j < i then j else i)) H) := by
  intro pins s σ H xs us Q I r h
  obtain ⟨i, j, rfl, q⟩ := h
  obtain ⟨u, w', rfl, ⟨t, rfl⟩, ⟨t', rfl⟩⟩ := vals2 r
  refine min_two_ints (I.ok.hd hc) fun h' tk k => ⟨_, H, I.kept k, ?_, q⟩
  by_cases hj : j < i
  · rw [if_pos hj, if_pos hj]; exact ⟨_, rfl⟩
  · rw [if_neg hj, if_neg hj]; exact ⟨_, rfl⟩
end
end L2

namespace L2
open PySem PySem.Spec PyProof.Rows

/-! ### an instance, its attributes a map -/
structure ObjM (h : Heap) (x dx C : Addr) (mA : Str → Option Value) : Prop where
  obj : h.get? x = some (PySem.W.instObj C dx)
  ns : h.Ns1 dx mA
  ne : dx ≠ x

theorem lookIn_ns {h : Heap} {dx : Addr} {mA : Str → Option Value} (n : h.Ns1 dx mA) : ∃ od, h.get? dx = some od ∧ ∀ name, PySem.W.lookIn name od = some (mA name) := by
  obtain ⟨o, es, ep, ho, hd, hk, _, hm⟩ := n
  refine ⟨o, ho, fun name => ?_⟩
  have e := hm name
  unfold nsFind findBy at e
  rw [← Array.find?_toList] at e
  unfold PySem.W.lookIn
  rw [hd]
  dsimp only
  split
  · rename_i y q
    rw [q] at e
    exact congrArg some e
  · rename_i q
    rw [q] at e
    have a : es.toList.any (·.refKey) = false := by
      rw [List.any_eq_false]
      intro y hy
      obtain ⟨z, t, hkey⟩ := hk y (Array.mem_toList_iff.mp hy)
      simp [DictEntry.refKey, hkey]
    have a' : ¬ es.toList.any (·.refKey) = true := by rw [a]; exact Bool.false_ne_true
    rw [if_neg a']
    exact congrArg some e

theorem ObjM.look {h : Heap} {x dx C : Addr} {mA : Str → Option Value} (I : ObjM h x dx C mA) : ∃ od, PySem.W.InstAt h x (PySem.W.instObj C dx) C (some od) ∧ ∀ name, PySem.W.lookIn name od = some (mA name) :=
  let ⟨od, ho, hl⟩ := lookIn_ns I.ns
  ⟨od, ⟨I.obj, rfl, rfl, ho⟩, hl⟩

section
variable {prog : Program} {w : World} {A : Around} {E : Value → Shared → Prop} {s : Shared} {K : PySem.W.Frag} {x dx C f : Addr} {mA : Str → Option Value} {name : Str} {v : Value}

end

/-! ### the attributes as a list of pairs -/
section
variable {P : Program} {w : World} {H H' : Hp} {h h' : Heap} {a C dx : Addr} {fs fs' : List (Str × V)}
theorem ins_get (hok : HOk P w H h) (e : H a = some (.ins C dx fs)) : ∃ mA, ObjM h a dx C mA ∧ (∀ f, RelO (fs.lookup f) (mA f)) ∧ PySem.Within mA (fs.map (·.1)) ∧ fs.length ≤ 1000 ∧ H dx = some (.own a) := by
  obtain ⟨d, z, ne, ob, mA, n, r, q⟩ := (show ObjOk P w H h a (.ins C dx fs) from hok a _ e)
  exact ⟨mA, ⟨ob, n, ne⟩, r, q, z, d⟩
end

/-! ### what of the text a class must have -/
structure Cls (K : PySem.W.Frag) (C : Addr) : Prop where
  pg : PySem.W.plainGet K C Str.empty = true
  hd : PySem.W.hasDictIn K C = true
  po : PySem.W.plainOver K C = true
  sa : PySem.W.findIn K (.ref C) "__setattr__" = some (some (.builtin "object.__setattr__"))
theorem Cls.get {K : PySem.W.Frag} {C : Addr} (c : Cls K C) (f : Str) : PySem.W.plainGet K C f = true := c.pg
/-- a constant of the class -/
structure Con (K : PySem.W.Frag) (C : Addr) (f : Str) (v : V) (u : Value) : Prop where
  at_ : PySem.W.findIn K (.ref C) f = some (some u)
  rel : RelV v u
  get : PySem.W.specialIn K u "__get__" = some none
  cp : PySem.W.copiedNames.contains f = false
/-- a method: a plain def of the class or of one above it -/
structure Meth (K : PySem.W.Frag) (C : Addr) (m : Str) (f : Addr) : Prop where
  at_ : PySem.W.findIn K (.ref C) m = some (some (.ref f))
  fn : PySem.W.isFn K (.ref f) = true
  kp : PySem.W.keepIn K (.ref f) = true

section
variable {X : Cx} {pins : List (Addr × Obj)} {σ : St} {H : Hp} {s : Shared} {a C dx : Addr} {fs : List (Str × V)} {f : Str} {v : V} {A : Around} {E : Value → Shared → Prop}

/-- a new instance, tracked, without attributes -/
theorem Inv.made (I : Inv X pins σ H s) : Inv X pins σ (upd (upd H s.heap.objs.size (.own (s.heap.objs.size + 1))) (s.heap.objs.size + 1) (.ins C s.heap.objs.size []))
    { s with heap := (s.heap.push PySem.W.emptyDict).push (PySem.W.instObj C s.heap.objs.size) } := by
  have e1 : (s.heap.push PySem.W.emptyDict).get? s.heap.objs.size = some PySem.W.emptyDict := Heap.get?_push_size s.heap rfl
  have e2 : ((s.heap.push PySem.W.emptyDict).push (PySem.W.instObj C s.heap.objs.size)).get? (s.heap.objs.size + 1) = some (PySem.W.instObj C s.heap.objs.size) := by
    have := Heap.get?_push_size (s.heap.push PySem.W.emptyDict) (o := PySem.W.instObj C s.heap.objs.size) rfl
    rwa [Heap.size_push] at this
  have e3 : (s.heap.push PySem.W.emptyDict).Ns s.heap.objs.size (fun _ => none) := ⟨PySem.W.emptyDict, #[], _, e1, rfl, (fun e he => absurd he (by simp)), fun _ => rfl⟩
  have I1 := I.laid (a := s.heap.objs.size) (o := .own (s.heap.objs.size + 1)) (h' := s.heap.push PySem.W.emptyDict) (t' := s.toks) (fun b u q => Heap.get?_push_of_some _ q) (Nat.le_refl _) ⟨_, e1⟩
  refine I1.laid (a := s.heap.objs.size + 1) (o := .ins C s.heap.objs.size []) (t' := s.toks) (fun b u q => Heap.get?_push_of_some _ q) (Nat.le_of_eq (Heap.size_push _ _)) ?_
  have ne : s.heap.objs.size ≠ s.heap.objs.size + 1 := Nat.ne_of_lt (Nat.lt_succ_self _)
  refine ⟨by rw [upd_ne ne, upd_same], Nat.zero_le _, ne, e2, fun _ => none, (Heap.Ns1.of_empty e3).at fun o q => Heap.get?_push_of_some _ q, fun _ => True.intro, fun y hy => absurd rfl hy⟩

end

/-! ### readings and rules -/
section
variable {X : Cx} {o e value : Expr} {f : Str} {pos pos' tpos : Pos} {ta tv : TE}
end

/-! ### isinstance -/
section
variable {X : Cx} {pins : List (Addr × Obj)} {σ : St} {H : Hp} {s : Shared} {A : Around} {E : Value → Shared → Prop} {Q : Value → Shared → Prop} {c : Value} {b : Bool}
/-- the type of a value, as the fragment's deciders take it; for an instance its class -/
inductive TyOf (K : PySem.W.Frag) (H : Hp) : V → Value → Prop where
  | non : TyOf K H .non (.type "NoneType")
  | bl (x : Bool) : TyOf K H (.bl x) (.type "bool")
  | int (i : Int) : TyOf K H (.int i) (.type "int")
  | str (x : Str) : TyOf K H (.str x) (.type "str")
  | flt (x : UInt64) : TyOf K H (.flt x) (.type "float")
  | lst {a : Addr} {xs : List V} (e : H a = some (.lst xs)) : TyOf K H (.ref a) (.type "list")
  | frz {a : Addr} {o : Obj} {xs : List V} (e : H a = some (.frz o (.lst xs))) : TyOf K H (.ref a) (.type "list")
  | tup {a : Addr} {xs : List V} (e : H a = some (.tup xs)) : TyOf K H (.ref a) (.type "tuple")
  | dK {a : Addr} {kvs : List (Key × V)} (e : H a = some (.dK kvs)) : TyOf K H (.ref a) (.type "dict")
  | dT {a : Addr} {kvs : List (List Key × V)} (e : H a = some (.dT kvs)) : TyOf K H (.ref a) (.type "dict")
  | ins {a C dx : Addr} {fs : List (Str × V)} (e : H a = some (.ins C dx fs)) (cl : Cls K C) (ha : PySem.W.findIn K (.ref C) "__class__" = some (some (.builtin "object.__class__")))
      (hn : PySem.W.specialIn K (.builtin "object.__class__") "__get__" = some (some (.builtin "getset_descriptor.__get__"))) (htk : PySem.W.takesIn K (.builtin "object.__class__") = some true)
      (hm : PySem.W.mroIn K C (.type "object") = some true) : TyOf K H (.ref a) (.ref C)
/-- isinstance(x, c) for one class c, a built-in or an own one: kitOne's answer -/
theorem isinst_ok {x : V} {u t : Value} (I : Inv X pins σ H s) (rx : RelV x u) (ty : TyOf X.K H x t) (e : PySem.W.kitOne X.K t c = some b) (h : ∀ tk, Q (.bool b) { s with toks := tk }) :
    wpAny (model X.prog X.w) A (call (.builtin "isinstance") [u, c]) Q E s := by
  cases ty with
  | non => cases (show u = Value.none from rx); exact PySem.W.kia_one PySem.W.kitx_none I.kIn True.intro e (fun z => nomatch z) h
  | bl y => cases (show u = Value.bool y from rx); exact PySem.W.kia_one PySem.W.kitx_bool I.kIn True.intro e (fun z => nomatch z) h
  | int i => obtain ⟨t, q⟩ := (show ∃ t, u = Value.int i t from rx); cases q; exact PySem.W.kia_one PySem.W.kitx_int I.kIn True.intro e (fun z => nomatch z) h
  | str y => obtain ⟨t, q⟩ := (show ∃ t, u = Value.str y t from rx); cases q; exact PySem.W.kia_one PySem.W.kitx_str I.kIn True.intro e (fun z => nomatch z) h
  | flt y => obtain ⟨t, q⟩ := (show ∃ t, u = Value.float y t from rx); cases q; exact PySem.W.kia_one PySem.W.kitx_float I.kIn True.intro e (fun z => nomatch z) h
  | @lst a xs ea =>
    cases (show u = Value.ref a from rx)
    obtain ⟨_, _, n, _, h1⟩ := (show ObjOk X.prog X.w H s.heap a (.lst xs) from I.hok a _ ea)
    exact PySem.W.kia_one PySem.W.kitx_list I.kIn ⟨_, h1, rfl⟩ e (fun z => nomatch z) h
  | @frz a ob xs ea =>
    cases (show u = Value.ref a from rx)
    obtain ⟨_, _, _, n, _, h1⟩ := (show ObjOk X.prog X.w H s.heap a (.frz ob (.lst xs)) from I.hok a _ ea)
    exact PySem.W.kia_one PySem.W.kitx_list I.kIn ⟨_, h1, rfl⟩ e (fun z => nomatch z) h
  | @tup a xs ea =>
    cases (show u = Value.ref a from rx)
    obtain ⟨_, _, _, p⟩ := (show ObjOk X.prog X.w H s.heap a (.tup xs) from I.hok a _ ea)
    obtain ⟨o, h1, h2, _⟩ := p
    exact PySem.W.kia_one PySem.W.kitx_tuple I.kIn ⟨o, h1, h2⟩ e (fun z => nomatch z) h
  | @dK a kvs ea =>
    cases (show u = Value.ref a from rx)
    obtain ⟨_, _, vs, _, p⟩ := (show ObjOk X.prog X.w H s.heap a (.dK kvs) from I.hok a _ ea)
    obtain ⟨o, es, ep, h1, h2, _⟩ := p
    exact PySem.W.kia_one PySem.W.kitx_dict I.kIn ⟨o, h1, h2.1⟩ e (fun z => nomatch z) h
  | @dT a kvs ea =>
    cases (show u = Value.ref a from rx)
    obtain ⟨_, _, xs, _, o, es, ep, h1, h2, _⟩ := (show ObjOk X.prog X.w H s.heap a (.dT kvs) from I.hok a _ ea)
    exact PySem.W.kia_one PySem.W.kitx_dict I.kIn ⟨o, h1, h2.1⟩ e (fun z => nomatch z) h
  | @ins a C dx fs ea cl ha hn htk hm =>
    cases (show u = Value.ref a from rx)
    obtain ⟨mA, O, _⟩ := ins_get I.hok ea
    obtain ⟨od, J, _⟩ := O.look
    exact PySem.W.kia_one (PySem.W.kitx_own (cl.get _) cl.hd ha hn htk hm) I.kIn J e (fun z => nomatch z) h
end
end L2

namespace L2
open PySem PySem.Spec PyProof.Rows

/-! ### room -/
structure Room (k : Nat) (A : Around) : Prop where
  hd : A.handled = none
  dp : A.depth + 3 * k + 5 < recursionLimit
  un : A.units + 16 * k + 200 < cLine
theorem Room.mono {j k : Nat} {A : Around} (r : Room k A) (h : j ≤ k) : Room j A := ⟨r.hd, by have := r.dp; omega, by have := r.un; omega⟩
theorem Room.deeper {k : Nat} {A : Around} (r : Room (k + 1) A) (env : Env) : Room k (A.deeper env) :=
  ⟨r.hd, by have := r.dp; show A.depth + 1 + 3 * k + 5 < _; omega, by have := r.un; show A.units + 3 + 16 * k + 200 < _; omega⟩
theorem Room.in1 {k : Nat} {A : Around} (r : Room (k + 1) A) : Room k A.in1 :=
  ⟨r.hd, by have := r.dp; show A.depth + 3 * k + 5 < _; omega, by have := r.un; show A.units + 1 + 16 * k + 200 < _; omega⟩
theorem Room.depth {k : Nat} {A : Around} (r : Room k A) : A.depth < recursionLimit := by have := r.dp; omega
theorem Room.units {k : Nat} {A : Around} (r : Room k A) : A.units + 64 < cLine := by have := r.un; omega
/-! ### argument lists and displays -/
def tNil : TA := fun _ H Q => Q [] H
def tCons (ta : TE) (tr : TA) : TA := fun σ H Q => ta σ H fun x H1 => tr σ H1 fun xs H2 => Q (x :: xs) H2
section
variable {X : Cx} {e : Expr} {es : List Expr} {te : TE} {t : TA} {pos : Pos}
theorem pa_nil : PA X [] tNil := fun _ _ _ _ H Q I h => Calls.spliced_nil ⟨[], H, I, .nil, h⟩
theorem pa_cons (ha : PE X e te) (hr : PA X es t) (hs : starEach (e :: es) X.env = (false, eval e X.env) :: starEach es X.env := by rfl) : PA X (e :: es) (tCons te t) := by
  intro pos pins s σ H Q I h
  rw [hs]
  show wpAny _ _ (spliced ((false, eval e X.env) :: backTo pos (starEach es X.env))) _ _ s
  refine Calls.spliced_cons (thn (ha pins s σ H _ I h) fun u s1 ⟨x, H1, I1, r1, q1⟩ => ?_)
  exact thn (hr pos pins s1 σ H1 _ I1 q1) fun us s2 ⟨xs, H2, I2, r2, q2⟩ => ⟨x :: xs, H2, I2, .cons r1 r2, q2⟩

/-- a tuple, a list of written items -/
def tTup (t : TA) : TE := fun σ H Q => t σ H fun xs H1 => xs.length ≤ sizeLine ∧ ∀ p, H1 p = none → Q (.ref p) (upd H1 p (.tup xs))
def tLst (t : TA) : TE := fun σ H Q => t σ H fun xs H1 => xs.length ≤ sizeLine ∧ ∀ p, H1 p = none → Q (.ref p) (upd H1 p (.lst xs))
theorem pe_tup {x1} (h : PA X es t) : PE X (.Tuple es x1 pos) (tTup t) := by
  intro pins s σ H Q I hq
  refine wpAny_Tuple_spliced (thn (h pos pins s σ H _ I hq) fun us s1 ⟨xs, H1, I1, r, z, q⟩ => ⟨by rw [← r.length]; exact z, ?_⟩)
  have hf : H1 s1.heap.objs.size = none := I1.hok.fresh (Nat.le_refl _)
  refine ⟨.ref s1.heap.objs.size, upd H1 s1.heap.objs.size (.tup xs), I1.laid (t' := s1.toks) (fun b u e => Heap.get?_push_of_some _ e) (Nat.le_refl _) ?_, rfl, q _ hf⟩
  exact ⟨z, us, r, ⟨_, Heap.get?_push_size _ rfl, rfl, _, rfl⟩⟩
theorem pe_lst (h : PA X es t) : PE X (.List es pos) (tLst t) := by
  intro pins s σ H Q I hq
  refine wpAny_List_spliced (thn (h pos pins s σ H _ I hq) fun us s1 ⟨xs, H1, I1, r, z, q⟩ => ⟨by rw [← r.length]; exact z, ?_⟩)
  have hf : H1 s1.heap.objs.size = none := I1.hok.fresh (Nat.le_refl _)
  refine ⟨.ref s1.heap.objs.size, upd H1 s1.heap.objs.size (.lst xs), I1.laid (t' := s1.toks) (fun b u e => Heap.get?_push_of_some _ e) (Nat.le_refl _) ?_, rfl, q _ hf⟩
  exact ⟨z, us, 0, r, Heap.get?_push_size _ rfl⟩
end

/-! ### what a def promises -/
/-- a def's promise: the bound arguments in the parameters' order, the heap, the wanted end, the wanted exception -/
abbrev Sp := List V → Hp → VK → XK → Prop
/-- how an exception lies behind a call (file 08 gives it): the callers' frames, abstract heap and state ahead of the call, the wish, the exception, the state -/
abbrev CXT := List Env → Hp → Shared → XK → Value → Shared → Prop

/-- the state at a call -/
structure Env0 (P : Program) (w : World) (K : PySem.W.Frag) (mg : Str → Option Value) (base : Heap) (A : Around) (outer : List Env) (s : Shared) (H : Hp) : Prop where
  frames : A.frames = some outer
  mod : Mod K mg base
  bs : ∀ b o, base.get? b = some o → s.heap.get? b = some o ∧ H b = none
  bsz : base.objs.size ≤ s.heap.objs.size
  funs : s.heap.FunFrames base outer
  frf : ∀ b ∈ frs outer, H b = none
  hok : HOk P w H s.heap
  bare : AllBare s.gens
/-- a call's end -/
def CE (outer : List Env) (P : Program) (w : World) (H : Hp) (s : Shared) (Q : VK) (u : Value) (s' : Shared) : Prop :=
  ∃ v H', s'.os = s.os ∧ AllBare s'.gens ∧ Un (frs outer) [] H H' s.heap s'.heap ∧ HOk P w H' s'.heap ∧ RelV v u ∧ Q v H'
def CR (CX : CXT) (outer : List Env) (P : Program) (w : World) (H : Hp) (s : Shared) (Q : VK) (E : XK) (r : Result) (s' : Shared) : Prop :=
  match r with
  | .ok (.ret u) => CE outer P w H s Q u s'
  | .ok _ => False
  | .error e => CX outer H s E e s'
structure FnOk (P : Program) (w : World) (K : PySem.W.Frag) (mg : Str → Option Value) (base : Heap) (CX : CXT) (k : Nat) (f : Addr) (fd : FuncData) (ps : List Str) (sp : Sp) : Prop where
  len : ∀ vs H Q E, sp vs H Q E → vs.length = ps.length
  run : ∀ (A : Around) (outer : List Env) (s : Shared) (H : Hp) (args : Args) (us : List Value) (vs : List V) (Q : VK) (E : XK), Room k A → Env0 P w K mg base A outer s H → BindsTo s fd args (ps.zip us) → Vals vs us → sp vs H Q E →
    codeAny (model P w) A (.call (.ref f) args) (CR CX outer P w H s Q E) s
theorem FnOk.mono {P : Program} {w : World} {K : PySem.W.Frag} {mg : Str → Option Value} {base : Heap} {CX : CXT} {j k : Nat} {f : Addr} {fd : FuncData} {ps : List Str} {sp : Sp} (F : FnOk P w K mg base CX j f fd ps sp) (h : j ≤ k) :
    FnOk P w K mg base CX k f fd ps sp := ⟨F.len, fun A outer s H args us vs Q E hr => F.run A outer s H args us vs Q E (hr.mono h)⟩
theorem Env0.in1 {P : Program} {w : World} {K : PySem.W.Frag} {mg : Str → Option Value} {base : Heap} {A : Around} {outer : List Env} {s : Shared} {H : Hp} (e : Env0 P w K mg base A outer s H) :
    Env0 P w K mg base A.in1 outer s H := ⟨e.frames, e.mod, e.bs, e.bsz, e.funs, e.frf, e.hok, e.bare⟩

section
variable {X : Cx} {pins : List (Addr × Obj)} {σ : St} {H : Hp} {s s' : Shared}
/-- from a body: what a callee wants -/
theorem Inv.env0 (I : Inv X pins σ H s) : Env0 X.prog X.w X.K X.mg X.base X.A X.stack s H :=
  ⟨I.ok.frames, I.ok.mod, I.bs, Nat.le_trans I.ok.bsz I.sz, I.stack, I.stkFree, I.hok, I.bare⟩
/-- behind a call -/
theorem Inv.after {Q : VK} {u : Value} (I : Inv X pins σ H s) (h : CE X.stack X.prog X.w H s Q u s') : EP X pins σ Q u s' := by
  obtain ⟨v, H', os, bare, un, hok, r, q⟩ := h
  obtain ⟨hh, g, d, t, os'⟩ := s'
  obtain rfl : os' = s.os := os
  exact ⟨v, H', I.call (h' := hh) (g' := g) (d' := d) (t' := t) (ch := []) un hok bare (fun b z => absurd z (by simp)), r, q⟩
end

/-! ### calls -/
/-- f(..): the written arguments, then the defaults dvs; E: what is wanted of an exception -/
def tCall (sp : Sp) (dvs : List V) (E : XK) (t : TA) : TE := fun σ H Q => t σ H fun vs H1 => sp (vs ++ dvs) H1 Q E
/-- how the parameters are bound: us the positional arguments, kw the keywords' values by name, ds the defaults that fill up -/
def Binds (K : PySem.W.Frag) (fd : FuncData) (ps : List Str) (ds : List Value) : Prop :=
  ∀ (s : Shared) (us : List Value), K.In s.heap → (us ++ ds).length = ps.length → BindsTo s fd ⟨us, []⟩ (ps.zip (us ++ ds))
/-- every parameter is given -/
theorem Binds.all {K : PySem.W.Frag} {fd : FuncData} {ps : List Str} (h : ∀ us : List Value, us.length = ps.length → bindArgs fd ⟨us, []⟩ = pure (ps.zip us)) : Binds K fd ps [] := fun s us _ hl => by
  rw [List.append_nil] at hl ⊢
  exact .of_eq (h us hl)

/-- an exception of a callee reaches what this body wants of exceptions -/
def Passes (CX : CXT) (X : Cx) (E : XK) : Prop := ∀ (pins : List (Addr × Obj)) (σ : St) (H : Hp) (s : Shared) (e : Value) (s' : Shared), Inv X pins σ H s → CX X.stack H s E e s' → X.xe e s'

section
variable {X : Cx} {CX : CXT} {k : Nat} {f C : Addr} {fd : FuncData} {ps : List Str} {sp : Sp} {dvs : List V} {ds : List Value} {E : XK} {x m : Str} {p pos apos : Pos} {e o : Expr} {es : List Expr} {ta : TE} {t : TA}

/-- the callee runs -/
theorem run_fn {pins : List (Addr × Obj)} {σ : St} {H : Hp} {s : Shared} {Q : VK} {us : List Value} {vs : List V} (F : FnOk X.prog X.w X.K X.mg X.base CX k f fd ps sp) (hr : Room k X.A) (hb : Binds X.K fd ps ds) (hd : Vals dvs ds) (hx : Passes CX X E)
    (I : Inv X pins σ H s) (r : Vals vs us) (h : sp (vs ++ dvs) H Q E) : wpAny (model X.prog X.w) X.A (call (.ref f) us) (EP X pins σ Q) X.xe s := by
  have r2 : Vals (vs ++ dvs) (us ++ ds) := r.append hd
  have hl : (us ++ ds).length = ps.length := by rw [← r2.length]; exact F.len _ _ _ _ h
  refine wpAny_call (codeAny_mono (F.run X.A X.stack s H ⟨us, []⟩ (us ++ ds) (vs ++ dvs) Q E hr I.env0 (hb s us I.kIn hl) r2 h) fun r s' hq => ?_)
  cases r with
  | error e => exact hx pins σ H s e s' I hq
  | ok fl =>
    cases fl with
    | ret u => exact I.after hq
    | next => exact False.elim hq
    | brk => exact False.elim hq
    | cont => exact False.elim hq

theorem pe_call (F : FnOk X.prog X.w X.K X.mg X.base CX k f fd ps sp) (hr : Room k X.A) (hg : Gl X x) (hm : X.mg x = some (.ref f)) (hk : PySem.W.keepIn X.K (.ref f) = true) (hb : Binds X.K fd ps ds) (hd : Vals dvs ds) (hx : Passes CX X E)
    (ha : PA X (e :: es) t) (hdb : (x == ("__debug__" : Str)) = false := by decide) (he : starEach (e :: es) X.env = (false, eval e X.env) :: starEach es X.env := by rfl) (hpl : (backTo pos (starEach es X.env)).any (·.1) = false := by rfl) :
    PE X (.Call (.Name x p) (e :: es) [] pos) (tCall sp dvs E t) := by
  intro pins s σ H Q I h
  refine wpAny_Call_Name_kw (ld_glob I hg hm ?_ hdb)
  refine PySem.W.callWith_K (h₀ := X.base) I.ok.mod.kin hk (thn (ha pos pins s σ H _ I h) fun us s1 ⟨vs, H1, I1, r, q⟩ => ⟨I1.kIn, ?_⟩) he hpl
  exact run_fn F hr hb hd hx I1 r q
/-- what a class must have to be made -/
structure Mk (K : PySem.W.Frag) (C f : Addr) : Prop where
  makes : PySem.W.makesIn K C = true
  init : PySem.W.findIn K (.ref C) "__init__" = some (some (.ref f))
  fn : PySem.W.isFn K (.ref f) = true
  kp : PySem.W.keepIn K (.ref C) = true

end

/-! ### keywords -/
section
variable {X : Cx} {CX : CXT} {k : Nat} {f C : Addr} {fd : FuncData} {ps ks : List Str} {sp : Sp} {E : XK} {x m : Str} {p pos apos kpos : Pos} {e o : Expr} {es : List Expr} {kws : List Keyword} {te ta : TE} {t tk : TA} {nm : Option Str}
/-- how a call with keywords binds: g puts the positional values us and the keywords' values ws (names ks) in the parameters' order, defaults among them -/
structure KBinds (K : PySem.W.Frag) (fd : FuncData) (ps ks : List Str) (g : List Value → List Value → List Value) (gV : List V → List V → List V) : Prop where
  to : ∀ (s : Shared) (us ws : List Value), K.In s.heap → (g us ws).length = ps.length → BindsTo s fd ⟨us, ks.zip ws⟩ (ps.zip (g us ws))
  rel : ∀ {vs : List V} {us : List Value} {zs : List V} {ws : List Value}, Vals vs us → Vals zs ws → Vals (gV vs zs) (g us ws)
variable {g : List Value → List Value → List Value} {gV : List V → List V → List V}
end

/-! ### a def's body keeps its promise -/
/-- names: the parameters first -/
structure FnScope (N P : List Str) (sc : Scope) : Prop where
  kind : sc.kind = .function
  co : sc.isCoroutine = false
  gen : sc.isGenerator = false
  nd : N.Nodup
  pre : N.take P.length = P
  par : ∀ x ∈ P, sc.names.lookup x = some .local ∨ sc.names.lookup x = some .cell
  nofree : ∀ y ∈ sc.names, y.2 ≠ .free

theorem bindL_out {kindOf : Str → Option NameKind} {x : Str} : ∀ {binds : List (Str × Value)} {m : Str → Option Value}, (∀ v, (x, v) ∉ binds) → bindL kindOf binds m x = m x
  | [], _, _ => rfl
  | (n, v) :: r, m, h => by
    unfold bindL
    rw [bindL_out fun w hw => h w (List.mem_cons_of_mem _ hw)]
    split
    · have : x ≠ n := by rintro rfl; exact h v List.mem_cons_self
      simp [this]
    · rfl
theorem bindC_out {kindOf : Str → Option NameKind} {x : Str} : ∀ {binds : List (Str × Value)} {m : Str → Option Value}, (∀ v, (x, v) ∉ binds) → bindC kindOf binds m x = m x
  | [], _, _ => rfl
  | (n, v) :: r, m, h => by
    unfold bindC
    rw [bindC_out fun w hw => h w (List.mem_cons_of_mem _ hw)]
    split
    · rfl
    · have : x ≠ n := by rintro rfl; exact h v List.mem_cons_self
      simp [this]
theorem bindL_get {kindOf : Str → Option NameKind} {x : Str} {v : Value} : ∀ {P : List Str} {vs : List Value} {i : Nat} {m : Str → Option Value}, P.Nodup → P[i]? = some x → vs[i]? = some v → kindOf x = some .local →
    bindL kindOf (P.zip vs) m x = some v
  | [], _, _, _, _, h, _, _ => by simp at h
  | _ :: _, [], _, _, _, _, h, _ => by simp at h
  | p :: P, w :: vs, 0, m, nd, h1, h2, hk => by
    simp at h1 h2; subst h1; subst h2
    show bindL kindOf ((p, w) :: P.zip vs) m p = _
    unfold bindL
    rw [bindL_out fun v hv => (List.nodup_cons.mp nd).1 (List.of_mem_zip hv).1, if_pos hk]
    simp
  | p :: P, w :: vs, i + 1, m, nd, h1, h2, hk => by
    show bindL kindOf ((p, w) :: P.zip vs) m x = _
    unfold bindL
    exact bindL_get (i := i) (List.nodup_cons.mp nd).2 (by simpa using h1) (by simpa using h2) hk
theorem bindC_get {kindOf : Str → Option NameKind} {x : Str} {v : Value} : ∀ {P : List Str} {vs : List Value} {i : Nat} {m : Str → Option Value}, P.Nodup → P[i]? = some x → vs[i]? = some v → kindOf x ≠ some .local →
    bindC kindOf (P.zip vs) m x = some v
  | [], _, _, _, _, h, _, _ => by simp at h
  | _ :: _, [], _, _, _, _, h, _ => by simp at h
  | p :: P, w :: vs, 0, m, nd, h1, h2, hk => by
    simp at h1 h2; subst h1; subst h2
    show bindC kindOf ((p, w) :: P.zip vs) m p = _
    unfold bindC
    rw [bindC_out fun v hv => (List.nodup_cons.mp nd).1 (List.of_mem_zip hv).1, if_neg hk]
    simp
  | p :: P, w :: vs, i + 1, m, nd, h1, h2, hk => by
    show bindC kindOf ((p, w) :: P.zip vs) m x = _
    unfold bindC
    exact bindC_get (i := i) (List.nodup_cons.mp nd).2 (by simpa using h1) (by simpa using h2) hk

/-- the names' values at the entry -/
def start (N : List Str) (vs : List V) : St := vs.map some ++ List.replicate (N.length - vs.length) none

/-- the context of a def's body, at its entry; an exception leaves the frame, then lies as CX says -/
def cxOf (CX : CXT) (P : Program) (w : World) (K : PySem.W.Frag) (mg : Str → Option Value) (base : Heap) (N : List Str) (qual : Str) (scope : Scope) (f : Addr) (cd : Value) (A : Around) (outer : List Env) (s : Shared) (H : Hp) (E : XK) : Cx where
  prog := P
  w := w
  K := K
  mg := mg
  base := base
  A := A.deeper (envOfC qual scope s.heap.objs.size f cd)
  N := N
  s₀ := s
  H₀ := H
  env := envOfC qual scope s.heap.objs.size f cd
  outer := outer
  stack := envOfC qual scope s.heap.objs.size f cd :: outer
  ex := []
  calm := true
  fn := fun _ => true
  pn := []
  xe := fun e s' => wpAny (model P w) (A.deeper (envOfC qual scope s.heap.objs.size f cd)) (leaving (envOfC qual scope s.heap.objs.size f cd) e) (fun _ s'' => CX outer H s E e s'') (fun e' s'' => CX outer H s E e' s'') s'

theorem cell_has {sc : Scope} {n : Nat} {x : Str} (h : sc.names.lookup x = some .cell) : ∃ c, (cellsFrom n sc.names []).lookup x = some c := by
  have q := PySem.W.cellsFrom_some sc.names n [] (.inl h)
  exact Option.isSome_iff_exists.mp q

theorem inv_start {CX : CXT} {P : Program} {w : World} {K : PySem.W.Frag} {mg : Str → Option Value} {base : Heap} {N ps : List Str} {qual : Str} {scope : Scope} {f : Addr} {cd : Value} {A : Around} {outer : List Env} {s s1 : Shared} {H : Hp} {E : XK} {us : List Value} {vs : List V}
    (S : FnScope N ps scope) (hd : A.handled = none) (e0 : Env0 P w K mg base A outer s H) (hl : vs.length = ps.length) (r : Vals vs us)
    (x : InCallC s s.heap.objs.size (bindL (envOfC qual scope s.heap.objs.size f cd).kindOf (ps.zip us) fun _ => none) (cellsFrom (s.heap.objs.size + 1) scope.names []) (bindC (envOfC qual scope s.heap.objs.size f cd).kindOf (ps.zip us) fun _ => none) s1) :
    Inv (cxOf CX P w K mg base N qual scope f cd A outer s H E) [] (start N vs) H s1 := by
  have hpl : ps.length ≤ N.length := by have := congrArg List.length S.pre; rw [List.length_take] at this; omega
  obtain ⟨h1, tk, rfl, hk⟩ := x.done
  have noA : ∀ b : Addr, b ∉ (cxOf CX P w K mg base N qual scope f cd A outer s H E).ex := fun b z => absurd (show b ∈ ([] : List Addr) from z) (by simp)
  refine ⟨⟨e0.mod, S.kind, rfl, rfl, Nat.le_refl _, fun y z c h1 h2 => ?_, fun y hy => ?_, fun y c _ h => ?_, fun _ => hd, Around.frames_deeper e0.frames, .inr ⟨rfl, rfl⟩, fun b z => absurd z (noA b), e0.bs, e0.bsz, fun b _ _ => noA b, fun b z => absurd z (noA b), e0.funs, e0.frf⟩,
    rfl, e0.bare, Un.kept hk, ⟨_, x.toInCall.ns, fun i y v h1 h2 h3 => ?_⟩, fun y c h => ⟨_, x.cell y c h⟩, e0.hok.fresh (Nat.le_refl _), fun y c h => ?_, fun p hp => absurd (show p ∈ ([] : List (Addr × Obj)) from hp) (by simp), e0.hok.kept hk, ?_⟩
  · exact name_of_addr x.apart (PySem.mem_of_lookup h1) (PySem.mem_of_lookup h2)
  · have hy : scope.names.lookup y = some .cell ∨ scope.names.lookup y = some .free := hy
    rcases hy with hy | hy
    · exact cell_has hy
    · exact absurd rfl (S.nofree _ (PySem.mem_of_lookup hy))
  · exact Nat.le_of_lt (x.above y c (PySem.mem_of_lookup h))
  · have hi : i < vs.length := by
      unfold start at h2
      by_cases hi : i < vs.length
      · exact hi
      · rw [List.getElem?_append_right (by simpa using hi)] at h2
        rw [List.getElem?_replicate] at h2
        split at h2 <;> cases h2
    have ha : vs[i]? = some v := by
      unfold start at h2
      rw [List.getElem?_append_left (by simpa using hi), List.getElem?_map] at h2
      cases e : vs[i]? with
      | none => rw [e] at h2; cases h2
      | some a => rw [e] at h2; cases h2; rfl
    obtain ⟨u, hu, rv⟩ := r.get ha
    have hp : ps[i]? = some y := by
      rw [← S.pre, List.getElem?_take_of_lt (by omega)]; exact h1
    have ndP : ps.Nodup := by rw [← S.pre]; exact S.nd.sublist (List.take_sublist _ _)
    refine ⟨u, rv, ?_⟩
    rcases S.par y (List.mem_of_getElem? hp) with k | k
    · exact .inl ⟨k, bindL_get ndP hp hu k⟩
    · obtain ⟨c, e⟩ := cell_has (n := s.heap.objs.size + 1) k
      refine .inr ⟨.inl k, c, e, ?_⟩
      have q := x.cell y c e
      rw [bindC_get ndP hp hu (by show scope.names.lookup y ≠ _; rw [k]; decide)] at q
      exact q
  · exact e0.hok.fresh (Nat.le_of_lt (x.above y c (PySem.mem_of_lookup h)))
  · unfold start
    show _ = N.length
    rw [List.length_append, List.length_map, List.length_replicate]
    omega

/-- THE RULE: a def (or a method) of the text, by its body. The body's reading t is chosen for each entry; it is run at the parameters' values -/
theorem fn_of {CX : CXT} {P : Program} {w : World} {K : PySem.W.Frag} {mg : Str → Option Value} {base : Heap} {k : Nat} {f : Addr} {name qual : Str} {params : Arguments} {body : List Stmt} {scope : Scope} {dV kV doc pm cdv ct oc : Value} {an od : Option Addr}
    {osl : Array (Option Value)} {N ps : List Str} {sp : Sp} (lk : K.lookup f = some ⟨oc, od, .func (PySem.W.fnOf name qual params body scope dV kV doc pm an cdv ct), osl⟩) (hcd : PySem.W.codeIn K cdv qual = true) (S : FnScope N ps scope)
    (len : ∀ vs H Q E, sp vs H Q E → vs.length = ps.length)
    (hbody : ∀ (A : Around) (outer : List Env) (s : Shared) (H : Hp) (vs : List V) (Q : VK) (E : XK), Room k (A.deeper (envOfC qual scope s.heap.objs.size f cdv)) → sp vs H Q E →
      ∃ t, PSs (cxOf CX P w K mg base N qual scope f cdv A outer s H E) body t ∧ t { nx := fun _ H' => Q .non H', rt := Q } (start N vs) H) :
    FnOk P w K mg base CX (k + 1) f (PySem.W.fnOf name qual params body scope dV kV doc pm an cdv ct) ps sp := by
  refine ⟨len, fun A outer s H args us vs Q E hr e0 hb r hsp => ?_⟩
  have hl := len _ _ _ _ hsp
  have KX : K.In s.heap := e0.mod.kin.keeps fun b o e => (e0.bs b o e).1
  have lim : s.heap.NoLimit := e0.mod.nolimit.keeps fun b o e => (e0.bs b o e).1
  have hkind : ∀ y ∈ ps.zip us, scope.names.lookup y.1 = some .local ∨ (scope.names.lookup y.1 = some .cell ∧ ((cellsFrom (s.heap.objs.size + 1) scope.names []).lookup y.1).isSome = true) := fun ⟨n, v⟩ hy => by
    rcases S.par n (List.of_mem_zip hy).1 with q | q
    · exact .inl q
    · exact .inr ⟨q, PySem.W.cellsFrom_some _ _ _ (.inl q)⟩
  refine codeAny_call_function hr.depth (KX _ _ lk) rfl S.co S.gen rfl (PySem.W.codeRec_of KX hcd) (hb _ _ _ _ ?_)
  refine wpAny_newFunctionEnv_cells S.kind hkind fun env he s1 x => ?_
  subst he
  refine ⟨lim.keeps x.toInCall.keep, codeAny_func ?_⟩
  obtain ⟨t, ht, hq⟩ := hbody A outer s H vs Q E (hr.deeper _) hsp
  have I : Inv (cxOf CX P w K mg base N qual scope f cdv A outer s H E) [] (start N vs) H s1 := inv_start S hr.hd e0 hl r x
  refine wpAny_mono (ht [] s1 (start N vs) H _ I hq) (fun fl s' hs => ?_) fun e s' hs => hs
  have fin : ∀ {σ' : St} {H' : Hp} {v : V} {u : Value}, Inv (cxOf CX P w K mg base N qual scope f cdv A outer s H E) [] σ' H' s' → RelV v u → Q v H' → CE outer P w H s Q u s' :=
    fun {σ' H' v u} J rv q => ⟨v, H', J.os, J.bare, J.base, J.hok, rv, q⟩
  cases fl with
  | ret u =>
    obtain ⟨v, σ', H', J, rv, q⟩ := hs
    exact fin J rv q
  | next =>
    obtain ⟨σ', H', J, q⟩ := hs
    exact fin (v := V.non) (u := Value.none) J rfl q
  | brk =>
    obtain ⟨_, _, _, q⟩ := hs
    exact False.elim q
  | cont =>
    obtain ⟨_, _, _, q⟩ := hs
    exact False.elim q
end L2

namespace L2
open PySem PySem.Spec PyProof.Rows
section
variable {X : Cx} {x : Str} {p pos : Pos} {e : Expr} {es : List Expr} {t : TA} {id T : String} {r : List V → Hp → VK → Prop}

def tCB (r : List V → Hp → VK → Prop) (t : TA) : TE := fun σ H Q => t σ H fun vs H1 => r vs H1 Q
/-- f(e, ..), f a built-in function -/
theorem pe_callB (hc : CallR X (.builtin id) r) (hg : Gl X x) (hm : X.mg x = none) (hv : bootBuiltins x = some (.builtin id)) (ha : PA X (e :: es) t) (hn : x ≠ "__name__" := by decide) (hdb : (x == ("__debug__" : Str)) = false := by decide)
    (he : starEach (e :: es) X.env = (false, eval e X.env) :: starEach es X.env := by rfl) (hpl : (backTo pos (starEach es X.env)).any (·.1) = false := by rfl) : PE X (.Call (.Name x p) (e :: es) [] pos) (tCB r t) := by
  intro pins s σ H Q I h
  refine wpAny_Call_Name_kw (ld_blt I hg hm hv ?_ hn hdb)
  exact PyProof.Rows.callWith_builtin1 (thn (ha pos pins s σ H _ I h) fun us s1 ⟨vs, H1, I1, r1, q1⟩ => hc pins s1 σ H1 vs us Q I1 r1 q1) he hpl
/-- T(e, ..), T a built-in type -/
theorem pe_callTy (hc : CallR X (.type T) r) (hg : Gl X x) (hm : X.mg x = none) (hv : bootBuiltins x = some (.type T)) (ha : PA X (e :: es) t) (hn : x ≠ "__name__" := by decide) (hdb : (x == ("__debug__" : Str)) = false := by decide)
    (he : starEach (e :: es) X.env = (false, eval e X.env) :: starEach es X.env := by rfl) (hpl : (backTo pos (starEach es X.env)).any (·.1) = false := by rfl) : PE X (.Call (.Name x p) (e :: es) [] pos) (tCB r t) := by
  intro pins s σ H Q I h
  refine wpAny_Call_Name_kw (ld_blt I hg hm hv ?_ hn hdb)
  exact PyProof.Rows.callWith_type1 (thn (ha pos pins s σ H _ I h) fun us s1 ⟨vs, H1, I1, r1, q1⟩ => hc pins s1 σ H1 vs us Q I1 r1 q1) he hpl
end
end L2

namespace HT
open PySem PyProof.Rows

/-- t < u of tuples of ints -/
def lexLt : List Int → List Int → Bool
  | [], [] => false
  | [], _ :: _ => true
  | _ :: _, [] => false
  | x :: xs, y :: ys => if x = y then lexLt xs ys else decide (x < y)
theorem lexLt_cons (x y : Int) (xs ys : List Int) : lexLt (x :: xs) (y :: ys) = if x = y then lexLt xs ys else decide (x < y) := rfl
theorem lexLt_nil_nil : lexLt [] [] = false := rfl
theorem lexLt_nil_cons (y : Int) (ys : List Int) : lexLt [] (y :: ys) = true := rfl
theorem lexLt_cons_nil (x : Int) (xs : List Int) : lexLt (x :: xs) [] = false := rfl

theorem eqAt_int (A : Around) (s : Shared) (a : Int) (t : Tok) (c : Int) (u : Tok) : ∃ e, SeqAt.EqAt A s (.int a t) (.int c u) e ∧ (e = true ↔ a = c) :=
  ⟨(a == c), SeqAt.EqAt.int_int a t c u, by simp⟩
theorem rcLt_int (A : Around) (s : Shared) (a : Int) (t : Tok) (c : Int) (u : Tok) (prog : Program) (w : World) (E : Value → Shared → Prop) (Q : Value → Shared → Prop) (h : Q (.bool (decide (a < c))) s) :
    wpAny (model prog w) A (richCompare .Lt (.int a t) (.int c u)) Q E s :=
  (PyProof.Rows.lt_int h : wpAny (model prog w) A (compareOp .Lt (.int a t) (.int c u)) Q E s)

section
open PySem.SeqAt
open PySem.AutoSeq1 (wpAny_loadPart')
open PySem.MeetsSeq PySem.MeetsSeq2 PySem.MeetsSeq3

theorem tuple_lt_ints (l b : Addr) (items items2 : Array Value) (n n2 : Nat) (dd dd2 : Option Addr) (sl sl2 : Array (Option Value)) (ns ms : List Int) (hi : IntsAre items.toList ns) (hj : IntsAre items2.toList ms) :
    Meets (Builtin.«tuple.__lt__» ⟨[.ref l, .ref b], []⟩)
      (fun _ R s => s.heap.get? l = some { cls := .type "tuple", dict := dd, data := .seq items n, slots := sl } ∧ s.heap.get? b = some { cls := .type "tuple", dict := dd2, data := .seq items2 n2, slots := sl2 } ∧
        R (.ok (.ret (.bool (lexLt ns ms)))) s) :=
  .of_wp fun prog w A R s h => by
    obtain ⟨hp, g, d, tk, os⟩ := s; obtain ⟨hl, hb, h⟩ := h
    have f2 := AutoSeq1.sub_tuple_tuple
    have z1 : items.size = ns.length := by rw [← hi.length]; simp
    have z2 : items2.size = ms.length := by rw [← hj.length]; simp
    wp_walk using wpAny_loadPart' hl, wpAny_loadPart' hb, wpAny_forIn_list _ (fun rest b s' => b.1 = none ∧ s' = ⟨hp, g, d, tk, os⟩ ∧ ∃ (vs ws : List Value) (ns' ms' : List Int), rest = vs.zip ws ∧
      IntsAre vs ns' ∧ IntsAre ws ms' ∧ ns'.length + items2.size = ms'.length + items.size ∧ R (.ok (.ret (.bool (lexLt ns' ms')))) ⟨hp, g, d, tk, os⟩) _
    case turn =>
      rintro ⟨y, x⟩ rest b s' ⟨hb', rfl, vs, ws, ns', ms', hz, hvi, hwi, hlen, hR⟩
      cases hvi with
      | nil => rw [List.zip_nil_left] at hz; cases hz
      | cons a t hvi' =>
        cases hwi with
        | nil => rw [List.zip_nil_right] at hz; cases hz
        | cons c u hwi' =>
          rw [List.zip_cons_cons] at hz
          injection hz with hyx hrest
          injection hyx with hy hx
          subst hy hx
          rw [lexLt_cons] at hR
          simp only [List.length_cons] at hlen
          obtain ⟨e, he, hiff⟩ := eqAt_int A.in1 ⟨hp, g, d, tk, os⟩ a t c u
          refine wpAny_bind (he prog w _ _ ?_)
          cases e with
          | true =>
            rw [if_pos (hiff.mp rfl)] at hR
            wp_walk
            exact ⟨rfl, rfl, _, _, _, _, hrest, hvi', hwi', by omega, hR⟩
          | false =>
            rw [if_neg (fun q => absurd (hiff.mpr q) Bool.false_ne_true)] at hR
            have hri := rcLt_int A.in1 ⟨hp, g, d, tk, os⟩ a t c u prog w
            wp_walk using hri
            exact ⟨_, rfl, by simpa using hR⟩
    case fin =>
      rintro ⟨b1, b2⟩ s' ⟨hb', rfl, vs, ws, ns', ms', hz, hvi, hwi, hlen, hR⟩
      simp only at hb'
      subst hb'
      have hv : lexLt ns' ms' = decide (items.size < items2.size) := by
        cases hvi with
        | nil =>
          cases hwi with
          | nil =>
            simp only [List.length_nil] at hlen
            rw [lexLt_nil_nil]
            exact (decide_eq_false (by omega)).symm
          | cons c u hw =>
            simp only [List.length_nil, List.length_cons] at hlen
            rw [lexLt_nil_cons]
            exact (decide_eq_true (by omega)).symm
        | cons a t hv =>
          cases hwi with
          | nil =>
            simp only [List.length_nil, List.length_cons] at hlen
            rw [lexLt_cons_nil]
            exact (decide_eq_false (by omega)).symm
          | cons c u hw =>
            rw [List.zip_cons_cons] at hz
            cases hz
      rw [hv] at hR
      wp_walk
      exact ⟨_, rfl, by simpa [Builtin.Tuple.tupleCompareSizes] using hR⟩
    case h =>
      exact ⟨rfl, rfl, items.toList, items2.toList, ns, ms, rfl, hi, hj, by omega, h⟩
end

section
variable {prog : Program} {w : World} {A : Around} {E : Value → Shared → Prop} {s : Shared}

theorem lt_tupInts {l b : Addr} {items items2 : Array Value} {ns ms : List Int} {Q : Value → Shared → Prop} (hl : IsTup s.heap l items) (hb : IsTup s.heap b items2) (hi : IntsAre items.toList ns) (hj : IntsAre items2.toList ms)
    (hu : A.units < cLine) (h : Q (.bool (lexLt ns ms)) s) : wpAny (model prog w) A (compareOp .Lt (.ref l) (.ref b)) Q E s := by
  obtain ⟨⟨cls, dd, data, sl⟩, ho, hc, n, hd⟩ := id hl
  obtain ⟨⟨cls2, dd2, data2, sl2⟩, ho2, hc2, n2, hd2⟩ := id hb
  simp only at hc hd hc2 hd2
  subst hc hd hc2 hd2
  exact richCompare_meets_room (op := .Lt) ⟨_, ho, rfl⟩ ⟨_, ho2, rfl⟩ PySem.F.slot_tuple_lt PySem.F.entry_tuple_lt (PySem.F.args_tuple_lt_2 _ _) (tuple_lt_ints l b items items2 n n2 dd dd2 sl sl2 ns ms hi hj)
    ⟨ho, ho2, show Value.bool (lexLt ns ms) ≠ Value.notImplemented ∧ Q (.bool (lexLt ns ms)) s from ⟨(fun x => nomatch x), h⟩⟩ hu

/-- t + u, t not empty -/
theorem cat_tup {t b : Addr} {vs ws : List Value} {Q : Value → Shared → Prop} (ht : IsTup s.heap t vs.toArray) (hb : IsTup s.heap b ws.toArray) (hv : vs ≠ [])
    (h1 : ws = [] → Q (.ref t) s) (h2 : ws ≠ [] → Q (.ref s.heap.objs.size) { s with heap := s.heap.push { cls := .type "tuple", data := .seq (vs ++ ws).toArray } })
    (hsz : vs.length + ws.length ≤ sizeLine) : wpAny (model prog w) A (binaryOp .Add (.ref t) (.ref b)) Q E s := by
  obtain ⟨⟨cls, dd, data, sl⟩, ho, hc, n, hd⟩ := id ht
  obtain ⟨⟨cls2, dd2, data2, sl2⟩, ho2, hc2, n2, hd2⟩ := id hb
  simp only at hc hd hc2 hd2
  subst hc hd hc2 hd2
  have e : vs.toArray ++ ws.toArray = (vs ++ ws).toArray := by simp
  by_cases hw : ws = []
  · exact concat_meets ⟨_, ho, rfl⟩ ⟨_, ho2, rfl⟩ noFill_tuple_add seq_tuple_add PySem.F.slot_tuple_add PySem.F.entry_tuple_add (PySem.F.args_tuple_add_2 _ _)
      (tuple_addW1 t b vs.toArray ws.toArray n n2 dd dd2 sl sl2 (by simpa using hv) (by simp [hw])) ⟨ho, ho2, h1 hw⟩
  · refine concat_meets ⟨_, ho, rfl⟩ ⟨_, ho2, rfl⟩ noFill_tuple_add seq_tuple_add PySem.F.slot_tuple_add PySem.F.entry_tuple_add (PySem.F.args_tuple_add_2 _ _)
      (tuple_addW2 t b vs.toArray ws.toArray n n2 dd dd2 sl sl2 (by simpa using hv) (by simpa using hw) (by rw [List.size_toArray, List.size_toArray]; exact hsz)) ⟨ho, ho2, ?_⟩
    rw [e]
    exact h2 hw

/-! ### t[a:b], not the whole -/
/-- a slice's bound as a place among n (d where it is left out) -/
def sIx (n d : Nat) : Option Int → Nat
  | none => d
  | some v => if v < 0 then (v + (n : Int)).toNat else min v.toNat n
theorem sIx_none (n d : Nat) : sIx n d none = d := rfl
theorem sIx_nat (n d k : Nat) : sIx n d (some (k : Int)) = min k n := by
  show (if (k : Int) < 0 then ((k : Int) + (n : Int)).toNat else min (k : Int).toNat n) = min k n
  rw [if_neg (by omega), Int.toNat_natCast]
theorem sIx_le (n d : Nat) (hd : d ≤ n) (o : Option Int) : sIx n d o ≤ n := by
  cases o with
  | none => exact hd
  | some v =>
    show (if v < 0 then (v + (n : Int)).toNat else min v.toNat n) ≤ n
    by_cases hv : v < 0
    · rw [if_pos hv]; omega
    · rw [if_neg hv]; exact Nat.min_le_right _ _
theorem clip_eq (v : Int) (n d : Nat) : (if v < 0 then max (v + (n : Int)) 0 else min v (n : Int)) = ((sIx n d (some v) : Nat) : Int) := by
  show (if v < 0 then max (v + (n : Int)) 0 else min v (n : Int)) = (((if v < 0 then (v + (n : Int)).toNat else min v.toNat n) : Nat) : Int)
  by_cases hv : v < 0
  · simp only [if_pos hv]; omega
  · simp only [if_neg hv]; omega
theorem adjust_gen (lo hi : Option Int) (n : Nat) : Builtin.Slice.sliceAdjust lo hi 1 (n : Int) = (((sIx n 0 lo : Nat) : Int), ((sIx n n hi : Nat) : Int)) := by
  have h1 : ¬ ((1 : Int) < 0) := by omega
  unfold Builtin.Slice.sliceAdjust
  simp only [h1, if_false]
  refine Prod.ext ?_ ?_
  · cases lo with
    | none => rfl
    | some v => exact clip_eq v n 0
  · cases hi with
    | none => rfl
    | some v => exact clip_eq v n n
theorem places_gen (i j : Nat) : Builtin.Slice.slicePlaces (i : Int) (j : Int) 1 = j - i := by
  unfold Builtin.Slice.slicePlaces
  have h1 : (1 : Int) > 0 := by omega
  simp only [h1, if_true, Int.ediv_one]
  split <;> omega
theorem slicePart_ {v : Value} {o : Option Int} {Q : Option Int → Shared → Prop} (p : IsPart v o) (h : Q o s) : wpAny (model prog w) A (Builtin.Slice.slicePartIndex v) Q E s := by
  cases p with
  | none => exact slicePart_none h
  | int i t => exact slicePart_int h
theorem sliceApplied_gen {sl : Addr} {vl vu : Value} {lo hi : Option Int} {n : Nat} {Q : Int × Int × Nat → Shared → Prop} (hs : s.heap.IsSliceOf sl vl vu .none) (pl : IsPart vl lo) (pu : IsPart vu hi)
    (h : Q (((sIx n 0 lo : Nat) : Int), 1, sIx n n hi - sIx n 0 lo) s) : wpAny (model prog w) A (Builtin.Slice.sliceApplied (.ref sl) (pure (n : Int))) Q E s := by
  obtain ⟨os, hos, hcs, hds⟩ := id hs
  unfold Builtin.Slice.sliceApplied Builtin.Slice.sliceFields
  refine wpAny_bind (wpAny_bind (wpAny_field hos hds (x := vl) rfl (wpAny_bind (wpAny_field hos hds (x := vu) rfl (wpAny_bind (wpAny_field hos hds (x := .none) rfl (wpAny_pure ?_)))))))
  refine wpAny_bind (slicePart_none ?_)
  show wpAny _ _ (if ((1 : Int) == 0) = true then _ else _) _ _ s
  rw [if_neg (by decide)]
  refine wpAny_bind (slicePart_ pl (wpAny_bind (slicePart_ pu (wpAny_bind (wpAny_pure ?_)))))
  show wpAny _ _ (match Builtin.Slice.sliceAdjust lo hi 1 (n : Int) with | (lo, hi) => pure (lo, (1 : Int), Builtin.Slice.slicePlaces lo hi 1)) _ _ s
  rw [adjust_gen lo hi n]
  show wpAny _ _ (pure (((sIx n 0 lo : Nat) : Int), (1 : Int), Builtin.Slice.slicePlaces ((sIx n 0 lo : Nat) : Int) ((sIx n n hi : Nat) : Int) 1)) _ _ s
  rw [places_gen]
  exact wpAny_pure h
theorem pick_gen (xs : Array Value) (i k : Nat) : ((List.range k).filterMap fun (m : Nat) => xs[((i : Int) + (m : Int) * 1).toNat]?).toArray = ((xs.toList.drop i).take k).toArray := by
  have e : (fun (m : Nat) => xs[((i : Int) + (m : Int) * 1).toNat]?) = fun m => xs[i + m]? := by
    funext m
    have : ((i : Int) + (m : Int) * 1).toNat = i + m := by omega
    rw [this]
  rw [e]
  have := pick_run xs i k
  rw [List.filterMap_map] at this
  have e2 : ((fun x => xs[x]?) ∘ fun x => i + x) = fun m => xs[i + m]? := rfl
  rw [e2] at this
  rw [this]

theorem getItem_tuple_cut {t sl : Addr} {items : Array Value} {vl vu : Value} {lo hi : Option Int} {Q : Value → Shared → Prop} (ht : IsTup s.heap t items) (hs : s.heap.IsSliceOf sl vl vu .none) (pl : IsPart vl lo) (pu : IsPart vu hi)
    (hw : ¬ (sIx items.size 0 lo = 0 ∧ sIx items.size items.size hi = items.size))
    (h : Q (.ref s.heap.objs.size) { s with heap := s.heap.push { cls := .type "tuple", data := .seq ((items.toList.drop (sIx items.size 0 lo)).take (sIx items.size items.size hi - sIx items.size 0 lo)).toArray } })
    (hsz : items.size ≤ sizeLine) : wpAny (model prog w) A (getItem (.ref t) (.ref sl)) Q E s := by
  have htake : sizeOk (.seq ((items.toList.drop (sIx items.size 0 lo)).take (sIx items.size items.size hi - sIx items.size 0 lo)).toArray) := by
    show ((items.toList.drop (sIx items.size 0 lo)).take (sIx items.size items.size hi - sIx items.size 0 lo)).toArray.size ≤ sizeLine
    rw [List.size_toArray, List.length_take, List.length_drop, Array.length_toList]
    omega
  have hj : sIx items.size items.size hi ≤ items.size := sIx_le _ _ (Nat.le_refl _) hi
  obtain ⟨os, hos, hcs, hds⟩ := id hs
  have hTs : s.TypeIs (.ref sl) "slice" := ⟨os, hos, hcs⟩
  unfold getItem
  try with_reducible refine wpAny_holding ?_
  first | refine wpAny_bind (wpAny_pure ?_) | skip
  refine wpAny_bind (wpAny_sequenceKey ht.typeIs (by decide) ?_)
  refine wpAny_bind (wpAny_callSpecial?_slot (name := Str.ofString "__getitem__") ht.typeIs PyProof.Rows.slot_tuple_getitem
    (wpAny_call_entry PyProof.Rows.slot_tuple_getitem ht.typeIs entry_tuple_getitem ?_ (args_tuple_getitem _ _)))
  show wpAny _ _ (Builtin.Tuple.tupleItemsOf (.ref t) >>= _) _ _ s
  refine wpAny_bind (tupleItemsOf_ ht ?_)
  refine wpAny_bind (wpAny_typeOf hTs ?_)
  rw [if_pos (by decide)]
  refine wpAny_bind (sliceApplied_gen hs pl pu ?_)
  have hno : ¬ ((((sIx items.size 0 lo : Nat) : Int) == 0 && (1 : Int) == 1 && (sIx items.size items.size hi - sIx items.size 0 lo) == items.size) = true) := by
    intro q
    rw [Bool.and_eq_true, Bool.and_eq_true] at q
    have q1 : ((sIx items.size 0 lo : Nat) : Int) = 0 := eq_of_beq q.1.1
    have q2 : sIx items.size items.size hi - sIx items.size 0 lo = items.size := eq_of_beq q.2
    exact hw ⟨by omega, by omega⟩
  show wpAny _ _ (if (((sIx items.size 0 lo : Nat) : Int) == 0 && (1 : Int) == 1 && (sIx items.size items.size hi - sIx items.size 0 lo) == items.size) = true then _ else _) _ _ s
  rw [if_neg hno, pick_gen]
  first
    | exact wpAny_bind (m := Builtin.Tuple.tupleExact _) (wpAny_newObj_type (wpAny_pure ⟨_, rfl, wpAny_pure h⟩) htake)
    | exact wpAny_bind (m := Builtin.Tuple.tupleExact _) (wpAny_newObj_type (wpAny_bind (wpAny_pure (wpAny_pure ⟨_, rfl, wpAny_pure h⟩))) htake)
    | exact wpAny_bind (wpAny_bind (m := Builtin.Tuple.tupleExact _) (wpAny_newObj_type (wpAny_pure (wpAny_pure ⟨_, rfl, wpAny_pure h⟩)) htake))
    | exact wpAny_bind (wpAny_bind (m := Builtin.Tuple.tupleExact _) (wpAny_newObj_type (wpAny_pure ⟨_, rfl, wpAny_pure h⟩) htake))
end
end HT

namespace L2
open PySem PySem.Spec PyProof.Rows

/-! ### the parts of a slice -/
abbrev TO := St → Hp → (Option Int → Hp → Prop) → Prop
/-- a slice's part (left out, or an int) -/
def PO (X : Cx) (e : Option Expr) (t : TO) : Prop :=
  ∀ (pins : List (Addr × Obj)) (s : Shared) (σ : St) (H : Hp) (Q : Option Int → Hp → Prop), Inv X pins σ H s → t σ H Q →
    wpAny (model X.prog X.w) X.A (evalPart e X.env) (fun u s' => ∃ o H', Inv X pins σ H' s' ∧ IsPart u o ∧ Q o H') X.xe s
def tNoPart : TO := fun _ H Q => Q none H
def tPart (t : TE) : TO := fun σ H Q => t σ H fun x H1 => ∃ i, x = .int i ∧ Q (some i) H1

theorem intsAre_of {ns : List Int} : ∀ {us : List Value}, Vals (ns.map V.int) us → IntsAre us ns := by
  induction ns with
  | nil => intro us r; rw [List.map_nil] at r; cases r; exact .nil
  | cons n ns ih =>
    intro us r
    rw [List.map_cons] at r
    cases r with
    | cons r1 r2 =>
      obtain ⟨t, e⟩ := r1
      subst e
      exact .cons n t (ih r2)

section
variable {X : Cx} {e : Expr} {te : TE} {lo hi : Option Expr} {tl th : TO} {pos p2 : Pos}

theorem po_none : PO X none tNoPart := by
  intro pins s σ H Q I h
  rw [evalPart_none]
  exact wpAny_pure ⟨none, H, I, .none, h⟩
theorem po_some (h : PE X e te) : PO X (some e) (tPart te) := by
  intro pins s σ H Q I hw
  rw [evalPart_some]
  refine thn (h pins s σ H _ I hw) fun u s1 ⟨x, H1, I1, r1, q1⟩ => ?_
  obtain ⟨i, rfl, q⟩ := q1
  obtain ⟨t, rfl⟩ := r1
  exact ⟨some i, H1, I1, .int i t, q⟩

/-- what a slice of a value is, by values: the slice object stands at sl -/
def SlR (X : Cx) (r : V → Option Int → Option Int → Hp → VK → Prop) : Prop :=
  ∀ (pins : List (Addr × Obj)) (s : Shared) (σ : St) (H : Hp) (x : V) (v vl vu : Value) (lo hi : Option Int) (sl : Addr) (Q : VK), Inv X pins σ H s → RelV x v → s.heap.IsSliceOf sl vl vu .none → IsPart vl lo → IsPart vu hi → r x lo hi H Q →
    ∃ T id, typeLookup (.type T) "__getitem__" = pure (some (.builtin id)) ∧ s.TypeIs v T ∧ wpAny (model X.prog X.w) X.A (getItem v (.ref sl)) (EP X pins σ Q) X.xe s
theorem SlR.or {r r' : V → Option Int → Option Int → Hp → VK → Prop} (h : SlR X r) (h' : SlR X r') : SlR X (fun x lo hi H Q => r x lo hi H Q ∨ r' x lo hi H Q) := by
  intro pins s σ H x v vl vu lo hi sl Q I rx hs pl pu q
  rcases q with q | q
  · exact h pins s σ H x v vl vu lo hi sl Q I rx hs pl pu q
  · exact h' pins s σ H x v vl vu lo hi sl Q I rx hs pl pu q
def tSl (r : V → Option Int → Option Int → Hp → VK → Prop) (te : TE) (tl th : TO) : TE := fun σ H Q => te σ H fun x H1 => tl σ H1 fun l H2 => th σ H2 fun u H3 => r x l u H3 Q
/-- a[lo:hi], any a -/
theorem pe_slice {r : V → Option Int → Option Int → Hp → VK → Prop} (hr : SlR X r) (he : PE X e te) (hl : PO X lo tl) (hu : PO X hi th) : PE X (.Subscript e (.Slice lo hi none p2) pos) (tSl r te tl th) := by
  intro pins s σ H Q I h
  refine Subscript_ (thn (he pins s σ H _ I h) fun v s1 ⟨x, H1, I1, r1, q1⟩ => ?_)
  refine wpAny_Slice (thn (hl pins s1 σ H1 _ I1 q1) fun vl s2 ⟨l, H2, I2, pl, q2⟩ => thn (hu pins s2 σ H2 _ I2 q2) fun vu s3 ⟨u, H3, I3, pu, q3⟩ => ?_)
  rw [evalPart_none]
  refine wpAny_pure ?_
  have I4 : Inv X pins σ H3 { s3 with heap := s3.heap.push { cls := .type "slice", data := .fields #[vl, vu, .none] } } := I3.kept (t' := s3.toks) fun b ob q => Heap.get?_push_of_some _ q
  obtain ⟨T, id, hT, ht, hg⟩ := hr pins { s3 with heap := s3.heap.push { cls := .type "slice", data := .fields #[vl, vu, .none] } } σ H3 x v vl vu l u s3.heap.objs.size Q I4 r1 (Heap.IsSliceOf.new ..) pl pu q3
  show wpAny (model X.prog X.w) X.A (subscriptTail e (.Slice lo hi none p2) v (.ref s3.heap.objs.size)) (EP X pins σ Q) X.xe { s3 with heap := s3.heap.push { cls := .type "slice", data := .fields #[vl, vu, .none] } }
  exact tail_any (ops := [.ref s3.heap.objs.size, v]) ht hT hg (by with_unfolding_all rfl)

/-- the items of xs[lo:hi] -/
def cutV (xs : List V) (lo hi : Option Int) : List V := (xs.drop (HT.sIx xs.length 0 lo)).take (HT.sIx xs.length xs.length hi - HT.sIx xs.length 0 lo)
theorem cutV_length (xs : List V) (lo hi : Option Int) : (cutV xs lo hi).length ≤ xs.length := by
  unfold cutV
  rw [List.length_take, List.length_drop]
  omega
/-- t[lo:hi], not the whole of it (the whole would be t itself) -/
def rSlT (K : PySem.W.Frag) : V → Option Int → Option Int → Hp → VK → Prop := fun x lo hi H Q => ∃ a xs, x = .ref a ∧ SqT K H a xs ∧
  ¬ (HT.sIx xs.length 0 lo = 0 ∧ HT.sIx xs.length xs.length hi = xs.length) ∧ ∀ p, H p = none → Q (.ref p) (upd H p (.tup (cutV xs lo hi)))
theorem sl_tup : SlR X (rSlT X.K) := by
  intro pins s σ H x v vl vu lo hi sl Q I rx hs pl pu h
  obtain ⟨a, xs, rfl, hx, hw, q⟩ := h
  cases rx
  obtain ⟨its, r, ht, hz⟩ := I.tuple hx
  have hlen : its.toArray.size = xs.length := by rw [List.size_toArray]; exact r.length.symm
  refine ⟨"tuple", _, PyProof.Rows.slot_tuple_getitem.lookup, ht.typeIs, ?_⟩
  refine HT.getItem_tuple_cut ht hs pl pu (by rw [hlen]; exact hw) ?_ (by rw [hlen]; exact hz)
  rw [hlen]
  refine ⟨.ref s.heap.objs.size, _, I.laid (t' := s.toks) (o := .tup (cutV xs lo hi)) (fun b ob q => Heap.get?_push_of_some _ q) (Nat.le_refl _) ?_, rfl, q _ (I.hok.fresh (Nat.le_refl _))⟩
  exact ⟨Nat.le_trans (cutV_length xs lo hi) hz, _, (r.drop (HT.sIx xs.length 0 lo)).take (HT.sIx xs.length xs.length hi - HT.sIx xs.length 0 lo), IsTup.new _ _⟩

/-! ### t < u, t + u -/
/-- t + u, t not empty: u empty gives t itself -/
def rCatT (K : PySem.W.Frag) : R2 := fun x y H Q => ∃ a b xs ys, x = .ref a ∧ y = .ref b ∧ SqT K H a xs ∧ SqT K H b ys ∧ xs ≠ [] ∧ xs.length + ys.length ≤ sizeLine ∧
  (ys = [] → Q (.ref a) H) ∧ (ys ≠ [] → ∀ p, H p = none → Q (.ref p) (upd H p (.tup (xs ++ ys))))
theorem Vals.nil_iff {xs : List V} {us : List Value} (r : Vals xs us) : us = [] ↔ xs = [] := by
  cases r with
  | nil => simp
  | cons _ _ => simp
theorem op_catT : OpR X (binaryOp .Add) (rCatT X.K) := by
  intro pins s σ H x y v u Q I rx ry h
  obtain ⟨a, b, xs, ys, rfl, rfl, ha, hb, hx, hz, q1, q2⟩ := h
  cases rx
  cases ry
  obtain ⟨its, r1, p1, _⟩ := I.tuple ha
  obtain ⟨its2, r2, p2, _⟩ := I.tuple hb
  refine HT.cat_tup p1 p2 (fun z => hx (r1.nil_iff.mp z)) (fun z => ⟨.ref a, H, I, rfl, q1 (r2.nil_iff.mp z)⟩) (fun z => ?_) (by rw [← r1.length, ← r2.length]; exact hz)
  refine ⟨.ref s.heap.objs.size, _, I.laid (t' := s.toks) (o := .tup (xs ++ ys)) (fun b ob q => Heap.get?_push_of_some _ q) (Nat.le_refl _) ?_, rfl, q2 (fun w => z (r2.nil_iff.mpr w)) _ (I.hok.fresh (Nat.le_refl _))⟩
  exact ⟨by rw [List.length_append]; exact hz, _, r1.append r2, IsTup.new _ _⟩
end
end L2

namespace L2
open PySem PySem.Spec PyProof.Rows

/-! ### places -/
/-- the place that an index of any sign means -/
def ixN (n : Nat) (i : Int) : Option Nat := if 0 ≤ i then (if i < n then some i.toNat else none) else if -(n : Int) ≤ i then some (i + n).toNat else none
def atI {α : Type} (xs : List α) (i : Int) : Option α := (ixN xs.length i).bind fun j => xs[j]?
theorem ixN_seq {n : Nat} {i : Int} {j : Nat} (h : ixN n i = some j) : seqIndex? i n = some j ∧ j < n ∧ -(n : Int) ≤ i ∧ i < n := by
  unfold ixN at h
  by_cases h0 : 0 ≤ i
  · rw [if_pos h0] at h
    by_cases h1 : i < n
    · rw [if_pos h1] at h
      have e : i.toNat = j := Option.some.inj h
      exact ⟨by rw [seqIndex_of h0 h1, e], by omega, by omega, h1⟩
    · rw [if_neg h1] at h; cases h
  · rw [if_neg h0] at h
    by_cases h1 : -(n : Int) ≤ i
    · rw [if_pos h1] at h
      have e : (i + n).toNat = j := Option.some.inj h
      exact ⟨by rw [seqIndex_neg (by omega) h1, e], by omega, h1, by omega⟩
    · rw [if_neg h1] at h; cases h
theorem atI_get {α : Type} {xs : List α} {i : Int} {v : α} (h : atI xs i = some v) : ∃ j, seqIndex? i xs.length = some j ∧ xs[j]? = some v ∧ j < xs.length ∧ -(xs.length : Int) ≤ i ∧ i < xs.length := by
  unfold atI at h
  cases e : ixN xs.length i with
  | none => rw [e] at h; cases h
  | some j =>
    rw [e] at h
    obtain ⟨h1, h2, h3, h4⟩ := ixN_seq e
    exact ⟨j, h1, h, h2, h3, h4⟩
theorem atI_nat {α : Type} {xs : List α} {j : Nat} {v : α} (h : xs[j]? = some v) : atI xs (j : Int) = some v := by
  have hj : j < xs.length := (List.getElem?_eq_some_iff.mp h).1
  have e : ixN xs.length (j : Int) = some j := by
    unfold ixN
    rw [if_pos (by omega), if_pos (by omega)]; simp
  unfold atI; rw [e]; exact h
theorem atI_last {α : Type} (xs : List α) (v : α) : atI (xs ++ [v]) (-1) = some v := by
  have hl : (xs ++ [v]).length = xs.length + 1 := by simp
  have e : ixN (xs ++ [v]).length (-1) = some xs.length := by
    unfold ixN
    rw [hl, if_neg (by decide), if_pos (by omega)]
    congr 1
    omega
  unfold atI
  rw [e]
  show (xs ++ [v])[xs.length]? = some v
  simp

/-! ### what may be subscripted -/
/-- what stands as an index of a plain subscript -/
def PlainIx (b : Expr) : Prop := ∀ o i, subscripted b false o i = operate [o, i] (getItem o i)
/-- a subscript by values -/
def IxR (X : Cx) (r : R2) : Prop :=
  ∀ (value slice : Expr) (pins : List (Addr × Obj)) (s : Shared) (σ : St) (H : Hp) (x y : V) (v u : Value) (Q : VK), Inv X pins σ H s → RelV x v → RelV y u → r x y H Q →
    subscripted slice false v u = operate [v, u] (getItem v u) → wpAny (model X.prog X.w) X.A (subscriptTail value slice v u) (EP X pins σ Q) X.xe s
/-- a call of a builtin's method by values: the receiver, the arguments -/
def MtR (X : Cx) (id : String) (r : V → List V → Hp → VK → Prop) : Prop :=
  ∀ (pins : List (Addr × Obj)) (s : Shared) (σ : St) (H : Hp) (x : V) (xs : List V) (v : Value) (us : List Value) (Q : VK), Inv X pins σ H s → RelV x v → Vals xs us → r x xs H Q →
    wpAny (model X.prog X.w) X.A (call (.builtin id) (v :: us)) (EP X pins σ Q) X.xe s
section
variable {X : Cx} {a b : Expr} {ta tb : TE} {pos : Pos}
theorem IxR.or {r r' : R2} (h : IxR X r) (h' : IxR X r') : IxR X (fun x y H Q => r x y H Q ∨ r' x y H Q) := by
  intro value slice pins s σ H x y v u Q I rx ry q hs
  rcases q with q | q
  · exact h value slice pins s σ H x y v u Q I rx ry q hs
  · exact h' value slice pins s σ H x y v u Q I rx ry q hs
theorem MtR.or {id : String} {r r' : V → List V → Hp → VK → Prop} (h : MtR X id r) (h' : MtR X id r') : MtR X id (fun x xs H Q => r x xs H Q ∨ r' x xs H Q) := by
  intro pins s σ H x xs v us Q I rx rs q
  rcases q with q | q
  · exact h pins s σ H x xs v us Q I rx rs q
  · exact h' pins s σ H x xs v us Q I rx rs q
/-- a[b] -/
theorem pe_ix {r : R2} (hr : IxR X r) (ha : PE X a ta) (hb : PE X b tb) (hs : PlainIx b) : PE X (.Subscript a b pos) (tOp r ta tb) := by
  intro pins s σ H Q I h
  exact Subscript_ (binT ha hb I h fun v u s2 x y H2 I2 rx ry q => hr a b pins s2 σ H2 x y v u Q I2 rx ry q (hs _ _))

def rIxL (K : PySem.W.Frag) : R2 := fun x y H Q => ∃ p xs i v, x = .ref p ∧ y = .int i ∧ SqL K H p xs ∧ atI xs i = some v ∧ Q v H
def rIxT (K : PySem.W.Frag) : R2 := fun x y H Q => ∃ p xs i v, x = .ref p ∧ y = .int i ∧ SqT K H p xs ∧ atI xs i = some v ∧ Q v H
theorem ix_list : IxR X (rIxL X.K) := by
  intro value slice pins s σ H x y v u Q I rx ry h hs
  obtain ⟨p, xs, i, z, rfl, rfl, hq, he, q⟩ := h
  cases rx
  obtain ⟨t, rfl⟩ := ry
  obtain ⟨its, r, pl, hz⟩ := I.list hq
  obtain ⟨j, h1, h2, h3, h4, h5⟩ := atI_get he
  obtain ⟨w, ew, rw'⟩ := r.get h2
  have hl := r.length
  have hn := line63
  have fin : EP X pins σ Q w s := ⟨z, H, I, rw', q⟩
  by_cases h0 : 0 ≤ i
  · have hj : i.toNat = j := by
      rw [seqIndex_of h0 h5] at h1
      exact Option.some.inj h1
    exact item_listR pl.isList h0 (by omega) (by rw [hj]; simpa using ew) fin hs
  · have hj : (i + (its.toArray.size : Int)).toNat = j := by
      rw [seqIndex_neg (by omega) h4] at h1
      rw [List.size_toArray, ← hl]
      exact Option.some.inj h1
    exact subscriptTail_builtinR (x := w) pl.isList.typeIs slot_list_getitem.lookup
      (wpAny_getItem_list_neg (Q := fun r s' => r = w ∧ EP X pins σ Q r s') pl.isList (by omega) (by rw [List.size_toArray] <;> omega) (by omega) (by rw [hj]; simpa using ew) ⟨rfl, fin⟩) hs
theorem ix_tup : IxR X (rIxT X.K) := by
  intro value slice pins s σ H x y v u Q I rx ry h hs
  obtain ⟨p, xs, i, z, rfl, rfl, hq, he, q⟩ := h
  cases rx
  obtain ⟨t, rfl⟩ := ry
  obtain ⟨its, r, pl, hz⟩ := I.tuple hq
  obtain ⟨j, h1, h2, h3, h4, h5⟩ := atI_get he
  obtain ⟨w, ew, rw'⟩ := r.get h2
  have hl := r.length
  have hn := line63
  have fin : EP X pins σ Q w s := ⟨z, H, I, rw', q⟩
  exact subscriptTail_builtinR (x := w) pl.typeIs slot_tuple_getitem.lookup
    (getItem_tuple (j := j) (Q := fun r s' => r = w ∧ EP X pins σ Q r s') pl (by omega) (by omega) (by rw [List.size_toArray, ← hl]; exact h1) (by simpa using ew) ⟨rfl, fin⟩) hs
/-! ### xs[i] = v, any sign -/
/-- the list's object behind a store -/
theorem mapSeq_set (its : List Value) (n j : Nat) (u : Value) : Obj.mapSeq (·.setIfInBounds j u) { cls := .type "list", data := .seq its.toArray n } = { cls := .type "list", data := .seq (its.set j u).toArray n } := by
  simp [Obj.mapSeq]
theorem Inv.lst {pins : List (Addr × Obj)} {σ : St} {H : Hp} {s : Shared} {p : Addr} {xs : List V} (I : Inv X pins σ H s) (h : H p = some (.lst xs)) :
    ∃ (its : List Value) (n : Nat), Vals xs its ∧ s.heap.get? p = some { cls := .type "list", data := .seq its.toArray n } ∧ xs.length ≤ sizeLine := by
  obtain ⟨z, its, n, r, e⟩ := I.hok p _ h
  exact ⟨its, n, r, e, z⟩
/-- the list at p is written by an update of its object -/
theorem Inv.lstUpd {pins : List (Addr × Obj)} {σ : St} {H : Hp} {s : Shared} {p : Addr} {xs ys : List V} {its its' : List Value} {n n' : Nat} {f : Obj → Obj} (I : Inv X pins σ H s) (h : H p = some (.lst xs))
    (ho : s.heap.get? p = some { cls := .type "list", data := .seq its.toArray n }) (hf : f { cls := .type "list", data := .seq its.toArray n } = { cls := .type "list", data := .seq its'.toArray n' }) (r : Vals ys its') (hz : ys.length ≤ sizeLine) (t : Nat) :
    Inv X pins σ (upd H p (.lst ys)) { s with heap := s.heap.update p f, toks := t } := by
  have e : (s.heap.update p f).get? p = some { cls := .type "list", data := .seq its'.toArray n' } := by
    rw [Heap.get?_update_self f ho (by rw [hf] <;> rfl), hf]
  refine I.write (x := p) (e := p) (by rw [h]; trivial) (.inl rfl) (fun b u hb q => (Heap.get?_update_other _ _ (Ne.symm hb)).trans q) ⟨_, e⟩ ?_
  exact ⟨hz, its', n', r, e⟩
def rSetL : V → V → V → Hp → (Hp → Prop) → Prop := fun o i v H Q => ∃ p xs k j, o = .ref p ∧ i = .int k ∧ H p = some (.lst xs) ∧ ixN xs.length k = some j ∧ Q (upd H p (.lst (xs.set j v)))
theorem set_list : PSet X rSetL := by
  intro pins s σ H o i v ov iv u Q I ro ri rv h
  obtain ⟨p, xs, k, j, rfl, rfl, hp, hj, q⟩ := h
  cases ro
  obtain ⟨t, rfl⟩ := ri
  obtain ⟨its, n, r, ho, hz⟩ := I.lst hp
  obtain ⟨h1, h2, h3, h4⟩ := ixN_seq hj
  have hl := r.length
  have hn := line63
  have I' : Inv X pins σ (upd H p (.lst (xs.set j v))) { s with heap := s.heap.update p (Obj.mapSeq (·.setIfInBounds j u)) } :=
    I.lstUpd hp ho (mapSeq_set its n j u) (r.set rv j) (by rw [List.length_set]; exact hz) s.toks
  by_cases h0 : 0 ≤ k
  · have hk : k.toNat = j := by
      rw [seqIndex_of h0 h4] at h1
      exact Option.some.inj h1
    exact PySem.W.ki_setAt ho h0 (by omega) (by rw [List.size_toArray, ← hl]; exact h4) (by rw [hk]; exact ⟨_, I', q⟩)
  · have hk : (k + (its.toArray.size : Int)).toNat = j := by
      rw [seqIndex_neg (by omega) h3] at h1
      rw [List.size_toArray, ← hl]
      exact Option.some.inj h1
    exact PySem.W.ki_setBack ho (by omega) (by rw [List.size_toArray, ← hl]; exact h3) (by omega) (by rw [hk]; exact ⟨_, I', q⟩)

/-! ### slices -/
theorem slice_bounds (lo hi : Option Int) (n : Nat) : (sliceBounds lo hi none n).1 = ((HT.sIx n 0 lo : Nat) : Int) ∧ (sliceBounds lo hi none n).2.1 = ((HT.sIx n n hi : Nat) : Int) ∧ (sliceBounds lo hi none n).2.2 = 1 := by
  refine ⟨?_, ?_, rfl⟩
  · cases lo with
    | none => simp [sliceBounds, HT.sIx]
    | some i =>
      simp only [sliceBounds, HT.sIx, Option.getD_none, show (1 : Int) > 0 by decide, if_true]
      by_cases h : i < 0
      · simp only [h, if_true] <;> omega
      · simp only [h, if_false] <;> omega
  · cases hi with
    | none => simp [sliceBounds, HT.sIx]
    | some i =>
      simp only [sliceBounds, HT.sIx, Option.getD_none, show (1 : Int) > 0 by decide, if_true]
      by_cases h : i < 0
      · simp only [h, if_true] <;> omega
      · simp only [h, if_false] <;> omega
theorem slicePick_cut (its : List Value) (lo hi : Option Int) : slicePick its.toArray lo hi none = ((its.drop (HT.sIx its.length 0 lo)).take (HT.sIx its.length its.length hi - HT.sIx its.length 0 lo)).toArray := by
  obtain ⟨h1, h2, h3⟩ := slice_bounds lo hi its.toArray.size
  unfold slicePick
  rw [h1, h2, h3]
  simp only [sliceRange_one, pick_run, List.size_toArray] <;> rfl
/-- xs[lo:hi] of a list: a new list -/
def rSlL (K : PySem.W.Frag) : V → Option Int → Option Int → Hp → VK → Prop := fun x lo hi H Q => ∃ a xs, x = .ref a ∧ SqL K H a xs ∧ ∀ p, H p = none → Q (.ref p) (upd H p (.lst (cutV xs lo hi)))
theorem sl_list : SlR X (rSlL X.K) := by
  intro pins s σ H x v vl vu lo hi sl Q I rx hs pl pu h
  obtain ⟨a, xs, rfl, hx, q⟩ := h
  cases rx
  obtain ⟨its, r, ht, hz⟩ := I.list hx
  have hlen := r.length
  refine ⟨"list", _, slot_list_getitem.lookup, ht.isList.typeIs, ?_⟩
  refine wpAny_getItem_list_slice ht.isList hs pl pu .none (by simp) ?_ (by rw [List.size_toArray] <;> omega)
  rw [slicePick_cut, ← hlen]
  refine ⟨.ref s.heap.objs.size, _, I.laid (t' := s.toks) (o := .lst (cutV xs lo hi)) (fun b ob q => Heap.get?_push_of_some _ q) (Nat.le_refl _) ?_, rfl, q _ (I.hok.fresh (Nat.le_refl _))⟩
  exact ⟨Nat.le_trans (cutV_length xs lo hi) hz, _, 0, (r.drop (HT.sIx xs.length 0 lo)).take (HT.sIx xs.length xs.length hi - HT.sIx xs.length 0 lo), Heap.get?_push_size _ rfl⟩

/-! ### in, not in: flat items -/
/-! ### len, list(x), tuple(x) of any list or tuple that is read -/
theorem call_len_seq : CallR X (.builtin "len") (fun xs H Q => ∃ p ys, xs = [.ref p] ∧ (SqL X.K H p ys ∨ SqT X.K H p ys) ∧ Q (.int ys.length) H) := by
  intro pins s σ H xs us Q I r h
  obtain ⟨p, ys, rfl, hq, q⟩ := h
  obtain ⟨u, rfl, rx⟩ := vals1 r
  cases rx
  have hn := line63
  rcases hq with hq | hq
  · obtain ⟨its, r', pl, hz⟩ := I.list hq
    have hlen := r'.length
    exact Calls.call_len_list pl.isList (by simp only [List.size_toArray] <;> omega) ⟨.int ys.length, H, I.tok _, ⟨s.toks + 1, by rw [List.size_toArray, hlen]⟩, q⟩
  · obtain ⟨its, r', pl, hz⟩ := I.tuple hq
    have hlen := r'.length
    exact len_tuple pl (by simp only [List.size_toArray] <;> omega) ⟨.int ys.length, H, I.tok _, ⟨s.toks + 1, by rw [List.size_toArray, hlen]⟩, q⟩
theorem CallR.or {f : Value} {r r' : List V → Hp → VK → Prop} (h : CallR X f r) (h' : CallR X f r') : CallR X f (fun xs H Q => r xs H Q ∨ r' xs H Q) := by
  intro pins s σ H xs us Q I rs q
  rcases q with q | q
  · exact h pins s σ H xs us Q I rs q
  · exact h' pins s σ H xs us Q I rs q
theorem call_list_of : CallR X (.type "list") (fun xs H Q => ∃ p ys, xs = [.ref p] ∧ (SqL X.K H p ys ∨ SqT X.K H p ys) ∧ ∀ l, H l = none → Q (.ref l) (upd H l (.lst ys))) := by
  intro pins s σ H xs us Q I r h
  obtain ⟨p, ys, rfl, hq, q⟩ := h
  obtain ⟨u, rfl, rx⟩ := vals1 r
  cases rx
  have fin : ∀ (its : List Value), Vals ys its → ys.length ≤ sizeLine → ∀ (h' : Heap) (c' : Nat), (∀ b o', s.heap.get? b = some o' → h'.get? b = some o') →
      h'.get? s.heap.objs.size = some { cls := .type "list", dict := none, data := .seq its.toArray c', slots := #[] } → EP X pins σ Q (.ref s.heap.objs.size) { s with heap := h' } := fun its r' hz h' c' kp e =>
    ⟨.ref s.heap.objs.size, _, I.laid (t' := s.toks) kp (Nat.le_refl _) (show ObjOk X.prog X.w _ h' _ (.lst ys) from ⟨hz, its, c', r', e⟩), rfl, q _ (I.hok.fresh (Nat.le_refl _))⟩
  rcases hq with hq | hq
  · obtain ⟨its, r', pl, hz⟩ := I.list hq
    have hlen := r'.length
    obtain ⟨o, ho, hc, n, hd⟩ := pl.isList
    exact call_list_seq p (.inl rfl) ho hc hd (fun h' c' kp e => fin its r' hz h' c' kp e) (by simp only [List.size_toArray] <;> omega)
  · obtain ⟨its, r', pl, hz⟩ := I.tuple hq
    have hlen := r'.length
    obtain ⟨o, ho, hc, n, hd⟩ := pl
    exact call_list_seq p (.inr rfl) ho hc hd (fun h' c' kp e => fin its r' hz h' c' kp e) (by simp only [List.size_toArray] <;> omega)
theorem call_tuple_of : CallR X (.type "tuple") (fun xs H Q => ∃ p ys, xs = [.ref p] ∧ ((SqL X.K H p ys ∧ ∀ l, H l = none → Q (.ref l) (upd H l (.tup ys))) ∨ (SqT X.K H p ys ∧ Q (.ref p) H))) := by
  intro pins s σ H xs us Q I r h
  obtain ⟨p, ys, rfl, h⟩ := h
  obtain ⟨u, rfl, rx⟩ := vals1 r
  cases rx
  rcases h with ⟨hq, q⟩ | ⟨hq, q⟩
  · obtain ⟨its, r', pl, hz⟩ := I.list hq
    have hlen := r'.length
    refine call_tuple_list pl.isList (fun h' kp => ?_) (by simp only [List.size_toArray] <;> omega)
    have I1 : Inv X pins σ H { s with heap := h' } := I.kept (t' := s.toks) kp
    have I2 : Inv X pins σ (upd H h'.objs.size (.tup ys)) { s with heap := h'.push { cls := .type "tuple", data := .seq its.toArray } } :=
      I1.laid (t' := s.toks) (fun b o e => Heap.get?_push_of_some _ e) (Nat.le_refl _) (show ObjOk X.prog X.w _ _ _ (.tup ys) from ⟨hz, its, r', IsTup.new _ _⟩)
    exact ⟨.ref h'.objs.size, _, I2, rfl, q _ (I1.hok.fresh (Nat.le_refl _))⟩
  · obtain ⟨its, r', pl, hz⟩ := I.tuple hq
    exact call_tuple_same pl ⟨.ref p, H, I, rfl, q⟩

/-! ### the call of a builtin's method: o.m(..) -/
/-- the value is of that builtin type -/
def tyV (K : PySem.W.Frag) (T : String) (x : V) (H : Hp) : Prop := match x with
  | .str _ => T = "str"
  | .int _ => T = "int"
  | .ref p => (T = "list" ∧ ∃ xs, SqL K H p xs) ∨ (T = "tuple" ∧ ∃ o, K.lookup p = some o ∧ o.cls = .type "tuple" ∧ o.dict = none) ∨
      (T = "dict" ∧ ((∃ kvs, H p = some (.dK kvs)) ∨ ∃ kvs, H p = some (.dT kvs))) ∨ (T = "set" ∧ ∃ S n, H p = some (.set S n))
  | _ => False
theorem tyV_is {pins : List (Addr × Obj)} {σ : St} {H : Hp} {s : Shared} {T : String} {x : V} {v : Value} (I : Inv X pins σ H s) (r : RelV x v) (ty : tyV X.K T x H) :
    s.TypeIs v T ∧ ∀ a, v = .ref a → ∃ ob, s.heap.get? a = some ob ∧ ob.dict = none := by
  cases x with
  | str z =>
    obtain ⟨t, rfl⟩ := r
    cases (show T = "str" from ty)
    exact ⟨typeIs_str s z t, fun _ e => nomatch e⟩
  | int i =>
    obtain ⟨t, rfl⟩ := r
    cases (show T = "int" from ty)
    exact ⟨typeIs_int s i t, fun _ e => nomatch e⟩
  | ref p =>
    cases r
    rcases ty with ⟨rfl, xs, hq⟩ | ⟨rfl, o, hk, hc, hd⟩ | ⟨rfl, hk⟩ | ⟨rfl, S, n, hk⟩
    · obtain ⟨its, _, pl, _⟩ := I.list hq
      refine ⟨pl.isList.typeIs, fun a e => ?_⟩
      cases e
      obtain ⟨o, n, e, c, hd, _⟩ := pl
      exact ⟨o, e, hd⟩
    · refine ⟨⟨o, I.kIn p o hk, hc⟩, fun a e => ?_⟩
      cases e
      exact ⟨o, I.kIn _ o hk, hd⟩
    · have z : ∃ o, s.heap.get? p = some o ∧ o.ExactDict := by
        rcases hk with ⟨kvs, hk⟩ | ⟨kvs, hk⟩
        · obtain ⟨_, _, _, _, o, _, _, e, ex, _⟩ := I.hok p _ hk
          exact ⟨o, e, ex⟩
        · obtain ⟨_, _, _, _, o, _, _, e, ex, _⟩ := I.hok p _ hk
          exact ⟨o, e, ex⟩
      obtain ⟨o, e, ex⟩ := z
      refine ⟨⟨o, e, ex.1⟩, fun a e2 => ?_⟩
      cases e2
      exact ⟨o, e, ex.2.1⟩
    · obtain ⟨o, _, _, _, e, ex, _⟩ := I.hok p _ hk
      refine ⟨⟨o, e, ex.1⟩, fun a e2 => ?_⟩
      cases e2
      exact ⟨o, e, ex.2.1⟩
  | _ => exact False.elim ty
def tBM (K : PySem.W.Frag) (T : String) (r : V → List V → Hp → VK → Prop) (to : TE) (t : TA) : TE := fun σ H Q => to σ H fun x H1 => tyV K T x H1 ∧ t σ H1 fun xs H2 => r x xs H2 Q
variable {o e : Expr} {es : List Expr} {to : TE} {t : TA} {name : Str} {apos cpos : Pos} {T id : String} {r : V → List V → Hp → VK → Prop}
theorem pe_bm (pa : PlainAttrs T) (slot : Slot T name id) (hty : typeOf (.builtin id) = pure (.type "method_descriptor")) (hm : MtR X id r) (ho : PE X o to) (ha : PA X (e :: es) t)
    (hbase : attributeBase o name X.env (eval o X.env) = eval o X.env := by rfl)
    (hfew : ((backTo cpos (starEach (e :: es) X.env)).all (fun x => !x.1) && (backToKw cpos (keywordEach [] X.env)).all (fun x => x.1.isSome)
      && decide ((e :: es).length + ([] : List Keyword).length + (if ([] : List Keyword).isEmpty then 0 else 1) < 30)) = true := by rfl)
    (hline : (apos.endLine == cpos.line) = true := by rfl) (hs : starEach (e :: es) X.env = (false, eval e X.env) :: starEach es X.env := by rfl) (hplain : (backTo cpos (starEach es X.env)).any (·.1) = false := by rfl) :
    PE X (.Call (.Attribute o name apos) (e :: es) [] cpos) (tBM X.K T r to t) := by
  intro pins s σ H Q I h
  refine wpAny_Call_method_late hbase hfew hline rfl (thn (ho pins s σ H _ I h) fun v s1 ⟨x, H1, I1, r1, ty, q1⟩ => ?_)
  obtain ⟨h1, h2⟩ := tyV_is I1 r1 ty
  refine ⟨T, id, pa, slot, hty, h1, h2, ?_⟩
  have hA := ha cpos pins s1 σ H1 _ I1 q1
  rw [hs] at hA ⊢
  refine Calls.callWith_builtin (by show (false || (backTo cpos (starEach es X.env)).any (·.1)) = false; rw [hplain] <;> rfl) (Calls.evalArgs_plain ?_)
  exact thn hA fun us s2 ⟨vs, H2, I2, r2, q2⟩ => hm pins s2 σ H2 x vs v us Q I2 r1 r2 q2
/- xs.append(e), list.index on a module's tuple .. are MtR facts of 06m -/
end
end L2

namespace L2
open PySem PySem.Spec PyProof.Rows

def MtM (X : Cx) (id : String) (r : V → List V → Hp → VK → Prop) : Prop :=
  ∀ (pins : List (Addr × Obj)) (s : Shared) (σ : St) (H : Hp) (x : V) (xs : List V) (v : Value) (us : List Value) (Q : VK), Inv X pins σ H s → RelV x v → Vals xs us → r x xs H Q →
    wpAny (model X.prog X.w) X.A (call (.builtin id) (v :: us)) (EP X pins σ Q) X.xe s

/-! ### lists of values -/
theorem Vals.one : ∀ {x : V} {us : List Value}, Vals [x] us → ∃ u, us = [u] ∧ RelV x u
  | _, _, .cons r .nil => ⟨_, rfl, r⟩
theorem Vals.two : ∀ {x y : V} {us : List Value}, Vals [x, y] us → ∃ u v, us = [u, v] ∧ RelV x u ∧ RelV y v
  | _, _, _, .cons r (.cons q .nil) => ⟨_, _, rfl, r, q⟩
theorem Vals.reverse {xs : List V} {us : List Value} (h : Vals xs us) : Vals xs.reverse us.reverse := by
  induction h with
  | nil => exact .nil
  | cons r t ih => rw [List.reverse_cons, List.reverse_cons]; exact Vals.append ih (.cons r .nil)
section
variable {X : Cx} {pins : List (Addr × Obj)} {σ : St} {H : Hp} {s : Shared} {l b : Addr} {xs ys zs : List V}

/-! ### the two steps: a tracked list is rewritten, a new list is laid -/
theorem Inv.lset {its its' : List Value} {n : Nat} {f : Array Value → Array Value} {t' : Nat} (I : Inv X pins σ H s) (hH : H l = some (.lst xs))
    (e : s.heap.get? l = some { cls := .type "list", data := .seq its.toArray n }) (hf : f its.toArray = its'.toArray) (hv : Vals ys its') (hz : ys.length ≤ sizeLine) :
    Inv X pins σ (upd H l (.lst ys)) { s with heap := s.heap.update l (Obj.mapSeq f), toks := t' } := by
  have q := PySem.IsL.update e f
  rw [hf] at q
  refine I.write (x := l) (e := l) (by rw [hH]; exact trivial) (.inl rfl) (fun b' u hb hu => (Heap.get?_update_other s.heap (Obj.mapSeq f) (Ne.symm hb)).trans hu) ⟨_, q⟩ ?_
  exact ⟨hz, its', _, hv, q⟩
theorem Inv.lnew {its : List Value} {t' : Nat} (I : Inv X pins σ H s) (hv : Vals ys its) (hz : ys.length ≤ sizeLine) :
    Inv X pins σ (upd H s.heap.objs.size (.lst ys)) { s with heap := s.heap.push { cls := .type "list", data := .seq its.toArray }, toks := t' } :=
  I.laid (fun _ _ q => Heap.get?_push_of_some _ q) (Nat.le_refl _) ⟨hz, its, 0, hv, Heap.get?_push_size _ rfl⟩
theorem Inv.fresh (I : Inv X pins σ H s) : H s.heap.objs.size = none := I.hok.fresh (Nat.le_refl _)
theorem Inv.lstM (I : Inv X pins σ H s) (hH : H l = some (.lst xs)) : xs.length ≤ sizeLine ∧ ∃ (its : List Value) (n : Nat), Vals xs its ∧ xs.length = its.length ∧ s.heap.get? l = some { cls := .type "list", data := .seq its.toArray n } := by
  obtain ⟨z, its, n, r, e⟩ := I.hok l _ hH
  exact ⟨z, its, n, r, r.length, e⟩

theorem notLongL {n : Nat} (h : n ≤ sizeLine) : Builtin.List.listTooLong n = false := by
  unfold Builtin.List.listTooLong
  exact decide_eq_false (by omega)
end

section
variable {X : Cx}

/-! ### methods -/
def rAppend : V → List V → Hp → VK → Prop := fun x vs H Q => ∃ l xs y, x = .ref l ∧ vs = [y] ∧ H l = some (.lst xs) ∧ xs.length < sizeLine ∧ Q .non (upd H l (.lst (xs ++ [y])))
theorem mt_append : MtM X "list.append" rAppend := by
  intro pins s σ H x vs v us Q I rx rv h
  obtain ⟨l, xs, y, rfl, rfl, hH, hz, q⟩ := h
  cases rx
  obtain ⟨u, rfl, ru⟩ := rv.one
  obtain ⟨z, its, n, r, hl, e⟩ := I.lstM hH
  refine call_meets F.slot_list_append ⟨_, e, rfl⟩ F.entry_list_append (F.args_list_append_2 _ _) (PySem.list_append l its.toArray n u (by rw [List.size_toArray]; omega)) ⟨e, ?_⟩
  refine ⟨.non, _, I.lset (its' := its ++ [u]) hH e (by simp) (r.append (.cons ru .nil)) ?_, rfl, q⟩
  rw [List.length_append, List.length_singleton]
  omega

def rExtend : V → List V → Hp → VK → Prop := fun x vs H Q => ∃ l b xs zs, x = .ref l ∧ vs = [.ref b] ∧ H l = some (.lst xs) ∧ H b = some (.lst zs) ∧ xs.length + zs.length ≤ sizeLine ∧ Q .non (upd H l (.lst (xs ++ zs)))
theorem mt_extend : MtM X "list.extend" rExtend := by
  intro pins s σ H x vs v us Q I rx rv h
  obtain ⟨l, b, xs, zs, rfl, rfl, hH, hB, hz, q⟩ := h
  cases rx
  obtain ⟨u, rfl, ru⟩ := rv.one
  cases ru
  obtain ⟨z, its, n, r, hl, e⟩ := I.lstM hH
  obtain ⟨z2, its2, n2, r2, hl2, e2⟩ := I.lstM hB
  have hsz : its.toArray.size + its2.toArray.size ≤ sizeLine := by rw [List.size_toArray, List.size_toArray]; omega
  have hlong : ¬ (!its.toArray.isEmpty && Builtin.List.listTooLong (its.toArray.size + its2.toArray.size)) = true := by
    rw [notLongL hsz, Bool.and_false]
    exact Bool.false_ne_true
  refine call_meets F.slot_list_extend ⟨_, e, rfl⟩ F.entry_list_extend (F.args_list_extend_2 _ _)
    (AutoSeq1.list_extend_list_list_0 l its.toArray n b its2.toArray n2 hlong (by rw [List.size_toArray]; omega) (by omega)) ⟨e, e2, ?_⟩
  refine ⟨.non, _, I.lset (its' := its ++ its2) hH e (by simp) (r.append r2) ?_, rfl, q⟩
  rw [List.length_append]
  omega

/-! ### list + list, list += list, list * int -/
def rCat : R2 := fun x y H Q => ∃ l b xs zs, x = .ref l ∧ y = .ref b ∧ H l = some (.lst xs) ∧ H b = some (.lst zs) ∧ xs.length + zs.length ≤ sizeLine ∧ ∀ p, H p = none → Q (.ref p) (upd H p (.lst (xs ++ zs)))
theorem op_cat : OpR X (binaryOp .Add) rCat := by
  intro pins s σ H x y v u Q I rx ry h
  obtain ⟨l, b, xs, zs, rfl, rfl, hH, hB, hz, q⟩ := h
  cases rx
  cases ry
  obtain ⟨z, its, n, r, hl, e⟩ := I.lstM hH
  obtain ⟨z2, its2, n2, r2, hl2, e2⟩ := I.lstM hB
  refine PySem.P.add_list e e2 ?_ (by rw [List.size_toArray, List.size_toArray]; omega)
  have ea : its.toArray ++ its2.toArray = (its ++ its2).toArray := by simp
  rw [ea]
  exact ⟨.ref _, _, I.lnew (t' := s.toks) (r.append r2) (by rw [List.length_append]; omega), rfl, q _ I.fresh⟩
/-! ### del xs[i] -/
end

/-! ### xs[a:b] = ys -/
section
variable {prog : Program} {w : World} {A : Around} {E : Value → Shared → Prop} {s : Shared}
end

section
variable {X : Cx}
end
end L2

namespace Att
open PySem PySem.W PySem.Calls PyProof.Rows

/-! ### the script -/
theorem ints_of_wellAll {P : Params} {h : Heap} : ∀ (ns : List Int) (vs : List Value), WellAll P h vs (ns.map WData.int) → IntsAre vs ns := by
  intro ns
  induction ns with
  | nil =>
    intro vs w
    rw [List.map_nil] at w
    cases w
    exact .nil
  | cons n ns ih =>
    intro vs w
    rw [List.map_cons] at w
    cases w with
    | cons a b =>
      cases a
      exact .cons _ _ (ih _ b)

theorem script_of {l : OpenLaw} {n : Nat} (hn : l.most = some n) {P : Params} {h : Heap} {args : List WData} {vals : List Value}
    (hpre : l.row.toRowW.claim.pre args = true) (hwl : WellAll P h vals args) :
    ∃ a vs ns, vals = [Value.ref a] ∧ args = [WData.list (ns.map WData.int)] ∧ h.get? a = some { cls := .type "list", data := .seq vs.toArray } ∧ IntsAre vs ns ∧ ns.length ≤ n := by
  have hsh : WShape.hasAll [] args [.list .int] = true := (pre_splitW hpre).1
  have hc : l.pre.holds [] { args := args } = true := (pre_splitW hpre).2
  obtain ⟨d, r, rfl, h1, h2⟩ := hasAllW_cons hsh
  obtain rfl := hasAllW_nil h2
  obtain ⟨xs, rfl, h3⟩ := hasW_list h1
  obtain ⟨ns, rfl⟩ := items_int h3
  have hlen : ns.length ≤ n := by
    unfold OpenLaw.pre at hc
    have h4 : (WTm.not (.lt (.lit (.int (n : Int))) (.len (.arg 0)))).holds [] { args := [.list (ns.map .int)] } = true := by
      have h4 := (holds_andW hc).1
      rw [hn] at h4
      exact h4
    have h5 := condW_of h4 (w_not (w_lt w_lit (w_len_list (w_arg rfl))))
    rw [List.length_map] at h5
    refine Nat.le_of_not_lt fun q => ?_
    have q' : (n : Int) < ((ns.length : Nat) : Int) := by omega
    first
      | (rw [decide_eq_true q'] at h5; exact absurd h5 (by decide))
      | (simp at h5; omega)
  cases hwl with
  | cons w1 w2 =>
    cases w2
    cases w1 with
    | list ho hall => exact ⟨_, _, ns, rfl, rfl, ho, ints_of_wellAll ns _ hall, hlen⟩

theorem post_true (l : OpenLaw) (args : List WData) : l.row.toRowW.claim.post args (.bool true) args = true :=
  postW_of (r := l.row.toRowW) (X := (true == true))
    (show WShape.has [] (.bool true) .bool = true by first | rfl | decide | simp [WShape.has, WShape.arms, WShape.armsAll])
    (show (WTm.eq .res (.lit (.bool true))).value [] { args := args, res := some (.bool true), after := args } = some (.bool (true == true)) from w_eq_bool (w_res rfl) w_lit) rfl

/-! ### the attachment: holds_open's last premise (the goal 'hc' behind k_head) from a wpAny of the law's body -/
/-- the same from a codeAny of the CALL (for a layer whose function contracts speak of calls) -/
theorem attach_call {l : OpenLaw} {n : Nat} {q : Program} {loose : List Str} {XP : (Str → Option Value) → Heap → Prop} {YP : World → Heap → Prop} {d : DefRec}
    (hn : l.most = some n) (hdf : d.params.defaults = [])
    (call : ∀ (w : World) (s₀ s₁ : Shared) (mg mb : Str → Option Value) (fa : Addr) (o : Obj) (pm cd doc : Value) (a : Addr) (vs : List Value) (ns : List Int),
      Ground q loose [] XP w s₀ mg mb s₁.heap → YP w s₁.heap →
      s₁.heap.get? fa = some o → o.data = .func (docDef d.name d.params d.body d.scope pm cd doc) → s₁.heap.CodeRec cd d.name → mg d.name = some (.ref fa) →
      s₁.heap.get? a = some { cls := .type "list", data := .seq vs.toArray } → IntsAre vs ns → ns.length ≤ n → s₁.gens = #[] →
      codeAny (model l.prog w) callerA (.call (.ref fa) ⟨[.ref a], []⟩) (fun r s' => r = .ok (.ret (.bool true)) ∧ OldK s₁.heap s'.heap ∧ s'.os = s₁.os ∧ AllBare s'.gens) s₁) :
    WalkO q loose XP YP l.row.toRowW d [] (fun f vs => PySem.call f vs) := by
  intro w s₀ s₁ mg mb G Y fa o pm cd doc dV kV ho hd hcd hD hmg hg args vals as hpre hlay hrd hwl hlo
  obtain rfl : dV = .none := Dflts.none hD hdf
  obtain rfl : kV = .none := Dflts.noKw hD
  obtain ⟨a, vs, ns, rfl, rfl, hobj, hints, hlen⟩ := script_of hn hpre hwl
  refine enter_call (codeAny_mono (call w s₀ s₁ mg mb fa o pm cd doc a vs ns G Y ho (fd_plain hd) hcd hmg hobj hints hlen hg) fun r s' hq => ?_)
  obtain ⟨rfl, h2, h3, h4⟩ := hq
  exact ⟨.inl ⟨.bool true, .bool true, [], rfl, fun _ => rfl, .bool true, post_true l _, fun _ => ⟨List.Pairwise.nil, fun _ hm => (nomatch hm)⟩⟩, h2, h3, h4⟩

/-! ### rules over ANY heap (no ledger) from facts about the written part K: the library's own take a ledger (News) for what they write -/
section
variable {prog : Program} {w : World} {A : Around} {E : Value → Shared → Prop} {s : Shared} {K : Frag}

/-! the whole heap as the ledger: makes every rule that writes through a ledger a rule over any heap -/
def ledger (h : Heap) (L d : Addr) : List (Addr × Obj) := (List.range h.objs.size).filterMap fun a => if a = L ∨ a = d then none else (h.get? a).map fun o => (a, o)
end
end Att

namespace L2
open PySem PySem.Spec PyProof.Rows

theorem vals_ints : ∀ {vs : List Value} {ns : List Int}, IntsAre vs ns → Vals (ns.map V.int) vs
  | _, _, .nil => .nil
  | _, _, .cons n t h => .cons ⟨t, rfl⟩ (vals_ints h)

/-- nothing is tracked but the script, known to the object (or it is an object of the module) -/
def Only (H : Hp) : Prop := ∀ b, H b = none ∨ ∃ o xs, H b = some (.frz o (.lst xs))

/-- THE HEAD: the law's promise, at the heap behind the top. F, the promise of the law's def, may use that base is part of the heap (so K.In base, base.Ns mainGlobals mg stand in Mod) -/
theorem law_call {P : Program} {w : World} {K : PySem.W.Frag} {mg mb : Str → Option Value} {CX : CXT} {k : Nat} {fa a : Addr} {fd : FuncData} {x : Str} {sp : Sp} {s₁ : Shared} {vs : List Value} {ns : List Int}
    (KX : K.In s₁.heap) (hns : s₁.heap.Ns mainGlobals mg) (hb : s₁.heap.Ns builtinsNs mb) (hbb : ∀ x : Str, x ≠ "__name__" → mb x = bootBuiltins x) (hlim : s₁.heap.NoLimit) (hg : s₁.gens = #[])
    (ha : s₁.heap.get? a = some { cls := .type "list", data := .seq vs.toArray }) (hi : IntsAre vs ns) (hl : ns.length ≤ sizeLine) (hr : Room k callerA)
    (F : ∀ base : Heap, K.In base → base.Ns mainGlobals mg → FnOk P w K mg base CX k fa fd [x] sp) (hbind : ∀ (s : Shared) (u : Value), BindsTo s fd ⟨[u], []⟩ [(x, u)])
    (hsp : ∀ H : Hp, Only H → SqL K H a (ns.map V.int) → sp [.ref a] H (fun v _ => v = .bl true) fun _ _ _ => False)
    (hCX : ∀ H e s', CX [] H s₁ (fun _ _ _ => False) e s' → False) :
    codeAny (model P w) callerA (.call (.ref fa) ⟨[.ref a], []⟩) (fun r s' => r = .ok (.ret (.bool true)) ∧ OldK s₁.heap s'.heap ∧ s'.os = s₁.os ∧ AllBare s'.gens) s₁ := by
  have rv := vals_ints hi
  have lenV := hi.length
  -- from an abstract heap in which nothing but the script may be tracked
  have core : ∀ H : Hp, Only H → SqL K H a (ns.map V.int) → HOk P w H s₁.heap → (∀ b, H b ≠ none → b = a) → (H a ≠ none → K.lookup a = none) →
      codeAny (model P w) callerA (.call (.ref fa) ⟨[.ref a], []⟩) (fun r s' => r = .ok (.ret (.bool true)) ∧ OldK s₁.heap s'.heap ∧ s'.os = s₁.os ∧ AllBare s'.gens) s₁ := by
    intro H hO hS hok hA hK
    have base_of : ∀ {b : Addr} {o : Obj}, s₁.heap.get? b = some o → H b = none → (hidT s₁.heap H).get? b = some o := fun e n => hidT_get e n
    have noA : ∀ {b : Addr} {o : Obj} {es : Array DictEntry} {ep : Nat}, s₁.heap.get? b = some o → o.data = .dict es ep → H b = none := fun {b o es ep} e d => by
      cases q : H b with
      | none => rfl
      | some u =>
        have e' : b = a := hA b (by rw [q]; simp)
        subst e'
        rw [ha] at e; cases e
        have d' : Data.seq vs.toArray _ = Data.dict es ep := d
        cases d'
    have nsK : ∀ {b : Addr} {m : Str → Option Value}, s₁.heap.Ns b m → (hidT s₁.heap H).Ns b m := fun {b m} ⟨o, es, ep, e, d, r⟩ => ⟨o, es, ep, base_of e (noA e d), d, r⟩
    have hKb : K.In (hidT s₁.heap H) := fun b o e => base_of (KX b o e) (by
      cases q : H b with
      | none => rfl
      | some u =>
        have e' : b = a := hA b (by rw [q]; simp)
        subst e'
        rw [hK (by rw [q]; simp)] at e; cases e)
    have hM : Mod K mg (hidT s₁.heap H) := ⟨hKb, nsK hns, ⟨mb, nsK hb, hbb⟩, let ⟨mc, h1, h2⟩ := hlim; ⟨mc, nsK h1, h2⟩⟩
    have e0 : Env0 P w K mg (hidT s₁.heap H) callerA [] s₁ H := ⟨rfl, hM, fun b o e => of_hidT e, Nat.le_of_eq (hidT_size _ _), trivial, fun b hb => absurd (show b ∈ ([] : List Addr) from hb) (by simp), hok, .of_eq hg⟩
    refine codeAny_mono ((F _ hKb (nsK hns)).run callerA [] s₁ H ⟨[.ref a], []⟩ [.ref a] [.ref a] _ _ hr e0 (hbind s₁ (.ref a)) (.cons rfl .nil) (hsp H hO hS)) fun r s' h => ?_
    cases r with
    | error e => exact (hCX H e s' h).elim
    | ok fl =>
      cases fl with
      | next => exact False.elim h
      | brk => exact False.elim h
      | cont => exact False.elim h
      | ret u =>
        obtain ⟨v, H', os, bare, un, hok', r', q⟩ := h
        have q' : v = .bl true := q
        subst q'
        obtain rfl : u = Value.bool true := r'
        refine ⟨rfl, OldK.of_keep fun b o e => ?_, os, bare⟩
        cases q : H b with
        | none => exact un.keep b o e q (by intro z; exact absurd (show b ∈ ([] : List Addr) from z) (by simp)) (by simp)
        | some u =>
          rcases hO b with z | ⟨ob, xs, z⟩
          · rw [q] at z; cases z
          · have z2 := un.frzs b ob _ z
            obtain ⟨e1, _⟩ := hok b _ z
            obtain ⟨e2, _⟩ := hok' b _ z2
            rw [e] at e1; cases e1
            exact e2
  cases hk : K.lookup a with
  | some o =>
    -- the script is one of the module's own objects
    have e := KX a o hk
    rw [ha] at e
    cases e
    refine core (fun _ => none) (fun _ => .inl rfl) (.inr ⟨_, vs.toArray, _, hk, rfl, rfl, rfl, by rw [List.size_toArray, lenV]; exact hl, by simpa using rv⟩) (fun b u z => by have z' : (none : Option HO) = some u := z; cases z') (fun b z => absurd rfl z) fun z => absurd rfl z
  | none =>
    refine core (fun b => if b = a then some (.frz { cls := .type "list", data := .seq vs.toArray } (.lst (ns.map V.int))) else none) (fun b => ?_) (.inl (.inr ⟨{ cls := .type "list", data := .seq vs.toArray }, if_pos rfl⟩)) (fun b u z => ?_) (fun b z => ?_) fun _ => hk
    · by_cases hb : b = a
      · exact .inr ⟨_, _, if_pos hb⟩
      · exact .inl (if_neg hb)
    · by_cases hb : b = a
      · have z' := (if_pos hb).symm.trans z
        cases z'
        subst hb
        exact ⟨ha, by rw [List.length_map]; exact hl, vs, _, rv, ha⟩
      · have z' := (if_neg hb).symm.trans z
        cases z'
    · by_cases hb : b = a
      · exact hb
      · exact absurd (if_neg hb) z
end L2

namespace L2
open PySem PySem.Spec PyProof.Rows

/-- the goal that k_head leaves (case hc), from the law's promise. F gives the function object fd (K's own) once, then the promise over every base -/
theorem walk_of {l : PySem.W.OpenLaw} {n k : Nat} {q : Program} {loose : List Str} {XP : (Str → Option Value) → Heap → Prop} {YP : World → Heap → Prop} {d : DefRec} {K : Params → PySem.W.Frag} {CX : World → CXT} {sp : World → Sp} {x : Str}
    (hn : l.most = some n) (hn2 : n ≤ sizeLine) (hdf : d.params.defaults = []) (hr : Room k callerA)
    (hY : ∀ (w : World) (h : Heap), YP w h → (K w.params).In h)
    (F : ∀ (w : World) (mg : Str → Option Value) (fa : Addr) (h : Heap), (K w.params).In h → h.Ns mainGlobals mg → mg d.name = some (.ref fa) →
      ∃ fd : FuncData, (∀ (s : Shared) (u : Value), BindsTo s fd ⟨[u], []⟩ [(x, u)]) ∧
        ∀ base : Heap, (K w.params).In base → base.Ns mainGlobals mg → FnOk l.prog w (K w.params) mg base (CX w) k fa fd [x] (sp w))
    (hsp : ∀ (w : World) (H : Hp) (a : Addr) (ns : List Int), ns.length ≤ n → Only H → SqL (K w.params) H a (ns.map V.int) → sp w [.ref a] H (fun v _ => v = .bl true) fun _ _ _ => False)
    (hCX : ∀ (w : World) (H : Hp) (s : Shared) (e : Value) (s' : Shared), CX w [] H s (fun _ _ _ => False) e s' → False) :
    PySem.W.WalkO q loose XP YP l.row.toRowW d [] (fun f vs => PySem.call f vs) := by
  refine Att.attach_call hn hdf fun w s₀ s₁ mg mb fa o pm cd doc a vs ns G Y ho hd hcd hmg hobj hints hlen hg => ?_
  have KX := hY w _ Y
  obtain ⟨fd, hb, hF⟩ := F w mg fa _ KX G.T.g hmg
  exact law_call KX G.T.g G.T.b G.T.builtins G.T.nolimit hg hobj hints (Nat.le_trans hlen hn2) hr hF hb (fun H hO hS => hsp w H a ns hlen hO hS) fun H e s' => hCX w H s₁ e s'
end L2


/-! SHORT WORDS over the layer: a def of the text, its body, what a loop and a test want. -/
namespace L2
open PySem PySem.Spec PyProof.Rows

/-! ### the text by places -/
def defArgs (s : Stmt) : Arguments := match s with
  | .FunctionDef _ a _ _ _ _ _ _ _ _ => a
  | _ => { posonlyargs := [], args := [], vararg := none, kwonlyargs := [], kw_defaults := [], kwarg := none, defaults := [] }
def defBody (s : Stmt) : List Stmt := match s with
  | .FunctionDef _ _ b _ _ _ _ _ _ _ => b
  | _ => []
def defScope (s : Stmt) : Scope := match s with
  | .FunctionDef _ _ _ _ _ _ sc _ _ _ => sc
  | _ => { kind := .function, names := [], isGenerator := false, isCoroutine := false }

/-! ### no exception leaves a def -/
abbrev CX0 : CXT := fun _ _ _ _ _ _ => False
abbrev E0 : XK := fun _ _ _ => False
theorem pass0 {X : Cx} : Passes CX0 X E0 := fun _ _ _ _ _ _ _ h => h.elim

/-! ### a def (or method) of the text as it stands behind the top -/
structure Fun (K : PySem.W.Frag) (x qual : Str) (st : Stmt) (f : Addr) (fd : FuncData) : Prop where
  ex : ∃ (oc : Value) (od : Option Addr) (kV doc pm : Value) (an : Option Addr) (cdv ct : Value) (osl : Array (Option Value)),
    fd = PySem.W.fnOf x qual (defArgs st) (defBody st) (defScope st) .none kV doc pm an cdv ct ∧ K.lookup f = some ⟨oc, od, .func fd, osl⟩ ∧ PySem.W.codeIn K cdv qual = true
  kp : PySem.W.keepIn K (.ref f) = true
section
variable {P : Program} {w : World} {K : PySem.W.Frag} {mg : Str → Option Value} {base : Heap}
/-- THE RULE for a def: its body as a term of rules, and the reading of that term -/
theorem Fun.ok {x qual : Str} {st : Stmt} {f : Addr} {fd : FuncData} {N ps : List Str} {k : Nat} {sp : Sp} (F : Fun K x qual st f fd) (S : FnScope N ps (defScope st)) (len : ∀ vs H Q E, sp vs H Q E → vs.length = ps.length)
    (hbody : ∀ (cdv : Value) (A : Around) (outer : List Env) (s : Shared) (H : Hp) (vs : List V) (Q : VK) (E : XK), Room k (A.deeper (envOfC qual (defScope st) s.heap.objs.size f cdv)) → sp vs H Q E →
      ∃ t, PSs (cxOf CX0 P w K mg base N qual (defScope st) f cdv A outer s H E).nox (defBody st) t ∧ t { nx := fun _ H' => Q .non H', rt := Q } (start N vs) H) : FnOk P w K mg base CX0 (k + 1) f fd ps sp := by
  obtain ⟨oc, od, kV, doc, pm, an, cdv, ct, osl, rfl, lk, hcd⟩ := F.ex
  refine fn_of lk hcd S len fun A outer s H vs Q E hr hsp => ?_
  obtain ⟨t, h, q⟩ := hbody cdv A outer s H vs Q E hr hsp
  exact ⟨t, h.nox, q⟩
/-- how its arguments bind (no defaults): h is «fun _ _ _ _ _ _ us hl => match us, hl with | [_, _], _ => rfl», one _ a parameter -/
theorem Fun.binds {x qual : Str} {st : Stmt} {f : Addr} {fd : FuncData} {ps : List Str} (F : Fun K x qual st f fd)
    (h : ∀ (kV doc pm : Value) (an : Option Addr) (cdv ct : Value) (us : List Value), us.length = ps.length → bindArgs (PySem.W.fnOf x qual (defArgs st) (defBody st) (defScope st) .none kV doc pm an cdv ct) ⟨us, []⟩ = pure (ps.zip us)) : Binds K fd ps [] := by
  obtain ⟨oc, od, kV, doc, pm, an, cdv, ct, osl, rfl, lk, hcd⟩ := F.ex
  exact .all (h kV doc pm an cdv ct)
theorem fun_mk {x qual : Str} {st : Stmt} {f : Addr} {oc : Value} {od an : Option Addr} {osl : Array (Option Value)} {kV doc pm cdv ct : Value} (l : K.lookup f = some ⟨oc, od, .func (PySem.W.fnOf x qual (defArgs st) (defBody st) (defScope st) .none kV doc pm an cdv ct), osl⟩)
    (c : PySem.W.codeIn K cdv qual = true) (k : PySem.W.keepIn K (.ref f) = true) : Fun K x qual st f (PySem.W.fnOf x qual (defArgs st) (defBody st) (defScope st) .none kV doc pm an cdv ct) := ⟨⟨oc, od, kV, doc, pm, an, cdv, ct, osl, rfl, l, c⟩, k⟩
end
/-! ### expressions in short: the name that stands in the i-th slot -/
section
variable {X : Cx}
theorem pv (i : Nat) {x : Str} {pos : Pos} (hN : X.N[i]? = some x := by rfl) (hv : Vis X.env.scope x := by first | exact Or.inl rfl | exact Or.inr (Or.inl rfl) | exact Or.inr (Or.inr rfl)) (hd : (x == ("__debug__" : Str)) = false := by decide)
    (hcd : (x == ("__classdict__" : Str)) = false := by decide) : PE X (.Name x pos) (tVar i) := pe_var hN hv hd hcd
end

/-! ### tests -/
theorem iteF {A B : Prop} (h : B) : if false = true then A else B := by
  rw [if_neg Bool.false_ne_true]
  exact h
theorem iteT {A B : Prop} (h : A) : if true = true then A else B := by
  rw [if_pos rfl]
  exact h
theorem ite2 {c A B : Prop} [Decidable c] (h1 : c → A) (h2 : ¬ c → B) : if c then A else B := by
  by_cases h : c
  · rw [if_pos h]
    exact h1 h
  · rw [if_neg h]
    exact h2 h
/-! ### heaps -/
/-- all that was tracked is as it was -/
def Same (H H' : Hp) : Prop := ∀ b o, H b = some o → H' b = some o
theorem Same.refl (H : Hp) : Same H H := fun _ _ h => h
theorem Same.trans {H H1 H2 : Hp} (a : Same H H1) (b : Same H1 H2) : Same H H2 := fun c o h => b c o (a c o h)
theorem Same.free {H H' : Hp} (e : Same H H') {l : Addr} (h : H' l = Option.none) : H l = Option.none := by
  cases q : H l with
  | none => rfl
  | some o =>
    rw [e l o q] at h
    cases h
theorem Same.seq {K : PySem.W.Frag} {H H' : Hp} {a : Addr} {xs : List V} (e : Same H H') (h : SqL K H a xs) : SqL K H' a xs := by
  rcases h with (h | ⟨o, h⟩) | h
  · exact .inl (.inl (e _ _ h))
  · exact .inl (.inr ⟨o, e _ _ h⟩)
  · exact .inr h

end L2

namespace L2
open PySem PySem.Spec PyProof.Rows
/-! ### lists of pairs as tables -/
section
variable {κ : Type} [DecidableEq κ]
def valV (kvs : List (κ × V)) (k : κ) : Option V := (kvs.find? fun kv => decide (kv.1 = k)).map (·.2)
/-- in its place, or at the end -/
def putK (kvs : List (κ × V)) (k : κ) (v : V) : List (κ × V) :=
  if (kvs.any fun kv => decide (kv.1 = k)) = true then kvs.map (fun kv => if kv.1 = k then (kv.1, v) else kv) else kvs ++ [(k, v)]
def dropK (kvs : List (κ × V)) (k : κ) : List (κ × V) := kvs.filter fun kv => decide (kv.1 ≠ k)

theorem valV_pos {p : κ × V} {r : List (κ × V)} {k : κ} (e : p.1 = k) : valV (p :: r) k = some p.2 := by simp [valV, List.find?_cons, e]
theorem valV_neg {p : κ × V} {r : List (κ × V)} {k : κ} (e : ¬ p.1 = k) : valV (p :: r) k = valV r k := by simp [valV, List.find?_cons, e]
theorem valV_any (k : κ) : ∀ kvs : List (κ × V), (kvs.any fun kv => decide (kv.1 = k)) = (valV kvs k).isSome
  | [] => rfl
  | p :: r => by
    rw [List.any_cons]
    by_cases e : p.1 = k
    · simp only [valV_pos e, decide_eq_true e, Bool.true_or, Option.isSome_some]
    · rw [valV_neg e, decide_eq_false e, Bool.false_or]; exact valV_any k r
theorem RelO.isSome_eq {o : Option V} {u : Option Value} (r : RelO o u) : o.isSome = u.isSome := by
  cases o with
  | none => cases u with
    | none => rfl
    | some _ => exact (show False from r).elim
  | some _ => cases u with
    | none => exact (show False from r).elim
    | some _ => rfl
theorem RelO.getD {o : Option V} {u : Option Value} {d : V} {d' : Value} (r : RelO o u) (rd : RelV d d') : RelV (o.getD d) (u.getD d') := by
  cases o with
  | none => cases u with
    | none => exact rd
    | some _ => exact (show False from r).elim
  | some _ => cases u with
    | none => exact (show False from r).elim
    | some _ => exact r

/-- raw tables of the same keys -/
theorem KV.val {kvs : List (κ × V)} {vs : List (κ × Value)} (r : KV kvs vs) (k : κ) : RelO (valV kvs k) (valueAt vs k) := by
  unfold KV at r
  induction r with
  | nil => exact True.intro
  | @cons p q ps qs h t ih =>
    obtain ⟨h1, h2⟩ := h
    by_cases e : p.1 = k
    · have e' : q.1 = k := h1.symm.trans e
      have b : valueAt (q :: qs) k = some q.2 := by simp [valueAt, List.find?_cons, e']
      rw [valV_pos e, b]; exact h2
    · have e' : ¬ q.1 = k := fun z => e (h1.trans z)
      have b : valueAt (q :: qs) k = valueAt qs k := by simp [valueAt, List.find?_cons, e']
      rw [valV_neg e, b]; exact ih
theorem KV.any {kvs : List (κ × V)} {vs : List (κ × Value)} (r : KV kvs vs) (k : κ) : (kvs.any fun kv => decide (kv.1 = k)) = vs.any fun kv => decide (kv.1 = k) := by
  unfold KV at r
  induction r with
  | nil => rfl
  | cons h t ih => rw [List.any_cons, List.any_cons, ih, h.1]
theorem KV.repl {kvs : List (κ × V)} {vs : List (κ × Value)} (r : KV kvs vs) (k : κ) {y : V} {u : Value} (ry : RelV y u) :
    KV (kvs.map fun kv => if kv.1 = k then (kv.1, y) else kv) (vs.map fun kv => if kv.1 = k then (kv.1, u) else kv) := by
  unfold KV at r ⊢
  induction r with
  | nil => exact .nil
  | @cons p q ps qs h t ih =>
    rw [List.map_cons, List.map_cons]
    refine .cons ?_ ih
    obtain ⟨h1, h2⟩ := h
    by_cases e : p.1 = k
    · rw [if_pos e, if_pos (h1.symm.trans e)]; exact ⟨h1, ry⟩
    · rw [if_neg e, if_neg (fun z => e (h1.trans z))]; exact ⟨h1, h2⟩
theorem KV.put {kvs : List (κ × V)} {vs : List (κ × Value)} (r : KV kvs vs) (k : κ) {y : V} {u : Value} (ry : RelV y u) : KV (putK kvs k y) (stored vs k u) := by
  unfold putK stored
  rw [r.any k]
  by_cases e : (vs.any fun kv => decide (kv.1 = k)) = true
  · rw [if_pos e, if_pos e]; exact r.repl k ry
  · rw [if_neg e, if_neg e]; exact Paired.snoc r ⟨rfl, ry⟩
theorem KV.drop {kvs : List (κ × V)} {vs : List (κ × Value)} (r : KV kvs vs) (k : κ) : KV (dropK kvs k) (without vs k) := by
  unfold KV at r ⊢
  unfold dropK without
  induction r with
  | nil => exact .nil
  | @cons p q ps qs h t ih =>
    obtain ⟨h1, h2⟩ := h
    rw [List.filter_cons, List.filter_cons]
    by_cases e : p.1 = k
    · have a : ¬ decide (p.1 ≠ k) = true := by simp [e]
      have b : ¬ decide (q.1 ≠ k) = true := by simp [h1.symm.trans e]
      rw [if_neg a, if_neg b]; exact ih
    · have e' : ¬ q.1 = k := fun z => e (h1.trans z)
      have a : decide (p.1 ≠ k) = true := by simp [e]
      have b : decide (q.1 ≠ k) = true := by simp [e']
      rw [if_pos a, if_pos b]; exact .cons ⟨h1, h2⟩ ih
theorem KV.keys {kvs : List (κ × V)} {vs : List (κ × Value)} (r : KV kvs vs) : kvs.map (·.1) = vs.map (·.1) := by
  unfold KV at r
  induction r with
  | nil => rfl
  | cons h t ih => rw [List.map_cons, List.map_cons, ih, h.1]
theorem KV.length {kvs : List (κ × V)} {vs : List (κ × Value)} (r : KV kvs vs) : kvs.length = vs.length := Paired.length r
end


/-! ### a tracked dict, its keys ints and texts or tuples of these -/
/-- raw entries of a dict with tuple keys -/
abbrev KT (H : Hp) : List (List Key × V) → List (List Key × Addr × Value) → Prop := Paired fun p q => p.1 = q.1 ∧ H q.2.1 = some (.tup (p.1.map kV)) ∧ RelV p.2 q.2.2
theorem KT.val {H : Hp} {kvs : List (List Key × V)} {xs : List (List Key × Addr × Value)} (r : KT H kvs xs) (k : List Key) : RelO (valV kvs k) ((atKey xs k).map (·.2)) := by
  induction r with
  | nil => exact True.intro
  | @cons p q ps qs h t ih =>
    obtain ⟨h1, _, h2⟩ := h
    by_cases e : p.1 = k
    · have e' : q.1 = k := h1.symm.trans e
      have b : atKey (q :: qs) k = some q.2 := by simp [atKey, List.find?_cons, e']
      rw [valV_pos e, b]; exact h2
    · have e' : ¬ q.1 = k := fun z => e (h1.trans z)
      have b : atKey (q :: qs) k = atKey qs k := by simp [atKey, List.find?_cons, e']
      rw [valV_neg e, b]; exact ih
theorem KT.repl {H : Hp} {kvs : List (List Key × V)} {xs : List (List Key × Addr × Value)} (r : KT H kvs xs) (k : List Key) {y : V} {u : Value} (ry : RelV y u) :
    KT H (kvs.map fun kv => if kv.1 = k then (kv.1, y) else kv) (xs.map (putAt k u)) := by
  induction r with
  | nil => exact .nil
  | @cons p q ps qs h t ih =>
    rw [List.map_cons, List.map_cons]
    refine .cons ?_ ih
    obtain ⟨h1, h2, h3⟩ := h
    unfold putAt
    by_cases e : p.1 = k
    · rw [if_pos e, if_pos (h1.symm.trans e)]; exact ⟨h1, h2, ry⟩
    · rw [if_neg e, if_neg (fun z => e (h1.trans z))]; exact ⟨h1, h2, h3⟩
theorem KT.put {H : Hp} {kvs : List (List Key × V)} {xs : List (List Key × Addr × Value)} (r : KT H kvs xs) (k : List Key) {b : Addr} {y : V} {u : Value} (hb : H b = some (.tup (k.map kV))) (ry : RelV y u) :
    KT H (putK kvs k y) (storedH xs k b u) := by
  have e : (kvs.any fun kv => decide (kv.1 = k)) = (atKey xs k).isSome := by
    rw [valV_any, (r.val k).isSome_eq, Option.isSome_map]
  unfold putK storedH
  rw [e]
  by_cases q : (atKey xs k).isSome = true
  · rw [if_pos q, if_pos q]; exact r.repl k ry
  · rw [if_neg q, if_neg q]; exact Paired.snoc r ⟨rfl, hb, ry⟩
theorem KT.keeps {H H' : Hp} {kvs : List (List Key × V)} {xs : List (List Key × Addr × Value)} (r : KT H kvs xs) (ht : ∀ b ys, H b = some (.tup ys) → H' b = some (.tup ys)) : KT H' kvs xs :=
  Paired.mapP r fun _ _ z => ⟨z.1, ht _ _ z.2.1, z.2.2⟩

section
variable {P : Program} {w : World} {H : Hp} {h : Heap} {a : Addr}
end

/-- what the dict at a holds at the key y -/
def DGet (H : Hp) (a : Addr) (y : V) (r : Option V) : Prop :=
  (∃ kvs k, Rd H a (.dK kvs) ∧ y = kV k ∧ r = valV kvs k) ∨ ∃ kvs k b, Rd H a (.dT kvs) ∧ y = .ref b ∧ H b = some (.tup (k.map kV)) ∧ r = valV kvs k
/-- the heap behind a[y] = v -/
def DPut (H : Hp) (a : Addr) (y v : V) (H' : Hp) : Prop :=
  (∃ kvs k, H a = some (.dK kvs) ∧ y = kV k ∧ kvs.length < sizeLine ∧ H' = upd H a (.dK (putK kvs k v))) ∨
  ∃ kvs k b, H a = some (.dT kvs) ∧ y = .ref b ∧ H b = some (.tup (k.map kV)) ∧ kvs.length < sizeLine ∧ H' = upd H a (.dT (putK kvs k v))
theorem DGet.k {H : Hp} {a : Addr} {kvs : List (Key × V)} {k : Key} (e : H a = some (.dK kvs)) : DGet H a (kV k) (valV kvs k) := .inl ⟨kvs, k, .inl e, rfl, rfl⟩
theorem DGet.t {H : Hp} {a b : Addr} {kvs : List (List Key × V)} {k : List Key} (e : H a = some (.dT kvs)) (eb : H b = some (.tup (k.map kV))) : DGet H a (.ref b) (valV kvs k) := .inr ⟨kvs, k, b, .inl e, rfl, eb, rfl⟩
theorem DPut.k {H : Hp} {a : Addr} {kvs : List (Key × V)} {k : Key} {v : V} (e : H a = some (.dK kvs)) (hl : kvs.length < sizeLine) : DPut H a (kV k) v (upd H a (.dK (putK kvs k v))) := .inl ⟨kvs, k, e, rfl, hl, rfl⟩
theorem DPut.t {H : Hp} {a b : Addr} {kvs : List (List Key × V)} {k : List Key} {v : V} (e : H a = some (.dT kvs)) (eb : H b = some (.tup (k.map kV))) (hl : kvs.length < sizeLine) :
    DPut H a (.ref b) v (upd H a (.dT (putK kvs k v))) := .inr ⟨kvs, k, b, e, rfl, eb, hl, rfl⟩


section
variable {X : Cx} {pins : List (Addr × Obj)} {σ : St} {H : Hp} {s : Shared} {a : Addr} {y v : V} {u r : Value} {o : Option V} {A : Around} {E : Value → Shared → Prop}

end

section
variable {X : Cx} {pins : List (Addr × Obj)} {σ : St} {H : Hp} {s : Shared} {a : Addr} {kvs : List (Key × V)} {k : Key} {u : Value} {A : Around} {E : Value → Shared → Prop}
end


/-! ### readings and rules -/
section
variable {X : Cx} {o i e value : Expr} {pos pos' tpos : Pos} {td ty tv : TE}
end


/-! ### displays -/
section
variable {X : Cx} {pos : Pos}
end

def mergeK (kvs more : List (Key × V)) : List (Key × V) := more.foldl (fun acc kv => putK acc kv.1 kv.2) kvs
theorem KV.merge : ∀ {more : List (Key × V)} {rs : List (Key × Value)} {kvs : List (Key × V)} {vs : List (Key × Value)}, KV more rs → KV kvs vs → KV (mergeK kvs more) (merged vs rs) := by
  intro more rs kvs vs r
  unfold KV at r
  induction r generalizing kvs vs with
  | nil => intro q; exact q
  | @cons p q ps qs h t ih =>
    intro r0
    have e : KV (putK kvs p.1 p.2) (stored vs q.1 q.2) := by
      have := r0.put p.1 h.2
      rw [← h.1]; exact this
    exact ih e
/-! ### methods -/
/-- a method call o.m(e) of a built-in, with one argument: what must be seen of the text -/
structure M1 (X : Cx) (o : Expr) (m : Str) (apos : Pos) (e : Expr) (cpos : Pos) : Prop where
  base : attributeBase o m X.env (eval o X.env) = eval o X.env
  few : ((backTo cpos (starEach [e] X.env)).all (fun x => !x.1) && (backToKw cpos (keywordEach [] X.env)).all (fun x => x.1.isSome)
    && decide (([e] : List Expr).length + ([] : List Keyword).length + (if ([] : List Keyword).isEmpty then 0 else 1) < 30)) = true
  line : (apos.endLine == cpos.line) = true
  trees : backTo cpos (starEach [e] X.env) = [(false, eval e X.env)]
structure M2 (X : Cx) (o : Expr) (m : Str) (apos : Pos) (e f : Expr) (cpos : Pos) : Prop where
  base : attributeBase o m X.env (eval o X.env) = eval o X.env
  few : ((backTo cpos (starEach [e, f] X.env)).all (fun x => !x.1) && (backToKw cpos (keywordEach [] X.env)).all (fun x => x.1.isSome)
    && decide (([e, f] : List Expr).length + ([] : List Keyword).length + (if ([] : List Keyword).isEmpty then 0 else 1) < 30)) = true
  line : (apos.endLine == cpos.line) = true
  trees : backTo cpos (starEach [e, f] X.env) = [(false, eval e X.env), (false, eval f X.env)]

section
variable {X : Cx} {pins : List (Addr × Obj)} {σ : St} {H : Hp} {s : Shared} {a : Addr} {y d : V} {u r : Value} {o : Option V} {A : Around} {E : Value → Shared → Prop}
end

section
variable {X : Cx} {o e f : Expr} {apos cpos : Pos} {td ty tx : TE}
end

/-! ### dict(d): a copy -/
section
variable {X : Cx} {pins : List (Addr × Obj)} {σ : St} {H : Hp} {s : Shared} {a : Addr} {kvs : List (Key × V)} {A : Around} {E : Value → Shared → Prop}
end


section
variable {X : Cx} {pins : List (Addr × Obj)} {σ : St} {H : Hp} {s : Shared} {a : Addr} {y : V} {u : Value} {A : Around} {E : Value → Shared → Prop}
end
end L2


namespace L2
open PySem PySem.Spec PyProof.Rows
/-! ### a dict's pairs: keys that differ -/
section
variable {κ : Type} [DecidableEq κ]
end
end L2

namespace L2.Ev
open PySem PySem.Spec PyProof.Rows

/-! ### a range that goes down by ones -/
theorem rangeSize_down (a b : Int) : Builtin.Range.rangeSize a b (-1) = if b < a then a - b else 0 := by
  unfold Builtin.Range.rangeSize
  rw [if_neg (by decide)]
  by_cases h : a > b
  · rw [if_pos h, if_pos (show b < a from h)]
    have e : -(-1 : Int) = 1 := rfl
    rw [e, Int.ediv_one]
    omega
  · rw [if_neg h, if_neg (show ¬ b < a from h)]
theorem small_down {a b : Int} (ha : -(2 ^ 62) ≤ a) (ha' : a < 2 ^ 62) (hb : -(2 ^ 62) ≤ b) (hb' : b < 2 ^ 62) : Builtin.Range.small a b (-1) = true := by
  unfold Builtin.Range.small
  rw [rangeSize_down]
  simp only [Builtin.Range.rangeFitsLong, Bool.and_eq_true, Bool.or_eq_true, decide_eq_true_eq, beq_iff_eq, show ¬ ((-1 : Int) > 0) by decide, if_false]
  split <;> omega
/-- hi, hi - 1, .. (n of them) -/
def Itd (hi : Int) (n : Nat) : It := ⟨fun i _ => i < n, fun i H x H' => H' = H ∧ x = .int (hi - i), fun i _ => n ≤ i⟩
theorem turn_rangeD {P : Program} {w : World} {K : PySem.W.Frag} {tg : Expr} (it : Addr) (hi : Int) (n : Nat) : Turn P w K tg (Itd hi n) [it] it (fun i h => IsRangeIter h it (hi + (i : Nat) * (-1)) ((n : Int) - (i : Nat)) (-1)) where
  mem := by simp
  obj := fun i h st b hb => by
    have e : b = it := by simpa using hb
    subst e
    exact ⟨_, st, fun v z => by
      have z' : Data.fields _ = Data.cell v := z
      cases z'⟩
  keep := fun i h h' st k => k it (by simp) _ st
  item := by
    intro X hP hw hK hc i pins s σ H E I hf st hg
    subst hP hw hK
    obtain ⟨f0, f1, f2, f3, f4, f5⟩ := hf it (by simp)
    have W := Walks.range (prog := X.prog) (w := X.w) (I.ok.hd hc) it hi (-1) n
    refine W.item i s _ _ hg st fun v h' tk hv st' kk => ?_
    obtain ⟨t, rfl⟩ := hv
    have I1 : Inv X pins σ H { s with heap := h', toks := tk } := I.turned (fun b o hb e => kk b o (by simpa using hb) e) f0 f1 f3 f4 f5
    refine ⟨_, rfl, go_of (s := { s with heap := h', toks := tk }) (n := "range_iterator") st' rfl rfl (by decide) ⟨.int (hi - i), H, I1, ⟨t, ?_⟩, ⟨rfl, rfl⟩, st', fun b hb => (hf b hb).1⟩⟩
    have e : hi + (i : Int) * (-1) = hi - (i : Int) := by omega
    rw [e]
  done := by
    intro X hP hw hK hc i pins s σ H E I hf st hg
    subst hP hw hK
    obtain ⟨f0, f1, f2, f3, f4, f5⟩ := hf it (by simp)
    exact wpAny_pyNext_range_end (I.ok.hd hc) st (by have : n ≤ i := hg; omega) fun h' eb => ⟨rfl, I.turned (t' := s.toks) (fun b o hb e => eb b o hb e) f0 f1 f3 f4 f5⟩
  self := fun _ _ _ _ _ st h => wpAny_pyIter_rangeiter st h
section
variable {X : Cx} {tg : Expr}
theorem range_itD {pins : List (Addr × Obj)} {σ : St} {H : Hp} {s : Shared} {R : It → Hp → Prop} {E : Value → Shared → Prop} {hi lo : Int} {t u v : Tok} {tk : Nat} (I : Inv X pins σ H s) (h1 : -(2 ^ 62) ≤ hi) (h2 : hi < 2 ^ 62) (h3 : -(2 ^ 62) ≤ lo) (h4 : lo < 2 ^ 62)
    (q : R (Itd hi (hi - lo).toNat) H) : wpAny (model X.prog X.w) X.A (pyIter (.ref s.heap.objs.size)) (PIE X pins σ tg R) E { s with heap := s.heap.push { cls := .type "range", data := .fields #[.int hi t, .int lo u, .int (-1) v] }, toks := tk } := by
  refine wpAny_pyIter_range (IsRange.new ..) (small_down h1 h2 h3 h4) ?_
  have I1 : Inv X pins σ H { s with heap := s.heap.push { cls := .type "range", data := .fields #[.int hi t, .int lo u, .int (-1) v] }, toks := tk } := I.kept fun b o e => Heap.get?_push_of_some _ e
  refine ⟨(s.heap.push { cls := .type "range", data := .fields #[.int hi t, .int lo u, .int (-1) v] }).objs.size, [(s.heap.push { cls := .type "range", data := .fields #[.int hi t, .int lo u, .int (-1) v] }).objs.size], _, _, H, rfl,
    I1.kept (t' := tk) fun b o e => Heap.get?_push_of_some _ e, turn_rangeD _ hi (hi - lo).toNat, ?_, fun b hb => ?_, q⟩
  · have e1 : hi + ((0 : Nat) : Int) * (-1) = hi := by simp
    have e2 : (((hi - lo).toNat : Nat) : Int) - ((0 : Nat) : Int) = Builtin.Range.rangeSize hi lo (-1) := by rw [rangeSize_down]; split <;> omega
    show IsRangeIter _ _ (hi + ((0 : Nat) : Int) * (-1)) ((((hi - lo).toNat : Nat) : Int) - ((0 : Nat) : Int)) (-1)
    rw [e1, e2]
    exact Heap.get?_push_size _ rfl
  · have e : b = (s.heap.push { cls := .type "range", data := .fields #[.int hi t, .int lo u, .int (-1) v] }).objs.size := by simpa using hb
    subst e
    exact I1.fpOk (Nat.le_refl _) (I1.hok.fresh (Nat.le_refl _))
def iRngD (ta : TA) : TI := fun σ H R => ta σ H fun vs H1 => ∃ i j : Int, vs = [.int i, .int j, .int (-1)] ∧ (-(2 ^ 62) ≤ i ∧ i < 2 ^ 62 ∧ -(2 ^ 62) ≤ j ∧ j < 2 ^ 62) ∧ R (Itd i (i - j).toNat) H1
theorem pi_rangeD {a b c : Expr} {ta : TA} {p pos : Pos} (hg : Gl X "range") (hm : X.mg "range" = none) (ha : PA X [a, b, c] ta) (hs : starEach [a, b, c] X.env = (false, eval a X.env) :: starEach [b, c] X.env := by rfl) (hs2 : (backTo pos (starEach [b, c] X.env)).any (·.1) = false := by rfl) :
    PI X tg (.Call (.Name "range" p) [a, b, c] [] pos) (iRngD ta) := by
  intro pins s σ H R I h
  refine Call_ (ld_blt I hg hm boot_range (PyProof.Rows.callWith_type1 (thn (ha pos pins s σ H _ I h) fun us s1 ⟨vs, H1, I1, r1, q1⟩ => ?_) hs hs2))
  obtain ⟨i, j, e, ⟨q1, q2, q3, q4⟩, q⟩ := q1
  subst e
  cases r1 with
  | cons r rr =>
    cases rr with
    | cons r' rr =>
      cases rr with
      | cons r'' rr =>
        cases rr
        obtain ⟨t, rfl⟩ := r
        obtain ⟨t', rfl⟩ := r'
        obtain ⟨t'', rfl⟩ := r''
        exact call_range_3 (by decide) (range_itD I1 q1 q2 q3 q4 q) (Or.inl (PyProof.noPylong_small (by decide)))
end
theorem for_down {hi : Int} {n : Nat} {g : TG} {tb : TS} {D : Ends} {σ : St} {H : Hp} (Pv : Nat → St → Hp → Prop) (h0 : Pv 0 σ H)
    (hs : ∀ i σ H, i < n → Pv i σ H → g (.int (hi - i)) σ H fun σ2 H2 => tb { D with nx := Pv (i + 1), ct := Pv (i + 1), bk := D.nx } σ2 H2) (hd : ∀ σ H, Pv n σ H → D.nx σ H) :
    ∃ W : Nat → Nat → St → Hp → Prop, (∃ m, W 0 m σ H) ∧ ∀ i m σ H, W i m σ H →
      ((Itd hi n).stop i H ∧ D.nx σ H) ∨ ((Itd hi n).go i H ∧ ∃ N : St → Hp → Prop, (∀ σ' H', N σ' H' → ∃ m', m' < m ∧ W (i + 1) m' σ' H') ∧ ∀ x H', (Itd hi n).yld i H x H' → g x σ H' fun σ2 H2 => tb { D with nx := N, ct := N, bk := D.nx } σ2 H2) := by
  refine ⟨fun i m σ H => m = n - i ∧ i ≤ n ∧ Pv i σ H, ⟨n, by simp, Nat.zero_le _, h0⟩, ?_⟩
  rintro i m σ H ⟨rfl, hi, p⟩
  by_cases hlt : i < n
  · refine .inr ⟨hlt, Pv (i + 1), fun σ' H' p' => ⟨n - (i + 1), by omega, rfl, hlt, p'⟩, fun x H' y => ?_⟩
    obtain ⟨e, y⟩ := y
    subst e y
    exact hs i σ _ hlt p
  · have e : i = n := by omega
    subst e
    exact .inl ⟨Nat.le_refl _, hd σ H p⟩

/-! ### isinstance, of a value whose type is known -/
section
variable {X : Cx}
theorem call_isinst : CallR X (.builtin "isinstance") (fun xs H Q => ∃ x t T b, xs = [x, .ty T] ∧ TyOf X.K H x t ∧ PySem.W.kitOne X.K t (.type T) = some b ∧ Q (.bl b) H) := by
  intro pins s σ H xs us Q I r h
  obtain ⟨x, t, T, b, rfl, ty, e, q⟩ := h
  obtain ⟨u, v, rfl, r1, r2⟩ := vals2 r
  obtain rfl : v = Value.type T := r2
  exact isinst_ok I r1 ty e fun tk => ⟨.bl b, H, I.tok tk, rfl, q⟩

/-! ### sum of ints -/
theorem sum_tupG {t : Addr} {vs : List Value} {ns : List Int} {s : Shared} {prog : Program} {w : World} {A : Around} {E : Value → Shared → Prop} {Q : Value → Shared → Prop} (hh : A.handled = none) (hl : s.heap.IsTuple t vs.toArray) (hi : IntsAre vs ns)
    (h : ∀ h' tk t', (∀ b o, s.heap.get? b = some o → h'.get? b = some o) → Q (.int ns.sum t') { s with heap := h', toks := tk }) :
    wpAny (model prog w) A (call (.builtin "sum") [.ref t]) Q E s := by
  obtain ⟨xs, hx⟩ := hi.allInts.items
  have hn : numsOf vs.toArray.toList = ns := by rw [show vs.toArray.toList = vs from rfl, hi.numsOf]
  rw [hx] at hl hn
  rw [nums_intItems] at hn
  refine PySem.W.ktm_sumG hh hl fun h' tk t' hk => ?_
  have := h h' tk t' hk
  rw [preSum_eq, List.take_of_length_le (by simp), hn]
  exact this
theorem call_sumT (hc : X.calm = true) : CallR X (.builtin "sum") (fun xs H Q => ∃ (p : Addr) (ns : List Int), xs = [.ref p] ∧ SqT X.K H p (ns.map V.int) ∧ Q (.int ns.sum) H) := by
  intro pins s σ H xs us Q I r h
  obtain ⟨p, ns, rfl, hq, q⟩ := h
  obtain ⟨u, rfl, ru⟩ := vals1 r
  cases ru
  obtain ⟨its, rv, ht, _⟩ := I.tuple hq
  exact sum_tupG (I.ok.hd hc) (show s.heap.IsTuple p its.toArray from ht) (intsAre_of rv) fun h' tk t' hk => ⟨.int ns.sum, H, I.kept (t' := tk) hk, ⟨t', rfl⟩, q⟩
end

/-! ### t > u of tuples of ints -/
section
open PySem.SeqAt
open PySem.AutoSeq1 (wpAny_loadPart')
open PySem.MeetsSeq PySem.MeetsSeq2 PySem.MeetsSeq3
open HT
end
section
variable {prog : Program} {w : World} {A : Around} {E : Value → Shared → Prop} {s : Shared}
end
section
variable {X : Cx}
end

/-! ### data: ints, tuples of data -/
/-- H' has every tuple of H -/
def Tups (H H' : Hp) : Prop := ∀ p xs, H p = some (.tup xs) → H' p = some (.tup xs)
theorem Tups.refl (H : Hp) : Tups H H := fun _ _ h => h
theorem Tups.trans {H H1 H2 : Hp} (a : Tups H H1) (b : Tups H1 H2) : Tups H H2 := fun p xs h => b p xs (a p xs h)
theorem Tups.same {H H' : Hp} (a : Same H H') : Tups H H' := fun p xs h => a p _ h
class Dat (α : Type) where
  is : Hp → V → α → Prop
  mono : ∀ {H H' : Hp} {v : V} {a : α}, Tups H H' → is H v a → is H' v a
  inj : ∀ {H : Hp} {v : V} {a b : α}, is H v a → is H v b → a = b
  dep : Nat
  eqb : α → α → Bool
  eqb_iff : ∀ a b, eqb a b = true ↔ a = b
  eqAt : ∀ {X : Cx} {pins : List (Addr × Obj)} {σ : St} {H : Hp} {s : Shared} {A : Around} {v v' : V} {u u' : Value} {a b : α}, Inv X pins σ H s → A.units + dep < cLine → is H v a → is H v' b → RelV v u → RelV v' u' → SeqAt.EqAt A s u u' (eqb a b)
instance : Dat Int where
  is := fun _ v n => v = .int n
  mono := fun _ h => h
  inj := fun h h' => by rw [h] at h'; cases h'; rfl
  dep := 0
  eqb := fun a b => a == b
  eqb_iff := fun a b => by simp
  eqAt := fun I hu h h' r r' => by
    subst h h'
    obtain ⟨t, rfl⟩ := r
    obtain ⟨t', rfl⟩ := r'
    exact SeqAt.EqAt.int_int _ _ _ _
theorem Paired.get {α β : Type} {F : α → β → Prop} : ∀ {l : List α} {m : List β} (r : Paired F l m) {i : Nat} {a : α}, l[i]? = some a → ∃ b, m[i]? = some b ∧ F a b
  | _, _, .nil, _, _, e => by simp at e
  | _, _, .cons r t, 0, _, e => by simp at e; subst e; exact ⟨_, rfl, r⟩
  | _, _, .cons r t, i + 1, a, e => by
    obtain ⟨b, h1, h2⟩ := Paired.get t (i := i) (a := a) (by simpa using e)
    exact ⟨b, by simpa using h1, h2⟩
theorem Paired.injR {α β : Type} {F : α → β → Prop} (hf : ∀ a b b', F a b → F a b' → b = b') : ∀ {l : List α} {m m' : List β}, Paired F l m → Paired F l m' → m = m'
  | _, _, _, .nil, .nil => rfl
  | _, _, _, .cons r t, .cons r' t' => by rw [hf _ _ _ r r', Paired.injR hf t t']
theorem Paired.app {α β : Type} {F : α → β → Prop} : ∀ {l l' : List α} {m m' : List β}, Paired F l m → Paired F l' m' → Paired F (l ++ l') (m ++ m')
  | _, _, _, _, .nil, h => h
  | _, _, _, _, .cons r t, h => .cons r (Paired.app t h)
/-- equality of two lists, place by place -/
def eqbs {α : Type} (e : α → α → Bool) : List α → List α → Bool
  | [], [] => true
  | a :: l, b :: m => e a b && eqbs e l m
  | _, _ => false
theorem eqbs_iff {α : Type} {e : α → α → Bool} (h : ∀ a b, e a b = true ↔ a = b) : ∀ l m, eqbs e l m = true ↔ l = m
  | [], [] => by simp [eqbs]
  | [], _ :: _ => by simp [eqbs]
  | _ :: _, [] => by simp [eqbs]
  | a :: l, b :: m => by simp [eqbs, h a b, eqbs_iff h l m]
def eAt {α : Type} (e : α → α → Bool) (l m : List α) (j : Nat) : Bool := match l[j]?, m[j]? with
  | some a, some b => e a b
  | _, _ => false
theorem eqbs_all {α : Type} (e : α → α → Bool) : ∀ l m : List α, ((List.range (min l.length m.length)).all (eAt e l m) && l.length == m.length) = eqbs e l m
  | [], [] => by simp [eqbs]
  | [], _ :: _ => by simp [eqbs]
  | _ :: _, [] => by simp [eqbs]
  | a :: l, b :: m => by
    have ih := eqbs_all e l m
    show ((List.range (min (l.length + 1) (m.length + 1))).all (eAt e (a :: l) (b :: m)) && (l.length + 1 == m.length + 1)) = (e a b && eqbs e l m)
    rw [← ih, Nat.add_min_add_right, List.range_succ_eq_map, List.all_cons, List.all_map]
    have e0 : eAt e (a :: l) (b :: m) 0 = e a b := rfl
    have e1 : (eAt e (a :: l) (b :: m) ∘ Nat.succ) = eAt e l m := by funext j; rfl
    have e2 : (l.length + 1 == m.length + 1) = (l.length == m.length) := by simp
    rw [e0, e1, e2, Bool.and_assoc]
section
variable {α : Type} [D : Dat α]
/-- a list's or a tuple's items -/
abbrev Its (H : Hp) (vs : List V) (l : List α) : Prop := Paired (fun v a => D.is H v a) vs l
theorem Its.mono {H H' : Hp} {vs : List V} {l : List α} (t : Tups H H') (h : Its H vs l) : Its H' vs l := Paired.mono (fun _ _ q => D.mono t q) h
theorem Its.inj {H : Hp} {vs : List V} {l m : List α} (h : Its H vs l) (h' : Its H vs m) : l = m := Paired.injR (F := fun v a => D.is H v a) (fun _ _ _ q q' => D.inj q q') h h'
/-- the items' equality, at the objects -/
theorem its_eqAt {X : Cx} {pins : List (Addr × Obj)} {σ : St} {H : Hp} {s : Shared} {A : Around} {vs vs' : List V} {its its' : List Value} {l m : List α} (I : Inv X pins σ H s) (hu : A.units + D.dep < cLine) (h : Its H vs l) (h' : Its H vs' m) (r : Vals vs its) (r' : Vals vs' its') :
    ∀ j (h1 : j < its.toArray.size) (h2 : j < its'.toArray.size), SeqAt.EqAt A s its.toArray[j] its'.toArray[j] (eAt D.eqb l m j) := by
  intro j h1 h2
  have l1 := r.length
  have l2 := r'.length
  have k1 : j < its.length := by simpa using h1
  have k2 : j < its'.length := by simpa using h2
  have g1 : vs[j]? = some vs[j] := List.getElem?_eq_getElem (by omega)
  have g2 : vs'[j]? = some vs'[j] := List.getElem?_eq_getElem (by omega)
  obtain ⟨u, e1, ru⟩ := r.get g1
  obtain ⟨u', e2, ru'⟩ := r'.get g2
  obtain ⟨a, f1, ra⟩ := Paired.get h g1
  obtain ⟨b, f2, rb⟩ := Paired.get h' g2
  have q1 : its.toArray[j] = u := by
    have : its[j] = u := by rw [List.getElem?_eq_getElem k1] at e1; exact Option.some.inj e1
    simpa using this
  have q2 : its'.toArray[j] = u' := by
    have : its'[j] = u' := by rw [List.getElem?_eq_getElem k2] at e2; exact Option.some.inj e2
    simpa using this
  have q3 : eAt D.eqb l m j = D.eqb a b := by unfold eAt; rw [f1, f2]
  rw [q1, q2, q3]
  exact D.eqAt I hu ra rb ru ru'
instance datList : Dat (List α) where
  is := fun H v l => ∃ p vs, v = .ref p ∧ H p = some (.tup vs) ∧ Its H vs l
  mono := fun t ⟨p, vs, e, h, i⟩ => ⟨p, vs, e, t p vs h, Its.mono t i⟩
  inj := fun ⟨p, vs, e, h, i⟩ ⟨p', vs', e', h', i'⟩ => by
    subst e
    cases e'
    rw [h] at h'
    cases h'
    exact Its.inj i i'
  dep := D.dep + 1
  eqb := eqbs D.eqb
  eqb_iff := eqbs_iff D.eqb_iff
  eqAt := fun {X pins σ H s A v v' u u' l m} I hu h h' r r' => by
    obtain ⟨p, vs, rfl, h, i⟩ := h
    obtain ⟨p', vs', rfl, h', i'⟩ := h'
    cases r
    cases r'
    by_cases e : p = p'
    · subst e
      rw [h] at h'
      cases h'
      have q : l = m := Its.inj i i'
      rw [(eqbs_iff D.eqb_iff l m).mpr q]
      exact SeqAt.EqAt.same _
    · obtain ⟨its, rv, ht, _⟩ := I.tuple (SqT.of h)
      obtain ⟨its', rv', ht', _⟩ := I.tuple (SqT.of h')
      have hl : its.toArray.size = l.length := by have := rv.length; have := Paired.length i; simp; omega
      have hm : its'.toArray.size = m.length := by have := rv'.length; have := Paired.length i'; simp; omega
      have q := SeqAt.RcAt.tuples (A := A) (s := s) (e := eAt D.eqb l m) (show s.heap.IsTuple p its.toArray from ht) (show s.heap.IsTuple p' its'.toArray from ht') (by omega)
        (its_eqAt I (A := A.in1) (by show A.units + 1 + D.dep < cLine; omega) i i' rv rv')
      rw [hl, hm, eqbs_all] at q
      exact SeqAt.EqAt.of_refs e q
/-- a list object with data -/
def LstAt (H : Hp) (a : Addr) (l : List α) : Prop := ∃ vs, H a = some (.lst vs) ∧ Its H vs l
theorem LstAt.mono {H H' : Hp} {a : Addr} {l : List α} (e : Same H H') (h : LstAt H a l) : LstAt H' a l := by
  obtain ⟨vs, q, i⟩ := h
  exact ⟨vs, e _ _ q, Its.mono (Tups.same e) i⟩
end
section
variable {α β : Type} [D : Dat α] [D2 : Dat β]
instance datPair : Dat (α × β) where
  is := fun H v x => ∃ p a b, v = .ref p ∧ H p = some (.tup [a, b]) ∧ D.is H a x.1 ∧ D2.is H b x.2
  mono := fun t ⟨p, a, b, e, h, i, j⟩ => ⟨p, a, b, e, t _ _ h, D.mono t i, D2.mono t j⟩
  inj := fun ⟨p, a, b, e, h, i, j⟩ ⟨p', a', b', e', h', i', j'⟩ => by
    subst e
    cases e'
    rw [h] at h'
    cases h'
    exact Prod.ext (D.inj i i') (D2.inj j j')
  dep := max D.dep D2.dep + 1
  eqb := fun x y => D.eqb x.1 y.1 && D2.eqb x.2 y.2
  eqb_iff := fun x y => by rw [Bool.and_eq_true, D.eqb_iff, D2.eqb_iff, Prod.ext_iff]
  eqAt := fun {X pins σ H s A v v' u u' l m} I hu h h' r r' => by
    obtain ⟨p, a, b, rfl, h, i, j⟩ := h
    obtain ⟨p', a', b', rfl, h', i', j'⟩ := h'
    cases r
    cases r'
    by_cases e : p = p'
    · subst e
      rw [h] at h'
      cases h'
      rw [(D.eqb_iff _ _).mpr (D.inj i i'), (D2.eqb_iff _ _).mpr (D2.inj j j')]
      exact SeqAt.EqAt.same _
    · obtain ⟨its, rv, ht, _⟩ := I.tuple (SqT.of h)
      obtain ⟨its', rv', ht', _⟩ := I.tuple (SqT.of h')
      obtain ⟨w1, w2, rfl, r1, r2⟩ := vals2 rv
      obtain ⟨z1, z2, rfl, t1, t2⟩ := vals2 rv'
      have q := SeqAt.RcAt.tuples (A := A) (s := s) (e := fun k => if k = 0 then D.eqb l.1 m.1 else D2.eqb l.2 m.2) (show s.heap.IsTuple p _ from ht) (show s.heap.IsTuple p' _ from ht') (by omega)
        (fun k h1 h2 => by
          have hk : k = 0 ∨ k = 1 := by
            have : k < 2 := h1
            omega
          rcases hk with rfl | rfl
          · exact D.eqAt (A := A.in1) I (by show A.units + 1 + D.dep < cLine; omega) i i' r1 t1
          · exact D2.eqAt (A := A.in1) I (by show A.units + 1 + D2.dep < cLine; omega) j j' r2 t2)
      have e2 : ((List.range (min [w1, w2].toArray.size [z1, z2].toArray.size)).all (fun k => if k = 0 then D.eqb l.1 m.1 else D2.eqb l.2 m.2) && [w1, w2].toArray.size == [z1, z2].toArray.size) = (D.eqb l.1 m.1 && D2.eqb l.2 m.2) := by
        simp [List.range_succ]
      rw [e2] at q
      exact SeqAt.EqAt.of_refs e q
end

/-! ### == and != of lists of data -/
section
variable {X : Cx} {α : Type} [D : Dat α]
theorem lists_rc {pins : List (Addr × Obj)} {σ : St} {H : Hp} {s : Shared} {A : Around} {a b : Addr} {l m : List α} (I : Inv X pins σ H s) (hu : A.units + (D.dep + 1) < cLine) (ha : LstAt H a l) (hb : LstAt H b m) :
    SeqAt.RcAt A s (.ref a) (.ref b) (eqbs D.eqb l m) := by
  obtain ⟨vs, ha, i⟩ := ha
  obtain ⟨vs', hb, i'⟩ := hb
  obtain ⟨its, rv, ht, _⟩ := I.list (SqL.of ha)
  obtain ⟨its', rv', ht', _⟩ := I.list (SqL.of hb)
  have hl : its.toArray.size = l.length := by have := rv.length; have := Paired.length i; simp; omega
  have hm : its'.toArray.size = m.length := by have := rv'.length; have := Paired.length i'; simp; omega
  have all := eqbs_all D.eqb l m
  by_cases e : l.length = m.length
  · have q := SeqAt.RcAt.lists (A := A) (s := s) (e := eAt D.eqb l m) ht.isList ht'.isList (by omega) (by omega) (its_eqAt I (A := A.in1) (by show A.units + 1 + D.dep < cLine; omega) i i' rv rv')
    rw [hl] at q
    rw [e, Nat.min_self, beq_self_eq_true, Bool.and_true, ← e] at all
    rw [all] at q
    exact q
  · have q := SeqAt.RcAt.lists_lengths (A := A) (s := s) ht.isList ht'.isList (by rw [hl, hm]; simpa using e) (by omega)
    rw [show (l.length == m.length) = false by simpa using e, Bool.and_false] at all
    rw [← all]
    exact q
theorem lists_rcNe {pins : List (Addr × Obj)} {σ : St} {H : Hp} {s : Shared} {A : Around} {a b : Addr} {l m : List α} (I : Inv X pins σ H s) (hu : A.units + (D.dep + 1) < cLine) (ha : LstAt H a l) (hb : LstAt H b m) :
    SeqAt.RcNeAt A s (.ref a) (.ref b) (!eqbs D.eqb l m) := by
  obtain ⟨vs, ha, i⟩ := ha
  obtain ⟨vs', hb, i'⟩ := hb
  obtain ⟨its, rv, ht, _⟩ := I.list (SqL.of ha)
  obtain ⟨its', rv', ht', _⟩ := I.list (SqL.of hb)
  have hl : its.toArray.size = l.length := by have := rv.length; have := Paired.length i; simp; omega
  have hm : its'.toArray.size = m.length := by have := rv'.length; have := Paired.length i'; simp; omega
  have all := eqbs_all D.eqb l m
  by_cases e : l.length = m.length
  · have q := SeqAt.RcNeAt.lists (A := A) (s := s) (e := eAt D.eqb l m) ht.isList ht'.isList (by omega) (by omega) (its_eqAt I (A := A.in1) (by show A.units + 1 + D.dep < cLine; omega) i i' rv rv')
    rw [hl] at q
    rw [e, Nat.min_self, beq_self_eq_true, Bool.and_true, ← e] at all
    rw [all] at q
    exact q
  · have q := SeqAt.RcNeAt.lists_lengths (A := A) (s := s) ht.isList ht'.isList (by rw [hl, hm]; simpa using e) (by omega)
    rw [show (l.length == m.length) = false by simpa using e, Bool.and_false] at all
    rw [← all]
    exact q
def rNeL (α : Type) [Dat α] : R2 := fun x y H Q => ∃ (a b : Addr) (l m : List α), x = .ref a ∧ y = .ref b ∧ LstAt H a l ∧ LstAt H b m ∧ Q (.bl (!eqbs (Dat.eqb (α := α)) l m)) H
theorem op_neL (hu : X.A.units + (D.dep + 1) < cLine) : OpR X (compareOp .NotEq) (rNeL α) := by
  intro pins s σ H x y v u Q I rx ry h
  obtain ⟨a, b, l, m, rfl, rfl, ha, hb, q⟩ := h
  cases rx
  cases ry
  exact (lists_rcNe I hu ha hb) X.prog X.w X.xe _ ⟨.bl _, H, I, rfl, q⟩
end
end L2.Ev

namespace L2.Ev
open PySem PySem.Spec PyProof.Rows

/-! ### the cells that a comprehension's block closes over -/
def closL (cells : List (Str × Addr)) : List (Str × NameKind) → List (Str × Addr) → List (Str × Addr)
  | [], acc => acc
  | (n, k) :: r, acc => if (k == NameKind.free) = true then closL cells r ((n, (cells.lookup n).getD 0) :: acc) else closL cells r acc
theorem closureFor_is {env : Env} (names : List (Str × NameKind)) (h : ∀ x ∈ names, x.2 = .free → ∃ c, env.cells.lookup x.1 = some c) (acc : List (Str × Addr)) :
    (do
      let mut cs := acc
      for (name, kind) in names do
        if kind == .free then cs := (name, ← cellOf env name) :: cs
      return cs : Sem (List (Str × Addr))) = pure (closL env.cells names acc) := by
  induction names generalizing acc with
  | nil => simp [closL]
  | cons x r ih =>
    obtain ⟨n, k⟩ := x
    have hr : ∀ x ∈ r, x.2 = .free → ∃ c, env.cells.lookup x.1 = some c := fun x hx => h x (List.mem_cons_of_mem _ hx)
    by_cases hk : k = .free
    · subst hk
      obtain ⟨c, hc⟩ := h (n, .free) List.mem_cons_self rfl
      have ih' := ih hr ((n, c) :: acc)
      simp only [List.forIn_cons, beq_self_eq_true, if_true, cellOf, hc, closL, Option.getD_some, pure_bind] at ih' ⊢
      exact ih'
    · have hb : (k == NameKind.free) = false := by simpa using hk
      have ih' := ih hr acc
      simp only [List.forIn_cons, hb, Bool.false_eq_true, if_false, closL, pure_bind] at ih' ⊢
      exact ih'
theorem closL_some {cells : List (Str × Addr)} : ∀ {names : List (Str × NameKind)} {acc : List (Str × Addr)}, (∀ x ∈ names, x.2 = .free → ∃ c, cells.lookup x.1 = some c) → (∀ x c, acc.lookup x = some c → cells.lookup x = some c) →
    ∀ x c, (closL cells names acc).lookup x = some c → cells.lookup x = some c
  | [], acc, _, ha, x, c, e => ha x c e
  | (n, k) :: r, acc, h, ha, x, c, e => by
    have hr : ∀ x ∈ r, x.2 = .free → ∃ c, cells.lookup x.1 = some c := fun x hx => h x (List.mem_cons_of_mem _ hx)
    unfold closL at e
    by_cases hk : (k == NameKind.free) = true
    · rw [if_pos hk] at e
      refine closL_some hr (fun y d e' => ?_) x c e
      obtain ⟨c0, hc0⟩ := h (n, k) List.mem_cons_self (by simpa using hk)
      rw [List.lookup_cons] at e'
      cases hy : y == n with
      | true =>
        rw [hy] at e'
        have e1 : y = n := by simpa using hy
        subst e1
        have e2 : (cells.lookup y).getD 0 = d := by simpa using e'
        have hc1 : cells.lookup y = some c0 := hc0
        rw [hc1] at e2 ⊢
        simpa using e2
      | false => rw [hy] at e'; exact ha y d e'
    · rw [if_neg hk] at e
      exact closL_some hr ha x c e
theorem closL_has {cells : List (Str × Addr)} : ∀ {names : List (Str × NameKind)} {acc : List (Str × Addr)} {x : Str}, ((∃ c, acc.lookup x = some c) ∨ (x, NameKind.free) ∈ names) → ∃ c, (closL cells names acc).lookup x = some c
  | [], acc, x, h => by
    rcases h with h | h
    · exact h
    · simp at h
  | (n, k) :: r, acc, x, h => by
    unfold closL
    by_cases hk : (k == NameKind.free) = true
    · rw [if_pos hk]
      refine closL_has ?_
      rw [List.lookup_cons]
      cases hy : x == n with
      | true => exact .inl ⟨_, rfl⟩
      | false =>
        rcases h with h | h
        · exact .inl h
        · rcases List.mem_cons.mp h with e | h
          · injection e with e1 e2
            subst e1
            simp at hy
          · exact .inr h
    · rw [if_neg hk]
      refine closL_has ?_
      rcases h with h | h
      · exact .inl h
      · rcases List.mem_cons.mp h with e | h
        · injection e with e1 e2
          subst e2
          simp at hk
        · exact .inr h
theorem mem_of_lookup {α β : Type} [BEq α] [LawfulBEq α] : ∀ {l : List (α × β)} {x : α} {k : β}, l.lookup x = some k → (x, k) ∈ l
  | [], _, _, h => by simp at h
  | (n, j) :: r, x, k, h => by
    rw [List.lookup_cons] at h
    cases hy : x == n with
    | true =>
      rw [hy] at h
      have e1 : x = n := by simpa using hy
      have e2 : j = k := by simpa using h
      subst e1 e2
      exact List.mem_cons_self
    | false => rw [hy] at h; exact List.mem_cons_of_mem _ (mem_of_lookup h)
/-- a name of the block, as the relabelled table has it -/
theorem relabel_not_local {env : Env} : ∀ {names : List (Str × NameKind)} {x : Str} {k : NameKind}, (∀ y ∈ names, y.2 ≠ .cell) → (k = .cell ∨ k = .free) →
    (names.map fun (n, k) => if (k == NameKind.free && env.scope.kind == .function && env.kindOf n == some .cell) then (n, NameKind.cell) else (n, k)).lookup x = some k → (x, NameKind.free) ∈ names
  | [], _, _, _, _, h => by simp at h
  | (n, j) :: r, x, k, hc, hk, h => by
    have hr : ∀ y ∈ r, y.2 ≠ .cell := fun y hy => hc y (List.mem_cons_of_mem _ hy)
    have hj : j ≠ .cell := hc (n, j) List.mem_cons_self
    have h' : List.lookup x ((if (j == NameKind.free && env.scope.kind == .function && env.kindOf n == some .cell) = true then (n, NameKind.cell) else (n, j)) :: r.map fun (n, k) => if (k == NameKind.free && env.scope.kind == .function && env.kindOf n == some .cell) then (n, NameKind.cell) else (n, k)) = some k := h
    by_cases c : (j == NameKind.free && env.scope.kind == .function && env.kindOf n == some .cell) = true
    · rw [if_pos c, List.lookup_cons] at h'
      simp only [Bool.and_eq_true] at c
      have ej : j = .free := by simpa using c.1.1
      cases hy : x == n with
      | true =>
        have e1 : x = n := by simpa using hy
        subst e1 ej
        exact List.mem_cons_self
      | false => rw [hy] at h'; exact List.mem_cons_of_mem _ (relabel_not_local hr hk h')
    · rw [if_neg c, List.lookup_cons] at h'
      cases hy : x == n with
      | true =>
        rw [hy] at h'
        have e1 : x = n := by simpa using hy
        have e2 : j = k := by simpa using h'
        subst e1 e2
        rcases hk with hk | hk
        · exact absurd hk hj
        · subst hk; exact List.mem_cons_self
      | false => rw [hy] at h'; exact List.mem_cons_of_mem _ (relabel_not_local hr hk h')
theorem relabel_free {env : Env} : ∀ {names : List (Str × NameKind)} {x : Str}, names.lookup x = some .free →
    (names.map fun (n, k) => if (k == NameKind.free && env.scope.kind == .function && env.kindOf n == some .cell) then (n, NameKind.cell) else (n, k)).lookup x = some .cell ∨
    (names.map fun (n, k) => if (k == NameKind.free && env.scope.kind == .function && env.kindOf n == some .cell) then (n, NameKind.cell) else (n, k)).lookup x = some .free
  | [], _, h => by simp at h
  | (n, j) :: r, x, h => by
    have key : ∀ (z : Str × NameKind), z = (if (j == NameKind.free && env.scope.kind == .function && env.kindOf n == some .cell) = true then (n, NameKind.cell) else (n, j)) → 
      (List.lookup x (z :: r.map fun (n, k) => if (k == NameKind.free && env.scope.kind == .function && env.kindOf n == some .cell) then (n, NameKind.cell) else (n, k)) = some .cell ∨
       List.lookup x (z :: r.map fun (n, k) => if (k == NameKind.free && env.scope.kind == .function && env.kindOf n == some .cell) then (n, NameKind.cell) else (n, k)) = some .free) := by
      intro z hz
      rw [List.lookup_cons] at h
      cases hy : x == n with
      | true =>
        rw [hy] at h
        have e2 : j = .free := by simpa using h
        subst e2
        by_cases c : (NameKind.free == NameKind.free && env.scope.kind == .function && env.kindOf n == some .cell) = true
        · rw [if_pos c] at hz; subst hz; left; rw [List.lookup_cons, hy]
        · rw [if_neg c] at hz; subst hz; right; rw [List.lookup_cons, hy]
      | false =>
        rw [hy] at h
        have ih := relabel_free (env := env) h
        have hz1 : z.1 = n := by rw [hz]; split <;> rfl
        obtain ⟨z1, z2⟩ := z
        simp only at hz1
        subst hz1
        rw [List.lookup_cons, hy]
        exact ih
    exact key _ rfl

/-! ### the block's context -/
structure Bk where
  C : Addr
  s : Shared
  H : Hp
  ex : List Addr
abbrev blk (X : Cx) (N' : List Str) (scope : Scope) (b : Bk) : Cx :=
  { X with N := N', s₀ := b.s, H₀ := b.H, env := compEnvC scope (closL X.env.cells scope.names []) b.C X.env, outer := X.stack, stack := X.stack, ex := b.ex, fn := fun _ => false, pn := [], xe := fun _ _ => False }
/-- the names of the block: src tells for each of them the slot outside from which it is taken (none: the block's own) -/
structure BkScope (X : Cx) (N' : List Str) (src : List (Option Nat)) (scope : Scope) : Prop where
  kind : scope.kind = .function
  nocell : ∀ y ∈ scope.names, y.2 ≠ .cell
  names : ∀ y ∈ scope.names, y.2 = .local → scope.names.lookup y.1 = some .local
  frees : ∀ y ∈ scope.names, y.2 = .free → X.env.kindOf y.1 = some .cell ∨ X.env.kindOf y.1 = some .free
  len : src.length = N'.length
  out : ∀ i j : Nat, src[i]? = some (some j) → ∃ x : Str, N'[i]? = some x ∧ X.N[j]? = some x ∧ scope.names.lookup x = some .free
def entry (src : List (Option Nat)) (σ : St) : St := src.map fun o => o.bind fun j => (σ[j]?).bind id
/-- the tests of a comprehension -/
def PTs (X : Cx) (ifs : List Expr) (t : TT) : Prop :=
  ∀ (pins : List (Addr × Obj)) (s : Shared) (σ : St) (H : Hp) (Q : Bool → Hp → Prop), Inv X pins σ H s → t σ H Q →
    wpAny (model X.prog X.w) X.A (forIn ifs true fun c r => if r = true then do let ok ← isTrue c X.env (eval c X.env); pure (ForInStep.yield ok) else pure (ForInStep.yield r)) (TP X pins σ Q) X.xe s
def tYes : TT := fun _ H Q => Q true H
theorem pts_nil {X : Cx} : PTs X [] tYes := fun _ _ _ H _ I h => wpAny_tests_nil ⟨H, I, h⟩
theorem pts_one {X : Cx} {c : Expr} {t : TT} (h : PT X c t) : PTs X [c] t := fun pins s σ H Q I q => wpAny_tests_one (h pins s σ H Q I q)
def tComp (src : List (Option Nat)) (wi : TI) (g : Bk → TG) (tc : Bk → TT) (te : Bk → TE) : TE := fun σ H Q => wi σ H fun J H1 => ∀ (b : Bk) (D : Addr), H1 D = none →
  ∃ W : Nat → Nat → St → Hp → Prop, (∃ m, W 0 m (entry src σ) (upd H1 D (.lst []))) ∧ ∀ i m σ' H', W i m σ' H' →
    (J.stop i H' ∧ Q (.ref D) H') ∨ (J.go i H' ∧ ∃ N : St → Hp → Prop, (∀ σ'' H'', N σ'' H'' → ∃ m', m' < m ∧ W (i + 1) m' σ'' H'') ∧
      ∀ x H'', J.yld i H' x H'' → g b x σ' H'' fun σ2 H2 => tc b σ2 H2 fun ok H3 => if ok = true then te b σ2 H3 fun y H4 => ∃ ys, H4 D = some (.lst ys) ∧ ys.length < sizeLine ∧ N σ2 (upd H4 D (.lst (ys ++ [y]))) else N σ2 H3)

section
variable {prog : Program} {w : World} {A : Around} {R : Result → Shared → Prop} {s : Shared}
theorem compLoop_gen {elt target iter : Expr} {ifs : List Expr} {scope : Scope} {pos : Pos} {it acc : Value} {env : Env} (I : Nat → Shared → Prop)
    (turn : ∀ n s, I n s → wpAny (model prog w) A (pyNext it) (fun r s₁ => match r with
      | none => R (.ok .next) s₁
      | some v => wpAny (model prog w) A (letOwnedTupleGo target it v) (fun _ s₁' => wpAny (model prog w) A (assign target env v) (fun _ s₂ =>
          wpAny (model prog w) A (forIn ifs true fun c r => if r = true then do let ok ← isTrue c env (eval c env); pure (ForInStep.yield ok) else pure (ForInStep.yield r)) (fun ok s₃ =>
            if ok = true then wpAny (model prog w) A (eval elt env) (fun x s₄ =>
              wpAny (model prog w) A (call (.builtin "list.append") [acc, x]) (fun _ s₅ => ∃ m, m < n ∧ I m s₅) (fun _ _ => False) s₄) (fun _ _ => False) s₃
            else ∃ m, m < n ∧ I m s₃) (fun _ _ => False) s₂) (fun _ _ => False) s₁') (fun _ _ => False) s₁) (fun _ _ => False) s)
    (n : Nat) (h : I n s) :
    codeAny (model prog w) A (.compLoop (.ListComp elt [⟨target, iter, ifs, 0⟩] scope pos) 0 it acc env) R s := by
  refine codeAny_loop rfl I (fun n s hI => ?_) n h
  show wpAny _ A ((compTurn (.ListComp elt [⟨target, iter, ifs, 0⟩] scope pos) 0 it acc env).onRaise (fun x => do noteFrame x env; theTreesLotGoes x)) _ _ s
  refine wpAny_noted ?_
  rw [compTurn_list]
  refine wpAny_bind (wpAny_standAt (wpAny_bind (wpAny_mono (turn n s hI) (fun r s₁ h₁ => ?_) fun _ _ h' => h'.elim)))
  cases r with
  | none => exact wpAny_pure h₁
  | some v =>
    refine wpAny_bind (wpAny_mono h₁ (fun _ s₁' h₁' => ?_) fun _ _ h' => h'.elim)
    refine wpAny_bind (wpAny_mono h₁' (fun _ s₂ h₂ => wpAny_bind (wpAny_mono h₂ (fun ok s₃ h₃ => ?_) fun _ _ h' => h'.elim)) fun _ _ h' => h'.elim)
    cases ok with
    | false => exact wpAny_pure ⟨rfl, h₃⟩
    | true =>
      exact wpAny_bind (wpAny_bind (wpAny_mono h₃ (fun x s₄ h₄ => wpAny_bind (wpAny_mono h₄ (fun _ s₅ h₅ => wpAny_pure (wpAny_pure ⟨rfl, h₅⟩)) fun _ _ h' => h'.elim)) fun _ _ h' => h'.elim))
end

theorem comp_core {X : Cx} {elt tg iter : Expr} {ifs : List Expr} {scope : Scope} {pos pos' : Pos} {N' : List Str} {src : List (Option Nat)} {wi : TI} {g : Bk → TG} {tc : Bk → TT} {te : Bk → TE} (hc : X.calm = true) (hi : PI X tg iter wi) (S : BkScope X N' src scope)
    (hg : ∀ b, PG (blk X N' scope b) tg (g b)) (ht : ∀ b, PTs (blk X N' scope b) ifs (tc b)) (he : ∀ b, PE (blk X N' scope b) elt (te b)) (hs : ∀ x, foldedSetIterable iter X.env x = pure x) (use : Option (Value → Sem Unit)) (R : Value → Shared → Prop)
    {pins : List (Addr × Obj)} {s : Shared} {σ : St} {H : Hp} {Q : V → Hp → Prop} (I : Inv X pins σ H s) (h : tComp src wi g tc te σ H Q)
    (fin : ∀ (D C : Addr) (H5 : Hp) (s6 : Shared) (m : Str → Option Value), s6.heap.Ns C m → FpOk X pins H5 C → (∀ h', Heap.SameBut C s6.heap h' → Inv X pins σ H5 { s6 with heap := h' }) → Q (.ref D) H5 → compPost (model X.prog X.w) X.A X.xe use R (.ref D) C (.ok .next) s6) :
    wpAny (model X.prog X.w) X.A (comprehension (.ListComp elt [⟨tg, iter, ifs, 0⟩] scope pos) scope X.env pos' (newList []) false (eval iter X.env) use) R X.xe s := by
  have hfr : ∀ x ∈ scope.names, x.2 = .free → ∃ c, X.env.cells.lookup x.1 = some c := fun x hx hf => I.ok.has x.1 (S.frees x hx hf)
  have clS : ∀ x c, (closL X.env.cells scope.names []).lookup x = some c → X.env.cells.lookup x = some c := closL_some hfr (fun x c e => by simp at e)
  refine wpAny_comprehension_free (use := use) rfl hs (closureFor_is scope.names hfr []) S.kind S.names ?_
  refine thn (hi pins s σ H _ I h) fun v s1 h1 => thn h1 fun itv s2 h2 => ?_
  obtain ⟨it, fp, tn, J, H2, rfl, I2, T, st2, f2, h3⟩ := h2
  have hD : H2 s2.heap.objs.size = none := I2.fresh
  refine wpAny_newObj_type ?_
  have I3 : Inv X pins σ (upd H2 s2.heap.objs.size (.lst [])) { s2 with heap := s2.heap.push { cls := .type "list", data := .seq ([] : List Value).toArray } } :=
    I2.laid (t' := s2.toks) (fun b u e => Heap.get?_push_of_some _ e) (Nat.le_refl _) ⟨Nat.zero_le _, [], 0, .nil, Heap.get?_push_size _ rfl⟩
  have hfp : ∀ b ∈ fp, b < s2.heap.objs.size := fun b hb => by
    obtain ⟨o, e, _⟩ := T.obj _ _ st2 b hb
    exact Heap.lt_size e
  have st3 : tn 0 (s2.heap.push { cls := .type "list", data := .seq ([] : List Value).toArray }) := T.keep _ _ _ st2 fun b _ o e => Heap.get?_push_of_some _ e
  generalize hs3 : ({ s2 with heap := s2.heap.push { cls := .type "list", data := .seq ([] : List Value).toArray } } : Shared) = s3 at I3 ⊢
  have st3' : tn 0 s3.heap := by rw [← hs3]; exact st3
  have hsz3 : s3.heap.objs.size = s2.heap.objs.size + 1 := by rw [← hs3]; exact Heap.size_push ..
  have fp3 : ∀ b ∈ fp, (upd H2 s2.heap.objs.size (.lst [])) b = none := fun b hb => by rw [upd_ne (Nat.ne_of_lt (hfp b hb))]; exact (f2 b hb).1
  generalize hDe : s2.heap.objs.size = D at *
  generalize hH3 : upd H2 D (.lst []) = H3 at *
  refine wpAny_newFunctionEnv S.nocell (by intro y hy; simp at hy) (fun h₁ hns₁ hsb₁ => ?_) S.kind
  have old : ∀ b o, s3.heap.get? b = some o → h₁.get? b = some o := fun b o e => hsb₁.extBut b o (Nat.ne_of_lt (Heap.lt_size e)) (Heap.get?_push_of_some _ e)
  have Yok : (blk X N' scope ⟨s3.heap.objs.size, s3, H3, fp⟩).Ok := by
    refine ⟨I.ok.mod, S.kind, I.ok.glob, I.ok.blt, Nat.le_refl _, fun x y c e1 e2 => I.ok.inj x y c (clS x c e1) (clS y c e2), fun x hx => ?_, fun x c z => (by cases z), I.ok.hd, I.ok.frames, .inl rfl, fun b hb => ⟨?_, fun x c e => (f2 b hb).2.2.2.2.1 x c (clS x c e)⟩, I3.bs, ?_, fun b o e hb => ?_, fun b hb z => ?_, I3.stack, I3.stkFree⟩
    · have hx' : (x, NameKind.free) ∈ scope.names := by
        rcases hx with hx | hx
        · exact relabel_not_local (env := X.env) S.nocell (.inl rfl) hx
        · exact relabel_not_local (env := X.env) S.nocell (.inr rfl) hx
      exact closL_has (.inr hx')
    · exact Nat.ne_of_lt (Nat.lt_of_lt_of_le (hfp b hb) (by rw [hsz3]; exact Nat.le_succ _))
    · exact Nat.le_trans I.ok.bsz I3.sz
    · rcases (f2 b hb).2.2.2.1 with z | z
      · exact I.ok.noex b o e z
      · exact absurd (Nat.lt_of_lt_of_le (Heap.lt_size e) (Nat.le_trans I.ok.bsz z)) (Nat.lt_irrefl _)
    · rcases List.mem_cons.mp (I3.stkSub b z) with e | e
      · exact (f2 b hb).2.1 e
      · exact (f2 b hb).2.2.1 e
  generalize hY : blk X N' scope ⟨s3.heap.objs.size, s3, H3, fp⟩ = Y at Yok
  have I4 : Inv (blk X N' scope ⟨s3.heap.objs.size, s3, H3, fp⟩) [] (entry src σ) H3 { s3 with heap := h₁, toks := s3.toks + ([] : List (Str × Value)).length } := by
    subst hY
    refine ⟨Yok, rfl, I3.bare, Un.kept old, ⟨_, hns₁, fun i x v e1 e2 e3 => ?_⟩, fun x c e => ?_, I3.fresh, fun x c e => I3.freeC x c (clS x c e), fun p hp => by simp at hp, I3.hok.kept old, ?_⟩
    · unfold entry at e2
      rw [List.getElem?_map] at e2
      cases hsrc : src[i]? with
      | none => rw [hsrc] at e2; cases e2
      | some o =>
        rw [hsrc] at e2
        cases o with
        | none => have e2' : some (none : Option V) = some (some v) := e2; cases e2'
        | some j =>
          have e2' : some ((σ[j]?).bind id) = some (some v) := e2
          have e2'' : (σ[j]?).bind id = some v := Option.some.inj e2'
          have hσ : σ[j]? = some (some v) := by
            cases q : σ[j]? with
            | none => rw [q] at e2''; cases e2''
            | some z =>
              rw [q] at e2''
              have : z = some v := e2''
              rw [this]
          obtain ⟨x', n1, n2, n3⟩ := S.out i j hsrc
          have ex : x' = x := Option.some.inj (n1.symm.trans e1)
          subst ex
          obtain ⟨m0, _, hl⟩ := I3.loc
          have hk := S.frees (x', .free) (mem_of_lookup n3) rfl
          have hvis : Vis X.env.scope x' := hk.elim (fun z => .inr (.inl z)) fun z => .inr (.inr z)
          obtain ⟨u, r, l⟩ := hl j x' v n2 hσ hvis
          refine ⟨u, r, .inr ?_⟩
          rcases l with ⟨l1, _⟩ | ⟨_, c, l2, o, l3, l4⟩
          · rcases hk with z | z
            · rw [show X.env.kindOf x' = some .local from l1] at z; cases z
            · rw [show X.env.kindOf x' = some .local from l1] at z; cases z
          · obtain ⟨c', hc'⟩ := closL_has (cells := X.env.cells) (names := scope.names) (acc := []) (.inr (mem_of_lookup n3))
            have e4 := clS x' c' hc'
            rw [l2] at e4
            cases e4
            exact ⟨relabel_free (env := X.env) n3, c, hc', o, old _ _ l3, l4⟩
    · obtain ⟨v, o, ho, hd⟩ := I3.cell x c (clS x c e)
      exact ⟨v, o, old _ _ ho, hd⟩
    · show (entry src σ).length = N'.length
      unfold entry
      rw [List.length_map]
      exact S.len
  obtain ⟨W, ⟨m0, w0⟩, turn⟩ := h3 ⟨s3.heap.objs.size, s3, H3, fp⟩ D hD
  rw [hH3] at w0
  have loop : codeAny (model X.prog X.w) X.A (.compLoop (.ListComp elt [⟨tg, iter, ifs, 0⟩] scope pos) 0 (.ref it) (.ref D) (blk X N' scope ⟨s3.heap.objs.size, s3, H3, fp⟩).env)
      (compPost (model X.prog X.w) X.A X.xe use R (.ref D) s3.heap.objs.size) { s3 with heap := h₁, toks := s3.toks + ([] : List (Str × Value)).length } := by
    have stat : ∀ {H' : Hp}, (∀ b ∈ fp, H' b = none) → ∀ b ∈ fp, FpOk (blk X N' scope ⟨s3.heap.objs.size, s3, H3, fp⟩) [] H' b := fun hn b hb =>
      ⟨hn b hb, (I4.ok.exf b hb).1, I4.ok.exfs b hb, .inl hb, (I4.ok.exf b hb).2, fun p hp => by simp at hp⟩
    refine compLoop_gen (fun n s' => ∃ i σ' H', Inv (blk X N' scope ⟨s3.heap.objs.size, s3, H3, fp⟩) [] σ' H' s' ∧ tn i s'.heap ∧ (∀ b ∈ fp, H' b = none) ∧ W i n σ' H') ?_ m0
      ⟨0, _, H3, I4, T.keep _ _ _ st3' fun b _ o e => old b o e, fp3, w0⟩
    rintro n s5 ⟨i, σ5, H5, I5, st5, fr5, w5⟩
    rcases turn i n σ5 H5 w5 with ⟨stop, qn⟩ | ⟨go, N, hN, step⟩
    · refine thn (T.done (blk X N' scope ⟨s3.heap.objs.size, s3, H3, fp⟩) rfl rfl rfl hc i [] s5 σ5 H5 _ I5 (stat fr5) st5 stop) fun r s6 ⟨hr, I6⟩ => ?_
      subst hr
      obtain ⟨m, hn, _⟩ := I6.loc
      have hC : H5 s3.heap.objs.size = none := I6.free
      refine fin D s3.heap.objs.size H5 s6 m hn (I3.fpOk (Nat.le_refl _) hC) (fun h' sb => ?_) qn
      have nC : ∀ b o, s3.heap.get? b = some o → b ≠ s3.heap.objs.size := fun b o e => Nat.ne_of_lt (Heap.lt_size e)
      have keep : ∀ b o, b ≠ s3.heap.objs.size → s6.heap.get? b = some o → h'.get? b = some o := fun b o hb e => (sb.2 b hb).trans e
      have hok : HOk X.prog X.w H5 h' := fun b u e => (I6.hok b u e).stay (fun c v hc q => keep c v (by
        rcases hc with z | z
        · rw [z]; intro z2; rw [z2, hC] at e; cases e
        · intro z2; rw [z2, hC] at z; cases z) q) (fun _ q => q) fun _ _ q => q
      have u6 : Un (frs X.stack) fp H3 H5 s3.heap s6.heap := I6.base
      have un : Un (frs X.stack) fp H3 H5 s3.heap h' := ⟨fun b o e n hb hx => keep b o (nC b o e) (u6.keep b o e n hb hx), fun b o e n hb hx => by
          obtain ⟨sl, q⟩ := u6.slot b o e n hb hx
          exact ⟨sl, keep b _ (nC b o e) q⟩, u6.free, fun b o e hx => by
          obtain ⟨o', q⟩ := u6.there b o e hx
          exact ⟨o', keep b _ (nC b o e) q⟩, u6.tups, u6.frzs, u6.tbls⟩
      refine I3.call' (s' := { s6 with heap := h' }) (ch := fp) I6.os un hok I6.bare fun b hb => ?_
      exact ⟨(f2 b hb).2.2.2.1, (f2 b hb).2.1, (f2 b hb).2.2.2.2.1, (f2 b hb).2.2.2.2.2⟩
    · refine thn (T.item (blk X N' scope ⟨s3.heap.objs.size, s3, H3, fp⟩) rfl rfl rfl hc i [] s5 σ5 H5 _ I5 (stat fr5) st5 go) fun r s6 ⟨u, hr, h6⟩ => ?_
      subst hr
      refine thn h6 fun _ s7 ⟨x, H7, I7, r7, y7, st7, fr7⟩ => ?_
      have I7' := I7.pinned (stat fr7) (T.obj _ _ st7)
      have again : ∀ {σ9 : St} {H9 : Hp} {s9 : Shared}, Inv (blk X N' scope ⟨s3.heap.objs.size, s3, H3, fp⟩) ([] ++ pinsAt fp s7.heap) σ9 H9 s9 → N σ9 H9 → ∃ m, m < n ∧ ∃ i σ' H', Inv (blk X N' scope ⟨s3.heap.objs.size, s3, H3, fp⟩) [] σ' H' s9 ∧ tn i s9.heap ∧ (∀ b ∈ fp, H' b = none) ∧ W i m σ' H' := fun {σ9 H9 s9} I9 n9 => by
        obtain ⟨m', hm, w9⟩ := hN σ9 H9 n9
        refine ⟨m', hm, i + 1, σ9, H9, I9.unpinned, T.keep _ _ _ st7 fun b hb o e => (I9.pin (b, o) (List.mem_append_right _ (List.mem_append_right _ (mem_pinsAt hb e)))).1, fun b hb => ?_, w9⟩
        obtain ⟨o, e, d⟩ := T.obj _ _ st7 b hb
        exact (I9.pin (b, o) (List.mem_append_right _ (List.mem_append_right _ (mem_pinsAt hb e)))).2.1
      refine thn (hg _ _ s7 σ5 H7 x u _ I7' r7 (step x H7 y7)) fun _ s8 ⟨σ8, H8, I8, q8⟩ => ?_
      refine thn (ht _ _ s8 σ8 H8 _ I8 q8) fun ok s9 ⟨H9, I9, q9⟩ => ?_
      cases ok with
      | false => exact again I9 q9
      | true =>
        refine thn (he _ _ s9 σ8 H9 _ I9 q9) fun yv s10 ⟨y, H10, I10, r10, ys, e10, l10, n10⟩ => ?_
        refine thn (mt_append _ s10 σ8 H10 (.ref D) [y] (.ref D) [yv] (fun _ H11 => N σ8 H11) I10 rfl (.cons r10 .nil) ⟨D, ys, y, rfl, rfl, e10, l10, n10⟩) fun _ s11 ⟨_, H11, I11, _, n11⟩ => again I11 n11
  have self := T.self X.A 0 { s3 with heap := h₁, toks := s3.toks + ([] : List (Str × Value)).length } (fun it' s' => codeAny (model X.prog X.w) X.A (.compLoop (.ListComp elt [⟨tg, iter, ifs, 0⟩] scope pos) 0 it' (.ref D) (blk X N' scope ⟨s3.heap.objs.size, s3, H3, fp⟩).env)
      (compPost (model X.prog X.w) X.A X.xe use R (.ref D) s3.heap.objs.size) s') (notedBy (model X.prog X.w) X.A (blk X N' scope ⟨s3.heap.objs.size, s3, H3, fp⟩).env fun x s' => compPost (model X.prog X.w) X.A X.xe use R (.ref D) s3.heap.objs.size (.error x) s')
      (T.keep _ _ _ st3' fun b _ o e => old b o e) loop
  exact codeAny_compStart_list loop self
theorem pe_comp {X : Cx} {elt tg iter : Expr} {ifs : List Expr} {scope : Scope} {pos : Pos} {N' : List Str} {src : List (Option Nat)} {wi : TI} {g : Bk → TG} {tc : Bk → TT} {te : Bk → TE} (hc : X.calm = true) (hi : PI X tg iter wi) (S : BkScope X N' src scope)
    (hg : ∀ b, PG (blk X N' scope b) tg (g b)) (ht : ∀ b, PTs (blk X N' scope b) ifs (tc b)) (he : ∀ b, PE (blk X N' scope b) elt (te b)) (hs : ∀ x, foldedSetIterable iter X.env x = pure x := by intro _; rfl) :
    PE X (.ListComp elt [⟨tg, iter, ifs, 0⟩] scope pos) (tComp src wi g tc te) := by
  intro pins s σ H Q I h
  rw [eval_ListComp]
  exact comp_core hc hi S hg ht he hs none (EP X pins σ Q) I h fun D C H5 s6 m hn _ k q => ⟨m, hn, fun h' sb => ⟨.ref D, H5, k h' sb, rfl, q⟩⟩
/-- x = [..] of a plain local name: the name is stored before the block's names go -/
theorem ps_comp {X : Cx} {elt tg iter : Expr} {ifs : List Expr} {scope : Scope} {pos spos py : Pos} {N' : List Str} {src : List (Option Nat)} {wi : TI} {g : Bk → TG} {tc : Bk → TT} {te : Bk → TE} {i : Nat} {y : Str} (hN : X.N.Nodup) (hy : X.N[i]? = some y) (hx : Loc X.env.scope y)
    (hw : swapsWith (.ListComp elt [⟨tg, iter, ifs, 0⟩] scope pos) (some (.Name y py)) spos.line X.env = pure true) (hc : X.calm = true) (hi : PI X tg iter wi) (S : BkScope X N' src scope)
    (hg : ∀ b, PG (blk X N' scope b) tg (g b)) (ht : ∀ b, PTs (blk X N' scope b) ifs (tc b)) (he : ∀ b, PE (blk X N' scope b) elt (te b)) (hs : ∀ x, foldedSetIterable iter X.env x = pure x := by intro _; rfl)
    (hf : X.fn y = true ∨ X.env.scope.names.lookup y = some .local := by first | exact .inl rfl | exact .inr rfl | assumption) :
    PS X (.Assign [.Name y py] (.ListComp elt [⟨tg, iter, ifs, 0⟩] scope pos) spos) (tAsg (tComp src wi g tc te) (gName i)) := by
  intro pins s σ H D I h
  rw [exec_Assign_Name_used _ _ _ _ hw]
  refine wpAny_bind (wpAny_standAt (wpAny_bind ?_))
  show wpAny _ X.A (do let _ ← comprehension (.ListComp elt [⟨tg, iter, ifs, 0⟩] scope pos) scope X.env _ (newList []) false (eval iter X.env) (some (assign (.Name y py) X.env))) _ _ s
  refine wpAny_bind (wpAny_mono (comp_core hc hi S hg ht he hs (some (assign (.Name y py) X.env)) (fun _ s' => SP X pins D .next s') I h ?_) (fun _ s' hq => wpAny_pure (wpAny_pure hq)) fun _ _ e => e)
  intro L C H5 s6 m hn fp k q
  show wpAny _ X.A (assign (.Name y py) X.env (.ref L)) _ _ _
  have I6 : Inv X pins σ H5 s6 := k s6.heap ⟨rfl, fun _ _ => rfl⟩
  refine wpAny_assign_Name (store_ok2 I6 hN hy hx (v := .ref L) rfl (fun s7 I7 ⟨a, sb, ha⟩ => ?_) hf)
  have hCa : C ≠ a := by
    rcases ha with rfl | ha
    · exact fp.2.1
    · exact fun z => fp.2.2.2.2.1 _ _ ha z.symm
  refine ⟨m, hn.sameBut sb hCa, fun h' sb' => ⟨_, H5, ?_, q⟩⟩
  have keep : ∀ b o, b ≠ C → s7.heap.get? b = some o → h'.get? b = some o := fun b o hb e => (sb'.2 b hb).trans e
  have hok : HOk X.prog X.w H5 h' := fun b u e => (I7.hok b u e).stay (fun c v hc' q' => keep c v (by
    rcases hc' with z | z
    · rw [z]; intro z2; rw [z2, fp.1] at e; cases e
    · intro z2; rw [z2, fp.1] at z; cases z) q') (fun _ q' => q') fun _ _ q' => q'
  refine I7.call' (s' := { s7 with heap := h' }) (ch := [C]) rfl ⟨fun b o e n hb hx' => keep b o (fun z => hx' (by rw [z]; exact List.mem_cons_self ..)) e, fun b o e n hb hx' => ⟨o.slots, keep b o (fun z => hx' (by rw [z]; exact List.mem_cons_self ..)) e⟩, fun b o e n hx' => n, fun b o e hx' => ⟨o, keep b o (fun z => hx' (by rw [z]; exact List.mem_cons_self ..)) e⟩, fun _ _ e => e, fun _ _ _ e => e, fun _ ps e => ⟨#[], by rw [Array.append_empty]; exact e⟩⟩ hok I7.bare fun b hb => ?_
  rw [List.mem_singleton.mp hb]
  exact ⟨fp.2.2.2.1, fp.2.1, fp.2.2.2.2.1, fp.2.2.2.2.2⟩
end L2.Ev

namespace L2.Ev
open PySem PySem.Spec PyProof.Rows

/-! ### a comprehension that makes data, read -/
theorem comp_read {α : Type} [Dat α] {J : It} {n : Nat} {σ0 : St} {H1 : Hp} {D : Addr} {Q : V → Hp → Prop} {g : TG} {tc : TT} {te : TE} (hD : H1 D = none) (Sp : St → Prop) (out : Nat → Option α) (hn : n ≤ sizeLine) (h0 : Sp σ0)
    (hstop : ∀ H', Same H1 H' → J.stop n H') (hgo : ∀ i H', i < n → Same H1 H' → J.go i H')
    (hturn : ∀ (i : Nat) (σ' : St) (H' : Hp) (Yes : V → St → Hp → Prop) (No : St → Hp → Prop), i < n → Sp σ' → Same H1 H' → (∀ y σ2 H4 a, Sp σ2 → Same H' H4 → out i = some a → Dat.is H4 y a → Yes y σ2 H4) → (∀ σ2 H3, Sp σ2 → Same H' H3 → out i = none → No σ2 H3) →
      ∀ x H'', J.yld i H' x H'' → g x σ' H'' fun σ2 H2 => tc σ2 H2 fun ok H3 => if ok = true then te σ2 H3 fun y H4 => Yes y σ2 H4 else No σ2 H3)
    (hend : ∀ H', Same H1 H' → LstAt H' D ((List.range n).filterMap out) → Q (.ref D) H') :
    ∃ W : Nat → Nat → St → Hp → Prop, (∃ m, W 0 m σ0 (upd H1 D (.lst []))) ∧ ∀ i m σ' H', W i m σ' H' →
    (J.stop i H' ∧ Q (.ref D) H') ∨ (J.go i H' ∧ ∃ N : St → Hp → Prop, (∀ σ'' H'', N σ'' H'' → ∃ m', m' < m ∧ W (i + 1) m' σ'' H'') ∧
      ∀ x H'', J.yld i H' x H'' → g x σ' H'' fun σ2 H2 => tc σ2 H2 fun ok H3 => if ok = true then te σ2 H3 fun y H4 => ∃ ys, H4 D = some (.lst ys) ∧ ys.length < sizeLine ∧ N σ2 (upd H4 D (.lst (ys ++ [y]))) else N σ2 H3) := by
  have s1 : ∀ {H' : Hp} (o : HO), Same H1 H' → Same H1 (upd H' D o) := fun o e b u q => by rw [upd_ne (ne_of_none q hD)]; exact e b u q
  refine ⟨fun i m σ' H' => m = n - i ∧ i ≤ n ∧ Sp σ' ∧ Same H1 H' ∧ LstAt H' D ((List.range i).filterMap out), ⟨n, by simp, Nat.zero_le _, h0, s1 _ (Same.refl _), [], upd_same, .nil⟩, ?_⟩
  rintro i m σ' H' ⟨rfl, hi, hS, hH, hL⟩
  by_cases hlt : i < n
  · refine .inr ⟨hgo i H' hlt hH, fun σ2 H2 => Sp σ2 ∧ Same H1 H2 ∧ LstAt H2 D ((List.range (i + 1)).filterMap out), fun σ2 H2 ⟨a, b, c⟩ => ⟨n - (i + 1), by omega, rfl, hlt, a, b, c⟩, ?_⟩
    obtain ⟨vs, eD, iD⟩ := hL
    have lv : vs.length ≤ i := by
      have := Paired.length iD
      have := List.length_filterMap_le out (List.range i)
      rw [List.length_range] at this
      omega
    refine hturn i σ' H' (fun y σ2 H4 => ∃ ys, H4 D = some (.lst ys) ∧ ys.length < sizeLine ∧ (fun σ2 H2 => Sp σ2 ∧ Same H1 H2 ∧ LstAt H2 D ((List.range (i + 1)).filterMap out)) σ2 (upd H4 D (.lst (ys ++ [y])))) _ hlt hS hH (fun y σ2 H4 a a1 a2 a3 a4 => ?_) (fun σ2 H3 a1 a2 a3 => ?_)
    · have e4 := a2 _ _ eD
      have t4 : Tups H4 (upd H4 D (.lst (vs ++ [y]))) := fun p ys q => by rw [upd_ne (ne_of q e4 (by intro z; cases z))]; exact q
      refine ⟨vs, e4, by omega, a1, s1 _ (hH.trans a2), vs ++ [y], upd_same, ?_⟩
      rw [List.range_succ, List.filterMap_append, List.filterMap_cons, a3]
      exact Paired.snoc (Its.mono ((Tups.same a2).trans t4) iD) (Dat.mono t4 a4)
    · refine ⟨a1, hH.trans a2, vs, a2 _ _ eD, ?_⟩
      rw [List.range_succ, List.filterMap_append, List.filterMap_cons, a3]
      simpa using Its.mono (Tups.same a2) iD
  · have e : i = n := by omega
    subst e
    exact .inl ⟨hstop H' hH, hend H' hH hL⟩

/-! ### sequences of two kinds, walked side by side -/
inductive SK
  | lst
  | tup
def SK.iter : SK → Heap → Addr → Addr → Nat → Prop
  | .lst, h, i, l, k => h.IsListIter i l k
  | .tup, h, i, l, k => h.IsTupleIter i l k
def SK.seq : SK → Heap → Addr → Array Value → Prop
  | .lst, h, l, xs => h.IsList l xs
  | .tup, h, l, xs => h.IsTuple l xs
def SK.ob : SK → Addr → Obj
  | .lst, l => { cls := .type "list_iterator", data := .fields #[.ref l, .int 0 0] }
  | .tup, l => { cls := .type "tuple_iterator", data := .fields #[.ref l, .int 0 0] }
def SK.is (K : PySem.W.Frag) (H : Hp) (l : Addr) (xs : List V) : SK → Prop
  | .lst => SqL K H l xs
  | .tup => SqT K H l xs
theorem SK.iter_keep {k : SK} {h h' : Heap} {i l : Addr} {n : Nat} (x : k.iter h i l n) (e : ∀ o, h.get? i = some o → h'.get? i = some o) : k.iter h' i l n := by
  cases k with
  | lst => obtain ⟨o, a, b⟩ := x; exact ⟨o, e o a, b⟩
  | tup => obtain ⟨o, a, b⟩ := x; exact ⟨o, e o a, b⟩
theorem SK.seq_keep {k : SK} {h h' : Heap} {l : Addr} {xs : Array Value} (x : k.seq h l xs) (e : ∀ o, h.get? l = some o → h'.get? l = some o) : k.seq h' l xs := by
  cases k with
  | lst => obtain ⟨o, a, b⟩ := x; exact ⟨o, e o a, b⟩
  | tup => obtain ⟨o, a, b⟩ := x; exact ⟨o, e o a, b⟩
theorem SK.iter_lt {k : SK} {h : Heap} {i l : Addr} {n : Nat} (x : k.iter h i l n) : i < h.objs.size := by
  cases k with
  | lst => obtain ⟨o, a, _⟩ := x; exact Heap.lt_size a
  | tup => obtain ⟨o, a, _⟩ := x; exact Heap.lt_size a
theorem SK.iter_new {k : SK} {h : Heap} {i l : Addr} (e : h.get? i = some (k.ob l)) : k.iter h i l 0 := by
  cases k with
  | lst => exact ⟨_, e, rfl, rfl⟩
  | tup => exact ⟨_, e, rfl, rfl⟩
theorem SK.at {X : Cx} {pins : List (Addr × Obj)} {σ : St} {H : Hp} {s : Shared} {l : Addr} {xs : List V} {k : SK} (I : Inv X pins σ H s) (h : k.is X.K H l xs) : ∃ its : List Value, Vals xs its ∧ k.seq s.heap l its.toArray := by
  cases k with
  | lst => obtain ⟨its, r, p, _⟩ := I.list h; exact ⟨its, r, p.isList⟩
  | tup => obtain ⟨its, r, p, _⟩ := I.tuple h; exact ⟨its, r, p⟩
theorem SK.inj {X : Cx} {pins : List (Addr × Obj)} {σ : St} {H : Hp} {s : Shared} {l : Addr} {xs ys : List V} {k : SK} (I : Inv X pins σ H s) (h : k.is X.K H l xs) (h' : k.is X.K H l ys) : xs = ys := by
  cases k with
  | lst => exact I.list_inj h h'
  | tup => exact I.tuple_inj h h'
section
variable {prog : Program} {w : World} {A : Around} {E : Value → Shared → Prop} {s : Shared}
theorem tup_next {it t : Addr} {i : Nat} {items : Array Value} {x : Value} {Q : Value → Shared → Prop} (hit : s.heap.IsTupleIter it t i) (ht : s.heap.IsTuple t items) (hx : items[i]? = some x)
    (hQ : ∀ h', h'.IsTupleIter it t (i + 1) → Heap.SameBut it s.heap h' → Q x { s with heap := h' }) : wpAny (model prog w) A (Builtin.SmallTypes.nextOf (.ref it)) Q E s := by
  obtain ⟨ob, hob, hcl, hdt⟩ := id hit
  obtain ⟨o2, ho2, _, n2, hd2⟩ := ht
  unfold Builtin.SmallTypes.nextOf
  refine wpAny_bind (wpAny_callSpecial?_slot (name := Str.ofString "__next__") hit.typeIs F.slot_tuple_iterator_next (wpAny_call_entry F.slot_tuple_iterator_next hit.typeIs F.entry_tuple_iterator_next ?_ (F.args_tuple_iterator_next_1 _)))
  show wpAny _ _ (field (.ref it) 0 >>= fun _ => _) _ _ s
  refine wpAny_bind (wpAny_field hob hdt (x := Value.ref t) rfl ?_)
  show wpAny _ _ (if (Value.ref t == Value.none) = true then _ else (_ : Sem _)) _ _ s
  rw [if_neg (show ¬ (Value.ref t == Value.none) = true from fun z => Bool.false_ne_true z)]
  show wpAny _ _ (field (.ref it) 1 >>= fun _ => _) _ _ s
  refine wpAny_bind (wpAny_field hob hdt (x := Value.int i 0) rfl ?_)
  show wpAny _ _ (seqItems? (.ref t) >>= fun _ => _) _ _ s
  refine wpAny_bind (wpAny_seqItems ho2 hd2 ?_)
  simp only [Int.toNat_natCast, hx]
  refine wpAny_bind (wpAny_setField hob hdt (by simp) (wpAny_pure ⟨x, rfl, wpAny_pure (hQ _ ⟨_, Heap.get?_update_self _ hob (Obj.isFreed_of_fields (Obj.data_mapFields hdt _)), (Obj.cls_mapFields ..).trans hcl, ?_⟩ (Heap.SameBut.update ..))⟩))
  rw [Obj.data_mapFields hdt]
  simp [rawInt]
theorem tup_stop {it t : Addr} {i : Nat} {items : Array Value} {Q : Value → Shared → Prop} (hh : A.handled = none) (hit : s.heap.IsTupleIter it t i) (ht : s.heap.IsTuple t items) (hx : items[i]? = none)
    (hE : ∀ h' e, Heap.ExtBut it s.heap h' → (∃ o, h'.get? e = some o ∧ o.cls = .type "StopIteration") → E (.ref e) { s with heap := h' }) : wpAny (model prog w) A (Builtin.SmallTypes.nextOf (.ref it)) Q E s := by
  obtain ⟨ob, hob, hcl, hdt⟩ := id hit
  obtain ⟨o2, ho2, _, n2, hd2⟩ := ht
  unfold Builtin.SmallTypes.nextOf
  refine wpAny_bind (wpAny_callSpecial?_slot (name := Str.ofString "__next__") hit.typeIs F.slot_tuple_iterator_next (wpAny_call_entry F.slot_tuple_iterator_next hit.typeIs F.entry_tuple_iterator_next ?_ (F.args_tuple_iterator_next_1 _)))
  show wpAny _ _ (field (.ref it) 0 >>= fun _ => _) _ _ s
  refine wpAny_bind (wpAny_field hob hdt (x := Value.ref t) rfl ?_)
  show wpAny _ _ (if (Value.ref t == Value.none) = true then _ else (_ : Sem _)) _ _ s
  rw [if_neg (show ¬ (Value.ref t == Value.none) = true from fun z => Bool.false_ne_true z)]
  show wpAny _ _ (field (.ref it) 1 >>= fun _ => _) _ _ s
  refine wpAny_bind (wpAny_field hob hdt (x := Value.int i 0) rfl ?_)
  show wpAny _ _ (seqItems? (.ref t) >>= fun _ => _) _ _ s
  refine wpAny_bind (wpAny_seqItems ho2 hd2 ?_)
  simp only [Int.toNat_natCast, hx]
  refine wpAny_bind (wpAny_rule (wpAny_bind (wpAny_setField hob hdt (by simp) ?_)))
  show wpAny _ _ (newExc (.type "StopIteration") [] >>= fun _ => _) _ _ _
  refine wpAny_bind ?_
  simp only [newExc, newTuple]
  refine wpAny_bind (wpAny_newObj_type ?_ (by size_fits))
  refine wpAny_bind (m := firstArgMember _ _) (wpAny_of_eq (a := Value.none) (by first | rfl | (simp only [firstArgMember]; rfl)) (wpAny_newObj_type ?_ (by size_fits)))
  simp only [raiseNew]
  refine wpAny_bind (wpAny_handled ?_)
  first | rw [show A.in1.handled = none from hh] | rw [hh]
  refine wpAny_bind (wpAny_pure (wpAny_throw (hE _ _ (((Heap.SameBut.update ..).extBut.push _).push _) ⟨_, Heap.get?_push_size _ rfl, rfl⟩)))
theorem SK.next {k : SK} {it l : Addr} {i : Nat} {items : Array Value} {x : Value} {Q : Value → Shared → Prop} (hit : k.iter s.heap it l i) (hl : k.seq s.heap l items) (hx : items[i]? = some x)
    (hQ : ∀ h', k.iter h' it l (i + 1) → Heap.SameBut it s.heap h' → Q x { s with heap := h' }) : wpAny (model prog w) A (Builtin.SmallTypes.nextOf (.ref it)) Q E s := by
  cases k with
  | lst => exact wpAny_nextOf_list_item hit hl hx hQ
  | tup => exact tup_next hit hl hx hQ
theorem SK.stop {k : SK} {it l : Addr} {i : Nat} {items : Array Value} {Q : Value → Shared → Prop} (hh : A.handled = none) (hit : k.iter s.heap it l i) (hl : k.seq s.heap l items) (hx : items[i]? = none)
    (hE : ∀ h' e, Heap.ExtBut it s.heap h' → (∃ o, h'.get? e = some o ∧ o.cls = .type "StopIteration") → E (.ref e) { s with heap := h' }) : wpAny (model prog w) A (Builtin.SmallTypes.nextOf (.ref it)) Q E s := by
  cases k with
  | lst => exact wpAny_nextOf_list_end hh hit hl hx hE
  | tup => exact tup_stop hh hit hl hx hE
/-- the addresses of a zip: apart from one another -/
structure ZAp (z TI TO i1 i2 : Addr) : Prop where
  a1 : TI ≠ z
  a2 : TO ≠ z
  a3 : i1 ≠ z
  a4 : i2 ≠ z
  a5 : TI ≠ TO
  a6 : TI ≠ i1
  a7 : TI ≠ i2
  a8 : TO ≠ i1
  a9 : TO ≠ i2
  b1 : i1 ≠ i2
/-- a zip between two turns: its records, the places i and i -/
structure ZSt (k1 k2 : SK) (z TI TO i1 i2 l1 l2 : Addr) (i : Nat) (h : Heap) : Prop where
  hz : IsZip h z TI TO .none
  hTI : IsPair h TI (.ref i1) (.ref i2)
  hTO : ∃ a b, IsPair h TO a b
  h1 : k1.iter h i1 l1 i
  h2 : k2.iter h i2 l2 i
theorem z_item {k1 k2 : SK} {z TI TO i1 i2 l1 l2 : Addr} {i : Nat} {xs ys : Array Value} {x y : Value} {Q : Option Value → Shared → Prop} (D : ZAp z TI TO i1 i2) (Z : ZSt k1 k2 z TI TO i1 i2 l1 l2 i s.heap) (hl1 : k1.seq s.heap l1 xs) (hl2 : k2.seq s.heap l2 ys)
    (n1 : l1 ≠ z ∧ l1 ≠ i1) (n2 : l2 ≠ z ∧ l2 ≠ i1 ∧ l2 ≠ TO) (hx : xs[i]? = some x) (hy : ys[i]? = some y)
    (hQ : ∀ h', IsZip h' z TI TO (rawInt s.heap.objs.size) → IsPair h' TI (.ref i1) (.ref i2) → IsPair h' TO x y → k1.iter h' i1 l1 (i + 1) → k2.iter h' i2 l2 (i + 1) → IsPair h' s.heap.objs.size x y →
      (∀ c o, c ≠ z → c ≠ TO → c ≠ i1 → c ≠ i2 → s.heap.get? c = some o → h'.get? c = some o) → Q (some (.ref s.heap.objs.size)) { s with heap := h' }) : wpAny (model prog w) A (pyNext (.ref z)) Q E s := by
  obtain ⟨hz, hTI, ⟨a, b, hTO⟩, h1, h2⟩ := Z
  have hT : s.TypeIs (.ref z) "zip" := ⟨_, hz, rfl⟩
  unfold pyNext
  refine wpAny_bind (wpAny_attempt (wpAny_callSpecial?_slot (name := Str.ofString "__next__") hT F.slot_zip_next (wpAny_call_entry F.slot_zip_next hT F.entry_zip_next ?_ (F.args_zip_next_1 _))))
  show wpAny _ _ (field (.ref z) 2 >>= fun _ => _) _ _ _
  refine wpAny_bind (wpAny_field hz rfl (x := Value.bool false) rfl ?_)
  show wpAny _ _ (field (.ref z) 3 >>= fun _ => _) _ _ _
  refine wpAny_bind (wpAny_field hz rfl (x := Value.ref TI) rfl (wpAny_bind (wpAny_seqItems hTI rfl ?_)))
  show wpAny _ _ (Builtin.SmallTypes.ownedTupleIsFree (.ref z) >>= fun _ => _) _ _ _
  refine wpAny_bind ?_
  unfold Builtin.SmallTypes.ownedTupleIsFree
  refine wpAny_bind (wpAny_field hz rfl (x := Value.none) rfl (wpAny_pure ?_))
  simp only [if_true]
  refine wpAny_bind (wpAny_rule (wpAny_bind (wpAny_field hz rfl (x := Value.ref TO) rfl (wpAny_bind (wpAny_setField_rec hz (by simp) fun h₁ hz₁ hs₁ => ?_)))))
  have z1 : IsZip h₁ z TI TO .ellipsis := hz₁
  refine wpAny_bind ?_
  simp only [List.zipIdx_cons, List.zipIdx_nil, List.forIn_cons, List.forIn_nil]
  refine wpAny_bind (wpAny_bind (wpAny_onRaise ?_))
  show wpAny _ _ (Builtin.SmallTypes.nextOf (.ref i1) >>= fun _ => _) _ _ _
  refine wpAny_bind (SK.next (SK.iter_keep h1 fun o e => hs₁.extBut _ _ D.a3 e) (SK.seq_keep hl1 fun o e => hs₁.extBut _ _ n1.1 e) hx fun h₂ p₂ hs₂ => wpAny_pure ?_)
  have t2 : IsPair h₂ TO a b := hs₂.extBut _ _ D.a8 (hs₁.extBut _ _ D.a2 hTO)
  refine wpAny_bind (wpAny_seqItems t2 rfl (wpAny_bind (wpAny_updateSeq_pair t2 fun h₃ q₃ hs₃ => ?_)))
  have t3 : IsPair h₃ TO x b := q₃
  refine wpAny_bind (wpAny_letGo (wpAny_pure (wpAny_bind (wpAny_bind (wpAny_onRaise ?_)))))
  show wpAny _ _ (Builtin.SmallTypes.nextOf (.ref i2) >>= fun _ => _) _ _ _
  refine wpAny_bind (SK.next (SK.iter_keep h2 fun o e => hs₃.extBut _ _ D.a9.symm (hs₂.extBut _ _ D.b1.symm (hs₁.extBut _ _ D.a4 e))) (SK.seq_keep hl2 fun o e => hs₃.extBut _ _ n2.2.2 (hs₂.extBut _ _ n2.2.1 (hs₁.extBut _ _ n2.1 e))) hy fun h₄ p₄ hs₄ => wpAny_pure ?_)
  have t4 : IsPair h₄ TO x b := hs₄.extBut _ _ D.a9 t3
  refine wpAny_bind (wpAny_seqItems t4 rfl (wpAny_bind (wpAny_updateSeq_pair t4 fun h₅ q₅ hs₅ => ?_)))
  have t5 : IsPair h₅ TO x y := q₅
  refine wpAny_bind (wpAny_letGo (wpAny_pure (wpAny_pure (wpAny_bind (wpAny_seqItems t5 rfl (wpAny_bind (wpAny_newTuple ?_)))))))
  have sz : h₅.objs.size = s.heap.objs.size := by rw [hs₅.1, hs₄.1, hs₃.1, hs₂.1, hs₁.1]
  have z5 : IsZip h₅ z TI TO .ellipsis := hs₅.extBut _ _ D.a2.symm (hs₄.extBut _ _ D.a4.symm (hs₃.extBut _ _ D.a2.symm (hs₂.extBut _ _ D.a3.symm z1)))
  have k5 : ∀ c o, c ≠ z → c ≠ TO → c ≠ i1 → c ≠ i2 → s.heap.get? c = some o → h₅.get? c = some o := fun c o c1 c2 c3 c4 e => hs₅.extBut _ _ c2 (hs₄.extBut _ _ c4 (hs₃.extBut _ _ c2 (hs₂.extBut _ _ c3 (hs₁.extBut _ _ c1 e))))
  have r1 : k1.iter h₅ i1 l1 (i + 1) := SK.iter_keep p₂ fun o e => hs₅.extBut _ _ D.a8.symm (hs₄.extBut _ _ D.b1 (hs₃.extBut _ _ D.a8.symm e))
  have r2 : k2.iter h₅ i2 l2 (i + 1) := SK.iter_keep p₄ fun o e => hs₅.extBut _ _ D.a9.symm e
  show wpAny _ _ (Builtin.SmallTypes.ownedTupleHandOut (.ref z) (.ref h₅.objs.size) >>= fun _ => _) _ _ _
  refine wpAny_bind ?_
  unfold Builtin.SmallTypes.ownedTupleHandOut
  have z6 : IsZip (h₅.push { cls := .type "tuple", data := .seq #[x, y] }) z TI TO .ellipsis := Heap.get?_push_of_some _ z5
  refine wpAny_bind (wpAny_setField_rec z6 (by simp) fun h₇ q₇ hs₇ => ?_)
  have z7 : IsZip h₇ z TI TO (rawInt h₅.objs.size) := q₇
  refine wpAny_setField_rec z7 (by simp) fun h₈ q₈ hs₈ => ?_
  have z8 : IsZip h₈ z TI TO (rawInt h₅.objs.size) := q₈
  have zlt : z < h₅.objs.size := Heap.lt_size z5
  have up : ∀ c o, c ≠ z → h₅.get? c = some o → h₈.get? c = some o := fun c o c1 e => hs₈.extBut _ _ c1 (hs₇.extBut _ _ c1 (Heap.get?_push_of_some _ e))
  have t8 : IsPair h₈ h₅.objs.size x y := hs₈.extBut _ _ (Nat.ne_of_gt zlt) (hs₇.extBut _ _ (Nat.ne_of_gt zlt) (Heap.get?_push_size _ rfl))
  rw [sz] at z8 t8
  refine wpAny_pure ⟨_, rfl, ?_⟩
  show wpAny _ _ _ _ _ _
  refine wpAny_pure ?_
  have fin := hQ h₈ z8 (up _ _ D.a1 (k5 _ _ D.a1 D.a5 D.a6 D.a7 hTI)) (up _ _ D.a2 t5) (SK.iter_keep r1 fun o e => up _ o D.a3 e) (SK.iter_keep r2 fun o e => up _ o D.a4 e) t8 fun c o c1 c2 c3 c4 e => up c o c1 (k5 c o c1 c2 c3 c4 e)
  show Q (some (.ref h₅.objs.size)) _
  rw [sz]
  exact fin
theorem z_end {k1 k2 : SK} {z TI TO i1 i2 l1 l2 : Addr} {i : Nat} {xs ys : Array Value} {Q : Option Value → Shared → Prop} (hh : A.handled = none) (D : ZAp z TI TO i1 i2) (Z : ZSt k1 k2 z TI TO i1 i2 l1 l2 i s.heap) (hl1 : k1.seq s.heap l1 xs) (hl2 : k2.seq s.heap l2 ys)
    (n1 : l1 ≠ z ∧ l1 ≠ i1) (n2 : l2 ≠ z ∧ l2 ≠ i1 ∧ l2 ≠ TO) (hend : xs[i]? = none ∨ ys[i]? = none)
    (hQ : ∀ h', (∀ c o, c ≠ z → c ≠ TO → c ≠ i1 → c ≠ i2 → s.heap.get? c = some o → h'.get? c = some o) → Q none { s with heap := h' }) : wpAny (model prog w) A (pyNext (.ref z)) Q E s := by
  obtain ⟨hz, hTI, ⟨a, b, hTO⟩, h1, h2⟩ := Z
  have hT : s.TypeIs (.ref z) "zip" := ⟨_, hz, rfl⟩
  have stop : ∀ (h' : Heap) (e : Addr), (∃ o, h'.get? e = some o ∧ o.cls = .type "StopIteration") → (∀ c o, c ≠ z → c ≠ TO → c ≠ i1 → c ≠ i2 → s.heap.get? c = some o → h'.get? c = some o) →
      wpAny (model prog w) A (isInstance (.ref e) (.type "StopIteration") >>= fun b => if b = true then pure none else throw (.ref e)) Q E { s with heap := h' } := by
    rintro h' e ⟨o, ho, hc⟩ hk
    exact wpAny_bind (wpAny_isInstance (T := "StopIteration") (b := true) ⟨o, ho, hc⟩ isSubtype_stop (wpAny_pure (hQ _ hk)))
  unfold pyNext
  refine wpAny_bind (wpAny_attempt (wpAny_callSpecial?_slot (name := Str.ofString "__next__") hT F.slot_zip_next (wpAny_call_entry F.slot_zip_next hT F.entry_zip_next ?_ (F.args_zip_next_1 _))))
  show wpAny _ _ (field (.ref z) 2 >>= fun _ => _) _ _ _
  refine wpAny_bind (wpAny_field hz rfl (x := Value.bool false) rfl ?_)
  show wpAny _ _ (field (.ref z) 3 >>= fun _ => _) _ _ _
  refine wpAny_bind (wpAny_field hz rfl (x := Value.ref TI) rfl (wpAny_bind (wpAny_seqItems hTI rfl ?_)))
  show wpAny _ _ (Builtin.SmallTypes.ownedTupleIsFree (.ref z) >>= fun _ => _) _ _ _
  refine wpAny_bind ?_
  unfold Builtin.SmallTypes.ownedTupleIsFree
  refine wpAny_bind (wpAny_field hz rfl (x := Value.none) rfl (wpAny_pure ?_))
  simp only [if_true]
  refine wpAny_bind (wpAny_rule (wpAny_bind (wpAny_field hz rfl (x := Value.ref TO) rfl (wpAny_bind (wpAny_setField_rec hz (by simp) fun h₁ hz₁ hs₁ => ?_)))))
  have z1 : IsZip h₁ z TI TO .ellipsis := hz₁
  refine wpAny_bind ?_
  simp only [List.zipIdx_cons, List.zipIdx_nil, List.forIn_cons, List.forIn_nil]
  refine wpAny_bind (wpAny_bind (wpAny_onRaise ?_))
  show wpAny _ _ (Builtin.SmallTypes.nextOf (.ref i1) >>= fun _ => _) _ _ _
  cases hx : xs[i]? with
  | none =>
    refine wpAny_bind (SK.stop hh (SK.iter_keep h1 fun o e => hs₁.extBut _ _ D.a3 e) (SK.seq_keep hl1 fun o e => hs₁.extBut _ _ n1.1 e) hx fun h₂ e hs₂ he => ?_)
    obtain ⟨oe, hoe, hce⟩ := he
    have z2 : IsZip h₂ z TI TO .ellipsis := hs₂ _ _ D.a3.symm z1
    have ez : e ≠ z := fun q => by subst q; rw [z2] at hoe; cases hoe; simp at hce
    refine wpAny_setField_rec z2 (by simp) fun h₃ _ hs₃ => ?_
    exact stop h₃ e ⟨oe, hs₃.extBut _ _ ez hoe, hce⟩ fun c o c1 _ c3 _ q => hs₃.extBut _ _ c1 (hs₂ _ _ c3 (hs₁.extBut _ _ c1 q))
  | some x =>
    have hy : ys[i]? = none := by
      rcases hend with h | h
      · rw [hx] at h; cases h
      · exact h
    refine wpAny_bind (SK.next (SK.iter_keep h1 fun o e => hs₁.extBut _ _ D.a3 e) (SK.seq_keep hl1 fun o e => hs₁.extBut _ _ n1.1 e) hx fun h₂ p₂ hs₂ => wpAny_pure ?_)
    have t2 : IsPair h₂ TO a b := hs₂.extBut _ _ D.a8 (hs₁.extBut _ _ D.a2 hTO)
    refine wpAny_bind (wpAny_seqItems t2 rfl (wpAny_bind (wpAny_updateSeq_pair t2 fun h₃ q₃ hs₃ => ?_)))
    refine wpAny_bind (wpAny_letGo (wpAny_pure (wpAny_bind (wpAny_bind (wpAny_onRaise ?_)))))
    show wpAny _ _ (Builtin.SmallTypes.nextOf (.ref i2) >>= fun _ => _) _ _ _
    refine wpAny_bind (SK.stop hh (SK.iter_keep h2 fun o e => hs₃.extBut _ _ D.a9.symm (hs₂.extBut _ _ D.b1.symm (hs₁.extBut _ _ D.a4 e))) (SK.seq_keep hl2 fun o e => hs₃.extBut _ _ n2.2.2 (hs₂.extBut _ _ n2.2.1 (hs₁.extBut _ _ n2.1 e))) hy fun h₄ e hs₄ he => ?_)
    obtain ⟨oe, hoe, hce⟩ := he
    have z4 : IsZip h₄ z TI TO .ellipsis := hs₄ _ _ D.a4.symm (hs₃.extBut _ _ D.a2.symm (hs₂.extBut _ _ D.a3.symm z1))
    have ez : e ≠ z := fun q => by subst q; rw [z4] at hoe; cases hoe; simp at hce
    refine wpAny_setField_rec z4 (by simp) fun h₅ _ hs₅ => ?_
    exact stop h₅ e ⟨oe, hs₅.extBut _ _ ez hoe, hce⟩ fun c o c1 c2 c3 c4 q => hs₅.extBut _ _ c1 (hs₄ _ _ c4 (hs₃.extBut _ _ c2 (hs₂.extBut _ _ c3 (hs₁.extBut _ _ c1 q))))
end
end L2.Ev
namespace L2.Ev
open PySem PySem.Spec PyProof.Rows
abbrev zh1 (k1 : SK) (h : Heap) (l1 : Addr) : Heap := h.push (k1.ob l1)
abbrev zh2 (k1 k2 : SK) (h : Heap) (l1 l2 : Addr) : Heap := (zh1 k1 h l1).push (k2.ob l2)
abbrev zh3 (k1 k2 : SK) (h : Heap) (l1 l2 : Addr) : Heap := (zh2 k1 k2 h l1 l2).push { cls := .type "tuple", data := .seq #[.ref h.objs.size, .ref (zh1 k1 h l1).objs.size] }
abbrev zh4 (k1 k2 : SK) (h : Heap) (l1 l2 : Addr) : Heap := (zh3 k1 k2 h l1 l2).push { cls := .type "tuple", data := .seq #[.none, .none] }
abbrev zh5 (k1 k2 : SK) (h : Heap) (l1 l2 : Addr) : Heap := (zh4 k1 k2 h l1 l2).push { cls := .type "zip", data := .fields #[.none, .bool false, .bool false, .ref (zh2 k1 k2 h l1 l2).objs.size, .ref (zh3 k1 k2 h l1 l2).objs.size] }
theorem SK.seq_push {k : SK} {h : Heap} {l : Addr} {xs : Array Value} (x : k.seq h l xs) (o : Obj) : k.seq (h.push o) l xs := SK.seq_keep x fun _ e => Heap.get?_push_of_some _ e
set_option maxHeartbeats 8000000 in
theorem z_new (k1 k2 : SK) (l1 l2 : Addr) (xs ys : Array Value) :
    Meets (Builtin.«zip.__new__» ⟨[.type "zip", .ref l1, .ref l2], []⟩) (fun _ R s => k1.seq s.heap l1 xs ∧ k2.seq s.heap l2 ys ∧ R (.ok (.ret (.ref (zh4 k1 k2 s.heap l1 l2).objs.size))) { s with heap := zh5 k1 k2 s.heap l1 l2 }) :=
  .of_wp fun prog w A R s h => by
    obtain ⟨hp, g, d, tk, os⟩ := s
    obtain ⟨hl1, hl2, h⟩ := h
    have hsub := sub_zip
    have q1 : k1.seq (Shared.heap ⟨hp, g, d, tk, os⟩) l1 xs := hl1
    have q2 : k2.seq (Shared.heap ⟨hp.push (k1.ob l1), g, d, tk, os⟩) l2 ys := SK.seq_push hl2 _
    cases k1 with
    | lst =>
      cases k2 with
      | lst =>
        have w1 : Heap.IsList (Shared.heap ⟨hp, g, d, tk, os⟩) l1 xs := q1
        have w2 : Heap.IsList (Shared.heap ⟨hp.push { cls := .type "list_iterator", data := .fields #[.ref l1, .int 0 0] }, g, d, tk, os⟩) l2 ys := q2
        wp_walk using wpAny_pyIter_list w1, wpAny_pyIter_list w2
        exact ⟨_, rfl, h⟩
      | tup =>
        have w1 : Heap.IsList (Shared.heap ⟨hp, g, d, tk, os⟩) l1 xs := q1
        have w2 : Heap.IsTuple (Shared.heap ⟨hp.push { cls := .type "list_iterator", data := .fields #[.ref l1, .int 0 0] }, g, d, tk, os⟩) l2 ys := q2
        wp_walk using wpAny_pyIter_list w1, wpAny_pyIter_tuple w2
        exact ⟨_, rfl, h⟩
    | tup =>
      cases k2 with
      | lst =>
        have w1 : Heap.IsTuple (Shared.heap ⟨hp, g, d, tk, os⟩) l1 xs := q1
        have w2 : Heap.IsList (Shared.heap ⟨hp.push { cls := .type "tuple_iterator", data := .fields #[.ref l1, .int 0 0] }, g, d, tk, os⟩) l2 ys := q2
        wp_walk using wpAny_pyIter_tuple w1, wpAny_pyIter_list w2
        exact ⟨_, rfl, h⟩
      | tup =>
        have w1 : Heap.IsTuple (Shared.heap ⟨hp, g, d, tk, os⟩) l1 xs := q1
        have w2 : Heap.IsTuple (Shared.heap ⟨hp.push { cls := .type "tuple_iterator", data := .fields #[.ref l1, .int 0 0] }, g, d, tk, os⟩) l2 ys := q2
        wp_walk using wpAny_pyIter_tuple w1, wpAny_pyIter_tuple w2
        exact ⟨_, rfl, h⟩
theorem zap_new (n : Nat) : ZAp (n + 4) (n + 2) (n + 3) n (n + 1) := by
  constructor <;> (show (_ : Nat) ≠ _) <;> omega
theorem z_call {k1 k2 : SK} {l1 l2 : Addr} {xs ys : Array Value} {Q : Value → Shared → Prop} {prog : Program} {w : World} {A : Around} {E : Value → Shared → Prop} {s : Shared} (hl1 : k1.seq s.heap l1 xs) (hl2 : k2.seq s.heap l2 ys)
    (h : ∀ h', ZSt k1 k2 (s.heap.objs.size + 4) (s.heap.objs.size + 2) (s.heap.objs.size + 3) s.heap.objs.size (s.heap.objs.size + 1) l1 l2 0 h' → (∀ c o, s.heap.get? c = some o → h'.get? c = some o) → Q (.ref (s.heap.objs.size + 4)) { s with heap := h' }) :
    wpAny (model prog w) A (call (.type "zip") [.ref l1, .ref l2]) Q E s := by
  refine callType_new F.called_zip (by decide) (F.typeCall_zip_2 _ _) (F.newCall_zip_2 _ _) (fun obj => F.args_object_init_3 obj _ _) F.entry_zip_new (z_new k1 k2 l1 l2 xs ys) ⟨hl1, hl2, ?_⟩
  have e1 : (zh1 k1 s.heap l1).objs.size = s.heap.objs.size + 1 := Heap.size_push ..
  have e2 : (zh2 k1 k2 s.heap l1 l2).objs.size = s.heap.objs.size + 2 := by rw [Heap.size_push, e1]
  have e3 : (zh3 k1 k2 s.heap l1 l2).objs.size = s.heap.objs.size + 3 := by rw [Heap.size_push, e2]
  have e4 : (zh4 k1 k2 s.heap l1 l2).objs.size = s.heap.objs.size + 4 := by rw [Heap.size_push, e3]
  have g5 : (zh5 k1 k2 s.heap l1 l2).get? (zh4 k1 k2 s.heap l1 l2).objs.size = some _ := Heap.get?_push_size _ rfl
  have g4 : (zh5 k1 k2 s.heap l1 l2).get? (zh3 k1 k2 s.heap l1 l2).objs.size = some _ := Heap.get?_push_of_some _ (Heap.get?_push_size _ rfl)
  have g3 : (zh5 k1 k2 s.heap l1 l2).get? (zh2 k1 k2 s.heap l1 l2).objs.size = some _ := Heap.get?_push_of_some _ (Heap.get?_push_of_some _ (Heap.get?_push_size _ rfl))
  have f2 : (k2.ob l2).isFreed = false := by cases k2 <;> rfl
  have f1 : (k1.ob l1).isFreed = false := by cases k1 <;> rfl
  have g2 : (zh5 k1 k2 s.heap l1 l2).get? (zh1 k1 s.heap l1).objs.size = some (k2.ob l2) := Heap.get?_push_of_some _ (Heap.get?_push_of_some _ (Heap.get?_push_of_some _ (Heap.get?_push_size _ f2)))
  have g1 : (zh5 k1 k2 s.heap l1 l2).get? s.heap.objs.size = some (k1.ob l1) := Heap.get?_push_of_some _ (Heap.get?_push_of_some _ (Heap.get?_push_of_some _ (Heap.get?_push_of_some _ (Heap.get?_push_size _ f1))))
  have fin := h (zh5 k1 k2 s.heap l1 l2) ⟨by rw [e2, e3, e4] at g5; exact g5, by rw [e1, e2] at g3; exact g3, ⟨_, _, by rw [e3] at g4; exact g4⟩, SK.iter_new g1, SK.iter_new (by rw [e1] at g2; exact g2)⟩
    fun c o e => Heap.get?_push_of_some _ (Heap.get?_push_of_some _ (Heap.get?_push_of_some _ (Heap.get?_push_of_some _ (Heap.get?_push_of_some _ e))))
  rw [← e4] at fin
  exact ⟨⟨_, g5, rfl⟩, fin⟩
def Itz (K : PySem.W.Frag) (k1 k2 : SK) (a b : Addr) : It :=
  ⟨fun i H => ∃ xs ys x y, k1.is K H a xs ∧ k2.is K H b ys ∧ xs[i]? = some x ∧ ys[i]? = some y,
   fun i H v H' => ∃ p x y, v = .ref p ∧ H p = none ∧ H' = upd H p (.tup [x, y]) ∧ (∀ xs, k1.is K H a xs → xs[i]? = some x) ∧ ∀ ys, k2.is K H b ys → ys[i]? = some y,
   fun i H => ∃ xs ys, k1.is K H a xs ∧ k2.is K H b ys ∧ (xs.length ≤ i ∨ ys.length ≤ i)⟩
theorem sq_ne {X : Cx} {pins : List (Addr × Obj)} {σ : St} {H : Hp} {s : Shared} {a c : Addr} {xs : List V} {k : SK} (I : Inv X pins σ H s) (h : k.is X.K H a xs) (f : FpOk X pins H c) : a ≠ c := by
  intro e
  subst e
  have known : ∀ o, X.K.lookup a = some o → False := fun o q => by
    have e := I.ok.mod.kin a o q
    rcases f.2.2.2.1 with z | z
    · exact I.ok.noex a o e z
    · exact absurd (Nat.lt_of_lt_of_le (Heap.lt_size e) (Nat.le_trans I.ok.bsz z)) (Nat.lt_irrefl _)
  cases k with
  | lst =>
    rcases h with (h | ⟨o, h⟩) | ⟨o, _, _, q, _⟩
    · rw [f.1] at h; cases h
    · rw [f.1] at h; cases h
    · exact known o q
  | tup =>
    rcases h with (h | ⟨o, h⟩) | ⟨o, _, _, q, _⟩
    · rw [f.1] at h; cases h
    · rw [f.1] at h; cases h
    · exact known o q
/-- untracked records of ours have turned; perhaps a new thing is laid and tracked -/
theorem turnedL {X : Cx} {pins : List (Addr × Obj)} {σ : St} {H H' : Hp} {s : Shared} {h' : Heap} {t' : Nat} {ch : List Addr} (I : Inv X pins σ H s) (hf : ∀ b ∈ ch, FpOk X pins H b) (k : ∀ b o, b ∉ ch → s.heap.get? b = some o → h'.get? b = some o)
    (new : ∀ b, b < s.heap.objs.size → H' b = H b) (hok : HOk X.prog X.w H' h') : Inv X pins σ H' { s with heap := h', toks := t' } := by
  have lt : ∀ {b u}, H b = some u → b < s.heap.objs.size := fun e => I.hok.lt e
  refine I.step (g' := s.gens) (d' := s.drawn) (ch := ch) (fun b hb => ⟨(hf b hb).2.2.2.1, (hf b hb).2.1, (hf b hb).2.2.2.2.1, (hf b hb).2.2.2.2.2⟩) (fun b o _ _ hc e _ => k b o hc e) (fun b o _ _ hc e _ => ⟨o.slots, k b o hc e⟩) (fun b o _ e n => by rw [new b (Heap.lt_size e)]; exact n)
    (fun b o hc e => ⟨o, k b o hc e⟩) (fun b xs e => by rw [new b (lt e)]; exact e) (fun b o u e => by rw [new b (lt e)]; exact e) (fun b ps e => ⟨#[], by rw [new b (lt e), e]; simp⟩) (fun m hm => ?_) hok I.bare
  obtain ⟨o, es, ep, ho, r⟩ := hm
  exact ⟨o, es, ep, k _ o (fun z => (hf _ z).2.1 rfl) ho, r⟩
theorem turn_zip {P : Program} {w : World} {K : PySem.W.Frag} {elts : List Expr} {x1} {pos : Pos} (k1 k2 : SK) (a b z TI TO i1 i2 : Addr) (D : ZAp z TI TO i1 i2) :
    Turn P w K (.Tuple elts x1 pos) (Itz K k1 k2 a b) [z, TI, TO, i1, i2] z (fun i h => ZSt k1 k2 z TI TO i1 i2 a b i h) where
  mem := by simp
  obj := fun i h st c hc => by
    obtain ⟨hz, hTI, ⟨u, v, hTO⟩, h1, h2⟩ := st
    have it : ∀ {k : SK} {i l : Addr} {n : Nat}, k.iter h i l n → ∃ o, h.get? i = some o ∧ ∀ v, o.data ≠ .cell v := fun {k i l n} x => by
      cases k with
      | lst => obtain ⟨o, e, _, d⟩ := x; exact ⟨o, e, fun v q => by rw [d] at q; cases q⟩
      | tup => obtain ⟨o, e, _, d⟩ := x; exact ⟨o, e, fun v q => by rw [d] at q; cases q⟩
    simp only [List.mem_cons, List.not_mem_nil, or_false] at hc
    rcases hc with rfl | rfl | rfl | rfl | rfl
    · exact ⟨_, hz, fun v q => by cases (show Data.fields _ = Data.cell v from q)⟩
    · exact ⟨_, hTI, fun v q => by cases (show Data.seq _ _ = Data.cell v from q)⟩
    · exact ⟨_, hTO, fun v q => by cases (show Data.seq _ _ = Data.cell v from q)⟩
    · exact it h1
    · exact it h2
  keep := fun i h h' st k => by
    obtain ⟨hz, hTI, ⟨u, v, hTO⟩, h1, h2⟩ := st
    exact ⟨k z (by simp) _ hz, k TI (by simp) _ hTI, ⟨u, v, k TO (by simp) _ hTO⟩, SK.iter_keep h1 fun o e => k i1 (by simp) o e, SK.iter_keep h2 fun o e => k i2 (by simp) o e⟩
  item := by
    intro X hP hw hK hc i pins s σ H E I hf st hg
    subst hP hw hK
    obtain ⟨xs, ys, x, y, q1, q2, hx, hy⟩ := hg
    obtain ⟨its, r1, p1⟩ := SK.at I q1
    obtain ⟨its', r2, p2⟩ := SK.at I q2
    obtain ⟨u, hu, ru⟩ := r1.get hx
    obtain ⟨v, hv, rv⟩ := r2.get hy
    have fz := hf z (by simp)
    have fTO := hf TO (by simp)
    have f1 := hf i1 (by simp)
    have f2 := hf i2 (by simp)
    refine z_item D st p1 p2 ⟨sq_ne I q1 fz, sq_ne I q1 f1⟩ ⟨sq_ne I q2 fz, sq_ne I q2 f1, sq_ne I q2 fTO⟩ (x := u) (y := v) (by simpa using hu) (by simpa using hv) fun h' a1 a2 a3 a4 a5 a6 a7 => ?_
    refine ⟨_, rfl, wpAny_letOwnedTupleGo_zip (s := { s with heap := h' }) a1 fun h'' b1 b2 => ?_⟩
    have kp : ∀ c o, c ∉ [z, TO, i1, i2] → s.heap.get? c = some o → h''.get? c = some o := fun c o hc e => by
      simp only [List.mem_cons, List.not_mem_nil, or_false, not_or] at hc
      exact b2.extBut _ _ hc.1 (a7 c o hc.1 hc.2.1 hc.2.2.1 hc.2.2.2 e)
    have zlt : z < s.heap.objs.size := Heap.lt_size st.hz
    have hT : IsPair h'' s.heap.objs.size u v := b2.extBut _ _ (Nat.ne_of_gt zlt) a6
    have hf4 : ∀ c ∈ [z, TO, i1, i2], FpOk X pins H c := fun c hc => by
      simp only [List.mem_cons, List.not_mem_nil, or_false] at hc
      rcases hc with rfl | rfl | rfl | rfl
      · exact fz
      · exact fTO
      · exact f1
      · exact f2
    have hn : H s.heap.objs.size = none := I.fresh
    have hok : HOk X.prog X.w (upd H s.heap.objs.size (.tup [x, y])) h'' := fun c o e => by
      by_cases hc : c = s.heap.objs.size
      · subst hc
        rw [upd_same] at e
        cases e
        exact ⟨by show 2 ≤ sizeLine; decide, [u, v], .cons ru (.cons rv .nil), ⟨_, hT, rfl, _, rfl⟩⟩
      · rw [upd_ne hc] at e
        refine (I.hok c o e).stay (fun d v2 hd q => kp d v2 (fun m => ?_) q) (fun d q => by rw [upd_ne (ne_of_none q hn)]; exact q) fun d xs q => by rw [upd_ne (ne_of_none q hn)]; exact q
        have z := (hf4 d m).1
        rcases hd with rfl | hd
        · rw [e] at z; cases z
        · rw [hd] at z; cases z
    have I9 : Inv X pins σ (upd H s.heap.objs.size (.tup [x, y])) { s with heap := h'', toks := s.toks } := turnedL (s := s) I hf4 kp (fun c hc => upd_ne (Nat.ne_of_lt hc)) hok
    refine ⟨.ref s.heap.objs.size, upd H s.heap.objs.size (.tup [x, y]), I9, rfl, ⟨s.heap.objs.size, x, y, rfl, hn, rfl, fun zs hz => by rw [SK.inj I hz q1]; exact hx, fun zs hz => by rw [SK.inj I hz q2]; exact hy⟩, ?_, fun c hc => ?_⟩
    · exact ⟨b1, b2.extBut _ _ D.a1 a2, ⟨u, v, b2.extBut _ _ D.a2 a3⟩, SK.iter_keep a4 fun o e => b2.extBut _ _ D.a3 e, SK.iter_keep a5 fun o e => b2.extBut _ _ D.a4 e⟩
    · obtain ⟨o, e⟩ : ∃ o, s.heap.get? c = some o := by
        obtain ⟨hz, hTI, ⟨u, v, hTO⟩, h1, h2⟩ := st
        simp only [List.mem_cons, List.not_mem_nil, or_false] at hc
        rcases hc with rfl | rfl | rfl | rfl | rfl
        · exact ⟨_, hz⟩
        · exact ⟨_, hTI⟩
        · exact ⟨_, hTO⟩
        · cases k1 with
          | lst => obtain ⟨o, e, _⟩ := h1; exact ⟨o, e⟩
          | tup => obtain ⟨o, e, _⟩ := h1; exact ⟨o, e⟩
        · cases k2 with
          | lst => obtain ⟨o, e, _⟩ := h2; exact ⟨o, e⟩
          | tup => obtain ⟨o, e, _⟩ := h2; exact ⟨o, e⟩
      rw [upd_ne (Nat.ne_of_lt (Heap.lt_size e))]
      exact (hf c hc).1
  done := by
    intro X hP hw hK hc i pins s σ H E I hf st hg
    subst hP hw hK
    obtain ⟨xs, ys, q1, q2, hx⟩ := hg
    obtain ⟨its, r1, p1⟩ := SK.at I q1
    obtain ⟨its', r2, p2⟩ := SK.at I q2
    have fz := hf z (by simp)
    have fTO := hf TO (by simp)
    have f1 := hf i1 (by simp)
    have f2 := hf i2 (by simp)
    have l1 := r1.length
    have l2 := r2.length
    refine z_end (I.ok.hd hc) D st p1 p2 ⟨sq_ne I q1 fz, sq_ne I q1 f1⟩ ⟨sq_ne I q2 fz, sq_ne I q2 f1, sq_ne I q2 fTO⟩ (hx.imp (fun q => by simp; omega) fun q => by simp; omega) fun h' a7 => ⟨rfl, ?_⟩
    have hf4 : ∀ c ∈ [z, TO, i1, i2], FpOk X pins H c := fun c hc => by
      simp only [List.mem_cons, List.not_mem_nil, or_false] at hc
      rcases hc with rfl | rfl | rfl | rfl
      · exact fz
      · exact fTO
      · exact f1
      · exact f2
    have kp : ∀ c o, c ∉ [z, TO, i1, i2] → s.heap.get? c = some o → h'.get? c = some o := fun c o hc e => by
      simp only [List.mem_cons, List.not_mem_nil, or_false, not_or] at hc
      exact a7 c o hc.1 hc.2.1 hc.2.2.1 hc.2.2.2 e
    refine turnedL (h' := h') (t' := s.toks) I hf4 kp (fun c _ => rfl) fun c o e => ?_
    refine (I.hok c o e).stay (fun d v2 hd q => kp d v2 (fun m => ?_) q) (fun d q => q) fun d xs q => q
    have z := (hf4 d m).1
    rcases hd with rfl | hd
    · rw [e] at z; cases z
    · rw [hd] at z; cases z
  self := fun _ _ _ _ _ st h => wpAny_pyIter_zip st.hz h
def iZip (K : PySem.W.Frag) (k1 k2 : SK) (ta : TA) : TI := fun σ H R => ta σ H fun vs H1 => ∃ a b, vs = [.ref a, .ref b] ∧ (∃ xs, k1.is K H1 a xs) ∧ (∃ ys, k2.is K H1 b ys) ∧ R (Itz K k1 k2 a b) H1
theorem pi_zip {X : Cx} {ea eb : Expr} {ta : TA} {p pos tp : Pos} {elts : List Expr} {x1} (k1 k2 : SK) (hg : Gl X "zip") (hm : X.mg "zip" = none) (ha : PA X [ea, eb] ta) (hs : starEach [ea, eb] X.env = (false, eval ea X.env) :: starEach [eb] X.env := by rfl) (hs2 : (backTo pos (starEach [eb] X.env)).any (·.1) = false := by rfl) :
    PI X (.Tuple elts x1 tp) (.Call (.Name "zip" p) [ea, eb] [] pos) (iZip X.K k1 k2 ta) := by
  intro pins s σ H R I h
  refine Call_ (ld_blt I hg hm boot_zip (PyProof.Rows.callWith_type1 (thn (ha pos pins s σ H _ I h) fun us s1 ⟨vs, H1, I1, r1, q1⟩ => ?_) hs hs2))
  obtain ⟨a, b, rfl, ⟨xs, ex⟩, ⟨ys, ey⟩, q⟩ := q1
  obtain ⟨u, v, rfl, ru, rv⟩ := vals2 r1
  cases ru
  cases rv
  obtain ⟨its, r1, p1⟩ := SK.at I1 ex
  obtain ⟨its', r2, p2⟩ := SK.at I1 ey
  refine z_call p1 p2 fun h' Z kp => ?_
  refine wpAny_pyIter_zip Z.hz ?_
  have I2 : Inv X pins σ H1 { s1 with heap := h' } := I1.kept (t' := s1.toks) kp
  refine ⟨_, [s1.heap.objs.size + 4, s1.heap.objs.size + 2, s1.heap.objs.size + 3, s1.heap.objs.size, s1.heap.objs.size + 1], _, _, H1, rfl, I2, turn_zip k1 k2 a b _ _ _ _ _ (zap_new _), Z, fun c hc => ?_, q⟩
  have ge : s1.heap.objs.size ≤ c := by
    simp only [List.mem_cons, List.not_mem_nil, or_false] at hc
    rcases hc with rfl | rfl | rfl | rfl | rfl
    · exact Nat.le_add_right _ _
    · exact Nat.le_add_right _ _
    · exact Nat.le_add_right _ _
    · exact Nat.le_refl _
    · exact Nat.le_add_right _ _
  exact I1.fpOk ge (I1.hok.fresh ge)
end L2.Ev

namespace L2.Ts
open PySem PyProof.Rows

/-- the order of keys, by a rank -/
def kv (rk : Keyed → Nat) (xs : Array Keyed) (i : Nat) : Nat := match xs[i]? with
  | some p => rk p
  | none => 0
def Srt (rk : Keyed → Nat) (xs : Array Keyed) (a b : Nat) : Prop := ∀ i j, a ≤ i → i ≤ j → j < b → kv rk xs i ≤ kv rk xs j
theorem kv_of {rk : Keyed → Nat} {xs : Array Keyed} {i : Nat} {p : Keyed} (h : xs[i]? = some p) : kv rk xs i = rk p := by unfold kv; rw [h]
/-- what a step of the sort leaves: all ahead of lo, and the kind of the comparisons -/
structure Nx (lo : Nat) (st st' : SortSt) : Prop where
  kind : kindOf st' = kindOf st
  failed : failedOf st' = failedOf st
  pend : pendingOf st' = pendingOf st
  perm : (arrOf st').Perm (arrOf st)
  below : ∀ k : Nat, k < lo → (arrOf st')[k]? = (arrOf st)[k]?
theorem Nx.refl (lo : Nat) (st : SortSt) : Nx lo st st := ⟨rfl, rfl, rfl, Array.Perm.refl _, fun _ _ => rfl⟩
theorem Nx.trans {lo : Nat} {a b c : SortSt} (h : Nx lo a b) (q : Nx lo b c) : Nx lo a c := ⟨q.kind.trans h.kind, q.failed.trans h.failed, q.pend.trans h.pend, q.perm.trans h.perm, fun k hk => (q.below k hk).trans (h.below k hk)⟩
theorem Nx.size {lo : Nat} {a b : SortSt} (h : Nx lo a b) : (arrOf b).size = (arrOf a).size := h.perm.size_eq
section
variable {prog : Program} {w : World} {A : Around} {E : Value → Shared → Prop} {s : Shared} {κ : SortKind} {M : Keyed → Prop} {rk : Keyed → Nat}
def All (M : Keyed → Prop) (xs : Array Keyed) : Prop := ∀ (i : Nat) p, xs[i]? = some p → M p
theorem All.perm {xs ys : Array Keyed} (h : All M xs) (p : ys.Perm xs) : All M ys := fun i x e => by
  have hm : x ∈ xs := p.mem_iff.mp (Array.mem_of_getElem? e)
  obtain ⟨j, hj, ej⟩ := Array.getElem_of_mem hm
  exact h j x (by rw [Array.getElem?_eq_getElem hj, ej])
/-! ### a run -/
/-! ### binary insertion -/
end
end L2.Ts
namespace L2.Ts
open PySem PyProof.Rows
def gallop' : Bool → Keyed → Array Keyed → Nat → Nat → Nat → StateT SortSt Sem (Option Nat) := sortPriv% PySem.Builtin.gallop
section
variable {prog : Program} {w : World} {A : Around} {E : Value → Shared → Prop} {s : Shared} {κ : SortKind} {M : Keyed → Prop} {rk : Keyed → Nat}
end
end L2.Ts

namespace L2.Ts
open PySem PyProof.Rows
abbrev Up (rk : Keyed → Nat) (l : List Keyed) : Prop := l.Pairwise fun x y => rk x ≤ rk y
/-- a merge from the left: o holds the first ia of la and the first ib of lb -/
structure J (rk : Keyed → Nat) (la lb o : List Keyed) (ia ib : Nat) : Prop where
  ha : ia ≤ la.length
  hb : ib ≤ lb.length
  perm : o.Perm (la.take ia ++ lb.take ib)
  srt : Up rk o
  ua : ∀ x ∈ o, ∀ y ∈ la.drop ia, rk x ≤ rk y
  ub : ∀ x ∈ o, ∀ y ∈ lb.drop ib, rk x ≤ rk y
def Good (rk : Keyed → Nat) (la lb r : List Keyed) : Prop := r.Perm (la ++ lb) ∧ Up rk r
variable {rk : Keyed → Nat} {la lb o : List Keyed} {ia ib na nb k : Nat}
theorem drop_split {α : Type} (l : List α) (i k : Nat) : l.drop i = (l.drop i).take k ++ l.drop (i + k) := by
  rw [← List.drop_drop]
  exact (List.take_append_drop k (l.drop i)).symm
theorem take_split {α : Type} (l : List α) (i k : Nat) : l.take (i + k) = l.take i ++ (l.drop i).take k := List.take_add
theorem Up.drop {l : List Keyed} (h : Up rk l) (i : Nat) : Up rk (l.drop i) := h.sublist (List.drop_sublist i l)
theorem Up.take {l : List Keyed} (h : Up rk l) (i : Nat) : Up rk (l.take i) := h.sublist (List.take_sublist i l)
theorem Up.app {l m : List Keyed} (h : Up rk l) (q : Up rk m) (c : ∀ x ∈ l, ∀ y ∈ m, rk x ≤ rk y) : Up rk (l ++ m) := List.pairwise_append.mpr ⟨h, q, c⟩
theorem J.a (j : J rk la lb o ia ib) (sa : Up rk la) (hk : ia + k ≤ la.length) (h : ∀ x ∈ (la.drop ia).take k, ∀ y ∈ lb.drop ib, rk x ≤ rk y) : J rk la lb (o ++ (la.drop ia).take k) (ia + k) ib := by
  have sd := drop_split la ia k
  have up := sa.drop ia
  rw [sd] at up
  have cr := (List.pairwise_append.mp up).2.2
  refine ⟨hk, j.hb, ?_, j.srt.app ((sa.drop ia).take k) fun x hx y hy => j.ua x hx y (List.mem_of_mem_take hy), fun x hx y hy => ?_, fun x hx y hy => ?_⟩
  · rw [take_split, List.append_assoc]
    refine (List.Perm.append_right _ j.perm).trans ?_
    rw [List.append_assoc]
    exact List.Perm.append_left _ List.perm_append_comm
  · rcases List.mem_append.mp hx with hx | hx
    · exact j.ua x hx y (by rw [sd]; exact List.mem_append_right _ hy)
    · exact cr x hx y hy
  · rcases List.mem_append.mp hx with hx | hx
    · exact j.ub x hx y hy
    · exact h x hx y hy
theorem J.b (j : J rk la lb o ia ib) (sb : Up rk lb) (hk : ib + k ≤ lb.length) (h : ∀ x ∈ (lb.drop ib).take k, ∀ y ∈ la.drop ia, rk x ≤ rk y) : J rk la lb (o ++ (lb.drop ib).take k) ia (ib + k) := by
  have sd := drop_split lb ib k
  have up := sb.drop ib
  rw [sd] at up
  have cr := (List.pairwise_append.mp up).2.2
  refine ⟨j.ha, hk, ?_, j.srt.app ((sb.drop ib).take k) fun x hx y hy => j.ub x hx y (List.mem_of_mem_take hy), fun x hx y hy => ?_, fun x hx y hy => ?_⟩
  · rw [take_split, ← List.append_assoc]
    exact List.Perm.append_right _ j.perm
  · rcases List.mem_append.mp hx with hx | hx
    · exact j.ua x hx y hy
    · exact h x hx y hy
  · rcases List.mem_append.mp hx with hx | hx
    · exact j.ub x hx y (by rw [sd]; exact List.mem_append_right _ hy)
    · exact cr x hx y hy
theorem J.all (j : J rk la lb o ia ib) : (o ++ la.drop ia ++ lb.drop ib).Perm (la ++ lb) := by
  have e : (la.take ia ++ lb.take ib ++ la.drop ia ++ lb.drop ib).Perm (la ++ lb) := by
    have e1 : (la ++ lb) = (la.take ia ++ la.drop ia) ++ (lb.take ib ++ lb.drop ib) := by rw [List.take_append_drop, List.take_append_drop]
    rw [e1, List.append_assoc, List.append_assoc, List.append_assoc]
    refine List.Perm.append_left _ ?_
    rw [← List.append_assoc, ← List.append_assoc]
    exact List.Perm.append_right _ List.perm_append_comm
  exact (List.Perm.append_right _ (List.Perm.append_right _ j.perm)).trans e
theorem J.done (j : J rk la lb o ia ib) (sa : Up rk la) (sb : Up rk lb) (h : ia = la.length ∨ ib = lb.length) : Good rk la lb (o ++ la.drop ia ++ lb.drop ib) := by
  refine ⟨j.all, ?_⟩
  rcases h with h | h
  · rw [h, List.drop_length, List.append_nil]
    exact j.srt.app (sb.drop ib) j.ub
  · rw [h, List.drop_length, List.append_nil]
    exact j.srt.app (sa.drop ia) j.ua
theorem J.last (j : J rk la lb o ia ib) (sa : Up rk la) (sb : Up rk lb) (h : ∀ y ∈ lb, ∀ x ∈ la.drop ia, rk y ≤ rk x) : Good rk la lb (o ++ lb.drop ib ++ la.drop ia) := by
  refine ⟨?_, (j.srt.app (sb.drop ib) j.ub).app (sa.drop ia) fun x hx y hy => ?_⟩
  · refine List.Perm.trans ?_ j.all
    rw [List.append_assoc, List.append_assoc]
    exact List.Perm.append_left _ List.perm_append_comm
  · rcases List.mem_append.mp hx with hx | hx
    · exact j.ua x hx y hy
    · exact h x (List.mem_of_mem_drop hx) y hy
/-- a merge from the right: o holds all but the first na of la and the first nb of lb -/
structure J2 (rk : Keyed → Nat) (la lb o : List Keyed) (na nb : Nat) : Prop where
  ha : na ≤ la.length
  hb : nb ≤ lb.length
  perm : o.Perm (la.drop na ++ lb.drop nb)
  srt : Up rk o
  ua : ∀ x ∈ la.take na, ∀ y ∈ o, rk x ≤ rk y
  ub : ∀ x ∈ lb.take nb, ∀ y ∈ o, rk x ≤ rk y
theorem J2.a (j : J2 rk la lb o (na + k) nb) (sa : Up rk la) (h : ∀ x ∈ (la.drop na).take k, ∀ y ∈ lb.take nb, rk y ≤ rk x) : J2 rk la lb ((la.drop na).take k ++ o) na nb := by
  have sd := take_split la na k
  have up := sa.take (na + k)
  rw [sd] at up
  have cr := (List.pairwise_append.mp up).2.2
  have j1 := j.ha
  refine ⟨by omega, j.hb, ?_, ((sa.drop na).take k).app j.srt fun x hx y hy => j.ua x (by rw [sd]; exact List.mem_append_right _ hx) y hy, fun x hx y hy => ?_, fun x hx y hy => ?_⟩
  · have e : la.drop na ++ lb.drop nb = (la.drop na).take k ++ (la.drop (na + k) ++ lb.drop nb) := by rw [← List.append_assoc, ← drop_split la na k]
    rw [e]
    exact List.Perm.append_left _ j.perm
  · rcases List.mem_append.mp hy with hy | hy
    · exact cr x hx y hy
    · exact j.ua x (by rw [sd]; exact List.mem_append_left _ hx) y hy
  · rcases List.mem_append.mp hy with hy | hy
    · exact h y hy x hx
    · exact j.ub x hx y hy
theorem J2.b (j : J2 rk la lb o na (nb + k)) (sb : Up rk lb) (h : ∀ x ∈ (lb.drop nb).take k, ∀ y ∈ la.take na, rk y ≤ rk x) : J2 rk la lb ((lb.drop nb).take k ++ o) na nb := by
  have sd := take_split lb nb k
  have up := sb.take (nb + k)
  rw [sd] at up
  have cr := (List.pairwise_append.mp up).2.2
  have j1 := j.hb
  refine ⟨j.ha, by omega, ?_, ((sb.drop nb).take k).app j.srt fun x hx y hy => j.ub x (by rw [sd]; exact List.mem_append_right _ hx) y hy, fun x hx y hy => ?_, fun x hx y hy => ?_⟩
  · have e : la.drop na ++ lb.drop nb = la.drop na ++ (lb.drop nb).take k ++ lb.drop (nb + k) := by rw [List.append_assoc, ← drop_split lb nb k]
    rw [e]
    refine (List.Perm.append_left _ j.perm).trans ?_
    rw [← List.append_assoc]
    exact List.Perm.append_right _ List.perm_append_comm
  · rcases List.mem_append.mp hy with hy | hy
    · exact h y hy x hx
    · exact j.ua x hx y hy
  · rcases List.mem_append.mp hy with hy | hy
    · exact cr x hx y hy
    · exact j.ub x (by rw [sd]; exact List.mem_append_left _ hx) y hy
theorem J2.all (j : J2 rk la lb o na nb) : (la.take na ++ lb.take nb ++ o).Perm (la ++ lb) := by
  have e : (la.take na ++ lb.take nb ++ (la.drop na ++ lb.drop nb)).Perm (la ++ lb) := by
    have e1 : (la ++ lb) = (la.take na ++ la.drop na) ++ (lb.take nb ++ lb.drop nb) := by rw [List.take_append_drop, List.take_append_drop]
    rw [e1, List.append_assoc, List.append_assoc]
    refine List.Perm.append_left _ ?_
    rw [← List.append_assoc, ← List.append_assoc]
    exact List.Perm.append_right _ List.perm_append_comm
  exact (List.Perm.append_left _ j.perm).trans e
theorem J2.done (j : J2 rk la lb o na nb) (sa : Up rk la) (sb : Up rk lb) (h : na = 0 ∨ nb = 0) : Good rk la lb (la.take na ++ lb.take nb ++ o) := by
  refine ⟨j.all, ?_⟩
  rcases h with h | h
  · rw [h, List.take_zero, List.nil_append]
    exact (sb.take nb).app j.srt j.ub
  · rw [h, List.take_zero, List.append_nil]
    exact (sa.take na).app j.srt j.ua
theorem J2.first (j : J2 rk la lb o na nb) (sa : Up rk la) (sb : Up rk lb) (h : ∀ y ∈ lb.take nb, ∀ x ∈ la, rk y ≤ rk x) : Good rk la lb (lb.take nb ++ la.take na ++ o) := by
  refine ⟨?_, ((sb.take nb).app (sa.take na) fun x hx y hy => h x hx y (List.mem_of_mem_take hy)).app j.srt fun x hx y hy => ?_⟩
  · refine List.Perm.trans ?_ j.all
    exact List.Perm.append_right _ List.perm_append_comm
  · rcases List.mem_append.mp hx with hx | hx
    · exact j.ub x hx y hy
    · exact j.ua x hx y hy
/-- but for the gallop's bound the state stays -/
structure Gs (st st' : SortSt) : Prop where
  kind : kindOf st' = kindOf st
  arr : arrOf st' = arrOf st
  pend : pendingOf st' = pendingOf st
  failed : failedOf st' = failedOf st
theorem Gs.refl (st : SortSt) : Gs st st := ⟨rfl, rfl, rfl, rfl⟩
theorem Gs.trans {a b c : SortSt} (h : Gs a b) (q : Gs b c) : Gs a c := ⟨q.kind.trans h.kind, q.arr.trans h.arr, q.pend.trans h.pend, q.failed.trans h.failed⟩
/-! ### places and items -/
theorem mem_seg {xs : Array Keyed} {i k : Nat} {x : Keyed} (h : x ∈ (xs.toList.drop i).take k) : ∃ j, i ≤ j ∧ j < i + k ∧ j < xs.size ∧ kv rk xs j = rk x ∧ xs[j]? = some x := by
  obtain ⟨m, hm, e⟩ := List.getElem_of_mem h
  have l := hm
  rw [List.length_take, List.length_drop, Array.length_toList] at l
  have e2 : xs[i + m]? = some x := by
    rw [List.getElem_take, List.getElem_drop] at e
    rw [← e, ← Array.getElem?_toList]
    exact List.getElem?_eq_getElem (by rw [Array.length_toList]; omega)
  exact ⟨i + m, by omega, by omega, by omega, kv_of e2, e2⟩
theorem mem_from {xs : Array Keyed} {i : Nat} {x : Keyed} (h : x ∈ xs.toList.drop i) : ∃ j, i ≤ j ∧ j < xs.size ∧ kv rk xs j = rk x := by
  have h' : x ∈ (xs.toList.drop i).take xs.size := by
    rw [List.take_of_length_le (by rw [List.length_drop, Array.length_toList]; omega)]
    exact h
  obtain ⟨j, h1, _, h3, h4, _⟩ := mem_seg (rk := rk) h'
  exact ⟨j, h1, h3, h4⟩
theorem ext_list (xs : Array Keyed) (i j : Nat) : (xs.extract i j).toList = (xs.toList.drop i).take (j - i) := by
  rw [Array.toList_extract, List.extract_eq_drop_take]
theorem ext_all (xs : Array Keyed) (i : Nat) : (xs.extract i xs.size).toList = xs.toList.drop i := by
  rw [ext_list, List.take_of_length_le (by rw [List.length_drop, Array.length_toList]; omega)]
section
variable {prog : Program} {w : World} {A : Around} {E : Value → Shared → Prop} {s : Shared} {κ : SortKind} {M : Keyed → Prop}
/-! the pieces of a merge from the left -/
abbrev LoC := Option (Array Keyed) × Array Keyed × Nat × Nat × Nat × Nat × Nat
def l3 (a b : Array Keyed) (out : Array Keyed) (ia ib g ac bc : Nat) : StateT SortSt Sem (ForInStep LoC) := do
  let x ← elem' a ia
  if (ia + 1 + 1 == a.size) = true then pure (.done (some (out.push x ++ b.extract ib b.size ++ a.extract (ia + 1) a.size), out.push x, ia + 1, ib, g, ac, bc))
  else if (decide (ac < 7) && decide (bc < 7)) = true then pure (.done (none, out.push x, ia + 1, ib, g, ac, bc))
  else pure (.yield (none, out.push x, ia + 1, ib, g, ac, bc))
def l2 (a b : Array Keyed) (out : Array Keyed) (ia ib g ac bc0 : Nat) : StateT SortSt Sem (ForInStep LoC) := do
  let x ← elem' b ib
  if (ib + 1 == b.size) = true then pure (.done (some (out.push x ++ a.extract ia a.size ++ b.extract (ib + 1) b.size), out.push x, ia, ib + 1, g, ac, bc0))
  else do
    let y ← elem' a ia
    let r ← gallop' true y b (ib + 1) (b.size - (ib + 1)) 0
    match r with
    | some k =>
      if k > 0 then
        if (ib + 1 + k == b.size) = true then pure (.done (some (out.push x ++ b.extract (ib + 1) (ib + 1 + k) ++ a.extract ia a.size ++ b.extract (ib + 1 + k) b.size), out.push x ++ b.extract (ib + 1) (ib + 1 + k), ia, ib + 1 + k, g, ac, k))
        else l3 a b (out.push x ++ b.extract (ib + 1) (ib + 1 + k)) ia (ib + 1 + k) g ac k
      else l3 a b (out.push x) ia (ib + 1) g ac k
    | _ => pure (.done (some (out.push x ++ a.extract ia a.size ++ b.extract (ib + 1) b.size), out.push x, ia, ib + 1, g, ac, bc0))
def l1 (a b : Array Keyed) (out : Array Keyed) (ia ib g ac0 bc0 : Nat) : StateT SortSt Sem (ForInStep LoC) := do
  let y ← elem' b ib
  let r ← gallop' false y a ia (a.size - ia) 0
  match r with
  | some k =>
    if k > 0 then
      if (ia + k + 1 == a.size) = true then pure (.done (some (out ++ a.extract ia (ia + k) ++ b.extract ib b.size ++ a.extract (ia + k) a.size), out ++ a.extract ia (ia + k), ia + k, ib, g, k, bc0))
      else if (ia + k == a.size) = true then pure (.done (some (out ++ a.extract ia (ia + k) ++ a.extract (ia + k) a.size ++ b.extract ib b.size), out ++ a.extract ia (ia + k), ia + k, ib, g, k, bc0))
      else l2 a b (out ++ a.extract ia (ia + k)) (ia + k) ib g k bc0
    else l2 a b out ia ib g k bc0
  | _ => pure (.done (some (out ++ a.extract ia a.size ++ b.extract ib b.size), out, ia, ib, g, ac0, bc0))
/-- what a merge starts from -/
structure MPre (M : Keyed → Prop) (rk : Keyed → Nat) (a b : Array Keyed) : Prop where
  ma : All M a
  mb : All M b
  sa : Up rk a.toList
  sb : Up rk b.toList
  za : 0 < a.size
  zb : 0 < b.size
  fst : kv rk b 0 < kv rk a 0
  lst : ∀ i, i < b.size → kv rk b i < kv rk a (a.size - 1)
variable {a b : Array Keyed}
theorem MPre.done (m : MPre M rk a b) {out : Array Keyed} (j : J rk a.toList b.toList out.toList ia ib) (h : ia = a.size ∨ ib = b.size) : Good rk a.toList b.toList (out ++ a.extract ia a.size ++ b.extract ib b.size).toList := by
  rw [Array.toList_append, Array.toList_append, ext_all, ext_all]
  exact j.done m.sa m.sb (by rw [Array.length_toList, Array.length_toList]; exact h)
theorem MPre.last (m : MPre M rk a b) {out : Array Keyed} (j : J rk a.toList b.toList out.toList ia ib) (h : ia + 1 = a.size) : Good rk a.toList b.toList (out ++ b.extract ib b.size ++ a.extract ia a.size).toList := by
  rw [Array.toList_append, Array.toList_append, ext_all, ext_all]
  refine j.last m.sa m.sb fun y hy x hx => ?_
  obtain ⟨p, p1, p2, p3⟩ := mem_from (rk := rk) (i := 0) (by rw [List.drop_zero]; exact hy)
  obtain ⟨r, r1, r2, r3⟩ := mem_from (rk := rk) hx
  have e : r = a.size - 1 := by omega
  have := m.lst p p2
  rw [e] at r3
  omega
end
end L2.Ts

namespace L2.Ts
open PySem PyProof.Rows
section
variable {rk : Keyed → Nat} {na nb k : Nat} {prog : Program} {w : World} {A : Around} {E : Value → Shared → Prop} {s : Shared} {κ : SortKind} {M : Keyed → Prop}
/-! the pieces of a merge from the right -/
abbrev HiC := Option (Array Keyed) × Nat × Nat × Array Keyed × Nat × Nat × Nat
def r3 (a b : Array Keyed) (out : Array Keyed) (na nb g ac bc : Nat) : StateT SortSt Sem (ForInStep HiC) := do
  let x ← elem' a (na - 1)
  if (na - 1 == 0) = true then pure (.done (some (a.extract 0 (na - 1) ++ b.extract 0 nb ++ (out.push x).reverse), na - 1, nb, out.push x, g, ac, bc))
  else if (decide (ac < 7) && decide (bc < 7)) = true then pure (.done (none, na - 1, nb, out.push x, g, ac, bc))
  else pure (.yield (none, na - 1, nb, out.push x, g, ac, bc))
def r2 (a b : Array Keyed) (out : Array Keyed) (na nb g ac bc0 : Nat) : StateT SortSt Sem (ForInStep HiC) := do
  let x ← elem' b (nb - 1)
  if (nb - 1 == 1) = true then pure (.done (some (b.extract 0 (nb - 1) ++ a.extract 0 na ++ (out.push x).reverse), na, nb - 1, out.push x, g, ac, bc0))
  else do
    let y ← elem' a (na - 1)
    let r ← gallop' true y b 0 (nb - 1) (nb - 1 - 1)
    match r with
    | some p =>
      if nb - 1 - p > 0 then
        if (p == 1) = true then pure (.done (some (b.extract 0 p ++ a.extract 0 na ++ (out.push x ++ (b.extract p (nb - 1)).reverse).reverse), na, p, out.push x ++ (b.extract p (nb - 1)).reverse, g, ac, nb - 1 - p))
        else if (p == 0) = true then pure (.done (some (a.extract 0 na ++ b.extract 0 p ++ (out.push x ++ (b.extract p (nb - 1)).reverse).reverse), na, p, out.push x ++ (b.extract p (nb - 1)).reverse, g, ac, nb - 1 - p))
        else r3 a b (out.push x ++ (b.extract p (nb - 1)).reverse) na p g ac (nb - 1 - p)
      else r3 a b (out.push x) na (nb - 1) g ac (nb - 1 - p)
    | _ => pure (.done (some (a.extract 0 na ++ b.extract 0 (nb - 1) ++ (out.push x).reverse), na, nb - 1, out.push x, g, ac, bc0))
def r1 (a b : Array Keyed) (out : Array Keyed) (na nb g ac0 bc0 : Nat) : StateT SortSt Sem (ForInStep HiC) := do
  let y ← elem' b (nb - 1)
  let r ← gallop' false y a 0 na (na - 1)
  match r with
  | some p =>
    if na - p > 0 then
      if (p == 0) = true then pure (.done (some (a.extract 0 p ++ b.extract 0 nb ++ (out ++ (a.extract p na).reverse).reverse), p, nb, out ++ (a.extract p na).reverse, g, na - p, bc0))
      else r2 a b (out ++ (a.extract p na).reverse) p nb g (na - p) bc0
    else r2 a b out na nb g (na - p) bc0
  | _ => pure (.done (some (a.extract 0 na ++ b.extract 0 nb ++ out.reverse), na, nb, out, g, ac0, bc0))
variable {a b : Array Keyed}
theorem J2.za (j : J2 rk a.toList b.toList o na nb) : na ≤ a.size := by have := j.ha; rwa [Array.length_toList] at this
theorem J2.zb (j : J2 rk a.toList b.toList o na nb) : nb ≤ b.size := by have := j.hb; rwa [Array.length_toList] at this
end
end L2.Ts

namespace L2.Ts
open PySem PyProof.Rows
abbrev Run := Nat × Nat × Nat
section
variable {rk : Keyed → Nat} {prog : Program} {w : World} {A : Around} {E : Value → Shared → Prop} {s : Shared} {κ : SortKind} {M : Keyed → Prop}
/-! ### the runs that wait -/
def Runs (rk : Keyed → Nat) (xs : Array Keyed) : List Run → Nat → Nat → Prop
  | [], a, e => a = e
  | r :: l, a, e => r.1 = a ∧ 1 ≤ r.2.1 ∧ Srt rk xs a (a + r.2.1) ∧ Runs rk xs l (a + r.2.1) e
theorem Runs.le {xs : Array Keyed} : ∀ {l : List Run} {a e : Nat}, Runs rk xs l a e → a + l.length ≤ e
  | [], a, e, h => by have : a = e := h; simp; omega
  | r :: l, a, e, ⟨h1, h2, h3, h4⟩ => by
    have := Runs.le h4
    rw [List.length_cons]
    omega
theorem Runs.app {xs : Array Keyed} : ∀ {l m : List Run} {a e : Nat}, Runs rk xs (l ++ m) a e → ∃ z, Runs rk xs l a z ∧ Runs rk xs m z e
  | [], m, a, e, h => ⟨a, rfl, h⟩
  | r :: l, m, a, e, ⟨h1, h2, h3, h4⟩ => by
    obtain ⟨z, z1, z2⟩ := Runs.app h4
    exact ⟨z, ⟨h1, h2, h3, z1⟩, z2⟩
theorem Runs.same {xs ys : Array Keyed} : ∀ {l : List Run} {a e : Nat}, Runs rk xs l a e → (∀ k, a ≤ k → k < e → kv rk ys k = kv rk xs k) → Runs rk ys l a e
  | [], a, e, h, _ => h
  | r :: l, a, e, ⟨h1, h2, h3, h4⟩, q => by
    have le := Runs.le h4
    refine ⟨h1, h2, fun i j i1 ij j1 => ?_, Runs.same h4 fun k k1 k2 => q k (by omega) k2⟩
    rw [q i i1 (by omega), q j (by omega) (by omega)]
    exact h3 i j i1 ij j1
/-- the state while the runs are found: they reach to lo -/
structure Tb (rk : Keyed → Nat) (κ : SortKind) (a₀ : Array Keyed) (lo : Nat) (st : SortSt) : Prop where
  kind : kindOf st = κ
  failed : failedOf st = none
  perm : (arrOf st).Perm a₀
  runs : Runs rk (arrOf st) (pendingOf st).toList 0 lo
theorem Tb.size {a₀ : Array Keyed} {lo : Nat} {st : SortSt} (t : Tb rk κ a₀ lo st) : (arrOf st).size = a₀.size := t.perm.size_eq
end
end L2.Ts

namespace L2.Rw
open PySem
/-- a dict by its entries, whatever its keys -/
def RawD (h : Heap) (d : Addr) (es : Array DictEntry) (ep : Nat) : Prop := ∃ o, h.get? d = some o ∧ o.ExactDict ∧ o.data = .dict es ep
theorem RawD.keep {h h' : Heap} {d : Addr} {es : Array DictEntry} {ep : Nat} (x : RawD h d es ep) (k : ∀ o, h.get? d = some o → h'.get? d = some o) : RawD h' d es ep := let ⟨o, e, r⟩ := x; ⟨o, k o e, r⟩
theorem RawD.lt {h : Heap} {d : Addr} {es : Array DictEntry} {ep : Nat} (x : RawD h d es ep) : d < h.objs.size := let ⟨_, e, _⟩ := x; Heap.lt_size e
theorem RawD.type {s : Shared} {d : Addr} {es : Array DictEntry} {ep : Nat} (x : RawD s.heap d es ep) : s.TypeIs (.ref d) "dict" := let ⟨o, e, c, _⟩ := x; ⟨o, e, c.1⟩
section
variable {prog : Program} {w : World} {A : Around} {E : Value → Shared → Prop} {s : Shared} {d it : Addr} {es : Array DictEntry} {ep i : Nat}
/-! the pairs -/
end
end L2.Rw

namespace L2.Pl
/-! ### the order of powers -/
abbrev Pw := List Int
abbrev Mon := List Int × Int
/-- one tuple of whole numbers is less than another -/
def lxl : Pw → Pw → Bool
  | [], [] => false
  | [], _ :: _ => true
  | _ :: _, [] => false
  | x :: xs, y :: ys => if x = y then lxl xs ys else decide (x < y)
theorem lxl_irr : ∀ a : Pw, lxl a a = false
  | [] => rfl
  | x :: xs => by simp [lxl, lxl_irr xs]
theorem lxl_trans : ∀ {a b c : Pw}, lxl a b = true → lxl b c = true → lxl a c = true
  | [], [], c, h, _ => by simp [lxl] at h
  | [], _ :: _, [], _, h => by simp [lxl] at h
  | [], _ :: _, _ :: _, _, _ => rfl
  | _ :: _, [], _, h, _ => by simp [lxl] at h
  | _ :: _, _ :: _, [], _, h => by simp [lxl] at h
  | x :: xs, y :: ys, z :: zs, h, q => by
    simp only [lxl] at h q ⊢
    split at h
    · rename_i e
      subst e
      split at q
      · rename_i e
        subst e
        rw [if_pos rfl]
        exact lxl_trans h q
      · rename_i e
        rw [if_neg e]
        exact q
    · rename_i e
      have h' := of_decide_eq_true h
      split at q
      · rename_i e2
        subst e2
        rw [if_neg e]
        exact h
      · have q' := of_decide_eq_true q
        rw [if_neg (by omega)]
        exact decide_eq_true (by omega)
theorem lxl_tri : ∀ {a b : Pw}, lxl a b = false → lxl b a = false → a = b
  | [], [], _, _ => rfl
  | [], _ :: _, h, _ => by simp [lxl] at h
  | _ :: _, [], _, h => by simp [lxl] at h
  | x :: xs, y :: ys, h, q => by
    simp only [lxl] at h q
    by_cases e : x = y
    · subst e
      rw [if_pos rfl] at h q
      rw [lxl_tri h q]
    · rw [if_neg e] at h
      rw [if_neg (fun z => e z.symm)] at q
      have h' := of_decide_eq_false h
      have q' := of_decide_eq_false q
      omega
/-- a strict order in which any two unlike things can be told apart -/
structure Lin {α : Type} (lt : α → α → Bool) : Prop where
  irr : ∀ a, lt a a = false
  trans : ∀ {a b c}, lt a b = true → lt b c = true → lt a c = true
  tri : ∀ {a b}, lt a b = false → lt b a = false → a = b
theorem lin_lxl : Lin lxl := ⟨lxl_irr, lxl_trans, lxl_tri⟩
/-- pairs: the first decides, then the number -/
def tlt (a b : Mon) : Bool := if a.1 = b.1 then decide (a.2 < b.2) else lxl a.1 b.1
theorem lin_tlt : Lin tlt where
  irr := fun a => by simp [tlt]
  trans := fun {a b c} h q => by
    unfold tlt at h q ⊢
    by_cases e1 : a.1 = b.1
    · rw [if_pos e1] at h
      by_cases e2 : b.1 = c.1
      · rw [if_pos e2] at q
        rw [if_pos (e1.trans e2)]
        have := of_decide_eq_true h
        have := of_decide_eq_true q
        exact decide_eq_true (by omega)
      · rw [if_neg e2] at q
        rw [if_neg (fun z => e2 (e1.symm.trans z)), e1]
        exact q
    · rw [if_neg e1] at h
      by_cases e2 : b.1 = c.1
      · rw [← e2, if_neg e1]
        exact h
      · rw [if_neg e2] at q
        have t := lxl_trans h q
        rw [if_neg (fun z => by rw [z, lxl_irr] at t; cases t)]
        exact t
  tri := fun {a b} h q => by
    unfold tlt at h q
    by_cases e : a.1 = b.1
    · rw [if_pos e] at h
      rw [if_pos e.symm] at q
      have := of_decide_eq_false h
      have := of_decide_eq_false q
      exact Prod.ext e (by omega)
    · rw [if_neg e] at h
      rw [if_neg (fun z => e z.symm)] at q
      exact absurd (lxl_tri h q) e
/-- how many of l are less -/
def rank {α : Type} (lt : α → α → Bool) (l : List α) (a : α) : Nat := (l.filter (lt · a)).length
/-! ### sums of terms -/
/-- the number that a power has in all -/
def cf : List Mon → Pw → Int
  | [], _ => 0
  | t :: r, p => (if t.1 = p then t.2 else 0) + cf r p
theorem cf_none {p : Pw} : ∀ {l : List Mon}, (∀ t ∈ l, t.1 ≠ p) → cf l p = 0
  | [], _ => rfl
  | t :: r, h => by
    simp only [cf]
    rw [if_neg (h t (List.mem_cons_self ..)), cf_none fun x hx => h x (List.mem_cons_of_mem _ hx)]
    rfl
/-- greater powers first, none twice, no number 0 -/
structure Canon (l : List Mon) : Prop where
  ord : l.Pairwise fun a b => lxl b.1 a.1 = true
  num : ∀ t ∈ l, t.2 ≠ 0
theorem Canon.tail {t : Mon} {l : List Mon} (h : Canon (t :: l)) : Canon l := ⟨(List.pairwise_cons.mp h.ord).2, fun x hx => h.num x (List.mem_cons_of_mem _ hx)⟩
theorem Canon.head {t : Mon} {l : List Mon} (h : Canon (t :: l)) : cf (t :: l) t.1 = t.2 := by
  have o := (List.pairwise_cons.mp h.ord).1
  simp only [cf]
  rw [if_pos trivial, cf_none fun x hx e => by have := o x hx; rw [e, lxl_irr] at this; cases this]
  omega
theorem Canon.above {l : List Mon} (h : Canon l) {p : Pw} (q : ∀ t ∈ l, lxl t.1 p = true) : cf l p = 0 := cf_none fun t ht e => by
  have := q t ht
  rw [e, lxl_irr] at this
  cases this
def ins (t : Mon) : List Mon → List Mon
  | [] => if t.2 = 0 then [] else [t]
  | u :: r => if t.1 = u.1 then (if u.2 + t.2 = 0 then r else (u.1, u.2 + t.2) :: r) else if lxl u.1 t.1 = true then (if t.2 = 0 then u :: r else t :: u :: r) else u :: ins t r
theorem ins_cf (t : Mon) (p : Pw) : ∀ l : List Mon, cf (ins t l) p = (if t.1 = p then t.2 else 0) + cf l p
  | [] => by
    unfold ins
    split
    · rename_i h; simp [cf, h]
    · simp [cf]
  | u :: r => by
    unfold ins
    split
    · rename_i h
      split
      · rename_i z
        simp only [cf]
        by_cases e : u.1 = p
        · rw [if_pos e, if_pos (h.trans e)]; omega
        · rw [if_neg e, if_neg (fun q => e (h.symm.trans q))]; omega
      · simp only [cf]
        by_cases e : u.1 = p
        · rw [if_pos e, if_pos e, if_pos (h.trans e)]; omega
        · rw [if_neg e, if_neg e, if_neg (fun q => e (h.symm.trans q))]; omega
    · split
      · split
        · rename_i z; rw [z]; simp only [cf]; split <;> omega
        · simp only [cf]
      · simp only [cf, ins_cf t p r]; omega
theorem ins_below (t : Mon) {q : Pw} : ∀ {l : List Mon}, (∀ x ∈ l, lxl x.1 q = true) → lxl t.1 q = true → ∀ x ∈ ins t l, lxl x.1 q = true
  | [], _, ht, x, hx => by
    unfold ins at hx
    split at hx
    · simp at hx
    · rw [List.mem_singleton.mp hx]; exact ht
  | u :: r, h, ht, x, hx => by
    have hr : ∀ x ∈ r, lxl x.1 q = true := fun y hy => h y (List.mem_cons_of_mem _ hy)
    have hu := h u (List.mem_cons_self ..)
    unfold ins at hx
    split at hx
    · split at hx
      · exact hr x hx
      · rcases List.mem_cons.mp hx with rfl | hx
        · exact hu
        · exact hr x hx
    · split at hx
      · split at hx
        · exact h x hx
        · rcases List.mem_cons.mp hx with rfl | hx
          · exact ht
          · exact h x hx
      · rcases List.mem_cons.mp hx with rfl | hx
        · exact hu
        · exact ins_below t hr ht x hx
theorem ins_canon (t : Mon) : ∀ {l : List Mon}, Canon l → Canon (ins t l)
  | [], _ => by
    unfold ins
    split
    · exact ⟨.nil, fun x hx => by simp at hx⟩
    · rename_i h
      exact ⟨List.pairwise_singleton _ _, fun x hx => by rw [List.mem_singleton.mp hx]; exact h⟩
  | u :: r, h => by
    obtain ⟨o1, o2⟩ := List.pairwise_cons.mp h.ord
    have nr : ∀ x ∈ r, x.2 ≠ 0 := fun x hx => h.num x (List.mem_cons_of_mem _ hx)
    have nu := h.num u (List.mem_cons_self ..)
    unfold ins
    split
    · split
      · exact h.tail
      · rename_i z
        refine ⟨List.pairwise_cons.mpr ⟨o1, o2⟩, fun x hx => ?_⟩
        rcases List.mem_cons.mp hx with rfl | hx
        · exact z
        · exact nr x hx
    · rename_i ne
      split
      · rename_i lt
        split
        · exact h
        · rename_i z
          refine ⟨List.pairwise_cons.mpr ⟨fun x hx => ?_, h.ord⟩, fun x hx => ?_⟩
          · rcases List.mem_cons.mp hx with rfl | hx
            · exact lt
            · exact lxl_trans (o1 x hx) lt
          · rcases List.mem_cons.mp hx with rfl | hx
            · exact z
            · exact h.num x hx
      · rename_i lt
        have c := ins_canon t h.tail
        have tu : lxl t.1 u.1 = true := by
          cases k : lxl t.1 u.1 with
          | true => rfl
          | false => exact absurd (lxl_tri k (by simpa using lt)) ne
        refine ⟨List.pairwise_cons.mpr ⟨fun x hx => ins_below t o1 tu x hx, c.ord⟩, fun x hx => ?_⟩
        rcases List.mem_cons.mp hx with rfl | hx
        · exact nu
        · exact c.num x hx
/-- the polynomial that is the sum of the terms -/
def norm (ts : List Mon) : List Mon := ts.foldr ins []
theorem norm_canon : ∀ ts : List Mon, Canon (norm ts)
  | [] => ⟨.nil, fun x hx => by simp [norm] at hx⟩
  | t :: r => ins_canon t (norm_canon r)
theorem norm_cf (p : Pw) : ∀ ts : List Mon, cf (norm ts) p = cf ts p
  | [] => rfl
  | t :: r => by
    show cf (ins t (norm r)) p = _
    rw [ins_cf, norm_cf p r]
    rfl
/-- every power of the sum is one of the terms' -/
theorem norm_mem {ts : List Mon} {t : Mon} (h : t ∈ norm ts) : ∃ u ∈ ts, u.1 = t.1 := by
  have c := norm_canon ts
  have : cf (norm ts) t.1 = t.2 := by
    have key : ∀ l : List Mon, Canon l → t ∈ l → cf l t.1 = t.2 := by
      intro l
      induction l with
      | nil => intro _ hm; simp at hm
      | cons u l ih =>
        intro c hm
        rcases List.mem_cons.mp hm with e | hm
        · subst e; exact c.head
        · have o := (List.pairwise_cons.mp c.ord).1 t hm
          simp only [cf]
          rw [if_neg (fun e => by rw [e, lxl_irr] at o; cases o), ih c.tail hm]
          omega
    exact key _ c h
  rw [norm_cf] at this
  false_or_by_contra
  rename_i n
  have z : cf ts t.1 = 0 := cf_none fun u hu e => n ⟨u, hu, e⟩
  exact c.num t h (by omega)
/-! ### the table that adds up -/
/-! ### the two ways to write the sum down -/
end L2.Pl

namespace L2.Ev
open PySem PySem.Spec PyProof.Rows
open L2.Ts L2.Pl
theorem lx_eq : ∀ a b : List Int, HT.lexLt a b = lxl a b
  | [], [] => by rw [HT.lexLt_nil_nil]; rfl
  | [], _ :: _ => by rw [HT.lexLt_nil_cons]; rfl
  | _ :: _, [] => by rw [HT.lexLt_cons_nil]; rfl
  | x :: xs, y :: ys => by
    rw [HT.lexLt_cons]
    simp only [lxl]
    split
    · exact lx_eq xs ys
    · rfl
/-! ### the comparisons of a sort -/
section
variable {prog : Program} {w : World} {A : Around} {E : Value → Shared → Prop} {s : Shared} {b fin : Bool} {Q : Bool → Shared → Prop}
theorem lex_ints : ∀ {vs ws : List Value} {ns ms : List Int} {i : Nat}, IntsAre vs ns → IntsAre ws ms → (fin = decide (ns.length < ms.length)) → Q (lxl ns ms) s → PySem.W.KatLex prog w A b fin Q (vs.zip ws) i s
  | [], [], _, _, i, .nil, .nil, e, q => by
    subst e
    exact PySem.W.kat_nil q
  | [], _ :: _, _, _, i, .nil, .cons _ _ _, e, q => by
    subst e
    refine PySem.W.kat_nil ?_
    simpa [lxl] using q
  | _ :: _, [], _, _, i, .cons _ _ _, .nil, e, q => by
    subst e
    refine PySem.W.kat_nil ?_
    simpa [lxl] using q
  | _, _, _, _, i, .cons a t hv, .cons c u hw, e, q => by
    rw [List.zip_cons_cons]
    simp only [lxl] at q
    obtain ⟨eq, he, hiff⟩ := HT.eqAt_int A s a t c u
    refine PySem.W.kat_cons (he prog w _ _ ?_)
    cases eq with
    | true =>
      rw [if_pos (hiff.mp rfl)] at q
      refine PySem.W.kat_yes (lex_ints hv hw ?_ q)
      rw [e]
      simp
    | false =>
      rw [if_neg (fun z => absurd (hiff.mpr z) Bool.false_ne_true)] at q
      refine PySem.W.kat_no ?_
      cases hb : (b && i == 0) with
      | true => exact oneLt_int q
      | false =>
        refine PySem.W.kat_one _ _ ?_
        exact PyProof.Rows.lt_int q
end
/-! ### what is sorted: tuples of ints, pairs of such a tuple and an int -/
section
variable {X : Cx} {pins : List (Addr × Obj)} {σ : St} {H : Hp} {s : Shared}
class Srtd (α : Type) [D : Dat α] where
  lt : α → α → Bool
  lin : Lin lt
  /-- the first item's type is none of a tuple's -/
  plain : Bool
  /-- what is asked of each -/
  ok : α → Prop
  first : ∀ {X : Cx} {pins : List (Addr × Obj)} {σ : St} {H : Hp} {s : Shared} {v : V} {a : α}, Inv X pins σ H s → D.is H v a → ok a →
    ∃ (p : Addr) (o : Obj) (xs : Array Value) (n : Nat) (f : Value), RelV v (.ref p) ∧ s.heap.get? p = some o ∧ o.cls = .type "tuple" ∧ o.data = .seq xs n ∧ xs[0]? = some f ∧ PySem.W.Looks (model X.prog X.w) s.heap (typeOf f) (if plain = true then .type "int" else .type "tuple")
  asks : ∀ {X : Cx} {pins : List (Addr × Obj)} {σ : St} {H : Hp} {s : Shared} {A : Around} {v v' : V} {u u' : Value} {a b : α}, Inv X pins σ H s → A.units + 4 < cLine → D.is H v a → D.is H v' b → ok a → ok b → RelV v u → RelV v' u' →
    ∀ Q : Bool → Shared → Prop, Q (lt a b) s → wpAny (model X.prog X.w) A (keyLt' (tuples' plain) u u') Q (fun _ _ => False) s
theorem row_at {H : Hp} {v : V} {r : List Int} (h : Dat.is H v r) : ∃ p, v = .ref p ∧ H p = some (.tup (r.map V.int)) := by
  obtain ⟨p, vs, e, q, i⟩ := h
  have ei : ∀ {vs : List V} {ns : List Int}, Its H vs ns → vs = ns.map V.int := by
    intro vs ns i
    induction i with
    | nil => rfl
    | cons r t ih => rw [List.map_cons, ← ih]; exact congrArg (· :: _) r
  rw [ei i] at q
  exact ⟨p, e, q⟩
theorem row_is {H : Hp} {p : Addr} {r : List Int} (h : H p = some (.tup (r.map V.int))) : Dat.is H (.ref p) r := by
  have ei : ∀ ns : List Int, Its H (ns.map V.int) ns := by
    intro ns
    induction ns with
    | nil => exact .nil
    | cons n r ih => exact .cons rfl ih
  exact ⟨p, _, rfl, h, ei r⟩
theorem tup_obj {a : Addr} {xs : List V} (I : Inv X pins σ H s) (h : H a = some (.tup xs)) : ∃ (o : Obj) (its : List Value) (n : Nat), s.heap.get? a = some o ∧ o.cls = .type "tuple" ∧ o.data = .seq its.toArray n ∧ Vals xs its := by
  obtain ⟨its, rv, ht, _⟩ := I.tuple (SqT.of h)
  obtain ⟨o, ho, hc, n, hd⟩ := ht
  exact ⟨o, its, n, ho, hc, hd, rv⟩
instance srtList : Srtd (List Int) where
  lt := lxl
  lin := lin_lxl
  plain := true
  ok := fun a => a ≠ []
  first := fun {X pins σ H s v a} I h ok => by
    obtain ⟨p, rfl, hp⟩ := row_at h
    obtain ⟨o, its, n, ho, hc, hd, rv⟩ := tup_obj I hp
    cases a with
    | nil => exact absurd rfl ok
    | cons x a =>
      rw [List.map_cons] at rv
      cases rv with
      | cons r t =>
        obtain ⟨tk, rfl⟩ := r
        exact ⟨p, o, _, n, _, rfl, ho, hc, hd, rfl, PySem.W.Looks.of_pure rfl⟩
  asks := fun {X pins σ H s A v v' u u' a b} I hu h h' ok ok' r r' Q q => by
    obtain ⟨p, rfl, hp⟩ := row_at h
    obtain ⟨p', rfl, hp'⟩ := row_at h'
    obtain ⟨o, its, n, ho, hc, hd, rv⟩ := tup_obj I hp
    obtain ⟨o', its', n', ho', hc', hd', rv'⟩ := tup_obj I hp'
    cases r
    cases r'
    refine PySem.W.kat_lt ho hd ho' hd' (lex_ints (intsAre_of rv) (intsAre_of rv') ?_ q)
    have l1 := rv.length
    have l2 := rv'.length
    simp only [List.length_map] at l1 l2
    simp only [List.size_toArray]
    rw [l1, l2]
instance srtTm : Srtd (List Int × Int) where
  lt := tlt
  lin := lin_tlt
  plain := false
  ok := fun _ => True
  first := fun {X pins σ H s v a} I h ok => by
    obtain ⟨p, x, y, rfl, hp, hx, hy⟩ := h
    obtain ⟨o, its, n, ho, hc, hd, rv⟩ := tup_obj I hp
    obtain ⟨p2, rfl, hp2⟩ := row_at hx
    obtain ⟨o2, its2, n2, ho2, hc2, hd2, rv2⟩ := tup_obj I hp2
    obtain ⟨w1, w2, rfl, r1, r2⟩ := vals2 rv
    cases r1
    refine ⟨p, o, _, n, _, rfl, ho, hc, hd, rfl, ?_⟩
    rw [if_neg (by decide), ← hc2]
    exact (PySem.W.Looks.ld ho2).andThen .now
  asks := fun {X pins σ H s A v v' u u' a b} I hu h h' ok ok' r r' Q q => by
    obtain ⟨p, x, y, rfl, hp, hx, hy⟩ := h
    obtain ⟨p', x', y', rfl, hp', hx', hy'⟩ := h'
    obtain ⟨o, its, n, ho, hc, hd, rv⟩ := tup_obj I hp
    obtain ⟨o', its', n', ho', hc', hd', rv'⟩ := tup_obj I hp'
    cases r
    cases r'
    obtain ⟨w1, w2, rfl, r1, r2⟩ := vals2 rv
    obtain ⟨z1, z2, rfl, t1, t2⟩ := vals2 rv'
    refine PySem.W.kat_lt ho hd ho' hd' ?_
    show PySem.W.KatLex _ _ _ _ _ _ [(w1, z1), (w2, z2)] 0 s
    have e1 := Dat.eqAt (A := A) I (by show A.units + (0 + 1) < cLine; omega) hx hx' r1 t1
    refine PySem.W.kat_cons (e1 _ _ _ _ ?_)
    unfold tlt at q
    cases c : Dat.eqb a.1 b.1 with
    | true =>
      have e := (Dat.eqb_iff a.1 b.1).mp c
      rw [if_pos e] at q
      refine PySem.W.kat_yes ?_
      have hy2 : y = .int a.2 := hy
      have hy2' : y' = .int b.2 := hy'
      subst hy2 hy2'
      obtain ⟨k1, rfl⟩ := r2
      obtain ⟨k2, rfl⟩ := t2
      obtain ⟨eq, he, hiff⟩ := HT.eqAt_int A s a.2 k1 b.2 k2
      refine PySem.W.kat_cons (he _ _ _ _ ?_)
      cases eq with
      | true =>
        have e2 := hiff.mp rfl
        rw [decide_eq_false (by omega)] at q
        refine PySem.W.kat_yes (PySem.W.kat_nil ?_)
        simpa using q
      | false =>
        refine PySem.W.kat_no (PySem.W.kat_one _ _ ?_)
        exact PyProof.Rows.lt_int q
    | false =>
      have e : ¬ a.1 = b.1 := fun z => by rw [(Dat.eqb_iff a.1 b.1).mpr z] at c; cases c
      rw [if_neg e] at q
      refine PySem.W.kat_no (PySem.W.kat_one _ _ ?_)
      obtain ⟨p2, rfl, hp2⟩ := row_at hx
      obtain ⟨p2', rfl, hp2'⟩ := row_at hx'
      cases r1
      cases t1
      obtain ⟨its, r1, q1, _⟩ := I.tuple (SqT.of hp2)
      obtain ⟨its2, r2, q2, _⟩ := I.tuple (SqT.of hp2')
      have i1 : IntsAre its.toArray.toList a.1 := intsAre_of r1
      have i2 : IntsAre its2.toArray.toList b.1 := intsAre_of r2
      refine HT.lt_tupInts q1 q2 i1 i2 (by omega) ?_
      rw [lx_eq]
      exact q
end
end L2.Ev

namespace L2.Ts
open PySem PyProof.Rows
section
variable {prog : Program} {w : World} {A : Around} {E : Value → Shared → Prop} {s : Shared} {κ : SortKind} {M : Keyed → Prop} {rk : Keyed → Nat}
end
end L2.Ts
namespace L2.Rw
open PySem PySem.W PySem.Calls PyProof.Rows PySem.Spec
section
variable {prog : Program} {w : World} {A : Around} {E : Value → Shared → Prop} {s : Shared} {d : Addr} {es : Array DictEntry} {ep : Nat}
end
end L2.Rw

namespace L2.Ev
open PySem PySem.Spec PyProof.Rows
open L2.Ts L2.Pl L2.Rw
/-! ### a list of data, sorted -/
section
variable {X : Cx} {α : Type} [D : Dat α] [S : Srtd α]
theorem Paired.perm {β γ : Type} {F : β → γ → Prop} {l l' : List β} (p : l'.Perm l) : ∀ {m : List γ}, Paired F l m → ∃ m', m'.Perm m ∧ Paired F l' m' := by
  induction p with
  | nil => intro m h; exact ⟨m, List.Perm.refl _, h⟩
  | cons x _ ih =>
    intro m h
    cases h with
    | cons r t =>
      obtain ⟨m', p', h'⟩ := ih t
      exact ⟨_ :: m', p'.cons _, .cons r h'⟩
  | swap x y l =>
    intro m h
    cases h with
    | cons r t =>
      cases t with
      | cons r2 t2 => exact ⟨_, List.Perm.swap _ _ _, .cons r2 (.cons r t2)⟩
  | trans _ _ i1 i2 =>
    intro m h
    obtain ⟨m1, p1, h1⟩ := i2 h
    obtain ⟨m2, p2, h2⟩ := i1 h1
    exact ⟨m2, p2.trans p1, h2⟩
theorem Paired.mem {β γ : Type} {F : β → γ → Prop} {l : List β} {m : List γ} (h : Paired F l m) {x : β} (hx : x ∈ l) : ∃ y ∈ m, F x y := by
  induction h with
  | nil => cases hx
  | cons r t ih =>
    rcases List.mem_cons.mp hx with e | hx
    · subst e; exact ⟨_, List.mem_cons_self .., r⟩
    · obtain ⟨y, hy, f⟩ := ih hx
      exact ⟨y, List.mem_cons_of_mem _ hy, f⟩
end
/-! ### a dict whose keys are tuples of ints -/
section
variable {X : Cx}
end
/-! ### the pairs of a dict, walked -/
end L2.Ev

namespace L2.Ev
open PySem
open L2.Pl
theorem same_new {H : Hp} {p : Addr} (h : H p = none) (o : HO) : Same H (upd H p o) := fun b u q => by rw [upd_ne (ne_of_none q h)]; exact q
theorem smallS {n : Nat} (h : n ≤ 100000) : n < sizeLine := Nat.lt_of_le_of_lt h (by decide)
theorem small {n : Nat} (h : n ≤ 100000) : n ≤ sizeLine := Nat.le_of_lt (smallS h)
/-! ### a comprehension's block: its names, by a look -/
def bkOut (scope : Scope) (N N' : List Str) (o : Option Nat) (i : Nat) : Bool := match o with
  | none => true
  | some j => match N'[i]? with
    | some x => decide (N[j]? = some x) && decide (scope.names.lookup x = some NameKind.free)
    | none => false
def bkLook (sc scope : Scope) (N N' : List Str) (src : List (Option Nat)) : Bool :=
  decide (scope.kind = .function) && scope.names.all (fun y => decide (y.2 ≠ NameKind.cell)) && scope.names.all (fun y => !decide (y.2 = NameKind.local) || decide (scope.names.lookup y.1 = some NameKind.local)) &&
  scope.names.all (fun y => !decide (y.2 = NameKind.free) || (decide (sc.names.lookup y.1 = some NameKind.cell) || decide (sc.names.lookup y.1 = some NameKind.free))) && decide (src.length = N'.length) &&
  (List.range src.length).all fun i => bkOut scope N N' (src.getD i none) i
theorem bk_of {X : Cx} {N' : List Str} {src : List (Option Nat)} {scope : Scope} (sc : Scope) (N : List Str) (h : bkLook sc scope N N' src = true) (e1 : X.env.scope = sc := by rfl) (e2 : X.N = N := by rfl) : BkScope X N' src scope := by
  subst e1 e2
  unfold bkLook at h
  simp only [Bool.and_eq_true, decide_eq_true_eq, List.all_eq_true, Bool.or_eq_true, Bool.not_eq_true', decide_eq_false_iff_not] at h
  obtain ⟨⟨⟨⟨⟨h1, h2⟩, h3⟩, h4⟩, h5⟩, h6⟩ := h
  refine ⟨h1, h2, fun y hy e => (h3 y hy).resolve_left fun z => z e, fun y hy e => (h4 y hy).resolve_left fun z => z e, h5, fun i j e => ?_⟩
  obtain ⟨hi, ei⟩ := List.getElem?_eq_some_iff.mp e
  have q := h6 i (List.mem_range.mpr hi)
  rw [List.getD_eq_getElem?_getD, e] at q
  unfold bkOut at q
  simp only [Option.getD_some] at q
  cases c : N'[i]? with
  | none => rw [c] at q; cases q
  | some x =>
    rw [c] at q
    simp only [Bool.and_eq_true, decide_eq_true_eq] at q
    exact ⟨x, rfl, q.1, q.2⟩
theorem Same.tseq {K : PySem.W.Frag} {H H' : Hp} {a : Addr} {xs : List V} (e : Same H H') (h : SqT K H a xs) : SqT K H' a xs := by
  rcases h with (h | ⟨o, h⟩) | h
  · exact .inl (.inl (e _ _ h))
  · exact .inl (.inr ⟨o, e _ _ h⟩)
  · exact .inr h
theorem SK.same {K : PySem.W.Frag} {H H' : Hp} {a : Addr} {xs : List V} {k : SK} (e : Same H H') (h : k.is K H a xs) : k.is K H' a xs := by
  cases k with
  | lst => exact Same.seq e h
  | tup => exact Same.tseq e h
theorem comp_tup {α : Type} [Dat α] {K : PySem.W.Frag} {a : Addr} {xs : List V} {σ0 : St} {H1 : Hp} {D : Addr} {R : Hp → Prop} {g : TG} {tc : TT} {te : TE} (hD : H1 D = none) (hl : SqT K H1 a xs) (Sp : St → Prop) (out : Nat → Option α) (hn : xs.length ≤ sizeLine) (h0 : Sp σ0)
    (hturn : ∀ (i : Nat) (x : V) (σ' : St) (H' : Hp) (Yes : V → St → Hp → Prop) (No : St → Hp → Prop), xs[i]? = some x → Sp σ' → Same H1 H' → (∀ y σ2 H4 a, Sp σ2 → Same H' H4 → out i = some a → Dat.is H4 y a → Yes y σ2 H4) → (∀ σ2 H3, Sp σ2 → Same H' H3 → out i = none → No σ2 H3) →
      g x σ' H' fun σ2 H2 => tc σ2 H2 fun ok H3 => if ok = true then te σ2 H3 fun y H4 => Yes y σ2 H4 else No σ2 H3)
    (hend : ∀ H', Same H1 H' → LstAt H' D ((List.range xs.length).filterMap out) → R H') :
    ∃ W : Nat → Nat → St → Hp → Prop, (∃ m, W 0 m σ0 (upd H1 D (.lst []))) ∧ ∀ i m σ' H', W i m σ' H' →
    ((Itt K a).stop i H' ∧ R H') ∨ ((Itt K a).go i H' ∧ ∃ N : St → Hp → Prop, (∀ σ'' H'', N σ'' H'' → ∃ m', m' < m ∧ W (i + 1) m' σ'' H'') ∧
      ∀ x H'', (Itt K a).yld i H' x H'' → g x σ' H'' fun σ2 H2 => tc σ2 H2 fun ok H3 => if ok = true then te σ2 H3 fun y H4 => ∃ ys, H4 D = some (.lst ys) ∧ ys.length < sizeLine ∧ N σ2 (upd H4 D (.lst (ys ++ [y]))) else N σ2 H3) := by
  refine comp_read (Q := fun _ H => R H) (n := xs.length) hD Sp out hn h0 (fun H' e => ⟨xs, Same.tseq e hl, Nat.le_refl _⟩) (fun i H' hi e => ⟨xs, xs[i], Same.tseq e hl, List.getElem?_eq_getElem hi⟩) (fun i σ' H' Yes No hi hS hH hy hn x H'' y => ?_) hend
  obtain ⟨rfl, y⟩ := y
  exact hturn i x σ' H'' Yes No (y xs (Same.tseq hH hl)) hS hH hy hn
theorem comp_range {α : Type} [Dat α] {lo : Int} {n : Nat} {σ0 : St} {H1 : Hp} {D : Addr} {R : Hp → Prop} {g : TG} {tc : TT} {te : TE} (hD : H1 D = none)  (Sp : St → Prop) (out : Nat → Option α) (hn : n ≤ sizeLine) (h0 : Sp σ0)
    (hturn : ∀ (i : Nat) (σ' : St) (H' : Hp) (Yes : V → St → Hp → Prop) (No : St → Hp → Prop), i < n → Sp σ' → Same H1 H' → (∀ y σ2 H4 a, Sp σ2 → Same H' H4 → out i = some a → Dat.is H4 y a → Yes y σ2 H4) → (∀ σ2 H3, Sp σ2 → Same H' H3 → out i = none → No σ2 H3) →
      g (.int (lo + i)) σ' H' fun σ2 H2 => tc σ2 H2 fun ok H3 => if ok = true then te σ2 H3 fun y H4 => Yes y σ2 H4 else No σ2 H3)
    (hend : ∀ H', Same H1 H' → LstAt H' D ((List.range n).filterMap out) → R H') :
    ∃ W : Nat → Nat → St → Hp → Prop, (∃ m, W 0 m σ0 (upd H1 D (.lst []))) ∧ ∀ i m σ' H', W i m σ' H' →
    ((Itr lo n).stop i H' ∧ R H') ∨ ((Itr lo n).go i H' ∧ ∃ N : St → Hp → Prop, (∀ σ'' H'', N σ'' H'' → ∃ m', m' < m ∧ W (i + 1) m' σ'' H'') ∧
      ∀ x H'', (Itr lo n).yld i H' x H'' → g x σ' H'' fun σ2 H2 => tc σ2 H2 fun ok H3 => if ok = true then te σ2 H3 fun y H4 => ∃ ys, H4 D = some (.lst ys) ∧ ys.length < sizeLine ∧ N σ2 (upd H4 D (.lst (ys ++ [y]))) else N σ2 H3) := by
  refine comp_read (Q := fun _ H => R H) (n := n) hD Sp out hn h0 (fun H' e => Nat.le_refl _) (fun i H' hi e => hi) (fun i σ' H' Yes No hi hS hH hy hn x H'' y => ?_) hend
  obtain ⟨rfl, rfl⟩ := y
  exact hturn i σ' H'' Yes No hi hS hH hy hn
theorem comp_zip {α : Type} [Dat α] {K : PySem.W.Frag} {k1 k2 : SK} {a b : Addr} {xs ys : List V} {σ0 : St} {H1 : Hp} {D : Addr} {R : Hp → Prop} {g : TG} {tc : TT} {te : TE} (hD : H1 D = none) (hl : k1.is K H1 a xs) (hl2 : k2.is K H1 b ys) (Sp : St → Prop) (out : Nat → Option α) (hn : min xs.length ys.length ≤ sizeLine) (h0 : Sp σ0)
    (hturn : ∀ (i : Nat) (x y : V) (p : Addr) (σ' : St) (H' : Hp) (Yes : V → St → Hp → Prop) (No : St → Hp → Prop), xs[i]? = some x → ys[i]? = some y → H' p = none → Sp σ' → Same H1 H' → (∀ y σ2 H4 a, Sp σ2 → Same H' H4 → out i = some a → Dat.is H4 y a → Yes y σ2 H4) → (∀ σ2 H3, Sp σ2 → Same H' H3 → out i = none → No σ2 H3) →
      g (.ref p) σ' (upd H' p (.tup [x, y])) fun σ2 H2 => tc σ2 H2 fun ok H3 => if ok = true then te σ2 H3 fun y H4 => Yes y σ2 H4 else No σ2 H3)
    (hend : ∀ H', Same H1 H' → LstAt H' D ((List.range (min xs.length ys.length)).filterMap out) → R H') :
    ∃ W : Nat → Nat → St → Hp → Prop, (∃ m, W 0 m σ0 (upd H1 D (.lst []))) ∧ ∀ i m σ' H', W i m σ' H' →
    ((Itz K k1 k2 a b).stop i H' ∧ R H') ∨ ((Itz K k1 k2 a b).go i H' ∧ ∃ N : St → Hp → Prop, (∀ σ'' H'', N σ'' H'' → ∃ m', m' < m ∧ W (i + 1) m' σ'' H'') ∧
      ∀ x H'', (Itz K k1 k2 a b).yld i H' x H'' → g x σ' H'' fun σ2 H2 => tc σ2 H2 fun ok H3 => if ok = true then te σ2 H3 fun y H4 => ∃ ys, H4 D = some (.lst ys) ∧ ys.length < sizeLine ∧ N σ2 (upd H4 D (.lst (ys ++ [y]))) else N σ2 H3) := by
  refine comp_read (Q := fun _ H => R H) (n := min xs.length ys.length) hD Sp out hn h0 (fun H' e => ⟨xs, ys, SK.same e hl, SK.same e hl2, by omega⟩) (fun i H' hi e => ⟨xs, ys, xs[i], ys[i], SK.same e hl, SK.same e hl2, List.getElem?_eq_getElem (by omega), List.getElem?_eq_getElem (by omega)⟩) (fun i σ' H' Yes No hi hS hH hy hn x H'' y => ?_) hend
  obtain ⟨p, x, y, rfl, hp, rfl, hx, hy2⟩ := y
  exact hturn i x y p σ' H' Yes No (hx xs (SK.same hH hl)) (hy2 ys (SK.same hH hl2)) hp hS hH hy hn
theorem range_map {α β : Type} (f : α → Option β) (l : List α) : (List.range l.length).filterMap (fun i => (l[i]?).bind f) = l.filterMap f := by
  induction l with
  | nil => rfl
  | cons x l ih =>
    rw [List.length_cons, List.range_succ_eq_map, List.filterMap_cons, List.filterMap_map, List.filterMap_cons]
    have e : ((fun i => ((x :: l)[i]?).bind f) ∘ Nat.succ) = fun i => (l[i]?).bind f := by funext i; simp
    rw [e, ih]
    simp
theorem filter_map_if {α β : Type} (c : α → Prop) [DecidablePred c] (g : α → β) (l : List α) : l.filterMap (fun k => if c k then some (g k) else none) = (l.filter fun k => decide (c k)).map g := by
  induction l with
  | nil => rfl
  | cons x l ih =>
    rw [List.filterMap_cons, List.filter_cons]
    by_cases h : c x
    · rw [if_pos h, if_pos (decide_eq_true h), List.map_cons, ih]
    · rw [if_neg h, if_neg (by simpa using h), ih]
theorem its_at {α : Type} [D : Dat α] {H : Hp} {vs : List V} {l : List α} (h : Its H vs l) {i : Nat} {x : V} (e : vs[i]? = some x) : ∃ a, l[i]? = some a ∧ D.is H x a := Paired.get h e
theorem yesT {σ : St} {H : Hp} {A B : Hp → Prop} (h : A H) : tYes σ H (fun ok H3 => if ok = true then A H3 else B H3) := iteT (A := A H) (B := B H) h
theorem nameYes {i : Nat} {v : V} {σ : St} {H : Hp} {A B : St → Hp → Prop} (h : A (σ.set i (some v)) H) : gName i v σ H (fun σ2 H2 => tYes σ2 H2 fun ok H3 => if ok = true then A σ2 H3 else B σ2 H3) := iteT (A := A (σ.set i (some v)) H) (B := B (σ.set i (some v)) H) h
end L2.Ev

namespace L2.Ev
open PySem PySem.Spec PyProof.Rows
open L2.Pl
section
variable {X : Cx}
/-! ### products of great numbers -/
/-! ### t + u, any two tuples -/
/-! ### sum, all, any of a list -/
theorem sum_listG {l : Addr} {vs : List Value} {ns : List Int} {s : Shared} {prog : Program} {w : World} {A : Around} {E : Value → Shared → Prop} {Q : Value → Shared → Prop} (hh : A.handled = none) (hl : s.heap.IsList l vs.toArray) (hi : IntsAre vs ns)
    (h : ∀ h' tk t', (∀ b o, s.heap.get? b = some o → h'.get? b = some o) → Q (.int ns.sum t') { s with heap := h', toks := tk }) :
    wpAny (model prog w) A (call (.builtin "sum") [.ref l]) Q E s := by
  obtain ⟨xs, hx⟩ := hi.allInts.items
  have hn : numsOf vs.toArray.toList = ns := by rw [show vs.toArray.toList = vs from rfl, hi.numsOf]
  rw [hx] at hl hn
  rw [nums_intItems] at hn
  obtain ⟨o, ho, hc, n, hd⟩ := id hl
  have hne : l ≠ s.heap.objs.size := Nat.ne_of_lt (Heap.lt_size ho)
  have hsz : (intItems xs).size = xs.size := by simp [intItems]
  have W := (Walks.list (prog := prog) (w := w) (A := A.in1) hh s.heap.objs.size l hne (intItems xs)).toS
  rw [hsz] at W
  refine call_sum_walkAnyS (wpAny_pyIter_list hl ?_)
  refine ⟨s.heap.objs.size, _, _, _, _, _, _, numAt xs, rfl, W, ⟨⟨_, Heap.get?_push_size _ rfl, rfl, rfl⟩, hl.at fun o e => Heap.get?_push_of_some _ e⟩, fun b hb => ?_, fun i v hP => intItems_at hP, fun s' t' hm => ?_⟩
  · rcases List.mem_cons.mp hb with rfl | hb
    · exact Heap.lt_size (Heap.get?_push_size _ rfl)
    · obtain rfl := List.mem_singleton.mp hb
      exact Heap.lt_size (Heap.get?_push_of_some _ ho)
  · obtain ⟨h', g', d', tk', os'⟩ := s'
    have e1 : g' = s.gens := hm.gens
    have e2 : d' = s.drawn := hm.drawn
    have e3 : os' = s.os := hm.os
    subst e1 e2 e3
    have q := h h' tk' t' fun b o e => hm.heap b o (fun hb => absurd (Heap.lt_size e) ((List.mem_singleton.mp hb) ▸ Nat.lt_irrefl _)) (Heap.get?_push_of_some _ e)
    rw [preSum_eq, List.take_of_length_le (by simp), hn]
    exact q
theorem its_ints {H : Hp} {vs : List V} {ns : List Int} (i : Its H vs ns) : vs = ns.map V.int := by
  induction i with
  | nil => rfl
  | cons r t ih => rw [List.map_cons, ← ih]; exact congrArg (· :: _) r
theorem call_sumL (hc : X.calm = true) : CallR X (.builtin "sum") (fun xs H Q => ∃ (p : Addr) (ns : List Int), xs = [.ref p] ∧ SqL X.K H p (ns.map V.int) ∧ Q (.int ns.sum) H) := by
  intro pins s σ H xs us Q I r h
  obtain ⟨p, ns, rfl, hq, q⟩ := h
  obtain ⟨u, rfl, ru⟩ := vals1 r
  cases ru
  obtain ⟨its, rv, ht, _⟩ := I.list hq
  exact sum_listG (I.ok.hd hc) ht.isList (intsAre_of rv) fun h' tk t' hk => ⟨.int ns.sum, H, I.kept (t' := tk) hk, ⟨t', rfl⟩, q⟩
theorem bools_at {bs : List Bool} {its : List Value} (r : Vals (bs.map V.bl) its) {i : Nat} {v : Value} (h : its.toArray[i]? = some v) : ∃ b, bs[i]? = some b ∧ v = .bool b := by
  have h' : its[i]? = some v := by simpa using h
  have hi : i < its.length := (List.getElem?_eq_some_iff.mp h').1
  have hb : i < bs.length := by have := r.length; rw [List.length_map] at this; omega
  have e : (bs.map V.bl)[i]? = some (V.bl bs[i]) := by rw [List.getElem?_map, List.getElem?_eq_getElem hb]; rfl
  obtain ⟨u, e1, r1⟩ := r.get e
  rw [h'] at e1
  cases e1
  exact ⟨bs[i], List.getElem?_eq_getElem hb, r1⟩
theorem range_all {bs : List Bool} (n : Nat) (hn : n = bs.length) : (List.range n).all (fun i => bs.getD i false) = bs.all id := by
  subst hn
  induction bs with
  | nil => rfl
  | cons b bs ih =>
    rw [List.length_cons, List.range_succ_eq_map, List.all_cons, List.all_map, List.all_cons]
    have e : ((fun i => (b :: bs).getD i false) ∘ Nat.succ) = fun i => bs.getD i false := by funext i; simp
    rw [e, ih]
    rfl
theorem range_any {bs : List Bool} (n : Nat) (hn : n = bs.length) : (List.range n).any (fun i => bs.getD i false) = bs.any id := by
  subst hn
  induction bs with
  | nil => rfl
  | cons b bs ih =>
    rw [List.length_cons, List.range_succ_eq_map, List.any_cons, List.any_map, List.any_cons]
    have e : ((fun i => (b :: bs).getD i false) ∘ Nat.succ) = fun i => bs.getD i false := by funext i; simp
    rw [e, ih]
    rfl
theorem moved_kept {pins : List (Addr × Obj)} {σ : St} {H : Hp} {s : Shared} {o : Obj} {s' : Shared} (I : Inv X pins σ H s) (hm : Moved [s.heap.objs.size] (fun a b => b = a) { s with heap := s.heap.push o } s') : Inv X pins σ H s' := by
  obtain ⟨h', g', d', tk', os'⟩ := s'
  have e1 : g' = s.gens := hm.gens
  have e2 : d' = s.drawn := hm.drawn
  have e3 : os' = s.os := hm.os
  subst e1 e2 e3
  exact I.kept (t' := tk') fun b o e => hm.heap b o (fun hb => absurd (Heap.lt_size e) ((List.mem_singleton.mp hb) ▸ Nat.lt_irrefl _)) (Heap.get?_push_of_some _ e)
theorem call_allL (hc : X.calm = true) : CallR X (.builtin "all") (fun xs H Q => ∃ (p : Addr) (bs : List Bool), xs = [.ref p] ∧ SqL X.K H p (bs.map V.bl) ∧ Q (.bl (bs.all id)) H) := by
  intro pins s σ H xs us Q I r h
  obtain ⟨p, bs, rfl, hq, q⟩ := h
  obtain ⟨u, rfl, ru⟩ := vals1 r
  cases ru
  obtain ⟨its, rv, ht, _⟩ := I.list hq
  have hl := ht.isList
  obtain ⟨o, ho, _⟩ := id hl
  have W := (Walks.list (prog := X.prog) (w := X.w) (A := X.A.in1) (I.ok.hd hc) s.heap.objs.size p (Nat.ne_of_lt (Heap.lt_size ho)) its.toArray).toS
  refine call_all_walkS (wpAny_pyIter_list hl ⟨s.heap.objs.size, _, _, _, _, _, _, fun i => bs.getD i false, rfl, W, ⟨⟨_, Heap.get?_push_size _ rfl, rfl, rfl⟩, hl.at fun o e => Heap.get?_push_of_some _ e⟩, fun i v s2 Q2 E2 hP q2 => ?_, fun s' hm => ?_⟩)
  · obtain ⟨b, hb, rfl⟩ := bools_at rv hP
    refine wpAny_truthy_bool ?_
    have e : bs.getD i false = b := by rw [List.getD_eq_getElem?_getD, hb]; rfl
    have q2 : Q2 (bs.getD i false) s2 := q2
    rw [e] at q2
    exact q2
  · refine ⟨.bl (bs.all id), H, moved_kept I hm, ?_, q⟩
    have e := range_all (bs := bs) its.toArray.size (by have := rv.length; simp at this ⊢; omega)
    rw [e]
    rfl
theorem call_anyL (hc : X.calm = true) : CallR X (.builtin "any") (fun xs H Q => ∃ (p : Addr) (bs : List Bool), xs = [.ref p] ∧ SqL X.K H p (bs.map V.bl) ∧ Q (.bl (bs.any id)) H) := by
  intro pins s σ H xs us Q I r h
  obtain ⟨p, bs, rfl, hq, q⟩ := h
  obtain ⟨u, rfl, ru⟩ := vals1 r
  cases ru
  obtain ⟨its, rv, ht, _⟩ := I.list hq
  have hl := ht.isList
  obtain ⟨o, ho, _⟩ := id hl
  have W := (Walks.list (prog := X.prog) (w := X.w) (A := X.A.in1) (I.ok.hd hc) s.heap.objs.size p (Nat.ne_of_lt (Heap.lt_size ho)) its.toArray).toS
  refine call_any_walkS (wpAny_pyIter_list hl ⟨s.heap.objs.size, _, _, _, _, _, _, fun i => bs.getD i false, rfl, W, ⟨⟨_, Heap.get?_push_size _ rfl, rfl, rfl⟩, hl.at fun o e => Heap.get?_push_of_some _ e⟩, fun i v s2 Q2 E2 hP q2 => ?_, fun s' hm => ?_⟩)
  · obtain ⟨b, hb, rfl⟩ := bools_at rv hP
    refine wpAny_truthy_bool ?_
    have e : bs.getD i false = b := by rw [List.getD_eq_getElem?_getD, hb]; rfl
    have q2 : Q2 (bs.getD i false) s2 := q2
    rw [e] at q2
    exact q2
  · refine ⟨.bl (bs.any id), H, moved_kept I hm, ?_, q⟩
    have e := range_any (bs := bs) its.toArray.size (by have := rv.length; simp at this ⊢; omega)
    rw [e]
    rfl
/-! ### bools as data -/
instance datBool : Dat Bool where
  is := fun _ v b => v = .bl b
  mono := fun _ h => h
  inj := fun h h' => by rw [h] at h'; cases h'; rfl
  dep := 0
  eqb := fun a b => a == b
  eqb_iff := fun a b => by simp
  eqAt := fun {X pins σ H s A v v' u u' a b} I hu h h' r r' => by
    subst h h'
    cases r
    cases r'
    exact SeqAt.EqAt.bool_bool _ _
theorem its_bools {H : Hp} {vs : List V} {bs : List Bool} (i : Its H vs bs) : vs = bs.map V.bl := by
  induction i with
  | nil => rfl
  | cons r t ih => rw [List.map_cons, ← ih]; exact congrArg (· :: _) r
/-! ### == and != of tuples of data -/
theorem data_rc {α : Type} [D : Dat α] {pins : List (Addr × Obj)} {σ : St} {H : Hp} {s : Shared} {A : Around} {a b : Addr} {l m : List α} (I : Inv X pins σ H s) (hu : A.units + (D.dep + 1) < cLine) (ha : Dat.is H (.ref a) l) (hb : Dat.is H (.ref b) m) :
    SeqAt.RcAt A s (.ref a) (.ref b) (eqbs D.eqb l m) ∧ SeqAt.RcNeAt A s (.ref a) (.ref b) (!eqbs D.eqb l m) := by
  obtain ⟨p, vs, e, h, i⟩ := ha
  cases e
  obtain ⟨p', vs', e', h', i'⟩ := hb
  cases e'
  obtain ⟨its, rv, ht, _⟩ := I.tuple (SqT.of h)
  obtain ⟨its', rv', ht', _⟩ := I.tuple (SqT.of h')
  have hl : its.toArray.size = l.length := by have := rv.length; have := Paired.length i; simp; omega
  have hm : its'.toArray.size = m.length := by have := rv'.length; have := Paired.length i'; simp; omega
  have q := SeqAt.RcAt.tuples (A := A) (s := s) (e := eAt D.eqb l m) (show s.heap.IsTuple a its.toArray from ht) (show s.heap.IsTuple b its'.toArray from ht') (by omega) (its_eqAt I (A := A.in1) (by show A.units + 1 + D.dep < cLine; omega) i i' rv rv')
  have q2 := SeqAt.RcNeAt.tuples (A := A) (s := s) (e := eAt D.eqb l m) (show s.heap.IsTuple a its.toArray from ht) (show s.heap.IsTuple b its'.toArray from ht') (by omega) (its_eqAt I (A := A.in1) (by show A.units + 1 + D.dep < cLine; omega) i i' rv rv')
  rw [hl, hm, eqbs_all] at q q2
  exact ⟨q, q2⟩
def rEqT (α : Type) [Dat α] : R2 := fun x y H Q => ∃ (l m : List α), Dat.is H x l ∧ Dat.is H y m ∧ Q (.bl (eqbs (Dat.eqb (α := α)) l m)) H
def rNeT (α : Type) [Dat α] : R2 := fun x y H Q => ∃ (l m : List α), Dat.is H x l ∧ Dat.is H y m ∧ Q (.bl (!eqbs (Dat.eqb (α := α)) l m)) H
theorem op_eqT {α : Type} [D : Dat α] (hu : X.A.units + (D.dep + 1) < cLine) : OpR X (compareOp .Eq) (rEqT α) := by
  intro pins s σ H x y v u Q I rx ry h
  obtain ⟨l, m, ha, hb, q⟩ := h
  obtain ⟨p, _, rfl, _⟩ := id ha
  obtain ⟨p', _, rfl, _⟩ := id hb
  cases rx
  cases ry
  exact (data_rc I hu ha hb).1 X.prog X.w X.xe _ ⟨.bl _, H, I, rfl, q⟩
theorem op_neT {α : Type} [D : Dat α] (hu : X.A.units + (D.dep + 1) < cLine) : OpR X (compareOp .NotEq) (rNeT α) := by
  intro pins s σ H x y v u Q I rx ry h
  obtain ⟨l, m, ha, hb, q⟩ := h
  obtain ⟨p, _, rfl, _⟩ := id ha
  obtain ⟨p', _, rfl, _⟩ := id hb
  cases rx
  cases ry
  exact (data_rc I hu ha hb).2 X.prog X.w X.xe _ ⟨.bl _, H, I, rfl, q⟩
end
/-! ### a loop over two sequences, over a tuple -/
end L2.Ev

namespace L2.Pl
/-! ### numbers at a point -/
theorem lt_pow_mono {a : Int} {x y : Nat} (h : a.natAbs < 2 ^ x) (hxy : x ≤ y) : a.natAbs < 2 ^ y := Nat.lt_of_lt_of_le h (Nat.pow_le_pow_right (by decide) hxy)
/-! ### two neighbours exchanged -/
/-! ### what is known of terms -/
/-- n unknowns, powers from 0 to 8, numbers of at most b bits -/
structure Good (n b : Nat) (ts : List Mon) : Prop where
  len : ∀ t ∈ ts, t.1.length = n
  pow : ∀ t ∈ ts, ∀ x ∈ t.1, 0 ≤ x ∧ x ≤ 8
  num : ∀ t ∈ ts, t.2.natAbs < 2 ^ b
theorem Good.ne {n b : Nat} {ts : List Mon} (h : Good (n + 1) b ts) : ∀ t ∈ ts, t.1 ≠ [] := fun t ht e => by
  have := h.len t ht
  rw [e] at this
  simp at this
theorem Good.mono {n b c : Nat} {ts : List Mon} (h : Good n b ts) (hbc : b ≤ c) : Good n c ts := ⟨h.len, h.pow, fun t ht => lt_pow_mono (h.num t ht) hbc⟩
theorem Good.app {n b : Nat} {ts us : List Mon} (h : Good n b ts) (q : Good n b us) : Good n b (ts ++ us) :=
  ⟨fun t ht => (List.mem_append.mp ht).elim (h.len t) (q.len t), fun t ht => (List.mem_append.mp ht).elim (h.pow t) (q.pow t), fun t ht => (List.mem_append.mp ht).elim (h.num t) (q.num t)⟩
theorem cf_bound {b : Nat} (p : Pw) : ∀ {ts : List Mon}, (∀ t ∈ ts, t.2.natAbs < 2 ^ b) → (cf ts p).natAbs ≤ ts.length * 2 ^ b
  | [], _ => by simp [cf]
  | t :: r, h => by
    have ih := cf_bound p (ts := r) fun x hx => h x (List.mem_cons_of_mem _ hx)
    have h1 := h t (List.mem_cons_self ..)
    simp only [cf]
    have h2 := Int.natAbs_add_le (if t.1 = p then t.2 else 0) (cf r p)
    have h3 : (if t.1 = p then t.2 else (0 : Int)).natAbs ≤ 2 ^ b := by
      split
      · omega
      · simp
    rw [List.length_cons, Nat.succ_mul]
    omega
theorem cf_mem {l : List Mon} (c : Canon l) {t : Mon} (ht : t ∈ l) : cf l t.1 = t.2 := by
  induction l with
  | nil => cases ht
  | cons u l ih =>
    rcases List.mem_cons.mp ht with e | ht
    · subst e; exact c.head
    · have o := (List.pairwise_cons.mp c.ord).1 t ht
      simp only [cf]
      rw [if_neg (fun e => by rw [e, lxl_irr] at o; cases o), ih c.tail ht]
      omega
theorem Good.norm {n b k : Nat} {ts : List Mon} (h : Good n b ts) (hk : ts.length < 2 ^ k) : Good n (b + k) (norm ts) := by
  refine ⟨fun t ht => ?_, fun t ht => ?_, fun t ht => ?_⟩
  · obtain ⟨u, hu, e⟩ := norm_mem ht
    rw [← e]; exact h.len u hu
  · obtain ⟨u, hu, e⟩ := norm_mem ht
    rw [← e]; exact h.pow u hu
  · have e := cf_mem (norm_canon ts) ht
    rw [norm_cf] at e
    rw [← e]
    refine Nat.lt_of_le_of_lt (cf_bound t.1 h.num) ?_
    rw [Nat.pow_add, Nat.mul_comm]
    exact Nat.mul_lt_mul_of_pos_left hk (Nat.pow_pos (by decide))
end L2.Pl

namespace L2.Pl
/-! ### what the laws draw -/
def thing (c k m : Int) : Int := (c % 2147483647 * 48271 + 69621 * k * k + 7 * k) % 2147483629 * ((c % 2147483647 * 48271 + 69621 * k * k + 7 * k) % 2147483629) % 2147483587 % m
theorem le_sum {x : Int} : ∀ {l : List Int}, (∀ y ∈ l, 0 ≤ y) → x ∈ l → x ≤ l.sum ∧ 0 ≤ l.sum
  | [], _, h => by cases h
  | y :: l, hl, h => by
    have hl' : ∀ z ∈ l, 0 ≤ z := fun z hz => hl z (List.mem_cons_of_mem _ hz)
    have hy := hl y (List.mem_cons_self ..)
    have s0 : 0 ≤ l.sum := by
      have key : ∀ m : List Int, (∀ z ∈ m, 0 ≤ z) → 0 ≤ m.sum := by
        intro m
        induction m with
        | nil => intro _; simp
        | cons a m ih =>
          intro hm
          have := hm a (List.mem_cons_self ..)
          have := ih fun z hz => hm z (List.mem_cons_of_mem _ hz)
          rw [List.sum_cons]; omega
      exact key l hl'
    rw [List.sum_cons]
    rcases List.mem_cons.mp h with rfl | h
    · omega
    · have := (le_sum hl' h).1
      omega
end L2.Pl
namespace L2.Ev
open PySem
open L2.Pl
theorem iteN {c A B : Prop} [Decidable c] (h : ¬ c) (b : B) : if decide c = true then A else B := by
  rw [decide_eq_false h]
  exact iteF b
theorem iteY {c A B : Prop} [Decidable c] (h : c) (a : A) : if decide c = true then A else B := by
  rw [decide_eq_true h]
  exact iteT a
theorem kit_same (K : PySem.W.Frag) (T : String) : PySem.W.kitOne K (.type T) (.type T) = some true := if_pos (beq_self_eq_true _)
end L2.Ev

namespace L2.Ev
open PySem
open L2.Pl
/-- a function of the module whose promise is known -/
structure Has (P : Program) (w : World) (K : PySem.W.Frag) (mg : Str → Option Value) (base : Heap) (k : Nat) (x : Str) (ps : List Str) (sp : Sp) where
  f : Addr
  fd : FuncData
  ok : FnOk P w K mg base CX0 k f fd ps sp
  bd : Binds K fd ps []
  kp : PySem.W.keepIn K (.ref f) = true
  at_ : mg x = some (.ref f)
theorem pe_has {X : Cx} {k : Nat} {x : Str} {ps : List Str} {sp : Sp} {p pos : Pos} {e : Expr} {es : List Expr} {t : TA} (G : Has X.prog X.w X.K X.mg X.base k x ps sp) (hr : Room k X.A) (hg : Gl X x)
    (ha : PA X (e :: es) t) (hdb : (x == ("__debug__" : Str)) = false := by decide) (he : starEach (e :: es) X.env = (false, eval e X.env) :: starEach es X.env := by rfl) (hpl : (backTo pos (starEach es X.env)).any (·.1) = false := by rfl) :
    PE X (.Call (.Name x p) (e :: es) [] pos) (tCall sp [] E0 t) := pe_call G.ok hr hg G.at_ G.kp G.bd .nil pass0 ha hdb he hpl
theorem eqbs_self {α : Type} [D : Dat α] (l : List α) : eqbs (Dat.eqb (α := α)) l l = true := (eqbs_iff Dat.eqb_iff _ _).mpr rfl
end L2.Ev

namespace L2.Pl
/-! ### sums over terms: what norm keeps -/
/-! ### products -/
/-! ### the number of a product at a point -/
/-! ### the laws of reckoning -/
/-! ### what stays good -/
/-- n unknowns, no power below 0, together at most d, numbers of at most b bits -/
structure Deg (n d b : Nat) (ts : List Mon) : Prop where
  len : ∀ t ∈ ts, t.1.length = n
  nn : ∀ t ∈ ts, ∀ x ∈ t.1, 0 ≤ x
  sum : ∀ t ∈ ts, t.1.sum ≤ d
  num : ∀ t ∈ ts, t.2.natAbs < 2 ^ b
theorem Deg.good {n d b : Nat} {ts : List Mon} (h : Deg n d b ts) (hd : d ≤ 8) : Good n b ts := by
  refine ⟨h.len, fun t ht x hx => ⟨h.nn t ht x hx, ?_⟩, h.num⟩
  have := (le_sum (h.nn t ht) hx).1
  have := h.sum t ht
  omega
theorem Deg.mono {n d b d' b' : Nat} {ts : List Mon} (h : Deg n d b ts) (hd : d ≤ d') (hb : b ≤ b') : Deg n d' b' ts :=
  ⟨h.len, h.nn, fun t ht => by have := h.sum t ht; omega, fun t ht => lt_pow_mono (h.num t ht) hb⟩
theorem Deg.app {n d b : Nat} {ts us : List Mon} (h : Deg n d b ts) (q : Deg n d b us) : Deg n d b (ts ++ us) :=
  ⟨fun t ht => (List.mem_append.mp ht).elim (h.len t) (q.len t), fun t ht => (List.mem_append.mp ht).elim (h.nn t) (q.nn t), fun t ht => (List.mem_append.mp ht).elim (h.sum t) (q.sum t), fun t ht => (List.mem_append.mp ht).elim (h.num t) (q.num t)⟩
theorem Deg.norm {n d b k : Nat} {ts : List Mon} (h : Deg n d b ts) (hk : ts.length < 2 ^ k) : Deg n d (b + k) (Pl.norm ts) := by
  refine ⟨fun t ht => ?_, fun t ht => ?_, fun t ht => ?_, fun t ht => ?_⟩
  · obtain ⟨u, hu, e⟩ := norm_mem ht
    rw [← e]; exact h.len u hu
  · obtain ⟨u, hu, e⟩ := norm_mem ht
    rw [← e]; exact h.nn u hu
  · obtain ⟨u, hu, e⟩ := norm_mem ht
    rw [← e]; exact h.sum u hu
  · have e := cf_mem (norm_canon ts) ht
    rw [norm_cf] at e
    rw [← e]
    refine Nat.lt_of_le_of_lt (cf_bound t.1 h.num) ?_
    rw [Nat.pow_add, Nat.mul_comm]
    exact Nat.mul_lt_mul_of_pos_left hk (Nat.pow_pos (by decide))
end L2.Pl

namespace L2.Ev
open PySem PyProof.Rows
open L2.Pl
section
variable {X : Cx}
end
end L2.Ev

namespace L2.Ev
open PySem PySem.Spec PyProof.Rows
open L2.Pl
theorem ObjOk.got {P : Program} {w : World} {H : Hp} {h : Heap} {a : Addr} {o : HO} (x : ObjOk P w H h a o) : ∃ ob, h.get? a = some ob := by
  cases o with
  | lst xs => obtain ⟨_, _, _, _, e⟩ := x; exact ⟨_, e⟩
  | tup xs => obtain ⟨_, _, _, ob, e, _⟩ := x; exact ⟨_, e⟩
  | dK kvs => obtain ⟨_, _, _, _, o, _, _, e, _⟩ := x; exact ⟨_, e⟩
  | dT kvs => obtain ⟨_, _, _, _, o, _, _, e, _⟩ := x; exact ⟨_, e⟩
  | set S n => obtain ⟨o, _, _, _, e, _⟩ := x; exact ⟨_, e⟩
  | ins C dx fs => obtain ⟨_, _, _, e, _⟩ := x; exact ⟨_, e⟩
  | own y => exact x
  | xd fs => obtain ⟨_, ⟨_, _, _, e, _⟩, _⟩ := x; exact ⟨_, e⟩
  | rng lo hi => obtain ⟨_, _, _, e⟩ := x; exact ⟨_, e⟩
  | frz ob u => obtain ⟨e, _⟩ := x; exact ⟨_, e⟩
  | tbl ps => exact ⟨_, (show h.get? a = some _ from x)⟩
  | met f y => exact ⟨_, (show h.get? a = some _ from x)⟩
  | ext φ => obtain ⟨_, e, _⟩ := x; exact e
/-! ### an exception on its way -/
/-- B: what does not change any more while the exception goes: all objects but the frames of l and what belongs to the exception -/
structure Bs (l : List Env) (H : Hp) (h : Heap) (H' : Hp) (B : Heap) : Prop where
  old : ∀ b o, h.get? b = some o → b ∉ frs l → ∃ o', B.get? b = some o' ∧ (H b = none → o' = o)
  trk : ∀ b u, H' b = some u → ∃ o, B.get? b = some o
structure Fly (P : Program) (w : World) (l : List Env) (H : Hp) (s : Shared) (a : Addr) (cls a0 : Value) (H' : Hp) (s' : Shared) : Prop where
  os : s'.os = s.os
  bare : AllBare s'.gens
  un : Un (frs l) [] H H' s.heap s'.heap
  hok : HOk P w H' s'.heap
  fly : ∃ B, Bs l H s.heap H' B ∧ Heap.FlyingW B l a cls a0 s'.heap
def CX1 (P : Program) (w : World) : CXT := fun l H s E e s' => ∃ a cls a0 H', e = .ref a ∧ Fly P w l H s a cls a0 H' s' ∧ E cls none H'
section
variable {X : Cx} {pins : List (Addr × Obj)} {σ : St} {H H' : Hp} {s s' : Shared} {B : Heap}
/-- the body's state when the exception has gone a step further -/
theorem fly_inv (I : Inv X pins σ H s) (os : s'.os = s.os) (bare : AllBare s'.gens) (un : Un (frs X.stack) [] H H' s.heap s'.heap) (hok : HOk X.prog X.w H' s'.heap) (bs : Bs X.stack H s.heap H' B) (st0 : B.StaysIn s'.heap) {h' : Heap} (st : B.StaysIn h') (sm : s'.heap.UpToSlots h') :
    Inv X pins σ H' { s' with heap := h' } := by
  have fr : ∀ b o, s.heap.get? b = some o → b ∈ frs X.stack → ∀ vs, o.data ≠ .fields vs := fun b o e hb => by
    obtain ⟨_, o', e', d⟩ := I.stack.mem hb
    rw [e] at e'; cases e'
    exact d
  have slot : ∀ b o, s.heap.get? b = some o → b ∈ frs X.stack → ∃ sl, h'.get? b = some { o with slots := sl } := fun b o e hb => by
    obtain ⟨sl, e1⟩ := un.slot b o e (I.stkFree b hb) hb (by simp)
    obtain ⟨sl2, e2⟩ := sm b _ e1 (fr b o e hb)
    exact ⟨sl2, e2⟩
  refine I.call' (s' := { s' with heap := h' }) (ch := []) os ⟨fun b o e n hb _ => ?_, fun b o e n hb _ => slot b o e hb, un.free, fun b o e _ => ?_, un.tups, un.frzs, un.tbls⟩ (fun b u e => ?_) bare fun b hb => by simp at hb
  · obtain ⟨o', e1, e2⟩ := bs.old b o e hb
    rw [e2 n] at e1
    exact st _ _ e1
  · by_cases hb : b ∈ frs X.stack
    · obtain ⟨sl, e1⟩ := slot b o e hb
      exact ⟨_, e1⟩
    · obtain ⟨o', e1, _⟩ := bs.old b o e hb
      exact ⟨o', st _ _ e1⟩
  · have key : ∀ c v u', H' c = some u' → s'.heap.get? c = some v → h'.get? c = some v := fun c v u' hc q => by
      obtain ⟨o, e1⟩ := bs.trk c u' hc
      have := st0 _ _ e1
      rw [q] at this
      cases this
      exact st _ _ e1
    refine (hok b u e).stay (fun c v hc q => ?_) (fun _ q => q) fun _ _ q => q
    rcases hc with z | z
    · subst z; exact key c v u e q
    · exact key c v _ z q
end
section
variable {P : Program} {w : World} {K : PySem.W.Frag} {mg : Str → Option Value} {base : Heap} {N : List Str} {qual : Str} {scope : Scope} {f : Addr} {cdv : Value} {A : Around} {outer : List Env} {s0 : Shared} {H0 : Hp} {E : XK}
/-- what lies behind the frame that was left -/
theorem fly_out {pins : List (Addr × Obj)} {σ : St} {H H' : Hp} {s s' : Shared} {B : Heap} {a : Addr} {cls a0 : Value} (I : Inv (cxOf (CX1 P w) P w K mg base N qual scope f cdv A outer s0 H0 E) pins σ H s) (I' : Inv (cxOf (CX1 P w) P w K mg base N qual scope f cdv A outer s0 H0 E) pins σ H' s')
    (bs : Bs (cxOf (CX1 P w) P w K mg base N qual scope f cdv A outer s0 H0 E).stack H s.heap H' B) (fl : Heap.FlyingW B outer a cls a0 s'.heap) : Fly P w outer H0 s0 a cls a0 H' s' := by
  refine ⟨I'.os, I'.bare, I'.base, I'.hok, B, ⟨fun b o e hb => ?_, bs.trk⟩, fl⟩
  obtain ⟨o1, e1⟩ := I.base.there b o e (by show b ∉ ([] : List Addr); simp)
  have hL : b ∉ frs (cxOf (CX1 P w) P w K mg base N qual scope f cdv A outer s0 H0 E).stack := fun z => by
    rcases List.mem_cons.mp (I.stkSub b z) with z | z
    · have := I.ok.above
      have := Heap.lt_size e
      rw [z] at this
      exact absurd (Nat.lt_of_lt_of_le this I.ok.above) (Nat.lt_irrefl _)
    · exact hb z
  obtain ⟨o2, e2, e3⟩ := bs.old b o1 e1 hL
  refine ⟨o2, e2, fun n => ?_⟩
  have k := I.base.keep b o e n hb (by show b ∉ ([] : List Addr); simp)
  rw [e1] at k
  cases k
  exact e3 (I.base.free b o e n (by show b ∉ ([] : List Addr); simp))
theorem pass1 : Passes (CX1 P w) (cxOf (CX1 P w) P w K mg base N qual scope f cdv A outer s0 H0 E) E := by
  rintro pins σ H s e s' I ⟨a, cls, a0, H', rfl, F, hE⟩
  obtain ⟨os, bare, un, hok, B, bs, fl⟩ := F
  show wpAny _ _ (leaving _ (.ref a)) _ _ s'
  refine wpAny_leaves_onW (outer := outer) I.ok.frames rfl fl fun h' fl' sm => ?_
  have I' := fly_inv I os bare un hok bs fl.1 fl'.1 sm
  exact ⟨a, cls, a0, H', rfl, fly_out I I' bs fl', hE⟩
/-- an exception that is made here -/
def Rs (X : Cx) (E : XK) : Prop := ∀ (pins : List (Addr × Obj)) (σ : St) (H : Hp) (s : Shared) (h2 : Heap) (e C : Addr) (vs : List Value), Inv X pins σ H s → Heap.MadeExcOf s.heap h2 e (.ref C) vs → E (.ref C) none H → X.xe (.ref e) { s with heap := h2 }
theorem rs1 : Rs (cxOf (CX1 P w) P w K mg base N qual scope f cdv A outer s0 H0 E) E := by
  intro pins σ H s h2 e C vs I hx hE
  show wpAny _ _ (leaving _ (.ref e)) _ _ _
  have hin : ∀ env ∈ (cxOf (CX1 P w) P w K mg base N qual scope f cdv A outer s0 H0 E).stack, ∀ b, env.frame = some b → b ∈ frs (cxOf (CX1 P w) P w K mg base N qual scope f cdv A outer s0 H0 E).stack := fun env he b hb => List.mem_filterMap.mpr ⟨env, he, hb⟩
  have bs : Bs (cxOf (CX1 P w) P w K mg base N qual scope f cdv A outer s0 H0 E).stack H s.heap H (PySem.W.hideAll s.heap (frs (cxOf (CX1 P w) P w K mg base N qual scope f cdv A outer s0 H0 E).stack)) := by
    refine ⟨fun b o e hb => ⟨o, PySem.W.hideAll_get _ e hb, fun _ => rfl⟩, fun b u e => ?_⟩
    obtain ⟨o, q⟩ := ObjOk.got (I.hok b u e)
    exact ⟨o, PySem.W.hideAll_get _ q fun z => by rw [I.stkFree b z] at e; cases e⟩
  have st0 : (PySem.W.hideAll s.heap (frs (cxOf (CX1 P w) P w K mg base N qual scope f cdv A outer s0 H0 E).stack)).StaysIn h2 := fun b o q => hx.keeps b o (PySem.W.of_hideAll _ q)
  refine wpAny_leaves_madeW (outer := outer) I.ok.frames rfl (fun b o q => PySem.W.of_hideAll _ q) (PySem.W.funFrames_hide I.stack hin) hx fun h' t fl _ _ sm => ?_
  have I' := fly_inv (s' := { s with heap := h2 }) I rfl I.bare (Un.kept hx.keeps) (I.hok.kept hx.keeps) bs st0 fl.1 sm
  exact ⟨e, .ref C, .ref t, H, rfl, fly_out I I' bs fl, hE⟩
theorem Fun.okx {x qual : Str} {st : Stmt} {f : Addr} {fd : FuncData} {N ps : List Str} {k : Nat} {sp : Sp} (F : Fun K x qual st f fd) (S : FnScope N ps (defScope st)) (len : ∀ vs H Q E, sp vs H Q E → vs.length = ps.length)
    (hbody : ∀ (cdv : Value) (A : Around) (outer : List Env) (s : Shared) (H : Hp) (vs : List V) (Q : VK) (E : XK), Room k (A.deeper (envOfC qual (defScope st) s.heap.objs.size f cdv)) → sp vs H Q E →
      ∃ t, PSs (cxOf (CX1 P w) P w K mg base N qual (defScope st) f cdv A outer s H E) (defBody st) t ∧ t { nx := fun _ H' => Q .non H', rt := Q } (start N vs) H) : FnOk P w K mg base (CX1 P w) (k + 1) f fd ps sp := by
  obtain ⟨oc, od, kV, doc, pm, an, cdv, ct, osl, rfl, lk, hcd⟩ := F.ex
  exact fn_of lk hcd S len fun A outer s H vs Q E hr hsp => hbody cdv A outer s H vs Q E hr hsp
end
/-! ### raise C(..) of a class of one's own -/
theorem exc_of_in {K : PySem.W.Frag} {h : Heap} {C : Addr} {bmB : List Value} {newId : String} (X : K.In h) (q : PySem.W.excIn K C bmB newId = true) :
    ∃ bm N nm qn bs hdct sn sub ab col dd k0 k1 k2 k3 k5 mN, h.get? C = some (excClassObj nm qn C N bs bm hdct sn sub ab col dd k0 k1 k2 k3 k5 newId) ∧ h.Ns N mN ∧ mN "__init__" = none ∧ OwnTail h bmB bm := by
  unfold PySem.W.excIn at q
  split at q
  · rename_i dd cd sl ho
    split at q
    · rename_i C' bm k0 k1 k2 k3 n k5 hm hs
      simp only [Bool.and_eq_true, beq_iff_eq, Bool.not_eq_true'] at q
      obtain ⟨⟨⟨⟨⟨rfl, rfl⟩, hdel⟩, ht⟩, hok⟩, hni⟩ := q
      obtain ⟨nm, bs, mro, ns, qn, hd, sn, sub, ab, col, del⟩ := cd
      dsimp only at hm hdel hok hni
      subst hm hdel
      have hsl : sl = #[k0, k1, k2, k3, some (.builtin n), k5] := by
        obtain ⟨l⟩ := sl
        simp only at hs
        rw [hs]
      subst hsl
      exact ⟨bm, ns, nm, qn, bs, hd, sn, sub, ab, col, dd, k0, k1, k2, k3, k5, _, X _ _ ho, .of_isNs (PySem.W.isNs_of_in X hok), PySem.W.nsMap_none_of_in X hok hni, PySem.W.tail_of_in X ht⟩
    · cases q
  · cases q
def tRaise (C : Addr) (E : XK) (ta : TA) : TS := fun _ σ H => ta σ H fun vs H1 => vs.length ≤ sizeLine ∧ E (.ref C) none H1
theorem ps_raise {X : Cx} {E : XK} {x : Str} {C : Addr} {bmB : List Value} {B newId initId : String} {np cpos pos : Pos} {e : Expr} {es : List Expr} {ta : TA} (hc : X.calm = true) (R : Rs X E) (FB : ExcBaseFacts B newId initId bmB) (hg : Gl X x) (hm : X.mg x = some (.ref C)) (q : PySem.W.excIn X.K C bmB newId = true)
    (ha : PA X (e :: es) ta) (hdb : (x == ("__debug__" : Str)) = false := by decide) (he : starEach (e :: es) X.env = (false, eval e X.env) :: starEach es X.env := by rfl) (hpl : (backTo cpos (starEach es X.env)).any (·.1) = false := by rfl) :
    PS X (.Raise (some (.Call (.Name x np) (e :: es) [] cpos)) none pos) (tRaise C E ta) := by
  intro pins s σ H D I h
  obtain ⟨bm, N, nm, qn, bs, hdct, sn, sub, ab, col, dd, k0, k1, k2, k3, k5, mN, hC, hN, hni, T⟩ := exc_of_in I.mod.kin q
  refine wpAny_Raise_call_subT (C := C) (nm := nm) (q := qn) (N := N) (bs := bs) (bm := bm) (hdct := hdct) (sn := sn) (sub := sub) (ab := ab) (col := col) (dd := dd) (k0 := k0) (k1 := k1) (k2 := k2) (k3 := k3) (k5 := k5)
    FB (mN := mN) (T.hasType FB.hasBase) (I.ok.hd hc) (by rw [he]; show (false || (backTo cpos (starEach es X.env)).any (·.1)) = false; rw [hpl]; rfl) hni (ld_glob I hg hm ⟨rfl, ?_⟩ hdb)
  have h0 := ha cpos pins s σ H _ I h
  rw [he] at h0 ⊢
  refine Calls.evalArgs_plain (wpAny_mono h0 (fun us s2 ⟨vs, H1, I1, r, hl, hE⟩ => ?_) fun _ _ y => y)
  refine ⟨rfl, by rw [← r.length]; exact hl, I1.bk _ _ hC, hN.keeps I1.bk, T.keeps I1.bk, fun h' e' hx => R pins σ H1 s2 h' e' C us I1 hx hE⟩
end L2.Ev

namespace L2.Ev
open PySem PySem.Spec PyProof.Rows
open L2.Pl
/-! ### does the clause match -/
theorem exc_matches {K : PySem.W.Frag} {M : Model} {A : Around} {E : Value → Shared → Prop} {s : Shared} {e C C0 : Addr} {oe : Obj} {Q : Bool → Shared → Prop} (X : K.In s.heap) (he : s.heap.get? e = some oe) (hc : oe.cls = .ref C)
    (k1 : PySem.W.kitCls K (.ref C) (.ref C0) = some true) (k2 : PySem.W.kitCls K (.ref C0) (.type "BaseException") = some true) (h : Q true s) : wpAny M A (excMatches (.ref e) (.ref C0)) Q E s := by
  obtain ⟨t1, i1, s1⟩ := PySem.W.kit_cls (M := M) X k1
  obtain ⟨_, _, s2⟩ := PySem.W.kit_cls (M := M) X k2
  have keep : ∀ b o, s.heap.get? b = some o → s.heap.get? b = some o := fun _ _ q => q
  unfold excMatches isInstance
  refine wpAny_bind (wpAny_bind (t1 A _ _ s keep (wpAny_of_eq tc_notTuple ?_)))
  simp only [Bool.false_eq_true, if_false]
  refine wpAny_bind (wpAny_pure ?_)
  simp only [List.forIn_cons, List.forIn_nil]
  unfold isExcClass
  refine wpAny_bind (wpAny_bind (wpAny_bind (wpAny_bind (i1 A _ _ s keep ?_))))
  simp only [if_true]
  refine s2 A _ _ s keep ?_
  simp only [Bool.not_true, Bool.false_eq_true, if_false]
  refine wpAny_pure (wpAny_pure ?_)
  have ty : PySem.W.Looks M s.heap (typeOf (.ref e)) (.ref C) := hc ▸ (PySem.W.Looks.ld he).andThen .now
  refine wpAny_bind (ty A _ _ s keep ?_)
  refine wpAny_bind (wpAny_bind (wpAny_bind (s1 A _ _ s keep ?_)))
  simp only [if_true]
  refine wpAny_pure (wpAny_pure ?_)
  exact wpAny_pure h
/-! ### an exception that was caught, as a thing of the abstract heap -/
def excO (a : Addr) (cls : Value) : HO := .ext fun h => ∃ ob vs, h.get? a = some ob ∧ ob.cls = cls ∧ ob.data = .fields vs
section
variable {X : Cx} {pins : List (Addr × Obj)} {σ : St} {H H' : Hp} {s s' : Shared} {B : Heap} {a : Addr} {cls a0 : Value}
theorem track (I : Inv X pins σ H s) (I' : Inv X pins σ H' s') (bs : Bs X.stack H s.heap H' B) (fl : Heap.FlyingW B X.stack a cls a0 s'.heap) : Inv X pins σ (upd H' a (excO a cls)) s' ∧ H' a = none := by
  obtain ⟨st, hB, ff, oe, vs, T, oT, ts, he, ⟨hc, _⟩, hd, _⟩ := fl
  have hn : H' a = none := by
    cases q : H' a with
    | none => rfl
    | some u => obtain ⟨o, e⟩ := bs.trk a u q; rw [hB] at e; cases e
  have notfr : a ∉ frs X.stack := fun z => by
    obtain ⟨_, o, e, d⟩ := ff.mem z
    rw [he] at e; cases e
    exact d vs hd
  have notold : ∀ o, s.heap.get? a = some o → False := fun o e => by
    obtain ⟨o', e', _⟩ := bs.old a o e notfr
    rw [hB] at e'; cases e'
  have s0n : ∀ o, X.s₀.heap.get? a = some o → a ∉ X.ex → False := fun o e hx => by
    obtain ⟨o', e'⟩ := I.base.there a o e hx
    exact notold o' e'
  have nL : X.env.locals ≠ a := fun z => by
    obtain ⟨m, ⟨o, es, ep, ho, hd', _⟩, _⟩ := I'.loc
    rw [z, he] at ho; cases ho
    rw [hd] at hd'; cases hd'
  have nC : ∀ x c, X.env.cells.lookup x = some c → c ≠ a := fun x c e z => by
    obtain ⟨v, o, ho, hd'⟩ := I'.cell x c e
    rw [z, he] at ho; cases ho
    rw [hd] at hd'; cases hd'
  have nP : ∀ p ∈ X.pn ++ pins, p.1 ≠ a := fun p hp z => by
    obtain ⟨e, _⟩ := I.pin p hp
    rw [z] at e
    exact notold _ e
  have neq : ∀ b u, H' b = some u → b ≠ a := fun b u e z => by rw [z, hn] at e; cases e
  refine ⟨⟨I'.ok, I'.os, I'.bare, ⟨I'.base.keep, I'.base.slot, fun b o e n hx => ?_, I'.base.there, fun b xs e => ?_, fun b o u e => ?_, fun b ps e => ?_⟩, I'.loc, I'.cell, ?_, fun x c e => ?_, fun p hp => ?_, fun b u e => ?_, I'.len⟩, hn⟩
  · have q := I'.base.free b o e n hx
    by_cases z : b = a
    · subst z; exact (s0n o e hx).elim
    · rw [upd_ne z]; exact q
  · have q := I'.base.tups b xs e
    rw [upd_ne (neq _ _ q)]; exact q
  · have q := I'.base.frzs b o u e
    rw [upd_ne (neq _ _ q)]; exact q
  · obtain ⟨more, q⟩ := I'.base.tbls b ps e
    exact ⟨more, by rw [upd_ne (neq _ _ q)]; exact q⟩
  · rw [upd_ne nL]; exact I'.free
  · rw [upd_ne (nC x c e)]; exact I'.freeC x c e
  · obtain ⟨q1, q2, q3⟩ := I'.pin p hp
    exact ⟨q1, by rw [upd_ne (nP p hp)]; exact q2, q3⟩
  · by_cases z : b = a
    · subst z
      rw [upd_same] at e
      cases e
      exact ⟨⟨oe, vs, he, hc, hd⟩, ⟨oe, he⟩, fun h1 h2 ⟨ob, ws, k1, k2, k3⟩ k => ⟨ob, ws, k _ k1, k2, k3⟩⟩
    · rw [upd_ne z] at e
      exact (I'.hok b u e).stay (fun _ _ _ q => q) (fun c q => by rw [upd_ne (neq _ _ q)]; exact q) fun c xs q => by rw [upd_ne (neq _ _ q)]; exact q
/-- a local name goes -/
theorem del_ok {M : Model} {A : Around} {E : Value → Shared → Prop} {i : Nat} {x : Str} {pos : Pos} {Q : Unit → Shared → Prop} (I : Inv X pins σ H s) (hN : X.N.Nodup) (hi : X.N[i]? = some x) (hx : X.env.scope.names.lookup x = some .local)
    (h : ∀ s', Inv X pins (σ.set i none) H s' → Q () s') : wpAny M A (do bindName X.env x .none; unbindBehindTheSuite X.env x pos) Q E s := by
  obtain ⟨m, hn, hl⟩ := id I.loc
  have hcls : (X.env.scope.kind == .class || (X.env.scope.kind == .module && X.env.locals != X.env.globals)) = false := by rw [I.ok.kind]; rfl
  have hiσ : i < σ.length := by rw [I.len]; exact (List.getElem?_eq_some_iff.mp hi).1
  have cne := I.cne
  refine wpAny_nameGoes_keeps hx hn hcls fun h' v hn' hs => ?_
  obtain ⟨oL, _, _, hoL, _⟩ := id hn
  refine h _ ⟨I.ok, I.os, I.bare, ⟨fun b o e n hb hx => ?_, fun b o e n hb hx => ?_, I.base.free, fun b o e hx => ?_, I.base.tups, I.base.frzs, I.base.tbls⟩, ⟨_, hn', fun j y v' e1 e2 e3 => ?_⟩, fun y c e => ?_, I.free, I.freeC, fun p hp => ?_, fun b ob e => ?_, by simpa using I.len⟩
  · exact (hs.2 b (Nat.ne_of_lt (Nat.lt_of_lt_of_le (Heap.lt_size e) I.ok.above))).trans (I.base.keep b o e n hb hx)
  · obtain ⟨sl, e1⟩ := I.base.slot b o e n hb hx
    exact ⟨sl, (hs.2 b (Nat.ne_of_lt (Nat.lt_of_lt_of_le (Heap.lt_size e) I.ok.above))).trans e1⟩
  · obtain ⟨o', e1⟩ := I.base.there b o e hx
    exact ⟨o', (hs.2 b (Nat.ne_of_lt (Nat.lt_of_lt_of_le (Heap.lt_size e) I.ok.above))).trans e1⟩
  · by_cases hj : j = i
    · subst hj
      rw [List.getElem?_set_self hiσ] at e2
      cases e2
    · rw [List.getElem?_set_ne (Ne.symm hj)] at e2
      obtain ⟨u', r', q⟩ := hl j y v' e1 e2 e3
      refine ⟨u', r', ?_⟩
      rcases q with ⟨k, e⟩ | ⟨k, c, e, z⟩
      · refine .inl ⟨k, ?_⟩
        have : y ≠ x := fun e => hj (nodup_ix hN e1 (e ▸ hi))
        simp [this, e]
      · exact .inr ⟨k, c, e, z.sameBut hs (cne y c e)⟩
  · obtain ⟨w', z⟩ := I.cell y c e
    exact ⟨w', z.sameBut hs (cne y c e)⟩
  · obtain ⟨e, n, ne, nf, d⟩ := I.pin p hp
    exact ⟨(hs.2 p.1 ne).trans e, n, ne, nf, d⟩
  · refine (I.hok b ob e).stay (fun c w' hc q => (hs.2 c ?_).trans q) (fun _ q => q) fun _ _ q => q
    intro z
    rcases hc with hc | hc
    · rw [← hc, z, I.free] at e; cases e
    · rw [z, I.free] at hc; cases hc
end
/-! ### try: .. except C as n: y = n -/
abbrev Cx.mk1 (X : Cx) (e : Value) : Cx := { X with A := X.A.mark (some e), calm := false, xe := fun _ _ => False }
abbrev Cx.pin1 (X : Cx) (pn : List (Addr × Obj)) (T : Value → Shared → Prop) : Cx := { X with pn := pn, xe := T }
section
variable {X : Cx} {pins : List (Addr × Obj)} {σ : St} {H : Hp} {s : Shared}
theorem ok_mk1 (ok : X.Ok) (e : Value) : (Cx.mk1 X e).Ok := ⟨ok.mod, ok.kind, ok.glob, ok.blt, ok.above, ok.inj, ok.has, ok.cab, fun z => (by cases z), ok.frames, ok.stk, ok.exf, ok.bs, ok.bsz, ok.noex, ok.exfs, ok.funs, ok.frf⟩
theorem inv_mk1 (I : Inv X pins σ H s) (e : Value) : Inv (Cx.mk1 X e) pins σ H s := ⟨ok_mk1 I.ok e, I.os, I.bare, I.base, I.loc, I.cell, I.free, I.freeC, I.pin, I.hok, I.len⟩
theorem inv_un1 (ok : X.Ok) {e : Value} (I : Inv (Cx.mk1 X e) pins σ H s) : Inv X pins σ H s := ⟨ok, I.os, I.bare, I.base, I.loc, I.cell, I.free, I.freeC, I.pin, I.hok, I.len⟩
theorem ok_pin1 (ok : X.Ok) (pn : List (Addr × Obj)) (T : Value → Shared → Prop) : (Cx.pin1 X pn T).Ok := ⟨ok.mod, ok.kind, ok.glob, ok.blt, ok.above, ok.inj, ok.has, ok.cab, ok.hd, ok.frames, ok.stk, ok.exf, ok.bs, ok.bsz, ok.noex, ok.exfs, ok.funs, ok.frf⟩
theorem inv_pin1 (I : Inv X pins σ H s) (T : Value → Shared → Prop) : Inv (Cx.pin1 X (X.pn ++ pins) T) [] σ H s := ⟨ok_pin1 I.ok _ T, I.os, I.bare, I.base, I.loc, I.cell, I.free, I.freeC, fun p hp => I.pin p (by rw [List.append_nil] at hp; exact hp), I.hok, I.len⟩
theorem inv_unpin1 (ok : X.Ok) {T : Value → Shared → Prop} {pins' : List (Addr × Obj)} (I : Inv (Cx.pin1 X (X.pn ++ pins) T) pins' σ H s) : Inv X pins σ H s := ⟨ok, I.os, I.bare, I.base, I.loc, I.cell, I.free, I.freeC, fun p hp => I.pin p (List.mem_append_left _ hp), I.hok, I.len⟩
end
/-- an exception of a callee at the names' values σ0 -/
def PassS (X : Cx) (σ0 : St) (E : XK) : Prop := ∀ (pins : List (Addr × Obj)) (H : Hp) (s : Shared) (e : Value) (s' : Shared), Inv X pins σ0 H s → CX1 X.prog X.w X.stack H s E e s' → X.xe e s'
def tCallS (σ0 : St) (sp : Sp) (E : XK) (t : TA) : TE := fun σ H Q => σ = σ0 ∧ t σ H fun vs H1 => sp vs H1 Q E
theorem pe_callS {X : Cx} {k : Nat} {f : Addr} {fd : FuncData} {ps : List Str} {sp : Sp} {E : XK} {σ0 : St} {x : Str} {p pos : Pos} {e : Expr} {es : List Expr} {t : TA} (F : FnOk X.prog X.w X.K X.mg X.base (CX1 X.prog X.w) k f fd ps sp) (hr : Room k X.A) (hg : Gl X x) (hm : X.mg x = some (.ref f)) (hk : PySem.W.keepIn X.K (.ref f) = true) (hb : Binds X.K fd ps []) (hx : PassS X σ0 E)
    (ha : PA X (e :: es) t) (hdb : (x == ("__debug__" : Str)) = false := by decide) (he : starEach (e :: es) X.env = (false, eval e X.env) :: starEach es X.env := by rfl) (hpl : (backTo pos (starEach es X.env)).any (·.1) = false := by rfl) :
    PE X (.Call (.Name x p) (e :: es) [] pos) (tCallS σ0 sp E t) := by
  intro pins s σ H Q I h
  obtain ⟨rfl, h⟩ := h
  refine wpAny_Call_Name_kw (ld_glob I hg hm ?_ hdb)
  refine PySem.W.callWith_K (h₀ := X.base) I.ok.mod.kin hk (thn (ha pos pins s σ H _ I h) fun us s1 ⟨vs, H1, I1, r, q⟩ => ⟨I1.kIn, ?_⟩) he hpl
  have hl : us.length = ps.length := by rw [← r.length]; exact F.len _ _ _ _ q
  have hbd := hb s1 us I1.kIn (by rw [List.append_nil]; exact hl)
  rw [List.append_nil] at hbd
  refine wpAny_call (codeAny_mono (F.run X.A X.stack s1 H1 ⟨us, []⟩ us vs Q E hr I1.env0 hbd r q) fun r' s' hq => ?_)
  cases r' with
  | error e' => exact hx pins H1 s1 e' s' I1 hq
  | ok fl =>
    cases fl with
    | ret u => exact I1.after hq
    | next => exact False.elim hq
    | brk => exact False.elim hq
    | cont => exact False.elim hq
/-- what is wanted when it is caught -/
def EH (K : PySem.W.Frag) (C0 : Addr) (i j : Nat) (D : Ends) (σ : St) : XK := fun cls _ H' => ∃ C : Addr, cls = .ref C ∧ PySem.W.kitCls K (.ref C) (.ref C0) = some true ∧
  ∀ a, H' a = none → D.nx (((σ.set i (some (.ref a))).set j (some (.ref a))).set i none) (upd H' a (excO a cls))
theorem ps_try {X : Cx} {x n y : Str} {C0 : Addr} {body : List Stmt} {np py pn ap hp pos : Pos} {i j : Nat} {tb : St → XK → TS} (hst : X.stack = X.env :: X.outer) (hfr : X.env.frame = some X.env.locals)
    (hN : X.N.Nodup) (hi : X.N[i]? = some n) (li : X.env.scope.names.lookup n = some .local) (hj : X.N[j]? = some y) (lj : X.env.scope.names.lookup y = some .local) (hg : Gl X x) (hm : X.mg x = some (.ref C0)) (kC : PySem.W.kitCls X.K (.ref C0) (.type "BaseException") = some true)
    (hb : ∀ (pn' : List (Addr × Obj)) (T : Value → Shared → Prop) (σ0 : St) (E : XK), PassS (Cx.pin1 X pn' T) σ0 E → PSs (Cx.pin1 X pn' T) body (tb σ0 E)) (hd1 : (n == ("__debug__" : Str)) = false := by decide) (hd2 : (n == ("__classdict__" : Str)) = false := by decide) (hd3 : (x == ("__debug__" : Str)) = false := by decide) :
    PS X (.Try body [.ExceptHandler (some (.Name x np)) (some n) [.Assign [.Name y py] (.Name n pn) ap] hp] [] [] pos) (fun D σ H => tb σ (EH X.K C0 i j D σ) D σ H) := by
  intro pins s σ H D I h
  rw [arm_exec_Try]
  refine wpAny_bind (wpAny_standAt (wpAny_tryStmt_except ?_))
  have hP : PassS (Cx.pin1 X (X.pn ++ pins) fun e s₁ => wpAny (model X.prog X.w) X.A (noteFrame e X.env) (fun _ s₂ => wpAny (model X.prog X.w) X.A (setFlight e none) (fun _ s₃ =>
      wpAny (model X.prog X.w) X.A (handleBy e X.env [.ExceptHandler (some (.Name x np)) (some n) [.Assign [.Name y py] (.Name n pn) ap] hp]) (SP X pins D) X.xe s₃) X.xe s₂) X.xe s₁) σ (EH X.K C0 i j D σ) := by
    rintro pins' H1 s1 e s' J ⟨a, cls, a0, H', rfl, F, C, rfl, kC', hE⟩
    have I1 : Inv X pins σ H1 s1 := inv_unpin1 I.ok J
    obtain ⟨os, bare, un, hok, B, bs, fl⟩ := F
    have bs : Bs X.stack H1 s1.heap H' B := bs
    have fl : Heap.FlyingW B X.stack a (.ref C) a0 s'.heap := fl
    have fl' := fl
    rw [hst] at fl'
    show wpAny _ X.A (noteFrame (.ref a) X.env) _ _ s'
    refine wpAny_looks_onW (outer := X.outer) (by rw [I1.ok.frames, hst]) hfr fl' fun h4 held4 sm4 => ?_
    refine wpAny_landsW held4 fun h5 fly5 sm5 => ?_
    have sm45 := sm4.trans sm5
    have I5 := fly_inv I1 os bare un hok bs fl.1 fly5.1 sm45
    obtain ⟨ob, hob, hobc⟩ := fly5.there
    refine wpAny_handleBy_cons (codeAny_handlers_test (ld_glob (X := Cx.mk1 X (.ref a)) (inv_mk1 I5 (.ref a)) hg hm (exc_matches I5.kIn hob hobc kC' kC ?_) hd3)) (by intro q; cases q)
    refine codeAny_handlers_suite_as ?_
    refine lands_againW fly5 fun h6 fly6 sm6 => ?_
    have I6 := fly_inv I1 os bare un hok bs fl.1 fly6.1 (sm45.trans sm6)
    obtain ⟨I6', hn⟩ := track I1 I6 bs (by rw [hst]; exact fly6)
    refine store_ok (X := X) I6' hN hi (Or.inl li) (v := .ref a) rfl (fun s7 I7 => ?_) (.inr li)
    have hlt : i < σ.length := by rw [I1.len]; exact (List.getElem?_eq_some_iff.mp hi).1
    have ps := pss_one (ps_set (X := Cx.mk1 X (.ref a)) (pos := ap) (pos' := py) hN hj (Or.inl lj) (pe_var (pos := pn) hi (Or.inl li) hd1 hd2) rfl (.inr lj))
    refine wpAny_mono (ps pins s7 (σ.set i (some (.ref a))) (upd H' a (excO a (.ref C))) { nx := fun σ8 H8 => σ8 = (σ.set i (some (.ref a))).set j (some (.ref a)) ∧ H8 = upd H' a (excO a (.ref C)), rt := fun _ _ => False } (inv_mk1 I7 (.ref a)) ⟨.ref a, List.getElem?_set_self hlt, rfl, rfl⟩) (fun fw s8 q => ?_) (fun _ _ z => False.elim z)
    cases fw with
    | next =>
      obtain ⟨σ8, H8, J8, rfl, rfl⟩ := q
      exact del_ok (inv_un1 I.ok J8) hN hi li fun s9 I9 => ⟨_, _, I9, hE a hn⟩
    | brk => obtain ⟨_, _, _, z⟩ := q; exact z.elim
    | cont => obtain ⟨_, _, _, z⟩ := q; exact z.elim
    | ret u => obtain ⟨_, _, _, _, _, z⟩ := q; exact z.elim
  refine wpAny_mono (hb _ _ σ _ hP [] s σ H D (inv_pin1 I _) h) (fun fw s₁ q => ?_) fun e s₁ q => q
  cases fw with
  | next => obtain ⟨σ', H', J, q⟩ := q; exact wpAny_execs_nil ⟨σ', H', inv_unpin1 I.ok J, q⟩
  | brk => obtain ⟨σ', H', J, q⟩ := q; exact ⟨σ', H', inv_unpin1 I.ok J, q⟩
  | cont => obtain ⟨σ', H', J, q⟩ := q; exact ⟨σ', H', inv_unpin1 I.ok J, q⟩
  | ret u => obtain ⟨v, σ', H', J, r, q⟩ := q; exact ⟨v, σ', H', inv_unpin1 I.ok J, r, q⟩
end L2.Ev

namespace L2.Ev
open PySem PySem.Spec PyProof.Rows
open PySem.W
open PySem PySem.Calls PyProof.Rows Builtin Builtin.ObjectAttr Builtin.Getset_descriptor
section
variable {prog : Program} {w : World} {A : Around} {E : Value → Shared → Prop} {K : Frag} {h : Heap} {g : Array GenState} {d : Drawn} {t : Nat} {os : OsState} {a C : Addr} {o : Obj}
theorem class_getE {tp : Value} {R : Result → Shared → Prop} (X : K.In h) (L0 : Looks (model prog w) h (typeOf (.ref a)) (.ref C)) (hm : mroIn K C (.type "object") = some true)
    (hq : R (.ok (.ret (.ref C))) ⟨h, g, d, t, os⟩) : codeAny (model prog w) A (.call (.builtin "getset_descriptor.__get__") ⟨[.builtin "object.__class__", .ref a, tp], []⟩) R ⟨h, g, d, t, os⟩ := by
  have L1 := looks_mroIn (M := model prog w) X hm
  refine codeAny_call_builtin KF.slot_gs.plain KF.entry_gs (KF.slot_gs.check _ _ _ _ _ _ _ _ KF.type_class (KF.args_gs _ _ _) ?_)
  unfold Builtin.«getset_descriptor.__get__» descrGet
  rw [dga_obj]
  refine wpAny_bind (wpAny_pure ?_)
  unfold descrGetter descrCheckInstance descrNameAndClass isInstance
  simp only [KF.owner_class]
  repeat lk
  refine ⟨Code.quiet_builtin _ (by decide +kernel), codeAny_builtin KF.entry_class ?_⟩
  unfold Builtin.«object.__class__» shownTypeOf
  repeat lk
  exact hq
theorem class_entryE {tk : Tok} {Q : Fin → Shared → Prop} (X : K.In h) (L0 : Looks (model prog w) h (typeOf (.ref a)) (.ref C)) (hm : mroIn K C (.type "object") = some true) (hcl : findIn K (.ref C) "__class__" = some (some (.builtin "object.__class__")))
    (hx : h.get? a = some o) (hc : o.cls = .ref C) (hq : Q (.done (.ret (.ref C))) ⟨h, g, d, t, os⟩) :
    wpAny (model prog w) A (Builtin.«object.__getattribute__» ⟨[.ref a, .str "__class__" tk], []⟩) Q E ⟨h, g, d, t, os⟩ := by
  have L2 := looks_findIn (M := model prog w) X hcl
  have f5 := KF.type_class
  have f6 := F.slot_gs_get.lookup
  have f7 := F.slot_gs_set.lookup
  repeat (any_goals (first | assumption | (with_reducible refine wpAny_loadPart_at hx ?_; rw [hc]) | with_reducible refine L2.at ?_ | wp_step))
  refine class_getE X L0 hm ?_
  repeat (any_goals (first | assumption | wp_step))
theorem check_gaE {M : Model} {nameV : Value} {Q : Unit → Shared → Prop} (L0 : Looks M h (typeOf (.ref a)) (.ref C)) (LB : Looks M h (isSubtype (.ref C) (.type "BaseException")) true)
    (hq : Q () ⟨h, g, d, t, os⟩) : wpAny M A (checkBuiltinCall "BaseException.__getattribute__" ⟨[.ref a, nameV], []⟩) Q E ⟨h, g, d, t, os⟩ := by
  have hk : builtinKind "BaseException.__getattribute__" = some .slot := by decide +kernel
  have hsplit : splitId "BaseException.__getattribute__" = some ("BaseException", "__getattribute__") := by decide +kernel
  have ha := F.args_bexc_ga (.ref a) nameV
  have LI : Looks M h (isInstance (.ref a) (.type "BaseException")) true := L0.andThen LB
  simp only [checkBuiltinCall, hk, hsplit]
  refine wpAny_bind (LI.at ?_)
  repeat (first | assumption | wp_step)
theorem class_callE {tk : Tok} {R : Result → Shared → Prop} (X : K.In h) (hm : mroIn K C (.type "object") = some true) (hb : mroIn K C (.type "BaseException") = some true) (hcl : findIn K (.ref C) "__class__" = some (some (.builtin "object.__class__")))
    (hx : h.get? a = some o) (hc : o.cls = .ref C) (hq : R (.ok (.ret (.ref C))) ⟨h, g, d, t, os⟩) :
    codeAny (model prog w) A (.call (.builtin "BaseException.__getattribute__") ⟨[.ref a, .str "__class__" tk], []⟩) R ⟨h, g, d, t, os⟩ := by
  have L0 : Looks (model prog w) h (typeOf (.ref a)) (.ref C) := hc ▸ (Looks.ld hx).andThen .now
  exact codeAny_call_builtin F.excAttr_ValueError.ga.plain F.entry_bexc_ga (check_gaE L0 (looks_mroIn X hb) (class_entryE X L0 hm hcl hx hc hq))
theorem class_byE {tk : Tok} {Q : Value → Shared → Prop} (X : K.In h) (hm : mroIn K C (.type "object") = some true) (hb : mroIn K C (.type "BaseException") = some true) (hcl : findIn K (.ref C) "__class__" = some (some (.builtin "object.__class__")))
    (hga : findIn K (.ref C) "__getattribute__" = some (some (.builtin "BaseException.__getattribute__"))) (hgt : findIn K (.ref C) "__getattr__" = some none)
    (hx : h.get? a = some o) (hc : o.cls = .ref C) (hq : Q (.ref C) ⟨h, g, d, t, os⟩) : wpAny (model prog w) A (getAttrBy (.ref a) (.str "__class__" tk) false) Q E ⟨h, g, d, t, os⟩ := by
  have f3 := F.excAttr_ValueError.ga.bind (.ref a)
  have hx2 : (Value.builtin "BaseException.__getattribute__" == Value.builtin "object.__getattribute__") = false := by decide +kernel
  have hx1 : (onTheHeap (Value.ref C) && Value.builtin "BaseException.__getattribute__" == Value.builtin "object.__getattribute__") = false := by rw [hx2]; rfl
  have L1 := looks_findIn (M := model prog w) X hga
  have L2 := looks_findIn (M := model prog w) X hgt
  repeat (any_goals (first | assumption | (with_reducible refine wpAny_loadPart_at hx ?_; rw [hc]) | with_reducible refine L1.at ?_ | with_reducible refine L2.at ?_ | wp_step))
  refine class_callE X hm hb hcl hx hc ?_
  repeat (any_goals (first | assumption | wp_step))
theorem class_attrE {Q : Option Value → Shared → Prop} (X : K.In h) (hm : mroIn K C (.type "object") = some true) (hb : mroIn K C (.type "BaseException") = some true) (hcl : findIn K (.ref C) "__class__" = some (some (.builtin "object.__class__")))
    (hga : findIn K (.ref C) "__getattribute__" = some (some (.builtin "BaseException.__getattribute__"))) (hgt : findIn K (.ref C) "__getattr__" = some none)
    (hx : h.get? a = some o) (hc : o.cls = .ref C) (hq : Q (some (.ref C)) ⟨h, g, d, t + 1, os⟩) : wpAny (model prog w) A (getAttr? (.ref a) "__class__") Q E ⟨h, g, d, t, os⟩ := by
  unfold getAttr? getAttrBy?
  repeat (any_goals (first | assumption | with_reducible apply class_byE X hm hb hcl hga hgt hx hc | wp_step))
end
/-- an exception class of one's own, as isinstance wants it -/
structure ExcK (K : Frag) (C : Addr) : Prop where
  obj : mroIn K C (.type "object") = some true
  exc : mroIn K C (.type "BaseException") = some true
  cls : findIn K (.ref C) "__class__" = some (some (.builtin "object.__class__"))
  ga : findIn K (.ref C) "__getattribute__" = some (some (.builtin "BaseException.__getattribute__"))
  gt : findIn K (.ref C) "__getattr__" = some none
  is : (clsIn K C).isSome = true
theorem kitx_exc {K : Frag} {a C : Addr} (k : ExcK K C) : KitX K (.ref a) (.ref C) (fun h => ∃ o, h.get? a = some o ∧ o.cls = .ref C) where
  ty := fun M h _ ⟨o, hx, hc⟩ => hc ▸ (Looks.ld hx).andThen .now
  it := fun _ _ X _ => by
    have z0 := k.is
    unfold clsIn at z0
    split at z0
    · rename_i c' d' cd' sl' ho
      intro A' Q' E' s' kk q
      unfold isType loadHead
      exact wpAny_bind (wpAny_loadPart (kk _ _ (X _ _ ho)) (wpAny_pure q))
    · cases z0
  ne := fun h tp dd its n sl X htp => by
    refine Bool.eq_false_iff.mpr fun q => ?_
    have e : C = tp := Value.ref.inj (beq_iff_eq.mp q)
    subst e
    have z0 := k.is
    unfold clsIn at z0
    split at z0
    · rename_i c' d' cd' sl' ho
      have := X _ _ ho
      rw [htp] at this
      cases this
    · cases z0
  ca := fun {prog w A E Q s} X ⟨o, hx, hc⟩ q => by
    obtain ⟨hh, g, d, t, os⟩ := s
    exact class_attrE X k.obj k.exc k.cls k.ga k.gt hx hc q
section
variable {X : Cx}
/-- isinstance(e, D) of a caught exception -/
theorem call_isexc : CallR X (.builtin "isinstance") (fun xs H Q => ∃ a C c u b, xs = [.ref a, c] ∧ H a = some (excO a (.ref C)) ∧ ExcK X.K C ∧ RelV c u ∧ (∀ u', RelV c u' → u' = u) ∧ kitOne X.K (.ref C) u = some b ∧ Q (.bl b) H) := by
  intro pins s σ H xs us Q I r h
  obtain ⟨a, C, c, u, b, rfl, ha, k, _, uni, e, q⟩ := h
  obtain ⟨u1, v, rfl, r1, r2⟩ := vals2 r
  cases r1
  have hv := uni v r2
  subst hv
  obtain ⟨⟨ob, vs, hx, hc, _⟩, _⟩ := (show ObjOk X.prog X.w H s.heap a (excO a (.ref C)) from I.hok a _ ha)
  exact kia_one (kitx_exc k) I.kIn ⟨ob, hx, hc⟩ e (fun z => nomatch z) fun tk => ⟨.bl b, H, I.tok tk, rfl, q⟩
end
end L2.Ev

namespace L2.Ev
open PySem PySem.Spec PyProof.Rows
open L2.Pl
theorem args_maxd (a v : Value) : argsOk "max" ⟨[a], [(Str.ofString "default", v)]⟩ := by unfold argsOk; kernel_rfl
section
variable {prog : Program} {w : World} {A : Around} {R : Result → Shared → Prop} {I : Addr} {fp wr : List Addr} {n : Nat} {P : Nat → Value → Prop} {St : Nat → Heap → Prop} {dv : Value}
abbrev mxCode (I S : Addr) (dv : Value) : Code := .builtin "max.loop" ⟨[.ref I, .none, .ref S], [(Str.ofString "default", dv)]⟩
abbrev mxBest (vs : Array Value) (c : Nat) : Obj := { cls := .type "list", dict := none, data := .seq vs c, slots := #[] }
theorem mx_name : (toString "max" ++ toString ".loop" : String) = "max.loop" := by decide
/-- behind the first item -/
theorem mx_more (W : Walks prog w A.in1 I fp wr n P St) (bt : Nat → Nat → Bool) (hcmp : CmpOf prog w A.in1 .Gt P bt) (S : Addr) (hSf : S ∉ fp) :
    ∀ (k j : Nat) (s : Shared) (vb : Value) (c : Nat), n - (j + 1) = k → j + 1 ≤ n → St (j + 1) s.heap → P (argBest bt j) vb → s.heap.get? S = some (mxBest #[vb, vb] c) →
    (∀ v h' tk, P (argBest bt (n - 1)) v → (∀ b o, b ∉ wr → b ≠ S → s.heap.get? b = some o → h'.get? b = some o) → R (.ok (.ret v)) { s with heap := h', toks := tk }) → codeAny (model prog w) A (mxCode I S dv) R s
  | 0, j, s, vb, c, hk, hj, hst, hPb, hS, hR => by
    have hSw : S ∉ wr := fun h => hSf (W.sub _ h)
    have hin : j + 1 = n := by omega
    refine codeAny_builtin F.entry_max_loop ?_
    rw [Around.under_plainId F.plain_max_loop _]
    show wpAny _ A.in1 (seqItems? (.ref S) >>= _) _ _ s
    refine wpAny_bind (wpAny_seqItems hS rfl ?_)
    show wpAny _ A.in1 (tryCatch (pyNext (.ref I)) _ >>= _) _ _ s
    refine wpAny_bind (wpAny_tryCatch (W.done s _ _ (hin ▸ hst) fun h' tk hk' => ?_))
    have hS' := hk' S _ hSw hS
    show wpAny _ A.in1 (updateSeq S (fun _ => #[]) >>= _) _ _ _
    exact wpAny_bind (wpAny_updateSeq hS' rfl (wpAny_bind (wpAny_letGo (wpAny_pure (hR vb _ tk (by rw [← hin]; exact hPb) fun b o hbw hbS e => (Heap.get?_update_other _ _ (Ne.symm hbS)).trans (hk' b o hbw e))))))
  | k + 1, j, s, vb, c, hk, hj, hst, hPb, hS, hR => by
    have hSw : S ∉ wr := fun h => hSf (W.sub _ h)
    have hlt : j + 1 < n := by omega
    refine codeAny_builtin F.entry_max_loop ?_
    rw [Around.under_plainId F.plain_max_loop _]
    show wpAny _ A.in1 (seqItems? (.ref S) >>= _) _ _ s
    refine wpAny_bind (wpAny_seqItems hS rfl ?_)
    show wpAny _ A.in1 (tryCatch (pyNext (.ref I)) _ >>= _) _ _ s
    refine wpAny_bind (wpAny_tryCatch (W.item (j + 1) s _ _ hlt hst fun v h' tk hP hst' hk' => ?_))
    have hS' := hk' S _ hSw hS
    show wpAny _ A.in1 (tryCatch (holding [v, v] (richCompare .Gt v vb >>= _)) _ >>= _) _ _ _
    refine wpAny_bind (wpAny_tryCatch (wpAny_holding (wpAny_bind (hcmp (j + 1) (argBest bt j) v vb _ _ _ hP hPb (wpAny_bind (wpAny_holding (wpAny_truthy_bool (wpAny_bind (wpAny_letGo (wpAny_pure ?_))))))))))
    cases hb : bt (j + 1) (argBest bt j) with
    | true =>
      simp only [if_true]
      refine wpAny_bind (wpAny_updateSeq hS' rfl (wpAny_bind (wpAny_letGo ?_)))
      rw [mx_name]
      refine wpAny_pure ⟨plainId_quiet F.plain_max_loop _, mx_more W bt hcmp S hSf k (j + 1) _ v _ (by omega) hlt (W.frame _ _ _ hst' fun b hbf o e => ?_) (by simp only [argBest, hb, if_true]; exact hP) (Heap.get?_update_self _ hS' rfl) fun v' h'' tk'' hP' hk'' => ?_⟩
      · exact (Heap.get?_update_other _ _ (fun h : S = b => hSf (by rw [h]; exact hbf))).trans e
      · exact hR v' h'' tk'' hP' fun b o hbw hbS e => hk'' b o hbw hbS ((Heap.get?_update_other _ _ (Ne.symm hbS)).trans (hk' b o hbw e))
    | false =>
      simp only [Bool.false_eq_true, if_false]
      refine wpAny_bind (wpAny_letGo ?_)
      rw [mx_name]
      exact wpAny_pure ⟨plainId_quiet F.plain_max_loop _, mx_more W bt hcmp S hSf k (j + 1) _ vb c (by omega) hlt hst' (by simp only [argBest, hb, Bool.false_eq_true, if_false]; exact hPb) hS' fun v' h'' tk'' hP' hk'' => hR v' h'' tk'' hP' fun b o hbw hbS e => hk'' b o hbw hbS (hk' b o hbw e)⟩
/-- the whole of it: the greatest, or the default where there is none -/
theorem mx_all (W : Walks prog w A.in1 I fp wr n P St) (bt : Nat → Nat → Bool) (hcmp : CmpOf prog w A.in1 .Gt P bt) (S : Addr) (hSf : S ∉ fp) {s : Shared} {c : Nat} (hst : St 0 s.heap) (hS : s.heap.get? S = some (mxBest #[] c))
    (hR : ∀ v h' tk, ((0 < n ∧ P (argBest bt (n - 1)) v) ∨ (n = 0 ∧ v = dv)) → (∀ b o, b ∉ wr → b ≠ S → s.heap.get? b = some o → h'.get? b = some o) → R (.ok (.ret v)) { s with heap := h', toks := tk }) : codeAny (model prog w) A (mxCode I S dv) R s := by
  have hSw : S ∉ wr := fun h => hSf (W.sub _ h)
  refine codeAny_builtin F.entry_max_loop ?_
  rw [Around.under_plainId F.plain_max_loop _]
  show wpAny _ A.in1 (seqItems? (.ref S) >>= _) _ _ s
  refine wpAny_bind (wpAny_seqItems hS rfl ?_)
  show wpAny _ A.in1 (tryCatch (pyNext (.ref I)) _ >>= _) _ _ s
  rcases Nat.eq_zero_or_pos n with z | hn
  · refine wpAny_bind (wpAny_tryCatch (W.done s _ _ (z ▸ hst) fun h' tk hk' => ?_))
    exact wpAny_bind (wpAny_rule (wpAny_pure (hR dv h' tk (.inr ⟨z, rfl⟩) fun b o hbw _ e => hk' b o hbw e)))
  · refine wpAny_bind (wpAny_tryCatch (W.item 0 s _ _ hn hst fun v h' tk hP hst' hk' => ?_))
    have hS' := hk' S _ hSw hS
    show wpAny _ A.in1 (updateSeq S (fun _ => #[v, v]) >>= _) _ _ _
    refine wpAny_bind (wpAny_updateSeq hS' rfl ?_)
    rw [mx_name]
    refine wpAny_pure ⟨plainId_quiet F.plain_max_loop _, mx_more W bt hcmp S hSf _ 0 _ v _ rfl hn (W.frame _ _ _ hst' fun b hbf o e => ?_) hP (Heap.get?_update_self _ hS' rfl) fun v' h'' tk'' hP' hk'' => ?_⟩
    · exact (Heap.get?_update_other _ _ (fun h : S = b => hSf (by rw [h]; exact hbf))).trans e
    · exact hR v' h'' tk'' (.inl ⟨hn, hP'⟩) fun b o hbw hbS e => hk'' b o hbw hbS ((Heap.get?_update_other _ _ (Ne.symm hbS)).trans (hk' b o hbw e))
end
section
variable {prog : Program} {w : World} {A : Around} {E : Value → Shared → Prop} {Q : Value → Shared → Prop} {s : Shared}
theorem mx_call {a : Addr} {xs : Array (Int × Tok)} {d : Int} {td : Tok} (hh : A.handled = none) (hl : s.heap.IsList a (intItems xs) ∨ s.heap.IsTuple a (intItems xs))
    (h : ∀ h' tk M t', (∀ b o, s.heap.get? b = some o → h'.get? b = some o) → ((xs.size = 0 ∧ M = d) ∨ (M ∈ xs.toList.map (·.1) ∧ ∀ x ∈ xs.toList.map (·.1), x ≤ M)) → Q (.int M t') { s with heap := h', toks := tk }) :
    wpAny (model prog w) A (call (.builtin "max") [.ref a] [(Str.ofString "default", .int d td)]) Q E s := by
  have fin : ∀ (v : Value) (s2 : Shared) (h' : Heap) (tk : Nat), s2 = { s with heap := s2.heap } → (∀ b o, s.heap.get? b = some o → h'.get? b = some o) → ((0 < (intItems xs).size ∧ (intItems xs)[argBest (fun i j => decide (numAt xs i > numAt xs j)) ((intItems xs).size - 1)]? = some v) ∨ ((intItems xs).size = 0 ∧ v = .int d td)) → Q v { s2 with heap := h', toks := tk } := by
    intro v s2 h' tk e2 hk hv
    rw [e2]
    have sz : (intItems xs).size = xs.size := by simp [intItems]
    rw [sz] at hv
    rcases hv with ⟨hn, hv⟩ | ⟨z, rfl⟩
    · obtain ⟨t', rfl⟩ := intItems_at hv
      obtain ⟨h1, h2⟩ := argBest_gt (numAt xs) (xs.size - 1)
      refine h h' tk _ t' hk (.inr ⟨?_, fun x hx => ?_⟩)
      · rw [numAt_eq]; exact getD_mem (by rw [List.length_map, Array.length_toList]; omega)
      · obtain ⟨j, hj, rfl⟩ := mem_getD hx
        rw [List.length_map, Array.length_toList] at hj
        rw [← numAt_eq]; exact h2 j (by omega)
    · exact h h' tk d td hk (.inl ⟨z, rfl⟩)
  have go : ∀ (fp wr : List Addr) (St : Nat → Heap → Prop) (s2 : Shared), s2 = { s with heap := s2.heap } → (∀ b o, s.heap.get? b = some o → s2.heap.get? b = some o) → Walks prog w A.in1 s.heap.objs.size fp wr (intItems xs).size (fun i v => (intItems xs)[i]? = some v) St → St 0 s2.heap → (∀ b ∈ fp, b < s2.heap.objs.size) → (∀ b ∈ wr, s.heap.get? b = none) →
      wpAny (model prog w) A.in1 (newList [] >>= fun l => (again (.builtin (toString "max" ++ toString ".loop") ⟨[.ref s.heap.objs.size, .none, l], [(Str.ofString "default", .int d td)]⟩) : Sem Fin)) (fun fin s' => match fin with
        | .done f => (match (Except.ok f : Result) with | .ok (.ret v) => Q v s' | .ok _ => False | .error e => E e s')
        | .again c' => c'.quiet = true ∧ codeAny (model prog w) A c' (fun r s' => match r with | .ok (.ret v) => Q v s' | .ok _ => False | .error e => E e s') s') E s2 := by
    intro fp wr St s2 e2 k2 W st hfp hwr
    refine wpAny_bind (wpAny_newObj_type ?_)
    have hSf : s2.heap.objs.size ∉ fp := fun z => Nat.lt_irrefl _ (hfp _ z)
    rw [mx_name]
    refine wpAny_pure ⟨plainId_quiet F.plain_max_loop _, mx_all W _ (CmpOf.ints_gt (numAt xs) (fun _ _ => intItems_at)) s2.heap.objs.size hSf (W.frame _ _ _ st fun b _ o e => Heap.get?_push_of_some _ e) (Heap.get?_push_size _ rfl) fun v h' tk hv hk => ?_⟩
    exact fin v s2 h' tk e2 (fun b o e => hk b o (fun z => by rw [hwr b z] at e; cases e) (Nat.ne_of_lt (Heap.lt_size (k2 b o e))) (Heap.get?_push_of_some _ (k2 b o e))) hv
  have new : ∀ b ∈ [s.heap.objs.size], s.heap.get? b = none := fun b hb => by rw [List.mem_singleton.mp hb]; exact Heap.get?_none_of_le (Nat.le_refl _)
  refine PyProof.Rows.kmb_tree F.kind_max F.plain_max F.entry_max (args_maxd _ _) ?_
  show wpAny _ A.in1 (Builtin.Builtins.bindParams "max" ["key", "default"] 0 ⟨[], [(Str.ofString "default", .int d td)]⟩ >>= _) _ _ s
  refine wpAny_bind (wpAny_of_eq (show Builtin.Builtins.bindParams "max" ["key", "default"] 0 ⟨[], [(Str.ofString "default", .int d td)]⟩ = pure [none, some (.int d td)] from rfl) ?_)
  refine wpAny_bind (wpAny_pure (wpAny_bind ?_))
  have pairs : ∀ {b : Addr}, b < s.heap.objs.size → ∀ (o : Obj), ∀ c ∈ [s.heap.objs.size, b], c < (s.heap.push o).objs.size := fun {b} hb o c hc => by
    rw [Heap.size_push]
    rcases List.mem_cons.mp hc with rfl | hc
    · exact Nat.lt_succ_self _
    · rw [List.mem_singleton.mp hc]; exact Nat.lt_succ_of_lt hb
  rcases hl with hl | hl
  · obtain ⟨o, ho, _⟩ := id hl
    refine wpAny_pyIter_list hl ?_
    exact go _ _ _ _ rfl (fun b o e => Heap.get?_push_of_some _ e) (Walks.list (A := A.in1) hh s.heap.objs.size a (Nat.ne_of_lt (Heap.lt_size ho)) (intItems xs)) ⟨⟨_, Heap.get?_push_size _ rfl, rfl, rfl⟩, hl.at fun o e => Heap.get?_push_of_some _ e⟩ (pairs (Heap.lt_size ho) _) new
  · obtain ⟨o, ho, _⟩ := id hl
    refine wpAny_pyIter_tuple hl ?_
    exact go _ _ _ _ rfl (fun b o e => Heap.get?_push_of_some _ e) (Walks.tuple (A := A.in1) hh s.heap.objs.size a (Nat.ne_of_lt (Heap.lt_size ho)) (intItems xs)) ⟨⟨_, Heap.get?_push_size _ rfl, rfl, rfl⟩, hl.at fun o e => Heap.get?_push_of_some _ e⟩ (pairs (Heap.lt_size ho) _) new
end
section
variable {X : Cx}
def tMaxd (K : PySem.W.Frag) (d : Int) (ta : TA) : TE := fun σ H Q => ta σ H fun vs H1 => ∃ (a : Addr) (ns : List Int), vs = [.ref a] ∧ (SqL K H1 a (ns.map V.int) ∨ SqT K H1 a (ns.map V.int)) ∧ ∀ M : Int, ((ns = [] ∧ M = d) ∨ (M ∈ ns ∧ ∀ x ∈ ns, x ≤ M)) → Q (.int M) H1
theorem pe_maxd {e : Expr} {ta : TA} {p pos kp kq : Pos} {j} {d : Int} (hc : X.calm = true) (hg : Gl X "max") (hm : X.mg "max" = none) (ha : PA X [e] ta)
    (h1 : backTo pos (starEach [e] X.env) = (false, eval e X.env) :: backTo pos (starEach [] X.env) := by rfl) (h2 : (backTo pos (starEach [e] X.env)).any (·.1) = false := by rfl) :
    PE X (.Call (.Name "max" p) [e] [⟨some (Str.ofString "default"), .Constant (.int d) j kq, kp⟩] pos) (tMaxd X.K d ta) := by
  intro pins s σ H Q I h
  refine wpAny_Call_Name_kw (ld_blt I hg hm boot_max ?_)
  refine callWith_kw (thn (ha pos pins s σ H _ I h) fun us s1 ⟨vs, H1, I1, r1, q1⟩ => ?_) h1 h2
  obtain ⟨a, ns, rfl, hq, q⟩ := q1
  obtain ⟨u, rfl, ru⟩ := vals1 r1
  cases ru
  refine kws_cons (wpAny_Constant_int (kws_nil ?_))
  have I2 := I1.tok (s1.toks + 1)
  have key : ∀ (its : List Value), Vals (ns.map V.int) its → (s1.heap.IsList a its.toArray ∨ s1.heap.IsTuple a its.toArray) → wpAny (model X.prog X.w) X.A (call (.builtin "max") [.ref a] [(Str.ofString "default", .int d s1.toks)]) (EP X pins σ Q) X.xe { s1 with toks := s1.toks + 1 } := by
    intro its rv hl
    obtain ⟨xs, hx⟩ := (intsAre_of rv).allInts.items
    have hn : xs.toList.map (·.1) = ns := by
      have e1 : numsOf its.toArray.toList = ns := by rw [show its.toArray.toList = its from rfl, (intsAre_of rv).numsOf]
      rw [hx, nums_intItems] at e1
      exact e1
    rw [hx] at hl
    refine mx_call (I.ok.hd hc) hl fun h' tk M t' hk hM => ⟨.int M, H1, I2.kept (t' := tk) hk, ⟨t', rfl⟩, q M ?_⟩
    rw [hn] at hM
    rcases hM with ⟨z, e⟩ | hM
    · refine .inl ⟨?_, e⟩
      rw [← hn]
      have : xs = #[] := Array.size_eq_zero_iff.mp z
      rw [this]; rfl
    · exact .inr hM
  rcases hq with hq | hq
  · obtain ⟨its, rv, ht, _⟩ := I1.list hq
    exact key its rv (.inl ht.isList)
  · obtain ⟨its, rv, ht, _⟩ := I1.tuple hq
    exact key its rv (.inr ht)
end
end L2.Ev

namespace L2.Ev
open PySem PySem.Spec PyProof.Rows
open L2.Pl
section
variable {X : Cx} {α : Type} [D : Dat α]
end
end L2.Ev

namespace L2.Ev
open PySem PyProof.Rows
open L2.Pl
section
variable {X : Cx}
end
end L2.Ev

namespace L2.Ev
open PySem PySem.Spec PyProof.Rows
open L2.Pl
theorem drawsSK {prog : Program} {w : World} {A : Around} (hh : A.handled = none) (k : SK) (it l : Addr) (ne : l ≠ it) (xs : Array Value) :
    Draws prog w A it [it, l] xs.size (fun i x => xs[i]? = some x) (fun i h => k.iter h it l i ∧ k.seq h l xs) where
  live := fun i h st => by
    cases k with
    | lst => obtain ⟨⟨o, e, _⟩, _⟩ := st; exact ⟨o, e⟩
    | tup => obtain ⟨⟨o, e, _⟩, _⟩ := st; exact ⟨o, e⟩
  frame := fun i h h' st q => ⟨SK.iter_keep st.1 fun o e => q it (by simp) o e, SK.seq_keep st.2 fun o e => q l (by simp) o e⟩
  item := fun i s Q E hi st q => SK.next st.1 st.2 (Array.getElem?_eq_getElem hi) fun h' p sb => q xs[i] h' s.toks (Array.getElem?_eq_getElem hi) ⟨p, SK.seq_keep st.2 fun o e => sb.extBut _ _ ne e⟩ sb
  done := fun s Q E st q => SK.stop hh st.1 st.2 (by simp) q
structure ESt (k : SK) (e it l : Addr) (i : Nat) (h : Heap) : Prop where
  he : ∃ old, IsEnum h e it (i : Int) old
  hi : k.iter h it l i
theorem e_newT (l : Addr) (xs : Array Value) :
    Meets (Builtin.«enumerate.__new__» ⟨[.type "enumerate", .ref l], []⟩) (fun _ R s => s.heap.IsTuple l xs ∧ R (.ok (.ret (.ref (s.heap.push (SK.tup.ob l)).objs.size))) { s with heap := (s.heap.push (SK.tup.ob l)).push { cls := .type "enumerate", data := .fields #[.none, .bool false, .ref s.heap.objs.size, rawInt 0, .none, .none] } }) :=
  .of_wp fun prog w A R s h => by
    obtain ⟨hp, g, d, tk, os⟩ := s
    obtain ⟨w1, h⟩ := h
    have hsub := sub_enumerate
    have w1 : Heap.IsTuple (Shared.heap ⟨hp, g, d, tk, os⟩) l xs := w1
    obtain ⟨o, ho, _⟩ := id w1
    wp_walk using AutoSeq1.wpAny_loadPart' ho, wpAny_pyIter_tuple w1
    refine wpAny_stack_any fun st => wpAny_pure ?_
    split
    · rename_i c _ _ _ _ _
      cases (c == Value.type "enumerate") <;> (wp_walk using AutoSeq1.wpAny_loadPart' ho, wpAny_pyIter_tuple w1; exact ⟨_, rfl, h⟩)
    · wp_walk using AutoSeq1.wpAny_loadPart' ho, wpAny_pyIter_tuple w1
      exact ⟨_, rfl, h⟩
theorem e_call {k : SK} {l : Addr} {xs : Array Value} {Q : Value → Shared → Prop} {prog : Program} {w : World} {A : Around} {E : Value → Shared → Prop} {s : Shared} (hl : k.seq s.heap l xs)
    (h : ∀ h', ESt k (s.heap.objs.size + 1) s.heap.objs.size l 0 h' → (∀ c o, s.heap.get? c = some o → h'.get? c = some o) → Q (.ref (s.heap.objs.size + 1)) { s with heap := h' }) :
    wpAny (model prog w) A (call (.type "enumerate") [.ref l]) Q E s := by
  cases k with
  | lst => exact call_enumerate_list hl fun h' a b _ q => h h' ⟨⟨_, a⟩, b⟩ q
  | tup =>
    refine callType_new F.called_enumerate (by decide) (F.typeCall_enumerate_1 _) (F.newCall_enumerate_1 _) (fun obj => F.args_object_init_2 obj _) F.entry_enumerate_new (e_newT l xs) ⟨hl, ?_⟩
    have e1 : (s.heap.push (SK.tup.ob l)).objs.size = s.heap.objs.size + 1 := Heap.size_push ..
    have g2 : ((s.heap.push (SK.tup.ob l)).push { cls := .type "enumerate", data := .fields #[.none, .bool false, .ref s.heap.objs.size, rawInt 0, .none, .none] }).get? (s.heap.push (SK.tup.ob l)).objs.size = some _ := Heap.get?_push_size _ rfl
    have fin := h _ ⟨⟨.none, by rw [e1] at g2; exact g2⟩, SK.iter_new (k := .tup) (Heap.get?_push_of_some _ (Heap.get?_push_size _ rfl))⟩ fun c o e => Heap.get?_push_of_some _ (Heap.get?_push_of_some _ e)
    rw [← e1] at fin
    exact ⟨⟨_, g2, rfl⟩, fin⟩
def Ite (K : PySem.W.Frag) (k : SK) (a : Addr) : It :=
  ⟨fun i H => ∃ xs x, k.is K H a xs ∧ xs[i]? = some x,
   fun i H v H' => ∃ p x, v = .ref p ∧ H p = none ∧ H' = upd H p (.tup [.int i, x]) ∧ ∀ xs, k.is K H a xs → xs[i]? = some x,
   fun i H => ∃ xs, k.is K H a xs ∧ xs.length ≤ i⟩
theorem turn_enum {P : Program} {w : World} {K : PySem.W.Frag} {elts : List Expr} {x1} {pos : Pos} (k : SK) (a e it : Addr) (ne : e ≠ it) :
    Turn P w K (.Tuple elts x1 pos) (Ite K k a) [e, it] e (fun i h => ESt k e it a i h) where
  mem := by simp
  obj := fun i h st c hc => by
    obtain ⟨⟨old, he⟩, h1⟩ := st
    simp only [List.mem_cons, List.not_mem_nil, or_false] at hc
    rcases hc with rfl | rfl
    · exact ⟨_, he, fun v q => by cases (show Data.fields _ = Data.cell v from q)⟩
    · cases k with
      | lst => obtain ⟨o, e, _, d⟩ := h1; exact ⟨o, e, fun v q => by rw [d] at q; cases q⟩
      | tup => obtain ⟨o, e, _, d⟩ := h1; exact ⟨o, e, fun v q => by rw [d] at q; cases q⟩
  keep := fun i h h' st q => by
    obtain ⟨⟨old, he⟩, h1⟩ := st
    exact ⟨⟨old, q e (by simp) _ he⟩, SK.iter_keep h1 fun o x => q it (by simp) o x⟩
  item := by
    intro X hP hw hK hc i pins s σ H E I hf st hg
    subst hP hw hK
    obtain ⟨xs, x, q1, hx⟩ := hg
    obtain ⟨its, r1, p1⟩ := SK.at I q1
    obtain ⟨u, hu, ru⟩ := r1.get hx
    have fe := hf e (by simp)
    have fi := hf it (by simp)
    have ae : a ≠ e := sq_ne I q1 fe
    have ai : a ≠ it := sq_ne I q1 fi
    obtain ⟨⟨old, he⟩, h1⟩ := id st
    have lt : i < its.toArray.size := by
      have := (List.getElem?_eq_some_iff.mp hu).1
      simpa using this
    refine wpAny_pyNext_enum_itemD (drawsSK (A := X.A.in1) (I.ok.hd hc) k it a ai its.toArray) he ⟨h1, p1⟩ lt ne (by simp only [List.mem_cons, List.not_mem_nil, or_false, not_or]; exact ⟨ne, ae.symm⟩) fun v h' tk hv a1 a2 a3 _ a4 => ?_
    have hv' : u = v := by
      have : its[i]? = some v := by simpa using hv
      rw [hu] at this
      exact Option.some.inj this
    subst hv'
    refine ⟨_, rfl, wpAny_letOwnedTupleGo_enum (s := { s with heap := h', toks := tk + 1 }) a1 fun h'' b1 b2 => ?_⟩
    have kp : ∀ c o, c ∉ [e, it] → s.heap.get? c = some o → h''.get? c = some o := fun c o hc x => by
      simp only [List.mem_cons, List.not_mem_nil, or_false, not_or] at hc
      exact b2.extBut _ _ hc.1 (a4 c o hc.1 hc.2 x)
    have elt : e < s.heap.objs.size := Heap.lt_size he
    have hT := b2.extBut _ _ (Nat.ne_of_gt elt) a3
    have hn : H s.heap.objs.size = none := I.fresh
    have hok : HOk X.prog X.w (upd H s.heap.objs.size (.tup [.int i, x])) h'' := fun c o z => by
      by_cases hc : c = s.heap.objs.size
      · subst hc
        rw [upd_same] at z
        cases z
        exact ⟨by show 2 ≤ sizeLine; decide, [.int i tk, u], .cons ⟨tk, rfl⟩ (.cons ru .nil), ⟨_, hT, rfl, _, rfl⟩⟩
      · rw [upd_ne hc] at z
        refine (I.hok c o z).stay (fun d v2 hd q => kp d v2 (fun m => ?_) q) (fun d q => by rw [upd_ne (ne_of_none q hn)]; exact q) fun d xs q => by rw [upd_ne (ne_of_none q hn)]; exact q
        have z2 := (hf d m).1
        rcases hd with rfl | hd
        · rw [z] at z2; cases z2
        · rw [hd] at z2; cases z2
    have I9 : Inv X pins σ (upd H s.heap.objs.size (.tup [.int i, x])) { s with heap := h'', toks := tk + 1 } := turnedL (s := s) I hf kp (fun c hc => upd_ne (Nat.ne_of_lt hc)) hok
    refine ⟨.ref s.heap.objs.size, upd H s.heap.objs.size (.tup [.int i, x]), I9, rfl, ⟨s.heap.objs.size, x, rfl, hn, rfl, fun zs hz => by rw [SK.inj I hz q1]; exact hx⟩, ?_, fun c hc => ?_⟩
    · refine ⟨⟨u, ?_⟩, SK.iter_keep a2.1 fun o x => b2.extBut _ _ ne.symm x⟩
      rw [Int.natCast_add]
      exact b1
    · have hlt : c < s.heap.objs.size := by
        simp only [List.mem_cons, List.not_mem_nil, or_false] at hc
        rcases hc with rfl | rfl
        · exact elt
        · exact SK.iter_lt h1
      rw [upd_ne (Nat.ne_of_lt hlt)]
      exact (hf c hc).1
  done := by
    intro X hP hw hK hc i pins s σ H E I hf st hg
    subst hP hw hK
    obtain ⟨xs, q1, hx⟩ := hg
    obtain ⟨its, r1, p1⟩ := SK.at I q1
    have fe := hf e (by simp)
    have fi := hf it (by simp)
    have ai : a ≠ it := sq_ne I q1 fi
    have l1 := r1.length
    obtain ⟨⟨old, he⟩, h1⟩ := id st
    have hT : s.TypeIs (.ref e) "enumerate" := ⟨_, he, rfl⟩
    unfold pyNext
    refine wpAny_bind (wpAny_attempt (wpAny_callSpecial?_slot (name := Str.ofString "__next__") hT F.slot_enumerate_next (wpAny_call_entry F.slot_enumerate_next hT F.entry_enumerate_next ?_ (F.args_enumerate_next_1 _))))
    show wpAny _ _ (field (.ref e) 2 >>= fun _ => _) _ _ _
    refine wpAny_bind (wpAny_field he rfl (x := Value.ref it) rfl (wpAny_bind (SK.stop (show X.A.in1.handled = none from I.ok.hd hc) h1 p1 (by simp; omega) fun h' z q hz => ?_)))
    obtain ⟨o, ho, hcl⟩ := hz
    refine wpAny_bind (wpAny_isInstance (T := "StopIteration") (b := true) ⟨o, ho, hcl⟩ isSubtype_stop (wpAny_pure ⟨rfl, ?_⟩))
    have kp : ∀ c o, c ∉ [it] → s.heap.get? c = some o → h'.get? c = some o := fun c o hc x => q c o (by simpa using hc) x
    have hf1 : ∀ c ∈ [it], FpOk X pins H c := fun c hc => by rw [List.mem_singleton.mp hc]; exact fi
    refine turnedL (h' := h') (t' := s.toks) I hf1 kp (fun c _ => rfl) fun c o z => ?_
    refine (I.hok c o z).stay (fun d v2 hd q => kp d v2 (fun m => ?_) q) (fun d q => q) fun d xs q => q
    have z2 := (hf1 d m).1
    rcases hd with rfl | hd
    · rw [z] at z2; cases z2
    · rw [hd] at z2; cases z2
  self := fun _ _ _ _ _ st h => by
    obtain ⟨⟨old, he⟩, _⟩ := st
    exact wpAny_pyIter_enum he h
def iEnum (K : PySem.W.Frag) (k : SK) (ta : TA) : TI := fun σ H R => ta σ H fun vs H1 => ∃ a, vs = [.ref a] ∧ (∃ xs, k.is K H1 a xs) ∧ R (Ite K k a) H1
theorem pi_enum {X : Cx} {ea : Expr} {ta : TA} {p pos tp : Pos} {elts : List Expr} {x1} (k : SK) (hg : Gl X "enumerate") (hm : X.mg "enumerate" = none) (ha : PA X [ea] ta) (hs : starEach [ea] X.env = (false, eval ea X.env) :: starEach [] X.env := by rfl) (hs2 : (backTo pos (starEach [] X.env)).any (·.1) = false := by rfl) :
    PI X (.Tuple elts x1 tp) (.Call (.Name "enumerate" p) [ea] [] pos) (iEnum X.K k ta) := by
  intro pins s σ H R I h
  refine Call_ (ld_blt I hg hm boot_enumerate (PyProof.Rows.callWith_type1 (thn (ha pos pins s σ H _ I h) fun us s1 ⟨vs, H1, I1, r1, q1⟩ => ?_) hs hs2))
  obtain ⟨a, rfl, ⟨xs, ex⟩, q⟩ := q1
  obtain ⟨u, rfl, ru⟩ := vals1 r1
  cases ru
  obtain ⟨its, r1, p1⟩ := SK.at I1 ex
  refine e_call p1 fun h' Z kp => ?_
  obtain ⟨⟨old, he⟩, _⟩ := id Z
  refine wpAny_pyIter_enum he ?_
  have I2 : Inv X pins σ H1 { s1 with heap := h' } := I1.kept (t' := s1.toks) kp
  refine ⟨_, [s1.heap.objs.size + 1, s1.heap.objs.size], _, _, H1, rfl, I2, turn_enum k a _ _ (Nat.succ_ne_self _), Z, fun c hc => ?_, q⟩
  have ge : s1.heap.objs.size ≤ c := by
    simp only [List.mem_cons, List.not_mem_nil, or_false] at hc
    rcases hc with rfl | rfl
    · exact Nat.le_add_right _ _
    · exact Nat.le_refl _
  exact I1.fpOk ge (I1.hok.fresh ge)
theorem for_enum {K : PySem.W.Frag} {k : SK} {a : Addr} {xs : List V} {g : TG} {tb : TS} {D : Ends} {σ : St} {H : Hp} (Pv : Nat → St → Hp → Prop) (h0 : Pv 0 σ H) (hl : ∀ i σ H, Pv i σ H → k.is K H a xs)
    (hs : ∀ i x p σ H, xs[i]? = some x → H p = none → Pv i σ H → g (.ref p) σ (upd H p (.tup [.int i, x])) fun σ2 H2 => tb { D with nx := Pv (i + 1), ct := Pv (i + 1), bk := D.nx } σ2 H2) (hd : ∀ σ H, Pv xs.length σ H → D.nx σ H) :
    ∃ W : Nat → Nat → St → Hp → Prop, (∃ m, W 0 m σ H) ∧ ∀ i m σ H, W i m σ H →
      ((Ite K k a).stop i H ∧ D.nx σ H) ∨ ((Ite K k a).go i H ∧ ∃ N : St → Hp → Prop, (∀ σ' H', N σ' H' → ∃ m', m' < m ∧ W (i + 1) m' σ' H') ∧ ∀ x H', (Ite K k a).yld i H x H' → g x σ H' fun σ2 H2 => tb { D with nx := N, ct := N, bk := D.nx } σ2 H2) := by
  refine ⟨fun i m σ H => m = xs.length - i ∧ i ≤ xs.length ∧ Pv i σ H, ⟨xs.length, by simp, Nat.zero_le _, h0⟩, ?_⟩
  rintro i m σ H ⟨rfl, hi, p⟩
  have l1 := hl i σ H p
  by_cases hlt : i < xs.length
  · refine .inr ⟨⟨xs, xs[i], l1, List.getElem?_eq_getElem (by omega)⟩, Pv (i + 1), fun σ' H' p' => ⟨xs.length - (i + 1), by omega, rfl, hlt, p'⟩, fun x H' y => ?_⟩
    obtain ⟨q, x, rfl, hq, rfl, hx⟩ := y
    exact hs i x q σ H (hx xs l1) hq p
  · have e : i = xs.length := by omega
    subst e
    exact .inl ⟨⟨xs, l1, Nat.le_refl _⟩, hd σ H p⟩
end L2.Ev

namespace L2.Ev
open PySem PySem.Spec PyProof.Rows
open L2.Pl
/-! ### texts as data -/
instance datStr : Dat Str where
  is := fun _ v b => v = .str b
  mono := fun _ h => h
  inj := fun h h' => by rw [h] at h'; cases h'; rfl
  dep := 0
  eqb := fun a b => a == b
  eqb_iff := fun a b => beq_iff_eq
  eqAt := fun {X pins σ H s A v v' u u' a b} I hu h h' r r' => by
    subst h h'
    obtain ⟨t, rfl⟩ := r
    obtain ⟨t', rfl⟩ := r'
    exact SeqAt.EqAt.str_str _ _ _ _
section
variable {prog : Program} {w : World} {A : Around} {E : Value → Shared → Prop} {s : Shared}
theorem tuple_whole {t sl : Addr} {items : Array Value} {vl vu : Value} {lo hi : Option Int} {Q : Value → Shared → Prop} (ht : IsTup s.heap t items) (hs : s.heap.IsSliceOf sl vl vu .none) (pl : IsPart vl lo) (pu : IsPart vu hi)
    (w1 : HT.sIx items.size 0 lo = 0) (w2 : HT.sIx items.size items.size hi = items.size) (h : Q (.ref t) s) : wpAny (model prog w) A (getItem (.ref t) (.ref sl)) Q E s := by
  obtain ⟨os, hos, hcs, hds⟩ := id hs
  have hTs : s.TypeIs (.ref sl) "slice" := ⟨os, hos, hcs⟩
  unfold getItem
  try with_reducible refine wpAny_holding ?_
  first | refine wpAny_bind (wpAny_pure ?_) | skip
  refine wpAny_bind (wpAny_sequenceKey ht.typeIs (by decide) (wpAny_bind (wpAny_callSpecial?_slot (name := Str.ofString "__getitem__") ht.typeIs PyProof.Rows.slot_tuple_getitem (wpAny_call_entry PyProof.Rows.slot_tuple_getitem ht.typeIs entry_tuple_getitem ?_ (args_tuple_getitem _ _)))))
  show wpAny _ _ (Builtin.Tuple.tupleItemsOf (.ref t) >>= fun _ => _) _ _ s
  refine wpAny_bind (tupleItemsOf_ ht (wpAny_bind (wpAny_typeOf hTs ?_)))
  rw [if_pos (by decide)]
  refine wpAny_bind (HT.sliceApplied_gen hs pl pu ?_)
  rw [w1, w2]
  show wpAny _ _ (if (((0 : Nat) : Int) == 0 && (1 : Int) == 1 && (items.size - 0) == items.size) = true then _ else _) _ _ s
  rw [if_pos (by simp)]
  refine wpAny_bind ?_
  refine wpAny_bind (m := Builtin.Tuple.tupleIsExact (.ref t)) ?_
  unfold Builtin.Tuple.tupleIsExact
  refine wpAny_bind (wpAny_typeOf ht.typeIs (wpAny_pure (wpAny_pure ?_)))
  rw [if_pos (by decide)]
  exact wpAny_bind (wpAny_rule (wpAny_pure ⟨_, rfl, wpAny_pure h⟩))
end
section
variable {X : Cx}
def rSlTW (K : PySem.W.Frag) : V → Option Int → Option Int → Hp → VK → Prop := fun x lo hi H Q => ∃ a xs, x = .ref a ∧ SqT K H a xs ∧ HT.sIx xs.length 0 lo = 0 ∧ HT.sIx xs.length xs.length hi = xs.length ∧ Q (.ref a) H
theorem sl_tupW : SlR X (rSlTW X.K) := by
  intro pins s σ H x v vl vu lo hi sl Q I rx hs pl pu h
  obtain ⟨a, xs, rfl, hx, w1, w2, q⟩ := h
  cases rx
  obtain ⟨its, r, ht, hz⟩ := I.tuple hx
  have hlen : its.toArray.size = xs.length := by rw [List.size_toArray]; exact r.length.symm
  exact ⟨"tuple", _, PyProof.Rows.slot_tuple_getitem.lookup, ht.typeIs, tuple_whole ht hs pl pu (by rw [hlen]; exact w1) (by rw [hlen]; exact w2) ⟨.ref a, H, I, rfl, q⟩⟩
/-- t[1:] of ints -/
theorem sl_rest : SlR X (fun x lo hi H Q => ∃ (a : Addr) (r : List Int), x = .ref a ∧ lo = some 1 ∧ hi = none ∧ H a = some (.tup (r.map V.int)) ∧ ∀ (p : Addr) (H' : Hp), Same H H' → H' p = some (.tup ((r.drop 1).map V.int)) → Q (.ref p) H') := by
  intro pins s σ H x v vl vu lo hi sl Q I rx hs pl pu h
  obtain ⟨a, r, rfl, rfl, rfl, ha, q⟩ := h
  cases r with
  | nil => exact sl_tupW pins s σ H _ v vl vu _ _ sl Q I rx hs pl pu ⟨a, [], rfl, SqT.of ha, rfl, rfl, q a H (fun _ _ e => e) ha⟩
  | cons n r =>
    refine sl_tup pins s σ H _ v vl vu _ _ sl Q I rx hs pl pu ⟨a, _, rfl, SqT.of ha, fun z => ?_, fun p hp => ?_⟩
    · have z1 := z.1
      rw [show (1 : Int) = ((1 : Nat) : Int) from rfl, HT.sIx_nat, List.length_map, List.length_cons] at z1
      omega
    · refine q p _ (same_new hp _) ?_
      rw [upd_same]
      unfold cutV
      rw [show (1 : Int) = ((1 : Nat) : Int) from rfl, HT.sIx_nat, HT.sIx_none, List.length_map, List.length_cons, Nat.min_eq_left (by omega), List.take_of_length_le (by simp), List.map_drop]
end
end L2.Ev

set_option maxHeartbeats 4000000
namespace L2.K12
open PySem
open L2.Pl L2.Ev
def top (i : Nat) : Stmt := PySem.Challenge.pw_evenform_k12_rows_turned.main.body.getD i (.Pass ⟨0, 0, 0, 0⟩)
abbrev sRbr : Stmt := top 17
abbrev sCf : Stmt := top 18
abbrev sTo : Stmt := top 19
abbrev sTd : Stmt := top 20
abbrev sSt : Stmt := top 24
abbrev sCalled : Stmt := top 26
abbrev sRws : Stmt := top 28
abbrev sDue : Stmt := top 29
abbrev sBad : Stmt := top 30
abbrev sIsr : Stmt := top 31
abbrev sFlg : Stmt := top 32
abbrev sLaw : Stmt := top 33
section
variable {P : Program} {w : World} {K : PySem.W.Frag} {mg : Str → Option Value} {base : Heap} {f g : Addr} {fd gd : FuncData}
theorem pass10 {X : Cx} {P : Program} {w : World} : Passes (CX1 P w) X E0 := fun _ _ _ _ _ _ _ ⟨_, _, _, _, _, _, z⟩ => False.elim z
/-- a function of the module that may raise -/
structure HasX (P : Program) (w : World) (K : PySem.W.Frag) (mg : Str → Option Value) (base : Heap) (k : Nat) (x : Str) (ps : List Str) (sp : Sp) where
  f : Addr
  fd : FuncData
  ok : FnOk P w K mg base (CX1 P w) k f fd ps sp
  bd : Binds K fd ps []
  kp : PySem.W.keepIn K (.ref f) = true
  at_ : mg x = some (.ref f)
abbrev bmV : List Value := [.type "ValueError", .type "Exception", .type "BaseException", .type "object"]
/-- the class of an exception that is raised here -/
structure Exc1 (K : PySem.W.Frag) (mg : Str → Option Value) (x : Str) (C : Addr) : Prop where
  at_ : mg x = some (.ref C)
  is : PySem.W.excIn K C bmV "ValueError.__new__" = true
theorem cls_of_exc {K : PySem.W.Frag} {C : Addr} {bm : List Value} {n : String} (q : PySem.W.excIn K C bm n = true) : (PySem.W.clsIn K C).isSome = true := by
  unfold PySem.W.excIn at q
  split at q
  · rename_i dd cd sl ho
    unfold PySem.W.clsIn
    rw [ho]
    rfl
  · cases q
theorem kit_cls_of {K : PySem.W.Frag} {C C0 : Addr} {b : Bool} (h : PySem.W.kitOne K (.ref C) (.ref C0) = some b) (ne : C ≠ C0) : PySem.W.kitCls K (.ref C) (.ref C0) = some b := by
  unfold PySem.W.kitOne at h
  rwa [if_neg (fun z => ne (by injection (beq_iff_eq.mp z)))] at h
theorem kit_cls_ty {K : PySem.W.Frag} {C : Addr} {T : String} {b : Bool} (h : PySem.W.kitOne K (.ref C) (.type T) = some b) : PySem.W.kitCls K (.ref C) (.type T) = some b := by
  unfold PySem.W.kitOne at h
  rwa [if_neg (fun z => by cases beq_iff_eq.mp z)] at h
def rowB (r : List Int) : Bool := r.all (fun x => decide (1 ≤ x)) && ((List.range (r.length - 1)).all fun i => decide (r.getD (i + 1) 0 ≤ r.getD i 0)) && decide (r.sum ≤ 8)
abbrev nRb : List Str := ["row"]
abbrev bRb : List Str := ["number"]
abbrev bRb2 : List Str := ["number", "later"]
theorem ndRb : bRb.Nodup := by decide +kernel
theorem ndRb2 : bRb2.Nodup := by decide +kernel
theorem scRb : FnScope nRb nRb (defScope sRbr) := ⟨rfl, rfl, rfl, by decide +kernel, rfl, by decide +kernel, by decide +kernel⟩
def spRbr (cBR : Addr) : Sp := fun vs H Q E => ∃ (p : Addr) (r : List Int), vs = [.ref p] ∧ H p = some (.tup (r.map V.int)) ∧ r.length ≤ 1000 ∧ (rowB r = true → ∀ H', Same H H' → Q .non H') ∧ (rowB r = false → ∀ H', Same H H' → E (.ref cBR) none H')
theorem any_low (r : List Int) : (r.map fun x => decide (x < 1)).any id = !(r.all fun x => decide (1 ≤ x)) := by
  induction r with
  | nil => rfl
  | cons x r ih =>
    rw [List.map_cons, List.any_cons, List.all_cons, ih, Bool.not_and]
    have : id (decide (x < 1)) = !decide (1 ≤ x) := by
      by_cases c : x < 1
      · simp [c]
      · simp [c, show 1 ≤ x by omega]
    rw [this]
theorem any_rise (l : List Nat) (r : List Int) : (l.map fun i => decide (r.getD i 0 < r.getD (i + 1) 0)).any id = !(l.all fun i => decide (r.getD (i + 1) 0 ≤ r.getD i 0)) := by
  induction l with
  | nil => rfl
  | cons i l ih =>
    rw [List.map_cons, List.any_cons, List.all_cons, ih, Bool.not_and]
    have : id (decide (r.getD i 0 < r.getD (i + 1) 0)) = !decide (r.getD (i + 1) 0 ≤ r.getD i 0) := by
      by_cases c : r.getD i 0 < r.getD (i + 1) 0
      · rw [decide_eq_true c, decide_eq_false (by omega)]; rfl
      · rw [decide_eq_false c, decide_eq_true (by omega)]; rfl
    rw [this]
theorem int_at {r : List Int} {i : Nat} {v : V} (h : (r.map V.int)[i]? = some v) : v = .int (r.getD i 0) ∧ i < r.length := by
  rw [List.getElem?_map] at h
  rw [List.getD_eq_getElem?_getD]
  cases e : r[i]? with
  | none => rw [e] at h; cases h
  | some c => rw [e] at h; exact ⟨(Option.some.inj h).symm, (List.getElem?_eq_some_iff.mp e).1⟩
theorem ok_rbr {tk : Tok} {cBR : Addr} (F : Fun K "refuse_bad_row" "refuse_bad_row" sRbr f fd) (gU : mg "MOST_TOGETHER" = some (.int 8 tk)) (X1 : Exc1 K mg "BadRow" cBR) (ma : mg "any" = none) (mz : mg "zip" = none) (ms : mg "sum" = none) : FnOk P w K mg base (CX1 P w) 2 f fd nRb (spRbr cBR) := by
  refine Fun.okx F scRb (fun vs H Q E h => ?_) (fun cdv A outer s H vs Q E hr h => ?_)
  · obtain ⟨p, r, rfl, _⟩ := h
    rfl
  obtain ⟨p, r, rfl, hp, hl, q, e⟩ := h
  refine ⟨_, pss_cons (ps_if (pt_val (pe_callB (call_anyL rfl) rfl ma PyProof.Rows.boot_any (pa_cons (pe_comp (N' := bRb) (src := [none]) rfl (pi_tup (pv 0)) (bk_of (defScope sRbr) nRb (by decide +kernel))
        (fun b => pg_name (i := 0) ndRb rfl (Or.inl rfl)) (fun b => pts_nil) (fun b => pe_cmpR op_lt (pv 0) pe_int (nomark _))) pa_nil))) (pss_one (ps_raise rfl rs1 PySem.F.excBase_ValueError rfl X1.at_ X1.is (pa_cons pe_str pa_nil))) pss_nil)
    (pss_cons (ps_if (pt_val (pe_callB (call_anyL rfl) rfl ma PyProof.Rows.boot_any (pa_cons (pe_comp (N' := bRb2) (src := [none, none]) rfl (pi_zip .tup .tup rfl mz (pa_cons (pv 0) (pa_cons (pe_slice sl_rest (pv 0) (po_some pe_int) po_none) pa_nil))) (bk_of (defScope sRbr) nRb (by decide +kernel))
        (fun b => pg_tup rfl (pgs_cons (pg_name (i := 0) ndRb2 rfl (Or.inl rfl)) (pgs_cons (pg_name (i := 1) ndRb2 rfl (Or.inl rfl)) pgs_nil))) (fun b => pts_nil) (fun b => pe_cmpR op_gt (pv 1) (pv 0) (nomark _))) pa_nil))) (pss_one (ps_raise rfl rs1 PySem.F.excBase_ValueError rfl X1.at_ X1.is (pa_cons pe_str pa_nil))) pss_nil)
    (pss_one (ps_if (pt_cmpR op_gt (pe_callB (call_sumT rfl) rfl ms PyProof.Rows.boot_sum (pa_cons (pv 0) pa_nil)) (pe_glob (v := .int 8) rfl gU ⟨_, rfl⟩) (nomark _)) (pss_one (ps_raise rfl rs1 PySem.F.excBase_ValueError rfl X1.at_ X1.is (pa_cons pe_str pa_nil))) pss_nil))), ?_⟩
  have sz : 1 ≤ sizeLine := by decide
  refine ⟨_, rfl, p, rfl, ⟨_, SqT.of hp⟩, fun bk D hD => ?_⟩
  refine comp_tup (α := Bool) hD (SqT.of hp) (fun σ => ∃ c, σ = [c]) (fun i => (r[i]?).bind fun x => some (decide (x < 1))) (small (by rw [List.length_map]; omega)) ?_ ?_ ?_
  · exact ⟨_, rfl⟩
  · rintro i v σ H2 Yes No hv ⟨c, rfl⟩ s3 yes no
    obtain ⟨x, hx, rfl⟩ : ∃ x, r[i]? = some x ∧ V.int x = v := by
      rw [List.getElem?_map] at hv
      cases e : r[i]? with
      | none => rw [e] at hv; cases hv
      | some y => rw [e] at hv; exact ⟨y, rfl, Option.some.inj hv⟩
    refine nameYes ?_
    refine ⟨_, rfl, _, _, rfl, rfl, ?_⟩
    exact yes _ _ _ _ ⟨_, rfl⟩ (fun _ _ e => e) (by rw [hx]; rfl) rfl
  rintro H1 s1 ⟨ws, eD, iD⟩
  have e0 : (List.range (r.map V.int).length).filterMap (fun i => (r[i]?).bind fun x => some (decide (x < 1))) = r.map fun x => decide (x < 1) := by
    rw [List.length_map, range_map, List.filterMap_eq_map']
  rw [its_bools iD, e0] at eD
  refine ⟨D, _, rfl, SqL.of eD, _, rfl, ?_⟩
  rw [any_low]
  cases c1 : r.all fun x => decide (1 ≤ x) with
  | false => exact iteT ⟨sz, e (by unfold rowB; rw [c1]; rfl) _ s1⟩
  | true =>
  refine iteF ?_
  have hp1 := s1 _ _ hp
  refine ⟨_, rfl, _, rfl, 1, rfl, p, r, rfl, rfl, rfl, hp1, fun t H2 s2 ht => ⟨p, t, rfl, ⟨_, SqT.of (s2 _ _ hp1)⟩, ⟨_, SqT.of ht⟩, fun bk2 D2 hD2 => ?_⟩⟩
  refine comp_zip (α := Bool) (k1 := .tup) (k2 := .tup) hD2 (SqT.of (s2 _ _ hp1)) (SqT.of ht) (fun σ => ∃ c d, σ = [c, d]) (fun i => some (decide (r.getD i 0 < r.getD (i + 1) 0))) (small (by rw [List.length_map, List.length_map]; omega)) ?_ ?_ ?_
  · exact ⟨_, _, rfl⟩
  · rintro i x y p2 σ H3 Yes No hx hy h2 ⟨c, d, rfl⟩ s3 yes no
    obtain ⟨rfl, _⟩ := int_at hx
    obtain ⟨rfl, _⟩ := int_at hy
    refine ⟨p2, _, rfl, SqT.of upd_same, rfl, _, _, rfl, _, _, rfl, rfl, ?_⟩
    refine yesT ?_
    refine ⟨_, rfl, _, rfl, _, _, rfl, rfl, ?_⟩
    refine yes _ _ _ _ ⟨_, _, rfl⟩ (same_new h2 _) rfl ?_
    show V.bl (decide (r.getD i 0 < (r.drop 1).getD i 0)) = V.bl (decide (r.getD i 0 < r.getD (i + 1) 0))
    rw [show (r.drop 1).getD i 0 = r.getD (i + 1) 0 by rw [List.getD_eq_getElem?_getD, List.getElem?_drop, List.getD_eq_getElem?_getD, Nat.add_comm 1 i]]
  rintro H4 s4 ⟨ws2, eD2, iD2⟩
  have e1 : (List.range (min (r.map V.int).length ((r.drop 1).map V.int).length)).filterMap (fun i => some (decide (r.getD i 0 < r.getD (i + 1) 0))) = (List.range (r.length - 1)).map fun i => decide (r.getD i 0 < r.getD (i + 1) 0) := by
    rw [List.length_map, List.length_map, List.length_drop, Nat.min_eq_right (by omega), List.filterMap_eq_map']
  rw [its_bools iD2, e1] at eD2
  have s14 := s1.trans (s2.trans s4)
  refine ⟨D2, _, rfl, SqL.of eD2, _, rfl, ?_⟩
  rw [any_rise]
  cases c2 : (List.range (r.length - 1)).all fun i => decide (r.getD (i + 1) 0 ≤ r.getD i 0) with
  | false => exact iteT ⟨sz, e (by unfold rowB; rw [c1, c2]; rfl) _ s14⟩
  | true =>
  refine iteF ?_
  refine ⟨_, rfl, p, r, rfl, SqT.of (s14 _ _ hp), _, _, rfl, rfl, _, rfl, ?_⟩
  by_cases c3 : 8 < r.sum
  · exact iteY c3 ⟨sz, e (by unfold rowB; rw [c1, c2, decide_eq_false (by omega)]; rfl) _ s14⟩
  · exact iteN c3 (q (by unfold rowB; rw [c1, c2, decide_eq_true (by omega)]; rfl) _ s14)
/-! count_from, turned -/
abbrev nCf : List Str := ["row", "least"]
abbrev bCf : List Str := ["number", "least"]
theorem ndCf : bCf.Nodup := by decide +kernel
theorem scCf : FnScope nCf nCf (defScope sCf) := ⟨rfl, rfl, rfl, by decide +kernel, rfl, by decide +kernel, by decide +kernel⟩
def cfr (r : List Int) (k : Int) : Int := ((r.filter fun x => decide (k ≤ x)).length : Int)
def spCf : Sp := fun vs H Q _ => ∃ (p : Addr) (r : List Int) (k : Int), vs = [.ref p, .int k] ∧ H p = some (.tup (r.map V.int)) ∧ r.length ≤ 1000 ∧ ∀ H', Same H H' → Q (.int (cfr r k)) H'
theorem filt_some (r : List Int) (c : Int → Prop) [DecidablePred c] (n : Nat) (h : n = r.length) : (List.range n).filterMap (fun i => (r[i]?).bind fun x => if c x then some x else none) = r.filter fun x => decide (c x) := by
  rw [h, range_map, filter_map_if]
  exact List.map_id _
theorem ok_cf (F : Fun K "count_from" "count_from" sCf f fd) (ml : mg "len" = none) : FnOk P w K mg base CX0 2 f fd nCf spCf := by
  refine F.ok scCf (fun vs H Q E h => ?_) (fun cdv A outer s H vs Q E hr h => ?_)
  · obtain ⟨p, r, k, rfl, _⟩ := h
    rfl
  obtain ⟨p, r, k, rfl, hp, hl, q⟩ := h
  refine ⟨_, pss_one (ps_ret (pe_callB call_len_seq rfl ml PySem.boot_len (pa_cons (pe_comp (N' := bCf) (src := [none, some 1]) rfl (pi_tup (pv 0)) (bk_of (defScope sCf) nCf (by decide +kernel))
      (fun b => pg_name (i := 0) ndCf rfl (Or.inl rfl)) (fun b => pts_one (pt_cmpR op_ge (pv 0) (pv 1) (nomark _))) (fun b => pv 0)) pa_nil))), ?_⟩
  refine ⟨_, rfl, p, rfl, ⟨_, SqT.of hp⟩, fun bk D hD => ?_⟩
  refine comp_tup (α := Int) hD (SqT.of hp) (fun σ => ∃ c, σ = [c, some (.int k)]) (fun i => (r[i]?).bind fun x => if k ≤ x then some x else none) (small (by rw [List.length_map]; omega)) ?_ ?_ ?_
  · exact ⟨_, rfl⟩
  · rintro i v σ H2 Yes No hv ⟨c, rfl⟩ s3 yes no
    obtain ⟨x, hx, rfl⟩ : ∃ x, r[i]? = some x ∧ V.int x = v := by
      rw [List.getElem?_map] at hv
      cases e : r[i]? with
      | none => rw [e] at hv; cases hv
      | some y => rw [e] at hv; exact ⟨y, rfl, Option.some.inj hv⟩
    refine ⟨_, rfl, _, rfl, _, _, rfl, rfl, _, rfl, ?_⟩
    by_cases c : k ≤ x
    · refine iteY c ⟨_, rfl, ?_⟩
      exact yes _ _ _ x ⟨_, rfl⟩ (fun _ _ e => e) (by rw [hx]; exact if_pos c) rfl
    · exact iteN c (no _ _ ⟨_, rfl⟩ (fun _ _ e => e) (by rw [hx]; exact if_neg c))
  rintro H1 s1 ⟨ws, eD, iD⟩
  have lw := Paired.length iD
  rw [filt_some r (fun x => k ≤ x) _ (by rw [List.length_map])] at lw
  refine ⟨D, _, rfl, .inl (SqL.of eD), ?_⟩
  rw [lw]
  exact q H1 s1
abbrev nTo : List Str := ["row"]
abbrev bTo : List Str := ["place", "row"]
theorem ndTo : bTo.Nodup := by decide +kernel
theorem scTo : FnScope nTo nTo (defScope sTo) := ⟨rfl, rfl, rfl, by decide +kernel, rfl, by decide +kernel, by decide +kernel⟩
def mxr (r : List Int) : Int := r.foldl max 0
def tov (r : List Int) : List Int := (List.range (mxr r).toNat).map fun (i : Nat) => cfr r ((i : Int) + 1)
theorem mxr_is {r : List Int} {M : Int} (nn : ∀ x ∈ r, 0 ≤ x) (h : (r = [] ∧ M = 0) ∨ (M ∈ r ∧ ∀ x ∈ r, x ≤ M)) : M = mxr r := by
  have key : ∀ (l : List Int) (a : Int), (a ≤ l.foldl max a ∧ (∀ x ∈ l, x ≤ l.foldl max a) ∧ (l.foldl max a = a ∨ l.foldl max a ∈ l)) := by
    intro l
    induction l with
    | nil => intro a; exact ⟨Int.le_refl _, by simp, .inl rfl⟩
    | cons y l ih =>
      intro a
      obtain ⟨h1, h2, h3⟩ := ih (max a y)
      rw [List.foldl_cons]
      refine ⟨by omega, fun x hx => ?_, ?_⟩
      · rcases List.mem_cons.mp hx with rfl | hx
        · omega
        · exact h2 x hx
      · rcases h3 with h3 | h3
        · rw [h3]
          by_cases c : a ≤ y
          · exact .inr (by rw [Int.max_eq_right c]; exact List.mem_cons_self ..)
          · exact .inl (by rw [Int.max_eq_left (by omega)])
        · exact .inr (List.mem_cons_of_mem _ h3)
  obtain ⟨h1, h2, h3⟩ := key r 0
  unfold mxr
  rcases h with ⟨rfl, rfl⟩ | ⟨hm, hM⟩
  · rfl
  · have a1 := h2 M hm
    rcases h3 with h3 | h3
    · have := nn M hm
      omega
    · have := hM _ h3
      omega
def spTo : Sp := fun vs H Q _ => ∃ (p : Addr) (r : List Int), vs = [.ref p] ∧ H p = some (.tup (r.map V.int)) ∧ r.length ≤ 1000 ∧ (∀ x ∈ r, 0 ≤ x) ∧ mxr r ≤ 1000 ∧ ∀ (t : Addr) (H' : Hp), Same H H' → H' t = some (.tup ((tov r).map V.int)) → Q (.ref t) H'
theorem ok_to (F : Fun K "turned_over" "turned_over" sTo f fd) (G : Has P w K mg base 2 "count_from" nCf spCf) (mx : mg "max" = none) (mr : mg "range" = none) (mt : mg "tuple" = none) : FnOk P w K mg base CX0 3 f fd nTo spTo := by
  refine F.ok scTo (fun vs H Q E h => ?_) (fun cdv A outer s H vs Q E hr h => ?_)
  · obtain ⟨p, r, rfl, _⟩ := h
    rfl
  obtain ⟨p, r, rfl, hp, hl, nn, hm, q⟩ := h
  refine ⟨_, pss_one (ps_ret (pe_callTy call_tuple_of rfl mt PyProof.Rows.boot_tuple (pa_cons (pe_comp (N' := bTo) (src := [none, some 0]) rfl
      (pi_range1 rfl mr (pa_cons (pe_maxd rfl rfl mx (pa_cons (pv 0) pa_nil)) pa_nil)) (bk_of (defScope sTo) nTo (by decide +kernel))
      (fun b => pg_name (i := 0) ndTo rfl (Or.inl rfl)) (fun b => pts_nil) (fun b => pe_has G hr rfl (pa_cons (pv 1) (pa_cons (pe_op op_add (pv 0) pe_int) pa_nil)))) pa_nil))), ?_⟩
  refine ⟨_, rfl, p, r, rfl, .inr (SqT.of hp), fun M hM => ?_⟩
  rw [mxr_is nn hM]
  have m0 : 0 ≤ mxr r := by
    rw [← mxr_is nn hM]
    rcases hM with ⟨_, rfl⟩ | ⟨hm, _⟩
    · exact Int.le_refl _
    · exact nn M hm
  refine ⟨_, rfl, by omega, by omega, fun bk D hD => ?_⟩
  refine comp_range (α := Int) hD (fun σ => ∃ c, σ = [c, some (.ref p)]) (fun (i : Nat) => some (cfr r ((i : Int) + 1))) (small (by omega)) ?_ ?_ ?_
  · exact ⟨_, rfl⟩
  · rintro i σ H2 Yes No hi ⟨c, rfl⟩ s3 yes no
    refine nameYes ?_
    refine ⟨_, rfl, _, rfl, _, _, rfl, rfl, p, r, _, rfl, s3 _ _ hp, hl, fun H4 s4 => ?_⟩
    rw [Int.zero_add]
    exact yes _ _ _ _ ⟨_, rfl⟩ s4 rfl rfl
  rintro H1 s1 ⟨ws, eD, iD⟩
  rw [its_ints iD, List.filterMap_eq_map'] at eD
  refine ⟨D, _, rfl, .inl ⟨SqL.of eD, fun t ht => ?_⟩⟩
  exact q t _ (s1.trans (same_new ht _)) upd_same
theorem scTd : FnScope nTo nTo (defScope sTd) := ⟨rfl, rfl, rfl, by decide +kernel, rfl, by decide +kernel, by decide +kernel⟩
theorem row_low {r : List Int} (h : rowB r = true) : (∀ x ∈ r, 1 ≤ x) ∧ r.sum ≤ 8 := by
  unfold rowB at h
  rw [Bool.and_eq_true, Bool.and_eq_true, List.all_eq_true, decide_eq_true_eq] at h
  exact ⟨fun x hx => of_decide_eq_true (h.1.1 x hx), h.2⟩
theorem sum_mem : ∀ {r : List Int}, (∀ x ∈ r, 0 ≤ x) → ∀ x ∈ r, x ≤ r.sum
  | [], _, x, hx => by simp at hx
  | y :: r, h, x, hx => by
    have h0 : 0 ≤ r.sum := by
      have : ∀ (l : List Int), (∀ x ∈ l, 0 ≤ x) → 0 ≤ l.sum := fun l => by
        induction l with
        | nil => intro _; exact Int.le_refl _
        | cons z l ih =>
          intro h
          rw [List.sum_cons]
          have := h z (List.mem_cons_self ..)
          have := ih fun x hx => h x (List.mem_cons_of_mem _ hx)
          omega
      exact this r fun x hx => h x (List.mem_cons_of_mem _ hx)
    rw [List.sum_cons]
    rcases List.mem_cons.mp hx with rfl | hx
    · omega
    · have := sum_mem (fun x hx => h x (List.mem_cons_of_mem _ hx)) x hx
      have := h y (List.mem_cons_self ..)
      omega
theorem mxr_le {r : List Int} {B : Int} (h0 : 0 ≤ B) (h : ∀ x ∈ r, x ≤ B) : mxr r ≤ B := by
  have key : ∀ (l : List Int) (a : Int), a ≤ B → (∀ x ∈ l, x ≤ B) → l.foldl max a ≤ B := by
    intro l
    induction l with
    | nil => intro a ha _; exact ha
    | cons y l ih =>
      intro a ha hl
      rw [List.foldl_cons]
      have := hl y (List.mem_cons_self ..)
      exact ih _ (by omega) fun x hx => hl x (List.mem_cons_of_mem _ hx)
  exact key r 0 h0 h
def spTd (cBR : Addr) : Sp := fun vs H Q E => ∃ (p : Addr) (r : List Int), vs = [.ref p] ∧ H p = some (.tup (r.map V.int)) ∧ r.length ≤ 1000 ∧ (rowB r = true → ∀ (t : Addr) (H' : Hp), Same H H' → H' t = some (.tup ((tov r).map V.int)) → Q (.ref t) H') ∧ (rowB r = false → ∀ H', Same H H' → E (.ref cBR) none H')
theorem ok_td {cBR : Addr} (F : Fun K "turned" "turned" sTd f fd) (GR : HasX P w K mg base 3 "refuse_bad_row" nRb (spRbr cBR)) (G : Has P w K mg base 3 "turned_over" nTo spTo) : FnOk P w K mg base (CX1 P w) 4 f fd nTo (spTd cBR) := by
  refine Fun.okx F scTd (fun vs H Q E h => ?_) (fun cdv A outer s H vs Q E hr h => ?_)
  · obtain ⟨p, r, rfl, _⟩ := h
    rfl
  obtain ⟨p, r, rfl, hp, hl, q, e⟩ := h
  refine ⟨_, pss_cons (ps_expr (pe_call GR.ok hr rfl GR.at_ GR.kp GR.bd .nil pass1 (pa_cons (pv 0) pa_nil))) (pss_one (ps_ret (pe_has G hr rfl (pa_cons (pv 0) pa_nil)))), ?_⟩
  refine ⟨_, rfl, p, r, rfl, hp, hl, fun hB H1 s1 => ?_, e⟩
  obtain ⟨low, s8⟩ := row_low hB
  refine ⟨_, rfl, p, r, rfl, s1 _ _ hp, hl, fun x hx => by have := low x hx; omega, mxr_le (by decide) fun x hx => ?_, fun t H2 s2 h2 => q hB t H2 (s1.trans s2) h2⟩
  have := sum_mem (fun x hx => by have := low x hx; omega) x hx
  omega
abbrev nSt : List Str := ["one", "other", "path"]
theorem scSt : FnScope nSt ["one", "other"] (defScope sSt) := ⟨rfl, rfl, rfl, by decide +kernel, rfl, by decide +kernel, by decide +kernel⟩
def spStB (cBR : Addr) : Sp := fun vs H Q E => ∃ (p p' : Addr) (r r' : List Int), vs = [.ref p, .ref p'] ∧ H p = some (.tup (r.map V.int)) ∧ H p' = some (.tup (r'.map V.int)) ∧ r.length ≤ 1000 ∧ r'.length ≤ 1000 ∧ (rowB r = false ∨ rowB r' = false) ∧ ∀ H', Same H H' → E (.ref cBR) none H'
theorem ok_stb {cBR : Addr} (F : Fun K "steps" "steps" sSt f fd) (GR : HasX P w K mg base 3 "refuse_bad_row" nRb (spRbr cBR)) : FnOk P w K mg base (CX1 P w) 4 f fd ["one", "other"] (spStB cBR) := by
  refine Fun.okx F scSt (fun vs H Q E h => ?_) (fun cdv A outer s H vs Q E hr h => ?_)
  · obtain ⟨p, p', r, r', rfl, _⟩ := h
    rfl
  obtain ⟨p, p', r, r', rfl, hp, hp', hl, hl', hB, e⟩ := h
  refine ⟨_, pss_cons (ps_expr (pe_call GR.ok hr rfl GR.at_ GR.kp GR.bd .nil pass1 (pa_cons (pv 0) pa_nil))) (pss_cons (ps_expr (pe_call GR.ok hr rfl GR.at_ GR.kp GR.bd .nil pass1 (pa_cons (pv 1) pa_nil)))
    (pss_cons ps_never (pss_cons ps_never (pss_cons ps_never (pss_cons ps_never (pss_one ps_never)))))), ?_⟩
  refine ⟨_, rfl, p, r, rfl, hp, hl, fun h1 H1 s1 => ?_, fun _ H1 s1 => e H1 s1⟩
  refine ⟨_, rfl, p', r', rfl, s1 _ _ hp', hl', fun h2 H2 s2 => ?_, fun _ H2 s2 => e H2 (s1.trans s2)⟩
  rcases hB with z | z
  · rw [h1] at z; cases z
  · rw [h2] at z; cases z
end
end L2.K12

set_option maxHeartbeats 4000000
namespace L2.K12
open PySem
open L2.Pl L2.Ev
section
variable {P : Program} {w : World} {K : PySem.W.Frag} {mg : Str → Option Value} {base : Heap} {f g : Addr} {fd gd : FuncData}
theorem pa_strc {X : Cx} {x : Str} {j} {pos : Pos} {es : List Expr} {t : TA} (hr : PA X es t) : PA X (.Constant (.str x) j pos :: es) (tCons (tC (.str x)) t) := pa_cons pe_str hr rfl
theorem pa_strs {X : Cx} : ∀ xs : List (Str × Nat × Pos), PA X (xs.map fun q => Expr.Constant (.str q.1) q.2.1 q.2.2) (fun σ H Q => Q (xs.map fun q => V.str q.1) H)
  | [] => pa_nil
  | q :: r => fun pos pins s σ H Q I h => (pa_cons (X := X) (e := Expr.Constant (.str q.1) q.2.1 q.2.2) pe_str (pa_strs r) rfl) pos pins s σ H Q I h
def tStrs (xs : List Str) : TE := fun _ H Q => xs.length ≤ sizeLine ∧ ∀ p, H p = none → Q (.ref p) (upd H p (.lst (xs.map V.str)))
theorem pe_strs {X : Cx} {pl : Pos} (xs : List (Str × Nat × Pos)) : PE X (.List (xs.map fun q => Expr.Constant (.str q.1) q.2.1 q.2.2) pl) (tStrs (xs.map fun q => q.1)) := fun pins s σ H Q I h => (pe_lst (pos := pl) (pa_strs xs)) pins s σ H Q I ⟨by rw [List.length_map]; have := h.1; rwa [List.length_map] at this, fun p hp => by have := h.2 p hp; rwa [List.map_map] at this⟩
@[irreducible] def Hide (p : Prop) : Prop := p
theorem hide_set {X : Cx} {i : Nat} {x : Str} {pos' pl pos : Pos} (xs : List (Str × Nat × Pos)) (hN : X.N.Nodup) (hi : X.N[i]? = some x) (hx : Loc X.env.scope x) (hf : X.fn x = true ∨ X.env.scope.names.lookup x = some .local) :
    Hide (PS X (.Assign [.Name x pos'] (.List (xs.map fun q => Expr.Constant (.str q.1) q.2.1 q.2.2) pl) pos) (tAsg (tStrs (xs.map fun q => q.1)) (gName i))) := by
  unfold Hide
  exact ps_set hN hi hx (pe_strs xs) rfl hf
theorem pss_hideB {X : Cx} {st : Stmt} {rest : List Stmt} {t u : TS} (h1 : Hide (PS X st t)) (h2 : PSs X rest u) : Hide (PSs X (st :: rest) (tSeq t u)) := by
  unfold Hide at h1 ⊢
  exact pss_cons h1 h2
theorem pss_hideA {X : Cx} {st : Stmt} {rest : List Stmt} {t u : TS} (h1 : PS X st t) (h2 : Hide (PSs X rest u)) : PSs X (st :: rest) (tSeq t u) := by
  unfold Hide at h2
  exact pss_cons h1 h2
def Says (K : PySem.W.Frag) (C : Addr) (ds : List Addr) (bs : List Bool) : Prop := ds.length = bs.length ∧ ∀ (i : Nat) (d : Addr) (b : Bool), ds[i]? = some d → bs[i]? = some b → PySem.W.kitOne K (.ref C) (.ref d) = some b
abbrev nF : List Str := ["_law_caught", "_law_some", "_law_names", "_law_found"]
abbrev bF : List Str := ["_law_name", "_law_truth"]
theorem ndF : bF.Nodup := by decide +kernel
theorem scF : FnScope nF ["_law_caught"] (defScope sCalled) := ⟨rfl, rfl, rfl, by decide +kernel, rfl, by decide +kernel, by decide +kernel⟩
def exN : List Str := ["count", "powers", "great", "row", "weights", "long", "uneven", "kind", "by", "text", "line", "badname", "name"]
def named (bs : List Bool) : List Str := (List.range 13).filterMap fun i => if bs.getD i false = true then some (exN.getD i "") else none
theorem same_at {H H' : Hp} {l : Addr} (h : H l = none) (e : Same H H') (o : HO) : Same H (upd H' l o) := fun b u q => by rw [upd_ne (ne_of_none q h)]; exact e b u q
theorem bl_at {bs : List Bool} {i : Nat} {v : V} (h : (bs.map V.bl)[i]? = some v) : v = .bl (bs.getD i false) := by
  rw [List.getElem?_map] at h
  rw [List.getD_eq_getElem?_getD]
  cases e : bs[i]? with
  | none => rw [e] at h; cases h
  | some c => rw [e] at h; exact (Option.some.inj h).symm
theorem str_at {xs : List Str} {i : Nat} {v : V} (h : (xs.map V.str)[i]? = some v) : v = .str (xs.getD i "") := by
  rw [List.getElem?_map] at h
  rw [List.getD_eq_getElem?_getD]
  cases e : xs[i]? with
  | none => rw [e] at h; cases h
  | some c => rw [e] at h; exact (Option.some.inj h).symm
def spCalled (K : PySem.W.Frag) (ds : List Addr) : Sp := fun vs H Q _ => ∃ (c C : Addr) (bs : List Bool), vs = [.ref c] ∧ H c = some (excO c (.ref C)) ∧ ExcK K C ∧ PySem.W.kitOne K (.ref C) (.type "ValueError") = some true ∧ Says K C ds bs ∧ ∀ (l : Addr) (H' : Hp), H l = none → Same H H' → LstAt H' l (named bs) → Q (.ref l) H'
theorem ok_called {d0 d1 d2 d3 d4 d5 d6 d7 d8 d9 d10 d11 d12 : Addr} (F : Fun K "_law_called" "_law_called" sCalled f fd) (mi : mg "isinstance" = none) (mz : mg "zip" = none) (mv : mg "ValueError" = none) (m0 : mg "BadCount" = some (.ref d0)) (m1 : mg "BadPowers" = some (.ref d1)) (m2 : mg "TooGreat" = some (.ref d2)) (m3 : mg "BadRow" = some (.ref d3)) (m4 : mg "UnlikeWeights" = some (.ref d4)) (m5 : mg "TooLong" = some (.ref d5)) (m6 : mg "Uneven" = some (.ref d6)) (m7 : mg "NoKind" = some (.ref d7)) (m8 : mg "NotBy" = some (.ref d8)) (m9 : mg "NoText" = some (.ref d9)) (m10 : mg "NoLine" = some (.ref d10)) (m11 : mg "BadName" = some (.ref d11)) (m12 : mg "NoName" = some (.ref d12)) : FnOk P w K mg base CX0 2 f fd ["_law_caught"] (spCalled K [d0, d1, d2, d3, d4, d5, d6, d7, d8, d9, d10, d11, d12]) := by
  refine F.ok scF (fun vs H Q E h => ?_) (fun cdv A outer s H vs Q E hr h => ?_)
  · obtain ⟨c, C, bs, rfl, _⟩ := h
    rfl
  obtain ⟨c, C, bs, rfl, hc, hk, hv, ⟨hl, hs⟩, q⟩ := h
  match bs, hl, hs, q with
  | [b0, b1, b2, b3, b4, b5, b6, b7, b8, b9, b10, b11, b12], _, hs, q =>
  have k0 := hs 0 _ _ rfl rfl
  have k1 := hs 1 _ _ rfl rfl
  have k2 := hs 2 _ _ rfl rfl
  have k3 := hs 3 _ _ rfl rfl
  have k4 := hs 4 _ _ rfl rfl
  have k5 := hs 5 _ _ rfl rfl
  have k6 := hs 6 _ _ rfl rfl
  have k7 := hs 7 _ _ rfl rfl
  have k8 := hs 8 _ _ rfl rfl
  have k9 := hs 9 _ _ rfl rfl
  have k10 := hs 10 _ _ rfl rfl
  have k11 := hs 11 _ _ rfl rfl
  have k12 := hs 12 _ _ rfl rfl
  refine ⟨_, pss_cons (ps_if (pt_cmpR op_isN (pv 0) pe_non (nomark _)) (pss_one (ps_ret (pe_lst pa_nil))) pss_nil)
    (pss_cons (ps_set (i := 1) scF.nd rfl (Or.inl rfl) (pe_lst (pa_cons (pe_callB call_isexc rfl mi PyProof.Rows.boot_isinstance (pa_cons (pv 0) (pa_cons (pe_glob (v := .ref d0) rfl m0 rfl) pa_nil))) (pa_cons (pe_callB call_isexc rfl mi PyProof.Rows.boot_isinstance (pa_cons (pv 0) (pa_cons (pe_glob (v := .ref d1) rfl m1 rfl) pa_nil))) (pa_cons (pe_callB call_isexc rfl mi PyProof.Rows.boot_isinstance (pa_cons (pv 0) (pa_cons (pe_glob (v := .ref d2) rfl m2 rfl) pa_nil))) pa_nil)))))
    (pss_cons (ps_set (i := 1) scF.nd rfl (Or.inl rfl) (pe_op op_cat (pv 1) (pe_lst (pa_cons (pe_callB call_isexc rfl mi PyProof.Rows.boot_isinstance (pa_cons (pv 0) (pa_cons (pe_glob (v := .ref d3) rfl m3 rfl) pa_nil))) (pa_cons (pe_callB call_isexc rfl mi PyProof.Rows.boot_isinstance (pa_cons (pv 0) (pa_cons (pe_glob (v := .ref d4) rfl m4 rfl) pa_nil))) (pa_cons (pe_callB call_isexc rfl mi PyProof.Rows.boot_isinstance (pa_cons (pv 0) (pa_cons (pe_glob (v := .ref d5) rfl m5 rfl) pa_nil))) pa_nil))))))
    (pss_cons (ps_set (i := 1) scF.nd rfl (Or.inl rfl) (pe_op op_cat (pv 1) (pe_lst (pa_cons (pe_callB call_isexc rfl mi PyProof.Rows.boot_isinstance (pa_cons (pv 0) (pa_cons (pe_glob (v := .ref d6) rfl m6 rfl) pa_nil))) (pa_cons (pe_callB call_isexc rfl mi PyProof.Rows.boot_isinstance (pa_cons (pv 0) (pa_cons (pe_glob (v := .ref d7) rfl m7 rfl) pa_nil))) (pa_cons (pe_callB call_isexc rfl mi PyProof.Rows.boot_isinstance (pa_cons (pv 0) (pa_cons (pe_glob (v := .ref d8) rfl m8 rfl) pa_nil))) pa_nil))))))
    (pss_cons (ps_set (i := 1) scF.nd rfl (Or.inl rfl) (pe_op op_cat (pv 1) (pe_lst (pa_cons (pe_callB call_isexc rfl mi PyProof.Rows.boot_isinstance (pa_cons (pv 0) (pa_cons (pe_glob (v := .ref d9) rfl m9 rfl) pa_nil))) (pa_cons (pe_callB call_isexc rfl mi PyProof.Rows.boot_isinstance (pa_cons (pv 0) (pa_cons (pe_glob (v := .ref d10) rfl m10 rfl) pa_nil))) (pa_cons (pe_callB call_isexc rfl mi PyProof.Rows.boot_isinstance (pa_cons (pv 0) (pa_cons (pe_glob (v := .ref d11) rfl m11 rfl) pa_nil))) pa_nil))))))
    (pss_hideA (ps_expr (pe_bm PySem.F.plainAttrs_list PySem.F.slot_list_append PySem.F.type_list_append mt_append (pv 1) (pa_cons (pe_callB call_isexc rfl mi PyProof.Rows.boot_isinstance (pa_cons (pv 0) (pa_cons (pe_glob (v := .ref d12) rfl m12 rfl) pa_nil))) pa_nil)))
    (pss_hideB (hide_set (i := 2) [(_, _, _), (_, _, _), (_, _, _), (_, _, _), (_, _, _), (_, _, _), (_, _, _), (_, _, _), (_, _, _), (_, _, _), (_, _, _)] scF.nd rfl (Or.inl rfl) (Or.inr rfl))
    (pss_cons (ps_set (i := 2) scF.nd rfl (Or.inl rfl) (pe_op op_cat (pv 2) (pe_lst (pa_strc (pa_strc pa_nil)))))
    (pss_cons (ps_comp (i := 3) (N' := bF) (src := [none, none]) scF.nd rfl (Or.inl rfl) rfl rfl (pi_zip .lst .lst rfl mz (pa_cons (pv 2) (pa_cons (pv 1) pa_nil))) (bk_of (defScope sCalled) nF (by decide +kernel))
      (fun b => pg_tup rfl (pgs_cons (pg_name (i := 0) ndF rfl (Or.inl rfl)) (pgs_cons (pg_name (i := 1) ndF rfl (Or.inl rfl)) pgs_nil))) (fun b => pts_one (pt_val (pv 1))) (fun b => pv 0))
    (pss_cons (ps_if (pt_val (pe_callB call_isexc rfl mi PyProof.Rows.boot_isinstance (pa_cons (pv 0) (pa_cons (pe_bltn (v := .ty "ValueError") rfl mv PyProof.Rows.Boot.«ValueError» rfl) pa_nil)))) (pss_one (ps_ret (pv 3))) pss_nil)
    (pss_one ps_never)))))))))), ?_⟩
  refine ⟨_, rfl, rfl, _, rfl, iteN (by intro z; cases z) ?_⟩
  refine ⟨_, rfl, c, C, _, _, _, rfl, hc, hk, rfl, fun _ z => z, k0, _, rfl, c, C, _, _, _, rfl, hc, hk, rfl, fun _ z => z, k1, _, rfl, c, C, _, _, _, rfl, hc, hk, rfl, fun _ z => z, k2, (by show 3 ≤ sizeLine; decide), fun p0 h0 => ?_⟩
  have s0 := same_new h0 (.lst [.bl b0, .bl b1, .bl b2])
  have hc0 := s0 _ _ hc
  have e0 : upd H p0 (.lst [.bl b0, .bl b1, .bl b2]) p0 = some (.lst [.bl b0, .bl b1, .bl b2]) := upd_same
  have z0 : Same H (upd H p0 (.lst [.bl b0, .bl b1, .bl b2])) := s0
  generalize upd H p0 (.lst [.bl b0, .bl b1, .bl b2]) = G0 at *
  refine ⟨_, rfl, _, rfl, c, C, _, _, _, rfl, hc0, hk, rfl, fun _ z => z, k3, _, rfl, c, C, _, _, _, rfl, hc0, hk, rfl, fun _ z => z, k4, _, rfl, c, C, _, _, _, rfl, hc0, hk, rfl, fun _ z => z, k5, (by show 3 ≤ sizeLine; decide), fun r1 hr1 => ?_⟩
  have u1 := same_new hr1 (.lst [.bl b3, .bl b4, .bl b5])
  refine ⟨p0, r1, _, _, rfl, rfl, u1 _ _ e0, upd_same, small (by show 6 ≤ 100000; decide), fun p1 hp1 => ?_⟩
  have v1 := u1.trans (same_new hp1 (.lst [.bl b0, .bl b1, .bl b2, .bl b3, .bl b4, .bl b5]))
  have hc1 := v1 _ _ hc0
  have z1 : Same H (upd (upd G0 r1 (.lst [.bl b3, .bl b4, .bl b5])) p1 (.lst [.bl b0, .bl b1, .bl b2, .bl b3, .bl b4, .bl b5])) := z0.trans v1
  have e1 : upd (upd G0 r1 (.lst [.bl b3, .bl b4, .bl b5])) p1 (.lst [.bl b0, .bl b1, .bl b2, .bl b3, .bl b4, .bl b5]) p1 = some (.lst [.bl b0, .bl b1, .bl b2, .bl b3, .bl b4, .bl b5]) := upd_same
  generalize hG1 : upd (upd G0 r1 (.lst [.bl b3, .bl b4, .bl b5])) p1 (.lst [.bl b0, .bl b1, .bl b2, .bl b3, .bl b4, .bl b5]) = G1 at *
  show gName 1 (.ref p1) _ (upd (upd G0 r1 (.lst [.bl b3, .bl b4, .bl b5])) p1 (.lst [.bl b0, .bl b1, .bl b2, .bl b3, .bl b4, .bl b5])) _
  rw [hG1]
  refine ⟨_, rfl, _, rfl, c, C, _, _, _, rfl, hc1, hk, rfl, fun _ z => z, k6, _, rfl, c, C, _, _, _, rfl, hc1, hk, rfl, fun _ z => z, k7, _, rfl, c, C, _, _, _, rfl, hc1, hk, rfl, fun _ z => z, k8, (by show 3 ≤ sizeLine; decide), fun r2 hr2 => ?_⟩
  have u2 := same_new hr2 (.lst [.bl b6, .bl b7, .bl b8])
  refine ⟨p1, r2, _, _, rfl, rfl, u2 _ _ e1, upd_same, small (by show 9 ≤ 100000; decide), fun p2 hp2 => ?_⟩
  have v2 := u2.trans (same_new hp2 (.lst [.bl b0, .bl b1, .bl b2, .bl b3, .bl b4, .bl b5, .bl b6, .bl b7, .bl b8]))
  have hc2 := v2 _ _ hc1
  have z2 : Same H (upd (upd G1 r2 (.lst [.bl b6, .bl b7, .bl b8])) p2 (.lst [.bl b0, .bl b1, .bl b2, .bl b3, .bl b4, .bl b5, .bl b6, .bl b7, .bl b8])) := z1.trans v2
  have e2 : upd (upd G1 r2 (.lst [.bl b6, .bl b7, .bl b8])) p2 (.lst [.bl b0, .bl b1, .bl b2, .bl b3, .bl b4, .bl b5, .bl b6, .bl b7, .bl b8]) p2 = some (.lst [.bl b0, .bl b1, .bl b2, .bl b3, .bl b4, .bl b5, .bl b6, .bl b7, .bl b8]) := upd_same
  generalize hG2 : upd (upd G1 r2 (.lst [.bl b6, .bl b7, .bl b8])) p2 (.lst [.bl b0, .bl b1, .bl b2, .bl b3, .bl b4, .bl b5, .bl b6, .bl b7, .bl b8]) = G2 at *
  show gName 1 (.ref p2) _ (upd (upd G1 r2 (.lst [.bl b6, .bl b7, .bl b8])) p2 (.lst [.bl b0, .bl b1, .bl b2, .bl b3, .bl b4, .bl b5, .bl b6, .bl b7, .bl b8])) _
  rw [hG2]
  refine ⟨_, rfl, _, rfl, c, C, _, _, _, rfl, hc2, hk, rfl, fun _ z => z, k9, _, rfl, c, C, _, _, _, rfl, hc2, hk, rfl, fun _ z => z, k10, _, rfl, c, C, _, _, _, rfl, hc2, hk, rfl, fun _ z => z, k11, (by show 3 ≤ sizeLine; decide), fun r3 hr3 => ?_⟩
  have u3 := same_new hr3 (.lst [.bl b9, .bl b10, .bl b11])
  refine ⟨p2, r3, _, _, rfl, rfl, u3 _ _ e2, upd_same, small (by show 12 ≤ 100000; decide), fun p3 hp3 => ?_⟩
  have v3 := u3.trans (same_new hp3 (.lst [.bl b0, .bl b1, .bl b2, .bl b3, .bl b4, .bl b5, .bl b6, .bl b7, .bl b8, .bl b9, .bl b10, .bl b11]))
  have fp3 : H p3 = none := z2.free (u3.free hp3)
  have hc3 := v3 _ _ hc2
  have z3 : Same H (upd (upd G2 r3 (.lst [.bl b9, .bl b10, .bl b11])) p3 (.lst [.bl b0, .bl b1, .bl b2, .bl b3, .bl b4, .bl b5, .bl b6, .bl b7, .bl b8, .bl b9, .bl b10, .bl b11])) := z2.trans v3
  have e3 : upd (upd G2 r3 (.lst [.bl b9, .bl b10, .bl b11])) p3 (.lst [.bl b0, .bl b1, .bl b2, .bl b3, .bl b4, .bl b5, .bl b6, .bl b7, .bl b8, .bl b9, .bl b10, .bl b11]) p3 = some (.lst [.bl b0, .bl b1, .bl b2, .bl b3, .bl b4, .bl b5, .bl b6, .bl b7, .bl b8, .bl b9, .bl b10, .bl b11]) := upd_same
  generalize hG3 : upd (upd G2 r3 (.lst [.bl b9, .bl b10, .bl b11])) p3 (.lst [.bl b0, .bl b1, .bl b2, .bl b3, .bl b4, .bl b5, .bl b6, .bl b7, .bl b8, .bl b9, .bl b10, .bl b11]) = G3 at *
  show gName 1 (.ref p3) _ (upd (upd G2 r3 (.lst [.bl b9, .bl b10, .bl b11])) p3 (.lst [.bl b0, .bl b1, .bl b2, .bl b3, .bl b4, .bl b5, .bl b6, .bl b7, .bl b8, .bl b9, .bl b10, .bl b11])) _
  rw [hG3]
  refine ⟨_, rfl, .inl ⟨rfl, _, SqL.of e3⟩, _, rfl, c, C, _, _, _, rfl, hc3, hk, rfl, fun _ z => z, k12, p3, _, _, rfl, rfl, e3, smallS (by show 12 ≤ 100000; decide), ?_⟩
  have z4 : Same H (upd G3 p3 (.lst ([.bl b0, .bl b1, .bl b2, .bl b3, .bl b4, .bl b5, .bl b6, .bl b7, .bl b8, .bl b9, .bl b10, .bl b11] ++ [.bl b12]))) := same_at fp3 z3 _
  have e4 : upd G3 p3 (.lst ([.bl b0, .bl b1, .bl b2, .bl b3, .bl b4, .bl b5, .bl b6, .bl b7, .bl b8, .bl b9, .bl b10, .bl b11] ++ [.bl b12])) p3 = some (.lst ([.bl b0, .bl b1, .bl b2, .bl b3, .bl b4, .bl b5, .bl b6, .bl b7, .bl b8, .bl b9, .bl b10, .bl b11] ++ [.bl b12])) := upd_same
  have hc4 := z4 _ _ hc
  generalize upd G3 p3 (.lst ([.bl b0, .bl b1, .bl b2, .bl b3, .bl b4, .bl b5, .bl b6, .bl b7, .bl b8, .bl b9, .bl b10, .bl b11] ++ [.bl b12])) = G4 at *
  refine ⟨(by show 11 ≤ sizeLine; decide), fun p5 h5 => ?_⟩
  have s5 := same_new h5 (.lst [.str "count", .str "powers", .str "great", .str "row", .str "weights", .str "long", .str "uneven", .str "kind", .str "by", .str "text", .str "line"])
  have e5 : upd G4 p5 (.lst [.str "count", .str "powers", .str "great", .str "row", .str "weights", .str "long", .str "uneven", .str "kind", .str "by", .str "text", .str "line"]) p5 = some (.lst [.str "count", .str "powers", .str "great", .str "row", .str "weights", .str "long", .str "uneven", .str "kind", .str "by", .str "text", .str "line"]) := upd_same
  have z5 := z4.trans s5
  have f4 := s5 _ _ e4
  have hc5 := s5 _ _ hc4
  show gName 2 (.ref p5) _ (upd G4 p5 (.lst [.str "count", .str "powers", .str "great", .str "row", .str "weights", .str "long", .str "uneven", .str "kind", .str "by", .str "text", .str "line"])) _
  generalize upd G4 p5 (.lst [.str "count", .str "powers", .str "great", .str "row", .str "weights", .str "long", .str "uneven", .str "kind", .str "by", .str "text", .str "line"]) = G5 at *
  refine ⟨_, rfl, (by show 2 ≤ sizeLine; decide), fun p6 h6 => ?_⟩
  have s6 := same_new h6 (.lst [.str "badname", .str "name"])
  refine ⟨p5, p6, _, _, rfl, rfl, s6 _ _ e5, upd_same, small (by show 13 ≤ 100000; decide), fun p7 h7 => ?_⟩
  have s7 := s6.trans (same_new h7 (.lst (exN.map V.str)))
  have e7 : upd (upd G5 p6 (.lst [.str "badname", .str "name"])) p7 (.lst (exN.map V.str)) p7 = some (.lst (exN.map V.str)) := upd_same
  have z7 := z5.trans s7
  have f7 := s7 _ _ f4
  have hc7 := s7 _ _ hc5
  show gName 2 (.ref p7) _ (upd (upd G5 p6 (.lst [.str "badname", .str "name"])) p7 (.lst (exN.map V.str))) _
  generalize upd (upd G5 p6 (.lst [.str "badname", .str "name"])) p7 (.lst (exN.map V.str)) = G7 at *
  have f7' : G7 p3 = some (.lst ([b0, b1, b2, b3, b4, b5, b6, b7, b8, b9, b10, b11, b12].map V.bl)) := f7
  generalize hbs : [b0, b1, b2, b3, b4, b5, b6, b7, b8, b9, b10, b11, b12] = bs at *
  have lbs : bs.length = 13 := by rw [← hbs]; rfl
  refine ⟨_, rfl, _, rfl, p7, p3, rfl, ⟨_, SqL.of e7⟩, ⟨_, SqL.of f7'⟩, fun bk D hD => ?_⟩
  refine comp_zip (α := Str) (k1 := .lst) (k2 := .lst) hD (SqL.of e7) (SqL.of f7') (fun σ => ∃ c d, σ = [c, d]) (fun i => if bs.getD i false = true then some (exN.getD i "") else none) (small (by rw [List.length_map, List.length_map]; omega)) ?_ ?_ ?_
  · exact ⟨_, _, rfl⟩
  · rintro i x y p2 σ H2 Yes No hx hy h2 ⟨c, d, rfl⟩ s3 yes no
    obtain rfl := str_at hx
    obtain rfl := bl_at hy
    refine ⟨p2, _, rfl, SqT.of upd_same, rfl, _, _, rfl, _, _, rfl, rfl, ?_⟩
    refine ⟨_, rfl, _, rfl, ?_⟩
    cases cb : bs.getD i false with
    | true => exact iteT ⟨_, rfl, yes _ _ _ (exN.getD i "") ⟨_, _, rfl⟩ (same_new h2 _) (by rw [if_pos cb]) rfl⟩
    | false => exact iteF (no _ _ ⟨_, _, rfl⟩ (same_new h2 _) (by rw [cb]; rfl))
  rintro H8 s8 h8
  have en : (List.range (min (exN.map V.str).length (bs.map V.bl).length)).filterMap (fun i => if bs.getD i false = true then some (exN.getD i "") else none) = named bs := by
    rw [List.length_map, List.length_map, lbs]
    rfl
  rw [en] at h8
  refine ⟨_, rfl, c, C, .ty "ValueError", .type "ValueError", _, rfl, s8 _ _ hc7, hk, rfl, fun _ z => z, hv, _, rfl, iteT ⟨_, rfl, ?_⟩⟩
  exact q D H8 (z7.free hD) (z7.trans s8) h8
end
end L2.K12

set_option maxHeartbeats 4000000
namespace L2.K12
open PySem
open L2.Pl L2.Ev
section
variable {P : Program} {w : World} {K : PySem.W.Frag} {mg : Str → Option Value} {base : Heap} {f g : Addr} {fd gd : FuncData}
def downs (k : Int) : List Int := (List.range k.toNat).map fun (i : Nat) => k - (i : Int)
/-- what rows_up_to tells, n calls deep -/
def up : Nat → Int → Int → Int → List (List Int)
  | 0, _, _, _ => []
  | n + 1, top, w, m => if w = 0 then [[]] else if m ≤ 0 then [] else (downs (if w < top then w else top)).flatMap fun f => (up n f (w - f) (m - 1)).map (f :: ·)
theorem up_zero (n : Nat) (top m : Int) : up (n + 1) top 0 m = [[]] := by simp [up]
theorem up_none (n : Nat) (top w m : Int) (h : w ≠ 0) (hm : m ≤ 0) : up (n + 1) top w m = [] := by simp [up, h, hm]
theorem up_some (n : Nat) (top w m : Int) (h : w ≠ 0) (hm : ¬ m ≤ 0) : up (n + 1) top w m = (downs (if w < top then w else top)).flatMap fun f => (up n f (w - f) (m - 1)).map (f :: ·) := by simp [up, h, hm]
theorem sum_le_pow (f : Nat → Nat) (c : Nat) : ∀ k, (∀ i, i < k → f i ≤ 2 ^ (c + i)) → ((List.range k).map f).sum + 2 ^ c ≤ 2 ^ (c + k)
  | 0, _ => by simp
  | k + 1, h => by
    have ih := sum_le_pow f c k fun i hi => h i (by omega)
    have hk := h k (by omega)
    rw [List.range_succ, List.map_append, List.sum_append, List.map_singleton, List.sum_singleton]
    have e : 2 ^ (c + (k + 1)) = 2 ^ (c + k) + 2 ^ (c + k) := by rw [← Nat.add_assoc, Nat.pow_succ]; omega
    omega
theorem up_len : ∀ (n : Nat) (top w m : Int), 0 ≤ w → (up n top w m).length ≤ 2 ^ w.toNat
  | 0, _, _, _, _ => by simp [up]
  | n + 1, top, w, m, h0 => by
    by_cases h : w = 0
    · subst h; rw [up_zero]; simp
    by_cases hm : m ≤ 0
    · rw [up_none n top w m h hm]; simp
    rw [up_some n top w m h hm]
    have hk : ∀ k : Int, k ≤ w → ((downs k).flatMap fun f => (up n f (w - f) (m - 1)).map (f :: ·)).length ≤ 2 ^ w.toNat := by
      intro k hk
      rw [List.length_flatMap]
      unfold downs
      rw [List.map_map]
      have e : (List.map ((fun f => ((up n f (w - f) (m - 1)).map (f :: ·)).length) ∘ fun (i : Nat) => k - (i : Int)) (List.range k.toNat)) = (List.range k.toNat).map fun (i : Nat) => (up n (k - (i : Int)) (w - (k - (i : Int))) (m - 1)).length := by
        apply List.map_congr_left; intro i _; simp
      rw [e]
      have q := sum_le_pow (fun i => (up n (k - (i : Int)) (w - (k - (i : Int))) (m - 1)).length) (w - k).toNat k.toNat (fun i hi => by
        have ih := up_len n (k - (i : Int)) (w - (k - (i : Int))) (m - 1) (by omega)
        have e2 : (w - (k - (i : Int))).toNat = (w - k).toNat + i := by omega
        rw [e2] at ih
        exact ih)
      by_cases hk0 : 0 ≤ k
      · have e3 : (w - k).toNat + k.toNat = w.toNat := by omega
        rw [e3] at q
        exact Nat.le_trans (Nat.le_add_right _ _) q
      · have e4 : k.toNat = 0 := by omega
        rw [e4]; simp
    apply hk
    split <;> omega
theorem downs_mem {k f : Int} (h : f ∈ downs k) : 1 ≤ f ∧ f ≤ k := by
  unfold downs at h
  obtain ⟨i, hi, e⟩ := List.mem_map.mp h
  have := List.mem_range.mp hi
  omega
theorem up_row : ∀ (n : Nat) (top w m : Int), 0 ≤ w → ∀ r ∈ up n top w m, (r.length : Int) ≤ w
  | 0, _, _, _, _, r, h => by simp [up] at h
  | n + 1, top, w, m, h0, r, hr => by
    by_cases h : w = 0
    · subst h; rw [up_zero] at hr; simp at hr; subst hr; simp
    by_cases hm : m ≤ 0
    · rw [up_none n top w m h hm] at hr; simp at hr
    rw [up_some n top w m h hm] at hr
    obtain ⟨f, hf, hr⟩ := List.mem_flatMap.mp hr
    obtain ⟨r', hr', rfl⟩ := List.mem_map.mp hr
    have z := downs_mem hf
    have zw : f ≤ w := by
      have : (if w < top then w else top) ≤ w := by split <;> omega
      omega
    have ih := up_row n f (w - f) (m - 1) (by omega) r' hr'
    rw [List.length_cons]
    omega
/-- what the law counts -/
theorem flat_at {α β : Type} (g : α → List β) : ∀ {l : List α} {i : Nat} {a : α}, l[i]? = some a → (l.take (i + 1)).flatMap g = (l.take i).flatMap g ++ g a
  | [], i, a, e => by simp at e
  | x :: l, 0, a, e => by simp at e; subst e; simp
  | x :: l, i + 1, a, e => by
    have ih := flat_at g (l := l) (i := i) (a := a) (by simpa using e)
    rw [List.take_succ_cons, List.flatMap_cons, ih, List.take_succ_cons, List.flatMap_cons, List.append_assoc]
theorem flat_le {α β : Type} (g : α → List β) : ∀ (l : List α) (i : Nat), ((l.take i).flatMap g).length ≤ (l.flatMap g).length
  | [], i => by simp
  | x :: l, 0 => by simp
  | x :: l, i + 1 => by
    have ih := flat_le g l i
    rw [List.take_succ_cons, List.flatMap_cons, List.flatMap_cons, List.length_append, List.length_append]
    omega
theorem downs_at {k : Int} {i : Nat} (h : i < k.toNat) : (downs k)[i]? = some (k - (i : Int)) := by
  unfold downs
  rw [List.getElem?_map, List.getElem?_range h]
  rfl
theorem downs_len (k : Int) : (downs k).length = k.toNat := by unfold downs; simp
theorem tups_at {H : Hp} {l : Addr} {xs : List V} (h : H l = some (.lst xs)) (o : HO) : Tups H (upd H l o) := fun p ys q => by
  rw [upd_ne (ne_of q h (by intro z; cases z))]; exact q
theorem len_ok {n : Nat} {t w m : Int} (h0 : 0 ≤ w) (h8 : w ≤ 8) : (up n t w m).length ≤ 256 := by
  have q := up_len n t w m h0
  have z : 2 ^ w.toNat ≤ 2 ^ 8 := Nat.pow_le_pow_right (by decide) (by omega)
  exact Nat.le_trans q z

abbrev pU : List Str := ["_law_weight", "_law_most", "_law_top"]
def spUp (n : Nat) : Sp := fun vs H Q _ => ∃ t w m : Int, vs = [.int w, .int m, .int t] ∧ 0 ≤ t ∧ 0 ≤ w ∧ w ≤ 8 ∧ w < n ∧
  ∀ (l : Addr) (H' : Hp), H l = none → Same H H' → LstAt H' l (up n t w m) → Q (.ref l) H'
abbrev nU : List Str := ["_law_weight", "_law_most", "_law_top", "_law_found", "_law_first", "_law_rest"]
theorem scU : FnScope nU pU (defScope sRws) := ⟨rfl, rfl, rfl, by decide +kernel, rfl, by decide +kernel, by decide +kernel⟩
theorem small1 {n : Nat} (h : n ≤ 1000) : n < sizeLine := smallS (by omega)
theorem ok_up {n : Nat} (F : Fun K "_law_rows" "_law_rows" sRws f fd) (G : FnOk P w K mg base CX0 n f fd pU (spUp n)) (bF : Binds K fd pU []) (mU : mg "_law_rows" = some (.ref f)) (mr : mg "range" = none) (mm : mg "min" = none) :
    FnOk P w K mg base CX0 (n + 1) f fd pU (spUp (n + 1)) := by
  refine F.ok scU (fun vs H Q E h => ?_) (fun cdv A outer s H vs Q E hr h => ?_)
  · obtain ⟨t, w, m, rfl, _⟩ := h
    rfl
  obtain ⟨t, w, m, rfl, ht, h0, h8, hn, q⟩ := h
  refine ⟨_, pss_cons (ps_if (pt_cmpR op_eq (pv 0) pe_int (nomark _)) (pss_one (ps_ret (pe_lst (pa_cons (pe_tup pa_nil) pa_nil)))) pss_nil)
    (pss_cons (ps_set (i := 3) scU.nd rfl (Or.inl rfl) (pe_lst pa_nil))
    (pss_cons (ps_if (pt_cmpR op_gt (pv 1) pe_int (nomark _)) (pss_one (ps_for PassesOwn.never rfl (pi_rangeD rfl mr (pa_cons (pe_callB (call_min2 rfl) rfl mm PyProof.Rows.boot_min (pa_cons (pv 0) (pa_cons (pv 2) pa_nil))) (pa_cons pe_int (pa_cons (pe_un un_neg pe_int) pa_nil)))) (pg_name (i := 4) scU.nd rfl (Or.inl rfl))
      (pss_one (ps_for PassesOwn.never rfl (pi_list (pe_call G hr rfl mU F.kp bF .nil pass0 (pa_cons (pe_op op_sub (pv 0) (pv 4)) (pa_cons (pe_op op_sub (pv 1) pe_int) (pa_cons (pv 4) pa_nil))))) (pg_name (i := 5) scU.nd rfl (Or.inl rfl))
        (pss_one (ps_expr (pe_bm PySem.F.plainAttrs_list PySem.F.slot_list_append PySem.F.type_list_append mt_append (pv 3) (pa_cons (pe_op op_catT (pe_tup (pa_cons (pv 4) pa_nil)) (pv 5)) pa_nil)))))))) pss_nil)
    (pss_one (ps_ret (pv 3))))), ?_⟩
  refine ⟨_, rfl, rfl, _, rfl, ?_⟩
  refine ite2 (fun c => ?_) (fun c => ?_)
  · have c' : V.int w = V.int 0 := of_decide_eq_true c
    have cw : w = 0 := by injection c'
    subst cw
    refine ⟨(by show 0 ≤ sizeLine; decide), fun p hp => ⟨(by show 1 ≤ sizeLine; decide), fun l hl => ?_⟩⟩
    have s1 : Same H (upd H p (.tup [])) := same_new hp _
    have s2 := same_new hl (.lst [.ref p])
    refine q l _ (s1.free hl) (s1.trans s2) ⟨[.ref p], upd_same, ?_⟩
    rw [up_zero]
    exact .cons ⟨p, [], rfl, s2 _ _ upd_same, .nil⟩ .nil
  have cw : w ≠ 0 := fun z => c (decide_eq_true (congrArg V.int z))
  refine ⟨(by show 0 ≤ sizeLine; decide), fun l hl => ?_⟩
  have s0 : Same H (upd H l (.lst [])) := same_new hl _
  refine ⟨_, rfl, _, _, rfl, rfl, _, rfl, ?_⟩
  by_cases c2 : ¬ 0 < m
  · have cm : m ≤ 0 := by omega
    refine iteN c2 ⟨_, rfl, ?_⟩
    refine q l _ hl s0 ⟨[], upd_same, ?_⟩
    rw [up_none n t w m cw cm]
    exact .nil
  have cm : ¬ m ≤ 0 := by omega
  refine iteY (by omega) ?_
  have tot := up_some n t w m cw cm
  have tl : (up (n + 1) t w m).length ≤ 256 := len_ok h0 h8
  have hmin : (if t < w then t else w) = (if w < t then w else t) := by split <;> split <;> omega
  have hk0 : 0 ≤ (if w < t then w else t) := by split <;> omega
  have hkw : (if w < t then w else t) ≤ w := by split <;> omega
  generalize hk : (if w < t then w else t) = k at hk0 hkw tot
  rw [tot] at tl
  refine ⟨_, rfl, _, rfl, _, _, rfl, _, rfl, _, _, rfl, ⟨by rw [hmin, hk]; omega, by rw [hmin, hk]; omega, by decide, by decide⟩, ?_⟩
  rw [hmin, hk]
  have ek : (k - 0).toNat = k.toNat := by rw [Int.sub_zero]
  rw [ek]
  refine for_down (hi := k) (n := k.toNat) (fun i σ H' => (∃ a b, σ = [some (.int w), some (.int m), some (.int t), some (.ref l), a, b]) ∧ Same H H' ∧ LstAt H' l (((downs k).take i).flatMap fun f => (up n f (w - f) (m - 1)).map (f :: ·))) ?_ ?_ ?_
  · exact ⟨⟨_, _, rfl⟩, s0, [], upd_same, by simpa using Paired.nil⟩
  · rintro i σ H1 hi ⟨⟨a, b, rfl⟩, sH, hL⟩
    have hd := downs_at hi
    have nx := flat_at (fun f => (up n f (w - f) (m - 1)).map (f :: ·)) hd
    have nle := flat_le (fun f => (up n f (w - f) (m - 1)).map (f :: ·)) (downs k) (i + 1)
    rw [nx] at nle
    generalize hpre : ((downs k).take i).flatMap (fun f => (up n f (w - f) (m - 1)).map (f :: ·)) = pre at hL nx nle
    obtain ⟨pv1, eL, iL⟩ := hL
    refine ⟨_, rfl, _, rfl, _, _, rfl, rfl, _, rfl, _, _, rfl, rfl, _, rfl, k - (i : Int), w - (k - (i : Int)), m - 1, rfl, by omega, by omega, by omega, by omega, fun r H2 fr g1 e1 => ?_⟩
    have rl := up_row n (k - (i : Int)) (w - (k - (i : Int))) (m - 1) (by omega)
    generalize up n (k - (i : Int)) (w - (k - (i : Int))) (m - 1) = rest at e1 nx nle rl
    obtain ⟨vs2, e2, i2⟩ := e1
    refine ⟨r, rfl, ⟨_, SqL.of e2⟩, ?_⟩
    have hrl : r ≠ l := (ne_of_none eL fr).symm
    have l2 := Paired.length i2
    refine for_list (xs := vs2) (fun j σ H' => (∃ b, σ = [some (.int w), some (.int m), some (.int t), some (.ref l), some (.int (k - (i : Int))), b]) ∧ Same H H' ∧ H' r = some (.lst vs2) ∧ Its H' vs2 rest ∧ LstAt H' l (pre ++ (rest.take j).map ((k - (i : Int)) :: ·))) ?_ ?_ ?_ ?_
    · exact ⟨⟨_, rfl⟩, sH.trans g1, e2, i2, pv1, g1 _ _ eL, by simpa using Its.mono (Tups.same g1) iL⟩
    · rintro j σ H3 _ ⟨_, _, e3, _⟩
      exact SqL.of e3
    · rintro j x σ H3 hx ⟨⟨b, rfl⟩, s3, e3, i3, pv2, eL3, iL3⟩
      obtain ⟨row, hrow, hx2⟩ := Paired.get i3 hx
      obtain ⟨px, rfl, hpx⟩ := row_at hx2
      have len3 : pv2.length < sizeLine := by
        have z := Paired.length iL3
        have jl : j < rest.length := by
          have := (List.getElem?_eq_some_iff.mp hrow).1
          exact this
        rw [List.length_append, List.length_map, List.length_take] at z
        rw [List.length_append, List.length_map] at nle
        exact small1 (by omega)
      have fin : ∀ (p : Addr) (H4 : Hp), Same H3 H4 → H4 p = some (.tup (((k - (i : Int)) :: row).map V.int)) →
          rAppend (.ref l) [.ref p] H4 fun _ H5 => (∃ b', [some (V.int w), some (.int m), some (.int t), some (.ref l), some (.int (k - (i : Int))), some (.ref px)] = [some (.int w), some (.int m), some (.int t), some (.ref l), some (.int (k - (i : Int))), b']) ∧ Same H H5 ∧ H5 r = some (.lst vs2) ∧ Its H5 vs2 rest ∧ LstAt H5 l (pre ++ (rest.take (j + 1)).map ((k - (i : Int)) :: ·)) := by
        intro p H4 s4 hp
        have eL4 := s4 _ _ eL3
        have t4 : Tups H4 (upd H4 l (.lst (pv2 ++ [.ref p]))) := tups_at eL4 _
        refine ⟨l, pv2, .ref p, rfl, rfl, eL4, len3, ⟨_, rfl⟩, same_at hl (s3.trans s4) _, ?_, Its.mono ((Tups.same s4).trans t4) i3, pv2 ++ [.ref p], upd_same, ?_⟩
        · rw [upd_ne hrl]; exact s4 _ _ e3
        · have q1 : (rest.take (j + 1)).map ((k - (i : Int)) :: ·) = (rest.take j).map ((k - (i : Int)) :: ·) ++ [(k - (i : Int)) :: row] := by
            rw [List.take_add_one, hrow]; simp
          rw [q1, ← List.append_assoc]
          exact Paired.snoc (Its.mono ((Tups.same s4).trans t4) iL3) (Dat.mono t4 (row_is hp))
      refine ⟨_, rfl, .inl ⟨rfl, _, SqL.of eL3⟩, _, rfl, (by show 1 ≤ sizeLine; decide), fun p hp => ⟨_, rfl, p, px, [.int (k - (i : Int))], row.map V.int, rfl, rfl, SqT.of upd_same, SqT.of (same_new hp _ _ _ hpx), (by simp), ?_, fun z => ?_, fun z p2 hp2 => ?_⟩⟩
      · have zr := rl row (List.mem_of_getElem? hrow)
        rw [List.length_map]
        exact small (by show 1 + row.length ≤ 100000; omega)
      · have zr : row = [] := by simpa using z
        subst zr
        exact fin p _ (same_new hp _) upd_same
      · exact fin p2 _ ((same_new hp _).trans (same_new hp2 _)) upd_same
    · rintro σ H3 ⟨⟨b, rfl⟩, s3, e3, i3, hL3⟩
      refine ⟨⟨_, _, rfl⟩, s3, ?_⟩
      rw [nx]
      rw [l2, List.take_length] at hL3
      exact hL3
  · rintro σ H1 ⟨⟨a, b, rfl⟩, sH, hL⟩
    refine ⟨_, rfl, q l H1 hl sH ?_⟩
    rw [tot]
    have z : (downs k).take k.toNat = downs k := by rw [← downs_len k, List.take_length]
    rw [z] at hL
    exact hL
theorem up_none_left : FnOk P w K mg base CX0 0 f fd pU (spUp 0) := by
  have no : ∀ vs H Q E, ¬ spUp 0 vs H Q E := fun vs H Q E h => by
    obtain ⟨t, w, m, _, _, h0, _, h1, _⟩ := h
    omega
  exact ⟨fun vs H Q E h => absurd h (no vs H Q E), fun A outer s H args us vs Q E _ _ _ _ h => absurd h (no vs H Q E)⟩
theorem all_up (F : Fun K "_law_rows" "_law_rows" sRws f fd) (bF : Binds K fd pU []) (mU : mg "_law_rows" = some (.ref f)) (mr : mg "range" = none) (mm : mg "min" = none) : ∀ n, FnOk P w K mg base CX0 n f fd pU (spUp n)
  | 0 => up_none_left
  | n + 1 => ok_up F (all_up F bF mU mr mm n) bF mU mr mm
end
end L2.K12

set_option maxHeartbeats 4000000
namespace L2.K12
open PySem
open L2.Pl L2.Ev
section
variable {P : Program} {w : World} {K : PySem.W.Frag} {mg : Str → Option Value} {base : Heap} {f g : Addr} {fd gd : FuncData}
abbrev nDu : List Str := ["_law_row", "_law_found", "_law_k", "_law_many"]
abbrev bDu : List Str := ["_law_number", "_law_k"]
theorem ndDu : bDu.Nodup := by decide +kernel
theorem scDu : FnScope nDu ["_law_row"] (defScope sDue) := ⟨rfl, rfl, rfl, by decide +kernel, rfl, by decide +kernel, by decide +kernel⟩
def cgt (r : List Int) (k : Int) : Int := ((r.filter fun x => decide (k < x)).length : Int)
def dueL (r : List Int) (n : Nat) : List Int := (List.range n).filterMap fun (k : Nat) => if 0 < cgt r k then some (cgt r k) else none
def spDue : Sp := fun vs H Q _ => ∃ (p : Addr) (r : List Int), vs = [.ref p] ∧ H p = some (.tup (r.map V.int)) ∧ r.length ≤ 1000 ∧ ∀ (t : Addr) (H' : Hp), Same H H' → H' t = some (.tup ((dueL r 8).map V.int)) → Q (.ref t) H'
theorem due_succ (r : List Int) (n : Nat) : dueL r (n + 1) = dueL r n ++ (if 0 < cgt r n then [cgt r n] else []) := by
  unfold dueL
  rw [List.range_succ, List.filterMap_append]
  congr 1
  by_cases c : 0 < cgt r n
  · rw [List.filterMap_cons, if_pos c, if_pos c]; rfl
  · rw [List.filterMap_cons, if_neg c, if_neg c]; rfl
theorem due_len (r : List Int) (n : Nat) : (dueL r n).length ≤ n := by
  unfold dueL
  have := List.length_filterMap_le (fun (k : Nat) => if 0 < cgt r k then some (cgt r k) else none) (List.range n)
  rw [List.length_range] at this
  exact this
theorem ok_due (F : Fun K "_law_due" "_law_due" sDue f fd) (mr : mg "range" = none) (mn : mg "len" = none) (mt : mg "tuple" = none) : FnOk P w K mg base CX0 2 f fd ["_law_row"] spDue := by
  refine F.ok scDu (fun vs H Q E h => ?_) (fun cdv A outer s H vs Q E hr h => ?_)
  · obtain ⟨p, r, rfl, _⟩ := h
    rfl
  obtain ⟨p, r, rfl, hp, hl, q⟩ := h
  refine ⟨_, pss_cons (ps_set (i := 1) scDu.nd rfl (Or.inl rfl) (pe_lst pa_nil))
    (pss_cons (ps_for PassesOwn.never rfl (pi_range1 rfl mr (pa_cons pe_int pa_nil)) (pg_name (i := 2) scDu.nd rfl (Or.inr rfl))
      (pss_cons (ps_set (i := 3) scDu.nd rfl (Or.inl rfl) (pe_callB call_len_seq rfl mn PySem.boot_len (pa_cons (pe_comp (N' := bDu) (src := [none, some 2]) rfl (pi_tup (pv 0)) (bk_of (defScope sDue) nDu (by decide +kernel))
          (fun b => pg_name (i := 0) ndDu rfl (Or.inl rfl)) (fun b => pts_one (pt_cmpR op_gt (pv 0) (pv 1) (nomark _))) (fun b => pv 0)) pa_nil)))
      (pss_one (ps_if (pt_cmpR op_gt (pv 3) pe_int (nomark _)) (pss_one (ps_expr (pe_bm PySem.F.plainAttrs_list PySem.F.slot_list_append PySem.F.type_list_append mt_append (pv 1) (pa_cons (pv 3) pa_nil)))) pss_nil))))
    (pss_one (ps_ret (pe_callTy call_tuple_of rfl mt PyProof.Rows.boot_tuple (pa_cons (pv 1) pa_nil))))), ?_⟩
  refine ⟨(by show 0 ≤ sizeLine; decide), fun l hl0 => ?_⟩
  have s0 := same_new hl0 (.lst [])
  refine ⟨8, rfl, by decide, by decide, ?_⟩
  refine for_range (lo := 0) (n := 8) (fun i σ H' => (∃ c2 c3, σ = [some (.ref p), some (.ref l), c2, c3]) ∧ H' l = some (.lst ((dueL r i).map V.int)) ∧ Same H H') ?_ ?_ ?_
  · exact ⟨⟨_, _, rfl⟩, upd_same, s0⟩
  · rintro i σ H1 hi ⟨⟨c2, c3, rfl⟩, hL, s1⟩
    refine ⟨_, rfl, p, rfl, ⟨_, SqT.of (s1 _ _ hp)⟩, fun bk D hD => ?_⟩
    rw [Int.zero_add]
    refine comp_tup (α := Int) hD (SqT.of (s1 _ _ hp)) (fun σ => ∃ c, σ = [c, some (.int i)]) (fun j => (r[j]?).bind fun x => if (i : Int) < x then some x else none) (small (by rw [List.length_map]; omega)) ?_ ?_ ?_
    · exact ⟨_, rfl⟩
    · rintro j v σ H2 Yes No hv ⟨c, rfl⟩ s3 yes no
      obtain ⟨x, hx, rfl⟩ : ∃ x, r[j]? = some x ∧ V.int x = v := by
        rw [List.getElem?_map] at hv
        cases e : r[j]? with
        | none => rw [e] at hv; cases hv
        | some y => rw [e] at hv; exact ⟨y, rfl, Option.some.inj hv⟩
      refine ⟨_, rfl, _, rfl, _, _, rfl, rfl, _, rfl, ?_⟩
      by_cases c : (i : Int) < x
      · refine iteY c ⟨_, rfl, ?_⟩
        exact yes _ _ _ x ⟨_, rfl⟩ (fun _ _ e => e) (by rw [hx]; exact if_pos c) rfl
      · exact iteN c (no _ _ ⟨_, rfl⟩ (fun _ _ e => e) (by rw [hx]; exact if_neg c))
    rintro H2 s2 ⟨ws, eD, iD⟩
    have lw := Paired.length iD
    rw [filt_some r (fun x => (i : Int) < x) _ (by rw [List.length_map])] at lw
    refine ⟨D, _, rfl, .inl (SqL.of eD), ?_⟩
    rw [lw]
    have hL2 := s2 _ _ hL
    have dl := due_len r i
    refine ⟨_, rfl, _, _, rfl, rfl, _, rfl, ?_⟩
    by_cases c : 0 < cgt r i
    · refine iteY c ⟨_, rfl, .inl ⟨rfl, _, SqL.of hL2⟩, _, rfl, l, _, _, rfl, rfl, hL2, smallS (by rw [List.length_map]; omega), ⟨_, _, rfl⟩, ?_, fun b' o e' => ?_⟩
      · rw [due_succ, if_pos c, List.map_append]
        exact upd_same
      · rw [upd_ne (ne_of_none e' hl0)]
        exact s2 _ _ (s1 b' o e')
    · refine iteN c ⟨⟨_, _, rfl⟩, ?_, s1.trans s2⟩
      rw [due_succ, if_neg c, List.append_nil]
      exact hL2
  · rintro σ H1 ⟨⟨c2, c3, rfl⟩, hL, s1⟩
    refine ⟨_, rfl, l, _, rfl, .inl ⟨SqL.of hL, fun t ht => ?_⟩⟩
    exact q t _ (s1.trans (same_new ht _)) upd_same
/-! a tuple that is no row -/
theorem bad_low {b : List Int} {x : Int} (h : x ∈ b) (hx : x < 1) : rowB b = false := by
  cases e : rowB b with
  | false => rfl
  | true => have := (row_low e).1 x h; omega
theorem bad_sum {b : List Int} (h : 8 < b.sum) : rowB b = false := by
  cases e : rowB b with
  | false => rfl
  | true => have := (row_low e).2; omega
theorem bad_rise {b : List Int} {x y : Int} (h : x < y) : rowB (b ++ [x, y]) = false := by
  have : ((List.range ((b ++ [x, y]).length - 1)).all fun i => decide ((b ++ [x, y]).getD (i + 1) 0 ≤ (b ++ [x, y]).getD i 0)) = false := by
    refine Bool.eq_false_iff.mpr fun z => ?_
    have := of_decide_eq_true (List.all_eq_true.mp z b.length (List.mem_range.mpr (by rw [List.length_append]; show b.length < b.length + 2 - 1; omega)))
    rw [List.getD_eq_getElem?_getD, List.getD_eq_getElem?_getD, List.getElem?_append_right (by omega), List.getElem?_append_right (by omega), Nat.sub_self, show b.length + 1 - b.length = 1 by omega] at this
    have : y ≤ x := this
    omega
  unfold rowB
  rw [this]
  simp
theorem nn_sum : ∀ {l : List Int}, (∀ x ∈ l, 0 ≤ x) → 0 ≤ l.sum
  | [], _ => Int.le_refl _
  | z :: l, h => by
    rw [List.sum_cons]
    have := h z (List.mem_cons_self ..)
    have := nn_sum fun x hx => h x (List.mem_cons_of_mem _ hx)
    omega
abbrev nBa : List Str := ["_law_row", "_law_cell_here", "_law_numbers", "_law_place", "_law_far"]
abbrev bBa : List Str := ["_law_k"]
theorem ndBa : bBa.Nodup := by decide +kernel
theorem scBa : FnScope nBa ["_law_row", "_law_cell_here"] (defScope sBad) := ⟨rfl, rfl, rfl, by decide +kernel, rfl, by decide +kernel, by decide +kernel⟩
def spBad : Sp := fun vs H Q _ => ∃ (p : Addr) (c : Int) (r : List Int), vs = [.ref p, .int c] ∧ H p = some (.tup (r.map V.int)) ∧ r.length ≤ 8 ∧ rowB r = true ∧ ∀ (t : Addr) (H' : Hp) (b : List Int), Same H H' → b.length ≤ 100 → rowB b = false → H' t = some (.tup (b.map V.int)) → Q (.ref t) H'
theorem ixN_nat {n j : Nat} (h : j < n) : ixN n (j : Int) = some j := by
  unfold ixN
  rw [if_pos (by omega), if_pos (by omega)]
  congr 1
theorem set_ints (ps : List Int) (j : Nat) (x : Int) : (ps.map V.int).set j (V.int x) = (ps.set j x).map V.int := by rw [List.map_set]
theorem mem_set {l : List Int} {j : Nat} {x : Int} (h : j < l.length) : x ∈ l.set j x := List.mem_of_getElem? (List.getElem?_set_self h)
theorem ones (n : Nat) : (List.range n).filterMap (fun _ => some (1 : Int)) = List.replicate n 1 := by
  rw [List.filterMap_eq_map']
  induction n with
  | zero => rfl
  | succ n ih => rw [List.range_succ, List.map_append, ih, List.replicate_succ']; rfl
theorem rep_sum (n : Nat) : (List.replicate n (1 : Int)).sum = n := by
  induction n with
  | zero => rfl
  | succ n ih => rw [List.replicate_succ, List.sum_cons, ih]; omega
theorem ok_bad (F : Fun K "_law_bad" "_law_bad" sBad f fd) (ml : mg "list" = none) (mn : mg "len" = none) (mr : mg "range" = none) (ms : mg "sum" = none) (mt : mg "tuple" = none) : FnOk P w K mg base CX0 2 f fd ["_law_row", "_law_cell_here"] spBad := by
  refine F.ok scBa (fun vs H Q E h => ?_) (fun cdv A outer s H vs Q E hr h => ?_)
  · obtain ⟨p, c, r, rfl, _⟩ := h
    rfl
  obtain ⟨p, c, r, rfl, hp, hl, hB, q⟩ := h
  refine ⟨_, pss_cons (ps_set (i := 2) scBa.nd rfl (Or.inl rfl) (pe_op op_cat (pe_callTy call_list_of rfl ml PyProof.Rows.boot_list (pa_cons (pv 0) pa_nil)) (pe_lst (pa_cons pe_int pa_nil))))
    (pss_cons (ps_set (i := 3) scBa.nd rfl (Or.inl rfl) (pe_op op_mod (pe_op op_fdiv (pv 1) pe_int) (pe_callB call_len_seq rfl mn PySem.boot_len (pa_cons (pv 2) pa_nil))))
    (pss_cons (ps_set (i := 4) scBa.nd rfl (Or.inl rfl) (pe_op op_mod (pe_op op_fdiv (pv 1) pe_int) (pe_op op_pow pe_int pe_int)))
    (pss_cons (ps_if (pt_cmpR op_eq (pe_op op_mod (pv 1) pe_int) pe_int (nomark _)) (pss_one (ps_asg (pe_op op_sub pe_int (pv 4)) (pg_sub (pv 2) (pv 3) set_list))) pss_nil)
    (pss_cons (ps_if (pt_cmpR op_eq (pe_op op_mod (pv 1) pe_int) pe_int (nomark _)) (pss_one (ps_asg (pe_op op_add pe_int (pv 4)) (pg_sub (pv 2) (pv 3) set_list))) pss_nil)
    (pss_cons (ps_if (pt_cmpR op_eq (pe_op op_mod (pv 1) pe_int) pe_int (nomark _)) (pss_one (ps_expr (pe_bm PySem.F.plainAttrs_list PySem.F.slot_list_append PySem.F.type_list_append mt_append (pv 2) (pa_cons (pe_op op_add (pe_ix ix_list (pv 2) (pe_un un_neg pe_int) (fun _ _ => rfl)) pe_int) pa_nil)))) pss_nil)
    (pss_cons (ps_if (pt_cmpR op_eq (pe_op op_mod (pv 1) pe_int) pe_int (nomark _)) (pss_one (ps_set (i := 2) scBa.nd rfl (Or.inl rfl) (pe_op op_cat (pv 2) (pe_comp (N' := bBa) (src := [none]) rfl (pi_range1 rfl mr (pa_cons (pe_op op_sub pe_int (pe_callB (call_sumL rfl) rfl ms PyProof.Rows.boot_sum (pa_cons (pv 2) pa_nil))) pa_nil)) (bk_of (defScope sBad) nBa (by decide +kernel))
      (fun b => pg_name (i := 0) ndBa rfl (Or.inl rfl)) (fun b => pts_nil) (fun b => pe_int))))) pss_nil)
    (pss_one (ps_ret (pe_callTy call_tuple_of rfl mt PyProof.Rows.boot_tuple (pa_cons (pv 2) pa_nil)))))))))), ?_⟩
  obtain ⟨low, s8⟩ := row_low hB
  have nnr := nn_sum fun x hx => (by have := low x hx; omega : 0 ≤ x)
  refine ⟨_, rfl, p, _, rfl, .inr (SqT.of hp), fun p0 h0 => ?_⟩
  have t0 := same_new h0 (.lst (r.map V.int))
  refine ⟨(by show 1 ≤ sizeLine; decide), fun p1 h1 => ?_⟩
  have t1 := same_new h1 (.lst [.int 1])
  refine ⟨p0, p1, _, _, rfl, rfl, t1 _ _ upd_same, upd_same, small (by rw [List.length_map]; show r.length + 1 ≤ 100000; omega), fun l h2 => ?_⟩
  have en : r.map V.int ++ [V.int 1] = (r ++ [1]).map V.int := by rw [List.map_append]; rfl
  rw [en]
  have t2 := same_new h2 (.lst ((r ++ [1]).map V.int))
  have fl : H l = none := t0.free (t1.free h2)
  have sH := t0.trans (t1.trans t2)
  have eL : upd (upd (upd H p0 (.lst (r.map V.int))) p1 (.lst [.int 1])) l (.lst ((r ++ [1]).map V.int)) l = some (.lst ((r ++ [1]).map V.int)) := upd_same
  show gName 2 (.ref l) _ (upd (upd (upd H p0 (.lst (r.map V.int))) p1 (.lst [.int 1])) l (.lst ((r ++ [1]).map V.int))) _
  generalize upd (upd (upd H p0 (.lst (r.map V.int))) p1 (.lst [.int 1])) l (.lst ((r ++ [1]).map V.int)) = G at *
  have ll : (r ++ [1]).length = r.length + 1 := by rw [List.length_append]; rfl
  refine ⟨_, rfl, _, _, rfl, rfl, ⟨by decide, by decide⟩, _, rfl, l, _, rfl, .inl (SqL.of eL), _, _, rfl, rfl, (by rw [List.length_map, ll]; omega), ?_⟩
  rw [List.length_map, ll]
  have m0 := Int.emod_nonneg (c / 4) (show ((r.length + 1 : Nat) : Int) ≠ 0 by omega)
  have m1 := Int.emod_lt_of_pos (c / 4) (show (0 : Int) < ((r.length + 1 : Nat) : Int) by omega)
  obtain ⟨j, hj⟩ : ∃ j : Nat, c / 4 % ((r.length + 1 : Nat) : Int) = j := ⟨(c / 4 % ((r.length + 1 : Nat) : Int)).toNat, by omega⟩
  show gName 3 (V.int (c / 4 % ((r.length + 1 : Nat) : Int))) _ _ _
  rw [hj] at m1 ⊢
  have jl : j < (r ++ [1]).length := by rw [ll]; omega
  refine ⟨_, rfl, _, _, rfl, rfl, ⟨by decide, by decide⟩, _, _, rfl, rfl, ⟨by decide, by decide, by decide⟩, _, _, rfl, rfl, (by show (0 : Int) < 10 ^ Int.toNat 59; decide), ?_⟩
  have f0 := Int.emod_nonneg (c / 40) (show (10 : Int) ^ Int.toNat 59 ≠ 0 by decide)
  show gName 4 (V.int (c / 40 % (10 : Int) ^ Int.toNat 59)) _ _ _
  generalize c / 40 % (10 : Int) ^ Int.toNat 59 = far at *
  have w0 := Int.emod_nonneg c (show (4 : Int) ≠ 0 by decide)
  have w4 := Int.emod_lt_of_pos c (show (0 : Int) < 4 by decide)
  have ne : ∀ k : Int, c % 4 ≠ k → ¬ (V.int (c % 4) = V.int k) := fun k h z => h (by injection z)
  have up1 : ∀ o, Same H (upd G l o) := fun o b' o' e' => by rw [upd_ne (ne_of_none e' fl)]; exact sH _ _ e'
  have hw : c % 4 = 0 ∨ c % 4 = 1 ∨ c % 4 = 2 ∨ c % 4 = 3 := by omega
  rcases hw with hw | hw | hw | hw
  · refine ⟨_, rfl, _, _, rfl, rfl, (by show (0 : Int) < 4; decide), rfl, _, rfl, iteY (by show V.int (c % 4) = V.int 0; rw [hw]) ?_⟩
    refine ⟨_, rfl, _, _, rfl, rfl, _, rfl, _, rfl, l, _, _, _, rfl, rfl, eL, ixN_nat (by rw [List.length_map]; exact jl), ?_⟩
    rw [set_ints]
    refine ⟨_, rfl, _, _, rfl, rfl, (by show (0 : Int) < 4; decide), rfl, _, rfl, iteN (ne _ (by omega)) ⟨_, rfl, _, _, rfl, rfl, (by show (0 : Int) < 4; decide), rfl, _, rfl, iteN (ne _ (by omega)) ⟨_, rfl, _, _, rfl, rfl, (by show (0 : Int) < 4; decide), rfl, _, rfl, iteN (ne _ (by omega)) ⟨_, rfl, l, _, rfl, .inl ⟨SqL.of upd_same, fun t ht => ?_⟩⟩⟩⟩⟩
    exact q t _ _ ((up1 _).trans (same_new ht _)) (by rw [List.length_set, ll]; omega) (bad_low (mem_set jl) (by omega)) upd_same
  · refine ⟨_, rfl, _, _, rfl, rfl, (by show (0 : Int) < 4; decide), rfl, _, rfl, iteN (ne _ (by omega)) ⟨_, rfl, _, _, rfl, rfl, (by show (0 : Int) < 4; decide), rfl, _, rfl, iteY (by show V.int (c % 4) = V.int 1; rw [hw]) ?_⟩⟩
    refine ⟨_, rfl, _, _, rfl, rfl, _, rfl, _, rfl, l, _, _, _, rfl, rfl, eL, ixN_nat (by rw [List.length_map]; exact jl), ?_⟩
    rw [set_ints]
    refine ⟨_, rfl, _, _, rfl, rfl, (by show (0 : Int) < 4; decide), rfl, _, rfl, iteN (ne _ (by omega)) ⟨_, rfl, _, _, rfl, rfl, (by show (0 : Int) < 4; decide), rfl, _, rfl, iteN (ne _ (by omega)) ⟨_, rfl, l, _, rfl, .inl ⟨SqL.of upd_same, fun t ht => ?_⟩⟩⟩⟩
    refine q t _ _ ((up1 _).trans (same_new ht _)) (by rw [List.length_set, ll]; omega) (bad_sum ?_) upd_same
    have key := sum_mem (r := (r ++ [1]).set j (9 + far)) (fun x hx => ?_) (9 + far) (mem_set jl)
    · omega
    · rcases List.mem_or_eq_of_mem_set hx with hx | rfl
      · rcases List.mem_append.mp hx with hx | hx
        · have := low x hx; omega
        · rw [List.mem_singleton.mp hx]; decide
      · omega
  · refine ⟨_, rfl, _, _, rfl, rfl, (by show (0 : Int) < 4; decide), rfl, _, rfl, iteN (ne _ (by omega)) ⟨_, rfl, _, _, rfl, rfl, (by show (0 : Int) < 4; decide), rfl, _, rfl, iteN (ne _ (by omega)) ⟨_, rfl, _, _, rfl, rfl, (by show (0 : Int) < 4; decide), rfl, _, rfl, iteY (by show V.int (c % 4) = V.int 2; rw [hw]) ?_⟩⟩⟩
    have al : atI ((r ++ [1]).map V.int) (-1) = some (.int 1) := by
      rw [← en]
      exact atI_last _ _
    refine ⟨_, rfl, .inl ⟨rfl, _, SqL.of eL⟩, _, rfl, _, rfl, l, _, _, .int 1, rfl, rfl, SqL.of eL, al, _, _, rfl, rfl, l, _, _, rfl, rfl, eL, smallS (by rw [List.length_map, ll]; omega), ?_⟩
    refine ⟨_, rfl, _, _, rfl, rfl, (by show (0 : Int) < 4; decide), rfl, _, rfl, iteN (ne _ (by omega)) ⟨_, rfl, l, _, rfl, .inl ⟨SqL.of upd_same, fun t ht => ?_⟩⟩⟩
    have eb : (r ++ [1]).map V.int ++ [V.int (1 + 1)] = (r ++ [1, 2]).map V.int := by rw [← en, List.map_append, List.append_assoc]; rfl
    exact q t _ (r ++ [1, 2]) ((up1 _).trans (same_new ht _)) (by rw [List.length_append]; show r.length + 2 ≤ 100; omega) (bad_rise (by decide)) (by rw [upd_same]; exact congrArg (fun z => some (HO.tup z)) eb)
  · refine ⟨_, rfl, _, _, rfl, rfl, (by show (0 : Int) < 4; decide), rfl, _, rfl, iteN (ne _ (by omega)) ⟨_, rfl, _, _, rfl, rfl, (by show (0 : Int) < 4; decide), rfl, _, rfl, iteN (ne _ (by omega)) ⟨_, rfl, _, _, rfl, rfl, (by show (0 : Int) < 4; decide), rfl, _, rfl, iteN (ne _ (by omega)) ⟨_, rfl, _, _, rfl, rfl, (by show (0 : Int) < 4; decide), rfl, _, rfl, iteY (by show V.int (c % 4) = V.int 3; rw [hw]) ?_⟩⟩⟩⟩
    have su : (r ++ [1]).sum = r.sum + 1 := by rw [List.sum_append]; rfl
    refine ⟨_, rfl, _, rfl, l, r ++ [1], rfl, SqL.of eL, _, _, rfl, rfl, _, rfl, by rw [su]; omega, by rw [su]; omega, fun bk D hD => ?_⟩
    refine comp_range (α := Int) hD (fun σ => ∃ c, σ = [c]) (fun (i : Nat) => some (1 : Int)) (small (by rw [su]; omega)) ?_ ?_ ?_
    · exact ⟨_, rfl⟩
    · rintro i σ H2 Yes No hi ⟨c, rfl⟩ s3 yes no
      refine nameYes ?_
      exact yes _ _ _ _ ⟨_, rfl⟩ (fun _ _ e => e) rfl rfl
    rintro H3 s3 ⟨ws, eD, iD⟩
    rw [its_ints iD, ones] at eD
    refine ⟨l, D, _, _, rfl, rfl, s3 _ _ eL, eD, small (by rw [List.length_map, List.length_map, List.length_replicate, ll, su]; omega), fun l4 h4 => ?_⟩
    have t4 := same_new h4 (.lst ((r ++ [1]).map V.int ++ (List.replicate (9 - (r ++ [1]).sum).toNat (1 : Int)).map V.int))
    refine ⟨_, rfl, l4, _, rfl, .inl ⟨SqL.of upd_same, fun t ht => ?_⟩⟩
    refine q t _ ((r ++ [1]) ++ List.replicate (9 - (r ++ [1]).sum).toNat (1 : Int)) (sH.trans (s3.trans (t4.trans (same_new ht _)))) ?_ (bad_sum ?_) (by rw [upd_same]; exact congrArg (fun z => some (HO.tup z)) List.map_append.symm)
    · rw [List.length_append, List.length_replicate, ll, su]; omega
    · rw [List.sum_append, rep_sum, su]; omega
abbrev nIs : List Str := ["_law_numbers", "_law_k"]
theorem scIs : FnScope nIs ["_law_numbers"] (defScope sIsr) := ⟨rfl, rfl, rfl, by decide +kernel, rfl, by decide +kernel, by decide +kernel⟩
def spIsr : Sp := fun vs H Q _ => ∃ (p : Addr) (r : List Int), vs = [.ref p] ∧ H p = some (.tup (r.map V.int)) ∧ r.length ≤ 1000 ∧ rowB r = false ∧ Q (.bl false) H
theorem at_int {ps : List Int} {k : Nat} (h : k < ps.length) : atI (ps.map V.int) (k : Int) = some (.int (ps.getD k 0)) := by
  refine atI_nat ?_
  rw [List.getElem?_map, List.getElem?_eq_getElem h]
  simp [h]
theorem ok_isr (F : Fun K "_law_is_row" "_law_is_row" sIsr f fd) (mr : mg "range" = none) (mn : mg "len" = none) (ms : mg "sum" = none) : FnOk P w K mg base CX0 2 f fd ["_law_numbers"] spIsr := by
  refine F.ok scIs (fun vs H Q E h => ?_) (fun cdv A outer s H vs Q E hr h => ?_)
  · obtain ⟨p, r, rfl, _⟩ := h
    rfl
  obtain ⟨p, r, rfl, hp, hl, hB, q⟩ := h
  refine ⟨_, pss_cons (ps_for PassesOwn.never rfl (pi_range1 rfl mr (pa_cons (pe_callB call_len_seq rfl mn PySem.boot_len (pa_cons (pv 0) pa_nil)) pa_nil)) (pg_name (i := 1) scIs.nd rfl (Or.inl rfl))
      (pss_one (ps_if (PW.pt (pw_or (pt_cmpR op_lt (pe_ix ix_tup (pv 0) (pv 1) (fun _ _ => rfl)) pe_int (nomark _)) (pw_or1 (PW.pt (pw_and (pt_cmpR op_gt (pv 1) pe_int (nomark _)) (pw_and1 (pt_cmpR op_gt (pe_ix ix_tup (pv 0) (pv 1) (fun _ _ => rfl)) (pe_ix ix_tup (pv 0) (pe_op op_sub (pv 1) pe_int) (fun _ _ => rfl)) (nomark _))))))))
        (pss_one (ps_ret pe_bl)) pss_nil)))
    (pss_one (ps_ret (pe_cmpR op_le (pe_callB (call_sumT rfl) rfl ms PyProof.Rows.boot_sum (pa_cons (pv 0) pa_nil)) pe_int (nomark _)))), ?_⟩
  refine ⟨_, rfl, p, _, rfl, .inr (SqT.of hp), _, rfl, by rw [List.length_map]; omega, by rw [List.length_map]; omega, ?_⟩
  rw [List.length_map, Int.toNat_natCast]
  refine for_range (lo := 0) (n := r.length) (fun i σ H' => (∃ c, σ = [some (.ref p), c]) ∧ H' = H ∧ ∀ j, j < i → 1 ≤ r.getD j 0 ∧ (0 < j → r.getD j 0 ≤ r.getD (j - 1) 0)) ?_ ?_ ?_
  · exact ⟨⟨_, rfl⟩, rfl, fun j hj => absurd hj (Nat.not_lt_zero _)⟩
  · rintro i σ H1 hi ⟨⟨c, rfl⟩, rfl, ok⟩
    rw [Int.zero_add]
    refine ⟨_, rfl, _, rfl, p, _, _, _, rfl, rfl, SqT.of hp, at_int hi, _, _, rfl, rfl, _, rfl, ?_⟩
    by_cases c1 : r.getD i 0 < 1
    · exact iteY c1 (iteT q)
    · refine iteN c1 ⟨_, rfl, _, _, rfl, rfl, _, rfl, ?_⟩
      have nx : (0 < i → r.getD i 0 ≤ r.getD (i - 1) 0) → ∀ j, j < i + 1 → 1 ≤ r.getD j 0 ∧ (0 < j → r.getD j 0 ≤ r.getD (j - 1) 0) := fun h j hj => by
        by_cases e : j = i
        · subst e; exact ⟨by omega, h⟩
        · exact ok j (by omega)
      by_cases c2 : (0 : Int) < i
      · refine iteY c2 ⟨_, rfl, _, rfl, p, _, _, _, rfl, rfl, SqT.of hp, at_int hi, _, rfl, _, rfl, _, _, rfl, rfl, p, _, _, _, rfl, rfl, SqT.of hp, (by rw [show ((i : Nat) : Int) - 1 = ((i - 1 : Nat) : Int) by omega]; exact at_int (by omega)), _, _, rfl, rfl, _, rfl, ?_⟩
        by_cases c3 : r.getD (i - 1) 0 < r.getD i 0
        · exact iteY c3 q
        · exact iteN c3 ⟨⟨_, rfl⟩, rfl, nx fun _ => by omega⟩
      · exact iteN c2 (iteF ⟨⟨_, rfl⟩, rfl, nx fun z => by omega⟩)
  · rintro σ H1 ⟨⟨c, rfl⟩, rfl, ok⟩
    refine ⟨_, rfl, p, r, rfl, SqT.of hp, _, _, rfl, rfl, ?_⟩
    have : ¬ r.sum ≤ 8 := fun z => by
      have t : rowB r = true := by
        unfold rowB
        rw [Bool.and_eq_true, Bool.and_eq_true]
        refine ⟨⟨List.all_eq_true.mpr fun x hx => decide_eq_true ?_, List.all_eq_true.mpr fun i hi => decide_eq_true ?_⟩, decide_eq_true z⟩
        · obtain ⟨j, hj, rfl⟩ := List.getElem_of_mem hx
          have := (ok j hj).1
          rw [List.getD_eq_getElem?_getD, List.getElem?_eq_getElem hj] at this
          exact this
        · have hi := List.mem_range.mp hi
          exact (ok (i + 1) (by omega)).2 (by omega)
      rw [hB] at t
      cases t
    show Q (.bl (decide (r.sum ≤ 8))) H1
    rw [decide_eq_false this]
    exact q
end
end L2.K12

set_option maxHeartbeats 4000000
namespace L2.K12
open PySem
open L2.Pl L2.Ev
section
variable {P : Program} {w : World} {K : PySem.W.Frag} {mg : Str → Option Value} {base : Heap} {f g : Addr} {fd gd : FuncData}
abbrev nFl : List Str := ["_law_which", "_law_row", "_law_good", "_law_caught", "e"]
abbrev pFl : List Str := ["_law_which", "_law_row", "_law_good"]
theorem scFl : FnScope nFl pFl (defScope sFlg) := ⟨rfl, rfl, rfl, by decide +kernel, rfl, by decide +kernel, by decide +kernel⟩
def flagsRow : List Bool := [false, false, false, true, false, false, false, false, false, false, false, false, false]
theorem named_row : named flagsRow = (["row"] : List Str) := by decide +kernel
def spFlg : Sp := fun vs H Q _ => ∃ (wh : Int) (p g : Addr) (b r : List Int), vs = [.int wh, .ref p, .ref g] ∧ H p = some (.tup (b.map V.int)) ∧ H g = some (.tup (r.map V.int)) ∧ b.length ≤ 1000 ∧ r.length ≤ 1000 ∧ rowB b = false ∧ ∀ (l : Addr) (H' : Hp), H l = none → Same H H' → LstAt H' l (["row"] : List Str) → Q (.ref l) H'
theorem ok_flg {cBR C0 : Addr} {ds : List Addr} (F : Fun K "_law_flags" "_law_flags" sFlg f fd) (GT : HasX P w K mg base 4 "turned" nTo (spTd cBR)) (GS : HasX P w K mg base 4 "steps" ["one", "other"] (spStB cBR)) (GC : Has P w K mg base 4 "_law_called" ["_law_caught"] (spCalled K ds)) (mE : mg "EvenError" = some (.ref C0)) (kE : PySem.W.kitOne K (.ref C0) (.type "BaseException") = some true)
    (k1 : PySem.W.kitOne K (.ref cBR) (.ref C0) = some true) (n1 : cBR ≠ C0) (ek : ExcK K cBR) (kv : PySem.W.kitOne K (.ref cBR) (.type "ValueError") = some true) (sy : Says K cBR ds flagsRow) : FnOk P w K mg base CX0 5 f fd pFl spFlg := by
  refine F.ok scFl (fun vs H Q E h => ?_) (fun cdv A outer s H vs Q E hr h => ?_)
  · obtain ⟨wh, p, g, b, r, rfl, _⟩ := h
    rfl
  obtain ⟨wh, p, g, b, r, rfl, hp, hg, lb, lr, hB, q⟩ := h
  refine ⟨_, pss_cons (ps_set (i := 3) scFl.nd rfl (Or.inl rfl) pe_non)
    (pss_cons (ps_try (i := 4) (j := 3) rfl rfl scFl.nd rfl rfl rfl rfl rfl mE (kit_cls_ty kE) (fun pn' T σ0 E' hx =>
      pss_one (ps_if (pt_cmpR op_eq (pv 0) pe_int (nomark _)) (pss_one (ps_expr (pe_callS GT.ok hr rfl GT.at_ GT.kp GT.bd hx (pa_cons (pv 1) pa_nil))))
        (pss_one (ps_if (pt_cmpR op_eq (pv 0) pe_int (nomark _)) (pss_one (ps_expr (pe_callS GS.ok hr rfl GS.at_ GS.kp GS.bd hx (pa_cons (pv 1) (pa_cons (pv 2) pa_nil)))))
          (pss_one (ps_if (pt_cmpR op_eq (pv 0) pe_int (nomark _)) (pss_one (ps_expr (pe_callS GS.ok hr rfl GS.at_ GS.kp GS.bd hx (pa_cons (pv 2) (pa_cons (pv 1) pa_nil)))))
            (pss_one (ps_expr (pe_callS GS.ok hr rfl GS.at_ GS.kp GS.bd hx (pa_cons (pv 1) (pa_cons (pv 1) pa_nil))))))))))))
    (pss_one (ps_ret (pe_has GC hr rfl (pa_cons (pv 3) pa_nil))))), ?_⟩
  have fin : ∀ (H1 : Hp), Same H H1 → EH K C0 4 3 { nx := fun σ1 H2 => tRet (tCall (spCalled K ds) [] E0 (tCons (tVar 3) tNil)) { nx := fun _ H' => Q .non H', rt := Q } σ1 H2, rt := Q } [some (.int wh), some (.ref p), some (.ref g), some .non, none] (.ref cBR) none H1 := by
    intro H1 s1
    refine ⟨cBR, rfl, kit_cls_of k1 n1, fun c hc => ?_⟩
    have s2 := same_new hc (excO c (.ref cBR))
    refine ⟨_, rfl, c, cBR, flagsRow, rfl, upd_same, ek, kv, sy, fun l H' hl s3 hL => ?_⟩
    rw [named_row] at hL
    exact q l H' (s1.free (s2.free hl)) (s1.trans (s2.trans s3)) hL
  refine ⟨_, rfl, rfl, _, rfl, ?_⟩
  by_cases c0 : V.int wh = V.int 0
  · exact iteY c0 ⟨rfl, _, rfl, p, b, rfl, hp, lb, (fun z => by rw [hB] at z; cases z), fun _ H1 s1 => fin H1 s1⟩
  refine iteN c0 ⟨_, rfl, rfl, _, rfl, ?_⟩
  by_cases c1 : V.int wh = V.int 1
  · exact iteY c1 ⟨rfl, _, rfl, _, rfl, p, g, b, r, rfl, hp, hg, lb, lr, .inl hB, fun H1 s1 => fin H1 s1⟩
  refine iteN c1 ⟨_, rfl, rfl, _, rfl, ?_⟩
  by_cases c2 : V.int wh = V.int 2
  · exact iteY c2 ⟨rfl, _, rfl, _, rfl, g, p, r, b, rfl, hg, hp, lr, lb, .inr hB, fun H1 s1 => fin H1 s1⟩
  exact iteN c2 ⟨rfl, _, rfl, _, rfl, p, p, b, b, rfl, hp, hp, lb, lb, .inl hB, fun H1 s1 => fin H1 s1⟩
def spLaw (K : PySem.W.Frag) : Sp := fun vs H Q _ => ∃ (a : Addr) (ns : List Int), vs = [.ref a] ∧ SqL K H a (ns.map V.int) ∧ ns.length ≤ 63 ∧ ∀ H', Q (.bl true) H'
def goodR (r : List Int) : Bool := rowB r && decide (tov r = dueL r 8) && rowB (tov r) && decide (tov (tov r) = r) && decide (r.length ≤ 8) && decide ((tov r).length ≤ 8)
theorem all_good : ∀ w ∈ List.range 9, (up 9 (w : Int) (w : Int) (w : Int)).all goodR = true ∧ 0 < (up 9 (w : Int) (w : Int) (w : Int)).length := by decide +kernel
theorem good_of {w : Int} (h0 : 0 ≤ w) (h1 : w < 9) : (up 9 w w w).all goodR = true ∧ 0 < (up 9 w w w).length := by
  have := all_good w.toNat (List.mem_range.mpr (by omega))
  rwa [Int.toNat_of_nonneg h0] at this
theorem turn_none : tov [] = [] := by decide +kernel
theorem turn_eight : tov [8] = [1, 1, 1, 1, 1, 1, 1, 1] := by decide +kernel
abbrev nL : List Str := ["_law_script", "_law_k", "_law_cell_here", "_law_weight", "_law_some", "_law_row", "_law_found", "_law_bad_here", "_law_which"]
theorem scL : FnScope nL ["_law_script"] (defScope sLaw) := ⟨rfl, rfl, rfl, by decide +kernel, rfl, by decide +kernel, by decide +kernel⟩
theorem ok_law {cBR : Addr} (F : Fun K "law" "law" sLaw f fd) (GR : Has P w K mg base 9 "_law_rows" pU (spUp 9)) (GT : HasX P w K mg base 9 "turned" nTo (spTd cBR)) (GD : Has P w K mg base 9 "_law_due" ["_law_row"] spDue) (GB : Has P w K mg base 9 "_law_bad" ["_law_row", "_law_cell_here"] spBad) (GI : Has P w K mg base 9 "_law_is_row" ["_law_numbers"] spIsr)
    (GF : Has P w K mg base 9 "_law_flags" pFl spFlg) (me : mg "enumerate" = none) (mn : mg "len" = none) (mi : mg "isinstance" = none) (mt : mg "tuple" = none) (mr : mg "range" = none) : FnOk P w K mg base CX0 10 f fd ["_law_script"] (spLaw K) := by
  refine F.ok scL (fun vs H Q E h => ?_) (fun cdv A outer s H vs Q E hr h => ?_)
  · obtain ⟨a, ns, rfl, _⟩ := h
    rfl
  obtain ⟨a, ns, rfl, hS, h63, q⟩ := h
  have hI := Nat.lt_of_le_of_lt (Nat.add_le_add_left (by decide : Dat.dep Int + 1 ≤ 64) _) hr.units
  have hX := Nat.lt_of_le_of_lt (Nat.add_le_add_left (by decide : Dat.dep Str + 1 ≤ 64) _) hr.units
  refine ⟨_, pss_cons (ps_for PassesOwn.never rfl (pi_enum .lst rfl me (pa_cons (pe_slice sl_list (pv 0) po_none (po_some pe_int)) pa_nil)) (pg_tup rfl (pgs_cons (pg_name (i := 1) scL.nd rfl (Or.inl rfl)) (pgs_cons (pg_name (i := 2) scL.nd rfl (Or.inl rfl)) pgs_nil)))
      (pss_cons (ps_set (i := 3) scL.nd rfl (Or.inl rfl) (pe_op op_mod (pv 2) pe_int))
      (pss_cons (ps_set (i := 4) scL.nd rfl (Or.inl rfl) (pe_has GR hr rfl (pa_cons (pv 3) (pa_cons (pv 3) (pa_cons (pv 3) pa_nil)))))
      (pss_cons (ps_set (i := 5) scL.nd rfl (Or.inl rfl) (pe_ix ix_list (pv 4) (pe_op op_mod (pe_op op_fdiv (pv 2) pe_int) (pe_callB call_len_seq rfl mn PySem.boot_len (pa_cons (pv 4) pa_nil))) (fun _ _ => rfl)))
      (pss_cons (ps_set (i := 6) scL.nd rfl (Or.inl rfl) (pe_call GT.ok hr rfl GT.at_ GT.kp GT.bd .nil pass10 (pa_cons (pv 5) pa_nil)))
      (pss_cons (ps_if (PW.pt (pw_or (pt_not (pt_val (pe_callB call_isinst rfl mi PyProof.Rows.boot_isinstance (pa_cons (pv 6) (pa_cons (pe_bltn (v := .ty "tuple") rfl mt PyProof.Rows.boot_tuple rfl) pa_nil)))))
          (pw_or (pt_cmpR (op_neT (α := Int) hI) (pv 6) (pe_has GD hr rfl (pa_cons (pv 5) pa_nil)) (nomark _))
          (pw_or1 (pt_cmpR (op_neT (α := Int) hI) (pe_call GT.ok hr rfl GT.at_ GT.kp GT.bd .nil pass10 (pa_cons (pv 6) pa_nil)) (pv 5) (nomark _)))))) (pss_one (ps_ret pe_bl)) pss_nil)
      (pss_one (ps_if (pt_cmpR op_eq (pe_op op_mod (pv 1) pe_int) pe_int (nomark _))
        (pss_cons (ps_set (i := 7) scL.nd rfl (Or.inl rfl) (pe_has GB hr rfl (pa_cons (pv 5) (pa_cons (pe_op op_fdiv (pv 2) pe_int) pa_nil))))
        (pss_cons (ps_if (pt_val (pe_has GI hr rfl (pa_cons (pv 7) pa_nil))) (pss_one (ps_ret pe_bl)) pss_nil)
        (pss_one (ps_for PassesOwn.never rfl (pi_range1 rfl mr (pa_cons pe_int pa_nil)) (pg_name (i := 8) scL.nd rfl (Or.inl rfl))
          (pss_one (ps_if (pt_cmpR (op_neL (α := Str) hX) (pe_has GF hr rfl (pa_cons (pv 8) (pa_cons (pv 7) (pa_cons (pv 5) pa_nil)))) (pe_lst (pa_cons pe_str pa_nil)) (nomark _)) (pss_one (ps_ret pe_bl)) pss_nil)))))) pss_nil))))))))
    (pss_one (ps_ret (pe_and (pe_cmpR (op_eqT (α := Int) hI) (pe_call GT.ok hr rfl GT.at_ GT.kp GT.bd .nil pass10 (pa_cons (pe_tup pa_nil) pa_nil)) (pe_tup pa_nil) (nomark _))
      (pe_one (pe_cmpR (op_eqT (α := Int) hI) (pe_call GT.ok hr rfl GT.at_ GT.kp GT.bd .nil pass10 (pa_cons (pe_tup (pa_cons pe_int pa_nil)) pa_nil)) (pe_tup (pa_cons pe_int (pa_cons pe_int (pa_cons pe_int (pa_cons pe_int (pa_cons pe_int (pa_cons pe_int (pa_cons pe_int (pa_cons pe_int pa_nil))))))))) (nomark _)))))), ?_⟩
  refine ⟨_, rfl, _, rfl, a, _, rfl, hS, fun p hp => ?_⟩
  have allI : ∀ x ∈ cutV (ns.map V.int) none (some 60), ∃ c : Int, x = .int c := by
    intro x hx
    have hx := List.mem_of_mem_drop (List.mem_of_mem_take hx)
    obtain ⟨c, _, rfl⟩ := List.mem_map.mp hx
    exact ⟨c, rfl⟩
  generalize cutV (ns.map V.int) none (some 60) = cells at allI
  refine ⟨p, rfl, ⟨_, SqL.of upd_same⟩, ?_⟩
  refine for_enum (k := .lst) (xs := cells) (fun i σ H' => (∃ c1 c2 c3 c4 c5 c6 c7 c8, σ = [some (.ref a), c1, c2, c3, c4, c5, c6, c7, c8]) ∧ H' p = some (.lst cells)) ?_ ?_ ?_ ?_
  · exact ⟨⟨_, _, _, _, _, _, _, _, rfl⟩, upd_same⟩
  · rintro i σ H1 ⟨_, h1⟩
    exact SqL.of h1
  · rintro i x t σ H1 hx ht ⟨⟨c1, c2, c3, c4, c5, c6, c7, c8, rfl⟩, h1⟩
    obtain ⟨c, rfl⟩ := allI x (List.mem_of_getElem? hx)
    have h1' := same_new ht (.tup [.int i, .int c]) _ _ h1
    refine ⟨t, _, rfl, SqT.of upd_same, rfl, _, _, rfl, _, _, rfl, rfl, ?_⟩
    generalize upd H1 t (.tup [.int i, .int c]) = G at h1'
    have w0 : 0 ≤ c % 9 := Int.emod_nonneg _ (by decide)
    have w9 : c % 9 < 9 := Int.emod_lt_of_pos _ (by decide)
    obtain ⟨g1, g2⟩ := good_of w0 w9
    refine ⟨_, rfl, _, _, rfl, rfl, (by show (0 : Int) < 9; decide), _, rfl, _, rfl, _, rfl, c % 9, c % 9, c % 9, rfl, w0, w0, by omega, by omega, fun l H2 hl s2 hL => ?_⟩
    generalize up 9 (c % 9) (c % 9) (c % 9) = rs at g1 g2 hL
    obtain ⟨vs, eL, iL⟩ := hL
    have lv := Paired.length iL
    have m0 := Int.emod_nonneg (c / 9) (show (vs.length : Int) ≠ 0 by omega)
    have m1 := Int.emod_lt_of_pos (c / 9) (show (0 : Int) < (vs.length : Int) by omega)
    obtain ⟨j, hj⟩ : ∃ j : Nat, c / 9 % (vs.length : Int) = j := ⟨(c / 9 % (vs.length : Int)).toNat, by omega⟩
    have jl : j < vs.length := by omega
    obtain ⟨r, hr', hi⟩ := its_at iL (List.getElem?_eq_getElem jl)
    obtain ⟨pr, e1, hpr⟩ := row_at hi
    have gr := List.all_eq_true.mp g1 r (List.mem_of_getElem? hr')
    unfold goodR at gr
    simp only [Bool.and_eq_true, decide_eq_true_eq] at gr
    obtain ⟨⟨⟨⟨⟨r1, r2⟩, r3⟩, r4⟩, r5⟩, r6⟩ := gr
    refine ⟨_, rfl, _, rfl, _, _, rfl, rfl, ⟨by decide, by decide⟩, _, rfl, l, _, rfl, .inl (SqL.of eL), _, _, rfl, rfl, (by omega), l, _, _, .ref pr, rfl, rfl, SqL.of eL, (by rw [hj]; exact atI_nat (by rw [List.getElem?_eq_getElem jl, e1])), ?_⟩
    refine ⟨_, rfl, pr, r, rfl, hpr, by omega, fun _ tu H3 s3 h3 => ?_, (fun z => by rw [r1] at z; cases z)⟩
    refine ⟨_, rfl, _, _, _, _, rfl, TyOf.tup h3, kit_same _ _, _, rfl, iteF ?_⟩
    refine ⟨_, rfl, _, rfl, pr, r, rfl, s3 _ _ hpr, by omega, fun td H4 s4 h4 => ?_⟩
    refine ⟨tov r, dueL r 8, row_is (s4 _ _ h3), row_is h4, _, rfl, ?_⟩
    rw [r2, eqbs_self]
    refine iteF ?_
    refine ⟨_, rfl, tu, tov r, rfl, s4 _ _ h3, by omega, fun _ tt H5 s5 h5 => ?_, (fun z => by rw [r3] at z; cases z)⟩
    rw [r4] at h5
    have s35 := s3.trans (s4.trans s5)
    have hpr5 := s35 _ _ hpr
    have h15 := s35 _ _ (s2 _ _ h1')
    refine ⟨_, rfl, r, r, row_is h5, row_is hpr5, _, rfl, ?_⟩
    rw [eqbs_self]
    refine iteF ?_
    refine ⟨_, rfl, _, _, rfl, rfl, (by show (0 : Int) < 8; decide), rfl, _, rfl, ?_⟩
    by_cases c8 : V.int ((i : Int) % 8) = V.int 0
    · refine iteY c8 ?_
      refine ⟨_, rfl, _, rfl, _, _, rfl, rfl, ⟨by decide, by decide⟩, pr, _, r, rfl, hpr5, r5, r1, fun tb H6 b s6 lb bB hb => ?_⟩
      refine ⟨_, rfl, tb, b, rfl, hb, by omega, bB, _, rfl, iteF ?_⟩
      refine ⟨4, rfl, by decide, by decide, ?_⟩
      refine for_range (lo := 0) (n := 4) (fun i' σ H' => (∃ c8', σ = [some (.ref a), some (.int i), some (.int c), some (.int (c % 9)), some (.ref l), some (.ref pr), some (.ref tu), some (.ref tb), c8']) ∧ Same H6 H') ?_ ?_ ?_
      · exact ⟨⟨_, rfl⟩, fun _ _ e => e⟩
      · rintro i' σ H7 hi' ⟨⟨c8', rfl⟩, s7⟩
        refine ⟨_, rfl, _, rfl, _, rfl, _, tb, pr, b, r, rfl, s7 _ _ hb, s7 _ _ (s6 _ _ hpr5), by omega, by omega, bB, fun l8 H8 hl8 s8 h8 => ?_⟩
        refine ⟨(by show 1 ≤ sizeLine; decide), fun l9 h9 => ?_⟩
        refine ⟨l8, l9, (["row"] : List Str), (["row"] : List Str), rfl, rfl, h8.mono (same_new h9 _), ⟨[.str "row"], upd_same, .cons rfl .nil⟩, _, rfl, ?_⟩
        rw [eqbs_self]
        exact iteF ⟨⟨_, rfl⟩, s7.trans (s8.trans (same_new h9 _))⟩
      · rintro σ H7 ⟨⟨c8', rfl⟩, s7⟩
        exact ⟨⟨_, _, _, _, _, _, _, _, rfl⟩, s7 _ _ (s6 _ _ h15)⟩
    · exact iteN c8 ⟨⟨_, _, _, _, _, _, _, _, rfl⟩, h15⟩
  · rintro σ H1 ⟨⟨c1, c2, c3, c4, c5, c6, c7, c8, rfl⟩, h1⟩
    refine ⟨(by show 0 ≤ sizeLine; decide), fun t0 h0 => ⟨t0, [], rfl, upd_same, by decide, fun _ t1 H2 s2 h2 => ?_, fun z => absurd z (by decide)⟩⟩
    rw [turn_none] at h2
    refine ⟨(by show 0 ≤ sizeLine; decide), fun t2 h3 => ?_⟩
    refine ⟨[], [], row_is (same_new h3 _ _ _ h2), row_is upd_same, _, rfl, ?_⟩
    rw [eqbs_self]
    refine iteT ?_
    refine ⟨(by show 1 ≤ sizeLine; decide), fun t4 h4 => ⟨t4, [8], rfl, upd_same, by decide, fun _ t5 H5 s5 h5 => ?_, fun z => absurd z (by decide)⟩⟩
    rw [turn_eight] at h5
    refine ⟨(by show 8 ≤ sizeLine; decide), fun t6 h6 => ?_⟩
    refine ⟨[1, 1, 1, 1, 1, 1, 1, 1], [1, 1, 1, 1, 1, 1, 1, 1], row_is (same_new h6 _ _ _ h5), row_is upd_same, ?_⟩
    rw [eqbs_self]
    exact q _
end
end L2.K12

set_option maxHeartbeats 4000000
namespace L2.K12
open PySem
open L2.Pl L2.Ev
theorem all_mk {l : PySem.W.OpenLaw} {w : World} {K : PySem.W.Frag} {h : Heap} {mg : Str → Option Value} {fa f1 f2 f3 f4 f5 f6 f7 f8 f9 f10 f11 f12 : Addr} (X : K.In h) (G : h.Ns mainGlobals mg) (hfa : mg "law" = some (.ref fa))
    {od1 an1 od2 an2 od3 an3 od4 an4 od5 an5 od6 an6 od7 an7 od8 an8 od9 an9 od10 an10 od11 an11 od12 an12 : Option Addr} {sl1 sl2 sl3 sl4 sl5 sl6 sl7 sl8 sl9 sl10 sl11 sl12 : Array (Option Value)} {oc1 kV1 dc1 pm1 cd1 ct1 oc2 kV2 dc2 pm2 cd2 ct2 oc3 kV3 dc3 pm3 cd3 ct3 oc4 kV4 dc4 pm4 cd4 ct4 oc5 kV5 dc5 pm5 cd5 ct5 oc6 kV6 dc6 pm6 cd6 ct6 oc7 kV7 dc7 pm7 cd7 ct7 oc8 kV8 dc8 pm8 cd8 ct8 oc9 kV9 dc9 pm9 cd9 ct9 oc10 kV10 dc10 pm10 cd10 ct10 oc11 kV11 dc11 pm11 cd11 ct11 oc12 kV12 dc12 pm12 cd12 ct12 : Value}
    (a1 : PySem.W.nsIn K mainGlobals "refuse_bad_row" = some (some (.ref f1))) (l1 : K.lookup f1 = some ⟨oc1, od1, .func (PySem.W.fnOf "refuse_bad_row" "refuse_bad_row" (defArgs sRbr) (defBody sRbr) (defScope sRbr) .none kV1 dc1 pm1 an1 cd1 ct1), sl1⟩) (c1 : PySem.W.codeIn K cd1 "refuse_bad_row" = true) (k1 : PySem.W.keepIn K (.ref f1) = true)
    (a2 : PySem.W.nsIn K mainGlobals "count_from" = some (some (.ref f2))) (l2 : K.lookup f2 = some ⟨oc2, od2, .func (PySem.W.fnOf "count_from" "count_from" (defArgs sCf) (defBody sCf) (defScope sCf) .none kV2 dc2 pm2 an2 cd2 ct2), sl2⟩) (c2 : PySem.W.codeIn K cd2 "count_from" = true) (k2 : PySem.W.keepIn K (.ref f2) = true)
    (a3 : PySem.W.nsIn K mainGlobals "turned_over" = some (some (.ref f3))) (l3 : K.lookup f3 = some ⟨oc3, od3, .func (PySem.W.fnOf "turned_over" "turned_over" (defArgs sTo) (defBody sTo) (defScope sTo) .none kV3 dc3 pm3 an3 cd3 ct3), sl3⟩) (c3 : PySem.W.codeIn K cd3 "turned_over" = true) (k3 : PySem.W.keepIn K (.ref f3) = true)
    (a4 : PySem.W.nsIn K mainGlobals "turned" = some (some (.ref f4))) (l4 : K.lookup f4 = some ⟨oc4, od4, .func (PySem.W.fnOf "turned" "turned" (defArgs sTd) (defBody sTd) (defScope sTd) .none kV4 dc4 pm4 an4 cd4 ct4), sl4⟩) (c4 : PySem.W.codeIn K cd4 "turned" = true) (k4 : PySem.W.keepIn K (.ref f4) = true)
    (a5 : PySem.W.nsIn K mainGlobals "steps" = some (some (.ref f5))) (l5 : K.lookup f5 = some ⟨oc5, od5, .func (PySem.W.fnOf "steps" "steps" (defArgs sSt) (defBody sSt) (defScope sSt) .none kV5 dc5 pm5 an5 cd5 ct5), sl5⟩) (c5 : PySem.W.codeIn K cd5 "steps" = true) (k5 : PySem.W.keepIn K (.ref f5) = true)
    (a6 : PySem.W.nsIn K mainGlobals "_law_called" = some (some (.ref f6))) (l6 : K.lookup f6 = some ⟨oc6, od6, .func (PySem.W.fnOf "_law_called" "_law_called" (defArgs sCalled) (defBody sCalled) (defScope sCalled) .none kV6 dc6 pm6 an6 cd6 ct6), sl6⟩) (c6 : PySem.W.codeIn K cd6 "_law_called" = true) (k6 : PySem.W.keepIn K (.ref f6) = true)
    (a7 : PySem.W.nsIn K mainGlobals "_law_rows" = some (some (.ref f7))) (l7 : K.lookup f7 = some ⟨oc7, od7, .func (PySem.W.fnOf "_law_rows" "_law_rows" (defArgs sRws) (defBody sRws) (defScope sRws) .none kV7 dc7 pm7 an7 cd7 ct7), sl7⟩) (c7 : PySem.W.codeIn K cd7 "_law_rows" = true) (k7 : PySem.W.keepIn K (.ref f7) = true)
    (a8 : PySem.W.nsIn K mainGlobals "_law_due" = some (some (.ref f8))) (l8 : K.lookup f8 = some ⟨oc8, od8, .func (PySem.W.fnOf "_law_due" "_law_due" (defArgs sDue) (defBody sDue) (defScope sDue) .none kV8 dc8 pm8 an8 cd8 ct8), sl8⟩) (c8 : PySem.W.codeIn K cd8 "_law_due" = true) (k8 : PySem.W.keepIn K (.ref f8) = true)
    (a9 : PySem.W.nsIn K mainGlobals "_law_bad" = some (some (.ref f9))) (l9 : K.lookup f9 = some ⟨oc9, od9, .func (PySem.W.fnOf "_law_bad" "_law_bad" (defArgs sBad) (defBody sBad) (defScope sBad) .none kV9 dc9 pm9 an9 cd9 ct9), sl9⟩) (c9 : PySem.W.codeIn K cd9 "_law_bad" = true) (k9 : PySem.W.keepIn K (.ref f9) = true)
    (a10 : PySem.W.nsIn K mainGlobals "_law_is_row" = some (some (.ref f10))) (l10 : K.lookup f10 = some ⟨oc10, od10, .func (PySem.W.fnOf "_law_is_row" "_law_is_row" (defArgs sIsr) (defBody sIsr) (defScope sIsr) .none kV10 dc10 pm10 an10 cd10 ct10), sl10⟩) (c10 : PySem.W.codeIn K cd10 "_law_is_row" = true) (k10 : PySem.W.keepIn K (.ref f10) = true)
    (a11 : PySem.W.nsIn K mainGlobals "_law_flags" = some (some (.ref f11))) (l11 : K.lookup f11 = some ⟨oc11, od11, .func (PySem.W.fnOf "_law_flags" "_law_flags" (defArgs sFlg) (defBody sFlg) (defScope sFlg) .none kV11 dc11 pm11 an11 cd11 ct11), sl11⟩) (c11 : PySem.W.codeIn K cd11 "_law_flags" = true) (k11 : PySem.W.keepIn K (.ref f11) = true)
    (a12 : PySem.W.nsIn K mainGlobals "law" = some (some (.ref f12))) (l12 : K.lookup f12 = some ⟨oc12, od12, .func (PySem.W.fnOf "law" "law" (defArgs sLaw) (defBody sLaw) (defScope sLaw) .none kV12 dc12 pm12 an12 cd12 ct12), sl12⟩) (c12 : PySem.W.codeIn K cd12 "law" = true) (k12 : PySem.W.keepIn K (.ref f12) = true)
    {tk1 : Tok} (g1 : PySem.W.nsIn K mainGlobals "MOST_TOGETHER" = some (some (.int 8 tk1)))
    {d0 d1 d2 d3 d4 d5 d6 d7 d8 d9 d10 d11 d12 d13 : Addr}
    (y0 : PySem.W.nsIn K mainGlobals "BadCount" = some (some (.ref d0)))
    (y1 : PySem.W.nsIn K mainGlobals "BadPowers" = some (some (.ref d1)))
    (y2 : PySem.W.nsIn K mainGlobals "TooGreat" = some (some (.ref d2)))
    (y3 : PySem.W.nsIn K mainGlobals "BadRow" = some (some (.ref d3)))
    (y4 : PySem.W.nsIn K mainGlobals "UnlikeWeights" = some (some (.ref d4)))
    (y5 : PySem.W.nsIn K mainGlobals "TooLong" = some (some (.ref d5)))
    (y6 : PySem.W.nsIn K mainGlobals "Uneven" = some (some (.ref d6)))
    (y7 : PySem.W.nsIn K mainGlobals "NoKind" = some (some (.ref d7)))
    (y8 : PySem.W.nsIn K mainGlobals "NotBy" = some (some (.ref d8)))
    (y9 : PySem.W.nsIn K mainGlobals "NoText" = some (some (.ref d9)))
    (y10 : PySem.W.nsIn K mainGlobals "NoLine" = some (some (.ref d10)))
    (y11 : PySem.W.nsIn K mainGlobals "BadName" = some (some (.ref d11)))
    (y12 : PySem.W.nsIn K mainGlobals "NoName" = some (some (.ref d12)))
    (y13 : PySem.W.nsIn K mainGlobals "EvenError" = some (some (.ref d13)))
    (x3 : PySem.W.excIn K d3 bmV "ValueError.__new__" = true)
    (e3a : PySem.W.mroIn K d3 (.type "object") = some true)
    (e3b : PySem.W.mroIn K d3 (.type "BaseException") = some true)
    (e3c : PySem.W.findIn K (.ref d3) "__class__" = some (some (.builtin "object.__class__")))
    (e3d : PySem.W.findIn K (.ref d3) "__getattribute__" = some (some (.builtin "BaseException.__getattribute__")))
    (e3e : PySem.W.findIn K (.ref d3) "__getattr__" = some none)
    (v3 : PySem.W.kitOne K (.ref d3) (.type "ValueError") = some true)
    (w3 : PySem.W.kitOne K (.ref d3) (.ref d13) = some true)
    (n3 : d3 ≠ d13)
    (u3_0 : PySem.W.kitOne K (.ref d3) (.ref d0) = some false)
    (u3_1 : PySem.W.kitOne K (.ref d3) (.ref d1) = some false)
    (u3_2 : PySem.W.kitOne K (.ref d3) (.ref d2) = some false)
    (u3_3 : PySem.W.kitOne K (.ref d3) (.ref d3) = some true)
    (u3_4 : PySem.W.kitOne K (.ref d3) (.ref d4) = some false)
    (u3_5 : PySem.W.kitOne K (.ref d3) (.ref d5) = some false)
    (u3_6 : PySem.W.kitOne K (.ref d3) (.ref d6) = some false)
    (u3_7 : PySem.W.kitOne K (.ref d3) (.ref d7) = some false)
    (u3_8 : PySem.W.kitOne K (.ref d3) (.ref d8) = some false)
    (u3_9 : PySem.W.kitOne K (.ref d3) (.ref d9) = some false)
    (u3_10 : PySem.W.kitOne K (.ref d3) (.ref d10) = some false)
    (u3_11 : PySem.W.kitOne K (.ref d3) (.ref d11) = some false)
    (u3_12 : PySem.W.kitOne K (.ref d3) (.ref d12) = some false)
    (wE : PySem.W.kitOne K (.ref d13) (.type "BaseException") = some true)
    (z1 : PySem.W.nsIn K mainGlobals "any" = some none)
    (z2 : PySem.W.nsIn K mainGlobals "zip" = some none)
    (z3 : PySem.W.nsIn K mainGlobals "sum" = some none)
    (z4 : PySem.W.nsIn K mainGlobals "len" = some none)
    (z5 : PySem.W.nsIn K mainGlobals "max" = some none)
    (z6 : PySem.W.nsIn K mainGlobals "range" = some none)
    (z7 : PySem.W.nsIn K mainGlobals "tuple" = some none)
    (z8 : PySem.W.nsIn K mainGlobals "isinstance" = some none)
    (z9 : PySem.W.nsIn K mainGlobals "ValueError" = some none)
    (z10 : PySem.W.nsIn K mainGlobals "min" = some none)
    (z11 : PySem.W.nsIn K mainGlobals "list" = some none)
    (z12 : PySem.W.nsIn K mainGlobals "enumerate" = some none)
    : ∃ fd : FuncData, (∀ (s : Shared) (v : Value), BindsTo s fd ⟨[v], []⟩ [("_law_script", v)]) ∧ ∀ base : Heap, K.In base → base.Ns mainGlobals mg → FnOk l.prog w K mg base CX0 10 fa fd ["_law_script"] (spLaw K) := by
  have e := hfa.symm.trans (PySem.W.mg_of X G a12)
  cases e
  have F1 := fun_mk (st := sRbr) l1 c1 k1
  have b1 := F1.binds (ps := nRb) fun _ _ _ _ _ _ us hl => match us, hl with | [_], _ => rfl
  have A1 := PySem.W.mg_of X G a1
  have F2 := fun_mk (st := sCf) l2 c2 k2
  have b2 := F2.binds (ps := nCf) fun _ _ _ _ _ _ us hl => match us, hl with | [_, _], _ => rfl
  have A2 := PySem.W.mg_of X G a2
  have F3 := fun_mk (st := sTo) l3 c3 k3
  have b3 := F3.binds (ps := nTo) fun _ _ _ _ _ _ us hl => match us, hl with | [_], _ => rfl
  have A3 := PySem.W.mg_of X G a3
  have F4 := fun_mk (st := sTd) l4 c4 k4
  have b4 := F4.binds (ps := nTo) fun _ _ _ _ _ _ us hl => match us, hl with | [_], _ => rfl
  have A4 := PySem.W.mg_of X G a4
  have F5 := fun_mk (st := sSt) l5 c5 k5
  have b5 := F5.binds (ps := ["one", "other"]) fun _ _ _ _ _ _ us hl => match us, hl with | [_, _], _ => rfl
  have A5 := PySem.W.mg_of X G a5
  have F6 := fun_mk (st := sCalled) l6 c6 k6
  have b6 := F6.binds (ps := ["_law_caught"]) fun _ _ _ _ _ _ us hl => match us, hl with | [_], _ => rfl
  have A6 := PySem.W.mg_of X G a6
  have F7 := fun_mk (st := sRws) l7 c7 k7
  have b7 := F7.binds (ps := pU) fun _ _ _ _ _ _ us hl => match us, hl with | [_, _, _], _ => rfl
  have A7 := PySem.W.mg_of X G a7
  have F8 := fun_mk (st := sDue) l8 c8 k8
  have b8 := F8.binds (ps := ["_law_row"]) fun _ _ _ _ _ _ us hl => match us, hl with | [_], _ => rfl
  have A8 := PySem.W.mg_of X G a8
  have F9 := fun_mk (st := sBad) l9 c9 k9
  have b9 := F9.binds (ps := ["_law_row", "_law_cell_here"]) fun _ _ _ _ _ _ us hl => match us, hl with | [_, _], _ => rfl
  have A9 := PySem.W.mg_of X G a9
  have F10 := fun_mk (st := sIsr) l10 c10 k10
  have b10 := F10.binds (ps := ["_law_numbers"]) fun _ _ _ _ _ _ us hl => match us, hl with | [_], _ => rfl
  have A10 := PySem.W.mg_of X G a10
  have F11 := fun_mk (st := sFlg) l11 c11 k11
  have b11 := F11.binds (ps := pFl) fun _ _ _ _ _ _ us hl => match us, hl with | [_, _, _], _ => rfl
  have A11 := PySem.W.mg_of X G a11
  have F12 := fun_mk (st := sLaw) l12 c12 k12
  have c_MOST_TOGETHER := PySem.W.mg_of X G g1
  have m_any := PySem.W.mg_none_of X G z1
  have m_zip := PySem.W.mg_none_of X G z2
  have m_sum := PySem.W.mg_none_of X G z3
  have m_len := PySem.W.mg_none_of X G z4
  have m_max := PySem.W.mg_none_of X G z5
  have m_range := PySem.W.mg_none_of X G z6
  have m_tuple := PySem.W.mg_none_of X G z7
  have m_isinstance := PySem.W.mg_none_of X G z8
  have m_ValueError := PySem.W.mg_none_of X G z9
  have m_min := PySem.W.mg_none_of X G z10
  have m_list := PySem.W.mg_none_of X G z11
  have m_enumerate := PySem.W.mg_none_of X G z12
  refine ⟨PySem.W.fnOf "law" "law" (defArgs sLaw) (defBody sLaw) (defScope sLaw) .none kV12 dc12 pm12 an12 cd12 ct12, fun s v => .of_eq rfl, fun base _ _ => ?_⟩

  have ek : ExcK K d3 := ⟨e3a, e3b, e3c, e3d, e3e, cls_of_exc x3⟩
  have sy : Says K d3 [d0, d1, d2, d3, d4, d5, d6, d7, d8, d9, d10, d11, d12] flagsRow := by
    refine ⟨rfl, fun i d b h1 h2 => ?_⟩
    match i, h1, h2 with
    | 0, h1, h2 => cases h1; cases h2; exact u3_0
    | 1, h1, h2 => cases h1; cases h2; exact u3_1
    | 2, h1, h2 => cases h1; cases h2; exact u3_2
    | 3, h1, h2 => cases h1; cases h2; exact u3_3
    | 4, h1, h2 => cases h1; cases h2; exact u3_4
    | 5, h1, h2 => cases h1; cases h2; exact u3_5
    | 6, h1, h2 => cases h1; cases h2; exact u3_6
    | 7, h1, h2 => cases h1; cases h2; exact u3_7
    | 8, h1, h2 => cases h1; cases h2; exact u3_8
    | 9, h1, h2 => cases h1; cases h2; exact u3_9
    | 10, h1, h2 => cases h1; cases h2; exact u3_10
    | 11, h1, h2 => cases h1; cases h2; exact u3_11
    | 12, h1, h2 => cases h1; cases h2; exact u3_12
    | i + 13, h1, h2 => simp at h1
  have M0 := PySem.W.mg_of X G y0
  have M1 := PySem.W.mg_of X G y1
  have M2 := PySem.W.mg_of X G y2
  have M3 := PySem.W.mg_of X G y3
  have M4 := PySem.W.mg_of X G y4
  have M5 := PySem.W.mg_of X G y5
  have M6 := PySem.W.mg_of X G y6
  have M7 := PySem.W.mg_of X G y7
  have M8 := PySem.W.mg_of X G y8
  have M9 := PySem.W.mg_of X G y9
  have M10 := PySem.W.mg_of X G y10
  have M11 := PySem.W.mg_of X G y11
  have M12 := PySem.W.mg_of X G y12
  have M13 := PySem.W.mg_of X G y13
  have O1 := ok_rbr (P := l.prog) (w := w) (base := base) F1 c_MOST_TOGETHER ⟨M3, x3⟩ m_any m_zip m_sum
  have O2 := ok_cf (P := l.prog) (w := w) (base := base) F2 m_len
  have O3 := ok_to F3 ⟨_, _, O2, b2, k2, A2⟩ m_max m_range m_tuple
  have O4 := ok_td F4 ⟨_, _, O1.mono (by decide), b1, k1, A1⟩ ⟨_, _, O3, b3, k3, A3⟩
  have O5 := ok_stb F5 ⟨_, _, O1.mono (by decide), b1, k1, A1⟩
  have O6 := ok_called (P := l.prog) (w := w) (base := base) F6 m_isinstance m_zip m_ValueError M0 M1 M2 M3 M4 M5 M6 M7 M8 M9 M10 M11 M12
  have O7 := all_up (P := l.prog) (w := w) (base := base) F7 b7 A7 m_range m_min 9
  have O8 := ok_due (P := l.prog) (w := w) (base := base) F8 m_range m_len m_tuple
  have O9 := ok_bad (P := l.prog) (w := w) (base := base) F9 m_list m_len m_range m_sum m_tuple
  have O10 := ok_isr (P := l.prog) (w := w) (base := base) F10 m_range m_len m_sum
  have O11 := ok_flg F11 ⟨_, _, O4, b4, k4, A4⟩ ⟨_, _, O5, b5, k5, A5⟩ ⟨_, _, O6.mono (by decide), b6, k6, A6⟩ M13 wE w3 n3 ek v3 sy
  exact ok_law F12 ⟨_, _, O7, b7, k7, A7⟩ ⟨_, _, O4.mono (by decide), b4, k4, A4⟩ ⟨_, _, O8.mono (by decide), b8, k8, A8⟩ ⟨_, _, O9.mono (by decide), b9, k9, A9⟩ ⟨_, _, O10.mono (by decide), b10, k10, A10⟩ ⟨_, _, O11.mono (by decide), b11, k11, A11⟩ m_enumerate m_len m_isinstance m_tuple m_range
theorem walk {l : PySem.W.OpenLaw} {q : Program} {loose : List Str} {XP : (Str → Option Value) → Heap → Prop} {YP : World → Heap → Prop} {d : DefRec} {K : Params → PySem.W.Frag} (hn : l.most = some 63) (hdf : d.params.defaults = [])
    (hY : ∀ (w : World) (h : Heap), YP w h → (K w.params).In h)
    (F : ∀ (w : World) (mg : Str → Option Value) (fa : Addr) (h : Heap), (K w.params).In h → h.Ns mainGlobals mg → mg d.name = some (.ref fa) →
      ∃ fd : FuncData, (∀ (s : Shared) (u : Value), BindsTo s fd ⟨[u], []⟩ [("_law_script", u)]) ∧ ∀ base : Heap, (K w.params).In base → base.Ns mainGlobals mg → FnOk l.prog w (K w.params) mg base CX0 10 fa fd ["_law_script"] (spLaw (K w.params))) :
    PySem.W.WalkO q loose XP YP l.row.toRowW d [] (fun f vs => PySem.call f vs) :=
  L2.walk_of (n := 63) (k := 10) (x := "_law_script") (CX := fun _ => CX0) (sp := fun w => spLaw (K w.params)) hn (by decide) hdf ⟨rfl, by decide, by decide⟩ hY F (fun _ _ a ns hl _ hS => ⟨a, ns, rfl, hS, hl, fun _ => rfl⟩) fun _ _ _ _ _ z => z
end L2.K12
open PySem PySem.W PyProof.Rows
set_option maxRecDepth 100000 in
set_option maxHeartbeats 0 in
theorem PySem.Challenge.cw_evenform_k12_rows_turned_holds : PySem.Challenge.rw_evenform_k12_rows_turned.Holds := by
  w_on; o_law; k_head; (case hw => w_witness2)
  k_fill
  refine L2.K12.walk (l := PySem.Challenge.rw_evenform_k12_rows_turned) rfl rfl (fun w h Y => PySem.W.kIn_of Y) ?F
  case F =>
    intro w mg fa h KX G hmg
    refine' L2.K12.all_mk KX G hmg ?a1 ?l1 ?c1 ?k1 ?a2 ?l2 ?c2 ?k2 ?a3 ?l3 ?c3 ?k3 ?a4 ?l4 ?c4 ?k4 ?a5 ?l5 ?c5 ?k5 ?a6 ?l6 ?c6 ?k6 ?a7 ?l7 ?c7 ?k7 ?a8 ?l8 ?c8 ?k8 ?a9 ?l9 ?c9 ?k9 ?a10 ?l10 ?c10 ?k10 ?a11 ?l11 ?c11 ?k11 ?a12 ?l12 ?c12 ?k12 ?g1 ?y0 ?y1 ?y2 ?y3 ?y4 ?y5 ?y6 ?y7 ?y8 ?y9 ?y10 ?y11 ?y12 ?y13 ?x3 ?e3a ?e3b ?e3c ?e3d ?e3e ?v3 ?w3 ?n3 ?u3_0 ?u3_1 ?u3_2 ?u3_3 ?u3_4 ?u3_5 ?u3_6 ?u3_7 ?u3_8 ?u3_9 ?u3_10 ?u3_11 ?u3_12 ?wE ?z1 ?z2 ?z3 ?z4 ?z5 ?z6 ?z7 ?z8 ?z9 ?z10 ?z11 ?z12
    (case a1 => k_is); (case l1 => k_is); (case c1 => k_is); (case k1 => k_is)
    (case a2 => k_is); (case l2 => k_is); (case c2 => k_is); (case k2 => k_is)
    (case a3 => k_is); (case l3 => k_is); (case c3 => k_is); (case k3 => k_is)
    (case a4 => k_is); (case l4 => k_is); (case c4 => k_is); (case k4 => k_is)
    (case a5 => k_is); (case l5 => k_is); (case c5 => k_is); (case k5 => k_is)
    (case a6 => k_is); (case l6 => k_is); (case c6 => k_is); (case k6 => k_is)
    (case a7 => k_is); (case l7 => k_is); (case c7 => k_is); (case k7 => k_is)
    (case a8 => k_is); (case l8 => k_is); (case c8 => k_is); (case k8 => k_is)
    (case a9 => k_is); (case l9 => k_is); (case c9 => k_is); (case k9 => k_is)
    (case a10 => k_is); (case l10 => k_is); (case c10 => k_is); (case k10 => k_is)
    (case a11 => k_is); (case l11 => k_is); (case c11 => k_is); (case k11 => k_is)
    (case a12 => k_is); (case l12 => k_is); (case c12 => k_is); (case k12 => k_is)
    (case g1 => k_is)
    (case y0 => k_is)
    (case y1 => k_is)
    (case y2 => k_is)
    (case y3 => k_is)
    (case y4 => k_is)
    (case y5 => k_is)
    (case y6 => k_is)
    (case y7 => k_is)
    (case y8 => k_is)
    (case y9 => k_is)
    (case y10 => k_is)
    (case y11 => k_is)
    (case y12 => k_is)
    (case y13 => k_is)
    (case x3 => k_exc)
    (case e3a => k_is)
    (case e3b => k_is)
    (case e3c => k_is)
    (case e3d => k_is)
    (case e3e => k_is)
    (case v3 => kit_is)
    (case w3 => kit_is)
    (case n3 => decide)
    (case u3_0 => kit_is)
    (case u3_1 => kit_is)
    (case u3_2 => kit_is)
    (case u3_3 => kit_is)
    (case u3_4 => kit_is)
    (case u3_5 => kit_is)
    (case u3_6 => kit_is)
    (case u3_7 => kit_is)
    (case u3_8 => kit_is)
    (case u3_9 => kit_is)
    (case u3_10 => kit_is)
    (case u3_11 => kit_is)
    (case u3_12 => kit_is)
    (case wE => kit_is)
    (case z1 => k_is); (case z2 => k_is); (case z3 => k_is); (case z4 => k_is); (case z5 => k_is); (case z6 => k_is); (case z7 => k_is); (case z8 => k_is); (case z9 => k_is); (case z10 => k_is); (case z11 => k_is); (case z12 => k_is)
