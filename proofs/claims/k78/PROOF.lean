import PyProof.Rows.All
import Wide.All
import OpenK.AllK
import Wide.FinOn
import Lean
import PyProof.EqAt
import PyProof.EqKinds
import PyProof.TupleCall
import PyProof.ExcArgsOwn
import KE.KIntText
import PyProof.StrLawsRepr
import PyProof.StrLawsOcc
import PyProof.SliceStr2
import PyProof.FString
import PyProof.StrOps2
import PyProof.AutoIntG2
import PyProof.ConsumeWalk
import PyProof.MinMaxWalk
import PyProof.WalkInts
import PyProof.ZipIter
import PyProof.SumWalk
import PyProof.SeqI3
import PyProof.CompUse
import PyProof.Rows.SortWalk
import KE.KSortTup
import KE.KRevIter
import PyProof.ListRange
import PyProof.Rows.SetFrom
import PyProof.TupleKey
import PyProof.SetRoads
import PySem.SetTable
import PyProof.MaxThree
import PyProof.P3In
import PyProof.WalksEnum
import PyProof.EnumMake
import PySem.Challenge.RW_primetree_k78_slides_too_far
set_option Elab.async false
set_option linter.all false
set_option maxRecDepth 100000
/-! THE HAND LAYER, for ints, bools, texts, own classes, LISTS and tuples (index, slices, in, append, pop ..), calls, loops. Paste it whole ahead of your own text; what your proof does not reach may be deleted. -/
namespace L2
open PySem PySem.Spec PyProof.Rows

/-- a key: an int or a str -/
abbrev Key := Sum Int Str
def keyIs : Key → Value → Bool
  | .inl k, v => Value.isInt k v
  | .inr x, v => Value.isStrOf x v
def keyH (w : World) : Key → Int
  | .inl k => hashInt k
  | .inr x => hashStr w x
theorem keyIs_shape : ∀ {k : Key} {v : Value}, keyIs k v = true → (∃ i t, k = Sum.inl i ∧ v = Value.int i t) ∨ (∃ x t, k = Sum.inr x ∧ v = Value.str x t)
  | .inl i, v, h => by
    obtain ⟨t, e⟩ := Value.isInt_shape (k := i) (v := v) h
    exact .inl ⟨i, t, rfl, e⟩
  | .inr x, v, h => by
    obtain ⟨t, e⟩ := Value.isStrOf_shape (x := x) (v := v) h
    exact .inr ⟨x, t, rfl, e⟩
theorem key_ll (a b : Int) : decide ((Sum.inl a : Key) = Sum.inl b) = (a == b) := by
  by_cases e : a = b
  · subst e; simp
  · have h : ¬ (Sum.inl a : Key) = Sum.inl b := fun q => e (Sum.inl.inj q)
    rw [decide_eq_false h]
    exact (beq_eq_false_iff_ne.mpr e).symm
theorem key_rr (a b : Str) : decide ((Sum.inr a : Key) = Sum.inr b) = decide (a = b) := by
  by_cases e : a = b
  · subst e; simp
  · have h : ¬ (Sum.inr a : Key) = Sum.inr b := fun q => e (Sum.inr.inj q)
    rw [decide_eq_false h, decide_eq_false e]
theorem key_lr (a : Int) (b : Str) : decide ((Sum.inl a : Key) = Sum.inr b) = false := decide_eq_false (fun q => nomatch q)
theorem key_rl (a : Str) (b : Int) : decide ((Sum.inr a : Key) = Sum.inl b) = false := decide_eq_false (fun q => nomatch q)

def mixKind (prog : Program) (w : World) : PySem.KeyKind prog w Key where
  is := keyIs
  hash := keyH w
  inj := fun v a b ha hb => by
    rcases keyIs_shape ha with ⟨i, t, rfl, rfl⟩ | ⟨x, t, rfl, rfl⟩
    · rcases keyIs_shape hb with ⟨j, u, rfl, e⟩ | ⟨y, u, rfl, e⟩
      · injection e with e1 _; rw [e1]
      · exact nomatch e
    · rcases keyIs_shape hb with ⟨j, u, rfl, e⟩ | ⟨y, u, rfl, e⟩
      · exact nomatch e
      · injection e with e1 _; rw [e1]
  byValue := fun k v h => by
    rcases keyIs_shape h with ⟨i, t, rfl, rfl⟩ | ⟨x, t, rfl, rfl⟩ <;> rfl
  pyHash := fun hv h => by
    rcases keyIs_shape hv with ⟨i, t, rfl, rfl⟩ | ⟨x, t, rfl, rfl⟩
    · exact wpAny_pyHash_int h
    · exact wpAny_pyHash_str h
  eqBool := fun hu hv h => by
    rcases keyIs_shape hu with ⟨i, t, rfl, rfl⟩ | ⟨x, t, rfl, rfl⟩
    · rcases keyIs_shape hv with ⟨j, u, rfl, rfl⟩ | ⟨y, u, rfl, rfl⟩
      · rw [key_ll] at h; exact wpAny_eqBool_int h
      · rw [key_lr] at h; exact SeqAt.EqAt.int_str i t y u _ _ _ _ h
    · rcases keyIs_shape hv with ⟨j, u, rfl, rfl⟩ | ⟨y, u, rfl, rfl⟩
      · rw [key_rl] at h; exact SeqAt.EqAt.str_int x t j u _ _ _ _ h
      · rw [key_rr] at h; exact wpAny_eqBool_str h
  «strs» := fun k x t v h => by
    rcases keyIs_shape h with ⟨i, u, rfl, e⟩ | ⟨y, u, rfl, e⟩
    · exact nomatch e
    · injection e with e1 _
      subst e1
      cases v <;> rfl

end L2

namespace L2
open PySem PySem.Spec PyProof.Rows

/-- a value, without the heap -/
inductive V where
  | non | bl (b : Bool) | int (i : Int) | str (x : Str) | byt (b : Array UInt8) | flt (b : UInt64) | ref (a : Addr) | ty (n : String)
  deriving DecidableEq

def RelV : V → Value → Prop
  | .non, u => u = Value.none
  | .bl b, u => u = Value.bool b
  | .int i, u => ∃ t, u = Value.int i t
  | .str x, u => ∃ t, u = Value.str x t
  | .byt b, u => ∃ t, u = Value.bytes b t
  | .flt b, u => ∃ t, u = Value.float b t
  | .ref a, u => u = Value.ref a
  | .ty n, u => u = Value.type n

abbrev Vals : List V → List Value → Prop := Paired RelV
theorem Vals.length {xs : List V} {us : List Value} (r : Vals xs us) : xs.length = us.length := Paired.length r
theorem Vals.get : ∀ {xs : List V} {us : List Value} {i : Nat} {x : V}, Vals xs us → xs[i]? = some x → ∃ u, us[i]? = some u ∧ RelV x u
  | _, _, _, _, .nil, e => by simp at e
  | _, _, 0, _, .cons r _, e => by simp at e; subst e; exact ⟨_, rfl, r⟩
  | _, _, i + 1, x, .cons _ t, e => by
    obtain ⟨u, h1, h2⟩ := Vals.get (i := i) (x := x) t (by simpa using e)
    exact ⟨u, by simpa using h1, h2⟩
theorem Vals.set {x : V} {u : Value} (r : RelV x u) : ∀ {xs : List V} {us : List Value} (i : Nat), Vals xs us → Vals (xs.set i x) (us.set i u)
  | _, _, _, .nil => .nil
  | _, _, 0, .cons _ t => .cons r t
  | _, _, i + 1, .cons q t => .cons q (Vals.set r i t)
theorem Vals.append : ∀ {xs ys : List V} {us ws : List Value}, Vals xs us → Vals ys ws → Vals (xs ++ ys) (us ++ ws)
  | _, _, _, _, .nil, s => s
  | _, _, _, _, .cons r t, s => .cons r (Vals.append t s)
theorem Vals.take : ∀ {xs : List V} {us : List Value} (n : Nat), Vals xs us → Vals (xs.take n) (us.take n)
  | _, _, 0, _ => .nil
  | _, _, _ + 1, .nil => .nil
  | _, _, n + 1, .cons r t => .cons r (Vals.take n t)
theorem Vals.drop : ∀ {xs : List V} {us : List Value} (n : Nat), Vals xs us → Vals (xs.drop n) (us.drop n)
  | _, _, 0, r => r
  | _, _, _ + 1, .nil => .nil
  | _, _, n + 1, .cons _ t => Vals.drop n t
theorem Vals.none_of : ∀ {xs : List V} {us : List Value} {i : Nat}, Vals xs us → xs[i]? = none → us[i]? = none := fun {xs us i} r e => by
  have h1 := r.length
  have h2 : xs.length ≤ i := List.getElem?_eq_none_iff.mp e
  exact List.getElem?_eq_none_iff.mpr (by omega)

def RelO : Option V → Option Value → Prop
  | some v, some u => RelV v u
  | none, none => True
  | _, _ => False
def KV {κ : Type} : List (κ × V) → List (κ × Value) → Prop := Paired fun (p : κ × V) (q : κ × Value) => p.1 = q.1 ∧ RelV p.2 q.2

/-- a key of a dict (00_mix): an int or a text -/
def kV : Key → V
  | .inl i => .int i
  | .inr x => .str x

/-- what stands at a tracked address -/
inductive HO where
  /-- a list -/
  | lst (xs : List V)
  /-- a tuple (never changes) -/
  | tup (xs : List V)
  /-- a dict whose keys are ints and texts; one whose keys are tuples of ints and texts (the empty one is both) -/
  | dK (kvs : List (Key × V)) | dT (kvs : List (List Key × V))
  /-- a set of ints: its members, its size -/
  | set (S : Int → Bool) (n : Nat)
  /-- an instance of the class at C, its dict at dx, its attributes -/
  | ins (C dx : Addr) (fs : List (Str × V))
  /-- the dict of the instance at x -/
  | own (x : Addr)
  /-- the dict of an exception -/
  | xd (fs : List (Str × V))
  /-- a bound method, f of x -/
  | met (f x : Addr)
  /-- a range object lo, lo + 1, .. below hi -/
  | rng (lo hi : Int)
  /-- a thing that is known to the object (the script; a dict while a loop walks it): read, never written while it is so -/
  | frz (o : Obj) (u : HO)
  /-- a code object's table -/
  | tbl (ps : Array Value)
  /-- any other thing, by what is true of its one object (a def of one's own: SetO a S n := HO.ext fun h => ..) -/
  | ext (φ : Heap → Prop)

abbrev Hp := Addr → Option HO
def upd (H : Hp) (a : Addr) (o : HO) : Hp := fun b => if b = a then some o else H b
theorem upd_same {H : Hp} {a : Addr} {o : HO} : upd H a o a = some o := by unfold upd; rw [if_pos rfl]
theorem upd_ne {H : Hp} {a b : Addr} {o : HO} (h : b ≠ a) : upd H a o b = H b := by unfold upd; rw [if_neg h]
theorem ne_of_none {H : Hp} {a b : Addr} {o : HO} (h : H a = some o) (h' : H b = none) : a ≠ b := by
  intro e; subst e; rw [h] at h'; cases h'

section
variable (P : Program) (w : World)
def ObjOk (H : Hp) (h : Heap) (a : Addr) : HO → Prop
  | .lst xs => xs.length ≤ sizeLine ∧ ∃ (its : List Value) (n : Nat), Vals xs its ∧ h.get? a = some { cls := .type "list", data := .seq its.toArray n }
  | .tup xs => xs.length ≤ sizeLine ∧ ∃ its : List Value, Vals xs its ∧ IsTup h a its.toArray
  | .dK kvs => kvs.length ≤ sizeLine ∧ (a == sysModules) = false ∧ ∃ vs, KV kvs vs ∧ h.DictOf (mixKind P w) a vs
  | .dT kvs => kvs.length ≤ sizeLine ∧ (a == sysModules) = false ∧ ∃ xs : List (List Key × Addr × Value),
      Paired (fun (p : List Key × V) (q : List Key × Addr × Value) => p.1 = q.1 ∧ H q.2.1 = some (.tup (p.1.map kV)) ∧ RelV p.2 q.2.2) kvs xs ∧
      ∃ o es ep, h.get? a = some o ∧ o.ExactDict ∧ o.data = .dict es ep ∧ es.toList = xs.map (entryOfKey (tupleKind (mixKind P w))) ∧ (xs.map (·.1)).Nodup
  | .set S n => h.SetOf (intKind P w) a S n
  | .ins C dx fs => H dx = some (.own a) ∧ fs.length ≤ 1000 ∧ dx ≠ a ∧ h.get? a = some (PySem.W.instObj C dx) ∧
      ∃ mA, h.Ns1 dx mA ∧ (∀ f, RelO (fs.lookup f) (mA f)) ∧ PySem.Within mA (fs.map (·.1))
  | .own _ => ∃ o, h.get? a = some o
  | .xd fs => ∃ mA, h.Ns1 a mA ∧ ∀ f, RelO (fs.lookup f) (mA f)
  | .rng lo hi => ∃ t u v, h.get? a = some { cls := .type "range", data := .fields #[.int lo t, .int hi u, .int 1 v] }
  | .frz o u => h.get? a = some o ∧ ObjOk H h a u
  | .tbl ps => h.get? a = some { cls := .none, data := .fields ps }
  | .met f x => h.get? a = some (PySem.W.methodObj (.ref f) (.ref x))
  | .ext φ => φ h ∧ (∃ o, h.get? a = some o) ∧ ∀ h1 h2 : Heap, φ h1 → (∀ o, h1.get? a = some o → h2.get? a = some o) → φ h2
/-- the abstract heap is held -/
def HOk (H : Hp) (h : Heap) : Prop := ∀ a o, H a = some o → ObjOk P w H h a o
end

section
variable {P : Program} {w : World} {H H' : Hp} {h h' : Heap} {a : Addr} {o : HO}
theorem ObjOk.lt (x : ObjOk P w H h a o) : a < h.objs.size := by
  cases o with
  | lst xs => obtain ⟨_, _, _, _, e⟩ := x; exact Heap.lt_size e
  | tup xs => obtain ⟨_, _, _, p⟩ := x; exact p.lt
  | dK kvs => obtain ⟨_, _, _, _, o, _, _, e, _⟩ := x; exact Heap.lt_size e
  | dT kvs => obtain ⟨_, _, _, _, o, _, _, e, _⟩ := x; exact Heap.lt_size e
  | set S n => obtain ⟨o, _, _, _, e, _⟩ := x; exact Heap.lt_size e
  | ins C dx fs => obtain ⟨_, _, _, e, _⟩ := x; exact Heap.lt_size e
  | own y => obtain ⟨_, e⟩ := x; exact Heap.lt_size e
  | xd fs => obtain ⟨_, ⟨_, _, _, e, _⟩, _⟩ := x; exact Heap.lt_size e
  | rng lo hi => obtain ⟨_, _, _, e⟩ := x; exact Heap.lt_size e
  | frz ob u => obtain ⟨e, _⟩ := x; exact Heap.lt_size e
  | tbl ps => exact Heap.lt_size (show h.get? a = some _ from x)
  | met f y => exact Heap.lt_size (show h.get? a = some _ from x)
  | ext φ => obtain ⟨_, ⟨_, e⟩, _⟩ := x; exact Heap.lt_size e
theorem Paired.mapP {α β : Type} {F G : α → β → Prop} : ∀ {l₁ : List α} {l₂ : List β}, Paired F l₁ l₂ → (∀ a b, F a b → G a b) → Paired G l₁ l₂
  | _, _, .nil, _ => .nil
  | _, _, .cons r t, f => .cons (f _ _ r) (Paired.mapP t f)
/-- what an object's description leans on: its own object, its own dict, the tuples -/
theorem ObjOk.stay (x : ObjOk P w H h a o) (k : ∀ b u, (b = a ∨ H b = some (.own a)) → h.get? b = some u → h'.get? b = some u)
    (ho : ∀ b, H b = some (.own a) → H' b = some (.own a)) (ht : ∀ b xs, H b = some (.tup xs) → H' b = some (.tup xs)) : ObjOk P w H' h' a o := by
  induction o with
  | lst xs => obtain ⟨z, its, n, r, e⟩ := x; exact ⟨z, its, n, r, k _ _ (.inl rfl) e⟩
  | tup xs => obtain ⟨z, its, r, ob, e, c⟩ := x; exact ⟨z, its, r, ob, k _ _ (.inl rfl) e, c⟩
  | dK kvs => obtain ⟨z, y, vs, r, ob, es, ep, e, c⟩ := x; exact ⟨z, y, vs, r, ob, es, ep, k _ _ (.inl rfl) e, c⟩
  | dT kvs =>
    obtain ⟨z, y, xs, r, ob, es, ep, e, c⟩ := x
    exact ⟨z, y, xs, Paired.mapP r fun p q z => ⟨z.1, ht _ _ z.2.1, z.2.2⟩, ob, es, ep, k _ _ (.inl rfl) e, c⟩
  | set S n => obtain ⟨ob, es, ep, t, e, c⟩ := x; exact ⟨ob, es, ep, t, k _ _ (.inl rfl) e, c⟩
  | ins C dx fs =>
    obtain ⟨d, z, ne, e, mA, ⟨od, es, ep, e2, c⟩, r⟩ := x
    exact ⟨ho _ d, z, ne, k _ _ (.inl rfl) e, mA, ⟨od, es, ep, k _ _ (.inr d) e2, c⟩, r⟩
  | own y => obtain ⟨ob, e⟩ := x; exact ⟨ob, k _ _ (.inl rfl) e⟩
  | xd fs => obtain ⟨mA, ⟨od, es, ep, e, c⟩, r⟩ := x; exact ⟨mA, ⟨od, es, ep, k _ _ (.inl rfl) e, c⟩, r⟩
  | rng lo hi => obtain ⟨t, u, v, e⟩ := x; exact ⟨t, u, v, k _ _ (.inl rfl) e⟩
  | frz ob u ih => obtain ⟨e, q⟩ := x; exact ⟨k _ _ (.inl rfl) e, ih q⟩
  | tbl ps =>
    have e : h.get? a = some { cls := .none, data := .fields ps } := x
    show h'.get? a = some { cls := .none, data := .fields ps }
    exact k a _ (.inl rfl) e
  | met f y =>
    have e : h.get? a = some (PySem.W.methodObj (.ref f) (.ref y)) := x
    show h'.get? a = some (PySem.W.methodObj (.ref f) (.ref y))
    exact k a _ (.inl rfl) e
  | ext φ => obtain ⟨p, ⟨o, e⟩, st⟩ := x; exact ⟨st _ _ p fun o q => k _ _ (.inl rfl) q, ⟨o, k _ _ (.inl rfl) e⟩, st⟩
theorem HOk.lt (x : HOk P w H h) (e : H a = some o) : a < h.objs.size := (x a o e).lt
theorem HOk.fresh (x : HOk P w H h) (e : h.objs.size ≤ a) : H a = none := by
  cases q : H a with
  | none => rfl
  | some u => exact absurd (Nat.lt_of_lt_of_le (x.lt q) e) (Nat.lt_irrefl _)
/-- every object of the heap is kept -/
theorem HOk.kept (x : HOk P w H h) (k : ∀ b u, h.get? b = some u → h'.get? b = some u) : HOk P w H h' := fun a o e =>
  (x a o e).stay (fun b u _ q => k b u q) (fun _ q => q) fun _ _ q => q
/-- a new object is laid and tracked -/
theorem HOk.laid (x : HOk P w H h) (k : ∀ b u, h.get? b = some u → h'.get? b = some u) (hp : h.objs.size ≤ a) (new : ObjOk P w (upd H a o) h' a o) : HOk P w (upd H a o) h' := fun b u e => by
  have hn := x.fresh hp
  by_cases hb : b = a
  · subst hb; rw [upd_same] at e; cases e; exact new
  · rw [upd_ne hb] at e
    exact (x b u e).stay (fun c v _ q => k c v q) (fun c q => by rw [upd_ne (ne_of_none q hn)]; exact q) fun c xs q => by rw [upd_ne (ne_of_none q hn)]; exact q
end

/-- what may be read as u: it is u, or a known u -/
def Rd (H : Hp) (a : Addr) (u : HO) : Prop := H a = some u ∨ ∃ o, H a = some (.frz o u)
theorem Rd.of {H : Hp} {a : Addr} {u : HO} (h : H a = some u) : Rd H a u := .inl h
theorem Rd.ok {P : Program} {w : World} {H : Hp} {h : Heap} {a : Addr} {u : HO} (r : Rd H a u) (x : HOk P w H h) : ObjOk P w H h a u := by
  rcases r with r | ⟨o, r⟩
  · exact x a u r
  · obtain ⟨_, q⟩ := x a _ r
    exact q
/-- what may be written -/
def Mut : Option HO → Prop
  | some (.lst _) => True
  | some (.dK _) => True
  | some (.dT _) => True
  | some (.set _ _) => True
  | some (.ins _ _ _) => True
  | some (.ext _) => True
  | _ => False
section
variable {P : Program} {w : World} {H : Hp} {h h' : Heap} {x e : Addr} {o' : HO}
/-- the object at e is changed: x itself, or the dict of the instance x -/
theorem HOk.write (ok : HOk P w H h) (mu : Mut (H x)) (he : e = x ∨ H e = some (.own x)) (k : ∀ b u, b ≠ e → h.get? b = some u → h'.get? b = some u) (heo : ∃ u, h'.get? e = some u)
    (new : ObjOk P w (upd H x o') h' x o') : HOk P w (upd H x o') h' := fun b u q => by
  have nown : ∀ c y, H c = some (.own y) → c ≠ x := fun c y r z => by subst z; rw [r] at mu; exact mu
  have ntup : ∀ c xs, H c = some (.tup xs) → c ≠ x := fun c xs r z => by subst z; rw [r] at mu; exact mu
  by_cases hb : b = x
  · subst hb; rw [upd_same] at q; cases q; exact new
  · rw [upd_ne hb] at q
    by_cases hbe : b = e
    · have q' : H b = some (.own x) := by
        rcases he with z | z
        · exact absurd (hbe.trans z) hb
        · rw [hbe]; exact z
      rw [q] at q'; cases q'
      obtain ⟨v, hv⟩ := heo
      exact ⟨v, by rw [hbe]; exact hv⟩
    · refine (ok b u q).stay (fun c v hc r => k c v ?_ r) (fun c r => by rw [upd_ne (nown c b r)]; exact r) fun c xs r => by rw [upd_ne (ntup c xs r)]; exact r
      rcases hc with rfl | hc
      · exact hbe
      · rintro rfl
        rcases he with z | z
        · exact nown c b hc z
        · rw [hc] at z; cases z; exact hb rfl
end

/-! ### kept unless tracked; of the frames at fs (the callers') the slots may change (an exception that passes writes there); of the records at ex (iterators) nothing is said -/
structure Un (fs ex : List Addr) (H H' : Hp) (h h' : Heap) : Prop where
  keep : ∀ b o, h.get? b = some o → H b = none → b ∉ fs → b ∉ ex → h'.get? b = some o
  slot : ∀ b o, h.get? b = some o → H b = none → b ∈ fs → b ∉ ex → ∃ sl, h'.get? b = some { o with slots := sl }
  free : ∀ b o, h.get? b = some o → H b = none → b ∉ ex → H' b = none
  there : ∀ b o, h.get? b = some o → b ∉ ex → ∃ o', h'.get? b = some o'
  tups : ∀ b xs, H b = some (.tup xs) → H' b = some (.tup xs)
  frzs : ∀ b o u, H b = some (.frz o u) → H' b = some (.frz o u)
  tbls : ∀ b ps, H b = some (.tbl ps) → ∃ more, H' b = some (.tbl (ps ++ more))
section
variable {fs fs' ex ex' : List Addr} {H H1 H2 : Hp} {h h1 h2 h' : Heap} {a x e : Addr} {o : HO}
theorem Un.any (u : Un fs ex H H1 h h1) {b : Addr} {ob : Obj} (q : h.get? b = some ob) (n : H b = none) (hx : b ∉ ex) : ∃ sl, h1.get? b = some { ob with slots := sl } := by
  by_cases hb : b ∈ fs
  · exact u.slot b ob q n hb hx
  · exact ⟨ob.slots, u.keep b ob q n hb hx⟩
theorem Un.trans (a : Un fs ex H H1 h h1) (b : Un fs ex H1 H2 h1 h2) : Un fs ex H H2 h h2 where
  keep := fun c ob q n hc hx => b.keep c ob (a.keep c ob q n hc hx) (a.free c ob q n hx) hc hx
  slot := fun c ob q n hc hx => by
    obtain ⟨sl, e1⟩ := a.slot c ob q n hc hx
    obtain ⟨sl', e2⟩ := b.slot c _ e1 (a.free c ob q n hx) hc hx
    exact ⟨sl', e2⟩
  free := fun c ob q n hx => by
    obtain ⟨o', e1⟩ := a.there c ob q hx
    exact b.free c o' e1 (a.free c ob q n hx) hx
  there := fun c ob q hx => by
    obtain ⟨o', e1⟩ := a.there c ob q hx
    exact b.there c o' e1 hx
  tups := fun c xs q => b.tups c xs (a.tups c xs q)
  frzs := fun c ob xs q => b.frzs c ob xs (a.frzs c ob xs q)
  tbls := fun c ps q => by
    obtain ⟨m1, e1⟩ := a.tbls c ps q
    obtain ⟨m2, e2⟩ := b.tbls c _ e1
    exact ⟨m1 ++ m2, by rw [e2, Array.append_assoc]⟩
theorem Un.kept (k : ∀ b u, h.get? b = some u → h'.get? b = some u) : Un fs ex H H h h' :=
  ⟨fun b ob q _ _ _ => k b ob q, fun b ob q _ _ _ => ⟨ob.slots, k b ob q⟩, fun _ _ _ n _ => n, fun b ob q _ => ⟨ob, k b ob q⟩, fun _ _ q => q, fun _ _ _ q => q, fun _ ps q => ⟨#[], by rw [q]; simp⟩⟩
theorem Un.refl : Un fs ex H H h h := Un.kept fun _ _ q => q
theorem Un.laid (k : ∀ b u, h.get? b = some u → h'.get? b = some u) (hp : h.objs.size ≤ a) (hn : H a = none) : Un fs ex H (upd H a o) h h' where
  keep := fun b u q _ _ _ => k b u q
  slot := fun b u q _ _ _ => ⟨u.slots, k b u q⟩
  free := fun b u q n _ => by rw [upd_ne (Nat.ne_of_lt (Nat.lt_of_lt_of_le (Heap.lt_size q) hp))]; exact n
  there := fun b u q _ => ⟨u, k b u q⟩
  tups := fun b xs q => by rw [upd_ne (ne_of_none q hn)]; exact q
  frzs := fun b u xs q => by rw [upd_ne (ne_of_none q hn)]; exact q
  tbls := fun b ps q => ⟨#[], by rw [upd_ne (ne_of_none q hn), q]; simp⟩
theorem Un.write (mu : Mut (H x)) (he : e = x ∨ H e = some (.own x)) (k : ∀ b u, b ≠ e → h.get? b = some u → h'.get? b = some u) (heo : ∃ u, h'.get? e = some u) : Un fs ex H (upd H x o) h h' := by
  have hx : ∀ b, H b = none → b ≠ x := fun b n z => by subst z; rw [n] at mu; exact mu
  have hb : ∀ b, H b = none → b ≠ e := fun b n z => by
    subst z
    rcases he with r | r
    · exact hx b n r
    · rw [n] at r; cases r
  have hm : ∀ b u, H b = some u → ¬ Mut (some u) → b ≠ x := fun b u q nm z => by subst z; rw [q] at mu; exact nm mu
  refine ⟨fun b u q n _ _ => k b u (hb b n) q, fun b u q n _ _ => ⟨u.slots, k b u (hb b n) q⟩, fun b u q n _ => by rw [upd_ne (hx b n)]; exact n, fun b u q _ => ?_,
    fun b xs q => by rw [upd_ne (hm b _ q fun z => z)]; exact q, fun b u xs q => by rw [upd_ne (hm b _ q fun z => z)]; exact q, fun b ps q => ⟨#[], by rw [upd_ne (hm b _ q fun z => z), q]; simp⟩⟩
  by_cases hbe : b = e
  · subst hbe; exact heo
  · exact ⟨u, k b u hbe q⟩
theorem Un.mono (u : Un fs ex H H1 h h1) (hs : ∀ b ∈ fs, b ∈ fs') (hx : ∀ b ∈ ex, b ∈ ex') : Un fs' ex' H H1 h h1 :=
  ⟨fun b ob q n hb he => u.keep b ob q n (fun z => hb (hs b z)) fun z => he (hx b z), fun _ _ q n _ he => u.any q n fun z => he (hx _ z), fun b ob q n he => u.free b ob q n fun z => he (hx b z), fun b ob q he => u.there b ob q fun z => he (hx b z), u.tups, u.frzs, u.tbls⟩
end

/-! ### the heap without what is tracked -/
def trk (h : Heap) (H : Hp) : List Addr := (List.range h.objs.size).filter fun a => (H a).isSome
def hidT (h : Heap) (H : Hp) : Heap := PySem.W.hideAll h (trk h H)
theorem hidT_size (h : Heap) (H : Hp) : (hidT h H).objs.size = h.objs.size := PySem.W.hideAll_size _ _
theorem hidT_get {h : Heap} {H : Hp} {b : Addr} {o : Obj} (e : h.get? b = some o) (n : H b = none) : (hidT h H).get? b = some o :=
  PySem.W.hideAll_get _ e fun hm => by
    have q : (H b).isSome = true := (List.mem_filter.mp hm).2
    rw [n] at q; simp at q
theorem of_hidT {h : Heap} {H : Hp} {b : Addr} {o : Obj} (e : (hidT h H).get? b = some o) : h.get? b = some o ∧ H b = none := by
  have e' : h.get? b = some o := PySem.W.of_hideAll (trk h H) e
  refine ⟨e', ?_⟩
  cases q : H b with
  | none => rfl
  | some x =>
    have hm : b ∈ trk h H := List.mem_filter.mpr ⟨List.mem_range.mpr (Heap.lt_size e'), by simp [q]⟩
    have z : (hidT h H).get? b = none := PySem.W.hideAll_none (trk h H) hm
    rw [z] at e; cases e

/-! ### OpenK's ledger, filled with every new object but one -/
def allNews (g h : Heap) (L : Addr) : List (Addr × Obj) := (List.range h.objs.size).filterMap fun a => if a = L ∨ (g.get? a).isSome = true then none else (h.get? a).map fun o => (a, o)
def rest (g h : Heap) (L d : Addr) : List (Addr × Obj) := (allNews g h L).filter fun p => decide (p.1 ≠ d)
end L2

namespace L2
open PySem PySem.Spec PyProof.Rows

/-- the module's facts, over the base: the heap at the law's entry without what is tracked there -/
structure Mod (K : PySem.W.Frag) (mg : Str → Option Value) (base : Heap) : Prop where
  kin : K.In base
  glob : base.Ns mainGlobals mg
  blt : ∃ mb, base.Ns builtinsNs mb ∧ ∀ x : Str, x ≠ "__name__" → mb x = bootBuiltins x
  nolimit : base.NoLimit

/-- the context: a def's body (or a comprehension's block) running. base: fixed through the whole law; s₀, H₀: the entry; outer: the frames whose slots others may change (a def's callers); stack: all frames that run;
   ex: iterators that were made ahead of the entry and are walked here (a comprehension's); fn: the names whose cells were made at the entry (a def: all; a comprehension's block: its own); calm: not within an except suite; pn: pins that every state bears; xe: what is wanted of an exception that leaves the code -/
structure Cx where
  prog : Program
  w : World
  K : PySem.W.Frag
  mg : Str → Option Value
  base : Heap
  A : Around
  N : List Str
  s₀ : Shared
  H₀ : Hp
  env : Env
  outer : List Env
  stack : List Env
  ex : List Addr
  fn : Str → Bool
  calm : Bool
  pn : List (Addr × Obj)
  xe : Value → Shared → Prop
/-- the callers' frames -/
def frs (l : List Env) : List Addr := l.filterMap (·.frame)
abbrev Cx.fs (X : Cx) : List Addr := frs X.outer

def Vis (sc : Scope) (x : Str) : Prop := sc.names.lookup x = some .local ∨ sc.names.lookup x = some .cell ∨ sc.names.lookup x = some .free
def Loc (sc : Scope) (x : Str) : Prop := sc.names.lookup x = some .local ∨ sc.names.lookup x = some .cell
def Look (env : Env) (h : Heap) (m : Str → Option Value) (x : Str) (u : Value) : Prop :=
  (env.kindOf x = some .local ∧ m x = some u) ∨ ((env.kindOf x = some .cell ∨ env.kindOf x = some .free) ∧ ∃ c, env.cells.lookup x = some c ∧ h.IsCell c (some u))

structure Cx.Ok (X : Cx) : Prop where
  mod : Mod X.K X.mg X.base
  kind : X.env.scope.kind = .function
  glob : X.env.globals = mainGlobals
  blt : X.env.builtins = builtinsNs
  above : X.s₀.heap.objs.size ≤ X.env.locals
  inj : ∀ x y c, X.env.cells.lookup x = some c → X.env.cells.lookup y = some c → x = y
  has : ∀ x, (X.env.kindOf x = some .cell ∨ X.env.kindOf x = some .free) → ∃ c, X.env.cells.lookup x = some c
  cab : ∀ x c, X.fn x = true → X.env.cells.lookup x = some c → X.s₀.heap.objs.size ≤ c
  hd : X.calm = true → X.A.handled = none
  frames : X.A.frames = some X.stack
  stk : X.stack = X.outer ∨ (X.stack = X.env :: X.outer ∧ X.env.frame = some X.env.locals)
  exf : ∀ b ∈ X.ex, b ≠ X.env.locals ∧ ∀ x c, X.env.cells.lookup x = some c → c ≠ b
  bs : ∀ b o, X.base.get? b = some o → X.s₀.heap.get? b = some o ∧ X.H₀ b = none
  bsz : X.base.objs.size ≤ X.s₀.heap.objs.size
  noex : ∀ b o, X.base.get? b = some o → b ∉ X.ex
  exfs : ∀ b ∈ X.ex, b ∉ X.fs
  funs : X.s₀.heap.FunFrames X.base X.outer
  frf : ∀ b ∈ X.fs, X.H₀ b = none

structure Inv (X : Cx) (pins : List (Addr × Obj)) (σ : List (Option V)) (H : Hp) (s : Shared) : Prop where
  ok : X.Ok
  os : s.os = X.s₀.os
  bare : AllBare s.gens
  base : Un X.fs X.ex X.H₀ H X.s₀.heap s.heap
  loc : ∃ m, s.heap.Ns X.env.locals m ∧ ∀ (i : Nat) (x : Str) (v : V), X.N[i]? = some x → σ[i]? = some (some v) → Vis X.env.scope x → ∃ u, RelV v u ∧ Look X.env s.heap m x u
  cell : ∀ x c, X.env.cells.lookup x = some c → ∃ v, s.heap.IsCell c v
  free : H X.env.locals = none
  freeC : ∀ x c, X.env.cells.lookup x = some c → H c = none
  pin : ∀ p ∈ X.pn ++ pins, s.heap.get? p.1 = some p.2 ∧ H p.1 = none ∧ p.1 ≠ X.env.locals ∧ p.1 ∉ X.fs ∧ ∀ v, p.2.data ≠ .cell v
  hok : HOk X.prog X.w H s.heap
  len : σ.length = X.N.length

section
variable {X : Cx} {pins : List (Addr × Obj)} {σ : List (Option V)} {H H' : Hp} {s : Shared} {h' : Heap}

theorem Cx.Ok.nofr (ok : X.Ok) {b : Addr} {o : Obj} (e : X.base.get? b = some o) : b ∉ X.fs := fun hb => by
  have := (ok.funs.mem hb).1
  rw [e] at this; cases this
theorem Inv.bs (I : Inv X pins σ H s) : ∀ b o, X.base.get? b = some o → s.heap.get? b = some o ∧ H b = none := fun b o e =>
  ⟨I.base.keep b o (I.ok.bs b o e).1 (I.ok.bs b o e).2 (I.ok.nofr e) (I.ok.noex b o e), I.base.free b o (I.ok.bs b o e).1 (I.ok.bs b o e).2 (I.ok.noex b o e)⟩
theorem Inv.bk (I : Inv X pins σ H s) : ∀ b o, X.base.get? b = some o → s.heap.get? b = some o := fun b o e => (I.bs b o e).1
theorem Inv.mod (I : Inv X pins σ H s) : Mod X.K X.mg X.base := I.ok.mod
theorem Inv.kIn (I : Inv X pins σ H s) : X.K.In s.heap := I.ok.mod.kin.keeps I.bk
theorem Inv.nolimit (I : Inv X pins σ H s) : s.heap.NoLimit := I.ok.mod.nolimit.keeps I.bk
/-- the frame over the base: for OpenK's rules (K.In X.base is I.mod.kin) -/
theorem Inv.fr (I : Inv X pins σ H s) : ∃ m, Fr X.base X.env.locals s.heap m :=
  let ⟨m, hn, _⟩ := I.loc
  ⟨m, hn, I.bk, Nat.le_trans I.ok.bsz I.ok.above⟩
theorem Inv.lt (I : Inv X pins σ H s) : X.env.locals < s.heap.objs.size := let ⟨_, hn, _⟩ := I.loc; hn.lt
theorem Inv.sz (I : Inv X pins σ H s) : X.s₀.heap.objs.size ≤ s.heap.objs.size := Nat.le_trans I.ok.above (Nat.le_of_lt I.lt)
theorem Inv.nofs (I : Inv X pins σ H s) {a : Addr} (h : s.heap.objs.size ≤ a) : a ∉ X.fs := fun hb => by
  obtain ⟨_, o, ho, _⟩ := I.ok.funs.mem hb
  exact absurd (Nat.lt_of_lt_of_le (Heap.lt_size ho) (Nat.le_trans I.sz h)) (Nat.lt_irrefl _)
theorem Inv.cne (I : Inv X pins σ H s) : ∀ x c, X.env.cells.lookup x = some c → c ≠ X.env.locals := fun x c e z => by
  obtain ⟨v, o, ho, hd⟩ := I.cell x c e
  obtain ⟨m, ⟨o', es, ep, ho', hd', _⟩, _⟩ := I.loc
  rw [z, ho'] at ho; cases ho; rw [hd'] at hd; cases hd
theorem Inv.funs (I : Inv X pins σ H s) : s.heap.FunFrames X.base X.outer := by
  have all : ∀ (l : List Env), (∀ b ∈ frs l, b ∈ X.fs) → X.s₀.heap.FunFrames X.base l → s.heap.FunFrames X.base l := by
    intro l
    induction l with
    | nil => intro _ _; trivial
    | cons env r ih =>
      intro hs hl
      obtain ⟨hk, ⟨L, o, hf, hn, ho, hd⟩, hr⟩ := hl
      have hL : L ∈ X.fs := hs L (by unfold frs; rw [List.filterMap_cons, hf]; exact List.mem_cons_self)
      obtain ⟨sl, e⟩ := I.base.slot L o ho (I.ok.frf L hL) hL fun z => I.ok.exfs L z hL
      exact ⟨hk, ⟨L, _, hf, hn, e, hd⟩, ih (fun b hb => hs b (by unfold frs; rw [List.filterMap_cons, hf]; exact List.mem_cons_of_mem _ hb)) hr⟩
  exact all X.outer (fun _ hb => hb) I.ok.funs

/-- the frames that run, for a call -/
theorem Inv.stack (I : Inv X pins σ H s) : s.heap.FunFrames X.base X.stack := by
  rcases I.ok.stk with e | ⟨e, hf⟩
  · rw [e]; exact I.funs
  · rw [e]
    obtain ⟨m, hn, _⟩ := I.loc
    refine .cons (by rw [I.ok.kind]; decide) hf hn ?_ I.funs
    exact Heap.get?_none_of_le (Nat.le_trans I.ok.bsz I.ok.above)
theorem Inv.stkSub (I : Inv X pins σ H s) : ∀ b ∈ frs X.stack, b ∈ X.env.locals :: X.fs := fun b hb => by
  rcases I.ok.stk with e | ⟨e, hf⟩
  · rw [e] at hb; exact List.mem_cons_of_mem _ hb
  · rw [e] at hb
    unfold frs at hb
    rw [List.filterMap_cons, hf] at hb
    exact hb
theorem Inv.stkFree (I : Inv X pins σ H s) : ∀ b ∈ frs X.stack, H b = none := fun b hb => by
  rcases List.mem_cons.mp (I.stkSub b hb) with e | hb
  · rw [e]; exact I.free
  · obtain ⟨_, o, ho, _⟩ := I.ok.funs.mem hb
    exact I.base.free b o ho (I.ok.frf b hb) fun z => I.ok.exfs b z hb

/-- THE STEP: the untracked objects but the frame and the records at ch are kept (the callers' frames up to slots), the frame's map is kept, the new abstract heap is held -/
theorem Inv.step {g' : Array GenState} {t' : Nat} {d' : Drawn} {ch : List Addr} (I : Inv X pins σ H s)
    (hch : ∀ b ∈ ch, (b ∈ X.ex ∨ X.s₀.heap.objs.size ≤ b) ∧ b ≠ X.env.locals ∧ (∀ x c, X.env.cells.lookup x = some c → c ≠ b) ∧ ∀ p ∈ X.pn ++ pins, p.1 ≠ b)
    (keep : ∀ b o, b ≠ X.env.locals → b ∉ X.fs → b ∉ ch → s.heap.get? b = some o → H b = none → h'.get? b = some o)
    (slot : ∀ b o, b ≠ X.env.locals → b ∈ X.fs → b ∉ ch → s.heap.get? b = some o → H b = none → ∃ sl, h'.get? b = some { o with slots := sl }) (free : ∀ b o, b ∉ ch → s.heap.get? b = some o → H b = none → H' b = none)
    (there : ∀ b o, b ∉ ch → s.heap.get? b = some o → ∃ o', h'.get? b = some o')
    (tups : ∀ b xs, H b = some (.tup xs) → H' b = some (.tup xs)) (frzs : ∀ b o u, H b = some (.frz o u) → H' b = some (.frz o u)) (tbls : ∀ b ps, H b = some (.tbl ps) → ∃ more, H' b = some (.tbl (ps ++ more)))
    (ns : ∀ m, s.heap.Ns X.env.locals m → h'.Ns X.env.locals m) (hok : HOk X.prog X.w H' h') (hg : AllBare g') :
    Inv X pins σ H' { s with heap := h', gens := g', drawn := d', toks := t' } := by
  have neL : ∀ b o, X.s₀.heap.get? b = some o → b ≠ X.env.locals := fun b o e => Nat.ne_of_lt (Nat.lt_of_lt_of_le (Heap.lt_size e) I.ok.above)
  have neC : ∀ b o, X.s₀.heap.get? b = some o → b ∉ X.ex → b ∉ ch := fun b o e hx hb => by
    rcases (hch b hb).1 with z | z
    · exact hx z
    · exact absurd (Nat.lt_of_lt_of_le (Heap.lt_size e) z) (Nat.lt_irrefl _)
  have cellK : ∀ x c, X.env.cells.lookup x = some c → ∀ v, s.heap.IsCell c v → h'.IsCell c v := fun x c e v ⟨o, ho, hd⟩ => by
    have nch : c ∉ ch := fun z => (hch c z).2.2.1 x c e rfl
    by_cases hc : c ∈ X.fs
    · obtain ⟨sl, q⟩ := slot c o (I.cne x c e) hc nch ho (I.freeC x c e)
      exact ⟨_, q, hd⟩
    · exact ⟨o, keep c o (I.cne x c e) hc nch ho (I.freeC x c e), hd⟩
  refine ⟨I.ok, I.os, hg, ⟨fun b o e n hb hx => ?_, fun b o e n hb hx => ?_, fun b o e n hx => ?_, fun b o e hx => ?_, fun b xs e => tups b xs (I.base.tups b xs e), fun b o xs e => frzs b o xs (I.base.frzs b o xs e), fun b ps e => ?_⟩, ?_, fun x c e => ?_, ?_, fun x c e => ?_, fun p hp => ?_, hok, I.len⟩
  · exact keep b o (neL b o e) hb (neC b o e hx) (I.base.keep b o e n hb hx) (I.base.free b o e n hx)
  · obtain ⟨sl, e1⟩ := I.base.slot b o e n hb hx
    obtain ⟨sl', e2⟩ := slot b _ (neL b o e) hb (neC b o e hx) e1 (I.base.free b o e n hx)
    exact ⟨sl', e2⟩
  · obtain ⟨o', e1⟩ := I.base.there b o e hx
    exact free b o' (neC b o e hx) e1 (I.base.free b o e n hx)
  · obtain ⟨o', e1⟩ := I.base.there b o e hx
    exact there b o' (neC b o e hx) e1
  · obtain ⟨m1, e1⟩ := I.base.tbls b ps e
    obtain ⟨m2, e2⟩ := tbls b _ e1
    exact ⟨m1 ++ m2, by rw [e2, Array.append_assoc]⟩
  · obtain ⟨m, hn, hl⟩ := I.loc
    refine ⟨m, ns m hn, fun i x v e1 e2 e3 => ?_⟩
    obtain ⟨u, r, l⟩ := hl i x v e1 e2 e3
    refine ⟨u, r, ?_⟩
    rcases l with l | ⟨k, c, e, z⟩
    · exact .inl l
    · exact .inr ⟨k, c, e, cellK x c e _ z⟩
  · obtain ⟨v, z⟩ := I.cell x c e
    exact ⟨v, cellK x c e v z⟩
  · obtain ⟨m, ⟨o, _, _, ho, _⟩, _⟩ := I.loc
    exact free _ o (fun z => (hch _ z).2.1 rfl) ho I.free
  · obtain ⟨v, o, ho, hd⟩ := I.cell x c e
    exact free c o (fun z => (hch c z).2.2.1 x c e rfl) ho (I.freeC x c e)
  · obtain ⟨e, n, ne, nf, d⟩ := I.pin p hp
    have nch : p.1 ∉ ch := fun z => (hch p.1 z).2.2.2 p hp rfl
    exact ⟨keep p.1 p.2 ne nf nch e n, free p.1 p.2 nch e n, ne, nf, d⟩
/-- .. where the frame's own object is kept too -/
theorem Inv.un {t' : Nat} (I : Inv X pins σ H s) (u : Un X.fs [] H H' s.heap h') (hok : HOk X.prog X.w H' h') : Inv X pins σ H' { s with heap := h', toks := t' } := by
  obtain ⟨m, ⟨o, es, ep, ho, r⟩, _⟩ := id I.loc
  obtain ⟨sl, hL⟩ := u.any ho I.free (by simp)
  exact I.step (g' := s.gens) (d' := s.drawn) (ch := []) (fun _ z => nomatch z) (fun b o _ hb _ e n => u.keep b o e n hb (by simp)) (fun b o _ hb _ e n => u.slot b o e n hb (by simp)) (fun b o _ e n => u.free b o e n (by simp)) (fun b o _ e => u.there b o e (by simp)) u.tups u.frzs u.tbls (fun m' hm => by
    obtain ⟨o', es', ep', ho', r'⟩ := hm
    rw [ho] at ho'; cases ho'
    exact ⟨_, es', ep', hL, r'⟩) hok I.bare
/-- behind a call (or a comprehension's block): the slots of this frame may have changed too, the records at ch may have turned -/
theorem Inv.call {g' : Array GenState} {t' : Nat} {d' : Drawn} {ch : List Addr} (I : Inv X pins σ H s) (u : Un (frs X.stack) ch H H' s.heap h') (hok : HOk X.prog X.w H' h') (hg : AllBare g')
    (hch : ∀ b ∈ ch, (b ∈ X.ex ∨ X.s₀.heap.objs.size ≤ b) ∧ b ≠ X.env.locals ∧ (∀ x c, X.env.cells.lookup x = some c → c ≠ b) ∧ ∀ p ∈ X.pn ++ pins, p.1 ≠ b) :
    Inv X pins σ H' { s with heap := h', gens := g', drawn := d', toks := t' } := by
  obtain ⟨m, ⟨o, es, ep, ho, r⟩, _⟩ := id I.loc
  obtain ⟨sl, hL⟩ := u.any ho I.free fun z => (hch _ z).2.1 rfl
  exact I.step (ch := ch) hch (fun b o hL hb hc e n => u.keep b o e n (fun z => (List.mem_cons.mp (I.stkSub b z)).elim hL hb) hc) (fun b o _ _ hc e n => u.any e n hc) (fun b o hc e n => u.free b o e n hc) (fun b o hc e => u.there b o e hc) u.tups u.frzs u.tbls (fun m' hm => by
    obtain ⟨o', es', ep', ho', r'⟩ := hm
    rw [ho] at ho'; cases ho'
    exact ⟨_, es', ep', hL, r'⟩) hok hg
/-- an untracked record of ours (an iterator) has turned -/
theorem Inv.turned {t' : Nat} {it : Addr} (I : Inv X pins σ H s) (k : ∀ b o, b ≠ it → s.heap.get? b = some o → h'.get? b = some o) (hn : H it = none) (hL : it ≠ X.env.locals)
    (h1 : it ∈ X.ex ∨ X.s₀.heap.objs.size ≤ it) (h2 : ∀ x c, X.env.cells.lookup x = some c → c ≠ it) (h3 : ∀ p ∈ X.pn ++ pins, p.1 ≠ it) : Inv X pins σ H { s with heap := h', toks := t' } := by
  have nit : ∀ b u, H b = some u → b ≠ it := fun b u e z => by rw [z, hn] at e; cases e
  refine I.step (g' := s.gens) (d' := s.drawn) (ch := [it]) (fun b hb => ?_) (fun b o _ _ hc e _ => k b o (fun z => hc (by simp [z])) e) (fun b o _ _ hc e _ => ⟨o.slots, k b o (fun z => hc (by simp [z])) e⟩) (fun _ _ _ _ n => n)
    (fun b o hc e => ⟨o, k b o (fun z => hc (by simp [z])) e⟩) (fun _ _ e => e) (fun _ _ _ e => e) (fun b ps e => ⟨#[], by rw [e]; simp⟩) (fun m hm => ?_) (fun b u e => ?_) I.bare
  · have e : b = it := by simpa using hb
    subst e
    exact ⟨h1, hL, h2, h3⟩
  · obtain ⟨o, es, ep, ho, r⟩ := hm
    exact ⟨o, es, ep, k _ o (Ne.symm hL) ho, r⟩
  · refine (I.hok b u e).stay (fun c v hc q => k c v ?_ q) (fun _ q => q) fun _ _ q => q
    rcases hc with z | z
    · rw [z]; exact nit b u e
    · exact nit c _ z
theorem Inv.tok (I : Inv X pins σ H s) (t : Nat) : Inv X pins σ H { s with toks := t } := I.un (h' := s.heap) (t' := t) Un.refl I.hok
/-- all objects kept -/
theorem Inv.kept {t' : Nat} (I : Inv X pins σ H s) (k : ∀ b u, s.heap.get? b = some u → h'.get? b = some u) : Inv X pins σ H { s with heap := h', toks := t' } := I.un (Un.kept k) (I.hok.kept k)
/-- a new object laid and tracked -/
theorem Inv.laid {a : Addr} {o : HO} {t' : Nat} (I : Inv X pins σ H s) (k : ∀ b u, s.heap.get? b = some u → h'.get? b = some u) (hp : s.heap.objs.size ≤ a) (new : ObjOk X.prog X.w (upd H a o) h' a o) :
    Inv X pins σ (upd H a o) { s with heap := h', toks := t' } := I.un (Un.laid k hp (I.hok.fresh hp)) (I.hok.laid k hp new)
/-- an object written -/
theorem Inv.write {x e : Addr} {o : HO} {t' : Nat} (I : Inv X pins σ H s) (mu : Mut (H x)) (he : e = x ∨ H e = some (.own x)) (k : ∀ b u, b ≠ e → s.heap.get? b = some u → h'.get? b = some u) (heo : ∃ u, h'.get? e = some u)
    (new : ObjOk X.prog X.w (upd H x o) h' x o) : Inv X pins σ (upd H x o) { s with heap := h', toks := t' } := I.un (Un.write mu he k heo) (I.hok.write mu he k heo new)
theorem Inv.pins_of {pins' : List (Addr × Obj)} (I : Inv X pins σ H s) (h : ∀ p ∈ pins', s.heap.get? p.1 = some p.2 ∧ H p.1 = none ∧ p.1 ≠ X.env.locals ∧ p.1 ∉ X.fs ∧ ∀ v, p.2.data ≠ .cell v) : Inv X pins' σ H s :=
  ⟨I.ok, I.os, I.bare, I.base, I.loc, I.cell, I.free, I.freeC, fun p hp => (List.mem_append.mp hp).elim (fun z => I.pin p (List.mem_append_left _ z)) (h p), I.hok, I.len⟩

theorem nodup_ix {N : List Str} (hN : N.Nodup) {i j : Nat} {x : Str} (a : N[i]? = some x) (b : N[j]? = some x) : i = j := by
  obtain ⟨h1, e1⟩ := List.getElem?_eq_some_iff.mp a
  obtain ⟨h2, e2⟩ := List.getElem?_eq_some_iff.mp b
  exact (List.getElem_inj hN).mp (e1.trans e2.symm)

/-- a name is stored; what changed -/
theorem store_ok2 {M : Model} {A : Around} {E : Value → Shared → Prop} {i : Nat} {x : Str} {v : V} {u : Value} {Q : Unit → Shared → Prop} (I : Inv X pins σ H s) (hN : X.N.Nodup) (hi : X.N[i]? = some x) (hx : Loc X.env.scope x) (r : RelV v u)
    (h : ∀ s', Inv X pins (σ.set i (some v)) H s' → (∃ a, Heap.SameBut a s.heap s'.heap ∧ (a = X.env.locals ∨ X.env.cells.lookup x = some a)) → Q () s') (hf : X.fn x = true ∨ X.env.scope.names.lookup x = some .local := by first | exact .inl rfl | exact .inr rfl | assumption) : wpAny M A (storeName X.env x u) Q E s := by
  obtain ⟨m, hn, hl⟩ := id I.loc
  have hcls : (X.env.scope.kind == .class || (X.env.scope.kind == .module && X.env.locals != X.env.globals)) = false := by rw [I.ok.kind]; rfl
  have hiσ : i < σ.length := by rw [I.len]; exact (List.getElem?_eq_some_iff.mp hi).1
  have cne := I.cne
  have tracked : ∀ {a : Addr} {h' : Heap}, (∃ o, s.heap.get? a = some o ∧ H a = none) → Heap.SameBut a s.heap h' → HOk X.prog X.w H h' := fun {a h'} ha hs b ob e => by
    obtain ⟨_, _, hfree⟩ := ha
    refine (I.hok b ob e).stay (fun c w' hc q => (hs.2 c ?_).trans q) (fun _ q => q) fun _ _ q => q
    rintro rfl
    rcases hc with rfl | hc
    · rw [hfree] at e; cases e
    · rw [hfree] at hc; cases hc
  rcases hx with hk | hk
  · refine wpAny_storeName_local hk hn (fun h' hn' hs => ?_) hcls
    obtain ⟨oL, _, _, hoL, _⟩ := id hn
    refine h _ ⟨I.ok, I.os, I.bare, ⟨fun b o e n hb hx => ?_, fun b o e n hb hx => ?_, I.base.free, fun b o e hx => ?_, I.base.tups, I.base.frzs, I.base.tbls⟩, ⟨_, hn', fun j y v' e1 e2 e3 => ?_⟩, fun y c e => ?_, I.free, I.freeC, fun p hp => ?_, tracked ⟨oL, hoL, I.free⟩ hs, by simpa using I.len⟩ ⟨_, hs, .inl rfl⟩
    · exact (hs.2 b (Nat.ne_of_lt (Nat.lt_of_lt_of_le (Heap.lt_size e) I.ok.above))).trans (I.base.keep b o e n hb hx)
    · obtain ⟨sl, e1⟩ := I.base.slot b o e n hb hx
      exact ⟨sl, (hs.2 b (Nat.ne_of_lt (Nat.lt_of_lt_of_le (Heap.lt_size e) I.ok.above))).trans e1⟩
    · obtain ⟨o', e1⟩ := I.base.there b o e hx
      exact ⟨o', (hs.2 b (Nat.ne_of_lt (Nat.lt_of_lt_of_le (Heap.lt_size e) I.ok.above))).trans e1⟩
    · by_cases hj : j = i
      · subst hj
        rw [hi] at e1; cases e1
        rw [List.getElem?_set_self hiσ] at e2
        cases e2
        exact ⟨u, r, .inl ⟨hk, by simp⟩⟩
      · rw [List.getElem?_set_ne (Ne.symm hj)] at e2
        obtain ⟨u', r', q⟩ := hl j y v' e1 e2 e3
        refine ⟨u', r', ?_⟩
        rcases q with ⟨k, e⟩ | ⟨k, c, e, z⟩
        · refine .inl ⟨k, ?_⟩
          have : y ≠ x := fun e => hj (nodup_ix hN e1 (e ▸ hi))
          simp [this, e]
        · exact .inr ⟨k, c, e, z.sameBut hs (cne y c e)⟩
    · obtain ⟨w', z⟩ := I.cell y c e
      exact ⟨w', z.sameBut hs (cne y c e)⟩
    · obtain ⟨e, n, ne, nf, d⟩ := I.pin p hp
      exact ⟨(hs.2 p.1 ne).trans e, n, ne, nf, d⟩
  · have hfn : X.fn x = true := by
      rcases hf with z | z
      · exact z
      · rw [z] at hk; cases hk
    obtain ⟨c, hc⟩ := I.ok.has x (.inl hk)
    obtain ⟨w', z⟩ := I.cell x c hc
    refine wpAny_storeName_cell I.ok.kind hk hc z (fun h' hc' hs => ?_)
    obtain ⟨oc, hoc, hocd⟩ := id z
    refine h { s with heap := h' } ⟨I.ok, I.os, I.bare, ⟨fun b o e n hb hx => ?_, fun b o e n hb hx => ?_, I.base.free, fun b o e hx => ?_, I.base.tups, I.base.frzs, I.base.tbls⟩, ⟨m, hn.sameBut hs (Ne.symm (cne x c hc)), fun j y v' e1 e2 e3 => ?_⟩, fun y c' e => ?_, I.free, I.freeC, fun p hp => ?_, tracked ⟨oc, hoc, I.freeC x c hc⟩ hs, by simpa using I.len⟩ ⟨c, hs, .inr hc⟩
    · exact (hs.2 b (Nat.ne_of_lt (Nat.lt_of_lt_of_le (Heap.lt_size e) (I.ok.cab x c hfn hc)))).trans (I.base.keep b o e n hb hx)
    · obtain ⟨sl, e1⟩ := I.base.slot b o e n hb hx
      exact ⟨sl, (hs.2 b (Nat.ne_of_lt (Nat.lt_of_lt_of_le (Heap.lt_size e) (I.ok.cab x c hfn hc)))).trans e1⟩
    · obtain ⟨o', e1⟩ := I.base.there b o e hx
      exact ⟨o', (hs.2 b (Nat.ne_of_lt (Nat.lt_of_lt_of_le (Heap.lt_size e) (I.ok.cab x c hfn hc)))).trans e1⟩
    · by_cases hj : j = i
      · subst hj
        rw [hi] at e1; cases e1
        rw [List.getElem?_set_self hiσ] at e2
        cases e2
        exact ⟨u, r, .inr ⟨.inl hk, c, hc, hc'⟩⟩
      · rw [List.getElem?_set_ne (Ne.symm hj)] at e2
        obtain ⟨u', r', q⟩ := hl j y v' e1 e2 e3
        refine ⟨u', r', ?_⟩
        rcases q with q | ⟨k, c', e, z'⟩
        · exact .inl q
        · refine .inr ⟨k, c', e, z'.sameBut hs ?_⟩
          rintro rfl
          exact hj (nodup_ix hN e1 (I.ok.inj _ _ _ e hc ▸ hi))
    · by_cases hcc : c' = c
      · subst hcc; exact ⟨_, hc'⟩
      · obtain ⟨w2, z2⟩ := I.cell y c' e
        exact ⟨w2, z2.sameBut hs hcc⟩
    · obtain ⟨e, n, ne, nf, d⟩ := I.pin p hp
      refine ⟨(hs.2 p.1 ?_).trans e, n, ne, nf, d⟩
      intro q
      rw [q, hoc] at e
      have q' : oc = p.2 := Option.some.inj e
      exact d w' (by rw [← q']; exact hocd)
theorem store_ok {M : Model} {A : Around} {E : Value → Shared → Prop} {i : Nat} {x : Str} {v : V} {u : Value} {Q : Unit → Shared → Prop} (I : Inv X pins σ H s) (hN : X.N.Nodup) (hi : X.N[i]? = some x) (hx : Loc X.env.scope x) (r : RelV v u)
    (h : ∀ s', Inv X pins (σ.set i (some v)) H s' → Q () s') (hf : X.fn x = true ∨ X.env.scope.names.lookup x = some .local := by first | exact .inl rfl | exact .inr rfl | assumption) : wpAny M A (storeName X.env x u) Q E s :=
  store_ok2 I hN hi hx r (fun s' I' _ => h s' I') hf
/-- behind a call or a block, the state as it is -/
theorem Inv.call' {s' : Shared} {ch : List Addr} (I : Inv X pins σ H s) (ho : s'.os = s.os) (u : Un (frs X.stack) ch H H' s.heap s'.heap) (hok : HOk X.prog X.w H' s'.heap) (hg : AllBare s'.gens)
    (hch : ∀ b ∈ ch, (b ∈ X.ex ∨ X.s₀.heap.objs.size ≤ b) ∧ b ≠ X.env.locals ∧ (∀ x c, X.env.cells.lookup x = some c → c ≠ b) ∧ ∀ p ∈ X.pn ++ pins, p.1 ≠ b) : Inv X pins σ H' s' := by
  obtain ⟨h', g', d', t', o'⟩ := s'
  have e : o' = s.os := ho
  subst e
  exact I.call (g' := g') (t' := t') (d' := d') u hok hg hch
end

/-! ### the judgements -/
/-- an exception: its class, its own dict's address (where it has one), the abstract heap behind it -/
abbrev XK := Value → Option Addr → Hp → Prop
abbrev St := List (Option V)
abbrev VK := V → Hp → Prop
/-- an expression's reading; a test's; an argument list's -/
abbrev TE := St → Hp → VK → Prop
abbrev TT := St → Hp → (Bool → Hp → Prop) → Prop
abbrev TA := St → Hp → (List V → Hp → Prop) → Prop
/-- what is wanted behind a statement -/
structure Ends where
  nx : St → Hp → Prop
  rt : VK
  bk : St → Hp → Prop := fun _ _ => False
  ct : St → Hp → Prop := fun _ _ => False
abbrev TS := Ends → St → Hp → Prop

def EP (X : Cx) (pins : List (Addr × Obj)) (σ : St) (Q : VK) (u : Value) (s' : Shared) : Prop := ∃ v H', Inv X pins σ H' s' ∧ RelV v u ∧ Q v H'
def TP (X : Cx) (pins : List (Addr × Obj)) (σ : St) (Q : Bool → Hp → Prop) (b : Bool) (s' : Shared) : Prop := ∃ H', Inv X pins σ H' s' ∧ Q b H'
def AP (X : Cx) (pins : List (Addr × Obj)) (σ : St) (Q : List V → Hp → Prop) (us : List Value) (s' : Shared) : Prop := ∃ vs H', Inv X pins σ H' s' ∧ Vals vs us ∧ Q vs H'
def SP (X : Cx) (pins : List (Addr × Obj)) (D : Ends) (f : Flow) (s' : Shared) : Prop :=
  match f with
  | .next => ∃ σ' H', Inv X pins σ' H' s' ∧ D.nx σ' H'
  | .brk => ∃ σ' H', Inv X pins σ' H' s' ∧ D.bk σ' H'
  | .cont => ∃ σ' H', Inv X pins σ' H' s' ∧ D.ct σ' H'
  | .ret u => ∃ v σ' H', Inv X pins σ' H' s' ∧ RelV v u ∧ D.rt v H'

def PE (X : Cx) (e : Expr) (t : TE) : Prop :=
  ∀ (pins : List (Addr × Obj)) (s : Shared) (σ : St) (H : Hp) (Q : VK), Inv X pins σ H s → t σ H Q → wpAny (model X.prog X.w) X.A (eval e X.env) (EP X pins σ Q) X.xe s
def PT (X : Cx) (e : Expr) (t : TT) : Prop :=
  ∀ (pins : List (Addr × Obj)) (s : Shared) (σ : St) (H : Hp) (Q : Bool → Hp → Prop), Inv X pins σ H s → t σ H Q → wpAny (model X.prog X.w) X.A (isTrue e X.env (eval e X.env)) (TP X pins σ Q) X.xe s
/-- a test whatever its 'whole' is (and, or) -/
def PW (X : Cx) (e : Expr) (t : TT) : Prop :=
  ∀ (whole : Sem Value) (pins : List (Addr × Obj)) (s : Shared) (σ : St) (H : Hp) (Q : Bool → Hp → Prop), Inv X pins σ H s → t σ H Q → wpAny (model X.prog X.w) X.A (isTrue e X.env whole) (TP X pins σ Q) X.xe s
theorem PW.pt {X : Cx} {e : Expr} {t : TT} (h : PW X e t) : PT X e t := h _
/-- an argument list (no star), from the left -/
def PA (X : Cx) (es : List Expr) (t : TA) : Prop :=
  ∀ (pos : Pos) (pins : List (Addr × Obj)) (s : Shared) (σ : St) (H : Hp) (Q : List V → Hp → Prop), Inv X pins σ H s → t σ H Q → wpAny (model X.prog X.w) X.A (spliced (backTo pos (starEach es X.env))) (AP X pins σ Q) X.xe s
def PS (X : Cx) (st : Stmt) (t : TS) : Prop :=
  ∀ (pins : List (Addr × Obj)) (s : Shared) (σ : St) (H : Hp) (D : Ends), Inv X pins σ H s → t D σ H → wpAny (model X.prog X.w) X.A (exec st X.env) (SP X pins D) X.xe s
def PSs (X : Cx) (st : List Stmt) (t : TS) : Prop :=
  ∀ (pins : List (Addr × Obj)) (s : Shared) (σ : St) (H : Hp) (D : Ends), Inv X pins σ H s → t D σ H → wpAny (model X.prog X.w) X.A (execs st X.env) (SP X pins D) X.xe s
/-- weaken the end -/
theorem thn {α : Type} {t : Sem α} {Q Q' : α → Shared → Prop} {M : Model} {A : Around} {E : Value → Shared → Prop} {s : Shared} (h : wpAny M A t Q E s) (hQ : ∀ a s, Q a s → Q' a s) : wpAny M A t Q' E s := wpAny_mono h hQ fun _ _ x => x
end L2

namespace L2
open PySem PySem.Spec PyProof.Rows
section
variable {X : Cx}

/-! ### names and constants -/
def tVar (i : Nat) : TE := fun σ H Q => ∃ v, σ[i]? = some (some v) ∧ Q v H
def tC (v : V) : TE := fun _ H Q => Q v H
theorem pe_var {i : Nat} {x : Str} {pos : Pos} (hN : X.N[i]? = some x) (hv : Vis X.env.scope x) (hd : (x == ("__debug__" : Str)) = false := by decide) (hcd : (x == ("__classdict__" : Str)) = false := by decide) : PE X (.Name x pos) (tVar i) := by
  intro pins s σ H Q I h
  obtain ⟨v, e, h⟩ := h
  obtain ⟨m, hn, hl⟩ := I.loc
  obtain ⟨u, r, l⟩ := hl i x v hN e hv
  have fin : EP X pins σ Q u s := ⟨v, H, I, r, h⟩
  rcases l with ⟨hk, hm⟩ | ⟨hk, c, hc, hcell⟩
  · exact wpAny_Name (wpAny_loadName_local I.ok.kind hk hn hm fin) hd
  · rcases hk with hk | hk
    · exact wpAny_Name (wpAny_loadName_cell I.ok.kind hk hc hcell fin) hd
    · exact wpAny_Name (wpAny_loadName_free I.ok.kind hk hc hcell fin hcd) hd
theorem pe_int {i j pos} : PE X (.Constant (.int i) j pos) (tC (.int i)) := fun _ _ _ H _ I h => wpAny_Constant_int ⟨.int i, H, I.tok _, ⟨_, rfl⟩, h⟩
theorem pe_bl {b j pos} : PE X (.Constant (.bool b) j pos) (tC (.bl b)) := fun _ _ _ H _ I h => Constant_bool ⟨.bl b, H, I, rfl, h⟩
theorem pe_non {j pos} : PE X (.Constant .none j pos) (tC .non) := fun _ _ _ H _ I h => Constant_none ⟨.non, H, I, rfl, h⟩
theorem pe_str {x j pos} : PE X (.Constant (.str x) j pos) (tC (.str x)) := fun _ _ _ H _ I h => Calls.Constant_str ⟨.str x, H, I.tok _, ⟨_, rfl⟩, h⟩

/-- a global name of the def -/
def Gl (X : Cx) (x : Str) : Prop := X.env.kindOf x = some .globalImplicit
theorem ld_glob {E : Value → Shared → Prop} {pins : List (Addr × Obj)} {s : Shared} {σ : St} {H : Hp} {x : Str} {u : Value} {pos : Pos} {Q : Value → Shared → Prop} (I : Inv X pins σ H s) (hg : Gl X x) (hm : X.mg x = some u) (h : Q u s)
    (hd : (x == ("__debug__" : Str)) = false := by decide) : wpAny (model X.prog X.w) X.A (eval (.Name x pos) X.env) Q E s :=
  Calls.Name_function_global I.ok.kind hg (Calls.loadGlobal_global (by rw [I.ok.glob]; exact I.mod.glob.keeps I.bk) hm h) hd
theorem ld_blt {E : Value → Shared → Prop} {pins : List (Addr × Obj)} {s : Shared} {σ : St} {H : Hp} {x : Str} {u : Value} {pos : Pos} {Q : Value → Shared → Prop} (I : Inv X pins σ H s) (hg : Gl X x) (hm : X.mg x = none) (hv : bootBuiltins x = some u) (h : Q u s)
    (hn : x ≠ "__name__" := by decide) (hd : (x == ("__debug__" : Str)) = false := by decide) : wpAny (model X.prog X.w) X.A (eval (.Name x pos) X.env) Q E s := by
  obtain ⟨mb, h1, h2⟩ := I.mod.blt
  exact Calls.Name_function_global I.ok.kind hg (Calls.loadGlobal_builtin (by rw [I.ok.glob]; exact I.mod.glob.keeps I.bk) hm (by rw [I.ok.blt]; exact h1.keeps I.bk) ((h2 x hn).trans hv) h) hd
/-- a module's constant, a class, a function, as a value -/
theorem pe_glob {x : Str} {v : V} {u : Value} {pos : Pos} (hg : Gl X x) (hm : X.mg x = some u) (r : RelV v u) (hd : (x == ("__debug__" : Str)) = false := by decide) : PE X (.Name x pos) (tC v) :=
  fun _ _ _ H _ I h => ld_glob I hg hm ⟨v, H, I, r, h⟩ hd
theorem pe_bltn {x : Str} {v : V} {u : Value} {pos : Pos} (hg : Gl X x) (hm : X.mg x = none) (hv : bootBuiltins x = some u) (r : RelV v u) (hn : x ≠ "__name__" := by decide) (hd : (x == ("__debug__" : Str)) = false := by decide) : PE X (.Name x pos) (tC v) :=
  fun _ _ _ H _ I h => ld_blt I hg hm hv ⟨v, H, I, r, h⟩ hn hd

/-! ### arithmetic -/
/-- two ints -/
def t2I (ta tb : TE) (k : Int → Int → Hp → Prop) : St → Hp → Prop := fun σ H => ta σ H fun x H1 => tb σ H1 fun y H2 => ∃ i j, x = .int i ∧ y = .int j ∧ k i j H2
def tAdd (ta tb : TE) : TE := fun σ H Q => t2I ta tb (fun i j H2 => Q (.int (i + j)) H2) σ H
def tSub (ta tb : TE) : TE := fun σ H Q => t2I ta tb (fun i j H2 => Q (.int (i - j)) H2) σ H
/-- the left factor below 2^64 -/
def tMul (ta tb : TE) : TE := fun σ H Q => t2I ta tb (fun i j H2 => (-(2 ^ 64) < i ∧ i < 2 ^ 64) ∧ Q (.int (i * j)) H2) σ H
variable {a b : Expr} {ta tb : TE} {pos : Pos}
/-! ### comparisons -/
def PC (X : Cx) (op : CmpOp) (a b : Expr) (t : TE) : Prop :=
  ∀ (pins : List (Addr × Obj)) (s : Shared) (σ : St) (H : Hp) (Q : VK), Inv X pins σ H s → t σ H Q →
    wpAny (model X.prog X.w) X.A (eval a X.env) (fun v s₁ => wpAny (model X.prog X.w) X.A (eval b X.env) (fun u s₂ => wpAny (model X.prog X.w) X.A (compareOp op v u) (EP X pins σ Q) X.xe s₂) X.xe s₁) X.xe s
theorem nobehind (b : Expr) {op : CmpOp} (h : op ≠ .In) (h2 : op ≠ .NotIn) : behindInMarks op b = false := by
  have e1 : (op == CmpOp.In) = false := by cases op <;> first | rfl | exact absurd rfl h
  have e2 : (op == CmpOp.NotIn) = false := by cases op <;> first | rfl | exact absurd rfl h2
  cases b <;> simp [behindInMarks, e1, e2]
def tCmp (p : Int → Int → Bool) (ta tb : TE) : TE := fun σ H Q => t2I ta tb (fun i j H2 => Q (.bl (p i j)) H2) σ H
abbrev tLt : TE → TE → TE := tCmp fun i j => decide (i < j)
abbrev tLe : TE → TE → TE := tCmp fun i j => decide (i ≤ j)
abbrev tGt : TE → TE → TE := tCmp fun i j => decide (j < i)
abbrev tGe : TE → TE → TE := tCmp fun i j => decide (j ≤ i)
abbrev tEqI : TE → TE → TE := tCmp fun i j => decide (i = j)
abbrev tNeI : TE → TE → TE := tCmp fun i j => !decide (i = j)
/-- is None -/
def tIsN (ta : TE) : TE := fun σ H Q => ta σ H fun x H1 => Q (.bl (decide (x = .non))) H1
def tNotN (ta : TE) : TE := fun σ H Q => ta σ H fun x H1 => Q (.bl (!decide (x = .non))) H1
theorem RelV.none_iff {x : V} {v : Value} (r : RelV x v) : (v == Value.none) = decide (x = .non) := by
  cases x with
  | non => cases r; rfl
  | bl _ => cases r; rfl
  | int _ => obtain ⟨t, rfl⟩ := r; rfl
  | str _ => obtain ⟨t, rfl⟩ := r; rfl
  | byt _ => obtain ⟨t, rfl⟩ := r; rfl
  | flt _ => obtain ⟨t, rfl⟩ := r; rfl
  | ref _ => cases r; rfl
  | ty _ => cases r; rfl
theorem pc_isN {j pos'} (ha : PE X a ta) : PC X .Is a (.Constant .none j pos') (tIsN ta) := by
  intro pins s σ H Q I h
  refine thn (ha pins s σ H _ I h) fun v s1 ⟨x, H1, I1, r1, q1⟩ => ?_
  exact Constant_none (is_none_gen ⟨.bl _, H1, I1, by rw [r1.none_iff]; rfl, q1⟩)
/-- a comparison as a value, as a test -/
def tB (t : TE) : TT := fun σ H Q => t σ H fun x H1 => ∃ c, x = .bl c ∧ Q c H1
theorem pt_cmp {op : CmpOp} {t : TE} (h : PC X op a b t) (h1 : behindInMarks op b = false := by first | exact nobehind _ (by decide) (by decide) | rfl) : PT X (.Compare a [op] [b] pos) (tB t) := by
  intro pins s σ H Q I hw
  refine wpAny_isTrue_Compare1 (thn (h pins s σ H _ I hw) fun v s1 h1 => thn h1 fun u s2 h2 => thn h2 fun c s3 ⟨x, H1, I1, r1, q1⟩ => ?_) h1
  obtain ⟨d, rfl, q⟩ := q1
  cases r1
  exact wpAny_truthy_bool ⟨H1, I1, q⟩
/-- an expression whose value is a bool, as a test -/
theorem pt_val {e : Expr} {t : TE} (h : PE X e t) (he : ∀ whole, isTrue e X.env whole = (do let v ← whole; standAt e.pos; holding [v] (truthy v)) := by intro _; rfl) : PT X e (tB t) := by
  intro pins s σ H Q I hw
  refine isTrue_plain (thn (h pins s σ H _ I hw) fun v s1 ⟨x, H1, I1, r1, q1⟩ => ?_) (he _)
  obtain ⟨d, rfl, q⟩ := q1
  cases r1
  exact wpAny_truthy_bool ⟨H1, I1, q⟩

/-! ### and, or, not -/
variable {tA tB' : TT} {rest : List Expr}
def tAnd (t u : TT) : TT := fun σ H Q => t σ H fun c H1 => if c = true then u σ H1 Q else Q false H1
def tOr (t u : TT) : TT := fun σ H Q => t σ H fun c H1 => if c = true then Q true H1 else u σ H1 Q
def tNot (t : TT) : TT := fun σ H Q => t σ H fun c H1 => Q (!c) H1
theorem pw_and1 (ha : PT X a tA) : PW X (.BoolOp .And [a] pos) tA := by
  intro wh pins s σ H Q I h
  refine isTrue_and (thn (ha pins s σ H Q I h) fun c s1 e => ?_)
  cases c with
  | true => exact isTrue_and_nil e
  | false => exact e
theorem pw_or1 (ha : PT X a tA) : PW X (.BoolOp .Or [a] pos) tA := by
  intro wh pins s σ H Q I h
  refine isTrue_or (thn (ha pins s σ H Q I h) fun c s1 e => ?_)
  cases c with
  | false => exact isTrue_or_nil e
  | true => exact e
theorem pw_and (ha : PT X a tA) (hb : PW X (.BoolOp .And (b :: rest) pos) tB') : PW X (.BoolOp .And (a :: b :: rest) pos) (tAnd tA tB') := by
  intro wh pins s σ H Q I h
  refine isTrue_and (thn (ha pins s σ H _ I h) fun c s1 ⟨H1, I1, q1⟩ => ?_)
  cases c with
  | true => exact hb wh pins s1 σ H1 Q I1 q1
  | false => exact ⟨H1, I1, q1⟩
theorem pw_or (ha : PT X a tA) (hb : PW X (.BoolOp .Or (b :: rest) pos) tB') : PW X (.BoolOp .Or (a :: b :: rest) pos) (tOr tA tB') := by
  intro wh pins s σ H Q I h
  refine isTrue_or (thn (ha pins s σ H _ I h) fun c s1 ⟨H1, I1, q1⟩ => ?_)
  cases c with
  | true => exact ⟨H1, I1, q1⟩
  | false => exact hb wh pins s1 σ H1 Q I1 q1
theorem pt_not (ha : PT X a tA) : PT X (.UnaryOp .Not a pos) (tNot tA) := by
  intro pins s σ H Q I h
  exact isTrue_not (ha pins s σ H (fun c H1 => Q (!c) H1) I h)
/-- .. as values (bools) -/
def tAndV (ta tb : TE) : TE := fun σ H Q => ta σ H fun x H1 => ∃ c, x = .bl c ∧ if c = true then tb σ H1 Q else Q (.bl false) H1
def tOrV (ta tb : TE) : TE := fun σ H Q => ta σ H fun x H1 => ∃ c, x = .bl c ∧ if c = true then Q (.bl true) H1 else tb σ H1 Q
def tNotV (ta : TE) : TE := fun σ H Q => ta σ H fun x H1 => ∃ c, x = .bl c ∧ Q (.bl (!c)) H1
theorem pe_one {op} {t : TE} (h : PE X a t) : PE X (.BoolOp op [a] pos) t := fun pins s σ H Q I hw => BoolOp_one (h pins s σ H Q I hw)
theorem pe_and (ha : PE X a ta) (hb : PE X (.BoolOp .And (b :: rest) pos) tb) : PE X (.BoolOp .And (a :: b :: rest) pos) (tAndV ta tb) := by
  intro pins s σ H Q I h
  refine BoolOp_and (thn (ha pins s σ H _ I h) fun v s1 ⟨x, H1, I1, r1, q1⟩ => ?_)
  obtain ⟨c, rfl, q1⟩ := q1
  cases r1
  refine wpAny_truthy_bool ?_
  cases c with
  | true => exact hb pins s1 σ H1 Q I1 q1
  | false => exact ⟨.bl false, H1, I1, rfl, q1⟩
theorem pe_not (ha : PE X a ta) : PE X (.UnaryOp .Not a pos) (tNotV ta) := by
  intro pins s σ H Q I h
  refine UnaryOp_ (thn (ha pins s σ H _ I h) fun v s1 ⟨x, H1, I1, r1, q1⟩ => ?_)
  obtain ⟨c, rfl, q1⟩ := q1
  cases r1
  exact not_of (wpAny_truthy_bool ⟨.bl (!c), H1, I1, rfl, q1⟩)
/-- a if t else b -/
def tIf (t : TT) (ta tb : TE) : TE := fun σ H Q => t σ H fun c H1 => if c = true then ta σ H1 Q else tb σ H1 Q
end
end L2

namespace L2
open PySem PySem.Spec PyProof.Rows

/-! ### a list, a tuple that is read: tracked, frozen, or an object of the module -/
def SqL (K : PySem.W.Frag) (H : Hp) (a : Addr) (xs : List V) : Prop :=
  Rd H a (.lst xs) ∨
    ∃ (o : Obj) (its : Array Value) (n : Nat), K.lookup a = some o ∧ o.cls = .type "list" ∧ o.dict = none ∧ o.data = .seq its n ∧ its.size ≤ sizeLine ∧ Vals xs its.toList
def SqT (K : PySem.W.Frag) (H : Hp) (a : Addr) (xs : List V) : Prop :=
  Rd H a (.tup xs) ∨
    ∃ (o : Obj) (its : Array Value) (n : Nat), K.lookup a = some o ∧ o.cls = .type "tuple" ∧ o.data = .seq its n ∧ its.size ≤ sizeLine ∧ Vals xs its.toList
def absV : Value → Option V
  | .none => some .non
  | .bool b => some (.bl b)
  | .int i _ => some (.int i)
  | .str x _ => some (.str x)
  | .bytes b _ => some (.byt b)
  | .float b _ => some (.flt b)
  | .ref a => some (.ref a)
  | .type n => some (.ty n)
  | _ => none
theorem RelV.abs {x : V} {u : Value} (r : RelV x u) : absV u = some x := by
  cases x with
  | non => cases r; rfl
  | bl _ => cases r; rfl
  | int _ => obtain ⟨t, rfl⟩ := r; rfl
  | str _ => obtain ⟨t, rfl⟩ := r; rfl
  | byt _ => obtain ⟨t, rfl⟩ := r; rfl
  | flt _ => obtain ⟨t, rfl⟩ := r; rfl
  | ref _ => cases r; rfl
  | ty _ => cases r; rfl
theorem RelV.inj {x y : V} {u : Value} (r : RelV x u) (q : RelV y u) : x = y := Option.some.inj (r.abs.symm.trans q.abs)
theorem Vals.inj : ∀ {xs ys : List V} {us : List Value}, Vals xs us → Vals ys us → xs = ys
  | _, _, _, .nil, .nil => rfl
  | _, _, _, .cons r t, .cons r' t' => by rw [r.inj r', Vals.inj t t']
section
variable {X : Cx} {pins : List (Addr × Obj)} {σ : St} {H : Hp} {s : Shared} {a : Addr} {xs ys : List V}
theorem SqL.of {K : PySem.W.Frag} (h : H a = some (.lst xs)) : SqL K H a xs := .inl (.inl h)
theorem SqT.of {K : PySem.W.Frag} (h : H a = some (.tup xs)) : SqT K H a xs := .inl (.inl h)
theorem Inv.list (I : Inv X pins σ H s) (h : SqL X.K H a xs) : ∃ its : List Value, Vals xs its ∧ PlainL s.heap a its.toArray ∧ xs.length ≤ sizeLine := by
  rcases h with h | ⟨o, its, n, hk, hc, hd, hs, hz, r⟩
  · obtain ⟨z, its, n, r, e⟩ := h.ok I.hok
    exact ⟨its, r, ⟨_, n, e, rfl, rfl, rfl⟩, z⟩
  · refine ⟨its.toList, r, ⟨o, n, I.kIn a o hk, hc, hd, by simpa using hs⟩, ?_⟩
    have e := r.length
    simp only [Array.length_toList] at e
    omega
theorem Inv.tuple (I : Inv X pins σ H s) (h : SqT X.K H a xs) : ∃ its : List Value, Vals xs its ∧ IsTup s.heap a its.toArray ∧ xs.length ≤ sizeLine := by
  rcases h with h | ⟨o, its, n, hk, hc, hs, hz, r⟩
  · obtain ⟨z, its, r, p⟩ := h.ok I.hok
    exact ⟨its, r, p, z⟩
  · refine ⟨its.toList, r, ⟨o, I.kIn a o hk, hc, n, by simpa using hs⟩, ?_⟩
    have e := r.length
    simp only [Array.length_toList] at e
    omega
theorem Inv.tuple_inj (I : Inv X pins σ H s) (h : SqT X.K H a xs) (h' : SqT X.K H a ys) : xs = ys := by
  obtain ⟨its, r, ⟨o, e, _, n, d⟩, _⟩ := I.tuple h
  obtain ⟨its', r', ⟨o', e', _, n', d'⟩, _⟩ := I.tuple h'
  rw [e] at e'; cases e'
  rw [d] at d'
  injection d' with d1 _
  have : its = its' := by simpa using congrArg Array.toList d1
  subst this
  exact r.inj r'
end

/-! ### another wish about exceptions -/
abbrev Cx.wish (X : Cx) (E : Value → Shared → Prop) : Cx := { X with xe := E }
/-- no exception leaves -/
abbrev Cx.nox (X : Cx) : Cx := X.wish fun _ _ => False
theorem Cx.Ok.wish {X : Cx} (ok : X.Ok) (E : Value → Shared → Prop) : (X.wish E).Ok :=
  ⟨ok.mod, ok.kind, ok.glob, ok.blt, ok.above, ok.inj, ok.has, ok.cab, ok.hd, ok.frames, ok.stk, ok.exf, ok.bs, ok.bsz, ok.noex, ok.exfs, ok.funs, ok.frf⟩
theorem Cx.Ok.unwish {X : Cx} {E : Value → Shared → Prop} (ok : (X.wish E).Ok) : X.Ok :=
  ⟨ok.mod, ok.kind, ok.glob, ok.blt, ok.above, ok.inj, ok.has, ok.cab, ok.hd, ok.frames, ok.stk, ok.exf, ok.bs, ok.bsz, ok.noex, ok.exfs, ok.funs, ok.frf⟩
section
variable {X : Cx} {pins : List (Addr × Obj)} {σ : St} {H : Hp} {s : Shared} {E : Value → Shared → Prop}
theorem Inv.wish (I : Inv X pins σ H s) (E : Value → Shared → Prop) : Inv (X.wish E) pins σ H s := ⟨I.ok.wish E, I.os, I.bare, I.base, I.loc, I.cell, I.free, I.freeC, I.pin, I.hok, I.len⟩
theorem Inv.unwish (I : Inv (X.wish E) pins σ H s) : Inv X pins σ H s := ⟨I.ok.unwish, I.os, I.bare, I.base, I.loc, I.cell, I.free, I.freeC, I.pin, I.hok, I.len⟩
theorem SP.unwish {D : Ends} {f : Flow} {s' : Shared} (h : SP (X.wish E) pins D f s') : SP X pins D f s' := by
  cases f with
  | next => obtain ⟨σ', H', I, q⟩ := h; exact ⟨σ', H', I.unwish, q⟩
  | brk => obtain ⟨σ', H', I, q⟩ := h; exact ⟨σ', H', I.unwish, q⟩
  | cont => obtain ⟨σ', H', I, q⟩ := h; exact ⟨σ', H', I.unwish, q⟩
  | ret u => obtain ⟨v, σ', H', I, r, q⟩ := h; exact ⟨v, σ', H', I.unwish, r, q⟩
theorem PE.nox {e : Expr} {t : TE} (h : PE X.nox e t) : PE X e t := fun pins s σ H Q I hw =>
  wpAny_mono (h pins s σ H Q (I.wish _) hw) (fun _ _ ⟨v, H', I', r, q⟩ => ⟨v, H', I'.unwish, r, q⟩) fun _ _ z => False.elim z
theorem PT.nox {e : Expr} {t : TT} (h : PT X.nox e t) : PT X e t := fun pins s σ H Q I hw =>
  wpAny_mono (h pins s σ H Q (I.wish _) hw) (fun _ _ ⟨H', I', q⟩ => ⟨H', I'.unwish, q⟩) fun _ _ z => False.elim z
theorem PSs.nox {st : List Stmt} {t : TS} (h : PSs X.nox st t) : PSs X st t := fun pins s σ H D I hw =>
  wpAny_mono (h pins s σ H D (I.wish _) hw) (fun _ _ q => q.unwish) fun _ _ z => False.elim z
end

/-! ### blocks and small statements -/
section
variable {X : Cx} {st : Stmt} {rest : List Stmt} {t u : TS} {e : Expr} {te : TE} {pos : Pos}
def tNext : TS := fun D σ H => D.nx σ H
def tSeq (t u : TS) : TS := fun D σ H => t { D with nx := u D } σ H
theorem pss_nil : PSs X [] tNext := fun _ _ σ H _ I h => wpAny_execs_nil ⟨σ, H, I, h⟩
theorem pss_cons (h1 : PS X st t) (h2 : PSs X rest u) : PSs X (st :: rest) (tSeq t u) := by
  intro pins s σ H D I h
  refine wpAny_execs_cons (thn (h1 pins s σ H { D with nx := u D } I h) fun f s1 q => ?_)
  cases f with
  | next =>
    obtain ⟨σ', H', I', q⟩ := q
    exact h2 pins s1 σ' H' D I' q
  | ret v => exact q
  | brk => exact q
  | cont => exact q
theorem pss_one (h1 : PS X st t) : PSs X [st] t := by
  intro pins s σ H D I h
  refine wpAny_execs_cons (thn (h1 pins s σ H D I h) fun f s1 q => ?_)
  cases f with
  | next => exact wpAny_execs_nil q
  | ret v => exact q
  | brk => exact q
  | cont => exact q
def tBreak : TS := fun D σ H => D.bk σ H
def tCont : TS := fun D σ H => D.ct σ H
/-- in a def's body nothing is shown -/
theorem Inv.quiet {pins : List (Addr × Obj)} {σ : St} {H : Hp} {s : Shared} (I : Inv X pins σ H s) : interactive X.env = false := by simp [interactive, I.ok.kind]
/-- an expression whose value is dropped -/
def tDrop (te : TE) : TS := fun D σ H => te σ H fun _ H1 => D.nx σ H1
theorem ps_expr (he : PE X e te) (hs : swapsWith e none pos.line X.env = pure false := by rfl) : PS X (.Expr e pos) (tDrop te) := by
  intro pins s σ H D I h
  exact wpAny_Expr_any (thn (he pins s σ H _ I h) fun v s1 ⟨x, H1, I1, r1, q1⟩ => ⟨σ, H1, I1, q1⟩) I.quiet hs
def tRet (te : TE) : TS := fun D σ H => te σ H D.rt
theorem ps_ret (he : PE X e te) : PS X (.Return (some e) pos) (tRet te) := by
  intro pins s σ H D I h
  exact wpAny_Return_some (thn (he pins s σ H _ I h) fun v s1 ⟨x, H1, I1, r1, q1⟩ => ⟨x, σ, H1, I1, r1, q1⟩)
def tRetN : TS := fun D _ H => D.rt .non H
def tIfS (c : TT) (t u : TS) : TS := fun D σ H => c σ H fun b H1 => if b = true then t D σ H1 else u D σ H1
theorem ps_if {c : Expr} {a b : List Stmt} {tc : TT} (hc : PT X c tc) (ha : PSs X a t) (hb : PSs X b u) : PS X (.If c a b pos) (tIfS tc t u) := by
  intro pins s σ H D I h
  refine wpAny_If (thn (hc pins s σ H _ I h) fun d s1 ⟨H1, I1, q1⟩ => ?_)
  cases d with
  | true => exact ha pins s1 σ H1 D I1 q1
  | false => exact hb pins s1 σ H1 D I1 q1
/-- code that the proof never comes to -/
def tNever : TS := fun _ _ _ => False
theorem pss_never {sts : List Stmt} : PSs X sts tNever := fun _ _ _ _ _ _ h => h.elim
end

/-! ### targets -/
abbrev TG := V → St → Hp → (St → Hp → Prop) → Prop
abbrev TGs := List V → St → Hp → (St → Hp → Prop) → Prop
def PG (X : Cx) (target : Expr) (t : TG) : Prop :=
  ∀ (pins : List (Addr × Obj)) (s : Shared) (σ : St) (H : Hp) (v : V) (u : Value) (Q : St → Hp → Prop), Inv X pins σ H s → RelV v u → t v σ H Q →
    wpAny (model X.prog X.w) X.A (assign target X.env u) (fun _ s' => ∃ σ' H', Inv X pins σ' H' s' ∧ Q σ' H') X.xe s
/-- several targets, one after another -/
def PGs (X : Cx) (ts : List Expr) (t : TGs) : Prop :=
  ∀ (pins : List (Addr × Obj)) (s : Shared) (σ : St) (H : Hp) (vs : List V) (us : List Value) (Q : St → Hp → Prop), Inv X pins σ H s → Vals vs us → t vs σ H Q →
    wpAny (model X.prog X.w) X.A (assignInOrder ((assignEach ts X.env).map (·.2)) us) (fun _ s' => ∃ σ' H', Inv X pins σ' H' s' ∧ Q σ' H') X.xe s
/-- o[i] = v, by values -/
abbrev TSet := V → V → V → Hp → (Hp → Prop) → Prop
def PSet (X : Cx) (t : TSet) : Prop :=
  ∀ (pins : List (Addr × Obj)) (s : Shared) (σ : St) (H : Hp) (o i v : V) (ov iv u : Value) (Q : Hp → Prop), Inv X pins σ H s → RelV o ov → RelV i iv → RelV v u → t o i v H Q →
    wpAny (model X.prog X.w) X.A (setItem ov iv u) (fun _ s' => ∃ H', Inv X pins σ H' s' ∧ Q H') X.xe s
/-- a op= b, by values -/
abbrev TIp := V → V → Hp → VK → Prop
def PIp (X : Cx) (op : Operator) (t : TIp) : Prop :=
  ∀ (pins : List (Addr × Obj)) (s : Shared) (σ : St) (H : Hp) (x y : V) (v u : Value) (Q : VK), Inv X pins σ H s → RelV x v → RelV y u → t x y H Q →
    wpAny (model X.prog X.w) X.A (inplaceOp op v u) (EP X pins σ Q) X.xe s
section
variable {X : Cx} {pos : Pos}
def gName (i : Nat) : TG := fun v σ H Q => Q (σ.set i (some v)) H
theorem pg_name {i : Nat} {x : Str} (hN : X.N.Nodup) (hi : X.N[i]? = some x) (hx : Loc X.env.scope x) (hf : X.fn x = true ∨ X.env.scope.names.lookup x = some .local := by first | exact .inl rfl | exact .inr rfl | assumption) : PG X (.Name x pos) (gName i) := by
  intro pins s σ H v u Q I r h
  exact wpAny_assign_Name (store_ok I hN hi hx r (fun s' I' => ⟨_, H, I', h⟩) hf)
def gNil : TGs := fun vs σ H Q => vs = [] ∧ Q σ H
def gCons (t : TG) (u : TGs) : TGs := fun vs σ H Q => ∃ v r, vs = v :: r ∧ t v σ H fun σ' H' => u r σ' H' Q
theorem pgs_nil : PGs X [] gNil := by
  intro pins s σ H vs us Q I r h
  obtain ⟨e, h⟩ := h
  subst e
  cases r
  exact assignInOrder_nil ⟨σ, H, I, h⟩
theorem pgs_cons {e : Expr} {es : List Expr} {t : TG} {u : TGs} (h1 : PG X e t) (h2 : PGs X es u)
    (hs : (assignEach (e :: es) X.env).map (·.2) = assign e X.env :: (assignEach es X.env).map (·.2) := by rfl) : PGs X (e :: es) (gCons t u) := by
  intro pins s σ H vs us Q I r h
  obtain ⟨v, vr, e1, h⟩ := h
  subst e1
  cases r with
  | cons r rr =>
    rw [hs]
    refine assignInOrder_cons (thn (h1 pins s σ H _ _ _ I r h) fun _ s1 ⟨σ1, H1, I1, q1⟩ => ?_)
    exact h2 pins s1 σ1 H1 _ _ Q I1 rr q1
/-- (a, b, ..) = a tuple of that length -/
def gTup (K : PySem.W.Frag) (n : Nat) (t : TGs) : TG := fun v σ H Q => ∃ a xs, v = .ref a ∧ SqT K H a xs ∧ xs.length = n ∧ t xs σ H Q
theorem pg_tup {es : List Expr} {k : Nat} {t : TGs} {n : Nat} (hc : X.calm = true) (h : PGs X es t)
    (hn : (assignEach es X.env).length = n := by rfl) (hst : (assignEach es X.env).findIdx? (·.1) = none := by rfl) : PG X (.Tuple es k pos) (gTup X.K n t) := by
  intro pins s σ H v u Q I r hw
  obtain ⟨a, xs, e1, hq, hl, hw⟩ := hw
  subst e1
  cases r
  obtain ⟨its, rv, ht, hz⟩ := I.tuple hq
  refine assign_Tuple_tuple (I.ok.hd hc) ht (by simp [hn, ← hl, rv.length]) hst fun h' hx => ?_
  have I1 : Inv X pins σ H { s with heap := h' } := I.kept (t' := s.toks) fun b o e => hx b o (Nat.ne_of_lt (Heap.lt_size e)) e
  exact h pins _ σ H xs _ Q I1 (by simpa using rv) hw
/-- o[i] = .. -/
def gSub (to ti : TE) (t : TSet) : TG := fun v σ H Q => to σ H fun o H1 => ti σ H1 fun i H2 => t o i v H2 fun H3 => Q σ H3
/-- target = value -/
def tAsg (te : TE) (g : TG) : TS := fun D σ H => te σ H fun x H1 => g x σ H1 D.nx
theorem ps_asg {tg e : Expr} {te : TE} {g : TG} (he : PE X e te) (hg : PG X tg g) (hs : swapsWithSole [tg] e pos.line X.env = pure false := by rfl) (hw : swappedStores [tg] e X.env = pure none := by rfl)
    (h1 : (assignEach [tg] X.env).map (·.2) = [assign tg X.env] := by rfl) : PS X (.Assign [tg] e pos) (tAsg te g) := by
  intro pins s σ H D I h
  refine wpAny_Assign_stores (thn (he pins s σ H _ I h) fun v s1 ⟨x, H1, I1, r1, q1⟩ => ?_) hs hw
  rw [h1]
  exact thn (hg pins s1 σ H1 x v _ I1 r1 q1) fun _ s2 q => q
/-- name = value -/
theorem ps_set {i : Nat} {x : Str} {e : Expr} {te : TE} {pos' : Pos} (hN : X.N.Nodup) (hi : X.N[i]? = some x) (hx : Loc X.env.scope x) (he : PE X e te) (hs : swapsWith e (some (.Name x pos')) pos.line X.env = pure false := by rfl) (hf : X.fn x = true ∨ X.env.scope.names.lookup x = some .local := by first | exact .inl rfl | exact .inr rfl | assumption) :
    PS X (.Assign [.Name x pos'] e pos) (tAsg te (gName i)) := by
  intro pins s σ H D I h
  refine wpAny_Assign_Name (thn (he pins s σ H _ I h) fun v s1 ⟨y, H1, I1, r1, q1⟩ => ?_) hs
  exact store_ok I1 hN hi hx r1 (fun s2 I2 => ⟨_, H1, I2, q1⟩) hf
/-- a, b = x, y with plain local names: stored from the right; the pair itself is not tracked (the opening rows as in PyProof/Rows/TupAssign.lean:23) -/
def tPar (i j : Nat) (ta : TA) : TS := fun D σ H => ta σ H fun vs H1 => ∃ v w, vs = [v, w] ∧ D.nx ((σ.set i (some v)).set j (some w)) H1
theorem ps_par {i j : Nat} {x y : Str} {a b : Expr} {ta : TA} {px py pt : Pos} {kt k2 pt2} (hc : X.calm = true) (hN : X.N.Nodup) (hi : X.N[i]? = some x) (hj : X.N[j]? = some y) (hij : i ≠ j)
    (hx : X.env.scope.names.lookup x = some .local) (hy : X.env.scope.names.lookup y = some .local) (ha : PA X [a, b] ta)
    (hw : swappedStores [.Tuple [.Name x px, .Name y py] kt pt] (.Tuple [a, b] k2 pt2) X.env = pure (some [x, y]))
    (hs : swapsWithSole [.Tuple [.Name x px, .Name y py] kt pt] (.Tuple [a, b] k2 pt2) pos.line X.env = pure false := by rfl) :
    PS X (.Assign [.Tuple [.Name x px, .Name y py] kt pt] (.Tuple [a, b] k2 pt2) pos) (tPar i j ta) := by
  intro pins s σ H D I h
  rw [exec_Assign_arm]
  refine wpAny_bind (wpAny_standAt ?_)
  rw [hs]
  refine wpAny_bind (wpAny_pure ?_)
  rw [if_neg (by decide)]
  refine wpAny_bind (Tuple_ (thn (ha _ pins s σ H _ I h) fun us s1 ⟨vs, H1, I1, r1, q1⟩ => ?_))
  obtain ⟨v, w, e1, q1⟩ := q1
  subst e1
  obtain ⟨u1, u2, rfl, rv, rw'⟩ : ∃ u1 u2, us = [u1, u2] ∧ RelV v u1 ∧ RelV w u2 := by
    cases r1 with
    | cons p q =>
      cases q with
      | cons p' q' =>
        cases q'
        exact ⟨_, _, rfl, p, p'⟩
  refine wpAny_newObj_type ?_ (by show 2 ≤ sizeLine; decide)
  have I2 : Inv X pins σ H1 { s1 with heap := s1.heap.push { cls := .type "tuple", data := .seq [u1, u2].toArray } } := I1.kept (t' := s1.toks) fun b o e => Heap.get?_push_of_some _ e
  rw [hw]
  refine wpAny_bind (wpAny_pure ?_)
  show wpAny (model X.prog X.w) X.A (do rule "assign.swapped-stores"; let items ← unpackItems (.ref s1.heap.objs.size) 2 none; assignInOrder [fun v => bindName X.env y v, fun v => bindName X.env x v] items.reverse; pure Flow.next) _ _ _
  refine wpAny_bind (wpAny_rule (wpAny_bind (unpackItems_tuple (items := #[u1, u2]) (I.ok.hd hc) (IsTup.new s1.heap _) fun h' hx' => ?_)))
  have I3 := I2.kept (h' := h') (t' := s1.toks) fun b o e => hx' b o (Nat.ne_of_lt (Heap.lt_size e)) e
  show wpAny _ _ (assignInOrder [fun v => bindName X.env y v, fun v => bindName X.env x v] [u2, u1] >>= fun _ => pure Flow.next) _ _ _
  refine wpAny_bind (assignInOrder_cons (wpAny_bindName (store_ok I3 hN hj (.inl hy) rw' (fun s2 I4 => ?_) (.inr hy))))
  refine assignInOrder_cons (wpAny_bindName (store_ok I4 hN hi (.inl hx) rv (fun s3 I5 => assignInOrder_nil (wpAny_pure ?_)) (.inr hx)))
  rw [List.set_comm _ _ (Ne.symm hij)] at I5
  exact ⟨_, H1, I5, q1⟩
/-- name op= e -/
def tAug (i : Nat) (te : TE) (ti : TIp) : TS := fun D σ H => ∃ x, σ[i]? = some (some x) ∧ te σ H fun y H1 => ti x y H1 fun z H2 => D.nx (σ.set i (some z)) H2
/-- o[i] op= e -/
def tAugS (to ti te : TE) (tget : V → V → Hp → VK → Prop) (tip : TIp) (tset : TSet) : TS := fun D σ H => to σ H fun o H1 => ti σ H1 fun i H2 => tget o i H2 fun x H3 => te σ H3 fun y H4 => tip x y H4 fun z H5 => tset o i z H5 fun H6 => D.nx σ H6
/-- o[i], by values -/
def PGet (X : Cx) (t : V → V → Hp → VK → Prop) : Prop :=
  ∀ (pins : List (Addr × Obj)) (s : Shared) (σ : St) (H : Hp) (o i : V) (ov iv : Value) (Q : VK), Inv X pins σ H s → RelV o ov → RelV i iv → t o i H Q →
    wpAny (model X.prog X.w) X.A (getItem ov iv) (EP X pins σ Q) X.xe s
/-- ints -/
def ipI (f : Int → Int → Int) : TIp := fun x y H Q => ∃ i j, x = .int i ∧ y = .int j ∧ Q (.int (f i j)) H
end

/-! ### while -/
section
variable {X : Cx} {pos : Pos}
/-- the invariant W with its measure -/
def tWhile (c : TT) (tb : TS) : TS := fun D σ H => ∃ W : Nat → St → Hp → Prop, (∃ m, W m σ H) ∧ ∀ m σ H, W m σ H →
  c σ H fun b H1 => if b = true then ∃ N : St → Hp → Prop, (∀ σ' H', N σ' H' → ∃ m', m' < m ∧ W m' σ' H') ∧ tb { D with nx := N, ct := N, bk := D.nx } σ H1 else D.nx σ H1
theorem ps_while {c : Expr} {body : List Stmt} {tc : TT} {tb : TS} (hp : PassesOwn (model X.prog X.w) X.A X.env X.xe) (hc : PT X c tc) (hb : PSs X body tb) : PS X (.While c body [] pos) (tWhile tc tb) := by
  intro pins s σ H D I h
  obtain ⟨W, ⟨m0, w0⟩, turn⟩ := h
  refine wpAny_While (codeAny_whileLoop (fun n s' => ∃ σ' H', Inv X pins σ' H' s' ∧ W n σ' H') ?_ m0 ⟨σ, H, I, w0⟩)
  rintro n s1 ⟨σ1, H1, I1, w1⟩
  refine wpAny_passesOwn hp (thn (hc pins s1 σ1 H1 _ I1 (turn n σ1 H1 w1)) fun b s2 ⟨H2, I2, q2⟩ => ?_)
  cases b with
  | true =>
    obtain ⟨N, hN, q2⟩ := q2
    rw [if_pos rfl]
    refine wpAny_passesOwn hp (thn (hb pins s2 σ1 H2 _ I2 q2) fun f s3 q3 => ?_)
    cases f with
    | next =>
      obtain ⟨σ3, H3, I3, n3⟩ := q3
      obtain ⟨m', hm, w3⟩ := hN σ3 H3 n3
      exact ⟨m', hm, σ3, H3, I3, w3⟩
    | cont =>
      obtain ⟨σ3, H3, I3, n3⟩ := q3
      obtain ⟨m', hm, w3⟩ := hN σ3 H3 n3
      exact ⟨m', hm, σ3, H3, I3, w3⟩
    | brk => exact q3
    | ret v => exact q3
  | false =>
    rw [if_neg Bool.false_ne_true]
    exact wpAny_execs_nil ⟨σ1, H2, I2, q2⟩
end

/-! ### what a loop or a comprehension walks -/
/-- at turn i: it yields x (the heap may grow), or it stops -/
structure It where
  go : Nat → Hp → Prop
  yld : Nat → Hp → V → Hp → Prop
  stop : Nat → Hp → Prop
/-- the iterator's own objects may turn: they are not the frame's, not pinned, younger than the entry (or a comprehension's own) -/
def FpOk (X : Cx) (pins : List (Addr × Obj)) (H : Hp) (b : Addr) : Prop :=
  H b = none ∧ b ≠ X.env.locals ∧ b ∉ X.fs ∧ (b ∈ X.ex ∨ X.s₀.heap.objs.size ≤ b) ∧ (∀ x c, X.env.cells.lookup x = some c → c ≠ b) ∧ ∀ p ∈ X.pn ++ pins, p.1 ≠ b
theorem Inv.fpOk {X : Cx} {pins : List (Addr × Obj)} {σ : St} {H H' : Hp} {s : Shared} {b : Addr} (I : Inv X pins σ H s) (hb : s.heap.objs.size ≤ b) (hn : H' b = none) : FpOk X pins H' b := by
  refine ⟨hn, Nat.ne_of_gt (Nat.lt_of_lt_of_le I.lt hb), I.nofs hb, .inr (Nat.le_trans I.sz hb), fun x c e z => ?_, fun p hp z => ?_⟩
  · obtain ⟨v, q⟩ := I.cell x c e
    exact absurd (Nat.lt_of_lt_of_le q.lt (by rw [z]; exact hb)) (Nat.lt_irrefl _)
  · exact absurd (Nat.lt_of_lt_of_le (Heap.lt_size (I.pin p hp).1) (by rw [z]; exact hb)) (Nat.lt_irrefl _)
structure Turn (P : Program) (w : World) (K : PySem.W.Frag) (tg : Expr) (J : It) (fp : List Addr) (it : Addr) (tn : Nat → Heap → Prop) : Prop where
  mem : it ∈ fp
  obj : ∀ i h, tn i h → ∀ b ∈ fp, ∃ o, h.get? b = some o ∧ ∀ v, o.data ≠ .cell v
  keep : ∀ i h h', tn i h → (∀ b ∈ fp, ∀ o, h.get? b = some o → h'.get? b = some o) → tn i h'
  item : ∀ (X : Cx), X.prog = P → X.w = w → X.K = K → X.calm = true → ∀ (i : Nat) (pins : List (Addr × Obj)) (s : Shared) (σ : St) (H : Hp) (E : Value → Shared → Prop), Inv X pins σ H s → (∀ b ∈ fp, FpOk X pins H b) → tn i s.heap → J.go i H →
    wpAny (model P w) X.A (pyNext (.ref it)) (fun r s1 => ∃ u, r = some u ∧
      wpAny (model P w) X.A (letOwnedTupleGo tg (.ref it) u) (fun _ s2 => ∃ x H', Inv X pins σ H' s2 ∧ RelV x u ∧ J.yld i H x H' ∧ tn (i + 1) s2.heap ∧ ∀ b ∈ fp, H' b = none) E s1) E s
  done : ∀ (X : Cx), X.prog = P → X.w = w → X.K = K → X.calm = true → ∀ (i : Nat) (pins : List (Addr × Obj)) (s : Shared) (σ : St) (H : Hp) (E : Value → Shared → Prop), Inv X pins σ H s → (∀ b ∈ fp, FpOk X pins H b) → tn i s.heap → J.stop i H →
    wpAny (model P w) X.A (pyNext (.ref it)) (fun r s1 => r = none ∧ Inv X pins σ H s1) E s
  self : ∀ (A : Around) (i : Nat) (s : Shared) (Q : Value → Shared → Prop) (E : Value → Shared → Prop), tn i s.heap → Q (.ref it) s → wpAny (model P w) A (pyIter (.ref it)) Q E s
abbrev TI := St → Hp → (It → Hp → Prop) → Prop
/-- an iterator has come -/
def PIE (X : Cx) (pins : List (Addr × Obj)) (σ : St) (tg : Expr) (R : It → Hp → Prop) (itv : Value) (s2 : Shared) : Prop :=
  ∃ (it : Addr) (fp : List Addr) (tn : Nat → Heap → Prop) (J : It) (H' : Hp), itv = .ref it ∧ Inv X pins σ H' s2 ∧ Turn X.prog X.w X.K tg J fp it tn ∧ tn 0 s2.heap ∧ (∀ b ∈ fp, FpOk X pins H' b) ∧ R J H'
def PI (X : Cx) (tg iter : Expr) (wi : TI) : Prop :=
  ∀ (pins : List (Addr × Obj)) (s : Shared) (σ : St) (H : Hp) (R : It → Hp → Prop), Inv X pins σ H s → wi σ H R →
    wpAny (model X.prog X.w) X.A (eval iter X.env) (fun v s1 => wpAny (model X.prog X.w) X.A (pyIter v) (PIE X pins σ tg R) X.xe s1) X.xe s

/-- the step ahead of the store is nothing for an iterator that keeps no tuple -/
theorem go_of {M : Model} {A : Around} {E : Value → Shared → Prop} {s : Shared} {tg : Expr} {it : Addr} {u : Value} {o : Obj} {n : String} {vs : Array Value} {Q : Unit → Shared → Prop} (ho : s.heap.get? it = some o) (hc : o.cls = .type n) (hd : o.data = .fields vs)
    (hn : ["enumerate", "zip", "dict_itemiterator", "dict_reverseitemiterator", "odict_iterator", "itertools.zip_longest", "itertools.pairwise"].contains n = false) (hQ : Q () s) : wpAny M A (letOwnedTupleGo tg (.ref it) u) Q E s := by
  unfold letOwnedTupleGo
  cases tg <;> first
    | exact wpAny_pure hQ
    | (cases u <;> first
        | exact wpAny_pure hQ
        | (refine wpAny_bind (wpAny_load ho ?_)
           rw [hc, hd]
           show wpAny M A (if (["enumerate", "zip", "dict_itemiterator", "dict_reverseitemiterator", "odict_iterator", "itertools.zip_longest", "itertools.pairwise"].contains n && vs[0]? == some (rawInt _)) = true then _ else _) Q E s
           rw [if_neg (by intro h; rw [hn, Bool.false_and] at h; cases h)]
           exact wpAny_pure hQ))

/-- the list at a, as it stands at each turn (a loop may append to it) -/
def Itl (K : PySem.W.Frag) (a : Addr) : It :=
  ⟨fun i H => ∃ xs x, SqL K H a xs ∧ xs[i]? = some x, fun i H x H' => H' = H ∧ ∀ xs, SqL K H a xs → xs[i]? = some x, fun i H => ∃ xs, SqL K H a xs ∧ xs.length ≤ i⟩
def Itt (K : PySem.W.Frag) (a : Addr) : It :=
  ⟨fun i H => ∃ xs x, SqT K H a xs ∧ xs[i]? = some x, fun i H x H' => H' = H ∧ ∀ xs, SqT K H a xs → xs[i]? = some x, fun i H => ∃ xs, SqT K H a xs ∧ xs.length ≤ i⟩
/-- lo, lo + 1, .. (n of them) -/
def Itr (lo : Int) (n : Nat) : It := ⟨fun i _ => i < n, fun i H x H' => H' = H ∧ x = .int (lo + i), fun i _ => n ≤ i⟩
theorem turn_tuple {P : Program} {w : World} {K : PySem.W.Frag} {tg : Expr} (a it : Addr) : Turn P w K tg (Itt K a) [it] it (fun i h => h.IsTupleIter it a i) where
  mem := by simp
  obj := fun i h st b hb => by
    have e : b = it := by simpa using hb
    subst e
    obtain ⟨o, e, c, d⟩ := st
    exact ⟨o, e, fun v z => by rw [d] at z; cases z⟩
  keep := fun i h h' st k => st.at fun o e => k it (by simp) o e
  item := by
    intro X hP hw hK hc i pins s σ H E I hf st hg
    subst hP hw hK
    obtain ⟨xs, x, hq, hx⟩ := hg
    obtain ⟨its, rv, p, hz⟩ := I.tuple hq
    obtain ⟨u, hu, ru⟩ := rv.get hx
    obtain ⟨f0, f1, f2, f3, f4, f5⟩ := hf it (by simp)
    refine wpAny_pyNext_tuple_item st (show s.heap.IsTuple a its.toArray from p) (x := u) (by simpa using hu) fun h' st' sb => ?_
    have I1 : Inv X pins σ H { s with heap := h' } := I.turned (t' := s.toks) (fun b o hb e => (sb.2 b hb).trans e) f0 f1 f3 f4 f5
    obtain ⟨o, e, c, d⟩ := id st'
    exact ⟨u, rfl, go_of (s := { s with heap := h' }) e c d (by decide) ⟨x, H, I1, ru, ⟨rfl, fun ys hy => by rw [I.tuple_inj hy hq]; exact hx⟩, st', fun b hb => (hf b hb).1⟩⟩
  done := by
    intro X hP hw hK hc i pins s σ H E I hf st hg
    subst hP hw hK
    obtain ⟨xs, hq, hx⟩ := hg
    obtain ⟨its, rv, p, hz⟩ := I.tuple hq
    obtain ⟨f0, f1, f2, f3, f4, f5⟩ := hf it (by simp)
    have hl := rv.length
    exact wpAny_pyNext_tuple_end (I.ok.hd hc) st (show s.heap.IsTuple a its.toArray from p) (by simp; omega) fun h' eb => ⟨rfl, I.turned (t' := s.toks) (fun b o hb e => eb b o hb e) f0 f1 f3 f4 f5⟩
  self := fun _ _ _ _ _ st h => wpAny_pyIter_tupleiter st h
theorem turn_range {P : Program} {w : World} {K : PySem.W.Frag} {tg : Expr} (it : Addr) (lo : Int) (n : Nat) : Turn P w K tg (Itr lo n) [it] it (fun i h => IsRangeIter h it (lo + (i : Nat) * 1) ((n : Int) - (i : Nat)) 1) where
  mem := by simp
  obj := fun i h st b hb => by
    have e : b = it := by simpa using hb
    subst e
    exact ⟨_, st, fun v z => by
      have z' : Data.fields _ = Data.cell v := z
      cases z'⟩
  keep := fun i h h' st k => k it (by simp) _ st
  item := by
    intro X hP hw hK hc i pins s σ H E I hf st hg
    subst hP hw hK
    obtain ⟨f0, f1, f2, f3, f4, f5⟩ := hf it (by simp)
    have W := Walks.range (prog := X.prog) (w := X.w) (I.ok.hd hc) it lo 1 n
    refine W.item i s _ _ hg st fun v h' tk hv st' kk => ?_
    obtain ⟨t, rfl⟩ := hv
    have I1 : Inv X pins σ H { s with heap := h', toks := tk } := I.turned (fun b o hb e => kk b o (by simpa using hb) e) f0 f1 f3 f4 f5
    refine ⟨_, rfl, go_of (s := { s with heap := h', toks := tk }) (n := "range_iterator") st' rfl rfl (by decide) ⟨.int (lo + i), H, I1, ⟨t, ?_⟩, ⟨rfl, rfl⟩, st', fun b hb => (hf b hb).1⟩⟩
    rw [Int.mul_one]
  done := by
    intro X hP hw hK hc i pins s σ H E I hf st hg
    subst hP hw hK
    obtain ⟨f0, f1, f2, f3, f4, f5⟩ := hf it (by simp)
    exact wpAny_pyNext_range_end (I.ok.hd hc) st (by have : n ≤ i := hg; omega) fun h' eb => ⟨rfl, I.turned (t' := s.toks) (fun b o hb e => eb b o hb e) f0 f1 f3 f4 f5⟩
  self := fun _ _ _ _ _ st h => wpAny_pyIter_rangeiter st h
end L2

namespace L2
open PySem PySem.Spec PyProof.Rows
section
variable {X : Cx} {tg : Expr}
def iList (K : PySem.W.Frag) (tl : TE) : TI := fun σ H R => tl σ H fun x H1 => ∃ a, x = .ref a ∧ (∃ xs, SqL K H1 a xs) ∧ R (Itl K a) H1
def iTup (K : PySem.W.Frag) (tl : TE) : TI := fun σ H R => tl σ H fun x H1 => ∃ a, x = .ref a ∧ (∃ xs, SqT K H1 a xs) ∧ R (Itt K a) H1
theorem pi_tup {l : Expr} {tl : TE} (hl : PE X l tl) : PI X tg l (iTup X.K tl) := by
  intro pins s σ H R I h
  refine thn (hl pins s σ H _ I h) fun v s1 ⟨x, H1, I1, r1, q1⟩ => ?_
  obtain ⟨a, e, ⟨xs, hq⟩, q⟩ := q1
  subst e
  cases r1
  obtain ⟨its, rv, p, hz⟩ := I1.tuple hq
  refine wpAny_pyIter_tuple (show s1.heap.IsTuple a its.toArray from p) ?_
  refine ⟨s1.heap.objs.size, [s1.heap.objs.size], _, _, H1, rfl, I1.kept (t' := s1.toks) fun b o e => Heap.get?_push_of_some _ e, turn_tuple a _, ⟨_, Heap.get?_push_size _ rfl, rfl, rfl⟩, fun b hb => ?_, q⟩
  have e : b = s1.heap.objs.size := by simpa using hb
  subst e
  exact I1.fpOk (Nat.le_refl _) (I1.hok.fresh (Nat.le_refl _))
/-- a range object just made, walked -/
theorem range_it {pins : List (Addr × Obj)} {σ : St} {H : Hp} {s : Shared} {R : It → Hp → Prop} {E : Value → Shared → Prop} {lo hi : Int} {t u v : Tok} {tk : Nat} (I : Inv X pins σ H s) (h1 : -(2 ^ 62) ≤ lo) (h2 : lo < 2 ^ 62) (h3 : -(2 ^ 62) ≤ hi) (h4 : hi < 2 ^ 62)
    (q : R (Itr lo (hi - lo).toNat) H) : wpAny (model X.prog X.w) X.A (pyIter (.ref s.heap.objs.size)) (PIE X pins σ tg R) E { s with heap := s.heap.push { cls := .type "range", data := .fields #[.int lo t, .int hi u, .int 1 v] }, toks := tk } := by
  refine wpAny_pyIter_range (IsRange.new ..) (small_one h1 h2 h3 h4) ?_
  have I1 : Inv X pins σ H { s with heap := s.heap.push { cls := .type "range", data := .fields #[.int lo t, .int hi u, .int 1 v] }, toks := tk } := I.kept fun b o e => Heap.get?_push_of_some _ e
  refine ⟨(s.heap.push { cls := .type "range", data := .fields #[.int lo t, .int hi u, .int 1 v] }).objs.size, [(s.heap.push { cls := .type "range", data := .fields #[.int lo t, .int hi u, .int 1 v] }).objs.size], _, _, H, rfl,
    I1.kept (t' := tk) fun b o e => Heap.get?_push_of_some _ e, turn_range _ lo (hi - lo).toNat, ?_, fun b hb => ?_, q⟩
  · have e1 : lo + ((0 : Nat) : Int) * 1 = lo := by simp
    have e2 : (((hi - lo).toNat : Nat) : Int) - ((0 : Nat) : Int) = Builtin.Range.rangeSize lo hi 1 := by rw [rangeSize_one]; split <;> omega
    show IsRangeIter _ _ (lo + ((0 : Nat) : Int) * 1) ((((hi - lo).toNat : Nat) : Int) - ((0 : Nat) : Int)) 1
    rw [e1, e2]
    exact Heap.get?_push_size _ rfl
  · have e : b = (s.heap.push { cls := .type "range", data := .fields #[.int lo t, .int hi u, .int 1 v] }).objs.size := by simpa using hb
    subst e
    exact I1.fpOk (Nat.le_refl _) (I1.hok.fresh (Nat.le_refl _))
def iRng1 (ta : TA) : TI := fun σ H R => ta σ H fun vs H1 => ∃ j : Int, vs = [.int j] ∧ -(2 ^ 62) ≤ j ∧ j < 2 ^ 62 ∧ R (Itr 0 j.toNat) H1
def iRng2 (ta : TA) : TI := fun σ H R => ta σ H fun vs H1 => ∃ i j : Int, vs = [.int i, .int j] ∧ (-(2 ^ 62) ≤ i ∧ i < 2 ^ 62 ∧ -(2 ^ 62) ≤ j ∧ j < 2 ^ 62) ∧ R (Itr i (j - i).toNat) H1
theorem pi_range1 {a : Expr} {ta : TA} {p pos : Pos} (hg : Gl X "range") (hm : X.mg "range" = none) (ha : PA X [a] ta) (hs : starEach [a] X.env = [(false, eval a X.env)] := by rfl) : PI X tg (.Call (.Name "range" p) [a] [] pos) (iRng1 ta) := by
  intro pins s σ H R I h
  refine Call_ (ld_blt I hg hm boot_range (PyProof.Rows.callWith_type1 (thn (ha pos pins s σ H _ I h) fun us s1 ⟨vs, H1, I1, r1, q1⟩ => ?_) hs rfl))
  obtain ⟨j, e, q1, q2, q⟩ := q1
  subst e
  cases r1 with
  | cons r rr =>
    cases rr
    obtain ⟨t, rfl⟩ := r
    exact call_range_1 (range_it I1 (by omega) (by omega) q1 q2 (by simpa using q))
theorem pi_range2 {a b : Expr} {ta : TA} {p pos : Pos} (hg : Gl X "range") (hm : X.mg "range" = none) (ha : PA X [a, b] ta) (hs : starEach [a, b] X.env = [(false, eval a X.env), (false, eval b X.env)] := by rfl) (hs2 : starEach [b] X.env = [(false, eval b X.env)] := by rfl) :
    PI X tg (.Call (.Name "range" p) [a, b] [] pos) (iRng2 ta) := by
  intro pins s σ H R I h
  refine Call_ (ld_blt I hg hm boot_range (PyProof.Rows.callWith_type1 (thn (ha pos pins s σ H _ I h) fun us s1 ⟨vs, H1, I1, r1, q1⟩ => ?_) (by rw [hs, hs2]) (by rw [hs2]; rfl)))
  obtain ⟨i, j, e, ⟨q1, q2, q3, q4⟩, q⟩ := q1
  subst e
  cases r1 with
  | cons r rr =>
    cases rr with
    | cons r' rr =>
      cases rr
      obtain ⟨t, rfl⟩ := r
      obtain ⟨t', rfl⟩ := r'
      exact call_range_2 (range_it I1 q1 q2 q3 q4 q)

/-! ### for -/
/-- W: the invariant by the turn and a measure; N: what the body is to reach -/
def tFor (wi : TI) (g : TG) (tb : TS) : TS := fun D σ H => wi σ H fun J H1 => ∃ W : Nat → Nat → St → Hp → Prop, (∃ m, W 0 m σ H1) ∧ ∀ i m σ H, W i m σ H →
  (J.stop i H ∧ D.nx σ H) ∨ (J.go i H ∧ ∃ N : St → Hp → Prop, (∀ σ' H', N σ' H' → ∃ m', m' < m ∧ W (i + 1) m' σ' H') ∧ ∀ x H', J.yld i H x H' → g x σ H' fun σ2 H2 => tb { D with nx := N, ct := N, bk := D.nx } σ2 H2)
/-- the records at fp as they stand -/
def pinsAt (fp : List Addr) (h : Heap) : List (Addr × Obj) := fp.filterMap fun b => (h.get? b).map fun o => (b, o)
theorem mem_pinsAt {fp : List Addr} {h : Heap} {b : Addr} {o : Obj} (hb : b ∈ fp) (e : h.get? b = some o) : (b, o) ∈ pinsAt fp h := List.mem_filterMap.mpr ⟨b, hb, by rw [e]; rfl⟩
theorem of_pinsAt {fp : List Addr} {h : Heap} {p : Addr × Obj} (hp : p ∈ pinsAt fp h) : p.1 ∈ fp ∧ h.get? p.1 = some p.2 := by
  obtain ⟨b, hb, e⟩ := List.mem_filterMap.mp hp
  cases q : h.get? b with
  | none => rw [q] at e; cases e
  | some o =>
    rw [q] at e
    have e' : (b, o) = p := Option.some.inj e
    subst e'
    exact ⟨hb, q⟩
theorem Inv.pinned {pins : List (Addr × Obj)} {σ : St} {H : Hp} {s : Shared} {fp : List Addr} (I : Inv X pins σ H s) (hf : ∀ b ∈ fp, FpOk X pins H b) (ho : ∀ b ∈ fp, ∃ o, s.heap.get? b = some o ∧ ∀ v, o.data ≠ .cell v) : Inv X (pins ++ pinsAt fp s.heap) σ H s :=
  I.pins_of fun p hp => (List.mem_append.mp hp).elim (fun z => I.pin p (List.mem_append_right _ z)) fun z => by
    obtain ⟨hb, e⟩ := of_pinsAt z
    obtain ⟨f0, f1, f2, _⟩ := hf p.1 hb
    obtain ⟨o, e', d⟩ := ho p.1 hb
    rw [e] at e'; cases e'
    exact ⟨e, f0, f1, f2, d⟩
theorem Inv.unpinned {pins pl : List (Addr × Obj)} {σ : St} {H : Hp} {s : Shared} (I : Inv X (pins ++ pl) σ H s) : Inv X pins σ H s := I.pins_of fun p hp => I.pin p (List.mem_append_right _ (List.mem_append_left _ hp))
theorem ps_for {iter : Expr} {body : List Stmt} {wi : TI} {g : TG} {tb : TS} {pos : Pos} (hp : PassesOwn (model X.prog X.w) X.A X.env X.xe) (hc : X.calm = true) (hi : PI X tg iter wi) (hg : PG X tg g) (hb : PSs X body tb)
    (hs : ∀ x, foldedSetIterable iter X.env x = pure x := by intro _; rfl) : PS X (.For tg iter body [] pos) (tFor wi g tb) := by
  intro pins s σ H D I h
  refine wpAny_For (thn (hi pins s σ H _ I h) fun v s1 h1 => thn h1 fun itv s2 h2 => ?_) hs
  obtain ⟨it, fp, tn, J, H2, e, I2, T, st2, f2, W, ⟨m0, w0⟩, turn⟩ := h2
  subst e
  -- what stays true of the iterator's objects through the loop
  have stat : ∀ {H' : Hp}, (∀ b ∈ fp, H' b = none) → ∀ b ∈ fp, FpOk X pins H' b := fun hn b hb => ⟨hn b hb, (f2 b hb).2⟩
  refine codeAny_forLoop_any (fun n s' => ∃ i σ' H', Inv X pins σ' H' s' ∧ tn i s'.heap ∧ (∀ b ∈ fp, H' b = none) ∧ W i n σ' H') ?_ m0 ⟨0, σ, H2, I2, st2, fun b hb => (f2 b hb).1, w0⟩
  rintro n s3 ⟨i, σ3, H3, I3, st3, fr3, w3⟩
  rcases turn i n σ3 H3 w3 with ⟨stop, qn⟩ | ⟨go, N, hN, step⟩
  · refine wpAny_passesOwn hp (thn (T.done X rfl rfl rfl hc i pins s3 σ3 H3 X.xe I3 (stat fr3) st3 stop) fun r s4 ⟨hr, I4⟩ => ?_)
    subst hr
    exact wpAny_execs_nil ⟨σ3, H3, I4, qn⟩
  · refine wpAny_passesOwn hp (thn (T.item X rfl rfl rfl hc i pins s3 σ3 H3 X.xe I3 (stat fr3) st3 go) fun r s4 ⟨u, hr, h4⟩ => ?_)
    subst hr
    refine wpAny_passesOwn hp (thn h4 fun _ s5 ⟨x, H5, I5, r5, y5, st5, fr5⟩ => ?_)
    have I5' := I5.pinned (stat fr5) (T.obj _ _ st5)
    refine wpAny_passesOwn hp (thn (hg _ s5 σ3 H5 x u _ I5' r5 (step x H5 y5)) fun _ s6 ⟨σ6, H6, I6, q6⟩ => ?_)
    refine wpAny_passesOwn hp (thn (hb _ s6 σ6 H6 _ I6 q6) fun f s7 q7 => ?_)
    have again : ∀ {σ7 : St} {H7 : Hp}, Inv X (pins ++ pinsAt fp s5.heap) σ7 H7 s7 → N σ7 H7 → ∃ m, m < n ∧ ∃ i σ' H', Inv X pins σ' H' s7 ∧ tn i s7.heap ∧ (∀ b ∈ fp, H' b = none) ∧ W i m σ' H' := fun {σ7 H7} I7 n7 => by
      obtain ⟨m', hm, w7⟩ := hN σ7 H7 n7
      refine ⟨m', hm, i + 1, σ7, H7, I7.unpinned, T.keep _ _ _ st5 fun b hb o e => (I7.pin (b, o) (List.mem_append_right _ (List.mem_append_right _ (mem_pinsAt hb e)))).1, fun b hb => ?_, w7⟩
      obtain ⟨o, e, d⟩ := T.obj _ _ st5 b hb
      exact (I7.pin (b, o) (List.mem_append_right _ (List.mem_append_right _ (mem_pinsAt hb e)))).2.1
    cases f with
    | next => obtain ⟨σ7, H7, I7, n7⟩ := q7; exact again I7 n7
    | cont => obtain ⟨σ7, H7, I7, n7⟩ := q7; exact again I7 n7
    | brk => obtain ⟨σ7, H7, I7, q7⟩ := q7; exact ⟨σ7, H7, I7.unpinned, q7⟩
    | ret v => obtain ⟨x7, σ7, H7, I7, r7, q7⟩ := q7; exact ⟨x7, σ7, H7, I7.unpinned, r7, q7⟩
end

/-! ### the forms one uses -/
end L2

namespace L2
open PySem PySem.Spec PyProof.Rows

abbrev R2 := V → V → Hp → VK → Prop
/-- a two-place operation on values: f is binaryOp op, inplaceOp op or compareOp op -/
def OpR (X : Cx) (f : Value → Value → Sem Value) (r : R2) : Prop :=
  ∀ (pins : List (Addr × Obj)) (s : Shared) (σ : St) (H : Hp) (x y : V) (v u : Value) (Q : VK), Inv X pins σ H s → RelV x v → RelV y u → r x y H Q →
    wpAny (model X.prog X.w) X.A (f v u) (EP X pins σ Q) X.xe s
/-- a one-place operation -/
def UnR (X : Cx) (f : Value → Sem Value) (r : V → Hp → VK → Prop) : Prop :=
  ∀ (pins : List (Addr × Obj)) (s : Shared) (σ : St) (H : Hp) (x : V) (v : Value) (Q : VK), Inv X pins σ H s → RelV x v → r x H Q →
    wpAny (model X.prog X.w) X.A (f v) (EP X pins σ Q) X.xe s
/-- a call of a value that is known (a builtin, a type) with values -/
def CallR (X : Cx) (f : Value) (r : List V → Hp → VK → Prop) : Prop :=
  ∀ (pins : List (Addr × Obj)) (s : Shared) (σ : St) (H : Hp) (xs : List V) (us : List Value) (Q : VK), Inv X pins σ H s → Vals xs us → r xs H Q →
    wpAny (model X.prog X.w) X.A (call f us) (EP X pins σ Q) X.xe s
/-- a value's truth -/
def TruR (X : Cx) (r : V → Hp → (Bool → Hp → Prop) → Prop) : Prop :=
  ∀ (pins : List (Addr × Obj)) (s : Shared) (σ : St) (H : Hp) (x : V) (v : Value) (Q : Bool → Hp → Prop), Inv X pins σ H s → RelV x v → r x H Q →
    wpAny (model X.prog X.w) X.A (truthy v) (TP X pins σ Q) X.xe s

def tOp (r : R2) (ta tb : TE) : TE := fun σ H Q => ta σ H fun x H1 => tb σ H1 fun y H2 => r x y H2 Q
def tUn (r : V → Hp → VK → Prop) (ta : TE) : TE := fun σ H Q => ta σ H fun x H1 => r x H1 Q
/-- ints in, under C, and a value out -/
def rI (C : Int → Int → Prop) (g : Int → Int → V) : R2 := fun x y H Q => ∃ i j, x = .int i ∧ y = .int j ∧ C i j ∧ Q (g i j) H
def rI0 (g : Int → Int → V) : R2 := fun x y H Q => ∃ i j, x = .int i ∧ y = .int j ∧ Q (g i j) H
def rU (g : Int → V) : V → Hp → VK → Prop := fun x H Q => ∃ i, x = .int i ∧ Q (g i) H

section
variable {X : Cx} {a b c : Expr} {ta tb tc : TE} {pos : Pos}

theorem binT (ha : PE X a ta) (hb : PE X b tb) {pins : List (Addr × Obj)} {s : Shared} {σ : St} {H : Hp} {R : V → V → Hp → Prop} (I : Inv X pins σ H s)
    (h : ta σ H fun x H1 => tb σ H1 fun y H2 => R x y H2) {Q : Value → Shared → Prop} {f : Value → Value → Sem Value}
    (hf : ∀ v u s2 x y H2, Inv X pins σ H2 s2 → RelV x v → RelV y u → R x y H2 → wpAny (model X.prog X.w) X.A (f v u) Q X.xe s2) :
    wpAny (model X.prog X.w) X.A (eval a X.env) (fun v s₁ => wpAny (model X.prog X.w) X.A (eval b X.env) (fun u s₂ => wpAny (model X.prog X.w) X.A (f v u) Q X.xe s₂) X.xe s₁) X.xe s := by
  refine thn (ha pins s σ H _ I h) fun v s1 ⟨x, H1, I1, r1, q1⟩ => ?_
  refine thn (hb pins s1 σ H1 _ I1 q1) fun u s2 ⟨y, H2, I2, r2, q2⟩ => ?_
  exact hf v u s2 x y H2 I2 r1 r2 q2

theorem pe_op {op : Operator} {r : R2} (ho : OpR X (binaryOp op) r) (ha : PE X a ta) (hb : PE X b tb) : PE X (.BinOp a op b pos) (tOp r ta tb) := by
  intro pins s σ H Q I h
  exact wpAny_BinOp (binT ha hb I h fun v u s2 x y H2 I2 rx ry q => ho pins s2 σ H2 x y v u Q I2 rx ry q)
theorem pe_un {op : UnaryOp} {r : V → Hp → VK → Prop} (ho : UnR X (unaryOp op) r) (ha : PE X a ta) : PE X (.UnaryOp op a pos) (tUn r ta) := by
  intro pins s σ H Q I h
  exact UnaryOp_ (thn (ha pins s σ H _ I h) fun v s1 ⟨x, H1, I1, r1, q1⟩ => ho pins s1 σ H1 x v Q I1 r1 q1)
/-! ### ints -/
theorem opI {f : Value → Value → Sem Value} {C : Int → Int → Prop} {g : Int → Int → Int}
    (rule : ∀ (i j : Int) (t u : Tok) (s : Shared) (Q : Value → Shared → Prop) (E : Value → Shared → Prop), C i j → Q (.int (g i j) s.toks) { s with toks := s.toks + 1 } → wpAny (model X.prog X.w) X.A (f (.int i t) (.int j u)) Q E s) :
    OpR X f (rI C fun i j => .int (g i j)) := by
  intro pins s σ H x y v u Q I rx ry h
  obtain ⟨i, j, rfl, rfl, hc, q⟩ := h
  obtain ⟨t, rfl⟩ := rx
  obtain ⟨t', rfl⟩ := ry
  exact rule i j t t' s _ _ hc ⟨.int (g i j), H, I.tok _, ⟨_, rfl⟩, q⟩
theorem opI0 {f : Value → Value → Sem Value} {g : Int → Int → Int}
    (rule : ∀ (i j : Int) (t u : Tok) (s : Shared) (Q : Value → Shared → Prop) (E : Value → Shared → Prop), Q (.int (g i j) s.toks) { s with toks := s.toks + 1 } → wpAny (model X.prog X.w) X.A (f (.int i t) (.int j u)) Q E s) :
    OpR X f (rI0 fun i j => .int (g i j)) := by
  intro pins s σ H x y v u Q I rx ry h
  obtain ⟨i, j, rfl, rfl, q⟩ := h
  obtain ⟨t, rfl⟩ := rx
  obtain ⟨t', rfl⟩ := ry
  exact rule i j t t' s _ _ ⟨.int (g i j), H, I.tok _, ⟨_, rfl⟩, q⟩
theorem opB0 {f : Value → Value → Sem Value} {g : Int → Int → Bool}
    (rule : ∀ (i j : Int) (t u : Tok) (s : Shared) (Q : Value → Shared → Prop) (E : Value → Shared → Prop), Q (.bool (g i j)) s → wpAny (model X.prog X.w) X.A (f (.int i t) (.int j u)) Q E s) :
    OpR X f (rI0 fun i j => .bl (g i j)) := by
  intro pins s σ H x y v u Q I rx ry h
  obtain ⟨i, j, rfl, rfl, q⟩ := h
  obtain ⟨t, rfl⟩ := rx
  obtain ⟨t', rfl⟩ := ry
  exact rule i j t t' s _ _ ⟨.bl (g i j), H, I, rfl, q⟩

def CDiv (i j : Int) : Prop := 0 < j ∧ j < 1073741824
def CDivN (i j : Int) : Prop := j ≠ 0 ∧ j.natAbs < 1073741824
def CPow (i j : Int) : Prop := 0 ≤ j ∧ j ≤ 1000000 ∧ i.natAbs < 2 ^ 64
def CMul (i j : Int) : Prop := (-(2 ^ 64) < i ∧ i < 2 ^ 64) ∨ (-(2 ^ 64) < j ∧ j < 2 ^ 64)
theorem CMul.ok {i j : Int} (h : CMul i j) : IntMulOk i j := by
  rcases h with ⟨h1, h2⟩ | ⟨h1, h2⟩
  · exact .of_left (intBits_le_64 h1 h2)
  · exact .of_right (intBits_le_64 h1 h2)
theorem op_add : OpR X (binaryOp .Add) (rI0 fun i j => .int (i + j)) := opI0 fun _ _ _ _ _ _ _ q => add_int q
theorem op_sub : OpR X (binaryOp .Sub) (rI0 fun i j => .int (i - j)) := opI0 fun _ _ _ _ _ _ _ q => sub_int q
/-- % by a positive divisor of any size -/
theorem op_mod : OpR X (binaryOp .Mod) (rI (fun _ j => 0 < j) fun i j => .int (i % j)) := opI fun i j _ _ _ _ _ hc q => by
  have h1 : (0 : Int) < j := hc
  exact mod_int' (by omega) (by rw [Int.fmod_eq_emod_of_nonneg i (by omega)]; exact q)
theorem op_modN : OpR X (binaryOp .Mod) (rI (fun _ j => j ≠ 0) fun i j => .int (i.fmod j)) := opI fun _ _ _ _ _ _ _ hc q => mod_int' hc q
theorem unI {f : Value → Sem Value} {g : Int → Int}
    (rule : ∀ (i : Int) (t : Tok) (s : Shared) (Q : Value → Shared → Prop) (E : Value → Shared → Prop), Q (.int (g i) s.toks) { s with toks := s.toks + 1 } → wpAny (model X.prog X.w) X.A (f (.int i t)) Q E s) :
    UnR X f (rU fun i => .int (g i)) := by
  intro pins s σ H x v Q I rx h
  obtain ⟨i, rfl, q⟩ := h
  obtain ⟨t, rfl⟩ := rx
  exact rule i t s _ _ ⟨.int (g i), H, I.tok _, ⟨_, rfl⟩, q⟩
theorem un_neg : UnR X (unaryOp .USub) (rU fun i => .int (-i)) := unI fun _ _ _ _ _ q => neg_int q
/-! ### bools among ints: n += (a < b) -/
end

/-! ### comparisons -/
/-- the scalars that == tells apart as data does -/
def scal : V → V → Bool
  | .non, .non => true | .non, .int _ => true | .int _, .non => true | .non, .bl _ => true | .bl _, .non => true | .non, .str _ => true | .str _, .non => true
  | .int _, .int _ => true | .bl _, .bl _ => true | .str _, .str _ => true | .byt _, .byt _ => true
  | .int _, .str _ => true | .str _, .int _ => true | .bl _, .str _ => true | .str _, .bl _ => true
  | _, _ => false
def rEq : R2 := fun x y H Q => scal x y = true ∧ Q (.bl (decide (x = y))) H
def rNe : R2 := fun x y H Q => scal x y = true ∧ Q (.bl (!decide (x = y))) H

theorem dec_int {i j : Int} : decide (V.int i = V.int j) = (i == j) := by
  rw [Bool.eq_iff_iff]
  simp
theorem dec_bl {i j : Bool} : decide (V.bl i = V.bl j) = (i == j) := by
  rw [Bool.eq_iff_iff]
  simp
theorem dec_str {i j : Str} : decide (V.str i = V.str j) = (i == j) := by
  rw [Bool.eq_iff_iff]
  simp
theorem dec_byt {i j : Array UInt8} : decide (V.byt i = V.byt j) = (i.toList == j.toList) := by
  rw [Bool.eq_iff_iff]
  cases i
  cases j
  simp

section
variable {X : Cx} {a b c : Expr} {ta tb tc : TE} {pos : Pos}
theorem fin_bl {pins : List (Addr × Obj)} {σ : St} {H : Hp} {s : Shared} {Q : VK} {k k' : Bool} (I : Inv X pins σ H s) (q : Q (.bl k) H) (e : k = k') : EP X pins σ Q (.bool k') s := by
  subst e
  exact ⟨.bl k, H, I, rfl, q⟩
theorem op_eq : OpR X (compareOp .Eq) rEq := by
  intro pins s σ H x y v u Q I rx ry h
  obtain ⟨hs, q⟩ := h
  cases x with
  | non =>
    cases rx
    cases y with
    | non => cases ry; exact PySem.EqNone.eq_none_none (fin_bl I q (by simp))
    | bl j => cases ry; exact PySem.EqNone.eq_none_bool (fin_bl I q (by simp))
    | int j => obtain ⟨t', rfl⟩ := ry; exact PySem.EqNone.eq_none_int (fin_bl I q (by simp))
    | str j => obtain ⟨t', rfl⟩ := ry; exact PySem.EqNone.eq_none_str (fin_bl I q (by simp))
    | _ => exact absurd (show false = true from hs) Bool.false_ne_true
  | bl i =>
    cases rx
    cases y with
    | non => cases ry; exact PySem.EqNone.eq_bool_none (fin_bl I q (by simp))
    | bl j => cases ry; exact eq_bool (fin_bl I q dec_bl)
    | str j => obtain ⟨t', rfl⟩ := ry; exact PySem.EqMixed.eq_bool_str (fin_bl I q (by simp))
    | _ => exact absurd (show false = true from hs) Bool.false_ne_true
  | int i =>
    obtain ⟨t, rfl⟩ := rx
    cases y with
    | non => cases ry; exact PySem.EqNone.eq_int_none (fin_bl I q (by simp))
    | int j => obtain ⟨t', rfl⟩ := ry; exact eq_int (fin_bl I q dec_int)
    | str j => obtain ⟨t', rfl⟩ := ry; exact PySem.EqMixed.eq_int_str (fin_bl I q (by simp))
    | _ => exact absurd (show false = true from hs) Bool.false_ne_true
  | str i =>
    obtain ⟨t, rfl⟩ := rx
    cases y with
    | non => cases ry; exact PySem.EqNone.eq_str_none (fin_bl I q (by simp))
    | bl j => cases ry; exact PySem.EqMixed.eq_str_bool (fin_bl I q (by simp))
    | int j => obtain ⟨t', rfl⟩ := ry; exact PySem.EqMixed.eq_str_int (fin_bl I q (by simp))
    | str j => obtain ⟨t', rfl⟩ := ry; exact eq_str (fin_bl I q dec_str)
    | _ => exact absurd (show false = true from hs) Bool.false_ne_true
  | byt i =>
    obtain ⟨t, rfl⟩ := rx
    cases y with
    | byt j => obtain ⟨t', rfl⟩ := ry; exact PySem.W.eq_bytes (fin_bl I q dec_byt)
    | _ => exact absurd (show false = true from hs) Bool.false_ne_true
  | _ => cases y <;> exact absurd (show false = true from hs) Bool.false_ne_true
theorem op_ne : OpR X (compareOp .NotEq) rNe := by
  intro pins s σ H x y v u Q I rx ry h
  obtain ⟨hs, q⟩ := h
  cases x with
  | non =>
    cases rx
    cases y with
    | non => cases ry; exact PySem.EqNone.ne_none_none (fin_bl I q (by simp))
    | bl j => cases ry; exact PySem.EqNone.ne_none_bool (fin_bl I q (by simp))
    | int j => obtain ⟨t', rfl⟩ := ry; exact PySem.EqNone.ne_none_int (fin_bl I q (by simp))
    | str j => obtain ⟨t', rfl⟩ := ry; exact PySem.EqNone.ne_none_str (fin_bl I q (by simp))
    | _ => exact absurd (show false = true from hs) Bool.false_ne_true
  | bl i =>
    cases rx
    cases y with
    | non => cases ry; exact PySem.EqNone.ne_bool_none (fin_bl I q (by simp))
    | bl j => cases ry; exact ne_bool (fin_bl I q (congrArg not dec_bl))
    | str j => obtain ⟨t', rfl⟩ := ry; exact PySem.EqMixed.ne_bool_str (fin_bl I q (by simp))
    | _ => exact absurd (show false = true from hs) Bool.false_ne_true
  | int i =>
    obtain ⟨t, rfl⟩ := rx
    cases y with
    | non => cases ry; exact PySem.EqNone.ne_int_none (fin_bl I q (by simp))
    | int j => obtain ⟨t', rfl⟩ := ry; exact ne_int (fin_bl I q (congrArg not dec_int))
    | str j => obtain ⟨t', rfl⟩ := ry; exact PySem.EqMixed.ne_int_str (fin_bl I q (by simp))
    | _ => exact absurd (show false = true from hs) Bool.false_ne_true
  | str i =>
    obtain ⟨t, rfl⟩ := rx
    cases y with
    | non => cases ry; exact PySem.EqNone.ne_str_none (fin_bl I q (by simp))
    | bl j => cases ry; exact PySem.EqMixed.ne_str_bool (fin_bl I q (by simp))
    | int j => obtain ⟨t', rfl⟩ := ry; exact PySem.EqMixed.ne_str_int (fin_bl I q (by simp))
    | str j => obtain ⟨t', rfl⟩ := ry; exact ne_str (fin_bl I q (congrArg not dec_str))
    | _ => exact absurd (show false = true from hs) Bool.false_ne_true
  | byt i =>
    obtain ⟨t, rfl⟩ := rx
    cases y with
    | byt j => obtain ⟨t', rfl⟩ := ry; exact PySem.W.ne_bytes (fin_bl I q (congrArg not dec_byt))
    | _ => exact absurd (show false = true from hs) Bool.false_ne_true
  | _ => cases y <;> exact absurd (show false = true from hs) Bool.false_ne_true

theorem op_lt : OpR X (compareOp .Lt) (rI0 fun i j => .bl (decide (i < j))) := opB0 fun _ _ _ _ _ _ _ q => lt_int q
theorem op_le : OpR X (compareOp .LtE) (rI0 fun i j => .bl (decide (i ≤ j))) := opB0 fun _ _ _ _ _ _ _ q => le_int q
theorem op_gt : OpR X (compareOp .Gt) (rI0 fun i j => .bl (decide (j < i))) := opB0 fun _ _ _ _ _ _ _ q => gt_int q
/-- is, is not of two objects that are tracked lists or instances -/
def isObj : HO → Bool
  | .lst _ => true
  | .ins _ _ _ => true
  | _ => false
/-- two rules for one operation: by cases -/
theorem OpR.or {f : Value → Value → Sem Value} {r r' : R2} (h : OpR X f r) (h' : OpR X f r') : OpR X f (fun x y H Q => r x y H Q ∨ r' x y H Q) := by
  intro pins s σ H x y v u Q I rx ry q
  rcases q with q | q
  · exact h pins s σ H x y v u Q I rx ry q
  · exact h' pins s σ H x y v u Q I rx ry q

theorem nomark (b : Expr) {op : CmpOp} (h : op ≠ .In := by decide) (h2 : op ≠ .NotIn := by decide) : behindInMarks op b = false := by
  have e1 : (op == CmpOp.In) = false := by cases op <;> first | rfl | exact absurd rfl h
  have e2 : (op == CmpOp.NotIn) = false := by cases op <;> first | rfl | exact absurd rfl h2
  cases b <;> simp [behindInMarks, e1, e2]
/-- a comparison as a value; hm: nomark b, or (for in, not in) by with_unfolding_all rfl -/
theorem pe_cmpR {op : CmpOp} {r : R2} (ho : OpR X (compareOp op) r) (ha : PE X a ta) (hb : PE X b tb) (hm : behindInMarks op b = false) : PE X (.Compare a [op] [b] pos) (tOp r ta tb) := by
  intro pins s σ H Q I h
  exact wpAny_Compare1 (binT ha hb I h fun v u s2 x y H2 I2 rx ry q => ho pins s2 σ H2 x y v u Q I2 rx ry q) hm
/-- a reading of a value as a test -/
def tTest (t : TE) : TT := fun σ H Q => t σ H fun x H' => ∃ k, x = .bl k ∧ Q k H'
theorem pt_cmpR {op : CmpOp} {r : R2} (ho : OpR X (compareOp op) r) (ha : PE X a ta) (hb : PE X b tb) (hm : behindInMarks op b = false) : PT X (.Compare a [op] [b] pos) (tTest (tOp r ta tb)) := by
  intro pins s σ H Q I h
  refine wpAny_isTrue_Compare1 (thn (ha pins s σ H _ I h) fun v s1 ⟨x, H1, I1, r1, q1⟩ => thn (hb pins s1 σ H1 _ I1 q1) fun u s2 ⟨y, H2, I2, r2, q2⟩ =>
    thn (ho pins s2 σ H2 x y v u _ I2 r1 r2 q2) fun c s3 ⟨z, H3, I3, r3, k, e, q3⟩ => ?_) hm
  subst e
  cases r3
  exact wpAny_truthy_bool ⟨H3, I3, q3⟩
/-- a op1 b op2 c -/
def tChain (r r' : R2) (ta tb tc : TE) : TE := fun σ H Q => ta σ H fun x H1 => tb σ H1 fun y H2 => r x y H2 fun z H3 => ∃ k, z = .bl k ∧
  (if k = true then tc σ H3 fun w' H4 => r' y w' H4 Q else Q (.bl false) H3)
/-! ### truth -/
/-- a value's truth by the abstract heap -/
def TruV (K : PySem.W.Frag) (x : V) (H : Hp) (k : Bool) : Prop :=
  match x with
  | .non => k = false
  | .bl b => k = b
  | .int i => k = (i != 0)
  | .str y => y.length ≤ sizeLine ∧ k = ((y.length : Int) != 0)
  | .byt y => y.size ≤ sizeLine ∧ k = ((y.size : Int) != 0)
  | .ref p => (∃ xs, SqL K H p xs ∧ k = !xs.isEmpty) ∨ (∃ xs, SqT K H p xs ∧ k = !xs.isEmpty) ∨ ∃ kvs, H p = some (.dK kvs) ∧ k = !kvs.isEmpty
  | _ => False
theorem line63 : (sizeLine : Nat) < 2 ^ 63 := by rw [sizeLine_eq]; decide
/-! ### strs and bytes -/
def PlainIxT (b : Expr) : Prop := ∀ o i, subscripted b false o i = operate [o, i] (getItem o i)
/-! ### scalar builtins, by CallR -/
theorem vals1 {x : V} {us : List Value} (r : Vals [x] us) : ∃ u, us = [u] ∧ RelV x u := by
  cases r with
  | cons r1 r2 => cases r2; exact ⟨_, rfl, r1⟩
theorem vals2 {x y : V} {us : List Value} (r : Vals [x, y] us) : ∃ u w', us = [u, w'] ∧ RelV x u ∧ RelV y w' := by
  cases r with
  | cons r1 r2 =>
    cases r2 with
    | cons r3 r4 => cases r4; exact ⟨_, _, rfl, r1, r3⟩
theorem call_abs : CallR X (.builtin "abs") (fun xs H Q => ∃ i, xs = [.int i] ∧ Q (.int (if i < 0 then -i else i)) H) := by
  intro pins s σ H xs us Q I r h
  obtain ⟨i, rfl, q⟩ := h
  obtain ⟨u, rfl, t, rfl⟩ := vals1 r
  exact call_abs_int fun u tk => ⟨.int (if i < 0 then -i else i), H, I.tok _, ⟨_, rfl⟩, q⟩
theorem call_max2 (hc : X.calm = true) : CallR X (.builtin "max") (fun xs H Q => ∃ i j, xs = [.int i, .int j] ∧ Q (.int (if j > i then j else i)) H) := by
  intro pins s σ H xs us Q I r h
  obtain ⟨i, j, rfl, q⟩ := h
  obtain ⟨u, w', rfl, ⟨t, rfl⟩, ⟨t', rfl⟩⟩ := vals2 r
  refine max_two_ints (I.ok.hd hc) fun h' tk k => ⟨_, H, I.kept k, ?_, q⟩
  by_cases hj : j > i
  · rw [if_pos hj, if_pos hj]; exact ⟨_, rfl⟩
  · rw [if_neg hj, if_neg hj]; exact ⟨_, rfl⟩
theorem call_int1 : CallR X (.type "int") (fun xs H Q => (∃ i, xs = [.int i] ∧ Q (.int i) H) ∨ ∃ k, xs = [.bl k] ∧ Q (.int (if k then 1 else 0)) H) := by
  intro pins s σ H xs us Q I r h
  rcases h with ⟨i, rfl, q⟩ | ⟨k, rfl, q⟩
  · obtain ⟨u, rfl, t, rfl⟩ := vals1 r
    exact call_int_int ⟨.int i, H, I, ⟨_, rfl⟩, q⟩
  · obtain ⟨u, rfl, r1⟩ := vals1 r
    cases r1
    exact call_int_bool ⟨.int (if k then 1 else 0), H, I.tok _, ⟨_, rfl⟩, q⟩
/-- len of a str, a bytes, a list, a tuple -/
def LenV (K : PySem.W.Frag) (x : V) (H : Hp) (n : Nat) : Prop :=
  match x with
  | .str y => y.length ≤ sizeLine ∧ n = y.length
  | .byt y => y.size ≤ sizeLine ∧ n = y.size
  | .ref p => (∃ xs, SqL K H p xs ∧ n = xs.length) ∨ ∃ xs, SqT K H p xs ∧ n = xs.length
  | _ => False
theorem call_len : CallR X (.builtin "len") (fun xs H Q => ∃ x n, xs = [x] ∧ LenV X.K x H n ∧ Q (.int n) H) := by
  intro pins s σ H xs us Q I r h
  obtain ⟨x, n, rfl, e, q⟩ := h
  obtain ⟨u, rfl, rx⟩ := vals1 r
  have hl := line63
  have hs : sizeLine = 16777216 := sizeLine_eq
  cases x with
  | str y =>
    obtain ⟨t, rfl⟩ := rx
    obtain ⟨hy, e'⟩ : y.length ≤ sizeLine ∧ n = y.length := e
    subst e'
    exact len_str (by omega) ⟨.int _, H, I.tok _, ⟨_, rfl⟩, q⟩
  | byt y =>
    obtain ⟨t, rfl⟩ := rx
    obtain ⟨hy, e'⟩ : y.size ≤ sizeLine ∧ n = y.size := e
    subst e'
    exact PySem.W.len_bytes (by omega) ⟨.int _, H, I.tok _, ⟨_, rfl⟩, q⟩
  | ref p =>
    cases rx
    have e' : (∃ xs, SqL X.K H p xs ∧ n = xs.length) ∨ ∃ xs, SqT X.K H p xs ∧ n = xs.length := e
    rcases e' with ⟨xs, hx, e'⟩ | ⟨xs, hx, e'⟩
    · subst e'
      obtain ⟨its, r', pl, hz⟩ := I.list hx
      have hlen := r'.length
      exact Calls.call_len_list pl.isList (by simp only [List.size_toArray]; omega) ⟨.int xs.length, H, I.tok _, ⟨_, by simp only [List.size_toArray]; rw [hlen]⟩, q⟩
    · subst e'
      obtain ⟨its, r', pl, hz⟩ := I.tuple hx
      have hlen := r'.length
      exact len_tuple pl (by simp only [List.size_toArray]; omega) ⟨.int xs.length, H, I.tok _, ⟨_, by simp only [List.size_toArray]; rw [hlen]⟩, q⟩
  | _ => exact (show False from e).elim
end
end L2

namespace L2
open PySem PySem.Spec PyProof.Rows

/-! ### an instance, its attributes a map -/
structure ObjM (h : Heap) (x dx C : Addr) (mA : Str → Option Value) : Prop where
  obj : h.get? x = some (PySem.W.instObj C dx)
  ns : h.Ns1 dx mA
  ne : dx ≠ x

theorem lookIn_ns {h : Heap} {dx : Addr} {mA : Str → Option Value} (n : h.Ns1 dx mA) : ∃ od, h.get? dx = some od ∧ ∀ name, PySem.W.lookIn name od = some (mA name) := by
  obtain ⟨o, es, ep, ho, hd, hk, _, hm⟩ := n
  refine ⟨o, ho, fun name => ?_⟩
  have e := hm name
  unfold nsFind findBy at e
  rw [← Array.find?_toList] at e
  unfold PySem.W.lookIn
  rw [hd]
  dsimp only
  split
  · rename_i y q
    rw [q] at e
    exact congrArg some e
  · rename_i q
    rw [q] at e
    have a : es.toList.any (·.refKey) = false := by
      rw [List.any_eq_false]
      intro y hy
      obtain ⟨z, t, hkey⟩ := hk y (Array.mem_toList_iff.mp hy)
      simp [DictEntry.refKey, hkey]
    have a' : ¬ es.toList.any (·.refKey) = true := by rw [a]; exact Bool.false_ne_true
    rw [if_neg a']
    exact congrArg some e

theorem ObjM.look {h : Heap} {x dx C : Addr} {mA : Str → Option Value} (I : ObjM h x dx C mA) : ∃ od, PySem.W.InstAt h x (PySem.W.instObj C dx) C (some od) ∧ ∀ name, PySem.W.lookIn name od = some (mA name) :=
  let ⟨od, ho, hl⟩ := lookIn_ns I.ns
  ⟨od, ⟨I.obj, rfl, rfl, ho⟩, hl⟩

section
variable {prog : Program} {w : World} {A : Around} {E : Value → Shared → Prop} {s : Shared} {K : PySem.W.Frag} {x dx C f : Addr} {mA : Str → Option Value} {name : Str} {v : Value}

end

/-! ### the attributes as a list of pairs -/
def putF (f : Str) (v : V) : List (Str × V) → List (Str × V)
  | [] => [(f, v)]
  | (g, x) :: r => if g = f then (g, v) :: r else (g, x) :: putF f v r
theorem RelO.none_of {o : Option Value} (r : RelO none o) : o = none := by
  cases o with
  | none => rfl
  | some u => exact (show False from r).elim
section
variable {P : Program} {w : World} {H H' : Hp} {h h' : Heap} {a C dx : Addr} {fs fs' : List (Str × V)}
theorem ins_get (hok : HOk P w H h) (e : H a = some (.ins C dx fs)) : ∃ mA, ObjM h a dx C mA ∧ (∀ f, RelO (fs.lookup f) (mA f)) ∧ PySem.Within mA (fs.map (·.1)) ∧ fs.length ≤ 1000 ∧ H dx = some (.own a) := by
  obtain ⟨d, z, ne, ob, mA, n, r, q⟩ := (show ObjOk P w H h a (.ins C dx fs) from hok a _ e)
  exact ⟨mA, ⟨ob, n, ne⟩, r, q, z, d⟩
end

/-! ### what of the text a class must have -/
structure Cls (K : PySem.W.Frag) (C : Addr) : Prop where
  pg : PySem.W.plainGet K C Str.empty = true
  hd : PySem.W.hasDictIn K C = true
  po : PySem.W.plainOver K C = true
  sa : PySem.W.findIn K (.ref C) "__setattr__" = some (some (.builtin "object.__setattr__"))
theorem Cls.get {K : PySem.W.Frag} {C : Addr} (c : Cls K C) (f : Str) : PySem.W.plainGet K C f = true := c.pg
/-- no class of it has the name -/
def NoAttr (K : PySem.W.Frag) (C : Addr) (f : Str) : Prop := PySem.W.findIn K (.ref C) f = some none
/-- a constant of the class -/
structure Con (K : PySem.W.Frag) (C : Addr) (f : Str) (v : V) (u : Value) : Prop where
  at_ : PySem.W.findIn K (.ref C) f = some (some u)
  rel : RelV v u
  get : PySem.W.specialIn K u "__get__" = some none
  cp : PySem.W.copiedNames.contains f = false
/-- a method: a plain def of the class or of one above it -/
structure Meth (K : PySem.W.Frag) (C : Addr) (m : Str) (f : Addr) : Prop where
  at_ : PySem.W.findIn K (.ref C) m = some (some (.ref f))
  fn : PySem.W.isFn K (.ref f) = true
  kp : PySem.W.keepIn K (.ref f) = true

section
variable {X : Cx} {pins : List (Addr × Obj)} {σ : St} {H : Hp} {s : Shared} {a C dx : Addr} {fs : List (Str × V)} {f : Str} {v : V} {A : Around} {E : Value → Shared → Prop}

/-- a new instance, tracked, without attributes -/
theorem Inv.made (I : Inv X pins σ H s) : Inv X pins σ (upd (upd H s.heap.objs.size (.own (s.heap.objs.size + 1))) (s.heap.objs.size + 1) (.ins C s.heap.objs.size []))
    { s with heap := (s.heap.push PySem.W.emptyDict).push (PySem.W.instObj C s.heap.objs.size) } := by
  have e1 : (s.heap.push PySem.W.emptyDict).get? s.heap.objs.size = some PySem.W.emptyDict := Heap.get?_push_size s.heap rfl
  have e2 : ((s.heap.push PySem.W.emptyDict).push (PySem.W.instObj C s.heap.objs.size)).get? (s.heap.objs.size + 1) = some (PySem.W.instObj C s.heap.objs.size) := by
    have := Heap.get?_push_size (s.heap.push PySem.W.emptyDict) (o := PySem.W.instObj C s.heap.objs.size) rfl
    rwa [Heap.size_push] at this
  have e3 : (s.heap.push PySem.W.emptyDict).Ns s.heap.objs.size (fun _ => none) := ⟨PySem.W.emptyDict, #[], _, e1, rfl, (fun e he => absurd he (by simp)), fun _ => rfl⟩
  have I1 := I.laid (a := s.heap.objs.size) (o := .own (s.heap.objs.size + 1)) (h' := s.heap.push PySem.W.emptyDict) (t' := s.toks) (fun b u q => Heap.get?_push_of_some _ q) (Nat.le_refl _) ⟨_, e1⟩
  refine I1.laid (a := s.heap.objs.size + 1) (o := .ins C s.heap.objs.size []) (t' := s.toks) (fun b u q => Heap.get?_push_of_some _ q) (Nat.le_of_eq (Heap.size_push _ _)) ?_
  have ne : s.heap.objs.size ≠ s.heap.objs.size + 1 := Nat.ne_of_lt (Nat.lt_succ_self _)
  refine ⟨by rw [upd_ne ne, upd_same], Nat.zero_le _, ne, e2, fun _ => none, (Heap.Ns1.of_empty e3).at fun o q => Heap.get?_push_of_some _ q, fun _ => True.intro, fun y hy => absurd rfl hy⟩

/-- e.f where nothing but the object is asked: through attributeBase (super) and the last hold -/
theorem attr_of {prog : Program} {w : World} {env : Env} {e : Expr} {f : Str} {pos : Pos} {s : Shared} {Q : Value → Shared → Prop} (hb : attributeBase e f env (eval e env) = eval e env)
    (h : wpAny (model prog w) A (eval e env) (fun o s₁ => wpAny (model prog w) A (getAttr o f true) Q E s₁) E s) : wpAny (model prog w) A (eval (.Attribute e f pos) env) Q E s :=
  Attribute_any_ h (by rw [arm_eval_Attribute, hb])
end

/-! ### readings and rules -/
/-- e.f, an attribute of the instance -/
def tFld (K : PySem.W.Frag) (ta : TE) (f : Str) : TE := fun σ H Q => ta σ H fun x H1 => ∃ a C dx fs v, x = .ref a ∧ H1 a = some (.ins C dx fs) ∧ Cls K C ∧ NoAttr K C f ∧ fs.lookup f = some v ∧ Q v H1
/-- e.f, a constant of the class -/
def tCon (K : PySem.W.Frag) (ta : TE) (f : Str) : TE := fun σ H Q => ta σ H fun x H1 => ∃ a C dx fs v u, x = .ref a ∧ H1 a = some (.ins C dx fs) ∧ Cls K C ∧ Con K C f v u ∧ fs.lookup f = none ∧ Q v H1
/-- e.f = value -/
def sFld (K : PySem.W.Frag) (ta tv : TE) (f : Str) : TS := fun D σ H => tv σ H fun y H1 => ta σ H1 fun x H2 => ∃ a C dx fs, x = .ref a ∧ H2 a = some (.ins C dx fs) ∧ Cls K C ∧ NoAttr K C f ∧ fs.length < 1000 ∧
  D.nx σ (upd H2 a (.ins C dx (putF f y fs)))
/-- an augmented operator on two values -/
def InOp (X : Cx) (op : Operator) (rd : V → V → Hp → VK → Prop) : Prop :=
  ∀ (pins : List (Addr × Obj)) (s : Shared) (σ : St) (H : Hp) (x y : V) (u v : Value) (Q : VK), Inv X pins σ H s → RelV x u → RelV y v → rd x y H Q → wpAny (model X.prog X.w) X.A (inplaceOp op u v) (EP X pins σ Q) X.xe s
/-- e.f op= value -/
def sFldAug (K : PySem.W.Frag) (ta tv : TE) (rd : V → V → Hp → VK → Prop) (f : Str) : TS := fun D σ H => ta σ H fun x H1 => ∃ a C dx fs v, x = .ref a ∧ H1 a = some (.ins C dx fs) ∧ Cls K C ∧ NoAttr K C f ∧ fs.lookup f = some v ∧
  tv σ H1 fun y H2 => rd v y H2 fun z H3 => ∃ dx' fs', H3 a = some (.ins C dx' fs') ∧ fs'.length < 1000 ∧ D.nx σ (upd H3 a (.ins C dx' (putF f z fs')))

section
variable {X : Cx} {o e value : Expr} {f : Str} {pos pos' tpos : Pos} {ta tv : TE}
def rAdd : V → V → Hp → VK → Prop := fun x y H Q => ∃ i j, x = .int i ∧ y = .int j ∧ Q (.int (i + j)) H
def rSub : V → V → Hp → VK → Prop := fun x y H Q => ∃ i j, x = .int i ∧ y = .int j ∧ Q (.int (i - j)) H
end

/-! ### isinstance -/
section
variable {X : Cx} {pins : List (Addr × Obj)} {σ : St} {H : Hp} {s : Shared} {A : Around} {E : Value → Shared → Prop} {Q : Value → Shared → Prop} {c : Value} {b : Bool}
/-- the type of a value, as the fragment's deciders take it; for an instance its class -/
inductive TyOf (K : PySem.W.Frag) (H : Hp) : V → Value → Prop where
  | non : TyOf K H .non (.type "NoneType")
  | bl (x : Bool) : TyOf K H (.bl x) (.type "bool")
  | int (i : Int) : TyOf K H (.int i) (.type "int")
  | str (x : Str) : TyOf K H (.str x) (.type "str")
  | flt (x : UInt64) : TyOf K H (.flt x) (.type "float")
  | lst {a : Addr} {xs : List V} (e : H a = some (.lst xs)) : TyOf K H (.ref a) (.type "list")
  | frz {a : Addr} {o : Obj} {xs : List V} (e : H a = some (.frz o (.lst xs))) : TyOf K H (.ref a) (.type "list")
  | tup {a : Addr} {xs : List V} (e : H a = some (.tup xs)) : TyOf K H (.ref a) (.type "tuple")
  | dK {a : Addr} {kvs : List (Key × V)} (e : H a = some (.dK kvs)) : TyOf K H (.ref a) (.type "dict")
  | dT {a : Addr} {kvs : List (List Key × V)} (e : H a = some (.dT kvs)) : TyOf K H (.ref a) (.type "dict")
  | ins {a C dx : Addr} {fs : List (Str × V)} (e : H a = some (.ins C dx fs)) (cl : Cls K C) (ha : PySem.W.findIn K (.ref C) "__class__" = some (some (.builtin "object.__class__")))
      (hn : PySem.W.specialIn K (.builtin "object.__class__") "__get__" = some (some (.builtin "getset_descriptor.__get__"))) (htk : PySem.W.takesIn K (.builtin "object.__class__") = some true)
      (hm : PySem.W.mroIn K C (.type "object") = some true) : TyOf K H (.ref a) (.ref C)
/-- isinstance(x, c) for one class c, a built-in or an own one: kitOne's answer -/
theorem isinst_ok {x : V} {u t : Value} (I : Inv X pins σ H s) (rx : RelV x u) (ty : TyOf X.K H x t) (e : PySem.W.kitOne X.K t c = some b) (h : ∀ tk, Q (.bool b) { s with toks := tk }) :
    wpAny (model X.prog X.w) A (call (.builtin "isinstance") [u, c]) Q E s := by
  cases ty with
  | non => cases (show u = Value.none from rx); exact PySem.W.kia_one PySem.W.kitx_none I.kIn True.intro e (fun z => nomatch z) h
  | bl y => cases (show u = Value.bool y from rx); exact PySem.W.kia_one PySem.W.kitx_bool I.kIn True.intro e (fun z => nomatch z) h
  | int i => obtain ⟨t, q⟩ := (show ∃ t, u = Value.int i t from rx); cases q; exact PySem.W.kia_one PySem.W.kitx_int I.kIn True.intro e (fun z => nomatch z) h
  | str y => obtain ⟨t, q⟩ := (show ∃ t, u = Value.str y t from rx); cases q; exact PySem.W.kia_one PySem.W.kitx_str I.kIn True.intro e (fun z => nomatch z) h
  | flt y => obtain ⟨t, q⟩ := (show ∃ t, u = Value.float y t from rx); cases q; exact PySem.W.kia_one PySem.W.kitx_float I.kIn True.intro e (fun z => nomatch z) h
  | @lst a xs ea =>
    cases (show u = Value.ref a from rx)
    obtain ⟨_, _, n, _, h1⟩ := (show ObjOk X.prog X.w H s.heap a (.lst xs) from I.hok a _ ea)
    exact PySem.W.kia_one PySem.W.kitx_list I.kIn ⟨_, h1, rfl⟩ e (fun z => nomatch z) h
  | @frz a ob xs ea =>
    cases (show u = Value.ref a from rx)
    obtain ⟨_, _, _, n, _, h1⟩ := (show ObjOk X.prog X.w H s.heap a (.frz ob (.lst xs)) from I.hok a _ ea)
    exact PySem.W.kia_one PySem.W.kitx_list I.kIn ⟨_, h1, rfl⟩ e (fun z => nomatch z) h
  | @tup a xs ea =>
    cases (show u = Value.ref a from rx)
    obtain ⟨_, _, _, p⟩ := (show ObjOk X.prog X.w H s.heap a (.tup xs) from I.hok a _ ea)
    obtain ⟨o, h1, h2, _⟩ := p
    exact PySem.W.kia_one PySem.W.kitx_tuple I.kIn ⟨o, h1, h2⟩ e (fun z => nomatch z) h
  | @dK a kvs ea =>
    cases (show u = Value.ref a from rx)
    obtain ⟨_, _, vs, _, p⟩ := (show ObjOk X.prog X.w H s.heap a (.dK kvs) from I.hok a _ ea)
    obtain ⟨o, es, ep, h1, h2, _⟩ := p
    exact PySem.W.kia_one PySem.W.kitx_dict I.kIn ⟨o, h1, h2.1⟩ e (fun z => nomatch z) h
  | @dT a kvs ea =>
    cases (show u = Value.ref a from rx)
    obtain ⟨_, _, xs, _, o, es, ep, h1, h2, _⟩ := (show ObjOk X.prog X.w H s.heap a (.dT kvs) from I.hok a _ ea)
    exact PySem.W.kia_one PySem.W.kitx_dict I.kIn ⟨o, h1, h2.1⟩ e (fun z => nomatch z) h
  | @ins a C dx fs ea cl ha hn htk hm =>
    cases (show u = Value.ref a from rx)
    obtain ⟨mA, O, _⟩ := ins_get I.hok ea
    obtain ⟨od, J, _⟩ := O.look
    exact PySem.W.kia_one (PySem.W.kitx_own (cl.get _) cl.hd ha hn htk hm) I.kIn J e (fun z => nomatch z) h
end
end L2

namespace L2
open PySem PySem.Spec PyProof.Rows

/-! ### room -/
structure Room (k : Nat) (A : Around) : Prop where
  hd : A.handled = none
  dp : A.depth + 3 * k + 5 < recursionLimit
  un : A.units + 16 * k + 200 < cLine
theorem Room.mono {j k : Nat} {A : Around} (r : Room k A) (h : j ≤ k) : Room j A := ⟨r.hd, by have := r.dp; omega, by have := r.un; omega⟩
theorem Room.deeper {k : Nat} {A : Around} (r : Room (k + 1) A) (env : Env) : Room k (A.deeper env) :=
  ⟨r.hd, by have := r.dp; show A.depth + 1 + 3 * k + 5 < _; omega, by have := r.un; show A.units + 3 + 16 * k + 200 < _; omega⟩
theorem Room.in1 {k : Nat} {A : Around} (r : Room (k + 1) A) : Room k A.in1 :=
  ⟨r.hd, by have := r.dp; show A.depth + 3 * k + 5 < _; omega, by have := r.un; show A.units + 1 + 16 * k + 200 < _; omega⟩
theorem make_depth {A : Around} {C : Addr} {us : List Value} {kw : List (Str × Value)} : (A.under (.builtin "type.__call__" ⟨.ref C :: us, kw⟩)).depth = A.depth + 1 := by
  first | rfl | simp [Around.under, Code.weight, Code.isCreation, Code.isGuard, Code.isCaller, Code.frames, Code.isFrame, guardIds]
theorem make_units {A : Around} {C : Addr} {us : List Value} {kw : List (Str × Value)} : (A.under (.builtin "type.__call__" ⟨.ref C :: us, kw⟩)).units = A.units + 1 := by
  first | rfl | simp [Around.under, Code.cUnits, Code.frames, Code.isFrame]
theorem Room.make {k : Nat} {A : Around} (r : Room (k + 1) A) (C : Addr) (us : List Value) (kw : List (Str × Value)) : Room k (A.under (.builtin "type.__call__" ⟨.ref C :: us, kw⟩)) :=
  ⟨r.hd, by have := r.dp; rw [make_depth]; omega, by have := r.un; rw [make_units]; omega⟩
theorem Room.depth {k : Nat} {A : Around} (r : Room k A) : A.depth < recursionLimit := by have := r.dp; omega
theorem Room.units {k : Nat} {A : Around} (r : Room k A) : A.units + 64 < cLine := by have := r.un; omega
/-! ### argument lists and displays -/
def tNil : TA := fun _ H Q => Q [] H
def tCons (ta : TE) (tr : TA) : TA := fun σ H Q => ta σ H fun x H1 => tr σ H1 fun xs H2 => Q (x :: xs) H2
section
variable {X : Cx} {e : Expr} {es : List Expr} {te : TE} {t : TA} {pos : Pos}
theorem pa_nil : PA X [] tNil := fun _ _ _ _ H Q I h => Calls.spliced_nil ⟨[], H, I, .nil, h⟩
theorem pa_cons (ha : PE X e te) (hr : PA X es t) (hs : starEach (e :: es) X.env = (false, eval e X.env) :: starEach es X.env := by rfl) : PA X (e :: es) (tCons te t) := by
  intro pos pins s σ H Q I h
  rw [hs]
  show wpAny _ _ (spliced ((false, eval e X.env) :: backTo pos (starEach es X.env))) _ _ s
  refine Calls.spliced_cons (thn (ha pins s σ H _ I h) fun u s1 ⟨x, H1, I1, r1, q1⟩ => ?_)
  exact thn (hr pos pins s1 σ H1 _ I1 q1) fun us s2 ⟨xs, H2, I2, r2, q2⟩ => ⟨x :: xs, H2, I2, .cons r1 r2, q2⟩

/-- a tuple, a list of written items -/
def tTup (t : TA) : TE := fun σ H Q => t σ H fun xs H1 => xs.length ≤ sizeLine ∧ ∀ p, H1 p = none → Q (.ref p) (upd H1 p (.tup xs))
def tLst (t : TA) : TE := fun σ H Q => t σ H fun xs H1 => xs.length ≤ sizeLine ∧ ∀ p, H1 p = none → Q (.ref p) (upd H1 p (.lst xs))
theorem pe_tup {x1} (h : PA X es t) : PE X (.Tuple es x1 pos) (tTup t) := by
  intro pins s σ H Q I hq
  refine wpAny_Tuple_spliced (thn (h pos pins s σ H _ I hq) fun us s1 ⟨xs, H1, I1, r, z, q⟩ => ⟨by rw [← r.length]; exact z, ?_⟩)
  have hf : H1 s1.heap.objs.size = none := I1.hok.fresh (Nat.le_refl _)
  refine ⟨.ref s1.heap.objs.size, upd H1 s1.heap.objs.size (.tup xs), I1.laid (t' := s1.toks) (fun b u e => Heap.get?_push_of_some _ e) (Nat.le_refl _) ?_, rfl, q _ hf⟩
  exact ⟨z, us, r, ⟨_, Heap.get?_push_size _ rfl, rfl, _, rfl⟩⟩
theorem pe_lst (h : PA X es t) : PE X (.List es pos) (tLst t) := by
  intro pins s σ H Q I hq
  refine wpAny_List_spliced (thn (h pos pins s σ H _ I hq) fun us s1 ⟨xs, H1, I1, r, z, q⟩ => ⟨by rw [← r.length]; exact z, ?_⟩)
  have hf : H1 s1.heap.objs.size = none := I1.hok.fresh (Nat.le_refl _)
  refine ⟨.ref s1.heap.objs.size, upd H1 s1.heap.objs.size (.lst xs), I1.laid (t' := s1.toks) (fun b u e => Heap.get?_push_of_some _ e) (Nat.le_refl _) ?_, rfl, q _ hf⟩
  exact ⟨z, us, 0, r, Heap.get?_push_size _ rfl⟩
end

/-! ### what a def promises -/
/-- a def's promise: the bound arguments in the parameters' order, the heap, the wanted end, the wanted exception -/
abbrev Sp := List V → Hp → VK → XK → Prop
/-- how an exception lies behind a call (file 08 gives it): the callers' frames, abstract heap and state ahead of the call, the wish, the exception, the state -/
abbrev CXT := List Env → Hp → Shared → XK → Value → Shared → Prop

/-- the state at a call -/
structure Env0 (P : Program) (w : World) (K : PySem.W.Frag) (mg : Str → Option Value) (base : Heap) (A : Around) (outer : List Env) (s : Shared) (H : Hp) : Prop where
  frames : A.frames = some outer
  mod : Mod K mg base
  bs : ∀ b o, base.get? b = some o → s.heap.get? b = some o ∧ H b = none
  bsz : base.objs.size ≤ s.heap.objs.size
  funs : s.heap.FunFrames base outer
  frf : ∀ b ∈ frs outer, H b = none
  hok : HOk P w H s.heap
  bare : AllBare s.gens
/-- a call's end -/
def CE (outer : List Env) (P : Program) (w : World) (H : Hp) (s : Shared) (Q : VK) (u : Value) (s' : Shared) : Prop :=
  ∃ v H', s'.os = s.os ∧ AllBare s'.gens ∧ Un (frs outer) [] H H' s.heap s'.heap ∧ HOk P w H' s'.heap ∧ RelV v u ∧ Q v H'
def CR (CX : CXT) (outer : List Env) (P : Program) (w : World) (H : Hp) (s : Shared) (Q : VK) (E : XK) (r : Result) (s' : Shared) : Prop :=
  match r with
  | .ok (.ret u) => CE outer P w H s Q u s'
  | .ok _ => False
  | .error e => CX outer H s E e s'
structure FnOk (P : Program) (w : World) (K : PySem.W.Frag) (mg : Str → Option Value) (base : Heap) (CX : CXT) (k : Nat) (f : Addr) (fd : FuncData) (ps : List Str) (sp : Sp) : Prop where
  len : ∀ vs H Q E, sp vs H Q E → vs.length = ps.length
  run : ∀ (A : Around) (outer : List Env) (s : Shared) (H : Hp) (args : Args) (us : List Value) (vs : List V) (Q : VK) (E : XK), Room k A → Env0 P w K mg base A outer s H → BindsTo s fd args (ps.zip us) → Vals vs us → sp vs H Q E →
    codeAny (model P w) A (.call (.ref f) args) (CR CX outer P w H s Q E) s
theorem FnOk.mono {P : Program} {w : World} {K : PySem.W.Frag} {mg : Str → Option Value} {base : Heap} {CX : CXT} {j k : Nat} {f : Addr} {fd : FuncData} {ps : List Str} {sp : Sp} (F : FnOk P w K mg base CX j f fd ps sp) (h : j ≤ k) :
    FnOk P w K mg base CX k f fd ps sp := ⟨F.len, fun A outer s H args us vs Q E hr => F.run A outer s H args us vs Q E (hr.mono h)⟩
/-- a weaker promise -/
theorem FnOk.imp {P : Program} {w : World} {K : PySem.W.Frag} {mg : Str → Option Value} {base : Heap} {CX : CXT} {k : Nat} {f : Addr} {fd : FuncData} {ps : List Str} {sp sp' : Sp} (F : FnOk P w K mg base CX k f fd ps sp)
    (h : ∀ vs H Q E, sp' vs H Q E → sp vs H Q E) : FnOk P w K mg base CX k f fd ps sp' :=
  ⟨fun vs H Q E q => F.len vs H Q E (h _ _ _ _ q), fun A outer s H args us vs Q E hr he hb hv hs => F.run A outer s H args us vs Q E hr he hb hv (h _ _ _ _ hs)⟩

theorem Env0.make {P : Program} {w : World} {K : PySem.W.Frag} {mg : Str → Option Value} {base : Heap} {A : Around} {outer : List Env} {s : Shared} {H : Hp} (e : Env0 P w K mg base A outer s H) (C : Addr) (us : List Value) (kw : List (Str × Value)) :
    Env0 P w K mg base (A.under (.builtin "type.__call__" ⟨.ref C :: us, kw⟩)) outer s H := ⟨by first | exact e.frames | (simpa [Around.under, Code.envs, Code.isFrame, pushEnvs] using e.frames), e.mod, e.bs, e.bsz, e.funs, e.frf, e.hok, e.bare⟩
theorem Env0.in1 {P : Program} {w : World} {K : PySem.W.Frag} {mg : Str → Option Value} {base : Heap} {A : Around} {outer : List Env} {s : Shared} {H : Hp} (e : Env0 P w K mg base A outer s H) :
    Env0 P w K mg base A.in1 outer s H := ⟨e.frames, e.mod, e.bs, e.bsz, e.funs, e.frf, e.hok, e.bare⟩

section
variable {X : Cx} {pins : List (Addr × Obj)} {σ : St} {H : Hp} {s s' : Shared}
/-- from a body: what a callee wants -/
theorem Inv.env0 (I : Inv X pins σ H s) : Env0 X.prog X.w X.K X.mg X.base X.A X.stack s H :=
  ⟨I.ok.frames, I.ok.mod, I.bs, Nat.le_trans I.ok.bsz I.sz, I.stack, I.stkFree, I.hok, I.bare⟩
/-- behind a call -/
theorem Inv.after {Q : VK} {u : Value} (I : Inv X pins σ H s) (h : CE X.stack X.prog X.w H s Q u s') : EP X pins σ Q u s' := by
  obtain ⟨v, H', os, bare, un, hok, r, q⟩ := h
  obtain ⟨hh, g, d, t, os'⟩ := s'
  obtain rfl : os' = s.os := os
  exact ⟨v, H', I.call (h' := hh) (g' := g) (d' := d) (t' := t) (ch := []) un hok bare (fun b z => absurd z (by simp)), r, q⟩
end

/-! ### calls -/
/-- f(..): the written arguments, then the defaults dvs; E: what is wanted of an exception -/
def tCall (sp : Sp) (dvs : List V) (E : XK) (t : TA) : TE := fun σ H Q => t σ H fun vs H1 => sp (vs ++ dvs) H1 Q E
/-- o.m(..) of an instance of the class at C -/
def tMeth (C : Addr) (m : Str) (sp : Sp) (dvs : List V) (E : XK) (ta : TE) (t : TA) : TE := fun σ H Q => ta σ H fun x H1 => ∃ a dx fs, x = .ref a ∧ H1 a = some (.ins C dx fs) ∧ fs.lookup m = none ∧
  t σ H1 fun vs H2 => sp (x :: (vs ++ dvs)) H2 Q E
/-- C(..): a new instance and its dict, then __init__ -/
def tMake (C : Addr) (sp : Sp) (dvs : List V) (E : XK) (t : TA) : TE := fun σ H Q => t σ H fun vs H1 => ∀ x dx, H1 x = none → H1 dx = none → dx ≠ x →
  sp (.ref x :: (vs ++ dvs)) (upd (upd H1 dx (.own x)) x (.ins C dx [])) (fun v H2 => v = .non ∧ Q (.ref x) H2) E

/-- how the parameters are bound: us the positional arguments, kw the keywords' values by name, ds the defaults that fill up -/
def Binds (K : PySem.W.Frag) (fd : FuncData) (ps : List Str) (ds : List Value) : Prop :=
  ∀ (s : Shared) (us : List Value), K.In s.heap → (us ++ ds).length = ps.length → BindsTo s fd ⟨us, []⟩ (ps.zip (us ++ ds))
/-- every parameter is given -/
theorem Binds.all {K : PySem.W.Frag} {fd : FuncData} {ps : List Str} (h : ∀ us : List Value, us.length = ps.length → bindArgs fd ⟨us, []⟩ = pure (ps.zip us)) : Binds K fd ps [] := fun s us _ hl => by
  rw [List.append_nil] at hl ⊢
  exact .of_eq (h us hl)

/-- an exception of a callee reaches what this body wants of exceptions -/
def Passes (CX : CXT) (X : Cx) (E : XK) : Prop := ∀ (pins : List (Addr × Obj)) (σ : St) (H : Hp) (s : Shared) (e : Value) (s' : Shared), Inv X pins σ H s → CX X.stack H s E e s' → X.xe e s'

section
variable {X : Cx} {CX : CXT} {k : Nat} {f C : Addr} {fd : FuncData} {ps : List Str} {sp : Sp} {dvs : List V} {ds : List Value} {E : XK} {x m : Str} {p pos apos : Pos} {e o : Expr} {es : List Expr} {ta : TE} {t : TA}

/-- the callee runs -/
theorem run_fn {pins : List (Addr × Obj)} {σ : St} {H : Hp} {s : Shared} {Q : VK} {us : List Value} {vs : List V} (F : FnOk X.prog X.w X.K X.mg X.base CX k f fd ps sp) (hr : Room k X.A) (hb : Binds X.K fd ps ds) (hd : Vals dvs ds) (hx : Passes CX X E)
    (I : Inv X pins σ H s) (r : Vals vs us) (h : sp (vs ++ dvs) H Q E) : wpAny (model X.prog X.w) X.A (call (.ref f) us) (EP X pins σ Q) X.xe s := by
  have r2 : Vals (vs ++ dvs) (us ++ ds) := r.append hd
  have hl : (us ++ ds).length = ps.length := by rw [← r2.length]; exact F.len _ _ _ _ h
  refine wpAny_call (codeAny_mono (F.run X.A X.stack s H ⟨us, []⟩ (us ++ ds) (vs ++ dvs) Q E hr I.env0 (hb s us I.kIn hl) r2 h) fun r s' hq => ?_)
  cases r with
  | error e => exact hx pins σ H s e s' I hq
  | ok fl =>
    cases fl with
    | ret u => exact I.after hq
    | next => exact False.elim hq
    | brk => exact False.elim hq
    | cont => exact False.elim hq

theorem pe_call (F : FnOk X.prog X.w X.K X.mg X.base CX k f fd ps sp) (hr : Room k X.A) (hg : Gl X x) (hm : X.mg x = some (.ref f)) (hk : PySem.W.keepIn X.K (.ref f) = true) (hb : Binds X.K fd ps ds) (hd : Vals dvs ds) (hx : Passes CX X E)
    (ha : PA X (e :: es) t) (hdb : (x == ("__debug__" : Str)) = false := by decide) (he : starEach (e :: es) X.env = (false, eval e X.env) :: starEach es X.env := by rfl) (hpl : (backTo pos (starEach es X.env)).any (·.1) = false := by rfl) :
    PE X (.Call (.Name x p) (e :: es) [] pos) (tCall sp dvs E t) := by
  intro pins s σ H Q I h
  refine wpAny_Call_Name_kw (ld_glob I hg hm ?_ hdb)
  refine PySem.W.callWith_K (h₀ := X.base) I.ok.mod.kin hk (thn (ha pos pins s σ H _ I h) fun us s1 ⟨vs, H1, I1, r, q⟩ => ⟨I1.kIn, ?_⟩) he hpl
  exact run_fn F hr hb hd hx I1 r q
/-- what a class must have to be made -/
structure Mk (K : PySem.W.Frag) (C f : Addr) : Prop where
  makes : PySem.W.makesIn K C = true
  init : PySem.W.findIn K (.ref C) "__init__" = some (some (.ref f))
  fn : PySem.W.isFn K (.ref f) = true
  kp : PySem.W.keepIn K (.ref C) = true

end

/-! ### keywords -/
/-- the values of the keywords, from the left -/
def PK (X : Cx) (kws : List Keyword) (t : TA) : Prop :=
  ∀ (pos : Pos) (pins : List (Addr × Obj)) (s : Shared) (σ : St) (H : Hp) (Q : List V → Hp → Prop), Inv X pins σ H s → t σ H Q → wpAny (model X.prog X.w) X.A (evalAll ((backToKw pos (keywordEach kws X.env)).map (·.2))) (AP X pins σ Q) X.xe s
section
variable {X : Cx} {CX : CXT} {k : Nat} {f C : Addr} {fd : FuncData} {ps ks : List Str} {sp : Sp} {E : XK} {x m : Str} {p pos apos kpos : Pos} {e o : Expr} {es : List Expr} {kws : List Keyword} {te ta : TE} {t tk : TA} {nm : Option Str}
/-- how a call with keywords binds: g puts the positional values us and the keywords' values ws (names ks) in the parameters' order, defaults among them -/
structure KBinds (K : PySem.W.Frag) (fd : FuncData) (ps ks : List Str) (g : List Value → List Value → List Value) (gV : List V → List V → List V) : Prop where
  to : ∀ (s : Shared) (us ws : List Value), K.In s.heap → (g us ws).length = ps.length → BindsTo s fd ⟨us, ks.zip ws⟩ (ps.zip (g us ws))
  rel : ∀ {vs : List V} {us : List Value} {zs : List V} {ws : List Value}, Vals vs us → Vals zs ws → Vals (gV vs zs) (g us ws)
def tCallK (sp : Sp) (gV : List V → List V → List V) (E : XK) (t tk : TA) : TE := fun σ H Q => t σ H fun vs H1 => tk σ H1 fun zs H2 => sp (gV vs zs) H2 Q E
variable {g : List Value → List Value → List Value} {gV : List V → List V → List V}
end

/-! ### a def's body keeps its promise -/
/-- names: the parameters first -/
structure FnScope (N P : List Str) (sc : Scope) : Prop where
  kind : sc.kind = .function
  co : sc.isCoroutine = false
  gen : sc.isGenerator = false
  nd : N.Nodup
  pre : N.take P.length = P
  par : ∀ x ∈ P, sc.names.lookup x = some .local ∨ sc.names.lookup x = some .cell
  nofree : ∀ y ∈ sc.names, y.2 ≠ .free

theorem bindL_out {kindOf : Str → Option NameKind} {x : Str} : ∀ {binds : List (Str × Value)} {m : Str → Option Value}, (∀ v, (x, v) ∉ binds) → bindL kindOf binds m x = m x
  | [], _, _ => rfl
  | (n, v) :: r, m, h => by
    unfold bindL
    rw [bindL_out fun w hw => h w (List.mem_cons_of_mem _ hw)]
    split
    · have : x ≠ n := by rintro rfl; exact h v List.mem_cons_self
      simp [this]
    · rfl
theorem bindC_out {kindOf : Str → Option NameKind} {x : Str} : ∀ {binds : List (Str × Value)} {m : Str → Option Value}, (∀ v, (x, v) ∉ binds) → bindC kindOf binds m x = m x
  | [], _, _ => rfl
  | (n, v) :: r, m, h => by
    unfold bindC
    rw [bindC_out fun w hw => h w (List.mem_cons_of_mem _ hw)]
    split
    · rfl
    · have : x ≠ n := by rintro rfl; exact h v List.mem_cons_self
      simp [this]
theorem bindL_get {kindOf : Str → Option NameKind} {x : Str} {v : Value} : ∀ {P : List Str} {vs : List Value} {i : Nat} {m : Str → Option Value}, P.Nodup → P[i]? = some x → vs[i]? = some v → kindOf x = some .local →
    bindL kindOf (P.zip vs) m x = some v
  | [], _, _, _, _, h, _, _ => by simp at h
  | _ :: _, [], _, _, _, _, h, _ => by simp at h
  | p :: P, w :: vs, 0, m, nd, h1, h2, hk => by
    simp at h1 h2; subst h1; subst h2
    show bindL kindOf ((p, w) :: P.zip vs) m p = _
    unfold bindL
    rw [bindL_out fun v hv => (List.nodup_cons.mp nd).1 (List.of_mem_zip hv).1, if_pos hk]
    simp
  | p :: P, w :: vs, i + 1, m, nd, h1, h2, hk => by
    show bindL kindOf ((p, w) :: P.zip vs) m x = _
    unfold bindL
    exact bindL_get (i := i) (List.nodup_cons.mp nd).2 (by simpa using h1) (by simpa using h2) hk
theorem bindC_get {kindOf : Str → Option NameKind} {x : Str} {v : Value} : ∀ {P : List Str} {vs : List Value} {i : Nat} {m : Str → Option Value}, P.Nodup → P[i]? = some x → vs[i]? = some v → kindOf x ≠ some .local →
    bindC kindOf (P.zip vs) m x = some v
  | [], _, _, _, _, h, _, _ => by simp at h
  | _ :: _, [], _, _, _, _, h, _ => by simp at h
  | p :: P, w :: vs, 0, m, nd, h1, h2, hk => by
    simp at h1 h2; subst h1; subst h2
    show bindC kindOf ((p, w) :: P.zip vs) m p = _
    unfold bindC
    rw [bindC_out fun v hv => (List.nodup_cons.mp nd).1 (List.of_mem_zip hv).1, if_neg hk]
    simp
  | p :: P, w :: vs, i + 1, m, nd, h1, h2, hk => by
    show bindC kindOf ((p, w) :: P.zip vs) m x = _
    unfold bindC
    exact bindC_get (i := i) (List.nodup_cons.mp nd).2 (by simpa using h1) (by simpa using h2) hk

/-- the names' values at the entry -/
def start (N : List Str) (vs : List V) : St := vs.map some ++ List.replicate (N.length - vs.length) none

/-- the context of a def's body, at its entry; an exception leaves the frame, then lies as CX says -/
def cxOf (CX : CXT) (P : Program) (w : World) (K : PySem.W.Frag) (mg : Str → Option Value) (base : Heap) (N : List Str) (qual : Str) (scope : Scope) (f : Addr) (cd : Value) (A : Around) (outer : List Env) (s : Shared) (H : Hp) (E : XK) : Cx where
  prog := P
  w := w
  K := K
  mg := mg
  base := base
  A := A.deeper (envOfC qual scope s.heap.objs.size f cd)
  N := N
  s₀ := s
  H₀ := H
  env := envOfC qual scope s.heap.objs.size f cd
  outer := outer
  stack := envOfC qual scope s.heap.objs.size f cd :: outer
  ex := []
  calm := true
  fn := fun _ => true
  pn := []
  xe := fun e s' => wpAny (model P w) (A.deeper (envOfC qual scope s.heap.objs.size f cd)) (leaving (envOfC qual scope s.heap.objs.size f cd) e) (fun _ s'' => CX outer H s E e s'') (fun e' s'' => CX outer H s E e' s'') s'

theorem cell_has {sc : Scope} {n : Nat} {x : Str} (h : sc.names.lookup x = some .cell) : ∃ c, (cellsFrom n sc.names []).lookup x = some c := by
  have q := PySem.W.cellsFrom_some sc.names n [] (.inl h)
  exact Option.isSome_iff_exists.mp q

theorem inv_start {CX : CXT} {P : Program} {w : World} {K : PySem.W.Frag} {mg : Str → Option Value} {base : Heap} {N ps : List Str} {qual : Str} {scope : Scope} {f : Addr} {cd : Value} {A : Around} {outer : List Env} {s s1 : Shared} {H : Hp} {E : XK} {us : List Value} {vs : List V}
    (S : FnScope N ps scope) (hd : A.handled = none) (e0 : Env0 P w K mg base A outer s H) (hl : vs.length = ps.length) (r : Vals vs us)
    (x : InCallC s s.heap.objs.size (bindL (envOfC qual scope s.heap.objs.size f cd).kindOf (ps.zip us) fun _ => none) (cellsFrom (s.heap.objs.size + 1) scope.names []) (bindC (envOfC qual scope s.heap.objs.size f cd).kindOf (ps.zip us) fun _ => none) s1) :
    Inv (cxOf CX P w K mg base N qual scope f cd A outer s H E) [] (start N vs) H s1 := by
  have hpl : ps.length ≤ N.length := by have := congrArg List.length S.pre; rw [List.length_take] at this; omega
  obtain ⟨h1, tk, rfl, hk⟩ := x.done
  have noA : ∀ b : Addr, b ∉ (cxOf CX P w K mg base N qual scope f cd A outer s H E).ex := fun b z => absurd (show b ∈ ([] : List Addr) from z) (by simp)
  refine ⟨⟨e0.mod, S.kind, rfl, rfl, Nat.le_refl _, fun y z c h1 h2 => ?_, fun y hy => ?_, fun y c _ h => ?_, fun _ => hd, Around.frames_deeper e0.frames, .inr ⟨rfl, rfl⟩, fun b z => absurd z (noA b), e0.bs, e0.bsz, fun b _ _ => noA b, fun b z => absurd z (noA b), e0.funs, e0.frf⟩,
    rfl, e0.bare, Un.kept hk, ⟨_, x.toInCall.ns, fun i y v h1 h2 h3 => ?_⟩, fun y c h => ⟨_, x.cell y c h⟩, e0.hok.fresh (Nat.le_refl _), fun y c h => ?_, fun p hp => absurd (show p ∈ ([] : List (Addr × Obj)) from hp) (by simp), e0.hok.kept hk, ?_⟩
  · exact name_of_addr x.apart (PySem.mem_of_lookup h1) (PySem.mem_of_lookup h2)
  · have hy : scope.names.lookup y = some .cell ∨ scope.names.lookup y = some .free := hy
    rcases hy with hy | hy
    · exact cell_has hy
    · exact absurd rfl (S.nofree _ (PySem.mem_of_lookup hy))
  · exact Nat.le_of_lt (x.above y c (PySem.mem_of_lookup h))
  · have hi : i < vs.length := by
      unfold start at h2
      by_cases hi : i < vs.length
      · exact hi
      · rw [List.getElem?_append_right (by simpa using hi)] at h2
        rw [List.getElem?_replicate] at h2
        split at h2 <;> cases h2
    have ha : vs[i]? = some v := by
      unfold start at h2
      rw [List.getElem?_append_left (by simpa using hi), List.getElem?_map] at h2
      cases e : vs[i]? with
      | none => rw [e] at h2; cases h2
      | some a => rw [e] at h2; cases h2; rfl
    obtain ⟨u, hu, rv⟩ := r.get ha
    have hp : ps[i]? = some y := by
      rw [← S.pre, List.getElem?_take_of_lt (by omega)]; exact h1
    have ndP : ps.Nodup := by rw [← S.pre]; exact S.nd.sublist (List.take_sublist _ _)
    refine ⟨u, rv, ?_⟩
    rcases S.par y (List.mem_of_getElem? hp) with k | k
    · exact .inl ⟨k, bindL_get ndP hp hu k⟩
    · obtain ⟨c, e⟩ := cell_has (n := s.heap.objs.size + 1) k
      refine .inr ⟨.inl k, c, e, ?_⟩
      have q := x.cell y c e
      rw [bindC_get ndP hp hu (by show scope.names.lookup y ≠ _; rw [k]; decide)] at q
      exact q
  · exact e0.hok.fresh (Nat.le_of_lt (x.above y c (PySem.mem_of_lookup h)))
  · unfold start
    show _ = N.length
    rw [List.length_append, List.length_map, List.length_replicate]
    omega

/-- THE RULE: a def (or a method) of the text, by its body. The body's reading t is chosen for each entry; it is run at the parameters' values -/
theorem fn_of {CX : CXT} {P : Program} {w : World} {K : PySem.W.Frag} {mg : Str → Option Value} {base : Heap} {k : Nat} {f : Addr} {name qual : Str} {params : Arguments} {body : List Stmt} {scope : Scope} {dV kV doc pm cdv ct oc : Value} {an od : Option Addr}
    {osl : Array (Option Value)} {N ps : List Str} {sp : Sp} (lk : K.lookup f = some ⟨oc, od, .func (PySem.W.fnOf name qual params body scope dV kV doc pm an cdv ct), osl⟩) (hcd : PySem.W.codeIn K cdv qual = true) (S : FnScope N ps scope)
    (len : ∀ vs H Q E, sp vs H Q E → vs.length = ps.length)
    (hbody : ∀ (A : Around) (outer : List Env) (s : Shared) (H : Hp) (vs : List V) (Q : VK) (E : XK), Room k (A.deeper (envOfC qual scope s.heap.objs.size f cdv)) → sp vs H Q E →
      ∃ t, PSs (cxOf CX P w K mg base N qual scope f cdv A outer s H E) body t ∧ t { nx := fun _ H' => Q .non H', rt := Q } (start N vs) H) :
    FnOk P w K mg base CX (k + 1) f (PySem.W.fnOf name qual params body scope dV kV doc pm an cdv ct) ps sp := by
  refine ⟨len, fun A outer s H args us vs Q E hr e0 hb r hsp => ?_⟩
  have hl := len _ _ _ _ hsp
  have KX : K.In s.heap := e0.mod.kin.keeps fun b o e => (e0.bs b o e).1
  have lim : s.heap.NoLimit := e0.mod.nolimit.keeps fun b o e => (e0.bs b o e).1
  have hkind : ∀ y ∈ ps.zip us, scope.names.lookup y.1 = some .local ∨ (scope.names.lookup y.1 = some .cell ∧ ((cellsFrom (s.heap.objs.size + 1) scope.names []).lookup y.1).isSome = true) := fun ⟨n, v⟩ hy => by
    rcases S.par n (List.of_mem_zip hy).1 with q | q
    · exact .inl q
    · exact .inr ⟨q, PySem.W.cellsFrom_some _ _ _ (.inl q)⟩
  refine codeAny_call_function hr.depth (KX _ _ lk) rfl S.co S.gen rfl (PySem.W.codeRec_of KX hcd) (hb _ _ _ _ ?_)
  refine wpAny_newFunctionEnv_cells S.kind hkind fun env he s1 x => ?_
  subst he
  refine ⟨lim.keeps x.toInCall.keep, codeAny_func ?_⟩
  obtain ⟨t, ht, hq⟩ := hbody A outer s H vs Q E (hr.deeper _) hsp
  have I : Inv (cxOf CX P w K mg base N qual scope f cdv A outer s H E) [] (start N vs) H s1 := inv_start S hr.hd e0 hl r x
  refine wpAny_mono (ht [] s1 (start N vs) H _ I hq) (fun fl s' hs => ?_) fun e s' hs => hs
  have fin : ∀ {σ' : St} {H' : Hp} {v : V} {u : Value}, Inv (cxOf CX P w K mg base N qual scope f cdv A outer s H E) [] σ' H' s' → RelV v u → Q v H' → CE outer P w H s Q u s' :=
    fun {σ' H' v u} J rv q => ⟨v, H', J.os, J.bare, J.base, J.hok, rv, q⟩
  cases fl with
  | ret u =>
    obtain ⟨v, σ', H', J, rv, q⟩ := hs
    exact fin J rv q
  | next =>
    obtain ⟨σ', H', J, q⟩ := hs
    exact fin (v := V.non) (u := Value.none) J rfl q
  | brk =>
    obtain ⟨_, _, _, q⟩ := hs
    exact False.elim q
  | cont =>
    obtain ⟨_, _, _, q⟩ := hs
    exact False.elim q
end L2

namespace L2
open PySem PySem.Spec PyProof.Rows
section
variable {X : Cx} {x : Str} {p pos : Pos} {e : Expr} {es : List Expr} {t : TA} {id T : String} {r : List V → Hp → VK → Prop}

def tCB (r : List V → Hp → VK → Prop) (t : TA) : TE := fun σ H Q => t σ H fun vs H1 => r vs H1 Q
/-- f(e, ..), f a built-in function -/
theorem pe_callB (hc : CallR X (.builtin id) r) (hg : Gl X x) (hm : X.mg x = none) (hv : bootBuiltins x = some (.builtin id)) (ha : PA X (e :: es) t) (hn : x ≠ "__name__" := by decide) (hdb : (x == ("__debug__" : Str)) = false := by decide)
    (he : starEach (e :: es) X.env = (false, eval e X.env) :: starEach es X.env := by rfl) (hpl : (backTo pos (starEach es X.env)).any (·.1) = false := by rfl) : PE X (.Call (.Name x p) (e :: es) [] pos) (tCB r t) := by
  intro pins s σ H Q I h
  refine wpAny_Call_Name_kw (ld_blt I hg hm hv ?_ hn hdb)
  exact PyProof.Rows.callWith_builtin1 (thn (ha pos pins s σ H _ I h) fun us s1 ⟨vs, H1, I1, r1, q1⟩ => hc pins s1 σ H1 vs us Q I1 r1 q1) he hpl
/-- T(e, ..), T a built-in type -/
theorem pe_callTy (hc : CallR X (.type T) r) (hg : Gl X x) (hm : X.mg x = none) (hv : bootBuiltins x = some (.type T)) (ha : PA X (e :: es) t) (hn : x ≠ "__name__" := by decide) (hdb : (x == ("__debug__" : Str)) = false := by decide)
    (he : starEach (e :: es) X.env = (false, eval e X.env) :: starEach es X.env := by rfl) (hpl : (backTo pos (starEach es X.env)).any (·.1) = false := by rfl) : PE X (.Call (.Name x p) (e :: es) [] pos) (tCB r t) := by
  intro pins s σ H Q I h
  refine wpAny_Call_Name_kw (ld_blt I hg hm hv ?_ hn hdb)
  exact PyProof.Rows.callWith_type1 (thn (ha pos pins s σ H _ I h) fun us s1 ⟨vs, H1, I1, r1, q1⟩ => hc pins s1 σ H1 vs us Q I1 r1 q1) he hpl
end
end L2

namespace HT
open PySem PyProof.Rows

/-- t < u of tuples of ints -/
def lexLt : List Int → List Int → Bool
  | [], [] => false
  | [], _ :: _ => true
  | _ :: _, [] => false
  | x :: xs, y :: ys => if x = y then lexLt xs ys else decide (x < y)
section
open PySem.SeqAt
open PySem.AutoSeq1 (wpAny_loadPart')
open PySem.MeetsSeq PySem.MeetsSeq2 PySem.MeetsSeq3

end

section
variable {prog : Program} {w : World} {A : Around} {E : Value → Shared → Prop} {s : Shared}

/-! ### t[a:b], not the whole -/
/-- a slice's bound as a place among n (d where it is left out) -/
def sIx (n d : Nat) : Option Int → Nat
  | none => d
  | some v => if v < 0 then (v + (n : Int)).toNat else min v.toNat n
end
end HT

namespace L2
open PySem PySem.Spec PyProof.Rows

/-! ### the parts of a slice -/
abbrev TO := St → Hp → (Option Int → Hp → Prop) → Prop
/-- a slice's part (left out, or an int) -/
def PO (X : Cx) (e : Option Expr) (t : TO) : Prop :=
  ∀ (pins : List (Addr × Obj)) (s : Shared) (σ : St) (H : Hp) (Q : Option Int → Hp → Prop), Inv X pins σ H s → t σ H Q →
    wpAny (model X.prog X.w) X.A (evalPart e X.env) (fun u s' => ∃ o H', Inv X pins σ H' s' ∧ IsPart u o ∧ Q o H') X.xe s
def tNoPart : TO := fun _ H Q => Q none H
def tPart (t : TE) : TO := fun σ H Q => t σ H fun x H1 => ∃ i, x = .int i ∧ Q (some i) H1

section
variable {X : Cx} {e : Expr} {te : TE} {lo hi : Option Expr} {tl th : TO} {pos p2 : Pos}

/-- what a slice of a value is, by values: the slice object stands at sl -/
def SlR (X : Cx) (r : V → Option Int → Option Int → Hp → VK → Prop) : Prop :=
  ∀ (pins : List (Addr × Obj)) (s : Shared) (σ : St) (H : Hp) (x : V) (v vl vu : Value) (lo hi : Option Int) (sl : Addr) (Q : VK), Inv X pins σ H s → RelV x v → s.heap.IsSliceOf sl vl vu .none → IsPart vl lo → IsPart vu hi → r x lo hi H Q →
    ∃ T id, typeLookup (.type T) "__getitem__" = pure (some (.builtin id)) ∧ s.TypeIs v T ∧ wpAny (model X.prog X.w) X.A (getItem v (.ref sl)) (EP X pins σ Q) X.xe s
theorem SlR.or {r r' : V → Option Int → Option Int → Hp → VK → Prop} (h : SlR X r) (h' : SlR X r') : SlR X (fun x lo hi H Q => r x lo hi H Q ∨ r' x lo hi H Q) := by
  intro pins s σ H x v vl vu lo hi sl Q I rx hs pl pu q
  rcases q with q | q
  · exact h pins s σ H x v vl vu lo hi sl Q I rx hs pl pu q
  · exact h' pins s σ H x v vl vu lo hi sl Q I rx hs pl pu q
def tSl (r : V → Option Int → Option Int → Hp → VK → Prop) (te : TE) (tl th : TO) : TE := fun σ H Q => te σ H fun x H1 => tl σ H1 fun l H2 => th σ H2 fun u H3 => r x l u H3 Q
/-- the items of xs[lo:hi] -/
def cutV (xs : List V) (lo hi : Option Int) : List V := (xs.drop (HT.sIx xs.length 0 lo)).take (HT.sIx xs.length xs.length hi - HT.sIx xs.length 0 lo)
/-- t[lo:hi], not the whole of it (the whole would be t itself) -/
def rSlT (K : PySem.W.Frag) : V → Option Int → Option Int → Hp → VK → Prop := fun x lo hi H Q => ∃ a xs, x = .ref a ∧ SqT K H a xs ∧
  ¬ (HT.sIx xs.length 0 lo = 0 ∧ HT.sIx xs.length xs.length hi = xs.length) ∧ ∀ p, H p = none → Q (.ref p) (upd H p (.tup (cutV xs lo hi)))
/-! ### t < u, t + u -/
def rLtT (K : PySem.W.Frag) : R2 := fun x y H Q => ∃ a b ns ms, x = .ref a ∧ y = .ref b ∧ SqT K H a (ns.map V.int) ∧ SqT K H b (ms.map V.int) ∧ Q (.bl (HT.lexLt ns ms)) H
/-- t + u, t not empty: u empty gives t itself -/
def rCatT (K : PySem.W.Frag) : R2 := fun x y H Q => ∃ a b xs ys, x = .ref a ∧ y = .ref b ∧ SqT K H a xs ∧ SqT K H b ys ∧ xs ≠ [] ∧ xs.length + ys.length ≤ sizeLine ∧
  (ys = [] → Q (.ref a) H) ∧ (ys ≠ [] → ∀ p, H p = none → Q (.ref p) (upd H p (.tup (xs ++ ys))))
end
end L2

namespace L2
open PySem PySem.Spec PyProof.Rows

/-! ### places -/
/-- the place that an index of any sign means -/
def ixN (n : Nat) (i : Int) : Option Nat := if 0 ≤ i then (if i < n then some i.toNat else none) else if -(n : Int) ≤ i then some (i + n).toNat else none
def atI {α : Type} (xs : List α) (i : Int) : Option α := (ixN xs.length i).bind fun j => xs[j]?
theorem ixN_seq {n : Nat} {i : Int} {j : Nat} (h : ixN n i = some j) : seqIndex? i n = some j ∧ j < n ∧ -(n : Int) ≤ i ∧ i < n := by
  unfold ixN at h
  by_cases h0 : 0 ≤ i
  · rw [if_pos h0] at h
    by_cases h1 : i < n
    · rw [if_pos h1] at h
      have e : i.toNat = j := Option.some.inj h
      exact ⟨by rw [seqIndex_of h0 h1, e], by omega, by omega, h1⟩
    · rw [if_neg h1] at h; cases h
  · rw [if_neg h0] at h
    by_cases h1 : -(n : Int) ≤ i
    · rw [if_pos h1] at h
      have e : (i + n).toNat = j := Option.some.inj h
      exact ⟨by rw [seqIndex_neg (by omega) h1, e], by omega, h1, by omega⟩
    · rw [if_neg h1] at h; cases h
theorem atI_get {α : Type} {xs : List α} {i : Int} {v : α} (h : atI xs i = some v) : ∃ j, seqIndex? i xs.length = some j ∧ xs[j]? = some v ∧ j < xs.length ∧ -(xs.length : Int) ≤ i ∧ i < xs.length := by
  unfold atI at h
  cases e : ixN xs.length i with
  | none => rw [e] at h; cases h
  | some j =>
    rw [e] at h
    obtain ⟨h1, h2, h3, h4⟩ := ixN_seq e
    exact ⟨j, h1, h, h2, h3, h4⟩
theorem atI_nat {α : Type} {xs : List α} {j : Nat} {v : α} (h : xs[j]? = some v) : atI xs (j : Int) = some v := by
  have hj : j < xs.length := (List.getElem?_eq_some_iff.mp h).1
  have e : ixN xs.length (j : Int) = some j := by
    unfold ixN
    rw [if_pos (by omega), if_pos (by omega)]; simp
  unfold atI; rw [e]; exact h
/-! ### what may be subscripted -/
/-- what stands as an index of a plain subscript -/
def PlainIx (b : Expr) : Prop := ∀ o i, subscripted b false o i = operate [o, i] (getItem o i)
/-- a subscript by values -/
def IxR (X : Cx) (r : R2) : Prop :=
  ∀ (value slice : Expr) (pins : List (Addr × Obj)) (s : Shared) (σ : St) (H : Hp) (x y : V) (v u : Value) (Q : VK), Inv X pins σ H s → RelV x v → RelV y u → r x y H Q →
    subscripted slice false v u = operate [v, u] (getItem v u) → wpAny (model X.prog X.w) X.A (subscriptTail value slice v u) (EP X pins σ Q) X.xe s
/-- a call of a builtin's method by values: the receiver, the arguments -/
def MtR (X : Cx) (id : String) (r : V → List V → Hp → VK → Prop) : Prop :=
  ∀ (pins : List (Addr × Obj)) (s : Shared) (σ : St) (H : Hp) (x : V) (xs : List V) (v : Value) (us : List Value) (Q : VK), Inv X pins σ H s → RelV x v → Vals xs us → r x xs H Q →
    wpAny (model X.prog X.w) X.A (call (.builtin id) (v :: us)) (EP X pins σ Q) X.xe s
section
variable {X : Cx} {a b : Expr} {ta tb : TE} {pos : Pos}
theorem IxR.or {r r' : R2} (h : IxR X r) (h' : IxR X r') : IxR X (fun x y H Q => r x y H Q ∨ r' x y H Q) := by
  intro value slice pins s σ H x y v u Q I rx ry q hs
  rcases q with q | q
  · exact h value slice pins s σ H x y v u Q I rx ry q hs
  · exact h' value slice pins s σ H x y v u Q I rx ry q hs
theorem MtR.or {id : String} {r r' : V → List V → Hp → VK → Prop} (h : MtR X id r) (h' : MtR X id r') : MtR X id (fun x xs H Q => r x xs H Q ∨ r' x xs H Q) := by
  intro pins s σ H x xs v us Q I rx rs q
  rcases q with q | q
  · exact h pins s σ H x xs v us Q I rx rs q
  · exact h' pins s σ H x xs v us Q I rx rs q
/-- a[b] -/
theorem pe_ix {r : R2} (hr : IxR X r) (ha : PE X a ta) (hb : PE X b tb) (hs : PlainIx b) : PE X (.Subscript a b pos) (tOp r ta tb) := by
  intro pins s σ H Q I h
  exact Subscript_ (binT ha hb I h fun v u s2 x y H2 I2 rx ry q => hr a b pins s2 σ H2 x y v u Q I2 rx ry q (hs _ _))

def rIxL (K : PySem.W.Frag) : R2 := fun x y H Q => ∃ p xs i v, x = .ref p ∧ y = .int i ∧ SqL K H p xs ∧ atI xs i = some v ∧ Q v H
def rIxT (K : PySem.W.Frag) : R2 := fun x y H Q => ∃ p xs i v, x = .ref p ∧ y = .int i ∧ SqT K H p xs ∧ atI xs i = some v ∧ Q v H
def rIxS : R2 := fun x y H Q => ∃ z i c, x = .str z ∧ y = .int i ∧ z.length ≤ sizeLine ∧ atI z.cps.toList i = some c ∧ Q (.str ⟨#[c]⟩) H
theorem ix_list : IxR X (rIxL X.K) := by
  intro value slice pins s σ H x y v u Q I rx ry h hs
  obtain ⟨p, xs, i, z, rfl, rfl, hq, he, q⟩ := h
  cases rx
  obtain ⟨t, rfl⟩ := ry
  obtain ⟨its, r, pl, hz⟩ := I.list hq
  obtain ⟨j, h1, h2, h3, h4, h5⟩ := atI_get he
  obtain ⟨w, ew, rw'⟩ := r.get h2
  have hl := r.length
  have hn := line63
  have fin : EP X pins σ Q w s := ⟨z, H, I, rw', q⟩
  by_cases h0 : 0 ≤ i
  · have hj : i.toNat = j := by
      rw [seqIndex_of h0 h5] at h1
      exact Option.some.inj h1
    exact item_listR pl.isList h0 (by omega) (by rw [hj]; simpa using ew) fin hs
  · have hj : (i + (its.toArray.size : Int)).toNat = j := by
      rw [seqIndex_neg (by omega) h4] at h1
      rw [List.size_toArray, ← hl]
      exact Option.some.inj h1
    exact subscriptTail_builtinR (x := w) pl.isList.typeIs slot_list_getitem.lookup
      (wpAny_getItem_list_neg (Q := fun r s' => r = w ∧ EP X pins σ Q r s') pl.isList (by omega) (by rw [List.size_toArray] <;> omega) (by omega) (by rw [hj]; simpa using ew) ⟨rfl, fin⟩) hs
theorem ix_tup : IxR X (rIxT X.K) := by
  intro value slice pins s σ H x y v u Q I rx ry h hs
  obtain ⟨p, xs, i, z, rfl, rfl, hq, he, q⟩ := h
  cases rx
  obtain ⟨t, rfl⟩ := ry
  obtain ⟨its, r, pl, hz⟩ := I.tuple hq
  obtain ⟨j, h1, h2, h3, h4, h5⟩ := atI_get he
  obtain ⟨w, ew, rw'⟩ := r.get h2
  have hl := r.length
  have hn := line63
  have fin : EP X pins σ Q w s := ⟨z, H, I, rw', q⟩
  exact subscriptTail_builtinR (x := w) pl.typeIs slot_tuple_getitem.lookup
    (getItem_tuple (j := j) (Q := fun r s' => r = w ∧ EP X pins σ Q r s') pl (by omega) (by omega) (by rw [List.size_toArray, ← hl]; exact h1) (by simpa using ew) ⟨rfl, fin⟩) hs
/-- list, tuple or str -/
def rIx (K : PySem.W.Frag) : R2 := fun x y H Q => rIxL K x y H Q ∨ rIxT K x y H Q ∨ rIxS x y H Q
/-! ### xs[i] = v, any sign -/
theorem Inv.lst {pins : List (Addr × Obj)} {σ : St} {H : Hp} {s : Shared} {p : Addr} {xs : List V} (I : Inv X pins σ H s) (h : H p = some (.lst xs)) :
    ∃ (its : List Value) (n : Nat), Vals xs its ∧ s.heap.get? p = some { cls := .type "list", data := .seq its.toArray n } ∧ xs.length ≤ sizeLine := by
  obtain ⟨z, its, n, r, e⟩ := I.hok p _ h
  exact ⟨its, n, r, e, z⟩
def rSetL : V → V → V → Hp → (Hp → Prop) → Prop := fun o i v H Q => ∃ p xs k j, o = .ref p ∧ i = .int k ∧ H p = some (.lst xs) ∧ ixN xs.length k = some j ∧ Q (upd H p (.lst (xs.set j v)))
/-! ### slices -/
/-- xs[lo:hi] of a list: a new list -/
def rSlL (K : PySem.W.Frag) : V → Option Int → Option Int → Hp → VK → Prop := fun x lo hi H Q => ∃ a xs, x = .ref a ∧ SqL K H a xs ∧ ∀ p, H p = none → Q (.ref p) (upd H p (.lst (cutV xs lo hi)))
/-! ### in, not in: flat items -/
def flatV : V → Bool
  | .non => true
  | .bl _ => true
  | .int _ => true
  | .str _ => true
  | _ => false
/-- == of flat values -/
def eqV : V → V → Bool
  | .non, .non => true
  | .bl a, .bl b => a == b
  | .bl a, .int b => (if a then 1 else 0) == b
  | .int a, .bl b => a == (if b then 1 else 0)
  | .int a, .int b => a == b
  | .str a, .str b => a == b
  | _, _ => false
/-- the items' answers, read off the values (a value's own answer does not lean on its token) -/
def eqU (x : V) (u : Value) : Bool := match u with
  | .none => eqV .non x
  | .bool b => eqV (.bl b) x
  | .int i _ => eqV (.int i) x
  | .str z _ => eqV (.str z) x
  | _ => false
def inV (x : V) (xs : List V) : Bool := xs.any fun y => eqV y x
/-- x in a list or tuple of flat items -/
def rIn (K : PySem.W.Frag) (neg : Bool) : R2 := fun x y H Q => ∃ p xs, y = .ref p ∧ (SqL K H p xs ∨ SqT K H p xs) ∧ flatV x = true ∧ xs.all flatV = true ∧ Q (.bl (if neg then !inV x xs else inV x xs)) H
/-! ### len, list(x), tuple(x) of any list or tuple that is read -/
theorem CallR.or {f : Value} {r r' : List V → Hp → VK → Prop} (h : CallR X f r) (h' : CallR X f r') : CallR X f (fun xs H Q => r xs H Q ∨ r' xs H Q) := by
  intro pins s σ H xs us Q I rs q
  rcases q with q | q
  · exact h pins s σ H xs us Q I rs q
  · exact h' pins s σ H xs us Q I rs q
/-! ### the call of a builtin's method: o.m(..) -/
/-- the value is of that builtin type -/
def tyV (K : PySem.W.Frag) (T : String) (x : V) (H : Hp) : Prop := match x with
  | .str _ => T = "str"
  | .int _ => T = "int"
  | .ref p => (T = "list" ∧ ∃ xs, SqL K H p xs) ∨ (T = "tuple" ∧ ∃ o, K.lookup p = some o ∧ o.cls = .type "tuple" ∧ o.dict = none) ∨
      (T = "dict" ∧ ((∃ kvs, H p = some (.dK kvs)) ∨ ∃ kvs, H p = some (.dT kvs))) ∨ (T = "set" ∧ ∃ S n, H p = some (.set S n))
  | _ => False
def tBM0 (K : PySem.W.Frag) (T : String) (r : V → List V → Hp → VK → Prop) (to : TE) : TE := fun σ H Q => to σ H fun x H1 => tyV K T x H1 ∧ r x [] H1 Q
def tBM (K : PySem.W.Frag) (T : String) (r : V → List V → Hp → VK → Prop) (to : TE) (t : TA) : TE := fun σ H Q => to σ H fun x H1 => tyV K T x H1 ∧ t σ H1 fun xs H2 => r x xs H2 Q
variable {o e : Expr} {es : List Expr} {to : TE} {t : TA} {name : Str} {apos cpos : Pos} {T id : String} {r : V → List V → Hp → VK → Prop}
/- xs.append(e), list.index on a module's tuple .. are MtR facts of 06m -/
end
end L2

namespace L2
open PySem PySem.Spec PyProof.Rows

def MtM (X : Cx) (id : String) (r : V → List V → Hp → VK → Prop) : Prop :=
  ∀ (pins : List (Addr × Obj)) (s : Shared) (σ : St) (H : Hp) (x : V) (xs : List V) (v : Value) (us : List Value) (Q : VK), Inv X pins σ H s → RelV x v → Vals xs us → r x xs H Q →
    wpAny (model X.prog X.w) X.A (call (.builtin id) (v :: us)) (EP X pins σ Q) X.xe s

/-! ### lists of values -/
theorem Vals.one : ∀ {x : V} {us : List Value}, Vals [x] us → ∃ u, us = [u] ∧ RelV x u
  | _, _, .cons r .nil => ⟨_, rfl, r⟩
theorem Vals.two : ∀ {x y : V} {us : List Value}, Vals [x, y] us → ∃ u v, us = [u, v] ∧ RelV x u ∧ RelV y v
  | _, _, _, .cons r (.cons q .nil) => ⟨_, _, rfl, r, q⟩
theorem Vals.zero : ∀ {us : List Value}, Vals [] us → us = []
  | _, .nil => rfl
theorem Vals.dropLast {xs : List V} {us : List Value} (h : Vals xs us) : Vals xs.dropLast us.dropLast := by
  induction h with
  | nil => exact .nil
  | cons r t ih =>
    cases t with
    | nil => exact .nil
    | cons q t' => exact .cons r ih
theorem Vals.eraseIdx : ∀ {xs : List V} {us : List Value} (i : Nat), Vals xs us → Vals (xs.eraseIdx i) (us.eraseIdx i)
  | _, _, _, .nil => .nil
  | _, _, 0, .cons _ t => t
  | _, _, i + 1, .cons r t => .cons r (Vals.eraseIdx i t)
theorem Vals.reverse {xs : List V} {us : List Value} (h : Vals xs us) : Vals xs.reverse us.reverse := by
  induction h with
  | nil => exact .nil
  | cons r t ih => rw [List.reverse_cons, List.reverse_cons]; exact Vals.append ih (.cons r .nil)
theorem Vals.rep {xs : List V} {us : List Value} (h : Vals xs us) : ∀ k : Nat, Vals (List.replicate k xs).flatten (List.replicate k us).flatten
  | 0 => .nil
  | k + 1 => by
    rw [List.replicate_succ, List.replicate_succ, List.flatten_cons, List.flatten_cons]
    exact Vals.append h (Vals.rep h k)
section
variable {X : Cx} {pins : List (Addr × Obj)} {σ : St} {H : Hp} {s : Shared} {l b : Addr} {xs ys zs : List V}

/-! ### the two steps: a tracked list is rewritten, a new list is laid -/
theorem Inv.lset {its its' : List Value} {n : Nat} {f : Array Value → Array Value} {t' : Nat} (I : Inv X pins σ H s) (hH : H l = some (.lst xs))
    (e : s.heap.get? l = some { cls := .type "list", data := .seq its.toArray n }) (hf : f its.toArray = its'.toArray) (hv : Vals ys its') (hz : ys.length ≤ sizeLine) :
    Inv X pins σ (upd H l (.lst ys)) { s with heap := s.heap.update l (Obj.mapSeq f), toks := t' } := by
  have q := PySem.IsL.update e f
  rw [hf] at q
  refine I.write (x := l) (e := l) (by rw [hH]; exact trivial) (.inl rfl) (fun b' u hb hu => (Heap.get?_update_other s.heap (Obj.mapSeq f) (Ne.symm hb)).trans hu) ⟨_, q⟩ ?_
  exact ⟨hz, its', _, hv, q⟩
theorem Inv.lnew {its : List Value} {t' : Nat} (I : Inv X pins σ H s) (hv : Vals ys its) (hz : ys.length ≤ sizeLine) :
    Inv X pins σ (upd H s.heap.objs.size (.lst ys)) { s with heap := s.heap.push { cls := .type "list", data := .seq its.toArray }, toks := t' } :=
  I.laid (fun _ _ q => Heap.get?_push_of_some _ q) (Nat.le_refl _) ⟨hz, its, 0, hv, Heap.get?_push_size _ rfl⟩
theorem Inv.fresh (I : Inv X pins σ H s) : H s.heap.objs.size = none := I.hok.fresh (Nat.le_refl _)
theorem Inv.lstM (I : Inv X pins σ H s) (hH : H l = some (.lst xs)) : xs.length ≤ sizeLine ∧ ∃ (its : List Value) (n : Nat), Vals xs its ∧ xs.length = its.length ∧ s.heap.get? l = some { cls := .type "list", data := .seq its.toArray n } := by
  obtain ⟨z, its, n, r, e⟩ := I.hok l _ hH
  exact ⟨z, its, n, r, r.length, e⟩

end

section
variable {X : Cx}

/-! ### methods -/
def rAppend : V → List V → Hp → VK → Prop := fun x vs H Q => ∃ l xs y, x = .ref l ∧ vs = [y] ∧ H l = some (.lst xs) ∧ xs.length < sizeLine ∧ Q .non (upd H l (.lst (xs ++ [y])))
theorem mt_append : MtM X "list.append" rAppend := by
  intro pins s σ H x vs v us Q I rx rv h
  obtain ⟨l, xs, y, rfl, rfl, hH, hz, q⟩ := h
  cases rx
  obtain ⟨u, rfl, ru⟩ := rv.one
  obtain ⟨z, its, n, r, hl, e⟩ := I.lstM hH
  refine call_meets F.slot_list_append ⟨_, e, rfl⟩ F.entry_list_append (F.args_list_append_2 _ _) (PySem.list_append l its.toArray n u (by rw [List.size_toArray]; omega)) ⟨e, ?_⟩
  refine ⟨.non, _, I.lset (its' := its ++ [u]) hH e (by simp) (r.append (.cons ru .nil)) ?_, rfl, q⟩
  rw [List.length_append, List.length_singleton]
  omega

def rExtend : V → List V → Hp → VK → Prop := fun x vs H Q => ∃ l b xs zs, x = .ref l ∧ vs = [.ref b] ∧ H l = some (.lst xs) ∧ H b = some (.lst zs) ∧ xs.length + zs.length ≤ sizeLine ∧ Q .non (upd H l (.lst (xs ++ zs)))
def rPop : V → List V → Hp → VK → Prop := fun x vs H Q => ∃ l xs y, x = .ref l ∧ vs = [] ∧ H l = some (.lst xs) ∧ xs[xs.length - 1]? = some y ∧ Q y (upd H l (.lst xs.dropLast))
def rPopAt : V → List V → Hp → VK → Prop := fun x vs H Q => ∃ l xs i k y, x = .ref l ∧ vs = [.int i] ∧ H l = some (.lst xs) ∧ -(2 ^ 63) ≤ i ∧ i < 2 ^ 63 ∧ seqIndex? i xs.length = some k ∧ xs[k]? = some y ∧ Q y (upd H l (.lst (xs.eraseIdx k)))
def rReverse : V → List V → Hp → VK → Prop := fun x vs H Q => ∃ l xs, x = .ref l ∧ vs = [] ∧ H l = some (.lst xs) ∧ Q .non (upd H l (.lst xs.reverse))
def rClear : V → List V → Hp → VK → Prop := fun x vs H Q => ∃ l xs, x = .ref l ∧ vs = [] ∧ H l = some (.lst xs) ∧ Q .non (upd H l (.lst []))
/-! ### list + list, list += list, list * int -/
def rCat : R2 := fun x y H Q => ∃ l b xs zs, x = .ref l ∧ y = .ref b ∧ H l = some (.lst xs) ∧ H b = some (.lst zs) ∧ xs.length + zs.length ≤ sizeLine ∧ ∀ p, H p = none → Q (.ref p) (upd H p (.lst (xs ++ zs)))
/-- a list times an int (a negative one is nothing) -/
def rRep : R2 := fun x y H Q => ∃ l k xs, x = .ref l ∧ y = .int k ∧ H l = some (.lst xs) ∧ -(2 ^ 63) ≤ k ∧ k < 2 ^ 63 ∧ xs.length * k.toNat ≤ sizeLine ∧
  ∀ p, H p = none → Q (.ref p) (upd H p (.lst (List.replicate k.toNat xs).flatten))
/-! ### del xs[i] -/
end

/-! ### xs[a:b] = ys -/
section
variable {prog : Program} {w : World} {A : Around} {E : Value → Shared → Prop} {s : Shared}
set_option maxRecDepth 100000 in
end

section
variable {X : Cx}
end
end L2

namespace Att
open PySem PySem.W PySem.Calls PyProof.Rows

/-! ### the script -/
theorem ints_of_wellAll {P : Params} {h : Heap} : ∀ (ns : List Int) (vs : List Value), WellAll P h vs (ns.map WData.int) → IntsAre vs ns := by
  intro ns
  induction ns with
  | nil =>
    intro vs w
    rw [List.map_nil] at w
    cases w
    exact .nil
  | cons n ns ih =>
    intro vs w
    rw [List.map_cons] at w
    cases w with
    | cons a b =>
      cases a
      exact .cons _ _ (ih _ b)

theorem script_of {l : OpenLaw} {n : Nat} (hn : l.most = some n) {P : Params} {h : Heap} {args : List WData} {vals : List Value}
    (hpre : l.row.toRowW.claim.pre args = true) (hwl : WellAll P h vals args) :
    ∃ a vs ns, vals = [Value.ref a] ∧ args = [WData.list (ns.map WData.int)] ∧ h.get? a = some { cls := .type "list", data := .seq vs.toArray } ∧ IntsAre vs ns ∧ ns.length ≤ n := by
  have hsh : WShape.hasAll [] args [.list .int] = true := (pre_splitW hpre).1
  have hc : l.pre.holds [] { args := args } = true := (pre_splitW hpre).2
  obtain ⟨d, r, rfl, h1, h2⟩ := hasAllW_cons hsh
  obtain rfl := hasAllW_nil h2
  obtain ⟨xs, rfl, h3⟩ := hasW_list h1
  obtain ⟨ns, rfl⟩ := items_int h3
  have hlen : ns.length ≤ n := by
    unfold OpenLaw.pre at hc
    have h4 : (WTm.not (.lt (.lit (.int (n : Int))) (.len (.arg 0)))).holds [] { args := [.list (ns.map .int)] } = true := by
      have h4 := (holds_andW hc).1
      rw [hn] at h4
      exact h4
    have h5 := condW_of h4 (w_not (w_lt w_lit (w_len_list (w_arg rfl))))
    rw [List.length_map] at h5
    refine Nat.le_of_not_lt fun q => ?_
    have q' : (n : Int) < ((ns.length : Nat) : Int) := by omega
    first
      | (rw [decide_eq_true q'] at h5; exact absurd h5 (by decide))
      | (simp at h5; omega)
  cases hwl with
  | cons w1 w2 =>
    cases w2
    cases w1 with
    | list ho hall => exact ⟨_, _, ns, rfl, rfl, ho, ints_of_wellAll ns _ hall, hlen⟩

theorem post_true (l : OpenLaw) (args : List WData) : l.row.toRowW.claim.post args (.bool true) args = true :=
  postW_of (r := l.row.toRowW) (X := (true == true))
    (show WShape.has [] (.bool true) .bool = true by first | rfl | decide | simp [WShape.has, WShape.arms, WShape.armsAll])
    (show (WTm.eq .res (.lit (.bool true))).value [] { args := args, res := some (.bool true), after := args } = some (.bool (true == true)) from w_eq_bool (w_res rfl) w_lit) rfl

/-! ### the attachment: holds_open's last premise (the goal 'hc' behind k_head) from a wpAny of the law's body -/
/-- the same from a codeAny of the CALL (for a layer whose function contracts speak of calls) -/
theorem attach_call {l : OpenLaw} {n : Nat} {q : Program} {loose : List Str} {XP : (Str → Option Value) → Heap → Prop} {YP : World → Heap → Prop} {d : DefRec}
    (hn : l.most = some n) (hdf : d.params.defaults = [])
    (call : ∀ (w : World) (s₀ s₁ : Shared) (mg mb : Str → Option Value) (fa : Addr) (o : Obj) (pm cd doc : Value) (a : Addr) (vs : List Value) (ns : List Int),
      Ground q loose [] XP w s₀ mg mb s₁.heap → YP w s₁.heap →
      s₁.heap.get? fa = some o → o.data = .func (docDef d.name d.params d.body d.scope pm cd doc) → s₁.heap.CodeRec cd d.name → mg d.name = some (.ref fa) →
      s₁.heap.get? a = some { cls := .type "list", data := .seq vs.toArray } → IntsAre vs ns → ns.length ≤ n → s₁.gens = #[] →
      codeAny (model l.prog w) callerA (.call (.ref fa) ⟨[.ref a], []⟩) (fun r s' => r = .ok (.ret (.bool true)) ∧ OldK s₁.heap s'.heap ∧ s'.os = s₁.os ∧ AllBare s'.gens) s₁) :
    WalkO q loose XP YP l.row.toRowW d [] (fun f vs => PySem.call f vs) := by
  intro w s₀ s₁ mg mb G Y fa o pm cd doc dV kV ho hd hcd hD hmg hg args vals as hpre hlay hrd hwl hlo
  obtain rfl : dV = .none := Dflts.none hD hdf
  obtain rfl : kV = .none := Dflts.noKw hD
  obtain ⟨a, vs, ns, rfl, rfl, hobj, hints, hlen⟩ := script_of hn hpre hwl
  refine enter_call (codeAny_mono (call w s₀ s₁ mg mb fa o pm cd doc a vs ns G Y ho (fd_plain hd) hcd hmg hobj hints hlen hg) fun r s' hq => ?_)
  obtain ⟨rfl, h2, h3, h4⟩ := hq
  exact ⟨.inl ⟨.bool true, .bool true, [], rfl, fun _ => rfl, .bool true, post_true l _, fun _ => ⟨List.Pairwise.nil, fun _ hm => (nomatch hm)⟩⟩, h2, h3, h4⟩

/-! ### rules over ANY heap (no ledger) from facts about the written part K: the library's own take a ledger (News) for what they write -/
section
variable {prog : Program} {w : World} {A : Around} {E : Value → Shared → Prop} {s : Shared} {K : Frag}

/-! the whole heap as the ledger: makes every rule that writes through a ledger a rule over any heap -/
def noObjs (h : Heap) : Heap := { h with objs := #[] }
def ledger (h : Heap) (L d : Addr) : List (Addr × Obj) := (List.range h.objs.size).filterMap fun a => if a = L ∨ a = d then none else (h.get? a).map fun o => (a, o)
end
end Att

namespace L2
open PySem PySem.Spec PyProof.Rows

theorem vals_ints : ∀ {vs : List Value} {ns : List Int}, IntsAre vs ns → Vals (ns.map V.int) vs
  | _, _, .nil => .nil
  | _, _, .cons n t h => .cons ⟨t, rfl⟩ (vals_ints h)

/-- nothing is tracked but the script, known to the object (or it is an object of the module) -/
def Only (H : Hp) : Prop := ∀ b, H b = none ∨ ∃ o xs, H b = some (.frz o (.lst xs))

/-- THE HEAD: the law's promise, at the heap behind the top. F, the promise of the law's def, may use that base is part of the heap (so K.In base, base.Ns mainGlobals mg stand in Mod) -/
theorem law_call {P : Program} {w : World} {K : PySem.W.Frag} {mg mb : Str → Option Value} {CX : CXT} {k : Nat} {fa a : Addr} {fd : FuncData} {x : Str} {sp : Sp} {s₁ : Shared} {vs : List Value} {ns : List Int}
    (KX : K.In s₁.heap) (hns : s₁.heap.Ns mainGlobals mg) (hb : s₁.heap.Ns builtinsNs mb) (hbb : ∀ x : Str, x ≠ "__name__" → mb x = bootBuiltins x) (hlim : s₁.heap.NoLimit) (hg : s₁.gens = #[])
    (ha : s₁.heap.get? a = some { cls := .type "list", data := .seq vs.toArray }) (hi : IntsAre vs ns) (hl : ns.length ≤ sizeLine) (hr : Room k callerA)
    (F : ∀ base : Heap, K.In base → base.Ns mainGlobals mg → FnOk P w K mg base CX k fa fd [x] sp) (hbind : ∀ (s : Shared) (u : Value), BindsTo s fd ⟨[u], []⟩ [(x, u)])
    (hsp : ∀ H : Hp, Only H → SqL K H a (ns.map V.int) → sp [.ref a] H (fun v _ => v = .bl true) fun _ _ _ => False)
    (hCX : ∀ H e s', CX [] H s₁ (fun _ _ _ => False) e s' → False) :
    codeAny (model P w) callerA (.call (.ref fa) ⟨[.ref a], []⟩) (fun r s' => r = .ok (.ret (.bool true)) ∧ OldK s₁.heap s'.heap ∧ s'.os = s₁.os ∧ AllBare s'.gens) s₁ := by
  have rv := vals_ints hi
  have lenV := hi.length
  -- from an abstract heap in which nothing but the script may be tracked
  have core : ∀ H : Hp, Only H → SqL K H a (ns.map V.int) → HOk P w H s₁.heap → (∀ b, H b ≠ none → b = a) → (H a ≠ none → K.lookup a = none) →
      codeAny (model P w) callerA (.call (.ref fa) ⟨[.ref a], []⟩) (fun r s' => r = .ok (.ret (.bool true)) ∧ OldK s₁.heap s'.heap ∧ s'.os = s₁.os ∧ AllBare s'.gens) s₁ := by
    intro H hO hS hok hA hK
    have base_of : ∀ {b : Addr} {o : Obj}, s₁.heap.get? b = some o → H b = none → (hidT s₁.heap H).get? b = some o := fun e n => hidT_get e n
    have noA : ∀ {b : Addr} {o : Obj} {es : Array DictEntry} {ep : Nat}, s₁.heap.get? b = some o → o.data = .dict es ep → H b = none := fun {b o es ep} e d => by
      cases q : H b with
      | none => rfl
      | some u =>
        have e' : b = a := hA b (by rw [q]; simp)
        subst e'
        rw [ha] at e; cases e
        have d' : Data.seq vs.toArray _ = Data.dict es ep := d
        cases d'
    have nsK : ∀ {b : Addr} {m : Str → Option Value}, s₁.heap.Ns b m → (hidT s₁.heap H).Ns b m := fun {b m} ⟨o, es, ep, e, d, r⟩ => ⟨o, es, ep, base_of e (noA e d), d, r⟩
    have hKb : K.In (hidT s₁.heap H) := fun b o e => base_of (KX b o e) (by
      cases q : H b with
      | none => rfl
      | some u =>
        have e' : b = a := hA b (by rw [q]; simp)
        subst e'
        rw [hK (by rw [q]; simp)] at e; cases e)
    have hM : Mod K mg (hidT s₁.heap H) := ⟨hKb, nsK hns, ⟨mb, nsK hb, hbb⟩, let ⟨mc, h1, h2⟩ := hlim; ⟨mc, nsK h1, h2⟩⟩
    have e0 : Env0 P w K mg (hidT s₁.heap H) callerA [] s₁ H := ⟨rfl, hM, fun b o e => of_hidT e, Nat.le_of_eq (hidT_size _ _), trivial, fun b hb => absurd (show b ∈ ([] : List Addr) from hb) (by simp), hok, .of_eq hg⟩
    refine codeAny_mono ((F _ hKb (nsK hns)).run callerA [] s₁ H ⟨[.ref a], []⟩ [.ref a] [.ref a] _ _ hr e0 (hbind s₁ (.ref a)) (.cons rfl .nil) (hsp H hO hS)) fun r s' h => ?_
    cases r with
    | error e => exact (hCX H e s' h).elim
    | ok fl =>
      cases fl with
      | next => exact False.elim h
      | brk => exact False.elim h
      | cont => exact False.elim h
      | ret u =>
        obtain ⟨v, H', os, bare, un, hok', r', q⟩ := h
        have q' : v = .bl true := q
        subst q'
        obtain rfl : u = Value.bool true := r'
        refine ⟨rfl, OldK.of_keep fun b o e => ?_, os, bare⟩
        cases q : H b with
        | none => exact un.keep b o e q (by intro z; exact absurd (show b ∈ ([] : List Addr) from z) (by simp)) (by simp)
        | some u =>
          rcases hO b with z | ⟨ob, xs, z⟩
          · rw [q] at z; cases z
          · have z2 := un.frzs b ob _ z
            obtain ⟨e1, _⟩ := hok b _ z
            obtain ⟨e2, _⟩ := hok' b _ z2
            rw [e] at e1; cases e1
            exact e2
  cases hk : K.lookup a with
  | some o =>
    -- the script is one of the module's own objects
    have e := KX a o hk
    rw [ha] at e
    cases e
    refine core (fun _ => none) (fun _ => .inl rfl) (.inr ⟨_, vs.toArray, _, hk, rfl, rfl, rfl, by rw [List.size_toArray, lenV]; exact hl, by simpa using rv⟩) (fun b u z => by have z' : (none : Option HO) = some u := z; cases z') (fun b z => absurd rfl z) fun z => absurd rfl z
  | none =>
    refine core (fun b => if b = a then some (.frz { cls := .type "list", data := .seq vs.toArray } (.lst (ns.map V.int))) else none) (fun b => ?_) (.inl (.inr ⟨{ cls := .type "list", data := .seq vs.toArray }, if_pos rfl⟩)) (fun b u z => ?_) (fun b z => ?_) fun _ => hk
    · by_cases hb : b = a
      · exact .inr ⟨_, _, if_pos hb⟩
      · exact .inl (if_neg hb)
    · by_cases hb : b = a
      · have z' := (if_pos hb).symm.trans z
        cases z'
        subst hb
        exact ⟨ha, by rw [List.length_map]; exact hl, vs, _, rv, ha⟩
      · have z' := (if_neg hb).symm.trans z
        cases z'
    · by_cases hb : b = a
      · exact hb
      · exact absurd (if_neg hb) z
end L2

namespace L2
open PySem PySem.Spec PyProof.Rows

abbrev KOf {K : PySem.W.Frag} {h : Heap} (_ : K.In h) : PySem.W.Frag := K

/-- the goal that k_head leaves (case hc), from the law's promise. F gives the function object fd (K's own) once, then the promise over every base -/
theorem walk_of {l : PySem.W.OpenLaw} {n k : Nat} {q : Program} {loose : List Str} {XP : (Str → Option Value) → Heap → Prop} {YP : World → Heap → Prop} {d : DefRec} {K : Params → PySem.W.Frag} {CX : World → CXT} {sp : World → Sp} {x : Str}
    (hn : l.most = some n) (hn2 : n ≤ sizeLine) (hdf : d.params.defaults = []) (hr : Room k callerA)
    (hY : ∀ (w : World) (h : Heap), YP w h → (K w.params).In h)
    (F : ∀ (w : World) (mg : Str → Option Value) (fa : Addr) (h : Heap), (K w.params).In h → h.Ns mainGlobals mg → mg d.name = some (.ref fa) →
      ∃ fd : FuncData, (∀ (s : Shared) (u : Value), BindsTo s fd ⟨[u], []⟩ [(x, u)]) ∧
        ∀ base : Heap, (K w.params).In base → base.Ns mainGlobals mg → FnOk l.prog w (K w.params) mg base (CX w) k fa fd [x] (sp w))
    (hsp : ∀ (w : World) (H : Hp) (a : Addr) (ns : List Int), ns.length ≤ n → Only H → SqL (K w.params) H a (ns.map V.int) → sp w [.ref a] H (fun v _ => v = .bl true) fun _ _ _ => False)
    (hCX : ∀ (w : World) (H : Hp) (s : Shared) (e : Value) (s' : Shared), CX w [] H s (fun _ _ _ => False) e s' → False) :
    PySem.W.WalkO q loose XP YP l.row.toRowW d [] (fun f vs => PySem.call f vs) := by
  refine Att.attach_call hn hdf fun w s₀ s₁ mg mb fa o pm cd doc a vs ns G Y ho hd hcd hmg hobj hints hlen hg => ?_
  have KX := hY w _ Y
  obtain ⟨fd, hb, hF⟩ := F w mg fa _ KX G.T.g hmg
  exact law_call KX G.T.g G.T.b G.T.builtins G.T.nolimit hg hobj hints (Nat.le_trans hlen hn2) hr hF hb (fun H hO hS => hsp w H a ns hlen hO hS) fun H e s' => hCX w H s₁ e s'
end L2

/- THE LAST THEOREM (shape; LID, My.* are yours):
   My.Adr: a structure of the addresses that your layer names (classes, functions); My.Txt K t: a structure (Prop) of the equations over K;
   My.txt_mk : {K} {implicit addresses ..} (e1 : nsIn K mainGlobals "law" = some (some (.ref f))) (e2 : K.lookup f = some ⟨oc, od, .func (fnOf "law" "law" params body scope dV kV doc pm an cdv ct), sl⟩) (e3 : codeIn K cdv "law" = true) .. : ∃ t, My.Txt K t

set_option maxRecDepth 100000 in
set_option maxHeartbeats 0 in
(the tactic k_is has no namespace: write k_is) -/

/-! SHORT WORDS over the layer: a def of the text, its body, what a loop and a test want. -/
namespace L2
open PySem PySem.Spec PyProof.Rows

/-! ### the text by places -/
/-- the j-th statement of a class's body -/
def inClass (s : Stmt) (j : Nat) : Stmt := match s with
  | .ClassDef _ _ _ body _ _ _ _ _ _ _ => body.getD j (.Pass ⟨0, 0, 0, 0⟩)
  | _ => .Pass ⟨0, 0, 0, 0⟩
def defArgs (s : Stmt) : Arguments := match s with
  | .FunctionDef _ a _ _ _ _ _ _ _ _ => a
  | _ => { posonlyargs := [], args := [], vararg := none, kwonlyargs := [], kw_defaults := [], kwarg := none, defaults := [] }
def defBody (s : Stmt) : List Stmt := match s with
  | .FunctionDef _ _ b _ _ _ _ _ _ _ => b
  | _ => []
def defScope (s : Stmt) : Scope := match s with
  | .FunctionDef _ _ _ _ _ _ sc _ _ _ => sc
  | _ => { kind := .function, names := [], isGenerator := false, isCoroutine := false }

/-! ### no exception leaves a def -/
abbrev CX0 : CXT := fun _ _ _ _ _ _ => False
abbrev E0 : XK := fun _ _ _ => False
theorem pass0 {X : Cx} : Passes CX0 X E0 := fun _ _ _ _ _ _ _ h => h.elim

/-! ### a def (or method) of the text as it stands behind the top -/
structure Fun (K : PySem.W.Frag) (x qual : Str) (st : Stmt) (f : Addr) (fd : FuncData) : Prop where
  ex : ∃ (oc : Value) (od : Option Addr) (kV doc pm : Value) (an : Option Addr) (cdv ct : Value) (osl : Array (Option Value)),
    fd = PySem.W.fnOf x qual (defArgs st) (defBody st) (defScope st) .none kV doc pm an cdv ct ∧ K.lookup f = some ⟨oc, od, .func fd, osl⟩ ∧ PySem.W.codeIn K cdv qual = true
  kp : PySem.W.keepIn K (.ref f) = true
section
variable {P : Program} {w : World} {K : PySem.W.Frag} {mg : Str → Option Value} {base : Heap}
/-- THE RULE for a def: its body as a term of rules, and the reading of that term -/
theorem Fun.ok {x qual : Str} {st : Stmt} {f : Addr} {fd : FuncData} {N ps : List Str} {k : Nat} {sp : Sp} (F : Fun K x qual st f fd) (S : FnScope N ps (defScope st)) (len : ∀ vs H Q E, sp vs H Q E → vs.length = ps.length)
    (hbody : ∀ (cdv : Value) (A : Around) (outer : List Env) (s : Shared) (H : Hp) (vs : List V) (Q : VK) (E : XK), Room k (A.deeper (envOfC qual (defScope st) s.heap.objs.size f cdv)) → sp vs H Q E →
      ∃ t, PSs (cxOf CX0 P w K mg base N qual (defScope st) f cdv A outer s H E).nox (defBody st) t ∧ t { nx := fun _ H' => Q .non H', rt := Q } (start N vs) H) : FnOk P w K mg base CX0 (k + 1) f fd ps sp := by
  obtain ⟨oc, od, kV, doc, pm, an, cdv, ct, osl, rfl, lk, hcd⟩ := F.ex
  refine fn_of lk hcd S len fun A outer s H vs Q E hr hsp => ?_
  obtain ⟨t, h, q⟩ := hbody cdv A outer s H vs Q E hr hsp
  exact ⟨t, h.nox, q⟩
/-- how its arguments bind (no defaults): h is «fun _ _ _ _ _ _ us hl => match us, hl with | [_, _], _ => rfl», one _ a parameter -/
theorem Fun.binds {x qual : Str} {st : Stmt} {f : Addr} {fd : FuncData} {ps : List Str} (F : Fun K x qual st f fd)
    (h : ∀ (kV doc pm : Value) (an : Option Addr) (cdv ct : Value) (us : List Value), us.length = ps.length → bindArgs (PySem.W.fnOf x qual (defArgs st) (defBody st) (defScope st) .none kV doc pm an cdv ct) ⟨us, []⟩ = pure (ps.zip us)) : Binds K fd ps [] := by
  obtain ⟨oc, od, kV, doc, pm, an, cdv, ct, osl, rfl, lk, hcd⟩ := F.ex
  exact .all (h kV doc pm an cdv ct)
theorem fun_mk {x qual : Str} {st : Stmt} {f : Addr} {oc : Value} {od an : Option Addr} {osl : Array (Option Value)} {kV doc pm cdv ct : Value} (l : K.lookup f = some ⟨oc, od, .func (PySem.W.fnOf x qual (defArgs st) (defBody st) (defScope st) .none kV doc pm an cdv ct), osl⟩)
    (c : PySem.W.codeIn K cdv qual = true) (k : PySem.W.keepIn K (.ref f) = true) : Fun K x qual st f (PySem.W.fnOf x qual (defArgs st) (defBody st) (defScope st) .none kV doc pm an cdv ct) := ⟨⟨oc, od, kV, doc, pm, an, cdv, ct, osl, rfl, l, c⟩, k⟩
end
/-! ### expressions in short: the name that stands in the i-th slot -/
section
variable {X : Cx}
theorem pv (i : Nat) {x : Str} {pos : Pos} (hN : X.N[i]? = some x := by rfl) (hv : Vis X.env.scope x := by first | exact Or.inl rfl | exact Or.inr (Or.inl rfl) | exact Or.inr (Or.inr rfl)) (hd : (x == ("__debug__" : Str)) = false := by decide)
    (hcd : (x == ("__classdict__" : Str)) = false := by decide) : PE X (.Name x pos) (tVar i) := pe_var hN hv hd hcd
end

/-! ### tests -/
theorem iteF {A B : Prop} (h : B) : if false = true then A else B := by
  rw [if_neg Bool.false_ne_true]
  exact h
theorem iteT {A B : Prop} (h : A) : if true = true then A else B := by
  rw [if_pos rfl]
  exact h
/-! ### heaps -/
/-- all that was tracked is as it was -/
def Same (H H' : Hp) : Prop := ∀ b o, H b = some o → H' b = some o
theorem Same.refl (H : Hp) : Same H H := fun _ _ h => h
theorem Same.trans {H H1 H2 : Hp} (a : Same H H1) (b : Same H1 H2) : Same H H2 := fun c o h => b c o (a c o h)
theorem Same.free {H H' : Hp} (e : Same H H') {l : Addr} (h : H' l = Option.none) : H l = Option.none := by
  cases q : H l with
  | none => rfl
  | some o =>
    rw [e l o q] at h
    cases h
theorem Same.seq {K : PySem.W.Frag} {H H' : Hp} {a : Addr} {xs : List V} (e : Same H H') (h : SqL K H a xs) : SqL K H' a xs := by
  rcases h with (h | ⟨o, h⟩) | h
  · exact .inl (.inl (e _ _ h))
  · exact .inl (.inr ⟨o, e _ _ h⟩)
  · exact .inr h

end L2

set_option Elab.async false
set_option linter.all false
set_option maxRecDepth 100000
namespace L2
open PySem PySem.Spec PyProof.Rows

/-! ### lists of pairs as tables -/
section
variable {κ : Type} [DecidableEq κ]
def valV (kvs : List (κ × V)) (k : κ) : Option V := (kvs.find? fun kv => decide (kv.1 = k)).map (·.2)
/-- in its place, or at the end -/
def putK (kvs : List (κ × V)) (k : κ) (v : V) : List (κ × V) :=
  if (kvs.any fun kv => decide (kv.1 = k)) = true then kvs.map (fun kv => if kv.1 = k then (kv.1, v) else kv) else kvs ++ [(k, v)]
def dropK (kvs : List (κ × V)) (k : κ) : List (κ × V) := kvs.filter fun kv => decide (kv.1 ≠ k)

theorem valV_pos {p : κ × V} {r : List (κ × V)} {k : κ} (e : p.1 = k) : valV (p :: r) k = some p.2 := by simp [valV, List.find?_cons, e]
theorem valV_neg {p : κ × V} {r : List (κ × V)} {k : κ} (e : ¬ p.1 = k) : valV (p :: r) k = valV r k := by simp [valV, List.find?_cons, e]
theorem valV_any (k : κ) : ∀ kvs : List (κ × V), (kvs.any fun kv => decide (kv.1 = k)) = (valV kvs k).isSome
  | [] => rfl
  | p :: r => by
    rw [List.any_cons]
    by_cases e : p.1 = k
    · simp only [valV_pos e, decide_eq_true e, Bool.true_or, Option.isSome_some]
    · rw [valV_neg e, decide_eq_false e, Bool.false_or]; exact valV_any k r
theorem RelO.isSome_eq {o : Option V} {u : Option Value} (r : RelO o u) : o.isSome = u.isSome := by
  cases o with
  | none => cases u with
    | none => rfl
    | some _ => exact (show False from r).elim
  | some _ => cases u with
    | none => exact (show False from r).elim
    | some _ => rfl
theorem RelO.getD {o : Option V} {u : Option Value} {d : V} {d' : Value} (r : RelO o u) (rd : RelV d d') : RelV (o.getD d) (u.getD d') := by
  cases o with
  | none => cases u with
    | none => exact rd
    | some _ => exact (show False from r).elim
  | some _ => cases u with
    | none => exact (show False from r).elim
    | some _ => exact r

/-- raw tables of the same keys -/
theorem KV.val {kvs : List (κ × V)} {vs : List (κ × Value)} (r : KV kvs vs) (k : κ) : RelO (valV kvs k) (valueAt vs k) := by
  unfold KV at r
  induction r with
  | nil => exact True.intro
  | @cons p q ps qs h t ih =>
    obtain ⟨h1, h2⟩ := h
    by_cases e : p.1 = k
    · have e' : q.1 = k := h1.symm.trans e
      have b : valueAt (q :: qs) k = some q.2 := by simp [valueAt, List.find?_cons, e']
      rw [valV_pos e, b]; exact h2
    · have e' : ¬ q.1 = k := fun z => e (h1.trans z)
      have b : valueAt (q :: qs) k = valueAt qs k := by simp [valueAt, List.find?_cons, e']
      rw [valV_neg e, b]; exact ih
theorem KV.any {kvs : List (κ × V)} {vs : List (κ × Value)} (r : KV kvs vs) (k : κ) : (kvs.any fun kv => decide (kv.1 = k)) = vs.any fun kv => decide (kv.1 = k) := by
  unfold KV at r
  induction r with
  | nil => rfl
  | cons h t ih => rw [List.any_cons, List.any_cons, ih, h.1]
theorem KV.repl {kvs : List (κ × V)} {vs : List (κ × Value)} (r : KV kvs vs) (k : κ) {y : V} {u : Value} (ry : RelV y u) :
    KV (kvs.map fun kv => if kv.1 = k then (kv.1, y) else kv) (vs.map fun kv => if kv.1 = k then (kv.1, u) else kv) := by
  unfold KV at r ⊢
  induction r with
  | nil => exact .nil
  | @cons p q ps qs h t ih =>
    rw [List.map_cons, List.map_cons]
    refine .cons ?_ ih
    obtain ⟨h1, h2⟩ := h
    by_cases e : p.1 = k
    · rw [if_pos e, if_pos (h1.symm.trans e)]; exact ⟨h1, ry⟩
    · rw [if_neg e, if_neg (fun z => e (h1.trans z))]; exact ⟨h1, h2⟩
theorem KV.put {kvs : List (κ × V)} {vs : List (κ × Value)} (r : KV kvs vs) (k : κ) {y : V} {u : Value} (ry : RelV y u) : KV (putK kvs k y) (stored vs k u) := by
  unfold putK stored
  rw [r.any k]
  by_cases e : (vs.any fun kv => decide (kv.1 = k)) = true
  · rw [if_pos e, if_pos e]; exact r.repl k ry
  · rw [if_neg e, if_neg e]; exact Paired.snoc r ⟨rfl, ry⟩
theorem KV.drop {kvs : List (κ × V)} {vs : List (κ × Value)} (r : KV kvs vs) (k : κ) : KV (dropK kvs k) (without vs k) := by
  unfold KV at r ⊢
  unfold dropK without
  induction r with
  | nil => exact .nil
  | @cons p q ps qs h t ih =>
    obtain ⟨h1, h2⟩ := h
    rw [List.filter_cons, List.filter_cons]
    by_cases e : p.1 = k
    · have a : ¬ decide (p.1 ≠ k) = true := by simp [e]
      have b : ¬ decide (q.1 ≠ k) = true := by simp [h1.symm.trans e]
      rw [if_neg a, if_neg b]; exact ih
    · have e' : ¬ q.1 = k := fun z => e (h1.trans z)
      have a : decide (p.1 ≠ k) = true := by simp [e]
      have b : decide (q.1 ≠ k) = true := by simp [e']
      rw [if_pos a, if_pos b]; exact .cons ⟨h1, h2⟩ ih
theorem KV.keys {kvs : List (κ × V)} {vs : List (κ × Value)} (r : KV kvs vs) : kvs.map (·.1) = vs.map (·.1) := by
  unfold KV at r
  induction r with
  | nil => rfl
  | cons h t ih => rw [List.map_cons, List.map_cons, ih, h.1]
theorem KV.length {kvs : List (κ × V)} {vs : List (κ × Value)} (r : KV kvs vs) : kvs.length = vs.length := Paired.length r
end


/-! ### a tracked dict, its keys ints and texts or tuples of these -/
/-- raw entries of a dict with tuple keys -/
abbrev KT (H : Hp) : List (List Key × V) → List (List Key × Addr × Value) → Prop := Paired fun p q => p.1 = q.1 ∧ H q.2.1 = some (.tup (p.1.map kV)) ∧ RelV p.2 q.2.2
theorem KT.val {H : Hp} {kvs : List (List Key × V)} {xs : List (List Key × Addr × Value)} (r : KT H kvs xs) (k : List Key) : RelO (valV kvs k) ((atKey xs k).map (·.2)) := by
  induction r with
  | nil => exact True.intro
  | @cons p q ps qs h t ih =>
    obtain ⟨h1, _, h2⟩ := h
    by_cases e : p.1 = k
    · have e' : q.1 = k := h1.symm.trans e
      have b : atKey (q :: qs) k = some q.2 := by simp [atKey, List.find?_cons, e']
      rw [valV_pos e, b]; exact h2
    · have e' : ¬ q.1 = k := fun z => e (h1.trans z)
      have b : atKey (q :: qs) k = atKey qs k := by simp [atKey, List.find?_cons, e']
      rw [valV_neg e, b]; exact ih
theorem KT.repl {H : Hp} {kvs : List (List Key × V)} {xs : List (List Key × Addr × Value)} (r : KT H kvs xs) (k : List Key) {y : V} {u : Value} (ry : RelV y u) :
    KT H (kvs.map fun kv => if kv.1 = k then (kv.1, y) else kv) (xs.map (putAt k u)) := by
  induction r with
  | nil => exact .nil
  | @cons p q ps qs h t ih =>
    rw [List.map_cons, List.map_cons]
    refine .cons ?_ ih
    obtain ⟨h1, h2, h3⟩ := h
    unfold putAt
    by_cases e : p.1 = k
    · rw [if_pos e, if_pos (h1.symm.trans e)]; exact ⟨h1, h2, ry⟩
    · rw [if_neg e, if_neg (fun z => e (h1.trans z))]; exact ⟨h1, h2, h3⟩
theorem KT.put {H : Hp} {kvs : List (List Key × V)} {xs : List (List Key × Addr × Value)} (r : KT H kvs xs) (k : List Key) {b : Addr} {y : V} {u : Value} (hb : H b = some (.tup (k.map kV))) (ry : RelV y u) :
    KT H (putK kvs k y) (storedH xs k b u) := by
  have e : (kvs.any fun kv => decide (kv.1 = k)) = (atKey xs k).isSome := by
    rw [valV_any, (r.val k).isSome_eq, Option.isSome_map]
  unfold putK storedH
  rw [e]
  by_cases q : (atKey xs k).isSome = true
  · rw [if_pos q, if_pos q]; exact r.repl k ry
  · rw [if_neg q, if_neg q]; exact Paired.snoc r ⟨rfl, hb, ry⟩
theorem KT.keeps {H H' : Hp} {kvs : List (List Key × V)} {xs : List (List Key × Addr × Value)} (r : KT H kvs xs) (ht : ∀ b ys, H b = some (.tup ys) → H' b = some (.tup ys)) : KT H' kvs xs :=
  Paired.mapP r fun _ _ z => ⟨z.1, ht _ _ z.2.1, z.2.2⟩

section
variable {P : Program} {w : World} {H : Hp} {h : Heap} {a : Addr}
end

/-- what the dict at a holds at the key y -/
def DGet (H : Hp) (a : Addr) (y : V) (r : Option V) : Prop :=
  (∃ kvs k, Rd H a (.dK kvs) ∧ y = kV k ∧ r = valV kvs k) ∨ ∃ kvs k b, Rd H a (.dT kvs) ∧ y = .ref b ∧ H b = some (.tup (k.map kV)) ∧ r = valV kvs k
/-- the heap behind a[y] = v -/
def DPut (H : Hp) (a : Addr) (y v : V) (H' : Hp) : Prop :=
  (∃ kvs k, H a = some (.dK kvs) ∧ y = kV k ∧ kvs.length < sizeLine ∧ H' = upd H a (.dK (putK kvs k v))) ∨
  ∃ kvs k b, H a = some (.dT kvs) ∧ y = .ref b ∧ H b = some (.tup (k.map kV)) ∧ kvs.length < sizeLine ∧ H' = upd H a (.dT (putK kvs k v))
theorem DGet.k {H : Hp} {a : Addr} {kvs : List (Key × V)} {k : Key} (e : H a = some (.dK kvs)) : DGet H a (kV k) (valV kvs k) := .inl ⟨kvs, k, .inl e, rfl, rfl⟩
theorem DGet.t {H : Hp} {a b : Addr} {kvs : List (List Key × V)} {k : List Key} (e : H a = some (.dT kvs)) (eb : H b = some (.tup (k.map kV))) : DGet H a (.ref b) (valV kvs k) := .inr ⟨kvs, k, b, .inl e, rfl, eb, rfl⟩
theorem DPut.k {H : Hp} {a : Addr} {kvs : List (Key × V)} {k : Key} {v : V} (e : H a = some (.dK kvs)) (hl : kvs.length < sizeLine) : DPut H a (kV k) v (upd H a (.dK (putK kvs k v))) := .inl ⟨kvs, k, e, rfl, hl, rfl⟩
theorem DPut.t {H : Hp} {a b : Addr} {kvs : List (List Key × V)} {k : List Key} {v : V} (e : H a = some (.dT kvs)) (eb : H b = some (.tup (k.map kV))) (hl : kvs.length < sizeLine) :
    DPut H a (.ref b) v (upd H a (.dT (putK kvs k v))) := .inr ⟨kvs, k, b, e, rfl, eb, hl, rfl⟩


section
variable {X : Cx} {pins : List (Addr × Obj)} {σ : St} {H : Hp} {s : Shared} {a : Addr} {y v : V} {u r : Value} {o : Option V} {A : Around} {E : Value → Shared → Prop}

end

section
variable {X : Cx} {pins : List (Addr × Obj)} {σ : St} {H : Hp} {s : Shared} {a : Addr} {kvs : List (Key × V)} {k : Key} {u : Value} {A : Around} {E : Value → Shared → Prop}
end


/-! ### readings and rules -/
/-- the element of a subscription, not a slice -/
def NoSl (i : Expr) : Prop := ∀ ov iv, subscripted i false ov iv = operate [ov, iv] (getItem ov iv)
/-- d[y] -/
def tDGet (td ty : TE) : TE := fun σ H Q => td σ H fun x H1 => ty σ H1 fun y H2 => ∃ a v, x = .ref a ∧ DGet H2 a y (some v) ∧ Q v H2
/-- y in d, y not in d -/
def tDIn (ty td : TE) : TE := fun σ H Q => ty σ H fun y H1 => td σ H1 fun x H2 => ∃ a o, x = .ref a ∧ DGet H2 a y o ∧ Q (.bl o.isSome) H2
def tDNotIn (ty td : TE) : TE := fun σ H Q => ty σ H fun y H1 => td σ H1 fun x H2 => ∃ a o, x = .ref a ∧ DGet H2 a y o ∧ Q (.bl (!o.isSome)) H2
/-- d[y] = v -/
def sDPut (td ty tv : TE) : TS := fun D σ H => tv σ H fun v H1 => td σ H1 fun x H2 => ty σ H2 fun y H3 => ∃ a H4, x = .ref a ∧ DPut H3 a y v H4 ∧ D.nx σ H4
/-- d[y] op= v -/
def sDAug (td ty tv : TE) (rd : V → V → Hp → VK → Prop) : TS := fun D σ H => td σ H fun x H1 => ty σ H1 fun y H2 => ∃ a v, x = .ref a ∧ DGet H2 a y (some v) ∧
  tv σ H2 fun y2 H3 => rd v y2 H3 fun z H4 => ∃ H5, DPut H4 a y z H5 ∧ D.nx σ H5
/-- del d[y] -/
def sDDel (td ty : TE) : TS := fun D σ H => td σ H fun x H1 => ty σ H1 fun y H2 => ∃ a kvs k, x = .ref a ∧ H2 a = some (.dK kvs) ∧ y = kV k ∧ (valV kvs k).isSome = true ∧ D.nx σ (upd H2 a (.dK (dropK kvs k)))

section
variable {X : Cx} {o i e value : Expr} {pos pos' tpos : Pos} {td ty tv : TE}
end


/-! ### displays -/
/-- {}, to be a dict of the kind that is wanted -/
def tDNewK : TE := fun _ H Q => ∀ p, H p = none → Q (.ref p) (upd H p (.dK []))
def tDNewT : TE := fun _ H Q => ∀ p, H p = none → Q (.ref p) (upd H p (.dT []))
section
variable {X : Cx} {pos : Pos}
end

/-- the pairs of a display, from the left -/
def tPairs : List (TE × TE) → St → Hp → (List (V × V) → Hp → Prop) → Prop
  | [], _, H, Q => Q [] H
  | (tk, tv) :: r, σ, H, Q => tk σ H fun x H1 => tv σ H1 fun y H2 => tPairs r σ H2 fun ps H3 => Q ((x, y) :: ps) H3
abbrev VV : List (V × V) → List (Value × Value) → Prop := Paired fun p q => RelV p.1 q.1 ∧ RelV p.2 q.2
def PPs (X : Cx) (pos : Pos) (keys : List (Option Expr)) (values : List Expr) (trs : List (TE × TE)) : Prop :=
  ∀ (pins : List (Addr × Obj)) (s : Shared) (σ : St) (H : Hp) (Q : List (V × V) → Hp → Prop), Inv X pins σ H s → tPairs trs σ H Q →
    wpAny (model X.prog X.w) X.A (evalPairs (pairTrees keys values X.env pos)) (fun vs s' => ∃ ps H', Inv X pins σ H' s' ∧ VV ps vs ∧ Q ps H') X.xe s
def mergeK (kvs more : List (Key × V)) : List (Key × V) := more.foldl (fun acc kv => putK acc kv.1 kv.2) kvs
/-- {k: v, ..} with keys ints and texts; the new dict stands empty while the pairs are made -/
def tDisp (trs : List (TE × TE)) : TE := fun σ H Q => ∀ p, H p = none → tPairs trs σ (upd H p (.dK [])) fun ps H2 => H2 p = some (.dK []) ∧ ∃ kvs : List (Key × V), ps = kvs.map (fun kv => (kV kv.1, kv.2)) ∧ kvs.length ≤ 15 ∧ Q (.ref p) (upd H2 p (.dK (mergeK [] kvs)))
/-! ### methods -/
/-- a method call o.m(e) of a built-in, with one argument: what must be seen of the text -/
structure M1 (X : Cx) (o : Expr) (m : Str) (apos : Pos) (e : Expr) (cpos : Pos) : Prop where
  base : attributeBase o m X.env (eval o X.env) = eval o X.env
  few : ((backTo cpos (starEach [e] X.env)).all (fun x => !x.1) && (backToKw cpos (keywordEach [] X.env)).all (fun x => x.1.isSome)
    && decide (([e] : List Expr).length + ([] : List Keyword).length + (if ([] : List Keyword).isEmpty then 0 else 1) < 30)) = true
  line : (apos.endLine == cpos.line) = true
  trees : backTo cpos (starEach [e] X.env) = [(false, eval e X.env)]
structure M2 (X : Cx) (o : Expr) (m : Str) (apos : Pos) (e f : Expr) (cpos : Pos) : Prop where
  base : attributeBase o m X.env (eval o X.env) = eval o X.env
  few : ((backTo cpos (starEach [e, f] X.env)).all (fun x => !x.1) && (backToKw cpos (keywordEach [] X.env)).all (fun x => x.1.isSome)
    && decide (([e, f] : List Expr).length + ([] : List Keyword).length + (if ([] : List Keyword).isEmpty then 0 else 1) < 30)) = true
  line : (apos.endLine == cpos.line) = true
  trees : backTo cpos (starEach [e, f] X.env) = [(false, eval e X.env), (false, eval f X.env)]

/-- a is a dict, whatever its keys -/
def IsD (H : Hp) (a : Addr) : Prop := (∃ kvs, Rd H a (.dK kvs)) ∨ ∃ kvs, Rd H a (.dT kvs)
section
variable {X : Cx} {pins : List (Addr × Obj)} {σ : St} {H : Hp} {s : Shared} {a : Addr} {y d : V} {u r : Value} {o : Option V} {A : Around} {E : Value → Shared → Prop}
end

def tDGet1 (td ty : TE) : TE := fun σ H Q => td σ H fun x H1 => ∃ a, x = .ref a ∧ IsD H1 a ∧ ty σ H1 fun y H2 => ∃ o, DGet H2 a y o ∧ Q (o.getD .non) H2
def tDGet2 (td ty tx : TE) : TE := fun σ H Q => td σ H fun x H1 => ∃ a, x = .ref a ∧ IsD H1 a ∧ ty σ H1 fun y H2 => tx σ H2 fun z H3 => ∃ o, DGet H3 a y o ∧ Q (o.getD z) H3
/-- d.pop(k): there; d.pop(k, x): there or not -/
def tDPop1 (td ty : TE) : TE := fun σ H Q => td σ H fun x H1 => ∃ a, x = .ref a ∧ IsD H1 a ∧ ty σ H1 fun y H2 => ∃ kvs k v, H2 a = some (.dK kvs) ∧ y = kV k ∧ valV kvs k = some v ∧ Q v (upd H2 a (.dK (dropK kvs k)))
def tDPop2 (td ty tx : TE) : TE := fun σ H Q => td σ H fun x H1 => ∃ a, x = .ref a ∧ IsD H1 a ∧ ty σ H1 fun y H2 => tx σ H2 fun z H3 => ∃ kvs k, H3 a = some (.dK kvs) ∧ y = kV k ∧
  (∀ v, valV kvs k = some v → Q v (upd H3 a (.dK (dropK kvs k)))) ∧ (valV kvs k = none → Q z H3)
section
variable {X : Cx} {o e f : Expr} {apos cpos : Pos} {td ty tx : TE}
end

end L2

set_option Elab.async false
set_option linter.all false
set_option maxRecDepth 100000
namespace DL
open PySem L2

/-- what a program's value is, without the heap -/
inductive D where
  | non | bl (b : Bool) | int (i : Int) | str (x : Str) | tup (xs : List D) | lst (xs : List D)

mutual
inductive Rep (K : PySem.W.Frag) (F : Hp) : V → D → Prop
  | non : Rep K F .non .non
  | bl (b : Bool) : Rep K F (.bl b) (.bl b)
  | int (i : Int) : Rep K F (.int i) (.int i)
  | str (x : Str) : Rep K F (.str x) (.str x)
  | tup {a : Addr} {vs : List V} {ds : List D} : SqT K F a vs → Reps K F vs ds → Rep K F (.ref a) (.tup ds)
  | lst {a : Addr} {vs : List V} {ds : List D} : SqL K F a vs → Reps K F vs ds → Rep K F (.ref a) (.lst ds)
inductive Reps (K : PySem.W.Frag) (F : Hp) : List V → List D → Prop
  | nil : Reps K F [] []
  | cons {v : V} {vs : List V} {d : D} {ds : List D} : Rep K F v d → Reps K F vs ds → Reps K F (v :: vs) (d :: ds)
end

theorem sqT_same {K : PySem.W.Frag} {H H' : Hp} {a : Addr} {xs : List V} (e : Same H H') (h : SqT K H a xs) : SqT K H' a xs := by
  rcases h with (h | ⟨o, h⟩) | h
  · exact .inl (.inl (e _ _ h))
  · exact .inl (.inr ⟨o, e _ _ h⟩)
  · exact .inr h

section
variable {K : PySem.W.Frag} {F F' : Hp}
mutual
theorem Rep.mono (e : Same F F') : ∀ {v : V} {d : D}, Rep K F v d → Rep K F' v d
  | _, _, .non => .non
  | _, _, .bl b => .bl b
  | _, _, .int i => .int i
  | _, _, .str x => .str x
  | _, _, .tup h r => .tup (sqT_same e h) (Reps.mono e r)
  | _, _, .lst h r => .lst (e.seq h) (Reps.mono e r)
theorem Reps.mono (e : Same F F') : ∀ {vs : List V} {ds : List D}, Reps K F vs ds → Reps K F' vs ds
  | _, _, .nil => .nil
  | _, _, .cons r t => .cons (Rep.mono e r) (Reps.mono e t)
end
theorem Reps.length : ∀ {vs : List V} {ds : List D}, Reps K F vs ds → vs.length = ds.length
  | _, _, .nil => rfl
  | _, _, .cons _ t => congrArg (· + 1) (Reps.length t)
theorem Reps.get : ∀ {vs : List V} {ds : List D} {i : Nat} {d : D}, Reps K F vs ds → ds[i]? = some d → ∃ v, vs[i]? = some v ∧ Rep K F v d
  | _, _, _, _, .nil, e => by simp at e
  | _, _, 0, _, .cons r _, e => by simp at e; subst e; exact ⟨_, rfl, r⟩
  | _, _, i + 1, d, .cons _ t, e => by
    obtain ⟨u, h1, h2⟩ := Reps.get (i := i) (d := d) t (by simpa using e)
    exact ⟨u, by simpa using h1, h2⟩
theorem Reps.append : ∀ {vs ws : List V} {ds es : List D}, Reps K F vs ds → Reps K F ws es → Reps K F (vs ++ ws) (ds ++ es)
  | _, _, _, _, .nil, s => s
  | _, _, _, _, .cons r t, s => .cons r (Reps.append t s)
theorem Reps.ints : ∀ (ns : List Int), Reps K F (ns.map V.int) (ns.map D.int)
  | [] => .nil
  | n :: r => .cons (.int n) (Reps.ints r)
end

/-- the frozen part F grew, the heap H grew; what was not frozen of the old heap is not frozen now -/
structure Ext (F H F' H' : Hp) : Prop where
  ff : Same F F'
  fh : Same F' H'
  hh : Same H H'
  fr : ∀ b, H b ≠ none → F b = none → F' b = none
theorem Ext.refl {F H : Hp} (h : Same F H) : Ext F H F H := ⟨Same.refl F, h, Same.refl H, fun _ _ e => e⟩
theorem Ext.trans {F H F1 H1 F2 H2 : Hp} (a : Ext F H F1 H1) (b : Ext F1 H1 F2 H2) : Ext F H F2 H2 :=
  ⟨a.ff.trans b.ff, b.fh, a.hh.trans b.hh, fun c hc fc => b.fr c (fun z => by
    cases q : H c with
    | none => exact hc q
    | some o => rw [a.hh c o q] at z; cases z) (a.fr c hc fc)⟩
theorem Ext.new {F H : Hp} {p : Addr} (h : Same F H) (hp : H p = none) (o : HO) : Ext F H (upd F p o) (upd H p o) where
  ff := fun b u q => by rw [upd_ne (fun z => by subst z; rw [h _ _ q] at hp; cases hp)]; exact q
  fh := fun b u q => by
    by_cases e : b = p
    · subst e; rw [upd_same] at q ⊢; exact q
    · rw [upd_ne e] at q ⊢; exact h _ _ q
  hh := fun b u q => by rw [upd_ne (ne_of_none q hp)]; exact q
  fr := fun b hb fb => by rw [upd_ne (fun z => hb (by rw [z]; exact hp))]; exact fb
/-- an exception of the own class D lies at x -/
def ExcAt (D : Addr) (dx : Option Addr) (x : Addr) (h : Heap) : Prop := ∃ o vs, h.get? x = some o ∧ o.cls = .ref D ∧ o.data = .fields vs ∧ ∀ d, dx = some d → o.dict = some d
/-- a thing at an address, by what is known of its object -/
structure Thing where
  φ : PySem.W.Frag → Hp → Addr → HO → Prop
  keep : ∀ {K : PySem.W.Frag} {F F' : Hp} {a : Addr} {o : HO}, Same F F' → φ K F a o → φ K F' a o
def ThgOk (t : Thing) (K : PySem.W.Frag) (F : Hp) (a : Addr) (o : HO) : Prop := t.φ K F a o
theorem ThgOk.mono {t : Thing} {K : PySem.W.Frag} {F F' : Hp} {a : Addr} {o : HO} (e : Same F F') (h : ThgOk t K F a o) : ThgOk t K F' a o := t.keep e h
inductive Slot where
  | un | val (d : D) | own (ds : List D) | exc (C : Addr) (dx : Option Addr) | dic (kvs : List (Int × D)) | thg (t : Thing) | bor (t : Thing)
def slot : List Slot → Nat → Slot
  | [], _ => .un
  | x :: _, 0 => x
  | _ :: r, n + 1 => slot r n
def put : List Slot → Nat → Slot → List Slot
  | [], _, _ => []
  | _ :: r, 0, y => y :: r
  | x :: r, n + 1, y => x :: put r n y
theorem put_length (y : Slot) : ∀ (c : List Slot) (i : Nat), (put c i y).length = c.length
  | [], _ => rfl
  | _ :: _, 0 => rfl
  | _ :: r, n + 1 => congrArg (· + 1) (put_length y r n)
theorem slot_put_ne (y : Slot) : ∀ (c : List Slot) (i j : Nat), i ≠ j → slot (put c i y) j = slot c j
  | [], _, _, _ => rfl
  | _ :: _, 0, 0, h => absurd rfl h
  | _ :: _, 0, _ + 1, _ => rfl
  | _ :: _, _ + 1, 0, _ => rfl
  | _ :: r, n + 1, m + 1, h => slot_put_ne y r n m (fun z => h (by rw [z]))
theorem put_slot : ∀ (c : List Slot) (i : Nat), put c i (slot c i) = c
  | [], _ => rfl
  | _ :: _, 0 => rfl
  | x :: r, n + 1 => congrArg (x :: ·) (put_slot r n)
theorem slot_put (y : Slot) : ∀ (c : List Slot) (i : Nat), i < c.length → slot (put c i y) i = y
  | [], _, h => by simp at h
  | _ :: _, 0, _ => rfl
  | _ :: r, n + 1, h => slot_put y r n (by simpa using h)

/-- a dict of ints -/
structure DRep (K : PySem.W.Frag) (F : Hp) (kv : List (Key × V)) (kvs : List (Int × D)) : Prop where
  ks : kv.map (·.1) = kvs.map fun q => Sum.inl q.1
  vs : Reps K F (kv.map (·.2)) (kvs.map (·.2))
theorem DRep.mono {K : PySem.W.Frag} {F F' : Hp} {kv : List (Key × V)} {kvs : List (Int × D)} (e : Same F F') (h : DRep K F kv kvs) : DRep K F' kv kvs := ⟨h.ks, h.vs.mono e⟩
def SlotOk (K : PySem.W.Frag) (H₀ F H : Hp) (v : Option (Option V)) : Slot → Prop
  | .un => True
  | .val d => ∃ x, v = some (some x) ∧ Rep K F x d
  | .own ds => ∃ a vs, v = some (some (.ref a)) ∧ H a = some (.lst vs) ∧ F a = none ∧ H₀ a = none ∧ Reps K F vs ds
  | .exc C dx => ∃ a, v = some (some (.ref a)) ∧ H a = some (.ext (ExcAt C dx a))
  | .dic kvs => ∃ a kv, v = some (some (.ref a)) ∧ H a = some (.dK kv) ∧ F a = none ∧ H₀ a = none ∧ DRep K F kv kvs
  | .thg t => ∃ a o, v = some (some (.ref a)) ∧ H a = some o ∧ F a = none ∧ H₀ a = none ∧ ThgOk t K F a o
  | .bor t => ∃ a o, v = some (some (.ref a)) ∧ H₀ a = some o ∧ ThgOk t K F a o
def isOwn : Slot → Bool
  | .own _ => true
  | .dic _ => true
  | .thg _ => true
  | _ => false

structure Env (K : PySem.W.Frag) (F₀ H₀ F H : Hp) (σ : St) (c : List Slot) : Prop where
  ext : Ext F₀ H₀ F H
  len : σ.length = c.length
  sl : ∀ i, SlotOk K H₀ F H σ[i]? (slot c i)
  inj : ∀ (i j : Nat) (a : Addr), isOwn (slot c i) = true → isOwn (slot c j) = true → σ[i]? = some (some (V.ref a)) → σ[j]? = some (some (V.ref a)) → i = j

section
variable {K : PySem.W.Frag} {F₀ H₀ F H F' H' : Hp} {σ : St} {c : List Slot}
theorem SlotOk.ext {v : Option (Option V)} (e : Ext F H F' H') : ∀ {s : Slot}, SlotOk K H₀ F H v s → SlotOk K H₀ F' H' v s
  | .un, _ => trivial
  | .val d, ⟨x, h, r⟩ => ⟨x, h, r.mono e.ff⟩
  | .own ds, ⟨a, vs, h, h1, h2, h3, r⟩ => ⟨a, vs, h, e.hh _ _ h1, e.fr a (by rw [h1]; exact fun z => nomatch z) h2, h3, r.mono e.ff⟩
  | .exc C dx, ⟨a, h, h1⟩ => ⟨a, h, e.hh _ _ h1⟩
  | .dic kvs, ⟨a, kv, h, h1, h2, h3, r⟩ => ⟨a, kv, h, e.hh _ _ h1, e.fr a (by rw [h1]; exact fun z => nomatch z) h2, h3, r.mono e.ff⟩
  | .thg t, ⟨a, o, h, h1, h2, h3, r⟩ => ⟨a, o, h, e.hh _ _ h1, e.fr a (by rw [h1]; exact fun z => nomatch z) h2, h3, r.mono e.ff⟩
  | .bor t, ⟨a, o, h, h1, r⟩ => ⟨a, o, h, h1, r.mono e.ff⟩
theorem Env.grow (E : Env K F₀ H₀ F H σ c) (e : Ext F H F' H') : Env K F₀ H₀ F' H' σ c := ⟨E.ext.trans e, E.len, fun i => (E.sl i).ext e, E.inj⟩
theorem Env.val (E : Env K F₀ H₀ F H σ c) {i : Nat} {d : D} (h : slot c i = .val d) : ∃ x, σ[i]? = some (some x) ∧ Rep K F x d := by
  have q := E.sl i
  rw [h] at q
  exact q
theorem Env.fh (E : Env K F₀ H₀ F H σ c) : Same F H := E.ext.fh
theorem Env.set (E : Env K F₀ H₀ F H σ c) {i : Nat} {x : V} {d : D} (hi : i < c.length) (r : Rep K F x d) : Env K F₀ H₀ F H (σ.set i (some x)) (put c i (.val d)) where
  ext := E.ext
  len := by rw [List.length_set, put_length]; exact E.len
  sl := fun j => by
    by_cases e : i = j
    · subst e
      rw [slot_put _ _ _ hi, List.getElem?_set_self (by rw [E.len]; exact hi)]
      exact ⟨x, rfl, r⟩
    · rw [slot_put_ne _ _ _ _ e, List.getElem?_set_ne e]
      exact E.sl j
  inj := fun j k a h1 h2 h3 h4 => by
    by_cases e : i = j
    · subst e; rw [slot_put _ _ _ hi] at h1; cases h1
    · by_cases e2 : i = k
      · subst e2; rw [slot_put _ _ _ hi] at h2; cases h2
      · rw [slot_put_ne _ _ _ _ e] at h1
        rw [slot_put_ne _ _ _ _ e2] at h2
        rw [List.getElem?_set_ne e] at h3
        rw [List.getElem?_set_ne e2] at h4
        exact E.inj j k a h1 h2 h3 h4
end

/-- a body running: its context, the frozen part and the heap at its entry -/
structure Cy where
  X : Cx
  F0 : Hp
  H0 : Hp
abbrev Cy.K (Y : Cy) : PySem.W.Frag := Y.X.K
abbrev EnvY (Y : Cy) (F H : Hp) (σ : St) (c : List Slot) : Prop := Env Y.X.K Y.F0 Y.H0 F H σ c

def tD (Y : Cy) (c : List Slot) (d : D) : TE := fun σ H Q => ∃ F, EnvY Y F H σ c ∧ ∀ v F' H', Ext F H F' H' → Rep Y.X.K F' v d → Q v H'
def tT (Y : Cy) (c : List Slot) (b : Bool) : TT := fun σ H Q => ∃ F, EnvY Y F H σ c ∧ ∀ F' H', Ext F H F' H' → Q b H'
def tA (Y : Cy) (c : List Slot) (ds : List D) : TA := fun σ H Q => ∃ F, EnvY Y F H σ c ∧ ∀ vs F' H', Ext F H F' H' → Reps Y.X.K F' vs ds → Q vs H'
/-- the expression's value is d -/
def EvD (Y : Cy) (e : Expr) (c : List Slot) (d : D) : Prop := PE Y.X e (tD Y c d)
/-- the test comes out as b -/
def TeD (Y : Cy) (e : Expr) (c : List Slot) (b : Bool) : Prop := PT Y.X e (tT Y c b)
def ArD (Y : Cy) (es : List Expr) (c : List Slot) (ds : List D) : Prop := PA Y.X es (tA Y c ds)

inductive Out where
  | nx (c : List Slot) | rt (d : D) | bk (c : List Slot) | ct (c : List Slot) | ro (ds : List D) | rs (R : PySem.W.Frag → Hp → Hp → V → Hp → Prop)
def Meets (Y : Cy) (F : Hp) (D : Ends) : Out → Prop
  | .nx c => ∀ σ F' H, Same F F' → EnvY Y F' H σ c → D.nx σ H
  | .rt d => ∀ v F' H, Same F F' → Ext Y.F0 Y.H0 F' H → Rep Y.X.K F' v d → D.rt v H
  | .bk c => ∀ σ F' H, Same F F' → EnvY Y F' H σ c → D.bk σ H
  | .ct c => ∀ σ F' H, Same F F' → EnvY Y F' H σ c → D.ct σ H
  | .ro ds => ∀ vs F' H p, Same F F' → Ext Y.F0 Y.H0 F' H → Reps Y.X.K F' vs ds → H p = none → D.rt (.ref p) (upd H p (.lst vs))
  | .rs R => ∀ v F' H1 H, Same F F' → Ext Y.F0 Y.H0 F' H1 → R Y.X.K F' H1 v H → D.rt v H
theorem Meets.grow {Y : Cy} {F F1 : Hp} {D : Ends} (s : Same F F1) : ∀ {o : Out}, Meets Y F D o → Meets Y F1 D o
  | .nx _, m => fun σ F' H s' E => m σ F' H (s.trans s') E
  | .rt _, m => fun v F' H s' E r => m v F' H (s.trans s') E r
  | .bk _, m => fun σ F' H s' E => m σ F' H (s.trans s') E
  | .ct _, m => fun σ F' H s' E => m σ F' H (s.trans s') E
  | .ro _, m => fun vs F' H p s' E r hp => m vs F' H p (s.trans s') E r hp
  | .rs _, m => fun v F' H1 H s' E r => m v F' H1 H (s.trans s') E r
def tS (Y : Cy) (c : List Slot) (P : Out → Prop) : TS := fun D σ H => ∃ F, EnvY Y F H σ c ∧ ∀ o, P o → Meets Y F D o
def StD (Y : Cy) (st : Stmt) (c : List Slot) (P : Out → Prop) : Prop := PS Y.X st (tS Y c P)
def SsD (Y : Cy) (st : List Stmt) (c : List Slot) (P : Out → Prop) : Prop := PSs Y.X st (tS Y c P)
/-- behind a statement: the rest -/
def Thn (Y : Cy) (rest : List Stmt) (P : Out → Prop) : Out → Prop
  | .nx c => SsD Y rest c P
  | o => P o

theorem bt_abs : bootBuiltins "abs" = some (.builtin "abs") := by decide +kernel
theorem bt_max : bootBuiltins "max" = some (.builtin "max") := by decide +kernel
theorem bt_min : bootBuiltins "min" = some (.builtin "min") := by decide +kernel
theorem bt_len : bootBuiltins "len" = some (.builtin "len") := by decide +kernel
theorem bt_isinstance : bootBuiltins "isinstance" = some (.builtin "isinstance") := by decide +kernel
theorem bt_int : bootBuiltins "int" = some (.type "int") := by decide +kernel
theorem bt_bool : bootBuiltins "bool" = some (.type "bool") := by decide +kernel
theorem bt_tuple : bootBuiltins "tuple" = some (.type "tuple") := by decide +kernel
/-- the module that runs -/
structure Tx where
  prog : Program
  w : World
  K : PySem.W.Frag
  mg : Str → Option Value
  base : Heap
/-- names of a def: N its own (the parameters first), G the global ones that it uses -/
structure ScB (N ps G : List Str) (sc : Scope) : Prop where
  fs : FnScope N ps sc
  loc : ∀ x ∈ N, (sc.names.lookup x = some .local ∨ sc.names.lookup x = some .cell) ∧ (x == ("__debug__" : Str)) = false ∧ (x == ("__classdict__" : Str)) = false
  gl : ∀ x ∈ G, sc.names.lookup x = some .globalImplicit ∧ (x == ("__debug__" : Str)) = false ∧ x ≠ "__name__"
/-- what a body knows of where it runs: names; expressions; statements -/
structure Sn (Y : Cy) (T : Tx) (N G : List Str) : Prop where
  eP : Y.X.prog = T.prog
  eW : Y.X.w = T.w
  eK : Y.X.K = T.K
  eM : Y.X.mg = T.mg
  eB : Y.X.base = T.base
  n : Y.X.N = N
  nd : N.Nodup
  loc : ∀ x ∈ N, Loc Y.X.env.scope x ∧ (x == ("__debug__" : Str)) = false ∧ (x == ("__classdict__" : Str)) = false
  gl : ∀ x ∈ G, Gl Y.X x ∧ (x == ("__debug__" : Str)) = false ∧ x ≠ "__name__"
structure Se (Y : Cy) (T : Tx) (k : Nat) (N G : List Str) : Prop extends Sn Y T N G where
  calm : Y.X.calm = true
  room : Room k Y.X.A
structure Sc (Y : Cy) (T : Tx) (k : Nat) (N G : List Str) : Prop extends Se Y T k N G where
  fn : ∀ y, Y.X.fn y = true
  hp : PassesOwn (model Y.X.prog Y.X.w) Y.X.A Y.X.env Y.X.xe
/-- a def's body, as it stands -/
structure Fx (Y : Cy) (st : Stmt) : Prop where
  sc : Y.X.env.scope = defScope st
  ex : Y.X.ex = []
  stk : Y.X.stack = Y.X.env :: Y.X.outer ∧ Y.X.env.frame = some Y.X.env.locals

theorem PE.imp {X : Cx} {e : Expr} {t t' : TE} (h : PE X e t) (i : ∀ σ H Q, t' σ H Q → t σ H Q) : PE X e t' := fun pins s σ H Q I q => h pins s σ H Q I (i _ _ _ q)
theorem PT.imp {X : Cx} {e : Expr} {t t' : TT} (h : PT X e t) (i : ∀ σ H Q, t' σ H Q → t σ H Q) : PT X e t' := fun pins s σ H Q I q => h pins s σ H Q I (i _ _ _ q)
theorem PA.imp {X : Cx} {e : List Expr} {t t' : TA} (h : PA X e t) (i : ∀ σ H Q, t' σ H Q → t σ H Q) : PA X e t' := fun pos pins s σ H Q I q => h pos pins s σ H Q I (i _ _ _ q)
theorem PS.imp {X : Cx} {e : Stmt} {t t' : TS} (h : PS X e t) (i : ∀ D σ H, t' D σ H → t D σ H) : PS X e t' := fun pins s σ H Q I q => h pins s σ H Q I (i _ _ _ q)
theorem PSs.imp {X : Cx} {e : List Stmt} {t t' : TS} (h : PSs X e t) (i : ∀ D σ H, t' D σ H → t D σ H) : PSs X e t' := fun pins s σ H Q I q => h pins s σ H Q I (i _ _ _ q)

section
variable {Y : Cy} {T : Tx} {k : Nat} {N G : List Str} {c : List Slot} {a b e : Expr} {es : List Expr} {pos : Pos} {d d1 d2 : D} {ds : List D} {P : Out → Prop} {rest : List Stmt}

/-! ### expressions -/
theorem ev_var (S : Se Y T k N G) (i : Nat) {x : Str} (hN : N[i]? = some x := by rfl) (hs : slot c i = .val d := by rfl) : EvD Y (.Name x pos) c d := by
  have hx := S.loc x (List.mem_of_getElem? hN)
  rw [← S.n] at hN
  exact PE.imp (pe_var hN (hx.1.elim .inl fun h => .inr (.inl h)) hx.2.1 hx.2.2) fun σ H Q ⟨F, E, q⟩ =>
    let ⟨x, ex, r⟩ := E.val hs
    ⟨x, ex, q x F H (Ext.refl E.fh) r⟩
theorem ev_const {v : V} (h : PE Y.X e (tC v)) (r : ∀ F, Rep Y.X.K F v d) : EvD Y e c d :=
  PE.imp h fun σ H Q ⟨F, E, q⟩ => q v F H (Ext.refl E.fh) (r F)
theorem ev_int {i : Int} {j} : EvD Y (.Constant (.int i) j pos) c (.int i) := ev_const pe_int fun _ => .int i
theorem ev_bl {i : Bool} {j} : EvD Y (.Constant (.bool i) j pos) c (.bl i) := ev_const pe_bl fun _ => .bl i
theorem ev_non {j} : EvD Y (.Constant .none j pos) c .non := ev_const pe_non fun _ => .non
theorem ev_str {x : Str} {j} : EvD Y (.Constant (.str x) j pos) c (.str x) := ev_const pe_str fun _ => .str x

/-- an operation by values -/
theorem ev_op2 {t : TE} {ta tb : TE} {r : R2} (h : PE Y.X e (tOp r (tD Y c d1) (tD Y c d2)))
    (hr : ∀ x y F H Q, Same F H → Rep Y.X.K F x d1 → Rep Y.X.K F y d2 → (∀ v F' H', Ext F H F' H' → Rep Y.X.K F' v d → Q v H') → r x y H Q) : EvD Y e c d :=
  PE.imp h fun σ H Q ⟨F, E, q⟩ => ⟨F, E, fun x F1 H1 e1 r1 => ⟨F1, E.grow e1, fun y F2 H2 e2 r2 =>
    hr x y F2 H2 Q e2.fh (r1.mono e2.ff) r2 fun v F3 H3 e3 r3 => q v F3 H3 (e1.trans (e2.trans e3)) r3⟩⟩
theorem ev_un1 {r : V → Hp → VK → Prop} (h : PE Y.X e (tUn r (tD Y c d1)))
    (hr : ∀ x F H Q, Same F H → Rep Y.X.K F x d1 → (∀ v F' H', Ext F H F' H' → Rep Y.X.K F' v d → Q v H') → r x H Q) : EvD Y e c d :=
  PE.imp h fun σ H Q ⟨F, E, q⟩ => ⟨F, E, fun x F1 H1 e1 r1 => hr x F1 H1 Q e1.fh r1 fun v F3 H3 e3 r3 => q v F3 H3 (e1.trans e3) r3⟩

section
variable {i j : Int}
theorem inv_int {K : PySem.W.Frag} {F : Hp} {x : V} {i : Int} (r : Rep K F x (.int i)) : x = .int i := by cases r; rfl
theorem inv_bl {K : PySem.W.Frag} {F : Hp} {x : V} {i : Bool} (r : Rep K F x (.bl i)) : x = .bl i := by cases r; rfl
theorem inv_str {K : PySem.W.Frag} {F : Hp} {x : V} {i : Str} (r : Rep K F x (.str i)) : x = .str i := by cases r; rfl
theorem inv_tup {K : PySem.W.Frag} {F : Hp} {x : V} {ds : List D} (r : Rep K F x (.tup ds)) : ∃ a vs, x = .ref a ∧ SqT K F a vs ∧ Reps K F vs ds := by cases r with | tup h t => exact ⟨_, _, rfl, h, t⟩
theorem inv_lst {K : PySem.W.Frag} {F : Hp} {x : V} {ds : List D} (r : Rep K F x (.lst ds)) : ∃ a vs, x = .ref a ∧ SqL K F a vs ∧ Reps K F vs ds := by cases r with | lst h t => exact ⟨_, _, rfl, h, t⟩

theorem ev_intop {op : Operator} {C : Int → Int → Prop} {g : Int → Int → Int} (ho : OpR Y.X (binaryOp op) (rI C fun i j => .int (g i j))) (ha : EvD Y a c (.int i)) (hb : EvD Y b c (.int j)) (hc : C i j) : EvD Y (.BinOp a op b pos) c (.int (g i j)) :=
  ev_op2 (t := tC .non) (ta := tC .non) (tb := tC .non) (pe_op ho ha hb) fun x y F H Q f rx ry q => ⟨i, j, inv_int rx, inv_int ry, hc, q _ F H (Ext.refl f) (.int _)⟩
theorem ev_intop0 {op : Operator} {g : Int → Int → Int} (ho : OpR Y.X (binaryOp op) (rI0 fun i j => .int (g i j))) (ha : EvD Y a c (.int i)) (hb : EvD Y b c (.int j)) : EvD Y (.BinOp a op b pos) c (.int (g i j)) :=
  ev_op2 (t := tC .non) (ta := tC .non) (tb := tC .non) (pe_op ho ha hb) fun x y F H Q f rx ry q => ⟨i, j, inv_int rx, inv_int ry, q _ F H (Ext.refl f) (.int _)⟩
theorem ev_add (ha : EvD Y a c (.int i)) (hb : EvD Y b c (.int j)) : EvD Y (.BinOp a .Add b pos) c (.int (i + j)) := ev_intop0 op_add ha hb
theorem ev_sub (ha : EvD Y a c (.int i)) (hb : EvD Y b c (.int j)) : EvD Y (.BinOp a .Sub b pos) c (.int (i - j)) := ev_intop0 op_sub ha hb
/-- numbers of at most n bits -/
def Bd (n : Nat) (i : Int) : Prop := i.natAbs < 2 ^ n
instance {n : Nat} {i : Int} : Decidable (Bd n i) := inferInstanceAs (Decidable (i.natAbs < 2 ^ n))
theorem op_mulB {X : Cx} : OpR X (binaryOp .Mult) (rI (fun i j => IntMulOk i j) fun i j => .int (i * j)) := opI fun _ _ _ _ _ _ _ hc q => PyProof.Rows.mul_int q hc
theorem bits_le {n : Nat} {i : Int} (h : Bd n i) : Builtin.Int.intBits i ≤ n := by
  unfold Builtin.Int.intBits
  split
  · exact Nat.zero_le _
  · rename_i h0
    have hn : i.natAbs ≠ 0 := fun z => h0 (by simpa using z)
    have : i.natAbs.log2 < n := (Nat.log2_lt hn).mpr h
    omega
theorem mulOk {m n : Nat} {i j : Int} (h1 : Bd m i) (h2 : Bd n j) (h : m + n ≤ 134217728) : IntMulOk i j := PySem.IntMulOk.of_le (bits_le h1) (bits_le h2) h
theorem ev_mul (ha : EvD Y a c (.int i)) (hb : EvD Y b c (.int j)) (hm : IntMulOk i j) : EvD Y (.BinOp a .Mult b pos) c (.int (i * j)) := ev_intop op_mulB ha hb hm
theorem op_fdivB {X : Cx} : OpR X (binaryOp .FloorDiv) (rI (fun i j => j ≠ 0 ∧ Bd 9000 j) fun i j => .int (i.fdiv j)) := opI fun _ j _ _ _ _ _ hc q => PyProof.Rows.floordiv_int hc.1 q (.inl (PyProof.noPylong_of_log2 (by
  have hn : j.natAbs ≠ 0 := fun z => hc.1 (Int.natAbs_eq_zero.mp z)
  exact (Nat.log2_lt hn).mpr hc.2)))
theorem ev_fdiv (ha : EvD Y a c (.int i)) (hb : EvD Y b c (.int j)) (hj : j ≠ 0) (hm : Bd 9000 j) : EvD Y (.BinOp a .FloorDiv b pos) c (.int (i.fdiv j)) := ev_intop op_fdivB ha hb ⟨hj, hm⟩
theorem ev_fdivP (ha : EvD Y a c (.int i)) (hb : EvD Y b c (.int j)) (hj : 0 < j) (hm : Bd 9000 j) : EvD Y (.BinOp a .FloorDiv b pos) c (.int (i / j)) := by
  have h := ev_fdiv (pos := pos) ha hb (by omega) hm
  rw [Int.fdiv_eq_ediv_of_nonneg i (by omega)] at h
  exact h
theorem ev_mod (ha : EvD Y a c (.int i)) (hb : EvD Y b c (.int j)) (hj : j ≠ 0) : EvD Y (.BinOp a .Mod b pos) c (.int (i.fmod j)) := ev_intop op_modN ha hb hj
theorem ev_modP (ha : EvD Y a c (.int i)) (hb : EvD Y b c (.int j)) (hj : 0 < j) : EvD Y (.BinOp a .Mod b pos) c (.int (i % j)) := ev_intop op_mod ha hb hj
theorem ev_neg (ha : EvD Y a c (.int i)) : EvD Y (.UnaryOp .USub a pos) c (.int (-i)) :=
  ev_un1 (pe_un un_neg ha) fun x F H Q f rx q => ⟨i, inv_int rx, q _ F H (Ext.refl f) (.int _)⟩

/-! comparisons -/
theorem ev_cmpI {op : CmpOp} {g : Int → Int → Bool} (ho : OpR Y.X (compareOp op) (rI0 fun i j => .bl (g i j))) (hm : behindInMarks op b = false) (ha : EvD Y a c (.int i)) (hb : EvD Y b c (.int j)) : EvD Y (.Compare a [op] [b] pos) c (.bl (g i j)) :=
  ev_op2 (t := tC .non) (ta := tC .non) (tb := tC .non) (pe_cmpR ho ha hb hm) fun x y F H Q f rx ry q => ⟨i, j, inv_int rx, inv_int ry, q _ F H (Ext.refl f) (.bl _)⟩
theorem ev_lt (ha : EvD Y a c (.int i)) (hb : EvD Y b c (.int j)) : EvD Y (.Compare a [.Lt] [b] pos) c (.bl (decide (i < j))) := ev_cmpI op_lt (nomark _) ha hb
end

/-! tests -/
theorem te_val {v : Bool} (h : EvD Y e c (.bl v)) (he : ∀ whole, isTrue e Y.X.env whole = (do let v ← whole; standAt e.pos; holding [v] (truthy v)) := by intro _; rfl) : TeD Y e c v :=
  PT.imp (pt_val h he) fun σ H Q ⟨F, E, q⟩ => ⟨F, E, fun x F1 H1 e1 r1 => ⟨v, inv_bl r1, q F1 H1 e1⟩⟩
theorem te_cmp {op : CmpOp} {r : R2} {v : Bool} (ho : OpR Y.X (compareOp op) r) (hm : behindInMarks op b = false) (ha : EvD Y a c d1) (hb : EvD Y b c d2)
    (hr : ∀ x y F H Q, Same F H → Rep Y.X.K F x d1 → Rep Y.X.K F y d2 → (∀ F' H', Ext F H F' H' → Q (.bl v) H') → r x y H Q) : TeD Y (.Compare a [op] [b] pos) c v :=
  PT.imp (pt_cmpR ho ha hb hm) fun σ H Q ⟨F, E, q⟩ => ⟨F, E, fun x F1 H1 e1 r1 => ⟨F1, E.grow e1, fun y F2 H2 e2 r2 =>
    hr x y F2 H2 _ e2.fh (r1.mono e2.ff) r2 fun F3 H3 e3 => ⟨v, rfl, q F3 H3 (e1.trans (e2.trans e3))⟩⟩⟩
section
variable {i j : Int}
theorem te_cmpI {op : CmpOp} {g : Int → Int → Bool} (ho : OpR Y.X (compareOp op) (rI0 fun i j => .bl (g i j))) (hm : behindInMarks op b = false) (ha : EvD Y a c (.int i)) (hb : EvD Y b c (.int j)) : TeD Y (.Compare a [op] [b] pos) c (g i j) :=
  te_cmp ho hm ha hb fun x y F H Q f rx ry q => ⟨i, j, inv_int rx, inv_int ry, q F H (Ext.refl f)⟩
theorem te_lt (ha : EvD Y a c (.int i)) (hb : EvD Y b c (.int j)) : TeD Y (.Compare a [.Lt] [b] pos) c (decide (i < j)) := te_cmpI op_lt (nomark _) ha hb
theorem te_le (ha : EvD Y a c (.int i)) (hb : EvD Y b c (.int j)) : TeD Y (.Compare a [.LtE] [b] pos) c (decide (i ≤ j)) := te_cmpI op_le (nomark _) ha hb
theorem te_gt (ha : EvD Y a c (.int i)) (hb : EvD Y b c (.int j)) : TeD Y (.Compare a [.Gt] [b] pos) c (decide (j < i)) := te_cmpI op_gt (nomark _) ha hb
theorem te_eqI (ha : EvD Y a c (.int i)) (hb : EvD Y b c (.int j)) : TeD Y (.Compare a [.Eq] [b] pos) c (decide (i = j)) :=
  te_cmp op_eq (nomark _) ha hb fun x y F H Q f rx ry q => by
    rw [inv_int rx, inv_int ry]
    refine ⟨rfl, ?_⟩
    rw [dec_int]
    exact q F H (Ext.refl f)
theorem te_neI (ha : EvD Y a c (.int i)) (hb : EvD Y b c (.int j)) : TeD Y (.Compare a [.NotEq] [b] pos) c (!decide (i = j)) :=
  te_cmp op_ne (nomark _) ha hb fun x y F H Q f rx ry q => by
    rw [inv_int rx, inv_int ry]
    refine ⟨rfl, ?_⟩
    rw [dec_int]
    exact q F H (Ext.refl f)
end
theorem te_not {v : Bool} (h : TeD Y a c v) : TeD Y (.UnaryOp .Not a pos) c (!v) :=
  PT.imp (pt_not h) fun σ H Q ⟨F, E, q⟩ => ⟨F, E, fun F1 H1 e1 => q F1 H1 e1⟩
theorem te_and {v w : Bool} (ha : TeD Y a c v) (hb : v = true → PW Y.X (.BoolOp .And (b :: es) pos) (tT Y c w)) : PW Y.X (.BoolOp .And (a :: b :: es) pos) (tT Y c (v && w)) := by
  cases v with
  | true =>
    intro whole pins s σ H Q I h
    refine pw_and ha (hb rfl) whole pins s σ H Q I ?_
    obtain ⟨F, E, q⟩ := h
    exact ⟨F, E, fun F1 H1 e1 => L2.iteT ⟨F1, E.grow e1, fun F2 H2 e2 => q F2 H2 (e1.trans e2)⟩⟩
  | false =>
    intro whole pins s σ H Q I h
    have hn : PW Y.X (.BoolOp .And (b :: es) pos) (fun _ _ _ => False) := fun _ _ _ _ _ _ _ z => z.elim
    refine pw_and ha hn whole pins s σ H Q I ?_
    obtain ⟨F, E, q⟩ := h
    exact ⟨F, E, fun F1 H1 e1 => L2.iteF (q F1 H1 e1)⟩
theorem te_or {v w : Bool} (ha : TeD Y a c v) (hb : v = false → PW Y.X (.BoolOp .Or (b :: es) pos) (tT Y c w)) : PW Y.X (.BoolOp .Or (a :: b :: es) pos) (tT Y c (v || w)) := by
  cases v with
  | false =>
    intro whole pins s σ H Q I h
    refine pw_or ha (hb rfl) whole pins s σ H Q I ?_
    obtain ⟨F, E, q⟩ := h
    exact ⟨F, E, fun F1 H1 e1 => L2.iteF ⟨F1, E.grow e1, fun F2 H2 e2 => q F2 H2 (e1.trans e2)⟩⟩
  | true =>
    intro whole pins s σ H Q I h
    have hn : PW Y.X (.BoolOp .Or (b :: es) pos) (fun _ _ _ => False) := fun _ _ _ _ _ _ _ z => z.elim
    refine pw_or ha hn whole pins s σ H Q I ?_
    obtain ⟨F, E, q⟩ := h
    exact ⟨F, E, fun F1 H1 e1 => L2.iteT (q F1 H1 e1)⟩
theorem te_and1 {v : Bool} (ha : TeD Y a c v) : PW Y.X (.BoolOp .And [a] pos) (tT Y c v) := pw_and1 ha
theorem te_or1 {v : Bool} (ha : TeD Y a c v) : PW Y.X (.BoolOp .Or [a] pos) (tT Y c v) := pw_or1 ha
/-- and, or as values of truths -/
theorem ev_one {op} (h : EvD Y a c d) : EvD Y (.BoolOp op [a] pos) c d := pe_one h
theorem ev_and {v : Bool} (ha : EvD Y a c (.bl v)) (hb : v = true → EvD Y (.BoolOp .And (b :: es) pos) c d) : EvD Y (.BoolOp .And (a :: b :: es) pos) c (if v = true then d else .bl false) := by
  cases v with
  | true =>
    refine PE.imp (pe_and ha (hb rfl)) fun σ H Q ⟨F, E, q⟩ => ⟨F, E, fun x F1 H1 e1 r1 => ⟨true, inv_bl r1, L2.iteT ⟨F1, E.grow e1, fun v F2 H2 e2 r2 => q v F2 H2 (e1.trans e2) (by simpa using r2)⟩⟩⟩
  | false =>
    have hn : PE Y.X (.BoolOp .And (b :: es) pos) (fun _ _ _ => False) := fun _ _ _ _ _ _ z => z.elim
    refine PE.imp (pe_and ha hn) fun σ H Q ⟨F, E, q⟩ => ⟨F, E, fun x F1 H1 e1 r1 => ⟨false, inv_bl r1, L2.iteF (q _ F1 H1 e1 (by simpa using Rep.bl false))⟩⟩
theorem ev_not {v : Bool} (ha : EvD Y a c (.bl v)) : EvD Y (.UnaryOp .Not a pos) c (.bl (!v)) :=
  PE.imp (pe_not ha) fun σ H Q ⟨F, E, q⟩ => ⟨F, E, fun x F1 H1 e1 r1 => ⟨v, inv_bl r1, q _ F1 H1 e1 (.bl _)⟩⟩
/-! arguments, displays, items -/
theorem ar_nil : ArD Y [] c [] := PA.imp pa_nil fun σ H Q ⟨F, E, q⟩ => q [] F H (Ext.refl E.fh) .nil
theorem ar_cons (ha : EvD Y e c d) (hr : ArD Y es c ds) (hs : starEach (e :: es) Y.X.env = (false, eval e Y.X.env) :: starEach es Y.X.env := by rfl) : ArD Y (e :: es) c (d :: ds) :=
  PA.imp (pa_cons ha hr hs) fun σ H Q ⟨F, E, q⟩ => ⟨F, E, fun x F1 H1 e1 r1 => ⟨F1, E.grow e1, fun vs F2 H2 e2 r2 => q _ F2 H2 (e1.trans e2) (.cons (r1.mono e2.ff) r2)⟩⟩
theorem small_le {n : Nat} (h : n ≤ 1000000) : n ≤ sizeLine := by rw [sizeLine_eq]; omega
theorem ev_tup {x1} (h : ArD Y es c ds) (hz : ds.length ≤ 1000000 := by first | exact of_decide_eq_true rfl | (simp; done)) : EvD Y (.Tuple es x1 pos) c (.tup ds) :=
  PE.imp (pe_tup h) fun σ H Q ⟨F, E, q⟩ => ⟨F, E, fun vs F1 H1 e1 r1 => ⟨by rw [r1.length]; exact small_le hz, fun p hp =>
    q (.ref p) _ _ (e1.trans (Ext.new e1.fh hp (.tup vs))) (.tup (SqT.of upd_same) (r1.mono (Ext.new e1.fh hp _).ff))⟩⟩
theorem ev_lst (h : ArD Y es c ds) (hz : ds.length ≤ 1000000 := by first | exact of_decide_eq_true rfl | (simp; done)) : EvD Y (.List es pos) c (.lst ds) :=
  PE.imp (pe_lst h) fun σ H Q ⟨F, E, q⟩ => ⟨F, E, fun vs F1 H1 e1 r1 => ⟨by rw [r1.length]; exact small_le hz, fun p hp =>
    q (.ref p) _ _ (e1.trans (Ext.new e1.fh hp (.lst vs))) (.lst (SqL.of upd_same) (r1.mono (Ext.new e1.fh hp _).ff))⟩⟩
theorem atI_reps {K : PySem.W.Frag} {F : Hp} {vs : List V} {ds : List D} {i : Int} {d : D} (r : Reps K F vs ds) (h : atI ds i = some d) : ∃ v, atI vs i = some v ∧ Rep K F v d := by
  unfold atI at h ⊢
  rw [r.length]
  cases q : ixN ds.length i with
  | none => rw [q] at h; cases h
  | some j =>
    rw [q] at h
    obtain ⟨v, h1, h2⟩ := r.get (i := j) (by simpa using h)
    exact ⟨v, by simpa using h1, h2⟩
theorem ev_ixT {i : Int} (ha : EvD Y a c (.tup ds)) (hb : EvD Y b c (.int i)) (h : atI ds i = some d) (hs : PlainIx b := by intro _ _; rfl) : EvD Y (.Subscript a b pos) c d :=
  ev_op2 (t := tC .non) (ta := tC .non) (tb := tC .non) (pe_ix ix_tup ha hb hs) fun x y F H Q f rx ry q => by
    obtain ⟨p, vs, rfl, hp, r⟩ := inv_tup rx
    obtain ⟨v, hv, rv⟩ := atI_reps r h
    exact ⟨p, vs, i, v, rfl, inv_int ry, sqT_same f hp, hv, q v F H (Ext.refl f) rv⟩
theorem ev_ixL {i : Int} (ha : EvD Y a c (.lst ds)) (hb : EvD Y b c (.int i)) (h : atI ds i = some d) (hs : PlainIx b := by intro _ _; rfl) : EvD Y (.Subscript a b pos) c d :=
  ev_op2 (t := tC .non) (ta := tC .non) (tb := tC .non) (pe_ix ix_list ha hb hs) fun x y F H Q f rx ry q => by
    obtain ⟨p, vs, rfl, hp, r⟩ := inv_lst rx
    obtain ⟨v, hv, rv⟩ := atI_reps r h
    exact ⟨p, vs, i, v, rfl, inv_int ry, f.seq hp, hv, q v F H (Ext.refl f) rv⟩

/-! ### built-in functions -/
theorem ev_callB (S : Se Y T k N G) (gi : Nat) {id : String} {x : Str} {p : Pos} {r : List V → Hp → VK → Prop} (hc : CallR Y.X (.builtin id) r) (hg : G[gi]? = some x) (hm : T.mg x = none) (hv : bootBuiltins x = some (.builtin id)) (ha : ArD Y (e :: es) c ds)
    (hr : ∀ vs F H Q, Same F H → Reps Y.X.K F vs ds → (∀ v F' H', Ext F H F' H' → Rep Y.X.K F' v d → Q v H') → r vs H Q)
    (he : starEach (e :: es) Y.X.env = (false, eval e Y.X.env) :: starEach es Y.X.env) (hpl : (backTo pos (starEach es Y.X.env)).any (·.1) = false) : EvD Y (.Call (.Name x p) (e :: es) [] pos) c d :=
  PE.imp (pe_callB hc (S.gl x (List.mem_of_getElem? hg)).1 (by rw [S.eM]; exact hm) hv ha (S.gl x (List.mem_of_getElem? hg)).2.2 (S.gl x (List.mem_of_getElem? hg)).2.1 he hpl) fun σ H Q ⟨F, E, q⟩ => ⟨F, E, fun vs F1 H1 e1 r1 => hr vs F1 H1 Q e1.fh r1 fun v F2 H2 e2 r2 => q v F2 H2 (e1.trans e2) r2⟩
theorem ev_callTy (S : Se Y T k N G) (gi : Nat) {id : String} {x : Str} {p : Pos} {r : List V → Hp → VK → Prop} (hc : CallR Y.X (.type id) r) (hg : G[gi]? = some x) (hm : T.mg x = none) (hv : bootBuiltins x = some (.type id)) (ha : ArD Y (e :: es) c ds)
    (hr : ∀ vs F H Q, Same F H → Reps Y.X.K F vs ds → (∀ v F' H', Ext F H F' H' → Rep Y.X.K F' v d → Q v H') → r vs H Q)
    (he : starEach (e :: es) Y.X.env = (false, eval e Y.X.env) :: starEach es Y.X.env) (hpl : (backTo pos (starEach es Y.X.env)).any (·.1) = false) : EvD Y (.Call (.Name x p) (e :: es) [] pos) c d :=
  PE.imp (pe_callTy hc (S.gl x (List.mem_of_getElem? hg)).1 (by rw [S.eM]; exact hm) hv ha (S.gl x (List.mem_of_getElem? hg)).2.2 (S.gl x (List.mem_of_getElem? hg)).2.1 he hpl) fun σ H Q ⟨F, E, q⟩ => ⟨F, E, fun vs F1 H1 e1 r1 => hr vs F1 H1 Q e1.fh r1 fun v F2 H2 e2 r2 => q v F2 H2 (e1.trans e2) r2⟩
theorem inv1 {K : PySem.W.Frag} {F : Hp} {vs : List V} {d : D} (r : Reps K F vs [d]) : ∃ v, vs = [v] ∧ Rep K F v d := by
  cases r with
  | cons a t => cases t; exact ⟨_, rfl, a⟩
theorem inv2 {K : PySem.W.Frag} {F : Hp} {vs : List V} {d e : D} (r : Reps K F vs [d, e]) : ∃ v w, vs = [v, w] ∧ Rep K F v d ∧ Rep K F w e := by
  cases r with
  | cons a t => obtain ⟨w, rfl, b⟩ := inv1 t; exact ⟨_, _, rfl, a, b⟩
theorem ev_abs (S : Se Y T k N G) (gi : Nat) {i : Int} {p : Pos} (ha : ArD Y [e] c [.int i]) (hm : T.mg "abs" = none) (hg : G[gi]? = some ("abs" : Str) := by rfl) (he : starEach [e] Y.X.env = (false, eval e Y.X.env) :: starEach [] Y.X.env := by rfl) : EvD Y (.Call (.Name "abs" p) [e] [] pos) c (.int (i.natAbs : Int)) :=
  ev_callB S gi call_abs hg hm bt_abs ha (fun vs F H Q f r q => by
    obtain ⟨v, rfl, rv⟩ := inv1 r
    refine ⟨i, by rw [inv_int rv], ?_⟩
    have e : (if i < 0 then -i else i) = (i.natAbs : Int) := by split <;> omega
    rw [e]
    exact q _ F H (Ext.refl f) (.int _)) he rfl
theorem ev_max (S : Se Y T k N G) (gi : Nat) {i j : Int} {p : Pos} {e1 : Expr} (ha : ArD Y [e, e1] c [.int i, .int j]) (hm : T.mg "max" = none) (hg : G[gi]? = some ("max" : Str) := by rfl) (he : starEach [e, e1] Y.X.env = (false, eval e Y.X.env) :: starEach [e1] Y.X.env := by rfl) (hpl : (backTo pos (starEach [e1] Y.X.env)).any (·.1) = false := by rfl) : EvD Y (.Call (.Name "max" p) [e, e1] [] pos) c (.int (max i j)) :=
  ev_callB S gi (call_max2 S.calm) hg hm bt_max ha (fun vs F H Q f r q => by
    obtain ⟨v, w, rfl, rv, rw'⟩ := inv2 r
    refine ⟨i, j, by rw [inv_int rv, inv_int rw'], ?_⟩
    have e : (if j > i then j else i) = max i j := by split <;> omega
    rw [e]
    exact q _ F H (Ext.refl f) (.int _)) he hpl
def lenD : D → Option Nat
  | .str x => if x.length ≤ 1000000 then some x.length else none
  | .tup xs => some xs.length
  | .lst xs => some xs.length
  | _ => none
theorem ev_len (S : Se Y T k N G) (gi : Nat) {n : Nat} {p : Pos} (ha : ArD Y [e] c [d]) (hl : lenD d = some n) (hm : T.mg "len" = none) (hg : G[gi]? = some ("len" : Str) := by rfl) (he : starEach [e] Y.X.env = (false, eval e Y.X.env) :: starEach [] Y.X.env := by rfl) : EvD Y (.Call (.Name "len" p) [e] [] pos) c (.int n) :=
  ev_callB S gi call_len hg hm bt_len ha (fun vs F H Q f r q => by
    obtain ⟨v, rfl, rv⟩ := inv1 r
    refine ⟨v, n, rfl, ?_, q _ F H (Ext.refl f) (.int _)⟩
    cases rv with
    | str x =>
      have hl' : (if x.length ≤ 1000000 then some x.length else none) = some n := hl
      by_cases hx : x.length ≤ 1000000
      · rw [if_pos hx] at hl'; cases hl'; exact ⟨small_le hx, rfl⟩
      · rw [if_neg hx] at hl'; cases hl'
    | tup h t => cases hl; exact .inr ⟨_, sqT_same f h, t.length.symm⟩
    | lst h t => cases hl; exact .inl ⟨_, f.seq h, t.length.symm⟩
    | _ => cases hl) he rfl
theorem ev_intOf (S : Se Y T k N G) (gi : Nat) {i : Bool} {p : Pos} (ha : ArD Y [e] c [.bl i]) (hm : T.mg "int" = none) (hg : G[gi]? = some ("int" : Str) := by rfl) (he : starEach [e] Y.X.env = (false, eval e Y.X.env) :: starEach [] Y.X.env := by rfl) : EvD Y (.Call (.Name "int" p) [e] [] pos) c (.int (if i then 1 else 0)) :=
  ev_callTy S gi call_int1 hg hm bt_int ha (fun vs F H Q f r q => by
    obtain ⟨v, rfl, rv⟩ := inv1 r
    exact .inr ⟨i, by rw [inv_bl rv], q _ F H (Ext.refl f) (.int _)⟩) he rfl

/-! ### statements -/
theorem ss_nil (h : P (.nx c)) : SsD Y [] c P := PSs.imp pss_nil fun D σ H ⟨F, E, m⟩ => m _ h σ F H (Same.refl F) E
/-- any reading of the rest -/
def tAny (Y : Cy) (rest : List Stmt) : TS := fun D σ H => ∃ c P F, SsD Y rest c P ∧ EnvY Y F H σ c ∧ ∀ o, P o → Meets Y F D o
theorem pss_any : PSs Y.X rest (tAny Y rest) := fun pins s σ H D I ⟨c, P, F, h, e, m⟩ => h pins s σ H D I ⟨F, e, m⟩
theorem ss_cons {st : Stmt} (h : StD Y st c (Thn Y rest P)) : SsD Y (st :: rest) c P :=
  PSs.imp (pss_cons h pss_any) fun D σ H ⟨F, e, m⟩ => ⟨F, e, fun o ho => by
    cases o with
    | nx c' => exact fun σ' F' H' s' E' => ⟨c', P, F', ho, E', fun o' ho' => (m o' ho').grow s'⟩
    | rt d => exact m (.rt d) ho
    | bk c' => exact m (.bk c') ho
    | ct c' => exact m (.ct c') ho
    | ro ds => exact m (.ro ds) ho
    | rs R => exact m (.rs R) ho⟩
theorem st_ret (h : EvD Y e c d) (hp : P (.rt d)) : StD Y (.Return (some e) pos) c P :=
  PS.imp (ps_ret h) fun D σ H ⟨F, E, m⟩ => ⟨F, E, fun v F' H' x r => m _ hp v F' H' x.ff (E.ext.trans x) r⟩
theorem ss_ret (h : EvD Y e c d) (hp : P (.rt d)) : SsD Y (.Return (some e) pos :: rest) c P := ss_cons (st_ret h hp)
theorem ss_if {t : Expr} {sa sb : List Stmt} {v : Bool} (ht : TeD Y t c v) (ha : v = true → SsD Y sa c (Thn Y rest P)) (hb : v = false → SsD Y sb c (Thn Y rest P)) : SsD Y (.If t sa sb pos :: rest) c P := by
  refine ss_cons ?_
  cases v with
  | true => exact PS.imp (ps_if ht (ha rfl) (pss_never (sts := sb))) fun D σ H ⟨F, E, m⟩ => ⟨F, E, fun F1 H1 e1 => L2.iteT ⟨F1, E.grow e1, fun o ho => (m o ho).grow e1.ff⟩⟩
  | false => exact PS.imp (ps_if ht (pss_never (sts := sa)) (hb rfl)) fun D σ H ⟨F, E, m⟩ => ⟨F, E, fun F1 H1 e1 => L2.iteF ⟨F1, E.grow e1, fun o ho => (m o ho).grow e1.ff⟩⟩
theorem ss_set (S : Sc Y T k N G) (i : Nat) {x : Str} {pos' : Pos} (he : EvD Y e c d)
    (hr : SsD Y rest (put c i (.val d)) P) (hi : N[i]? = some x := by rfl) (hlt : i < c.length := by first | exact of_decide_eq_true rfl | decide | omega) (hs : swapsWith e (some (.Name x pos')) pos.line Y.X.env = pure false := by rfl) : SsD Y (.Assign [.Name x pos'] e pos :: rest) c P := by
  have hx := S.loc x (List.mem_of_getElem? hi)
  have hN := S.nd
  rw [← S.n] at hi hN
  refine ss_cons (PS.imp (ps_set hN hi hx.1 he hs (.inl (S.fn x))) fun D σ H ⟨F, E, m⟩ => ⟨F, E, fun v F' H' e' r' => ?_⟩)
  exact m (.nx (put c i (.val d))) hr _ F' H' e'.ff ((E.grow e').set hlt r')
/-- if t: x = e (no else), the name's two values in one -/
theorem ss_ifI (S : Sc Y T k N G) (i : Nat) {x : Str} {t : Expr} {p1 p2 : Pos} {v : Bool} {a b : Int} (ht : TeD Y t c v) (he : v = true → EvD Y e c (.int a)) (hr : SsD Y rest (put c i (.val (.int (if v = true then a else b)))) P) (hsl : slot c i = .val (.int b) := by rfl) (hi : N[i]? = some x := by rfl)
    (hlt : i < c.length := by first | exact of_decide_eq_true rfl | decide | omega) (hs : swapsWith e (some (.Name x p1)) p2.line Y.X.env = pure false := by rfl) : SsD Y (.If t [.Assign [.Name x p1] e p2] [] pos :: rest) c P := by
  refine ss_if ht (fun h => ?_) (fun h => ?_)
  · refine ss_set S i (he h) (ss_nil ?_) hi hlt hs
    rw [if_pos h] at hr
    exact hr
  · refine ss_nil ?_
    rw [if_neg (by rw [h]; exact Bool.false_ne_true)] at hr
    have e : put c i (.val (.int b)) = c := by rw [← hsl]; exact put_slot c i
    rw [e] at hr
    exact hr
theorem ss_ifD (S : Sc Y T k N G) (i : Nat) {x : Str} {t : Expr} {p1 p2 : Pos} {v : Bool} (ht : TeD Y t c v) (he : v = true → EvD Y e c d1) (hr : SsD Y rest (put c i (.val (if v = true then d1 else d2))) P) (hsl : slot c i = .val d2 := by rfl) (hi : N[i]? = some x := by rfl)
    (hlt : i < c.length := by first | exact of_decide_eq_true rfl | decide | omega) (hs : swapsWith e (some (.Name x p1)) p2.line Y.X.env = pure false := by rfl) : SsD Y (.If t [.Assign [.Name x p1] e p2] [] pos :: rest) c P := by
  refine ss_if ht (fun h => ?_) (fun h => ?_)
  · refine ss_set S i (he h) (ss_nil ?_) hi hlt hs
    rw [if_pos h] at hr
    exact hr
  · refine ss_nil ?_
    rw [if_neg (by rw [h]; exact Bool.false_ne_true)] at hr
    have e : put c i (.val d2) = c := by rw [← hsl]; exact put_slot c i
    rw [e] at hr
    exact hr
/-- what a loop's turn is to reach -/
def Turned (I : List Slot → Prop) (Pn : List Slot → Prop) (Pr : D → Prop) : Out → Prop
  | .nx c => I c
  | .ct c => I c
  | .bk c => Pn c
  | .rt d => Pr d
  | .ro _ => False
  | .rs _ => False
def tAnyT (Y : Cy) (e : Expr) : TT := fun σ H Q => ∃ c v, TeD Y e c v ∧ tT Y c v σ H Q
theorem pt_any {e : Expr} : PT Y.X e (tAnyT Y e) := fun pins s σ H Q I ⟨c, v, h, q⟩ => h pins s σ H Q I q
theorem ss_while (S : Sc Y T k N G) {t : Expr} {body : List Stmt} (I : List Slot → Prop) (μ : List Slot → Nat) (h0 : I c)
    (hs : ∀ c, I c → ∃ v, TeD Y t c v ∧ (v = true → SsD Y body c (Turned (fun c' => I c' ∧ μ c' < μ c) (fun c' => SsD Y rest c' P) (fun d => P (.rt d)))) ∧ (v = false → SsD Y rest c P)) : SsD Y (.While t body [] pos :: rest) c P := by
  refine ss_cons (PS.imp (ps_while S.hp (pt_any (e := t)) (pss_any (rest := body))) fun D σ H ⟨F, E, m⟩ => ?_)
  refine ⟨fun n σ H => ∃ c F1, I c ∧ μ c = n ∧ EnvY Y F1 H σ c ∧ Same F F1, ⟨μ c, c, F, h0, rfl, E, Same.refl F⟩, ?_⟩
  rintro n σ H ⟨c, F1, hI, rfl, E, s1⟩
  obtain ⟨v, ht, hb, hn⟩ := hs c hI
  refine ⟨c, v, ht, F1, E, fun F2 H2 e2 => ?_⟩
  cases v with
  | false => exact L2.iteF (m (.nx c) (hn rfl) σ F2 H2 (s1.trans e2.ff) (E.grow e2))
  | true =>
    refine L2.iteT ⟨fun σ' H' => ∃ c' F', (I c' ∧ μ c' < μ c) ∧ EnvY Y F' H' σ' c' ∧ Same F F', fun σ' H' ⟨c', F', hI', E', s'⟩ => ⟨μ c', hI'.2, c', F', hI'.1, rfl, E', s'⟩, ?_⟩
    refine ⟨c, _, F2, hb rfl, E.grow e2, fun o ho => ?_⟩
    have s2 := s1.trans e2.ff
    cases o with
    | nx c' => exact fun σ' F' H' s' E' => ⟨c', F', ho, E', s2.trans s'⟩
    | ct c' => exact fun σ' F' H' s' E' => ⟨c', F', ho, E', s2.trans s'⟩
    | bk c' => exact fun σ' F' H' s' E' => m (.nx c') ho σ' F' H' (s2.trans s') E'
    | rt d => exact (m (.rt d) ho).grow s2
    | ro ds => exact False.elim ho
    | rs R => exact False.elim ho
end

/-! ### for -/
def Itrs (lo st : Int) (n : Nat) : It := ⟨fun i _ => i < n, fun i H x H' => H' = H ∧ x = .int (lo + i * st), fun i _ => n ≤ i⟩
theorem turn_ranges {P : Program} {w : World} {K : PySem.W.Frag} {tg : Expr} (it : Addr) (lo st : Int) (n : Nat) : Turn P w K tg (Itrs lo st n) [it] it (fun i h => IsRangeIter h it (lo + (i : Nat) * st) ((n : Int) - (i : Nat)) st) where
  mem := by simp
  obj := fun i h st b hb => by
    have e : b = it := by simpa using hb
    subst e
    exact ⟨_, st, fun v z => by
      have z' : Data.fields _ = Data.cell v := z
      cases z'⟩
  keep := fun i h h' st k => k it (by simp) _ st
  item := by
    intro X hP hw hK hc i pins s σ H E I hf stt hg
    subst hP hw hK
    obtain ⟨f0, f1, f2, f3, f4, f5⟩ := hf it (by simp)
    have W := PySem.Walks.range (prog := X.prog) (w := X.w) (I.ok.hd hc) it lo st n
    refine W.item i s _ _ hg stt fun v h' tk hv st' kk => ?_
    obtain ⟨t, rfl⟩ := hv
    have I1 : Inv X pins σ H { s with heap := h', toks := tk } := I.turned (fun b o hb e => kk b o (by simpa using hb) e) f0 f1 f3 f4 f5
    exact ⟨_, rfl, go_of (s := { s with heap := h', toks := tk }) (n := "range_iterator") st' rfl rfl (by decide) ⟨.int _, H, I1, ⟨t, rfl⟩, ⟨rfl, rfl⟩, st', fun b hb => (hf b hb).1⟩⟩
  done := by
    intro X hP hw hK hc i pins s σ H E I hf st hg
    subst hP hw hK
    obtain ⟨f0, f1, f2, f3, f4, f5⟩ := hf it (by simp)
    exact wpAny_pyNext_range_end (I.ok.hd hc) st (by have : n ≤ i := hg; omega) fun h' eb => ⟨rfl, I.turned (t' := s.toks) (fun b o hb e => eb b o hb e) f0 f1 f3 f4 f5⟩
  self := fun _ _ _ _ _ st h => wpAny_pyIter_rangeiter st h

section
variable {Y : Cy} {T : Tx} {k : Nat} {N G : List Str} {c c' : List Slot} {a b e tg : Expr} {es : List Expr} {pos : Pos} {d d1 d2 : D} {ds items : List D} {P : Out → Prop} {rest : List Stmt}
/-- the iterator J goes through the items -/
def Yields (K : PySem.W.Frag) (F1 : Hp) (J : It) (items : List D) : Prop := ∀ (i : Nat) (F H : Hp), Same F1 F → Same F H →
  (∀ d, items[i]? = some d → J.go i H ∧ ∀ x H', J.yld i H x H' → ∃ F', Ext F H F' H' ∧ Rep K F' x d) ∧ (items.length ≤ i → J.stop i H)
def tI (Y : Cy) (c : List Slot) (items : List D) : TI := fun σ H R => ∃ F, EnvY Y F H σ c ∧ ∀ J F1 H1, Ext F H F1 H1 → Yields Y.X.K F1 J items → R J H1
def ItD (Y : Cy) (tg e : Expr) (c : List Slot) (items : List D) : Prop := PI Y.X tg e (tI Y c items)
theorem PI.imp {X : Cx} {e : Expr} {t t' : TI} (h : PI X tg e t) (i : ∀ σ H R, t' σ H R → t σ H R) : PI X tg e t' := fun pins s σ H R I q => h pins s σ H R I (i _ _ _ q)
theorem it_tup (h : EvD Y e c (.tup ds)) : ItD Y tg e c ds :=
  PI.imp (pi_tup h) fun σ H R ⟨F, E, q⟩ => ⟨F, E, fun x F1 H1 e1 r1 => by
    obtain ⟨p, vs, rfl, hp, r⟩ := inv_tup r1
    refine ⟨p, rfl, ⟨vs, sqT_same e1.fh hp⟩, q _ F1 H1 e1 fun i F2 H2 s1 s2 => ⟨fun d hd => ?_, fun hl => ⟨vs, sqT_same s2 (sqT_same s1 hp), by rw [r.length]; exact hl⟩⟩⟩
    obtain ⟨v, hv, rv⟩ := r.get hd
    refine ⟨⟨vs, v, sqT_same s2 (sqT_same s1 hp), hv⟩, fun x H' y => ?_⟩
    obtain ⟨rfl, y⟩ := y
    have := y vs (sqT_same s2 (sqT_same s1 hp))
    rw [hv] at this
    cases this
    exact ⟨F2, Ext.refl s2, rv.mono s1⟩⟩
/-- lo, lo + st, .. (n of them) -/
def rangeD (lo st : Int) (n : Nat) : List D := (List.range n).map fun (m : Nat) => D.int (lo + (m : Int) * st)
theorem rangeD_length (lo st : Int) (n : Nat) : (rangeD lo st n).length = n := by simp [rangeD]
theorem rangeD_get {lo st : Int} {n m : Nat} (h : m < n) : (rangeD lo st n)[m]? = some (.int (lo + (m : Int) * st)) := by simp [rangeD, h]
theorem rangeD_of {lo st : Int} {n m : Nat} {d : D} (h : (rangeD lo st n)[m]? = some d) : m < n ∧ d = .int (lo + (m : Int) * st) := by
  have hl := (List.getElem?_eq_some_iff.mp h).1
  rw [rangeD_length] at hl
  rw [rangeD_get hl] at h
  cases h
  exact ⟨hl, rfl⟩
theorem yields_ranges {K : PySem.W.Frag} {F : Hp} (lo st : Int) (n : Nat) : Yields K F (Itrs lo st n) (rangeD lo st n) := fun i F2 H2 s1 s2 => ⟨fun d hd => by
    obtain ⟨hi, rfl⟩ := rangeD_of hd
    refine ⟨hi, fun x H' y => ?_⟩
    obtain ⟨rfl, rfl⟩ := y
    exact ⟨F2, Ext.refl s2, .int _⟩, fun hl => by rw [rangeD_length] at hl; exact hl⟩
theorem yields_range {K : PySem.W.Frag} {F : Hp} (lo : Int) (n : Nat) : Yields K F (Itr lo n) (rangeD lo 1 n) := fun i F2 H2 s1 s2 => ⟨fun d hd => by
    obtain ⟨hi, rfl⟩ := rangeD_of hd
    refine ⟨hi, fun x H' y => ?_⟩
    obtain ⟨rfl, rfl⟩ := y
    rw [Int.mul_one]
    exact ⟨F2, Ext.refl s2, .int _⟩, fun hl => by rw [rangeD_length] at hl; exact hl⟩
theorem it_range1 (S : Se Y T k N G) (gi : Nat) {j : Int} {p : Pos} (ha : ArD Y [a] c [.int j]) (h1 : -(2 ^ 62) ≤ j) (h2 : j < 2 ^ 62) (hm : T.mg "range" = none) (hg : G[gi]? = some ("range" : Str) := by rfl)
    (hs : starEach [a] Y.X.env = [(false, eval a Y.X.env)] := by rfl) : ItD Y tg (.Call (.Name "range" p) [a] [] pos) c (rangeD 0 1 j.toNat) :=
  PI.imp (pi_range1 (S.gl _ (List.mem_of_getElem? hg)).1 (by rw [S.eM]; exact hm) ha hs) fun σ H R ⟨F, E, q⟩ => ⟨F, E, fun vs F1 H1 e1 r1 => by
    obtain ⟨v, rfl, rv⟩ := inv1 r1
    exact ⟨j, by rw [inv_int rv], h1, h2, q _ F1 H1 e1 (yields_range 0 j.toNat)⟩⟩
theorem it_range2 (S : Se Y T k N G) (gi : Nat) {i j : Int} {p : Pos} (ha : ArD Y [a, b] c [.int i, .int j]) (h0 : -(2 ^ 62) ≤ i ∧ i < 2 ^ 62 ∧ -(2 ^ 62) ≤ j ∧ j < 2 ^ 62) (hm : T.mg "range" = none) (hg : G[gi]? = some ("range" : Str) := by rfl)
    (hs : starEach [a, b] Y.X.env = [(false, eval a Y.X.env), (false, eval b Y.X.env)] := by rfl) (hs2 : starEach [b] Y.X.env = [(false, eval b Y.X.env)] := by rfl) : ItD Y tg (.Call (.Name "range" p) [a, b] [] pos) c (rangeD i 1 (j - i).toNat) :=
  PI.imp (pi_range2 (S.gl _ (List.mem_of_getElem? hg)).1 (by rw [S.eM]; exact hm) ha hs hs2) fun σ H R ⟨F, E, q⟩ => ⟨F, E, fun vs F1 H1 e1 r1 => by
    obtain ⟨v, w, rfl, rv, rw'⟩ := inv2 r1
    exact ⟨i, j, by rw [inv_int rv, inv_int rw'], h0, q _ F1 H1 e1 (yields_range i _)⟩⟩
/-- how many -/
def rangeN (lo hi st : Int) : Nat := (Builtin.Range.rangeSize lo hi st).toNat
theorem inv3 {K : PySem.W.Frag} {F : Hp} {vs : List V} {d e f : D} (r : Reps K F vs [d, e, f]) : ∃ v w x, vs = [v, w, x] ∧ Rep K F v d ∧ Rep K F w e ∧ Rep K F x f := by
  cases r with
  | cons a t => obtain ⟨w, x, rfl, b, c⟩ := inv2 t; exact ⟨_, _, _, rfl, a, b, c⟩
/-! targets -/
def tG (Y : Cy) (d : D) (c c' : List Slot) : TG := fun v σ H Q => ∃ F, EnvY Y F H σ c ∧ Rep Y.X.K F v d ∧ ∀ σ' F' H', Ext F H F' H' → EnvY Y F' H' σ' c' → Q σ' H'
def TgD (Y : Cy) (tg : Expr) (d : D) (c c' : List Slot) : Prop := PG Y.X tg (tG Y d c c')
theorem PG.imp {X : Cx} {t t' : TG} (h : PG X tg t) (i : ∀ v σ H Q, t' v σ H Q → t v σ H Q) : PG X tg t' := fun pins s σ H x v Q I r q => h pins s σ H x v Q I r (i _ _ _ _ q)
theorem tg_name (S : Sc Y T k N G) (i : Nat) {x : Str} (hi : N[i]? = some x := by rfl) (hlt : i < c.length := by first | exact of_decide_eq_true rfl | decide | omega) : TgD Y (.Name x pos) d c (put c i (.val d)) := by
  have hx := S.loc x (List.mem_of_getElem? hi)
  have hN := S.nd
  rw [← S.n] at hi hN
  exact PG.imp (pg_name hN hi hx.1 (.inl (S.fn x))) fun v σ H Q ⟨F, E, r, q⟩ => q _ F H (Ext.refl E.fh) (E.set hlt r)
theorem tg_name0 (S : Sn Y T N G) (i : Nat) {x : Str} (hf : Y.X.fn x = true ∨ Y.X.env.scope.names.lookup x = some .local) (hi : N[i]? = some x := by rfl) (hlt : i < c.length := by first | exact of_decide_eq_true rfl | decide | omega) : TgD Y (.Name x pos) d c (put c i (.val d)) := by
  have hx := S.loc x (List.mem_of_getElem? hi)
  have hN := S.nd
  rw [← S.n] at hi hN
  exact PG.imp (pg_name hN hi hx.1 hf) fun v σ H Q ⟨F, E, r, q⟩ => q _ F H (Ext.refl E.fh) (E.set hlt r)
def gAny (Y : Cy) (tg : Expr) : TG := fun v σ H Q => ∃ d c c', TgD Y tg d c c' ∧ tG Y d c c' v σ H Q
theorem pg_any : PG Y.X tg (gAny Y tg) := fun pins s σ H x v Q I r ⟨d, c, c', h, q⟩ => h pins s σ H x v Q I r q
theorem ss_for (S : Sc Y T k N G) {iter : Expr} {body : List Stmt} (hi : ItD Y tg iter c items) (I : Nat → List Slot → Prop) (h0 : I 0 c)
    (hs : ∀ m d c, items[m]? = some d → I m c → ∃ c', TgD Y tg d c c' ∧ SsD Y body c' (Turned (I (m + 1)) (fun c' => SsD Y rest c' P) (fun d => P (.rt d))))
    (hd : ∀ c, I items.length c → SsD Y rest c P) (hf : ∀ x, foldedSetIterable iter Y.X.env x = pure x := by intro _; rfl) : SsD Y (.For tg iter body [] pos :: rest) c P := by
  refine ss_cons (PS.imp (ps_for S.hp S.calm hi (pg_any (tg := tg)) (pss_any (rest := body)) hf) fun D σ H ⟨F, E, m⟩ => ?_)
  refine ⟨F, E, fun J F1 H1 e1 yl => ?_⟩
  refine ⟨fun n r σ H => r = items.length - n ∧ n ≤ items.length ∧ ∃ c F, I n c ∧ EnvY Y F H σ c ∧ Same F1 F, ⟨_, rfl, Nat.zero_le _, c, F1, h0, E.grow e1, Same.refl _⟩, ?_⟩
  rintro n r σ2 H2 ⟨rfl, hn, c2, F2, hI, E2, s2⟩
  have y := yl n F2 H2 s2 E2.fh
  by_cases hlt : n < items.length
  · obtain ⟨d, hd⟩ : ∃ d, items[n]? = some d := ⟨items[n], List.getElem?_eq_getElem hlt⟩
    obtain ⟨go, yy⟩ := y.1 d hd
    obtain ⟨c3, tgd, ssd⟩ := hs n d c2 hd hI
    refine .inr ⟨go, fun σ' H' => ∃ c' F', I (n + 1) c' ∧ EnvY Y F' H' σ' c' ∧ Same F1 F', fun σ' H' ⟨c', F', hI', E', s'⟩ => ⟨items.length - (n + 1), by omega, rfl, hlt, c', F', hI', E', s'⟩, fun x H' yx => ?_⟩
    obtain ⟨F3, e3, r3⟩ := yy x H' yx
    refine ⟨d, c2, c3, tgd, F3, E2.grow e3, r3, fun σ' F' H'' s' E' => ?_⟩
    have s3 : Same F1 F' := s2.trans (e3.ff.trans s'.ff)
    refine ⟨c3, _, F', ssd, E', fun o ho => ?_⟩
    cases o with
    | nx c' => exact fun σ' F' H' s' E' => ⟨c', F', ho, E', s3.trans s'⟩
    | ct c' => exact fun σ' F' H' s' E' => ⟨c', F', ho, E', s3.trans s'⟩
    | bk c' => exact fun σ' F' H' s' E' => m (.nx c') ho σ' F' H' (e1.ff.trans (s3.trans s')) E'
    | rt d => exact (m (.rt d) ho).grow (e1.ff.trans s3)
    | ro ds => exact False.elim ho
    | rs R => exact False.elim ho
  · have e : n = items.length := by omega
    subst e
    exact .inl ⟨y.2 (Nat.le_refl _), m (.nx c2) (hd c2 hI) σ2 F2 H2 (e1.ff.trans s2) E2⟩
end

/-! ### contracts -/
/-- what a def promises: on arguments ds it hands back d, if R ds d -/
def spD (K : PySem.W.Frag) (R : List D → D → Prop) : Sp := fun vs H Q _ => ∃ F ds d, Same F H ∧ Reps K F vs ds ∧ R ds d ∧ ∀ v F' H', Ext F H F' H' → Rep K F' v d → Q v H'
structure FnD (T : Tx) (k : Nat) (x : Str) (R : List D → D → Prop) : Prop where
  ex : ∃ (f : Addr) (fd : FuncData) (ps : List Str), T.mg x = some (.ref f) ∧ PySem.W.keepIn T.K (.ref f) = true ∧ Binds T.K fd ps [] ∧ FnOk T.prog T.w T.K T.mg T.base CX0 k f fd ps (spD T.K R)
/-- the names' places at a def's entry -/
def ctx0 (N : List Str) (ds : List D) : List Slot := ds.map Slot.val ++ List.replicate (N.length - ds.length) Slot.un
def Ret (d : D) : Out → Prop
  | .rt e => e = d
  | .nx _ => d = .non
  | _ => False
theorem slot_un : ∀ (n i : Nat), slot (List.replicate n Slot.un) i = .un
  | 0, _ => rfl
  | _ + 1, 0 => rfl
  | n + 1, i + 1 => slot_un n i
section
variable {K : PySem.W.Frag} {F H H0 : Hp}
theorem start_sl {n : Nat} : ∀ {vs : List V} {ds : List D}, Reps K F vs ds → ∀ i, SlotOk K H0 F H (vs.map some ++ List.replicate n none)[i]? (slot (ds.map Slot.val ++ List.replicate n Slot.un) i)
  | _, _, .nil, i => by
    show SlotOk K H0 F H _ (slot (List.replicate n Slot.un) i)
    rw [slot_un]; exact trivial
  | _, _, .cons r t, 0 => ⟨_, rfl, r⟩
  | _, _, .cons r t, i + 1 => by
    have q := start_sl (n := n) t i
    simpa [slot] using q
theorem start_own {n : Nat} : ∀ (ds : List D) (i : Nat), isOwn (slot (ds.map Slot.val ++ List.replicate n Slot.un) i) = false
  | [], i => by
    show isOwn (slot (List.replicate n Slot.un) i) = false
    rw [slot_un]; rfl
  | _ :: _, 0 => rfl
  | _ :: r, i + 1 => start_own r i
theorem env_start {N : List Str} {vs : List V} {ds : List D} (f : Same F H) (r : Reps K F vs ds) : Env K F H F H (L2.start N vs) (ctx0 N ds) where
  ext := Ext.refl f
  len := by
    unfold L2.start ctx0
    simp [r.length]
  sl := fun i => by
    unfold L2.start ctx0
    rw [r.length]
    exact start_sl r i
  inj := fun i j a h _ _ _ => by
    unfold ctx0 at h
    rw [start_own] at h
    cases h
end
section
variable {Y : Cy} {T : Tx} {k j : Nat} {N G ps : List Str} {c : List Slot} {e : Expr} {es : List Expr} {pos p : Pos} {d : D} {ds : List D} {R : List D → D → Prop} {x qual : Str}
theorem ev_call (S : Se Y T k N G) (gi : Nat) (Fn : FnD T j x R) (hj : j ≤ k) (ha : ArD Y (e :: es) c ds) (hR : R ds d) (hg : G[gi]? = some x := by rfl)
    (he : starEach (e :: es) Y.X.env = (false, eval e Y.X.env) :: starEach es Y.X.env := by rfl) (hpl : (backTo pos (starEach es Y.X.env)).any (·.1) = false := by rfl) : EvD Y (.Call (.Name x p) (e :: es) [] pos) c d := by
  obtain ⟨f, fd, ps, hm, hk, hb, F⟩ := Fn.ex
  have F' : FnOk Y.X.prog Y.X.w Y.X.K Y.X.mg Y.X.base CX0 j f fd ps (spD Y.X.K R) := by rw [S.eP, S.eW, S.eK, S.eM, S.eB]; exact F
  have gl := S.gl x (List.mem_of_getElem? hg)
  refine PE.imp (pe_call F' (S.room.mono hj) gl.1 (by rw [S.eM]; exact hm) (by rw [S.eK]; exact hk) (by rw [S.eK]; exact hb) .nil pass0 ha gl.2.1 he hpl) fun σ H Q ⟨F, E, q⟩ => ⟨F, E, fun vs F1 H1 e1 r1 => ?_⟩
  show spD Y.X.K R (vs ++ []) H1 Q E0
  rw [List.append_nil]
  exact ⟨F1, ds, d, e1.fh, r1, hR, fun v F2 H2 e2 r2 => q v F2 H2 (e1.trans e2) r2⟩
/-- THE RULE: a def of the text keeps its promise -/
theorem fn_Dk {st : Stmt} {f : Addr} {fd : FuncData} (F : Fun T.K x qual st f fd) (B : ScB N ps G (defScope st)) (hlen : ∀ ds d, R ds d → ds.length = ps.length)
    (body : ∀ (Y : Cy) (S : Sc Y T k N G) (Z : Fx Y st) (ds : List D) (d : D), R ds d → SsD Y (defBody st) (ctx0 N ds) (Ret d)) : FnOk T.prog T.w T.K T.mg T.base CX0 (k + 1) f fd ps (spD T.K R) := by
  refine F.ok B.fs (fun vs H Q E h => ?_) fun cdv A outer s H vs Q E hr h => ?_
  · obtain ⟨F0, ds, d, _, r, hR, _⟩ := h
    rw [r.length]; exact hlen ds d hR
  · obtain ⟨F0, ds, d, f0, r, hR, q⟩ := h
    have S : Sc ⟨(cxOf CX0 T.prog T.w T.K T.mg T.base N qual (defScope st) f cdv A outer s H E).nox, F0, H⟩ T k N G :=
      ⟨⟨⟨rfl, rfl, rfl, rfl, rfl, rfl, B.fs.nd, B.loc, B.gl⟩, rfl, hr⟩, fun _ => rfl, PassesOwn.never⟩
    refine ⟨_, body _ S ⟨rfl, rfl, rfl, rfl⟩ ds d hR, F0, env_start f0 r, fun o ho => ?_⟩
    cases o with
    | rt e => cases ho; exact fun v F' H' _ x r' => q v F' H' x r'
    | nx c => cases ho; exact fun σ F' H' _ E' => q .non F' H' E'.ext .non
    | bk c => exact ho.elim
    | ct c => exact ho.elim
    | ro ds => exact ho.elim
    | rs R => exact ho.elim
/-- a def stands in the module -/
def At (T : Tx) (x : Str) (st : Stmt) : Prop := ∃ (f : Addr) (fd : FuncData), Fun T.K x x st f fd ∧ T.mg x = some (.ref f)
theorem fn_D {st : Stmt} (A : At T x st) (B : ScB N ps G (defScope st)) (hb : ∀ f fd, Fun T.K x x st f fd → Binds T.K fd ps []) (hlen : ∀ ds d, R ds d → ds.length = ps.length)
    (body : ∀ (Y : Cy) (S : Sc Y T k N G) (Z : Fx Y st) (ds : List D) (d : D), R ds d → SsD Y (defBody st) (ctx0 N ds) (Ret d)) : FnD T (k + 1) x R :=
  let ⟨f, fd, F, hm⟩ := A
  ⟨f, fd, ps, hm, F.kp, hb f fd F, fn_Dk F B hlen body⟩
/-- what the law promises -/
def R_law (ds : List D) (d : D) : Prop := ∃ ns : List Int, ds = [.lst (ns.map D.int)] ∧ ns.length ≤ 63 ∧ d = .bl true
theorem law_sp (K : PySem.W.Frag) (H : Hp) (a : Addr) (ns : List Int) (hl : ns.length ≤ 63) (hS : SqL K H a (ns.map V.int)) : spD K R_law [.ref a] H (fun v _ => v = .bl true) fun _ _ _ => False :=
  ⟨H, _, _, Same.refl H, .cons (.lst hS (Reps.ints ns)) .nil, ⟨ns, rfl, hl, rfl⟩, fun v F' H' _ r => inv_bl r⟩
/-- a name of the module that is a built-in's -/
theorem ev_bltn {ty : String} (S : Se Y T k N G) (gi : Nat) (hm : T.mg x = none) (hv : bootBuiltins x = some (.type ty)) (hg : G[gi]? = some x) : PE Y.X (.Name x pos) (tC (.ty ty)) :=
  have gl := S.gl x (List.mem_of_getElem? hg)
  pe_bltn gl.1 (by rw [S.eM]; exact hm) hv rfl gl.2.2 gl.2.1
def tyD : D → String
  | .non => "NoneType" | .bl _ => "bool" | .int _ => "int" | .str _ => "str" | .tup _ => "tuple" | .lst _ => "list"
theorem isinst_D {X : Cx} {pins : List (Addr × Obj)} {σ : St} {F H : Hp} {s : Shared} {A : Around} {E : Value → Shared → Prop} {Q : Value → Shared → Prop} {cv : Value} {b : Bool} {v : V} {u : Value} {d : D}
    (I : Inv X pins σ H s) (rx : RelV v u) (f : Same F H) (r : Rep X.K F v d) (e : PySem.W.kitOne X.K (.type (tyD d)) cv = some b) (h : ∀ tk, Q (.bool b) { s with toks := tk }) :
    wpAny (model X.prog X.w) A (call (.builtin "isinstance") [u, cv]) Q E s := by
  cases r with
  | non => exact isinst_ok I rx .non e h
  | bl y => exact isinst_ok I rx (.bl y) e h
  | int i => exact isinst_ok I rx (.int i) e h
  | str y => exact isinst_ok I rx (.str y) e h
  | @tup a vs ds hs t =>
    cases (show u = Value.ref a from rx)
    obtain ⟨its, _, p, _⟩ := I.tuple (sqT_same f hs)
    obtain ⟨o, h1, h2, _⟩ := p
    exact PySem.W.kia_one PySem.W.kitx_tuple I.kIn ⟨o, h1, h2⟩ e (fun z => nomatch z) h
  | @lst a vs ds hs t =>
    cases (show u = Value.ref a from rx)
    obtain ⟨its, _, p, _⟩ := I.list (f.seq hs)
    obtain ⟨o, n, h1, h2, _⟩ := p
    exact PySem.W.kia_one PySem.W.kitx_list I.kIn ⟨o, h1, h2⟩ e (fun z => nomatch z) h
/-- isinstance(e, C), C a built-in type -/
theorem ev_isi (S : Se Y T k N G) (gi gj : Nat) {ty : String} {b : Bool} {pn : Pos} (he : EvD Y e c d) (e2 : PySem.W.kitOne T.K (.type (tyD d)) (.type ty) = some b) (hm : T.mg "isinstance" = none) (hm2 : T.mg x = none) (hv : bootBuiltins x = some (.type ty))
    (hg : G[gi]? = some ("isinstance" : Str) := by rfl) (hg2 : G[gj]? = some x := by rfl)
    (hs : starEach [e, .Name x pn] Y.X.env = (false, eval e Y.X.env) :: starEach [.Name x pn] Y.X.env := by rfl) : EvD Y (.Call (.Name "isinstance" p) [e, .Name x pn] [] pos) c (.bl b) := by
  have gl := S.gl _ (List.mem_of_getElem? hg)
  have hc : CallR Y.X (.builtin "isinstance") (fun xs H Q => ∃ v F, xs = [v, .ty ty] ∧ Same F H ∧ Rep Y.X.K F v d ∧ Q (.bl b) H) := by
    intro pins s σ H xs us Q I r h
    obtain ⟨v, F, rfl, f, rv, q⟩ := h
    obtain ⟨u, w', rfl, r1, r2⟩ := vals2 r
    cases (show w' = Value.type ty from r2)
    exact isinst_D I r1 f rv (by rw [S.eK]; exact e2) fun tk => ⟨.bl b, H, I.tok tk, rfl, q⟩
  refine PE.imp (pe_callB hc gl.1 (by rw [S.eM]; exact hm) bt_isinstance (pa_cons he (pa_cons (ev_bltn S gj hm2 hv hg2) pa_nil) hs) gl.2.2 gl.2.1 hs rfl) fun σ H Q ⟨F, E, q⟩ => ⟨F, E, fun v F1 H1 e1 r1 => ?_⟩
  exact ⟨v, F1, rfl, e1.fh, r1, q _ F1 H1 e1 (.bl b)⟩
end

/-! ### places of a text -/
def bodyOf : Stmt → List Stmt
  | .For _ _ b _ _ => b
  | .While _ b _ _ => b
  | .If _ b _ _ => b
  | .Try b _ _ _ _ => b
  | _ => []
def atS (l : List Stmt) (i : Nat) : Stmt := l.getD i (.Pass ⟨0, 0, 0, 0⟩)
/-! ### sizes -/
theorem Bd.mono {m n : Nat} {i : Int} (h : Bd m i) (l : m ≤ n) : Bd n i := Nat.lt_of_lt_of_le h (Nat.pow_le_pow_right (by decide) l)
theorem Bd.mul {m n : Nat} {i j : Int} (h1 : Bd m i) (h2 : Bd n j) : Bd (m + n) (i * j) := by
  unfold Bd at *
  rw [Int.natAbs_mul, Nat.pow_add]
  exact Nat.mul_lt_mul_of_lt_of_lt h1 h2
theorem Bd.add {m n : Nat} {i j : Int} (h1 : Bd m i) (h2 : Bd n j) : Bd (max m n + 1) (i + j) := by
  have a := h1.mono (Nat.le_max_left m n)
  have b := h2.mono (Nat.le_max_right m n)
  unfold Bd at *
  rw [Nat.pow_succ]
  omega
theorem Bd.neg {m : Nat} {i : Int} (h : Bd m i) : Bd m (-i) := by unfold Bd at *; rw [Int.natAbs_neg]; exact h
theorem Bd.sub {m n : Nat} {i j : Int} (h1 : Bd m i) (h2 : Bd n j) : Bd (max m n + 1) (i - j) := by rw [Int.sub_eq_add_neg]; exact h1.add h2.neg
theorem Bd.lt {n : Nat} {i : Int} (b : Nat) (h1 : i.natAbs < b) (h : b ≤ 2 ^ n) : Bd n i := Nat.lt_of_lt_of_le h1 h
theorem Bd.of {n : Nat} {i : Int} (b : Int) (h0 : -b < i) (h1 : i < b) (h : b ≤ 2 ^ n) : Bd n i := by
  unfold Bd
  have e : ((2 ^ n : Nat) : Int) = (2 : Int) ^ n := by simp
  omega

/-! ### == and != at any depth -/
mutual
def toPy : D → PyData
  | .non => .none
  | .bl b => .bool b
  | .int i => .int i
  | .str x => .str x
  | .tup xs => .tuple (toPys xs)
  | .lst xs => .list (toPys xs)
def toPys : List D → List PyData
  | [] => []
  | x :: xs => toPy x :: toPys xs
end
def eqD (d e : D) : Bool := PyData.eqv (toPy d) (toPy e)
section
variable {X : Cx} {pins : List (Addr × Obj)} {σ : St} {F H : Hp} {s : Shared}
mutual
theorem reads_of (I : Inv X pins σ H s) (f : Same F H) : ∀ {v : V} {d : D} {u : Value}, Rep X.K F v d → RelV v u → ∃ as, Reads s.heap u (toPy d) as
  | _, _, _, .non, r => by cases r; exact ⟨_, .none⟩
  | _, _, _, .bl b, r => by cases r; exact ⟨_, .bool b⟩
  | _, _, _, .int i, r => by obtain ⟨t, rfl⟩ := r; exact ⟨_, .int i t⟩
  | _, _, _, .str x, r => by obtain ⟨t, rfl⟩ := r; exact ⟨_, .str x t⟩
  | _, _, _, .tup h t, r => by
    cases r
    obtain ⟨its, r2, ⟨o, e1, e2, n, e3⟩, _⟩ := I.tuple (sqT_same f h)
    obtain ⟨as, ra⟩ := readss_of I f t r2
    exact ⟨as, .tuple e1 e2 e3 (by simpa using ra)⟩
  | _, _, _, .lst h t, r => by
    cases r
    obtain ⟨its, r2, ⟨o, n, e1, e2, _, e3⟩, _⟩ := I.list (f.seq h)
    obtain ⟨as, ra⟩ := readss_of I f t r2
    exact ⟨_, .list e1 e2 e3 (by simpa using ra)⟩
theorem readss_of (I : Inv X pins σ H s) (f : Same F H) : ∀ {vs : List V} {ds : List D} {us : List Value}, Reps X.K F vs ds → Vals vs us → ∃ as, ReadsAll s.heap us (toPys ds) as
  | _, _, _, .nil, r => by cases r; exact ⟨_, .nil⟩
  | _, _, _, .cons a t, r => by
    cases r with
    | cons r1 r2 =>
      obtain ⟨as, h1⟩ := reads_of I f a r1
      obtain ⟨bs, h2⟩ := readss_of I f t r2
      exact ⟨_, .cons h1 h2⟩
end
end
section
variable {Y : Cy} {T : Tx} {k : Nat} {N G : List Str} {c : List Slot} {a b : Expr} {pos : Pos} {d1 d2 : D}
def rEqD (K : PySem.W.Frag) (d1 d2 : D) (v : Bool) : R2 := fun x y H Q => ∃ F, Same F H ∧ Rep K F x d1 ∧ Rep K F y d2 ∧ Q (.bl v) H
theorem op_eqD {X : Cx} (hu : X.A.units + 64 < cLine) (h1 : SeqAt.shaped (toPy d1) = true) (h2 : SeqAt.shaped (toPy d2) = true) : OpR X (compareOp .Eq) (rEqD X.K d1 d2 (eqD d1 d2)) := by
  intro pins s σ H x y v u Q I rx ry ⟨F, f, r1, r2, q⟩
  obtain ⟨as, ra⟩ := reads_of I f r1 rx
  obtain ⟨bs, rb⟩ := reads_of I f r2 ry
  exact SeqAt.compareEq_shaped ra rb h1 h2 hu ⟨.bl _, H, I, rfl, q⟩
theorem op_neD {X : Cx} (hu : X.A.units + 64 < cLine) (h1 : SeqAt.shaped (toPy d1) = true) (h2 : SeqAt.shaped (toPy d2) = true) : OpR X (compareOp .NotEq) (rEqD X.K d1 d2 (!eqD d1 d2)) := by
  intro pins s σ H x y v u Q I rx ry ⟨F, f, r1, r2, q⟩
  obtain ⟨as, ra⟩ := reads_of I f r1 rx
  obtain ⟨bs, rb⟩ := reads_of I f r2 ry
  exact SeqAt.compareNe_shaped ra rb h1 h2 hu ⟨.bl _, H, I, rfl, q⟩
theorem te_eqD (S : Se Y T k N G) (ha : EvD Y a c d1) (hb : EvD Y b c d2) (h1 : SeqAt.shaped (toPy d1) = true := by rfl) (h2 : SeqAt.shaped (toPy d2) = true := by rfl) : TeD Y (.Compare a [.Eq] [b] pos) c (eqD d1 d2) :=
  te_cmp (op_eqD S.room.units h1 h2) (nomark _) ha hb fun x y F H Q f rx ry q => ⟨F, f, rx, ry, q F H (Ext.refl f)⟩
theorem te_neD (S : Se Y T k N G) (ha : EvD Y a c d1) (hb : EvD Y b c d2) (h1 : SeqAt.shaped (toPy d1) = true := by rfl) (h2 : SeqAt.shaped (toPy d2) = true := by rfl) : TeD Y (.Compare a [.NotEq] [b] pos) c (!eqD d1 d2) :=
  te_cmp (op_neD S.room.units h1 h2) (nomark _) ha hb fun x y F H Q f rx ry q => ⟨F, f, rx, ry, q F H (Ext.refl f)⟩
theorem ev_eqD (S : Se Y T k N G) (ha : EvD Y a c d1) (hb : EvD Y b c d2) (h1 : SeqAt.shaped (toPy d1) = true := by rfl) (h2 : SeqAt.shaped (toPy d2) = true := by rfl) : EvD Y (.Compare a [.Eq] [b] pos) c (.bl (eqD d1 d2)) :=
  ev_op2 (t := tC .non) (ta := tC .non) (tb := tC .non) (pe_cmpR (op_eqD S.room.units h1 h2) ha hb (nomark _)) fun x y F H Q f rx ry q => ⟨F, f, rx, ry, q _ F H (Ext.refl f) (.bl _)⟩
def isNon : D → Bool
  | .non => true
  | _ => false
theorem te_isN {e : Expr} {d : D} {j pos'} (ha : EvD Y e c d) : TeD Y (.Compare e [.Is] [.Constant .none j pos'] pos) c (isNon d) :=
  PT.imp (pt_cmp (pc_isN ha)) fun σ H Q ⟨F, E, q⟩ => ⟨F, E, fun x F1 H1 e1 r1 => by
    cases r1 <;> exact ⟨_, rfl, q F1 H1 e1⟩⟩
end

/-! ### truths by is -/
section
variable {Y : Cy} {c : List Slot} {a b : Expr} {pos : Pos} {v w : Bool}
end
/-! ### a def whose last parameter has a default, an int -/
def AtV (T : Tx) (x : Str) (st : Stmt) (i : Int) : Prop := ∃ (f Td : Addr) (oc : Value) (od : Option Addr) (kV doc pm : Value) (an : Option Addr) (cdv ct : Value) (osl : Array (Option Value)) (tk : Tok) (o : Obj) (n : Nat),
  T.K.lookup f = some ⟨oc, od, .func (PySem.W.fnOf x x (defArgs st) (defBody st) (defScope st) (.ref Td) kV doc pm an cdv ct), osl⟩ ∧ T.K.lookup Td = some o ∧ o.data = .seq #[.int i tk] n ∧ PySem.W.codeIn T.K cdv x = true ∧ PySem.W.keepIn T.K (.ref f) = true ∧ T.mg x = some (.ref f)
/-- the def called without its last argument -/
structure FnDd (T : Tx) (k : Nat) (x : Str) (i : Int) (R : List D → D → Prop) : Prop where
  ex : ∃ (f : Addr) (fd : FuncData) (ps : List Str) (tk : Tok), T.mg x = some (.ref f) ∧ PySem.W.keepIn T.K (.ref f) = true ∧ Binds T.K fd ps [.int i tk] ∧ FnOk T.prog T.w T.K T.mg T.base CX0 k f fd ps (spD T.K R)
theorem fn_DV {T : Tx} {k : Nat} {N G ps : List Str} {R : List D → D → Prop} {x : Str} {st : Stmt} {i : Int} (A : AtV T x st i) (B : ScB N ps G (defScope st))
    (hb : ∀ (Td : Addr) (kV doc pm : Value) (an : Option Addr) (cdv ct : Value) (tk : Tok) (o : Obj) (n : Nat), T.K.lookup Td = some o → o.data = .seq #[.int i tk] n →
      Binds T.K (PySem.W.fnOf x x (defArgs st) (defBody st) (defScope st) (.ref Td) kV doc pm an cdv ct) ps [] ∧ Binds T.K (PySem.W.fnOf x x (defArgs st) (defBody st) (defScope st) (.ref Td) kV doc pm an cdv ct) ps [.int i tk]) (hlen : ∀ ds d, R ds d → ds.length = ps.length)
    (body : ∀ (Y : Cy) (S : Sc Y T k N G) (Z : Fx Y st) (ds : List D) (d : D), R ds d → SsD Y (defBody st) (ctx0 N ds) (Ret d)) : FnD T (k + 1) x R ∧ FnDd T (k + 1) x i R := by
  obtain ⟨f, Td, oc, od, kV, doc, pm, an, cdv, ct, osl, tk, o, n, lk, lt, hs, hcd, kp, hm⟩ := A
  have hB := hb Td kV doc pm an cdv ct tk o n lt hs
  have main : FnOk T.prog T.w T.K T.mg T.base CX0 (k + 1) f (PySem.W.fnOf x x (defArgs st) (defBody st) (defScope st) (.ref Td) kV doc pm an cdv ct) ps (spD T.K R) := by
    refine fn_of lk hcd B.fs (fun vs H Q E h => ?_) fun A outer s H vs Q E hr h => ?_
    · obtain ⟨F0, ds, d, _, r, hR, _⟩ := h
      rw [r.length]; exact hlen ds d hR
    · obtain ⟨F0, ds, d, f0, r, hR, q⟩ := h
      have S : Sc ⟨(cxOf CX0 T.prog T.w T.K T.mg T.base N x (defScope st) f cdv A outer s H E).nox, F0, H⟩ T k N G :=
        ⟨⟨⟨rfl, rfl, rfl, rfl, rfl, rfl, B.fs.nd, B.loc, B.gl⟩, rfl, hr⟩, fun _ => rfl, PassesOwn.never⟩
      refine ⟨_, PSs.nox (body _ S ⟨rfl, rfl, rfl, rfl⟩ ds d hR), F0, env_start f0 r, fun o ho => ?_⟩
      cases o with
      | rt e => cases ho; exact fun v F' H' _ x r' => q v F' H' x r'
      | nx c => cases ho; exact fun σ F' H' _ E' => q .non F' H' E'.ext .non
      | bk c => exact ho.elim
      | ct c => exact ho.elim
      | ro ds => exact ho.elim
      | rs R => exact ho.elim
  exact ⟨⟨f, _, ps, hm, kp, hB.1, main⟩, ⟨f, _, ps, tk, hm, kp, hB.2, main⟩⟩
end DL

set_option Elab.async false
set_option linter.all false
set_option maxRecDepth 100000
namespace DL
open PySem L2 PySem.W PySem.Spec PySem.Calls PyProof.Rows Builtin Builtin.ObjectAttr Builtin.Getset_descriptor
section
variable {prog : Program} {w : World} {A : Around} {E : Value → Shared → Prop} {K : PySem.W.Frag} {x D : Addr} {o : Obj}
structure ExcK (K : PySem.W.Frag) (D : Addr) : Prop where
  ga : findIn K (.ref D) "__getattribute__" = some (some (.builtin "BaseException.__getattribute__"))
  gt : findIn K (.ref D) "__getattr__" = some none
  ca : findIn K (.ref D) "__class__" = some (some (.builtin "object.__class__"))
  cg : specialIn K (.builtin "object.__class__") "__get__" = some (some (.builtin "getset_descriptor.__get__"))
  tk : takesIn K (.builtin "object.__class__") = some true
  mo : mroIn K D (.type "object") = some true
  mb : mroIn K D (.type "BaseException") = some true
  cl : (clsIn K D).isSome = true
def excKb (K : PySem.W.Frag) (D : Addr) : Bool :=
  findIn K (.ref D) "__getattribute__" == some (some (.builtin "BaseException.__getattribute__")) && (findIn K (.ref D) "__getattr__" == some none && (findIn K (.ref D) "__class__" == some (some (.builtin "object.__class__")) &&
  (specialIn K (.builtin "object.__class__") "__get__" == some (some (.builtin "getset_descriptor.__get__")) && (takesIn K (.builtin "object.__class__") == some true && (mroIn K D (.type "object") == some true && (mroIn K D (.type "BaseException") == some true && (clsIn K D).isSome))))))
theorem excK_of {K : PySem.W.Frag} {D : Addr} (h : excKb K D = true) : ExcK K D := by
  unfold excKb at h
  simp only [Bool.and_eq_true, beq_iff_eq] at h
  obtain ⟨a, b, c, d, e, f, g, i⟩ := h
  exact ⟨a, b, c, d, e, f, g, i⟩
theorem exc_class_get {s : Shared} {R : Result → Shared → Prop} {tp : Value} (X : K.In s.heap) (hx : s.heap.get? x = some o) (hc : o.cls = .ref D) (hm : mroIn K D (.type "object") = some true)
    (h : R (.ok (.ret (.ref D))) s) : codeAny (model prog w) A (.call (.builtin "getset_descriptor.__get__") ⟨[.builtin "object.__class__", .ref x, tp], []⟩) R s := by
  obtain ⟨hh, g, dr, t, os⟩ := s
  have L0 : Looks (model prog w) hh (typeOf (.ref x)) (.ref D) := hc ▸ (Looks.ld hx).andThen .now
  have L1 := looks_mroIn (M := model prog w) X hm
  refine codeAny_call_builtin KF.slot_gs.plain KF.entry_gs (KF.slot_gs.check _ _ _ _ _ _ _ _ KF.type_class (KF.args_gs _ _ _) ?_)
  unfold Builtin.«getset_descriptor.__get__» descrGet
  rw [dga_obj]
  refine wpAny_bind (wpAny_pure ?_)
  unfold descrGetter descrCheckInstance descrNameAndClass isInstance
  simp only [KF.owner_class]
  repeat lk
  refine ⟨Code.quiet_builtin _ (by decide +kernel), codeAny_builtin KF.entry_class ?_⟩
  unfold Builtin.«object.__class__» shownTypeOf
  repeat lk
  exact h
theorem exc_class {s : Shared} {Q : Option Value → Shared → Prop} (X : K.In s.heap) (Z : ExcK K D) (hx : s.heap.get? x = some o) (hc : o.cls = .ref D)
    (h : Q (some (.ref D)) { s with toks := s.toks + 1 }) : wpAny (model prog w) A (getAttr? (.ref x) "__class__") Q E s := by
  obtain ⟨hh, g, d, t, os⟩ := s
  have L0 : Looks (model prog w) hh (typeOf (.ref x)) (.ref D) := hc ▸ (Looks.ld hx).andThen .now
  have L1 := looks_findIn (M := model prog w) X Z.ga
  have L2 := looks_findIn (M := model prog w) X Z.gt
  have L3 := looks_findIn (M := model prog w) X Z.ca
  have L5 := looks_mroIn (M := model prog w) X Z.mb
  have LI : Looks (model prog w) hh (isInstance (.ref x) (.type "BaseException")) true := L0.andThen L5
  unfold getAttr? getAttrBy? getAttrBy
  refine wpAny_bind (wpAny_mkText (wpAny_bind (wpAny_attempt (wpAny_holding (wpAny_bind (L0.at (wpAny_bind (L1.at ?_))))))))
  show wpAny _ _ (getAttrByItsOwn _ _ _ _ _ _) _ _ _
  unfold getAttrByItsOwn hookBefore
  refine wpAny_bind (L2.at (wpAny_bind (wpAny_attempt (wpAny_holding ?_))))
  show wpAny _ _ (boundAndCalled _ _ _) _ _ _
  unfold boundAndCalled
  rw [PySem.F.excAttr_ValueError.ga.bind (.ref x)]
  refine wpAny_bind (wpAny_pure (wpAny_call (codeAny_call_builtin PySem.F.excAttr_ValueError.ga.plain F.entry_bexc_ga ?_)))
  have hk : builtinKind "BaseException.__getattribute__" = some .slot := by decide +kernel
  have hsplit : splitId "BaseException.__getattribute__" = some ("BaseException", "__getattribute__") := by decide +kernel
  have hargs := F.args_bexc_ga (.ref x) (Value.str (Str.ofString "__class__") t)
  have hfind : Looks (model prog w) hh (find (.ref x) (.ref D) "__class__") (.bind (.builtin "getset_descriptor.__get__") (.builtin "object.__class__")) := by
    have G1 := looks_specialIn (M := model prog w) X Z.cg
    have G2 := looks_takesIn (M := model prog w) X Z.tk
    refine L3.andThen (G1.andThen ?_)
    exact (show Looks (model prog w) hh (dataDescriptor? (some (.builtin "object.__class__")) (some (.builtin "getset_descriptor.__get__"))) (some (.builtin "getset_descriptor.__get__", .builtin "object.__class__")) from G2.andThen .now).andThen (Looks.tag .now)
  simp only [checkBuiltinCall, hk, hsplit]
  refine wpAny_bind (LI.at ?_)
  simp only [Bool.not_true, Bool.false_eq_true, if_false]
  have body : ∀ (A' : Around) (Q' : Fin → Shared → Prop) (E' : Value → Shared → Prop), Q' (.done (.ret (.ref D))) ⟨hh, g, d, t + 1, os⟩ → wpAny (model prog w) A' (Builtin.«object.__getattribute__» ⟨[.ref x, .str "__class__" t], []⟩) Q' E' ⟨hh, g, d, t + 1, os⟩ := by
    intro A' Q' E' hq
    unfold Builtin.«object.__getattribute__»
    repeat lk
    refine wpAny_run (h := none) (exc_class_get (s := ⟨hh, g, d, t + 1, os⟩) X hx hc Z.mo ?_)
    exact wpAny_pure (wpAny_pure hq)
  refine wpAny_of_eq (a := ()) hargs (body _ _ _ ?_)
  show wpAny (model prog w) A (handedOut (.ref D)) _ _ _
  exact wpAny_of_eq (handedOut_of rfl) (wpAny_pure h)
theorem kitx_exc {dx : Option Addr} (Z : ExcK K D) : KitX K (.ref x) (.ref D) (ExcAt D dx x) where
  ty := fun _ _ _ ⟨o, _, h1, h2, _⟩ => h2 ▸ (Looks.ld h1).andThen .now
  it := fun _ _ X _ => by
    obtain ⟨cdD, hcD⟩ := Option.isSome_iff_exists.mp Z.cl
    unfold clsIn at hcD
    split at hcD
    · rename_i c' d' cd' sl' ho
      intro A' Q' E' s' k q
      unfold isType loadHead
      exact wpAny_bind (wpAny_loadPart (k _ _ (X _ _ ho)) (wpAny_pure q))
    · cases hcD
  ne := fun h tp dd its n sl X htp => by
    obtain ⟨cdD, hcD⟩ := Option.isSome_iff_exists.mp Z.cl
    refine Bool.eq_false_iff.mpr fun q => ?_
    have e : D = tp := Value.ref.inj (beq_iff_eq.mp q)
    subst e
    unfold clsIn at hcD
    split at hcD
    · rename_i c' d' cd' sl' ho
      have z := (X _ _ ho).symm.trans htp
      cases z
    · cases hcD
  ca := fun X ⟨o, _, h1, h2, _⟩ k => exc_class X Z h1 h2 k
end

end DL
namespace DL
open PySem L2
/-! ### exceptions that pass -/
theorem _root_.L2.ObjOk.there {P : Program} {w : World} {H : Hp} {h : Heap} {a : Addr} {o : HO} (x : ObjOk P w H h a o) : ∃ ob, h.get? a = some ob := by
  cases o with
  | lst xs => obtain ⟨_, _, _, _, e⟩ := x; exact ⟨_, e⟩
  | tup xs => obtain ⟨_, _, _, ob, e, _⟩ := x; exact ⟨_, e⟩
  | dK kvs => obtain ⟨_, _, _, _, o, _, _, e, _⟩ := x; exact ⟨_, e⟩
  | dT kvs => obtain ⟨_, _, _, _, o, _, _, e, _⟩ := x; exact ⟨_, e⟩
  | set S n => obtain ⟨o, _, _, _, e, _⟩ := x; exact ⟨_, e⟩
  | ins C dx fs => obtain ⟨_, _, _, e, _⟩ := x; exact ⟨_, e⟩
  | own y => obtain ⟨_, e⟩ := x; exact ⟨_, e⟩
  | xd fs => obtain ⟨_, ⟨_, _, _, e, _⟩, _⟩ := x; exact ⟨_, e⟩
  | rng lo hi => obtain ⟨_, _, _, e⟩ := x; exact ⟨_, e⟩
  | frz ob u => obtain ⟨e, _⟩ := x; exact ⟨_, e⟩
  | tbl ps => exact ⟨_, (show h.get? a = some _ from x)⟩
  | met f y => exact ⟨_, (show h.get? a = some _ from x)⟩
  | ext φ => obtain ⟨_, ⟨_, e⟩, _⟩ := x; exact ⟨_, e⟩
/-- what B keeps of the heap h: the tracked things, and what stood at s but the frames -/
def Kpt (B : Heap) (outer : List PySem.Env) (H : Hp) (s h : Heap) : Prop := ∀ b o, h.get? b = some o → (H b ≠ none ∨ (s.get? b ≠ none ∧ b ∉ frs outer)) → B.get? b = some o
theorem un_move {P : Program} {w : World} {B : Heap} {outer : List PySem.Env} {H H' : Hp} {s h1 h2 : Heap} (U : Un (frs outer) [] H H' s h1) (K : Kpt B outer H' s h1) (hk : HOk P w H' h1) (fr : h1.FunFrames B outer) (fu : ∀ b ∈ frs outer, H' b = none)
    (st : B.StaysIn h2) (up : h1.UpToSlots h2) : Un (frs outer) [] H H' s h2 ∧ HOk P w H' h2 ∧ Kpt B outer H' s h2 := by
  have frame : ∀ b o, b ∈ frs outer → h1.get? b = some o → ∃ sl, h2.get? b = some { o with slots := sl } := fun b o hb e => by
    obtain ⟨_, o', ho, hd⟩ := fr.mem hb
    rw [e] at ho; cases ho
    exact up b o e hd
  refine ⟨⟨fun b o e n hb hx => ?_, fun b o e n hb hx => ?_, U.free, fun b o e hx => ?_, U.tups, U.frzs, U.tbls⟩, fun a o e => ?_, fun b o e c => ?_⟩
  · exact st _ _ (K b o (U.keep b o e n hb hx) (.inr ⟨by rw [e]; exact (fun z => nomatch z), hb⟩))
  · obtain ⟨sl, e1⟩ := U.slot b o e n hb hx
    obtain ⟨sl', e2⟩ := frame b _ hb e1
    exact ⟨sl', e2⟩
  · obtain ⟨o', e1⟩ := U.there b o e hx
    by_cases hb : b ∈ frs outer
    · obtain ⟨sl, e2⟩ := frame b _ hb e1
      exact ⟨_, e2⟩
    · exact ⟨o', st _ _ (K b o' e1 (.inr ⟨by rw [e]; exact (fun z => nomatch z), hb⟩))⟩
  · refine (hk a o e).stay (fun b u hb q => ?_) (fun _ q => q) fun _ _ q => q
    refine st _ _ (K b u q (.inl ?_))
    rcases hb with rfl | hb
    · rw [e]; exact fun z => nomatch z
    · rw [hb]; exact fun z => nomatch z
  · have ex : ∃ o', h1.get? b = some o' := by
      rcases c with c | ⟨c, _⟩
      · cases q : H' b with
        | none => exact absurd q c
        | some u => exact (hk b u q).there
      · cases q : s.get? b with
        | none => exact absurd q c
        | some u => exact U.there b u q (by simp)
    obtain ⟨o', e1⟩ := ex
    have k := K b o' e1 c
    have z := st _ _ k
    rw [e] at z; cases z
    exact k
/-- how an exception lies behind a call: the class C, at a -/
structure Lies (P : Program) (w : World) (outer : List PySem.Env) (H : Hp) (s : Shared) (a C : Addr) (H' : Hp) (s' : Shared) : Prop where
  os : s'.os = s.os
  bare : PyProof.Rows.AllBare s'.gens
  un : Un (frs outer) [] H H' s.heap s'.heap
  hok : HOk P w H' s'.heap
  new : s.heap.get? a = none
  fu : ∀ b ∈ frs outer, H' b = none
  fly : ∃ B a0, Heap.FlyingW B outer a (.ref C) a0 s'.heap ∧ Kpt B outer H' s.heap s'.heap
def CXE (P : Program) (w : World) : CXT := fun outer H s E e s' => ∃ a C H', e = .ref a ∧ Lies P w outer H s a C H' s' ∧ E (.ref C) none H'
/-- an exception of the class C that is raised here, or arrives here, is as it is wanted -/
structure RzM (Y : Cy) (C : Addr) (c : List Slot) : Prop where
  made : ∀ {pins : List (Addr × Obj)} {σ : St} {F H : Hp} {s : Shared} {h' : Heap} {e : Addr} {vs : List Value}, Inv Y.X pins σ H s → EnvY Y F H σ c → Heap.MadeExcOf s.heap h' e (.ref C) vs → Y.X.xe (.ref e) { s with heap := h' }
structure Rz (Y : Cy) (C : Addr) (c : List Slot) : Prop where
  fly : ∀ {pins : List (Addr × Obj)} {σ : St} {F H F' H' : Hp} {s s' : Shared} {e : Addr}, Inv Y.X pins σ H s → EnvY Y F H σ c → Ext F H F' H' → Lies Y.X.prog Y.X.w Y.X.stack H s e C H' s' → Y.X.xe (.ref e) s'
theorem kpt_in {X : Cx} {pins : List (Addr × Obj)} {σ : St} {H H' : Hp} {s : Shared} {B h : Heap} (I : Inv X pins σ H s) (hx : X.ex = []) (hs : X.stack = X.env :: X.outer ∧ X.env.frame = some X.env.locals) (K : Kpt B X.stack H' s.heap h) : Kpt B X.outer H' X.s₀.heap h := fun b o e c => by
  refine K b o e ?_
  rcases c with c | ⟨c1, c2⟩
  · exact .inl c
  · refine .inr ⟨fun z => ?_, fun hb => ?_⟩
    · cases q : X.s₀.heap.get? b with
      | none => exact c1 q
      | some u =>
        obtain ⟨o', e'⟩ := I.base.there b u q (by rw [hx]; simp)
        rw [z] at e'; cases e'
    · rw [hs.1] at hb
      unfold frs at hb
      rw [List.filterMap_cons, hs.2] at hb
      rcases List.mem_cons.mp hb with rfl | hb
      · cases q : X.s₀.heap.get? X.env.locals with
        | none => exact c1 q
        | some u => exact absurd (Nat.lt_of_lt_of_le (Heap.lt_size q) I.ok.above) (Nat.lt_irrefl _)
      · exact c2 hb
theorem new_in {X : Cx} {pins : List (Addr × Obj)} {σ : St} {H : Hp} {s : Shared} {a : Addr} (I : Inv X pins σ H s) (hx : X.ex = []) (n : s.heap.get? a = none) : X.s₀.heap.get? a = none := by
  cases q : X.s₀.heap.get? a with
  | none => rfl
  | some u =>
    obtain ⟨o', e'⟩ := I.base.there a u q (by rw [hx]; simp)
    rw [n] at e'; cases e'
theorem leave_on {X : Cx} {pins : List (Addr × Obj)} {σ : St} {H H' : Hp} {s s' : Shared} {e C : Addr} {Q : Unit → Shared → Prop} {E : Value → Shared → Prop} (I : Inv X pins σ H s) (hx : X.ex = []) (hs : X.stack = X.env :: X.outer ∧ X.env.frame = some X.env.locals)
    (L : Lies X.prog X.w X.stack H s e C H' s') (hQ : ∀ s', Lies X.prog X.w X.outer X.H₀ X.s₀ e C H' s' → Q () s') : wpAny (model X.prog X.w) X.A (leaving X.env (.ref e)) Q E s' := by
  obtain ⟨B, a0, fl, kp⟩ := L.fly
  have I' : Inv X pins σ H' s' := I.call' (ch := []) L.os L.un L.hok L.bare (fun _ z => nomatch z)
  refine wpAny_leaves_onW (by rw [I.ok.frames, hs.1]) hs.2 (by rw [← hs.1]; exact fl) fun h2 fl2 up => ?_
  have ub : Un (frs X.outer) [] X.H₀ H' X.s₀.heap s'.heap := by have := I'.base; rw [hx] at this; exact this
  have fu : ∀ b ∈ frs X.outer, H' b = none := fun b hb => L.fu b (by rw [hs.1]; unfold frs; rw [List.filterMap_cons, hs.2]; exact .tail _ hb)
  have fro : s'.heap.FunFrames B X.outer := by have := fl.2.2.1; rw [hs.1] at this; exact this.2.2
  obtain ⟨u2, k2, kp2⟩ := un_move ub (kpt_in I hx hs kp) L.hok fro fu fl2.1 up
  exact hQ { s' with heap := h2 } ⟨I'.os, L.bare, u2, k2, new_in I hx L.new, fu, _, _, fl2, kp2⟩

/-! ### defs that may refuse -/
/-- what a def hands back, or the class by which it refuses -/
inductive Rs where
  | ok (d : D) | ex (x : Str)
def spX (T : Tx) (R : List D → Rs → Prop) : Sp := fun vs H Q E => ∃ F ds r, Same F H ∧ Reps T.K F vs ds ∧ R ds r ∧ (match r with
  | .ok d => ∀ v F' H', Ext F H F' H' → Rep T.K F' v d → Q v H'
  | .ex x => ∀ C F' H', T.mg x = some (.ref C) → Ext F H F' H' → E (.ref C) none H')
structure FnX (T : Tx) (k : Nat) (x : Str) (R : List D → Rs → Prop) : Prop where
  ex : ∃ (f : Addr) (fd : FuncData) (ps : List Str), T.mg x = some (.ref f) ∧ PySem.W.keepIn T.K (.ref f) = true ∧ Binds T.K fd ps [] ∧ FnOk T.prog T.w T.K T.mg T.base (CXE T.prog T.w) k f fd ps (spX T R)
def RzN (Y : Cy) (T : Tx) (x : Str) (c : List Slot) : Prop := ∀ C, T.mg x = some (.ref C) → Rz Y C c
def RzMN (Y : Cy) (T : Tx) (x : Str) (c : List Slot) : Prop := ∀ C, T.mg x = some (.ref C) → RzM Y C c
def RetX : Rs → Out → Prop
  | .ok d => Ret d
  | .ex _ => fun _ => False
/-- an expression that raises -/
def tX (Y : Cy) (c : List Slot) : TE := fun σ H _ => ∃ F, EnvY Y F H σ c
def EvX (Y : Cy) (e : Expr) (c : List Slot) : Prop := PE Y.X e (tX Y c)
def tXA (Y : Cy) (c : List Slot) : TA := fun σ H _ => ∃ F, EnvY Y F H σ c
def ArX (Y : Cy) (es : List Expr) (c : List Slot) : Prop := PA Y.X es (tXA Y c)
def tXT (Y : Cy) (c : List Slot) : TT := fun σ H _ => ∃ F, EnvY Y F H σ c
def TeX (Y : Cy) (e : Expr) (c : List Slot) : Prop := PT Y.X e (tXT Y c)
section
variable {Y : Cy} {T : Tx} {k j : Nat} {N G ps : List Str} {c : List Slot} {e : Expr} {es : List Expr} {pos p : Pos} {d : D} {ds : List D} {R : List D → Rs → Prop} {x qual y : Str} {P : Out → Prop} {rest : List Stmt}
theorem ss_retX (h : EvX Y e c) : SsD Y (.Return (some e) pos :: rest) c P := ss_cons (PS.imp (ps_ret h) fun D σ H ⟨F, E, _⟩ => ⟨F, E⟩)
theorem ss_setX {x : Str} {pos' : Pos} (S : Sc Y T k N G) (i : Nat) (he : EvX Y e c) (hi : N[i]? = some x := by rfl) (hs : swapsWith e (some (.Name x pos')) pos.line Y.X.env = pure false := by rfl) : SsD Y (.Assign [.Name x pos'] e pos :: rest) c P := by
  have hx := S.loc x (List.mem_of_getElem? hi)
  have hN := S.nd
  rw [← S.n] at hi hN
  exact ss_cons (PS.imp (ps_set hN hi hx.1 he hs (.inl (S.fn x))) fun D σ H ⟨F, E, _⟩ => ⟨F, E⟩)
theorem ar_X (ha : EvX Y e c) (hr : PA Y.X es (fun _ _ _ => False)) (hs : starEach (e :: es) Y.X.env = (false, eval e Y.X.env) :: starEach es Y.X.env := by rfl) : ArX Y (e :: es) c :=
  PA.imp (pa_cons ha hr hs) fun σ H Q ⟨F, E⟩ => ⟨F, E⟩
theorem ar_consX (ha : EvD Y e c d) (hr : ArX Y es c) (hs : starEach (e :: es) Y.X.env = (false, eval e Y.X.env) :: starEach es Y.X.env := by rfl) : ArX Y (e :: es) c :=
  PA.imp (pa_cons ha hr hs) fun σ H Q ⟨F, E⟩ => ⟨F, E, fun x F1 H1 e1 r1 => ⟨F1, E.grow e1⟩⟩
theorem pa_none : PA Y.X es (fun _ _ _ => False) := fun _ _ _ _ _ _ _ z => z.elim
end
/-! ### raise -/
/-- an own class of refusals -/
def ClsX (T : Tx) (x : Str) : Prop := ∃ C, T.mg x = some (.ref C) ∧ PySem.W.excIn T.K C [.type "ValueError", .type "Exception", .type "BaseException", .type "object"] "ValueError.__new__" = true
section
variable {Y : Cy} {T : Tx} {k : Nat} {N G : List Str} {c : List Slot} {e : Expr} {es : List Expr} {pos p cpos : Pos} {ds : List D} {x : Str} {P : Out → Prop} {rest : List Stmt}
end
end DL

set_option Elab.async false
set_option linter.all false
set_option maxRecDepth 100000
namespace L2
open PySem PySem.Spec PyProof.Rows
/-! ### defs that are called within an except suite -/
structure RoomH (k : Nat) (A : Around) : Prop where
  dp : A.depth + 3 * k + 5 < recursionLimit
  un : A.units + 16 * k + 200 < cLine
theorem RoomH.mono {j k : Nat} {A : Around} (r : RoomH k A) (h : j ≤ k) : RoomH j A := ⟨by have := r.dp; omega, by have := r.un; omega⟩
theorem RoomH.deeper {k : Nat} {A : Around} (r : RoomH (k + 1) A) (env : Env) : RoomH k (A.deeper env) :=
  ⟨by have := r.dp; show A.depth + 1 + 3 * k + 5 < _; omega, by have := r.un; show A.units + 3 + 16 * k + 200 < _; omega⟩
theorem RoomH.depth {k : Nat} {A : Around} (r : RoomH k A) : A.depth < recursionLimit := by have := r.dp; omega
def cxH (P : Program) (w : World) (K : PySem.W.Frag) (mg : Str → Option Value) (base : Heap) (N : List Str) (qual : Str) (scope : Scope) (f : Addr) (cd : Value) (A : Around) (outer : List Env) (s : Shared) (H : Hp) : Cx :=
  { cxOf CX0 P w K mg base N qual scope f cd A outer s H E0 with calm := false, xe := fun _ _ => False }
structure FnOkH (P : Program) (w : World) (K : PySem.W.Frag) (mg : Str → Option Value) (base : Heap) (k : Nat) (f : Addr) (fd : FuncData) (ps : List Str) (sp : Sp) : Prop where
  len : ∀ vs H Q, sp vs H Q E0 → vs.length = ps.length
  run : ∀ (A : Around) (outer : List Env) (s : Shared) (H : Hp) (args : Args) (us : List Value) (vs : List V) (Q : VK), RoomH k A → Env0 P w K mg base A outer s H → BindsTo s fd args (ps.zip us) → Vals vs us → sp vs H Q E0 →
    codeAny (model P w) A (.call (.ref f) args) (CR CX0 outer P w H s Q E0) s
theorem inv_startH {P : Program} {w : World} {K : PySem.W.Frag} {mg : Str → Option Value} {base : Heap} {N ps : List Str} {qual : Str} {scope : Scope} {f : Addr} {cd : Value} {A : Around} {outer : List Env} {s s1 : Shared} {H : Hp} {us : List Value} {vs : List V}
    (S : FnScope N ps scope) (e0 : Env0 P w K mg base A outer s H) (hl : vs.length = ps.length) (r : Vals vs us)
    (x : InCallC s s.heap.objs.size (bindL (envOfC qual scope s.heap.objs.size f cd).kindOf (ps.zip us) fun _ => none) (cellsFrom (s.heap.objs.size + 1) scope.names []) (bindC (envOfC qual scope s.heap.objs.size f cd).kindOf (ps.zip us) fun _ => none) s1) :
    Inv (cxH P w K mg base N qual scope f cd A outer s H) [] (start N vs) H s1 := by
  have hpl : ps.length ≤ N.length := by have := congrArg List.length S.pre; rw [List.length_take] at this; omega
  obtain ⟨h1, tk, rfl, hk⟩ := x.done
  have noA : ∀ b : Addr, b ∉ (cxH P w K mg base N qual scope f cd A outer s H).ex := fun b z => absurd (show b ∈ ([] : List Addr) from z) (by simp)
  refine ⟨⟨e0.mod, S.kind, rfl, rfl, Nat.le_refl _, fun y z c h1 h2 => ?_, fun y hy => ?_, fun y c _ h => ?_, (fun z => nomatch z), Around.frames_deeper e0.frames, .inr ⟨rfl, rfl⟩, fun b z => absurd z (noA b), e0.bs, e0.bsz, fun b _ _ => noA b, fun b z => absurd z (noA b), e0.funs, e0.frf⟩,
    rfl, e0.bare, Un.kept hk, ⟨_, x.toInCall.ns, fun i y v h1 h2 h3 => ?_⟩, fun y c h => ⟨_, x.cell y c h⟩, e0.hok.fresh (Nat.le_refl _), fun y c h => ?_, fun p hp => absurd (show p ∈ ([] : List (Addr × Obj)) from hp) (by simp), e0.hok.kept hk, ?_⟩
  · exact name_of_addr x.apart (PySem.mem_of_lookup h1) (PySem.mem_of_lookup h2)
  · have hy : scope.names.lookup y = some .cell ∨ scope.names.lookup y = some .free := hy
    rcases hy with hy | hy
    · exact cell_has hy
    · exact absurd rfl (S.nofree _ (PySem.mem_of_lookup hy))
  · exact Nat.le_of_lt (x.above y c (PySem.mem_of_lookup h))
  · have hi : i < vs.length := by
      unfold start at h2
      by_cases hi : i < vs.length
      · exact hi
      · rw [List.getElem?_append_right (by simpa using hi)] at h2
        rw [List.getElem?_replicate] at h2
        split at h2 <;> cases h2
    have ha : vs[i]? = some v := by
      unfold start at h2
      rw [List.getElem?_append_left (by simpa using hi), List.getElem?_map] at h2
      cases e : vs[i]? with
      | none => rw [e] at h2; cases h2
      | some a => rw [e] at h2; cases h2; rfl
    obtain ⟨u, hu, rv⟩ := r.get ha
    have hp : ps[i]? = some y := by
      rw [← S.pre, List.getElem?_take_of_lt (by omega)]; exact h1
    have ndP : ps.Nodup := by rw [← S.pre]; exact S.nd.sublist (List.take_sublist _ _)
    refine ⟨u, rv, ?_⟩
    rcases S.par y (List.mem_of_getElem? hp) with k | k
    · exact .inl ⟨k, bindL_get ndP hp hu k⟩
    · obtain ⟨c, e⟩ := cell_has (n := s.heap.objs.size + 1) k
      refine .inr ⟨.inl k, c, e, ?_⟩
      have q := x.cell y c e
      rw [bindC_get ndP hp hu (by show scope.names.lookup y ≠ _; rw [k]; decide)] at q
      exact q
  · exact e0.hok.fresh (Nat.le_of_lt (x.above y c (PySem.mem_of_lookup h)))
  · unfold start
    show _ = N.length
    rw [List.length_append, List.length_map, List.length_replicate]
    omega

theorem fn_ofH {P : Program} {w : World} {K : PySem.W.Frag} {mg : Str → Option Value} {base : Heap} {k : Nat} {f : Addr} {name qual : Str} {params : Arguments} {body : List Stmt} {scope : Scope} {dV kV doc pm cdv ct oc : Value} {an od : Option Addr}
    {osl : Array (Option Value)} {N ps : List Str} {sp : Sp} (lk : K.lookup f = some ⟨oc, od, .func (PySem.W.fnOf name qual params body scope dV kV doc pm an cdv ct), osl⟩) (hcd : PySem.W.codeIn K cdv qual = true) (S : FnScope N ps scope)
    (len : ∀ vs H Q, sp vs H Q E0 → vs.length = ps.length)
    (hbody : ∀ (A : Around) (outer : List Env) (s : Shared) (H : Hp) (vs : List V) (Q : VK), RoomH k (A.deeper (envOfC qual scope s.heap.objs.size f cdv)) → sp vs H Q E0 →
      ∃ t, PSs (cxH P w K mg base N qual scope f cdv A outer s H) body t ∧ t { nx := fun _ H' => Q .non H', rt := Q } (start N vs) H) :
    FnOkH P w K mg base (k + 1) f (PySem.W.fnOf name qual params body scope dV kV doc pm an cdv ct) ps sp := by
  refine ⟨len, fun A outer s H args us vs Q hr e0 hb r hsp => ?_⟩
  have hl := len _ _ _ hsp
  have KX : K.In s.heap := e0.mod.kin.keeps fun b o e => (e0.bs b o e).1
  have lim : s.heap.NoLimit := e0.mod.nolimit.keeps fun b o e => (e0.bs b o e).1
  have hkind : ∀ y ∈ ps.zip us, scope.names.lookup y.1 = some .local ∨ (scope.names.lookup y.1 = some .cell ∧ ((cellsFrom (s.heap.objs.size + 1) scope.names []).lookup y.1).isSome = true) := fun ⟨n, v⟩ hy => by
    rcases S.par n (List.of_mem_zip hy).1 with q | q
    · exact .inl q
    · exact .inr ⟨q, PySem.W.cellsFrom_some _ _ _ (.inl q)⟩
  refine codeAny_call_function hr.depth (KX _ _ lk) rfl S.co S.gen rfl (PySem.W.codeRec_of KX hcd) (hb _ _ _ _ ?_)
  refine wpAny_newFunctionEnv_cells S.kind hkind fun env he s1 x => ?_
  subst he
  refine ⟨lim.keeps x.toInCall.keep, codeAny_func ?_⟩
  obtain ⟨t, ht, hq⟩ := hbody A outer s H vs Q (hr.deeper _) hsp
  have I : Inv (cxH P w K mg base N qual scope f cdv A outer s H) [] (start N vs) H s1 := inv_startH S e0 hl r x
  refine wpAny_mono (ht [] s1 (start N vs) H _ I hq) (fun fl s' hs => ?_) fun e s' hs => False.elim hs
  have fin : ∀ {σ' : St} {H' : Hp} {v : V} {u : Value}, Inv (cxH P w K mg base N qual scope f cdv A outer s H) [] σ' H' s' → RelV v u → Q v H' → CE outer P w H s Q u s' :=
    fun {σ' H' v u} J rv q => ⟨v, H', J.os, J.bare, J.base, J.hok, rv, q⟩
  cases fl with
  | ret u =>
    obtain ⟨v, σ', H', J, rv, q⟩ := hs
    exact fin J rv q
  | next =>
    obtain ⟨σ', H', J, q⟩ := hs
    exact fin (v := V.non) (u := Value.none) J rfl q
  | brk =>
    obtain ⟨_, _, _, q⟩ := hs
    exact False.elim q
  | cont =>
    obtain ⟨_, _, _, q⟩ := hs
    exact False.elim q

end L2
namespace DL
open PySem L2
structure ScH (Y : Cy) (T : Tx) (k : Nat) (N G : List Str) : Prop extends Sn Y T N G where
  fn : ∀ y, Y.X.fn y = true
  room : RoomH k Y.X.A
/-- what a def promises that is handed an exception of the class named x -/
def spH (T : Tx) (R : Str → D → Prop) : Sp := fun vs H Q _ => ∃ F a C x d, vs = [.ref a] ∧ Same F H ∧ (∃ dx, H a = some (.ext (ExcAt C dx a))) ∧ T.mg x = some (.ref C) ∧ R x d ∧ ∀ v F' H', Ext F H F' H' → Rep T.K F' v d → Q v H'
structure FnH (T : Tx) (k : Nat) (x : Str) (R : Str → D → Prop) : Prop where
  ex : ∃ (f : Addr) (fd : FuncData) (ps : List Str), T.mg x = some (.ref f) ∧ PySem.W.keepIn T.K (.ref f) = true ∧ Binds T.K fd ps [] ∧ FnOkH T.prog T.w T.K T.mg T.base k f fd ps (spH T R)
section
variable {Y : Cy} {T : Tx} {k j : Nat} {N G : List Str} {c : List Slot} {e a b : Expr} {es : List Expr} {pos p : Pos} {d : D} {ds : List D} {R : Str → D → Prop} {x qual y : Str} {P : Out → Prop} {rest : List Stmt}
/-- names' places at the entry of a def that is handed an exception -/
def ctxH (N : List Str) (C : Addr) (dx : Option Addr) : List Slot := .exc C dx :: List.replicate (N.length - 1) Slot.un
theorem env_startH {K : PySem.W.Frag} {F H : Hp} {N : List Str} {a C : Addr} {dx : Option Addr} (f : Same F H) (h : H a = some (.ext (ExcAt C dx a))) : Env K F H F H (L2.start N [.ref a]) (ctxH N C dx) where
  ext := Ext.refl f
  len := by unfold L2.start ctxH; simp
  sl := fun i => by
    unfold L2.start ctxH
    cases i with
    | zero => exact ⟨a, rfl, h⟩
    | succ i => show SlotOk K H F H _ (slot (List.replicate _ Slot.un) i); rw [slot_un]; exact trivial
  inj := fun i j a h _ _ _ => by
    unfold ctxH at h
    cases i with
    | zero => cases h
    | succ i => have h : isOwn (slot (List.replicate _ Slot.un) i) = true := h; rw [slot_un] at h; cases h
theorem Env.excv {K : PySem.W.Frag} {F₀ H₀ F H : Hp} {σ : St} (E : Env K F₀ H₀ F H σ c) {i : Nat} {C : Addr} {dx : Option Addr} (h : slot c i = .exc C dx) : ∃ a, σ[i]? = some (some (.ref a)) ∧ H a = some (.ext (ExcAt C dx a)) := by
  have q := E.sl i
  rw [h] at q
  exact q
def tExc (Y : Cy) (c : List Slot) (C : Addr) (dx : Option Addr) : TE := fun σ H Q => ∃ F, EnvY Y F H σ c ∧ ∀ a, H a = some (.ext (ExcAt C dx a)) → Q (.ref a) H
theorem pe_exc (S : Sn Y T N G) (i : Nat) {x : Str} {C : Addr} {dx : Option Addr} (hN : N[i]? = some x) (hs : slot c i = .exc C dx) : PE Y.X (.Name x pos) (tExc Y c C dx) := by
  have hx := S.loc x (List.mem_of_getElem? hN)
  rw [← S.n] at hN
  exact PE.imp (pe_var hN (hx.1.elim .inl fun h => .inr (.inl h)) hx.2.1 hx.2.2) fun σ H Q ⟨F, E, q⟩ =>
    let ⟨a, ea, r⟩ := E.excv hs
    ⟨.ref a, ea, q a r⟩
theorem ev_var0 (S : Sn Y T N G) (i : Nat) {x : Str} (hN : N[i]? = some x := by rfl) (hs : slot c i = .val d := by rfl) : EvD Y (.Name x pos) c d := by
  have hx := S.loc x (List.mem_of_getElem? hN)
  rw [← S.n] at hN
  exact PE.imp (pe_var hN (hx.1.elim .inl fun h => .inr (.inl h)) hx.2.1 hx.2.2) fun σ H Q ⟨F, E, q⟩ =>
    let ⟨x, ex, r⟩ := E.val hs
    ⟨x, ex, q x F H (Ext.refl E.fh) r⟩
theorem ss_set0 (S : ScH Y T k N G) (i : Nat) {x : Str} {pos' : Pos} (he : EvD Y e c d)
    (hr : SsD Y rest (put c i (.val d)) P) (hi : N[i]? = some x := by rfl) (hlt : i < c.length := by first | exact of_decide_eq_true rfl | decide | omega) (hs : swapsWith e (some (.Name x pos')) pos.line Y.X.env = pure false := by rfl) : SsD Y (.Assign [.Name x pos'] e pos :: rest) c P := by
  have hx := S.loc x (List.mem_of_getElem? hi)
  have hN := S.nd
  rw [← S.n] at hi hN
  refine ss_cons (PS.imp (ps_set hN hi hx.1 he hs (.inl (S.fn x))) fun D σ H ⟨F, E, m⟩ => ⟨F, E, fun v F' H' e' r' => ?_⟩)
  exact m (.nx (put c i (.val d))) hr _ F' H' e'.ff ((E.grow e').set hlt r')
/-- isinstance of an exception -/
theorem isi_exc {C : Addr} {dx : Option Addr} {cv : Value} {cV : V} {v : Bool} (Z : ExcK T.K C) (eK : Y.X.K = T.K) (rv : RelV cV cv) (hcv : ∀ u, RelV cV u → u = cv) (e2 : PySem.W.kitOne T.K (.ref C) cv = some v) :
    CallR Y.X (.builtin "isinstance") (fun xs H Q => ∃ a, xs = [.ref a, cV] ∧ H a = some (.ext (ExcAt C dx a)) ∧ Q (.bl v) H) := by
  intro pins s σ H xs us Q I r h
  obtain ⟨a, rfl, hH, q⟩ := h
  obtain ⟨u, w', rfl, r1, r2⟩ := vals2 r
  cases (show u = Value.ref a from r1)
  cases hcv _ r2
  have ok : ObjOk Y.X.prog Y.X.w H s.heap a (.ext (ExcAt C dx a)) := I.hok a _ hH
  have Z' : ExcK Y.X.K C := by rw [eK]; exact Z
  exact PySem.W.kia_one (kitx_exc Z') I.kIn ok.1 (by rw [eK]; exact e2) (fun z => nomatch z) fun tk => ⟨.bl v, H, I.tok tk, rfl, q⟩
/-- isinstance(e, C), C an own class -/
theorem ev_isX (S : Sn Y T N G) (i gi gj : Nat) {z : Str} {C C' : Addr} {v : Bool} {dx : Option Addr} {pn pz : Pos} (hs : slot c i = .exc C dx) (Z : ExcK T.K C) (hm2 : T.mg y = some (.ref C')) (e2 : PySem.W.kitOne T.K (.ref C) (.ref C') = some v) (hm : T.mg "isinstance" = none)
    (hi : N[i]? = some z := by rfl) (hg : G[gi]? = some ("isinstance" : Str) := by rfl) (hg2 : G[gj]? = some y := by rfl)
    (hst : starEach [.Name z pz, .Name y pn] Y.X.env = (false, eval (.Name z pz) Y.X.env) :: starEach [.Name y pn] Y.X.env := by rfl) : EvD Y (.Call (.Name "isinstance" p) [.Name z pz, .Name y pn] [] pos) c (.bl v) := by
  have gl := S.gl _ (List.mem_of_getElem? hg)
  have gl2 := S.gl _ (List.mem_of_getElem? hg2)
  refine PE.imp (pe_callB (isi_exc (dx := dx) Z S.eK (cV := .ref C') (cv := .ref C') rfl (fun u h => h) e2) gl.1 (by rw [S.eM]; exact hm) bt_isinstance (pa_cons (pe_exc S i hi hs) (pa_cons (pe_glob (v := .ref C') gl2.1 (by rw [S.eM]; exact hm2) rfl gl2.2.1) pa_nil) hst) gl.2.2 gl.2.1 hst rfl) fun σ H Q ⟨F, E, q⟩ => ⟨F, E, fun a ha => ?_⟩
  exact ⟨a, rfl, ha, q _ F H (Ext.refl E.fh) (.bl v)⟩
theorem ev_isXB (S : Sn Y T N G) (i gi gj : Nat) {z : Str} {C : Addr} {ty : String} {v : Bool} {dx : Option Addr} {pn pz : Pos} (hs : slot c i = .exc C dx) (Z : ExcK T.K C) (hm2 : T.mg y = none) (hv : bootBuiltins y = some (.type ty)) (e2 : PySem.W.kitOne T.K (.ref C) (.type ty) = some v) (hm : T.mg "isinstance" = none)
    (hi : N[i]? = some z := by rfl) (hg : G[gi]? = some ("isinstance" : Str) := by rfl) (hg2 : G[gj]? = some y := by rfl)
    (hst : starEach [.Name z pz, .Name y pn] Y.X.env = (false, eval (.Name z pz) Y.X.env) :: starEach [.Name y pn] Y.X.env := by rfl) : EvD Y (.Call (.Name "isinstance" p) [.Name z pz, .Name y pn] [] pos) c (.bl v) := by
  have gl := S.gl _ (List.mem_of_getElem? hg)
  have gl2 := S.gl _ (List.mem_of_getElem? hg2)
  refine PE.imp (pe_callB (isi_exc (dx := dx) Z S.eK (cV := .ty ty) (cv := .type ty) rfl (fun u h => h) e2) gl.1 (by rw [S.eM]; exact hm) bt_isinstance (pa_cons (pe_exc S i hi hs) (pa_cons (pe_bltn (v := .ty ty) gl2.1 (by rw [S.eM]; exact hm2) hv rfl gl2.2.2 gl2.2.1) pa_nil) hst) gl.2.2 gl.2.1 hst rfl) fun σ H Q ⟨F, E, q⟩ => ⟨F, E, fun a ha => ?_⟩
  exact ⟨a, rfl, ha, q _ F H (Ext.refl E.fh) (.bl v)⟩
end

/-! ### try .. except C as n -/
theorem _root_.L2.Inv.track {X : Cx} {pins : List (Addr × Obj)} {σ : St} {H : Hp} {s : Shared} {e : Addr} {φ : Heap → Prop} (I : Inv X pins σ H s) (hn : H e = none) (h0 : X.s₀.heap.get? e = none) (hl : e ≠ X.env.locals) (hc : ∀ x c, X.env.cells.lookup x = some c → c ≠ e)
    (hp : ∀ p ∈ X.pn ++ pins, p.1 ≠ e) (hφ : ObjOk X.prog X.w (upd H e (.ext φ)) s.heap e (.ext φ)) : Inv X pins σ (upd H e (.ext φ)) s := by
  have ne : ∀ b u, H b = some u → upd H e (.ext φ) b = some u := fun b u q => by rw [upd_ne (ne_of_none q hn)]; exact q
  refine ⟨I.ok, I.os, I.bare, ⟨I.base.keep, I.base.slot, fun b o q n hx => ?_, I.base.there, fun b xs q => ne _ _ (I.base.tups b xs q), fun b o u q => ne _ _ (I.base.frzs b o u q), fun b ps q => ?_⟩, I.loc, I.cell, ?_, fun x c q => ?_, fun p hp' => ?_, fun b o q => ?_, I.len⟩
  · rw [upd_ne (fun z => by rw [z, h0] at q; cases q)]; exact I.base.free b o q n hx
  · obtain ⟨m, q'⟩ := I.base.tbls b ps q; exact ⟨m, ne _ _ q'⟩
  · rw [upd_ne (Ne.symm hl)]; exact I.free
  · rw [upd_ne (hc x c q)]; exact I.freeC x c q
  · obtain ⟨a1, a2, a3, a4, a5⟩ := I.pin p hp'
    exact ⟨a1, by rw [upd_ne (hp p hp')]; exact a2, a3, a4, a5⟩
  · by_cases hb : b = e
    · subst hb; rw [upd_same] at q; cases q; exact hφ
    · rw [upd_ne hb] at q
      exact (I.hok b o q).stay (fun _ _ _ z => z) (fun c z => ne _ _ z) fun c xs z => ne _ _ z
theorem _root_.L2.Inv.unname {X : Cx} {pins : List (Addr × Obj)} {σ : St} {H : Hp} {s : Shared} {i : Nat} {n : Str} {pos : Pos} {M : Model} {A : Around} {E : Value → Shared → Prop} {Q : Unit → Shared → Prop} (I : Inv X pins σ H s) (hN : X.N.Nodup) (hi : X.N[i]? = some n) (hl : X.env.scope.names.lookup n = some .local)
    (h : ∀ s', Inv X pins (σ.set i none) H s' → Q () s') : wpAny M A (do bindName X.env n .none; unbindBehindTheSuite X.env n pos) Q E s := by
  obtain ⟨m, hn, hv⟩ := id I.loc
  have hcls : (X.env.scope.kind == .class || (X.env.scope.kind == .module && X.env.locals != X.env.globals)) = false := by rw [I.ok.kind]; rfl
  refine wpAny_nameGoes_keeps hl hn hcls fun h' v hn' hs => h _ ?_
  obtain ⟨oL, _, _, hoL, _⟩ := id hn
  have iσ : i < σ.length := by rw [I.len]; exact (List.getElem?_eq_some_iff.mp hi).1
  refine ⟨I.ok, I.os, I.bare, ⟨fun b o e n hb hx => ?_, fun b o e n hb hx => ?_, I.base.free, fun b o e hx => ?_, I.base.tups, I.base.frzs, I.base.tbls⟩, ⟨_, hn', fun j y v' e1 e2 e3 => ?_⟩, fun y c e => ?_, I.free, I.freeC, fun p hp => ?_, fun b ob e => ?_, by simpa using I.len⟩
  · exact (hs.2 b (Nat.ne_of_lt (Nat.lt_of_lt_of_le (Heap.lt_size e) I.ok.above))).trans (I.base.keep b o e n hb hx)
  · obtain ⟨sl, e1⟩ := I.base.slot b o e n hb hx
    exact ⟨sl, (hs.2 b (Nat.ne_of_lt (Nat.lt_of_lt_of_le (Heap.lt_size e) I.ok.above))).trans e1⟩
  · obtain ⟨o', e1⟩ := I.base.there b o e hx
    exact ⟨o', (hs.2 b (Nat.ne_of_lt (Nat.lt_of_lt_of_le (Heap.lt_size e) I.ok.above))).trans e1⟩
  · by_cases hj : j = i
    · subst hj
      rw [List.getElem?_set_self iσ] at e2
      cases e2
    · rw [List.getElem?_set_ne (Ne.symm hj)] at e2
      obtain ⟨u', r', q⟩ := hv j y v' e1 e2 e3
      refine ⟨u', r', ?_⟩
      rcases q with ⟨k, e⟩ | ⟨k, c, e, z⟩
      · refine .inl ⟨k, ?_⟩
        have : y ≠ n := fun e => hj (nodup_ix hN e1 (e ▸ hi))
        simp [this, e]
      · exact .inr ⟨k, c, e, z.sameBut hs (I.cne y c e)⟩
  · obtain ⟨w', z⟩ := I.cell y c e
    exact ⟨w', z.sameBut hs (I.cne y c e)⟩
  · obtain ⟨e, n, ne, nf, d⟩ := I.pin p hp
    exact ⟨(hs.2 p.1 ne).trans e, n, ne, nf, d⟩
  · refine (I.hok b ob e).stay (fun c w' hc q => (hs.2 c ?_).trans q) (fun _ q => q) fun _ _ q => q
    rintro rfl
    rcases hc with rfl | hc
    · rw [I.free] at e; cases e
    · rw [I.free] at hc; cases hc
theorem Ext.track {F H : Hp} {e : Addr} {o : HO} (f : Same F H) (hn : H e = none) : Ext F H F (upd H e o) :=
  ⟨Same.refl F, fun b u q => by rw [upd_ne (ne_of_none (f _ _ q) hn)]; exact f _ _ q, fun b u q => by rw [upd_ne (ne_of_none q hn)]; exact q, fun _ _ z => z⟩
theorem Env.setExc {K : PySem.W.Frag} {F₀ H₀ F H : Hp} {σ : St} {c : List Slot} (E : Env K F₀ H₀ F H σ c) {i : Nat} {a C : Addr} {dx : Option Addr} (hi : i < c.length) (r : H a = some (.ext (ExcAt C dx a))) : Env K F₀ H₀ F H (σ.set i (some (.ref a))) (put c i (.exc C dx)) where
  ext := E.ext
  len := by rw [List.length_set, put_length]; exact E.len
  sl := fun j => by
    by_cases e : i = j
    · subst e
      rw [slot_put _ _ _ hi, List.getElem?_set_self (by rw [E.len]; exact hi)]
      exact ⟨a, rfl, r⟩
    · rw [slot_put_ne _ _ _ _ e, List.getElem?_set_ne e]
      exact E.sl j
  inj := fun j k a h1 h2 h3 h4 => by
    by_cases e : i = j
    · subst e; rw [slot_put _ _ _ hi] at h1; cases h1
    · by_cases e2 : i = k
      · subst e2; rw [slot_put _ _ _ hi] at h2; cases h2
      · rw [slot_put_ne _ _ _ _ e] at h1
        rw [slot_put_ne _ _ _ _ e2] at h2
        rw [List.getElem?_set_ne e] at h3
        rw [List.getElem?_set_ne e2] at h4
        exact E.inj j k a h1 h2 h3 h4
theorem slot_ge : ∀ (c : List Slot) (i : Nat), c.length ≤ i → slot c i = .un
  | [], _, _ => rfl
  | _ :: r, 0, h => by simp at h
  | _ :: r, i + 1, h => slot_ge r i (by simpa using h)
theorem put_ge (y : Slot) : ∀ (c : List Slot) (i : Nat), c.length ≤ i → put c i y = c
  | [], _, _ => rfl
  | _ :: r, 0, h => by simp at h
  | x :: r, i + 1, h => congrArg (x :: ·) (put_ge y r i (by simpa using h))
theorem Env.unset {K : PySem.W.Frag} {F₀ H₀ F H : Hp} {σ : St} {c : List Slot} (E : Env K F₀ H₀ F H σ c) {i : Nat} : Env K F₀ H₀ F H (σ.set i none) (put c i .un) where
  ext := E.ext
  len := by rw [List.length_set, put_length]; exact E.len
  sl := fun j => by
    by_cases e : i = j
    · subst e
      by_cases hi : i < c.length
      · rw [slot_put _ _ _ hi]; exact trivial
      · rw [put_ge _ _ _ (by omega), slot_ge _ _ (by omega)]; exact trivial
    · rw [slot_put_ne _ _ _ _ e, List.getElem?_set_ne e]
      exact E.sl j
  inj := fun j k a h1 h2 h3 h4 => by
    by_cases e : i = j
    · subst e
      by_cases hi : i < c.length
      · rw [slot_put _ _ _ hi] at h1; cases h1
      · rw [put_ge _ _ _ (by omega), slot_ge _ _ (by omega)] at h1; cases h1
    · by_cases e2 : i = k
      · subst e2
        by_cases hi : i < c.length
        · rw [slot_put _ _ _ hi] at h2; cases h2
        · rw [put_ge _ _ _ (by omega), slot_ge _ _ (by omega)] at h2; cases h2
      · rw [slot_put_ne _ _ _ _ e] at h1
        rw [slot_put_ne _ _ _ _ e2] at h2
        rw [List.getElem?_set_ne e] at h3
        rw [List.getElem?_set_ne e2] at h4
        exact E.inj j k a h1 h2 h3 h4

/-- the context within a try's body -/
abbrev _root_.L2.Cx.tried (X : Cx) (E : Value → Shared → Prop) (pins : List (Addr × Obj)) : Cx := { X with xe := E, pn := X.pn ++ pins }
/-- the context within an except suite -/
abbrev _root_.L2.Cx.caught (X : Cx) (e : Value) (pins : List (Addr × Obj)) : Cx := { X with A := X.A.mark (some e), calm := false, xe := fun _ _ => False, pn := X.pn ++ pins }
section
variable {X : Cx} {pins pins' : List (Addr × Obj)} {σ : St} {H : Hp} {s : Shared} {E : Value → Shared → Prop} {e : Value}
theorem _root_.L2.Inv.tried (I : Inv X pins σ H s) : Inv (X.tried E pins) [] σ H s :=
  ⟨⟨I.ok.mod, I.ok.kind, I.ok.glob, I.ok.blt, I.ok.above, I.ok.inj, I.ok.has, I.ok.cab, I.ok.hd, I.ok.frames, I.ok.stk, I.ok.exf, I.ok.bs, I.ok.bsz, I.ok.noex, I.ok.exfs, I.ok.funs, I.ok.frf⟩, I.os, I.bare, I.base, I.loc, I.cell, I.free, I.freeC, fun p hp => I.pin p (by simpa using hp), I.hok, I.len⟩
theorem _root_.L2.Inv.untried (I : Inv (X.tried E pins) pins' σ H s) : Inv X pins σ H s :=
  ⟨⟨I.ok.mod, I.ok.kind, I.ok.glob, I.ok.blt, I.ok.above, I.ok.inj, I.ok.has, I.ok.cab, I.ok.hd, I.ok.frames, I.ok.stk, I.ok.exf, I.ok.bs, I.ok.bsz, I.ok.noex, I.ok.exfs, I.ok.funs, I.ok.frf⟩, I.os, I.bare, I.base, I.loc, I.cell, I.free, I.freeC, fun p hp => I.pin p (List.mem_append_left _ hp), I.hok, I.len⟩
theorem _root_.L2.Inv.caught (I : Inv X pins σ H s) (hf : (X.A.mark (some e)).frames = some X.stack) : Inv (X.caught e pins) [] σ H s :=
  ⟨⟨I.ok.mod, I.ok.kind, I.ok.glob, I.ok.blt, I.ok.above, I.ok.inj, I.ok.has, I.ok.cab, (fun z => nomatch z), hf, I.ok.stk, I.ok.exf, I.ok.bs, I.ok.bsz, I.ok.noex, I.ok.exfs, I.ok.funs, I.ok.frf⟩, I.os, I.bare, I.base, I.loc, I.cell, I.free, I.freeC, fun p hp => I.pin p (by simpa using hp), I.hok, I.len⟩
theorem _root_.L2.Inv.uncaught (I : Inv (X.caught e pins) pins' σ H s) (hc : X.calm = true → X.A.handled = none) (hf : X.A.frames = some X.stack) : Inv X pins σ H s :=
  ⟨⟨I.ok.mod, I.ok.kind, I.ok.glob, I.ok.blt, I.ok.above, I.ok.inj, I.ok.has, I.ok.cab, hc, hf, I.ok.stk, I.ok.exf, I.ok.bs, I.ok.bsz, I.ok.noex, I.ok.exfs, I.ok.funs, I.ok.frf⟩, I.os, I.bare, I.base, I.loc, I.cell, I.free, I.freeC, fun p hp => I.pin p (List.mem_append_left _ hp), I.hok, I.len⟩
end
section
variable {K : PySem.W.Frag} {F₀ H₀ F H F1 H1 : Hp} {σ σ0 : St} {c c0 : List Slot}
theorem Env.into (E : Env K F₀ H₀ F H σ c) : Env K F H₀ F H σ c := ⟨⟨Same.refl F, E.ext.fh, E.ext.hh, fun _ _ z => z⟩, E.len, E.sl, E.inj⟩
theorem Ext.outof (a : Ext F₀ H₀ F H) (b : Ext F H₀ F1 H1) : Ext F₀ H₀ F1 H1 := ⟨a.ff.trans b.ff, b.fh, b.hh, fun c hc fc => b.fr c hc (a.fr c hc fc)⟩
theorem Env.outof (E : Env K F₀ H₀ F H σ0 c0) (E' : Env K F H₀ F1 H1 σ c) : Env K F₀ H₀ F1 H1 σ c := ⟨E.ext.outof E'.ext, E'.len, E'.sl, E'.inj⟩
end
/-- behind an except suite: the name is gone -/
def Gone (Y : Cy) (rest : List Stmt) (i : Nat) (P : Out → Prop) : Out → Prop
  | .nx c => SsD Y rest (put c i .un) P
  | .bk c => P (.bk (put c i .un))
  | .ct c => P (.ct (put c i .un))
  | .rt d => P (.rt d)
  | .ro _ => False
  | .rs _ => False
end DL

set_option Elab.async false
set_option linter.all false
set_option maxRecDepth 100000
namespace DL
open PySem L2
/-! ### list comprehensions -/
theorem closure_ex (env : PySem.Env) : ∀ (l : List (Str × NameKind)) (acc : List (Str × Addr)), (∀ x ∈ l, x.2 = .free → ∃ c, env.cells.lookup x.1 = some c) →
    ∃ cl, (forIn l acc (fun (x : Str × NameKind) (cs : List (Str × Addr)) => (if (x.2 == .free) = true then do let a ← cellOf env x.1; pure (ForInStep.yield ((x.1, a) :: cs)) else pure (ForInStep.yield cs) : Sem (ForInStep (List (Str × Addr))))) : Sem (List (Str × Addr))) = pure cl ∧
      (∀ y c, cl.lookup y = some c → acc.lookup y = some c ∨ (env.cells.lookup y = some c ∧ (y, NameKind.free) ∈ l)) ∧ (∀ y, (acc.lookup y).isSome = true ∨ (y, NameKind.free) ∈ l → ∃ c, cl.lookup y = some c)
  | [], acc, _ => ⟨acc, rfl, fun y c h => .inl h, fun y h => by
      rcases h with h | h
      · exact Option.isSome_iff_exists.mp h
      · simp at h⟩
  | (n, kd) :: r, acc, h => by
    by_cases hk : kd = .free
    · subst hk
      obtain ⟨a, ha⟩ := h (n, .free) List.mem_cons_self rfl
      obtain ⟨cl, e, h1, h2⟩ := closure_ex env r ((n, a) :: acc) fun x hx => h x (List.mem_cons_of_mem _ hx)
      refine ⟨cl, ?_, fun y c q => ?_, fun y q => ?_⟩
      · rw [List.forIn_cons]
        have ec : cellOf env n = pure a := by unfold cellOf; rw [ha]
        simp only [beq_self_eq_true, if_true, ec]
        exact e
      · rcases h1 y c q with z | ⟨z1, z2⟩
        · rw [List.lookup_cons] at z
          split at z
          · rename_i b
            have : y = n := by simpa using b
            subst this
            cases z
            exact .inr ⟨ha, List.mem_cons_self⟩
          · exact .inl z
        · exact .inr ⟨z1, List.mem_cons_of_mem _ z2⟩
      · refine h2 y ?_
        rcases q with q | q
        · left; rw [List.lookup_cons]; split
          · rfl
          · exact q
        · rcases List.mem_cons.mp q with z | z
          · cases z; left; rw [List.lookup_cons, beq_self_eq_true]; rfl
          · exact .inr z
    · obtain ⟨cl, e, h1, h2⟩ := closure_ex env r acc fun x hx => h x (List.mem_cons_of_mem _ hx)
      refine ⟨cl, ?_, fun y c q => ?_, fun y q => h2 y ?_⟩
      · rw [List.forIn_cons]
        have : (kd == NameKind.free) = false := by cases kd <;> first | rfl | exact absurd rfl hk
        simp only [this, Bool.false_eq_true, if_false]
        exact e
      · rcases h1 y c q with z | ⟨z1, z2⟩
        · exact .inl z
        · exact .inr ⟨z1, List.mem_cons_of_mem _ z2⟩
      · rcases q with q | q
        · exact .inl q
        · rcases List.mem_cons.mp q with z | z
          · cases z; exact absurd rfl hk
          · exact .inr z
theorem closureFor_ex (scope : Scope) (env : PySem.Env) (h : ∀ x ∈ scope.names, x.2 = .free → ∃ c, env.cells.lookup x.1 = some c) :
    ∃ cl, closureFor scope env = pure cl ∧ (∀ y c, cl.lookup y = some c → env.cells.lookup y = some c ∧ (y, NameKind.free) ∈ scope.names) ∧ ∀ y, (y, NameKind.free) ∈ scope.names → ∃ c, cl.lookup y = some c := by
  obtain ⟨cl, e, h1, h2⟩ := closure_ex env scope.names [] h
  refine ⟨cl, ?_, fun y c q => ?_, fun y q => h2 y (.inr q)⟩
  · have z : closureFor scope env = ((forIn scope.names ([] : List (Str × Addr)) (fun (x : Str × NameKind) (cs : List (Str × Addr)) => (if (x.2 == .free) = true then do let a ← cellOf env x.1; pure (ForInStep.yield ((x.1, a) :: cs)) else pure (ForInStep.yield cs) : Sem (ForInStep (List (Str × Addr))))) : Sem (List (Str × Addr))) >>= fun r => pure r) := rfl
    rw [z, e]
    rfl
  · rcases h1 y c q with z | z
    · cases z
    · exact z

theorem compLoop_any {prog : Program} {w : World} {A : Around} {R : Result → Shared → Prop} {s : Shared} {elt target iter : Expr} {ifs : List Expr} {scope : Scope} {pos : Pos} {it acc : Value} {env : PySem.Env} (I : Nat → Shared → Prop)
    (turn : ∀ n s, I n s → wpAny (model prog w) A (pyNext it) (fun r s₁ => match r with
      | none => R (.ok .next) s₁
      | some v => wpAny (model prog w) A (letOwnedTupleGo target it v) (fun _ s₁' => wpAny (model prog w) A (assign target env v) (fun _ s₂ =>
          wpAny (model prog w) A (forIn ifs true fun c r => if r = true then do let ok ← isTrue c env (eval c env); pure (ForInStep.yield ok) else pure (ForInStep.yield r)) (fun ok s₃ =>
            if ok = true then wpAny (model prog w) A (eval elt env) (fun x s₄ =>
              wpAny (model prog w) A (call (.builtin "list.append") [acc, x]) (fun _ s₅ => ∃ m, m < n ∧ I m s₅) (fun _ _ => False) s₄) (fun _ _ => False) s₃
            else ∃ m, m < n ∧ I m s₃) (fun _ _ => False) s₂) (fun _ _ => False) s₁') (fun _ _ => False) s₁) (fun _ _ => False) s)
    (n : Nat) (h : I n s) :
    codeAny (model prog w) A (.compLoop (.ListComp elt [⟨target, iter, ifs, 0⟩] scope pos) 0 it acc env) R s := by
  refine codeAny_loop rfl I (fun n s hI => ?_) n h
  show wpAny _ A ((compTurn (.ListComp elt [⟨target, iter, ifs, 0⟩] scope pos) 0 it acc env).onRaise (fun x => do noteFrame x env; theTreesLotGoes x)) _ _ s
  refine wpAny_noted ?_
  rw [compTurn_list]
  refine wpAny_bind (wpAny_standAt (wpAny_bind (wpAny_mono (turn n s hI) (fun r s₁ h₁ => ?_) fun _ _ h' => h'.elim)))
  cases r with
  | none => exact wpAny_pure h₁
  | some v =>
    refine wpAny_bind (wpAny_mono h₁ (fun _ s₁' h₁' => ?_) fun _ _ h' => h'.elim)
    refine wpAny_bind (wpAny_mono h₁' (fun _ s₂ h₂ => wpAny_bind (wpAny_mono h₂ (fun ok s₃ h₃ => ?_) fun _ _ h' => h'.elim)) fun _ _ h' => h'.elim)
    cases ok with
    | false => exact wpAny_pure ⟨rfl, h₃⟩
    | true =>
      exact wpAny_bind (wpAny_bind (wpAny_mono h₃ (fun x s₄ h₄ => wpAny_bind (wpAny_mono h₄ (fun _ s₅ h₅ => wpAny_pure (wpAny_pure ⟨rfl, h₅⟩)) fun _ _ h' => h'.elim)) fun _ _ h' => h'.elim))
/-- a comprehension's block -/
def cxC (X : Cx) (N' : List Str) (scope : Scope) (cl : List (Str × Addr)) (C : Addr) (s : Shared) (H : Hp) (ex : List Addr) : Cx :=
  { X with N := N', s₀ := s, H₀ := H, env := compEnvC scope cl C X.env, outer := X.stack, ex := ex, fn := fun x => (cl.lookup x).isNone, pn := [], xe := fun _ _ => False }
/-- what stands of the scopes: tn the targets, fs the names of the def that are used (at the places ix), G the global ones -/
structure CmB (N tn fs : List Str) (ix : List Nat) (G : List Str) (scope osc : Scope) : Prop where
  kd : scope.kind = .function
  okd : osc.kind = .function
  nocell : ∀ x ∈ scope.names, x.2 ≠ .cell
  once : ∀ x ∈ scope.names, x.2 = .local → scope.names.lookup x.1 = some .local
  fr : ∀ x ∈ scope.names, x.2 = .free → osc.names.lookup x.1 = some .cell
  htn : ∀ x ∈ tn, scope.names.lookup x = some .local ∧ (x == ("__debug__" : Str)) = false ∧ (x == ("__classdict__" : Str)) = false
  hfs : ∀ x ∈ fs, scope.names.lookup x = some .free ∧ (x == ("__debug__" : Str)) = false ∧ (x == ("__classdict__" : Str)) = false
  hnd : (tn ++ fs).Nodup
  hix : ix.map (fun i => N[i]?) = fs.map some
  hgl : ∀ x ∈ G, scope.names.lookup x = some .globalImplicit ∧ (x == ("__debug__" : Str)) = false ∧ x ≠ "__name__"
theorem relabel_of {scope : Scope} {env : PySem.Env} {x : Str} : ∀ {names : List (Str × NameKind)} {k : NameKind}, names.lookup x = some k →
    (names.map fun (n, k) => if (k == NameKind.free && env.scope.kind == .function && env.kindOf n == some .cell) then (n, NameKind.cell) else (n, k)).lookup x = some (if (k == NameKind.free && env.scope.kind == .function && env.kindOf x == some .cell) = true then .cell else k)
  | [], _, h => by simp at h
  | (n, k') :: r, k, h => by
    have ih := @relabel_of scope env x r k
    show List.lookup x ((if (k' == NameKind.free && env.scope.kind == .function && env.kindOf n == some .cell) = true then (n, NameKind.cell) else (n, k')) :: _) = _
    cases hx : x == n with
    | true =>
      simp only [List.lookup_cons, hx] at h
      cases h
      have : x = n := by simpa using hx
      subst this
      split
      · rename_i hc; simp [List.lookup_cons, hc]
      · rename_i hc; simp only [List.lookup_cons, hx, if_neg hc]
    | false =>
      simp only [List.lookup_cons, hx] at h
      by_cases hc : (k' == NameKind.free && env.scope.kind == .function && env.kindOf n == some .cell) = true
      · rw [if_pos hc]; simp only [List.lookup_cons, hx]; exact ih h
      · rw [if_neg hc]; simp only [List.lookup_cons, hx]; exact ih h
theorem relabel_back {scope : Scope} {env : PySem.Env} {x : Str} : ∀ {names : List (Str × NameKind)} {k : NameKind},
    (names.map fun (n, k) => if (k == NameKind.free && env.scope.kind == .function && env.kindOf n == some .cell) then (n, NameKind.cell) else (n, k)).lookup x = some k → ∃ k', names.lookup x = some k' ∧ (x, k') ∈ names ∧ (k = k' ∨ k' = .free)
  | [], _, h => by simp at h
  | (n, k') :: r, k, h => by
    have ih := @relabel_back scope env x r k
    have h : List.lookup x ((if (k' == NameKind.free && env.scope.kind == .function && env.kindOf n == some .cell) = true then (n, NameKind.cell) else (n, k')) :: (r.map fun (n, k) => if (k == NameKind.free && env.scope.kind == .function && env.kindOf n == some .cell) then (n, NameKind.cell) else (n, k))) = some k := h
    cases hx : x == n with
    | true =>
      have : x = n := by simpa using hx
      subst this
      refine ⟨k', by simp [List.lookup_cons], List.mem_cons_self, ?_⟩
      by_cases hc : (k' == NameKind.free && env.scope.kind == .function && env.kindOf x == some .cell) = true
      · right
        simp only [Bool.and_eq_true] at hc
        have := hc.1.1
        cases k' <;> first | rfl | exact absurd this (by decide)
      · rw [if_neg hc] at h
        simp [List.lookup_cons] at h
        exact .inl h.symm
    | false =>
      have h' : List.lookup x (r.map fun (n, k) => if (k == NameKind.free && env.scope.kind == .function && env.kindOf n == some .cell) then (n, NameKind.cell) else (n, k)) = some k := by
        by_cases hc : (k' == NameKind.free && env.scope.kind == .function && env.kindOf n == some .cell) = true
        · rw [if_pos hc] at h; simpa only [List.lookup_cons, hx] using h
        · rw [if_neg hc] at h; simpa only [List.lookup_cons, hx] using h
      obtain ⟨k2, a, b, c⟩ := ih h'
      exact ⟨k2, by simp only [List.lookup_cons, hx]; exact a, List.mem_cons_of_mem _ b, c⟩

theorem cxC_kind {X : Cx} {N' : List Str} {scope : Scope} {cl : List (Str × Addr)} {C : Addr} {s : Shared} {H : Hp} {ex : List Addr} {x : Str} {k : NameKind} (h : scope.names.lookup x = some k) :
    (cxC X N' scope cl C s H ex).env.scope.names.lookup x = some (if (k == NameKind.free && X.env.scope.kind == .function && X.env.kindOf x == some .cell) = true then .cell else k) := relabel_of (scope := scope) h
section
variable {X : Cx} {pins : List (Addr × Obj)} {σ : St} {H2 : Hp} {s2 : Shared} {N tn fs G : List Str} {ix : List Nat} {scope osc : Scope} {cl : List (Str × Addr)} {fp : List Addr} {tnn : Nat → Heap → Prop} {J : It} {it D C : Addr} {tg : Expr} {h4 : Heap} {m0 : Str → Option Value}
def capt (n : Nat) (ix : List Nat) (σ : St) : St := List.replicate n none ++ ix.map fun i => (σ[i]?).join
theorem inv_comp (I2 : Inv X pins σ H2 s2) (T : Turn X.prog X.w X.K tg J fp it tnn) (st2 : tnn 0 s2.heap) (f2 : ∀ b ∈ fp, FpOk X pins H2 b) (hsc : X.env.scope = osc) (hN : X.N = N) (B : CmB N tn fs ix G scope osc)
    (hcl1 : ∀ y c, cl.lookup y = some c → X.env.cells.lookup y = some c ∧ (y, NameKind.free) ∈ scope.names) (hcl2 : ∀ y, (y, NameKind.free) ∈ scope.names → ∃ c, cl.lookup y = some c)
    (k : ∀ b u, s2.heap.get? b = some u → h4.get? b = some u) (eD : D = s2.heap.objs.size) (hD : h4.get? D = some { cls := .type "list", data := .seq #[] }) (hns : h4.Ns C m0) (hC : s2.heap.objs.size < C) {t' : Nat} :
    Inv (cxC X (tn ++ fs) scope cl C s2 H2 fp) [] (capt tn.length ix σ) (upd H2 D (.lst [])) { s2 with heap := h4, toks := t' } := by
  have old : ∀ b u, s2.heap.get? b = some u → b ≠ C := fun b u e z => by
    have := Heap.lt_size e; rw [z] at this; exact Nat.lt_irrefl _ (Nat.lt_trans this hC)
  have oldD : ∀ b u, s2.heap.get? b = some u → b ≠ D := fun b u e z => by
    have := Heap.lt_size e; rw [z, eD] at this; exact Nat.lt_irrefl _ this
  have freeOf : ∀ x, ((cxC X (tn ++ fs) scope cl C s2 H2 fp).env.kindOf x = some .cell ∨ (cxC X (tn ++ fs) scope cl C s2 H2 fp).env.kindOf x = some .free) → (x, NameKind.free) ∈ scope.names := fun x hx => by
    have : ∃ k, (cxC X (tn ++ fs) scope cl C s2 H2 fp).env.kindOf x = some k ∧ (k = .cell ∨ k = .free) := by
      rcases hx with h | h
      · exact ⟨_, h, .inl rfl⟩
      · exact ⟨_, h, .inr rfl⟩
    obtain ⟨k, hk, hc⟩ := this
    obtain ⟨k', e1, e2, e3⟩ := relabel_back (scope := scope) (env := X.env) (names := scope.names) hk
    rcases e3 with rfl | rfl
    · rcases hc with rfl | rfl
      · exact absurd rfl (B.nocell _ e2)
      · exact e2
    · exact e2
  have hH : ∀ b, H2 b = none → b ≠ D → upd H2 D (.lst []) b = none := fun b h1 h2 => by rw [upd_ne h2]; exact h1
  refine ⟨⟨I2.ok.mod, ?_, I2.ok.glob, I2.ok.blt, Nat.le_of_lt hC, fun x y c h1 h2 => I2.ok.inj x y c (hcl1 x c h1).1 (hcl1 y c h2).1, fun x hx => hcl2 x (freeOf x hx), fun x c h1 h2 => ?_, I2.ok.hd, I2.ok.frames, .inl rfl, fun b hb => ⟨?_, fun x c e => ?_⟩, I2.bs, Nat.le_trans I2.ok.bsz I2.sz, fun b o e hb => ?_, fun b hb hs => ?_, I2.stack, I2.stkFree⟩,
    rfl, I2.bare, Un.laid k (by rw [eD]; exact Nat.le_refl _) (I2.hok.fresh (by rw [eD]; exact Nat.le_refl _)), ⟨m0, hns, fun i x v e1 e2 e3 => ?_⟩, fun x c e => ?_, ?_, fun x c e => ?_, fun p hp => absurd (show p ∈ ([] : List (Addr × Obj)) from hp) (by simp), ?_, ?_⟩
  · show scope.kind = .function; exact B.kd
  · have h1 : (cl.lookup x).isNone = true := h1
    rw [show cl.lookup x = some c from h2] at h1; cases h1
  · obtain ⟨o, e, _⟩ := T.obj 0 _ st2 b hb; exact old b o e
  · exact (f2 b hb).2.2.2.2.1 x c (hcl1 x c e).1
  · have hb : b ∈ fp := hb
    rcases (f2 b hb).2.2.2.1 with z | z
    · exact I2.ok.noex b o e z
    · exact absurd (Nat.lt_of_lt_of_le (Heap.lt_size (I2.ok.bs b o e).1) z) (Nat.lt_irrefl _)
  · have hb : b ∈ fp := hb
    rcases List.mem_cons.mp (I2.stkSub b hs) with z | z
    · exact (f2 b hb).2.1 z
    · exact (f2 b hb).2.2.1 z
  · -- the captured names
    have hl : tn.length ≤ i := by
      rcases Nat.lt_or_ge i tn.length with z | z
      · unfold capt at e2
        rw [List.getElem?_append_left (by simpa using z), List.getElem?_replicate] at e2
        split at e2 <;> cases e2
      · exact z
    have e1' : fs[i - tn.length]? = some x := by
      have : (tn ++ fs)[i]? = some x := e1
      rwa [List.getElem?_append_right hl] at this
    have e2' : (ix.map fun i => (σ[i]?).join)[i - tn.length]? = some (some v) := by
      unfold capt at e2
      rwa [List.getElem?_append_right (by simpa using hl), List.length_replicate] at e2
    rw [List.getElem?_map] at e2'
    cases qj : ix[i - tn.length]? with
    | none => rw [qj] at e2'; cases e2'
    | some j =>
      rw [qj] at e2'
      have e3' : σ[j]? = some (some v) := by
        have : (σ[j]?).join = some v := by simpa using e2'
        cases q : σ[j]? with
        | none => rw [q] at this; cases this
        | some o => rw [q] at this; have : o = some v := this; rw [this]
      have e4 : X.N[j]? = some x := by
        have z := congrArg (fun l => l[i - tn.length]?) B.hix
        simp only [List.getElem?_map, qj, e1', Option.map_some] at z
        rw [hN]; exact Option.some.inj z
      have hx := B.hfs x (List.mem_of_getElem? e1')
      have hmem : (x, NameKind.free) ∈ scope.names := PySem.mem_of_lookup hx.1
      have hcell : X.env.kindOf x = some .cell := by show X.env.scope.names.lookup x = _; rw [hsc]; exact B.fr _ hmem rfl
      obtain ⟨mm, _, hv⟩ := I2.loc
      obtain ⟨u, ru, lu⟩ := hv j x v e4 e3' (.inr (.inl hcell))
      refine ⟨u, ru, .inr ⟨.inl ?_, ?_⟩⟩
      · show (cxC X (tn ++ fs) scope cl C s2 H2 fp).env.scope.names.lookup x = _
        rw [cxC_kind hx.1]
        have hk : X.env.scope.kind = .function := by rw [hsc]; exact B.okd
        simp [hk, hcell]
      · obtain ⟨c, hc⟩ := hcl2 x hmem
        refine ⟨c, hc, ?_⟩
        rcases lu with ⟨z, _⟩ | ⟨_, c', h1, h2⟩
        · rw [hcell] at z; cases z
        · have := (hcl1 x c hc).1
          rw [h1] at this; cases this
          obtain ⟨o, ho, hd⟩ := h2
          exact ⟨o, k _ _ ho, hd⟩
  · obtain ⟨v, o, ho, hd⟩ := I2.cell x c (hcl1 x c e).1
    exact ⟨v, o, k _ _ ho, hd⟩
  · refine hH C (I2.hok.fresh (Nat.le_of_lt hC)) ?_
    intro z; rw [z, eD] at hC; exact Nat.lt_irrefl _ hC
  · obtain ⟨v, o, ho, hd⟩ := I2.cell x c (hcl1 x c e).1
    exact hH c (I2.freeC x c (hcl1 x c e).1) (oldD c o ho)
  · exact I2.hok.laid (a := D) (o := .lst []) k (by rw [eD]; exact Nat.le_refl _) ⟨Nat.zero_le _, [], 0, .nil, hD⟩
  · show (capt tn.length ix σ).length = (tn ++ fs).length
    have := congrArg List.length B.hix
    simp only [List.length_map] at this
    unfold capt
    simp [this]
end

def capS : Slot → Slot
  | .val d => .val d
  | .thg t => .bor t
  | .bor t => .bor t
  | _ => .un
/-- a comprehension's tests -/
def TsD (Y : Cy) : List Expr → List Slot → Bool → Prop
  | [], _, b => b = true
  | [t], c, b => TeD Y t c b
  | _, _, _ => False
theorem slot_map {α : Type} (f : α → Slot) : ∀ (l : List α) (i : Nat), slot (l.map f) i = (match l[i]? with | some x => f x | none => .un)
  | [], i => by simp [slot]
  | x :: r, 0 => rfl
  | x :: r, i + 1 => by simpa [slot] using slot_map f r i
theorem slot_app_left : ∀ (a b : List Slot) (i : Nat), i < a.length → slot (a ++ b) i = slot a i
  | [], _, _, h => by simp at h
  | _ :: _, _, 0, _ => rfl
  | _ :: r, b, i + 1, h => slot_app_left r b i (by simpa using h)
theorem slot_app_right : ∀ (a b : List Slot) (i : Nat), slot (a ++ b) (a.length + i) = slot b i
  | [], _, i => by simp
  | _ :: r, b, i => by
    have := slot_app_right r b i
    simp only [List.length_cons, List.cons_append]
    rw [show r.length + 1 + i = (r.length + i) + 1 by omega]
    exact this
theorem env_comp {K : PySem.W.Frag} {F₀ H₀ F H : Hp} {σ : St} {c : List Slot} {n : Nat} {ix : List Nat} {D : Addr} {o : HO} (E : Env K F₀ H₀ F H σ c) (hn : H D = none) :
    Env K F H F (upd H D o) (capt n ix σ) (List.replicate n .un ++ ix.map fun i => capS (slot c i)) where
  ext := Ext.track E.fh hn
  len := by unfold capt; simp
  sl := fun j => by
    unfold capt
    by_cases hj : j < n
    · rw [slot_app_left _ _ _ (by simpa using hj), slot_un]; exact trivial
    · have ej : j = (List.replicate n Slot.un).length + (j - n) := by simp; omega
      have e2 : slot (List.replicate n .un ++ ix.map fun i => capS (slot c i)) j = slot (ix.map fun i => capS (slot c i)) (j - n) := by
        have := slot_app_right (List.replicate n .un) (ix.map fun i => capS (slot c i)) (j - n)
        rw [← ej] at this; exact this
      rw [e2, slot_map, List.getElem?_append_right (by simp; omega), List.length_replicate, List.getElem?_map]
      cases q : ix[j - n]? with
      | none => exact trivial
      | some i =>
        show SlotOk K H F (upd H D o) (some ((σ[i]?).join)) (capS (slot c i))
        have z := E.sl i
        cases e : slot c i with
        | val d =>
          rw [e] at z
          obtain ⟨x, ex, r⟩ := z
          exact ⟨x, by rw [ex]; rfl, r⟩
        | thg t =>
          rw [e] at z
          obtain ⟨a, o', ex, h1, _, _, r⟩ := z
          exact ⟨a, o', by rw [ex]; rfl, h1, r⟩
        | bor t =>
          rw [e] at z
          obtain ⟨a, o', ex, h1, r⟩ := z
          exact ⟨a, o', by rw [ex]; rfl, E.ext.hh _ _ h1, r⟩
        | _ => exact trivial
  inj := fun i j a h _ _ _ => by
    exfalso
    have : isOwn (slot (List.replicate n .un ++ ix.map fun i => capS (slot c i)) i) = false := by
      by_cases hj : i < n
      · rw [slot_app_left _ _ _ (by simpa using hj), slot_un]; rfl
      · have ej : i = (List.replicate n Slot.un).length + (i - n) := by simp; omega
        have e2 : slot (List.replicate n .un ++ ix.map fun i => capS (slot c i)) i = slot (ix.map fun i => capS (slot c i)) (i - n) := by
          have := slot_app_right (List.replicate n .un) (ix.map fun i => capS (slot c i)) (i - n)
          rw [← ej] at this; exact this
        rw [e2, slot_map]
        split
        · rename_i x _; cases slot c x <;> rfl
        · rfl
    rw [this] at h; cases h
/-- a list that the slots do not know grows -/
theorem Env.aside {K : PySem.W.Frag} {F₀ H₀ F H : Hp} {σ : St} {c : List Slot} {D : Addr} {vs ws : List V} (E : Env K F₀ H₀ F H σ c) (h0 : H₀ D = none) (hF : F D = none) (hD : H D = some (.lst vs)) (hs : ∀ i a, isOwn (slot c i) = true → σ[i]? = some (some (.ref a)) → a ≠ D) : Env K F₀ H₀ F (upd H D (.lst ws)) σ c where
  ext := ⟨E.ext.ff, fun b u q => by rw [upd_ne (fun z => by rw [z, hF] at q; cases q)]; exact E.ext.fh _ _ q, fun b u q => by rw [upd_ne (fun z => by rw [z, h0] at q; cases q)]; exact E.ext.hh _ _ q, E.ext.fr⟩
  len := E.len
  sl := fun i => by
    have z := E.sl i
    cases e : slot c i with
    | un => exact trivial
    | val d => rw [e] at z; exact z
    | own ds =>
      rw [e] at z
      obtain ⟨a, vs', h1, h2, h3, h4, h5⟩ := z
      exact ⟨a, vs', h1, by rw [upd_ne (hs i a (by rw [e]; rfl) h1)]; exact h2, h3, h4, h5⟩
    | dic ds =>
      rw [e] at z
      obtain ⟨a, vs', h1, h2, h3, h4, h5⟩ := z
      exact ⟨a, vs', h1, by rw [upd_ne (hs i a (by rw [e]; rfl) h1)]; exact h2, h3, h4, h5⟩
    | thg t =>
      rw [e] at z
      obtain ⟨a, vs', h1, h2, h3, h4, h5⟩ := z
      exact ⟨a, vs', h1, by rw [upd_ne (hs i a (by rw [e]; rfl) h1)]; exact h2, h3, h4, h5⟩
    | bor t => rw [e] at z; exact z
    | exc C dx =>
      rw [e] at z
      obtain ⟨a, h1, h2⟩ := z
      exact ⟨a, h1, by rw [upd_ne (fun q => by rw [q, hD] at h2; cases h2)]; exact h2⟩
  inj := E.inj

theorem ts_run {Y : Cy} {ifs : List Expr} {c : List Slot} {b : Bool} {pins : List (Addr × Obj)} {s : Shared} {σ : St} {F H : Hp} (h : TsD Y ifs c b) (I : Inv Y.X pins σ H s) (E : EnvY Y F H σ c) (hx : Y.X.xe = fun _ _ => False) {Q : Bool → Shared → Prop}
    (q : ∀ s' F' H', Ext F H F' H' → Inv Y.X pins σ H' s' → Q b s') :
    wpAny (model Y.X.prog Y.X.w) Y.X.A (forIn ifs true fun c r => if r = true then do let ok ← isTrue c Y.X.env (eval c Y.X.env); pure (ForInStep.yield ok) else pure (ForInStep.yield r)) Q (fun _ _ => False) s := by
  match ifs, h with
  | [], h =>
    have h : b = true := h
    subst h
    exact wpAny_tests_nil (q s F H (Ext.refl E.fh) I)
  | [t], h =>
    refine wpAny_tests_one ?_
    have w := (show TeD Y t c b from h) pins s σ H (fun v H' => v = b ∧ ∃ F', Ext F H F' H') I ⟨F, E, fun F' H' e => ⟨rfl, F', e⟩⟩
    rw [hx] at w
    refine wpAny_mono w (fun v s' hv => ?_) fun _ _ z => z
    obtain ⟨H', I', rfl, F', e⟩ := hv
    exact q s' F' H' e I'
theorem own_all : ∀ {ts : List Slot}, ts.all (fun s => !isOwn s) = true → ∀ j, isOwn (slot ts j) = false
  | [], _, _ => rfl
  | x :: r, h, 0 => by simp at h; exact h.1
  | x :: r, h, j + 1 => own_all (ts := r) (by simp at h ⊢; exact h.2) j
theorem own_none {ts : List Slot} {ix : List Nat} {c : List Slot} (h : ts.all (fun s => !isOwn s) = true) {j : Nat} : isOwn (slot (ts ++ ix.map fun i => capS (slot c i)) j) = false := by
  refine own_all ?_ j
  rw [List.all_append, h, Bool.true_and, List.all_map]
  rw [List.all_eq_true]
  intro i _
  show (!isOwn (capS (slot c i))) = true
  cases slot c i <;> rfl
theorem comp_coreG {Y : Cy} {T : Tx} {k : Nat} {N G tn fs G' : List Str} {ix : List Nat} {c : List Slot} {tg iter elt : Expr} {ifs : List Expr} {scope osc : Scope} {pos : Pos} {items : List D} (S : Se Y T k N G) (hsc : Y.X.env.scope = osc) (B : CmB N tn fs ix G' scope osc) (hi : ItD Y tg iter c items)
    (rs : List (Option D)) (hlen : rs.length = items.length) (hz : rs.length ≤ 100000)
    (turn : ∀ (Y' : Cy) (S' : Se Y' T k (tn ++ fs) G'), (∀ x ∈ tn, Y'.X.env.scope.names.lookup x = some .local) → ∀ (m : Nat) (d : D) (r : Option D), items[m]? = some d → rs[m]? = some r → ∀ ts : List Slot, ts.length = tn.length →
      ∃ ts' : List Slot, ts'.length = tn.length ∧ ts'.all (fun s => !isOwn s) = true ∧ TgD Y' tg d (ts ++ ix.map fun i => capS (slot c i)) (ts' ++ ix.map fun i => capS (slot c i)) ∧ (match r with
        | some e => TsD Y' ifs (ts' ++ ix.map fun i => capS (slot c i)) true ∧ EvD Y' elt (ts' ++ ix.map fun i => capS (slot c i)) e
        | none => TsD Y' ifs (ts' ++ ix.map fun i => capS (slot c i)) false))
    (hs : ∀ x, foldedSetIterable iter Y.X.env x = pure x := by intro _; rfl)
    {pins : List (Addr × Obj)} {s : Shared} {σ : St} {F H : Hp} (I : Inv Y.X pins σ H s) (E : EnvY Y F H σ c) {use : Option (Value → Sem Unit)} {Qv : Value → Shared → Prop} {cpos : Pos}
    (post : ∀ (D C : Addr) (s' : Shared) (m : Str → Option Value) (F' H' : Hp) (vs : List V), s'.heap.Ns C m → FpOk Y.X pins H' C → (∀ h', Heap.SameBut C s'.heap h' → Inv Y.X pins σ H' { s' with heap := h' }) → Ext F H F' H' → H D = none → H' D = some (.lst vs) → F' D = none → Reps Y.X.K F' vs (rs.filterMap id) →
      compPost (model Y.X.prog Y.X.w) Y.X.A Y.X.xe use Qv (.ref D) C (.ok .next) s') :
    wpAny (model Y.X.prog Y.X.w) Y.X.A (comprehension (.ListComp elt [⟨tg, iter, ifs, 0⟩] scope pos) scope Y.X.env cpos (newList []) (firstAsync [⟨tg, iter, ifs, 0⟩]) (firstIter [⟨tg, iter, ifs, 0⟩] Y.X.env) use) Qv Y.X.xe s := by
  obtain ⟨cl, ecl, hcl1, hcl2⟩ := closureFor_ex scope Y.X.env fun x hx hf => I.ok.has x.1 (.inl (by show Y.X.env.scope.names.lookup x.1 = _; rw [hsc]; exact B.fr x hx hf))
  refine wpAny_comprehension_free (g := ⟨tg, iter, ifs, 0⟩) (gs := []) rfl hs ecl B.kd B.once ?_
  have h1 := hi pins s σ H (fun J H1 => ∃ F1, Ext F H F1 H1 ∧ Yields Y.X.K F1 J items) I ⟨F, E, fun J F1 H1 e1 y => ⟨F1, e1, y⟩⟩
  refine thn h1 fun x s1 h1 => thn h1 fun itv s2 h2 => ?_
  obtain ⟨it, fp, tnn, J, H2, rfl, I2, TT, st2, f2, F2, e2, yl⟩ := h2
  refine wpAny_newObj_type (wpAny_newFunctionEnv B.nocell (by intro y hy; simp at hy) (fun h4 hns hsb => ?_) B.kd)
  dsimp only at hns hsb ⊢
  generalize hH3 : s2.heap.push { cls := .type "list", dict := none, data := .seq ([] : List Value).toArray } = g3 at hns hsb ⊢
  have hC : g3.objs.size = s2.heap.objs.size + 1 := by rw [← hH3, Heap.size_push]
  have hD3 : g3.get? s2.heap.objs.size = some { cls := .type "list", dict := none, data := .seq ([] : List Value).toArray } := by rw [← hH3]; exact Heap.get?_push_size _ rfl
  have kk : ∀ b u, s2.heap.get? b = some u → h4.get? b = some u := fun b u e => hsb.extBut b u (by rw [hC]; exact Nat.ne_of_lt (Nat.lt_succ_of_lt (Heap.lt_size e))) (Heap.get?_push_of_some _ (hH3 ▸ Heap.get?_push_of_some _ e))
  have hD : h4.get? s2.heap.objs.size = some { cls := .type "list", data := .seq #[] } := hsb.extBut _ _ (by rw [hC]; exact Nat.ne_of_lt (Nat.lt_succ_self _)) (Heap.get?_push_of_some _ hD3)
  have hCl : s2.heap.objs.size < g3.objs.size := by rw [hC]; exact Nat.lt_succ_self _
  generalize hDe : s2.heap.objs.size = D at hD hCl ⊢
  generalize g3.objs.size = C at hns hsb hCl ⊢
  have hDn : H2 D = none := I2.hok.fresh (by rw [hDe]; exact Nat.le_refl _)
  have I4 := inv_comp (t' := s2.toks + ([] : List (Str × Value)).length) I2 TT st2 f2 hsc S.n B hcl1 hcl2 kk hDe.symm hD hns (by rw [hDe]; exact hCl)
  generalize hXc : cxC Y.X (tn ++ fs) scope cl C s2 H2 fp = Xc at I4
  have xP : Xc.prog = Y.X.prog := by rw [← hXc]; rfl
  have xW : Xc.w = Y.X.w := by rw [← hXc]; rfl
  have xK : Xc.K = Y.X.K := by rw [← hXc]; rfl
  have xA : Xc.A = Y.X.A := by rw [← hXc]; rfl
  have xE : Xc.xe = fun _ _ => False := by rw [← hXc]; rfl
  have xenv : Xc.env = compEnvC scope cl C Y.X.env := by rw [← hXc]; rfl
  have S' : Se ⟨Xc, F2, H2⟩ T k (tn ++ fs) G' := by
    subst hXc
    refine ⟨⟨S.eP, S.eW, S.eK, S.eM, S.eB, rfl, B.hnd, fun x hx => ?_, fun x hx => ?_⟩, S.calm, S.room⟩
    · rcases List.mem_append.mp hx with h | h
      · have z := B.htn x h
        exact ⟨.inl (lookup_relabel_local z.1), z.2⟩
      · have z := B.hfs x h
        refine ⟨.inr ?_, z.2⟩
        have zz := cxC_kind (X := Y.X) (N' := tn ++ fs) (cl := cl) (C := C) (s := s2) (H := H2) (ex := fp) z.1
        have hk : Y.X.env.scope.kind = .function := by rw [hsc]; exact B.okd
        have hcell : Y.X.env.kindOf x = some .cell := by show Y.X.env.scope.names.lookup x = _; rw [hsc]; exact B.fr _ (PySem.mem_of_lookup z.1) rfl
        rw [hk, hcell] at zz
        exact zz
    · have z := B.hgl x hx
      refine ⟨?_, z.2⟩
      have zz := cxC_kind (X := Y.X) (N' := tn ++ fs) (cl := cl) (C := C) (s := s2) (H := H2) (ex := fp) z.1
      exact zz
  have hloc : ∀ x ∈ tn, (⟨Xc, F2, H2⟩ : Cy).X.env.scope.names.lookup x = some .local := fun x hx => by
    show Xc.env.scope.names.lookup x = _
    rw [xenv]; exact lookup_relabel_local (B.htn x hx).1
  have E2 := E.grow e2
  have E4 : Env Y.X.K F2 H2 F2 (upd H2 D (.lst [])) (capt tn.length ix σ) (List.replicate tn.length .un ++ ix.map fun i => capS (slot c i)) := env_comp E2 hDn
  have fin : ∀ {σ' : St} {F' H' : Hp} {s' : Shared} {vs : List V}, Inv Xc [] σ' H' s' → Ext F2 H2 F' H' → H' D = some (.lst vs) → F' D = none → Reps Y.X.K F' vs (rs.filterMap id) →
      compPost (model Y.X.prog Y.X.w) Y.X.A Y.X.xe use Qv (.ref D) C (.ok .next) s' := by
    intro σ' F' H' s' vs I' ex hv hf r
    obtain ⟨m, hn, _⟩ := id I'.loc
    rw [xenv] at hn
    have b0 : Un (frs Y.X.stack) fp H2 H' s2.heap s'.heap := by have := I'.base; rw [← hXc] at this; exact this
    have nC : ∀ b o, s2.heap.get? b = some o → b ≠ C := fun b o e z => by
      have := Heap.lt_size e; rw [z, hDe] at this; exact Nat.lt_irrefl _ (Nat.lt_trans this hCl)
    have hfC : H' C = none := by have := I'.free; rw [xenv] at this; exact this
    have I9 : ∀ h', Heap.SameBut C s'.heap h' → Inv Y.X pins σ H' { s' with heap := h' } := fun h' hs' => by
      have un : Un (frs Y.X.stack) fp H2 H' s2.heap h' := ⟨fun b o e n hb hx => (hs'.2 b (nC b o e)).trans (b0.keep b o e n hb hx), fun b o e n hb hx => by
          obtain ⟨sl, z⟩ := b0.slot b o e n hb hx
          exact ⟨sl, (hs'.2 b (nC b o e)).trans z⟩, b0.free, fun b o e hx => by
          obtain ⟨o', z⟩ := b0.there b o e hx
          exact ⟨o', (hs'.2 b (nC b o e)).trans z⟩, b0.tups, b0.frzs, b0.tbls⟩
      have hok : HOk Y.X.prog Y.X.w H' h' := by
        have ok' : HOk Y.X.prog Y.X.w H' s'.heap := by rw [← xP, ← xW]; exact I'.hok
        intro b o e
        refine (ok' b o e).stay (fun c w' hc z => (hs'.2 c ?_).trans z) (fun _ z => z) fun _ _ z => z
        rintro rfl
        rcases hc with rfl | hc
        · rw [hfC] at e; cases e
        · rw [hfC] at hc; cases hc
      have os : ({ s' with heap := h' } : Shared).os = s2.os := by have := I'.os; rw [← hXc] at this; exact this
      exact I2.call' (s' := { s' with heap := h' }) (ch := fp) os un hok I'.bare fun b hb => ⟨(f2 b hb).2.2.2.1, (f2 b hb).2.1, (f2 b hb).2.2.2.2.1, (f2 b hb).2.2.2.2.2⟩
    have hD0 : H D = none := by
      cases z : H D with
      | none => rfl
      | some u => rw [e2.hh _ _ z] at hDn; cases hDn
    exact post D C s' m F' H' vs hn (I2.fpOk (by rw [hDe]; exact Nat.le_of_lt hCl) hfC) I9 (e2.trans ex) hD0 hv hf r
  have calm : Xc.calm = true := S'.calm
  have cells : ∀ b ∈ fp, ∀ x c, Xc.env.cells.lookup x = some c → c ≠ b := fun b hb x c e => by
    rw [xenv] at e
    exact (f2 b hb).2.2.2.2.1 x c (hcl1 x c e).1
  have neC : ∀ b ∈ fp, b ≠ Xc.env.locals := fun b hb => by
    rw [xenv]
    obtain ⟨o, e, _⟩ := TT.obj 0 _ st2 b hb
    intro z
    have z : b = C := z
    have := Heap.lt_size e; rw [z, hDe] at this; exact Nat.lt_irrefl _ (Nat.lt_trans this hCl)
  have nfs : ∀ b ∈ fp, b ∉ Xc.fs := fun b hb z => by
    rw [← hXc] at z
    rcases List.mem_cons.mp (I2.stkSub b z) with z | z
    · exact (f2 b hb).2.1 z
    · exact (f2 b hb).2.2.1 z
  have inex : ∀ b ∈ fp, b ∈ Xc.ex := fun b hb => by rw [← hXc]; exact hb
  have stat : ∀ {H' : Hp}, (∀ b ∈ fp, H' b = none) → ∀ b ∈ fp, FpOk Xc [] H' b := fun hn b hb => ⟨hn b hb, neC b hb, nfs b hb, .inl (inex b hb), cells b hb, fun p hp => by rw [← hXc] at hp; exact absurd (show p ∈ ([] : List (Addr × Obj)) from hp) (by simp)⟩
  have TX : Turn Xc.prog Xc.w Xc.K tg J fp it tnn := by rw [xP, xW, xK]; exact TT
  have loop : ∀ s3 : Shared, s3 = { s2 with heap := h4, toks := s2.toks + ([] : List (Str × Value)).length } →
      codeAny (model Y.X.prog Y.X.w) Y.X.A (.compLoop (.ListComp elt [⟨tg, iter, ifs, 0⟩] scope pos) 0 (.ref it) (.ref D) (compEnvC scope cl C Y.X.env)) (compPost (model Y.X.prog Y.X.w) Y.X.A Y.X.xe use Qv (.ref D) C) s3 := by
    rintro s3 rfl
    rw [← xP, ← xW, ← xA, ← xenv]
    refine compLoop_any (fun n s' => ∃ (i : Nat) (σ' : St) (F' H' : Hp) (vs : List V) (ts : List Slot), n = items.length - i ∧ i ≤ items.length ∧ Inv Xc [] σ' H' s' ∧ tnn i s'.heap ∧ (∀ b ∈ fp, H' b = none) ∧ Env Y.X.K F2 H2 F' H' σ' (ts ++ ix.map fun i => capS (slot c i)) ∧ ts.length = tn.length ∧
      H' D = some (.lst vs) ∧ F' D = none ∧ Reps Y.X.K F' vs ((rs.take i).filterMap id)) ?_ items.length ⟨0, _, F2, _, [], _, rfl, Nat.zero_le _, I4, TT.keep _ _ _ st2 fun b hb o e => kk b o e, fun b hb => ?_, E4, by simp, upd_same, ?_, .nil⟩
    · rintro n s' ⟨i, σ', F', H', vs, ts, rfl, hi', I', st', fr', E', hts, hv, hf, rp⟩
      have y := yl i F' H' E'.ext.ff E'.fh
      by_cases hlt : i < items.length
      · obtain ⟨d, hd⟩ : ∃ d, items[i]? = some d := ⟨items[i], List.getElem?_eq_getElem hlt⟩
        obtain ⟨r, hr⟩ : ∃ r, rs[i]? = some r := ⟨rs[i]'(by rw [hlen]; exact hlt), List.getElem?_eq_getElem _⟩
        obtain ⟨go, yy⟩ := y.1 d hd
        obtain ⟨ts', hts', hown, tgd, body⟩ := turn ⟨Xc, F2, H2⟩ S' hloc i d r hd hr ts hts
        refine thn (TX.item Xc rfl rfl rfl calm i [] s' σ' H' _ I' (stat fr') st' go) fun rr s4 ⟨u, hr', h4'⟩ => ?_
        subst hr'
        refine thn h4' fun _ s5 ⟨xv, H5, I5, r5, y5, st5, fr5⟩ => ?_
        obtain ⟨F5, ex5, rep5⟩ := yy xv H5 y5
        have I5' := I5.pinned (stat fr5) (TT.obj _ _ st5)
        have E5 : Env Y.X.K F2 H2 F5 H5 σ' (ts ++ ix.map fun i => capS (slot c i)) := E'.grow ex5
        have tgr := tgd _ s5 σ' H5 xv u (fun σ6 H6 => ∃ F6, Ext F5 H5 F6 H6 ∧ Env Y.X.K F2 H2 F6 H6 σ6 (ts' ++ ix.map fun i => capS (slot c i))) I5' r5 ⟨F5, by show Env Xc.K _ _ _ _ _ _; rw [xK]; exact E5, by show Rep Xc.K _ _ _; rw [xK]; exact rep5, fun σ6 F6 H6 ex6 E6 => ⟨F6, ex6, by have z : Env Xc.K F2 H2 F6 H6 σ6 _ := E6; rw [xK] at z; exact z⟩⟩
        rw [show (⟨Xc, F2, H2⟩ : Cy).X.xe = fun _ _ => False from xE] at tgr
        refine thn tgr fun _ s6 ⟨σ6, H6, I6, F6, ex6, E6⟩ => ?_
        have ne : ∀ {Fa Ha Fb Hb : Hp} {ws : List V}, Ext Fa Ha Fb Hb → Ha D = some (.lst ws) → Fa D = none → Hb D = some (.lst ws) ∧ Fb D = none := fun ex h1 h2 => ⟨ex.hh _ _ h1, ex.fr D (by rw [h1]; exact fun z => nomatch z) h2⟩
        obtain ⟨hv5, hf5⟩ := ne ex5 hv hf
        obtain ⟨hv6, hf6⟩ := ne ex6 hv5 hf5
        have rp6 := (rp.mono ex5.ff).mono ex6.ff
        have E6' : EnvY ⟨Xc, F2, H2⟩ F6 H6 σ6 (ts' ++ ix.map fun i => capS (slot c i)) := by show Env Xc.K _ _ _ _ _ _; rw [xK]; exact E6
        have again : ∀ {s7 : Shared} {σ7 : St} {F7 H7 : Hp} {ws : List V}, Inv Xc ([] ++ pinsAt fp s5.heap) σ7 H7 s7 → Env Y.X.K F2 H2 F7 H7 σ7 (ts' ++ ix.map fun i => capS (slot c i)) → H7 D = some (.lst ws) → F7 D = none → Reps Y.X.K F7 ws ((rs.take (i + 1)).filterMap id) →
            ∃ m, m < items.length - i ∧ ∃ (i : Nat) (σ' : St) (F' H' : Hp) (vs : List V) (ts : List Slot), m = items.length - i ∧ i ≤ items.length ∧ Inv Xc [] σ' H' s7 ∧ tnn i s7.heap ∧ (∀ b ∈ fp, H' b = none) ∧ Env Y.X.K F2 H2 F' H' σ' (ts ++ ix.map fun i => capS (slot c i)) ∧ ts.length = tn.length ∧ H' D = some (.lst vs) ∧ F' D = none ∧ Reps Y.X.K F' vs ((rs.take i).filterMap id) := by
          intro s7 σ7 F7 H7 ws I7 E7 h7 f7 r7
          refine ⟨items.length - (i + 1), by omega, i + 1, σ7, F7, H7, ws, ts', rfl, hlt, I7.unpinned, TT.keep _ _ _ st5 fun b hb o e => (I7.pin (b, o) (List.mem_append_right _ (List.mem_append_right _ (mem_pinsAt hb e)))).1, fun b hb => ?_, E7, hts', h7, f7, r7⟩
          obtain ⟨o, e, dd⟩ := TT.obj _ _ st5 b hb
          exact (I7.pin (b, o) (List.mem_append_right _ (List.mem_append_right _ (mem_pinsAt hb e)))).2.1
        have tk : (rs.take (i + 1)).filterMap id = (rs.take i).filterMap id ++ r.toList := by
          rw [List.take_add_one, hr, List.filterMap_append]
          cases r <;> rfl
        cases r with
        | none =>
          refine ts_run (Y := ⟨Xc, F2, H2⟩) body I6 E6' xE fun s7 F7 H7 ex7 I7 => ?_
          rw [if_neg Bool.false_ne_true]
          obtain ⟨hv7, hf7⟩ := ne ex7 hv6 hf6
          exact again I7 (E6.grow ex7) hv7 hf7 (by rw [tk]; simpa using rp6.mono ex7.ff)
        | some e =>
          refine ts_run (Y := ⟨Xc, F2, H2⟩) body.1 I6 E6' xE fun s7 F7 H7 ex7 I7 => ?_
          rw [if_pos rfl]
          obtain ⟨hv7, hf7⟩ := ne ex7 hv6 hf6
          have el := body.2 _ s7 σ6 H7 (fun v H8 => ∃ F8, Ext F7 H7 F8 H8 ∧ Rep Y.X.K F8 v e) I7 ⟨F7, by show Env Xc.K _ _ _ _ _ _; rw [xK]; exact E6.grow ex7, fun v F8 H8 ex8 r8 => ⟨F8, ex8, by have z : Rep Xc.K F8 v e := r8; rw [xK] at z; exact z⟩⟩
          rw [show (⟨Xc, F2, H2⟩ : Cy).X.xe = fun _ _ => False from xE] at el
          refine thn el fun u8 s8 ⟨v8, H8, I8, r8, F8, ex8, rep8⟩ => ?_
          obtain ⟨hv8, hf8⟩ := ne ex8 hv7 hf7
          have rp8 := (rp6.mono ex7.ff).mono ex8.ff
          have E8 := (E6.grow ex7).grow ex8
          have ln : vs.length < sizeLine := by
            rw [rp.length]
            have l1 : ((rs.take i).filterMap id).length ≤ (rs.take i).length := List.length_filterMap_le _ _
            have l2 : (rs.take i).length ≤ rs.length := by simp; omega
            rw [sizeLine_eq]; omega
          have ap := (mt_append (X := Xc)) _ s8 σ6 H8 (.ref D) [v8] (.ref D) [u8] (fun _ H9 => H9 = upd H8 D (.lst (vs ++ [v8]))) I8 rfl (.cons r8 .nil) ⟨D, vs, v8, rfl, rfl, hv8, ln, rfl⟩
          rw [xE] at ap
          refine thn ap fun _ s9 ⟨v9, H9, I9, _, e9⟩ => ?_
          subst e9
          refine again (ws := vs ++ [v8]) I9 (E8.aside hDn hf8 hv8 fun j a hj ha => ?_) upd_same hf8 (by rw [tk]; exact rp8.append (.cons rep8 .nil))
          rw [own_none hown] at hj; cases hj
      · have ei : i = items.length := by omega
        subst ei
        refine thn (TX.done Xc rfl rfl rfl calm items.length [] s' σ' H' _ I' (stat fr') st' (y.2 (Nat.le_refl _))) fun rr s4 ⟨hr', I4'⟩ => ?_
        subst hr'
        show compPost (model Xc.prog Xc.w) Xc.A Y.X.xe use Qv (.ref D) C (.ok .next) s4
        rw [xP, xW, xA]
        exact fin I4' E'.ext hv hf (by rw [← hlen, List.take_length] at rp; exact rp)
    · rw [upd_ne (fun z => ?_)]
      · exact (f2 b hb).1
      · obtain ⟨o, e, _⟩ := TT.obj 0 _ st2 b hb
        have := Heap.lt_size e; rw [z, hDe] at this; exact Nat.lt_irrefl _ this
    · cases z : F2 D with
      | none => rfl
      | some u => rw [e2.fh _ _ z] at hDn; cases hDn
  exact codeAny_compStart_list (loop _ rfl) (TT.self _ 0 _ _ _ (TT.keep _ _ _ st2 fun b hb o e => kk b o e) (loop _ rfl))
theorem comp_core {Y : Cy} {T : Tx} {k : Nat} {N G tn fs G' : List Str} {ix : List Nat} {c : List Slot} {tg iter elt : Expr} {ifs : List Expr} {scope osc : Scope} {pos : Pos} {items : List D} (S : Se Y T k N G) (hsc : Y.X.env.scope = osc) (B : CmB N tn fs ix G' scope osc) (hi : ItD Y tg iter c items)
    (rs : List (Option D)) (hlen : rs.length = items.length) (hz : rs.length ≤ 100000)
    (turn : ∀ (Y' : Cy) (S' : Se Y' T k (tn ++ fs) G'), (∀ x ∈ tn, Y'.X.env.scope.names.lookup x = some .local) → ∀ (m : Nat) (d : D) (r : Option D), items[m]? = some d → rs[m]? = some r → ∀ ts : List Slot, ts.length = tn.length →
      ∃ ts' : List Slot, ts'.length = tn.length ∧ ts'.all (fun s => !isOwn s) = true ∧ TgD Y' tg d (ts ++ ix.map fun i => capS (slot c i)) (ts' ++ ix.map fun i => capS (slot c i)) ∧ (match r with
        | some e => TsD Y' ifs (ts' ++ ix.map fun i => capS (slot c i)) true ∧ EvD Y' elt (ts' ++ ix.map fun i => capS (slot c i)) e
        | none => TsD Y' ifs (ts' ++ ix.map fun i => capS (slot c i)) false))
    (hs : ∀ x, foldedSetIterable iter Y.X.env x = pure x := by intro _; rfl)
    {pins : List (Addr × Obj)} {s : Shared} {σ : St} {F H : Hp} (I : Inv Y.X pins σ H s) (E : EnvY Y F H σ c) {use : Option (Value → Sem Unit)} {Qv : Value → Shared → Prop} {cpos : Pos}
    (post : ∀ (D C : Addr) (s' : Shared) (m : Str → Option Value) (F' H' : Hp), s'.heap.Ns C m → FpOk Y.X pins H' C → (∀ h', Heap.SameBut C s'.heap h' → Inv Y.X pins σ H' { s' with heap := h' }) → Ext F H F' H' → Rep Y.X.K F' (.ref D) (.lst (rs.filterMap id)) →
      compPost (model Y.X.prog Y.X.w) Y.X.A Y.X.xe use Qv (.ref D) C (.ok .next) s') :
    wpAny (model Y.X.prog Y.X.w) Y.X.A (comprehension (.ListComp elt [⟨tg, iter, ifs, 0⟩] scope pos) scope Y.X.env cpos (newList []) (firstAsync [⟨tg, iter, ifs, 0⟩]) (firstIter [⟨tg, iter, ifs, 0⟩] Y.X.env) use) Qv Y.X.xe s := by
  refine comp_coreG S hsc B hi rs hlen hz turn hs I E fun D C s' m F' H' vs hn fp hI ex hD hv hf r => ?_
  have sm : Same F' (upd F' D (.lst vs)) := fun b u z => by rw [upd_ne (fun w => by rw [w, hf] at z; cases z)]; exact z
  have ex2 : Ext F H (upd F' D (.lst vs)) H' := ⟨ex.ff.trans sm, fun b u z => by
      by_cases hb : b = D
      · subst hb; rw [upd_same] at z; cases z; exact hv
      · rw [upd_ne hb] at z; exact ex.fh _ _ z, ex.hh, fun b h1 h2 => by
      rw [upd_ne (fun w => h1 (by rw [w]; exact hD))]; exact ex.fr b h1 h2⟩
  exact post D C s' m _ H' hn fp hI ex2 (.lst (SqL.of upd_same) (r.mono sm))
theorem ev_comp {Y : Cy} {T : Tx} {k : Nat} {N G tn fs G' : List Str} {ix : List Nat} {c : List Slot} {tg iter elt : Expr} {ifs : List Expr} {scope osc : Scope} {pos : Pos} {items : List D} (S : Se Y T k N G) (hsc : Y.X.env.scope = osc) (B : CmB N tn fs ix G' scope osc) (hi : ItD Y tg iter c items)
    (rs : List (Option D)) (hlen : rs.length = items.length) (hz : rs.length ≤ 100000)
    (turn : ∀ (Y' : Cy) (S' : Se Y' T k (tn ++ fs) G'), (∀ x ∈ tn, Y'.X.env.scope.names.lookup x = some .local) → ∀ (m : Nat) (d : D) (r : Option D), items[m]? = some d → rs[m]? = some r → ∀ ts : List Slot, ts.length = tn.length →
      ∃ ts' : List Slot, ts'.length = tn.length ∧ ts'.all (fun s => !isOwn s) = true ∧ TgD Y' tg d (ts ++ ix.map fun i => capS (slot c i)) (ts' ++ ix.map fun i => capS (slot c i)) ∧ (match r with
        | some e => TsD Y' ifs (ts' ++ ix.map fun i => capS (slot c i)) true ∧ EvD Y' elt (ts' ++ ix.map fun i => capS (slot c i)) e
        | none => TsD Y' ifs (ts' ++ ix.map fun i => capS (slot c i)) false))
    (hs : ∀ x, foldedSetIterable iter Y.X.env x = pure x := by intro _; rfl) : EvD Y (.ListComp elt [⟨tg, iter, ifs, 0⟩] scope pos) c (.lst (rs.filterMap id)) := by
  intro pins s σ H Q I ⟨F, E, q⟩
  rw [eval_ListComp]
  exact comp_core S hsc B hi rs hlen hz turn hs I E (use := none) (Qv := EP Y.X pins σ Q) fun D C s' m F' H' hn _ hI ex r => ⟨m, hn, fun h' hs' => ⟨.ref D, H', hI h' hs', rfl, q _ F' H' ex r⟩⟩
end DL

set_option Elab.async false
set_option linter.all false
set_option maxRecDepth 100000
namespace DL
open PySem L2
/-! ### more expressions -/
def rCatS (K : PySem.W.Frag) : R2 := fun x y H Q => ∃ l b xs zs, x = .ref l ∧ y = .ref b ∧ SqL K H l xs ∧ SqL K H b zs ∧ xs.length + zs.length ≤ sizeLine ∧ ∀ p, H p = none → Q (.ref p) (upd H p (.lst (xs ++ zs)))
theorem op_catS {X : Cx} : OpR X (binaryOp .Add) (rCatS X.K) := by
  intro pins s σ H x y v u Q I rx ry h
  obtain ⟨l, b, xs, zs, rfl, rfl, hH, hB, hz, q⟩ := h
  cases rx
  cases ry
  obtain ⟨its, r, ⟨⟨cls, dd, data, sl⟩, n, e, hc, hdd, hd⟩, z1⟩ := I.list hH
  obtain ⟨its2, r2, ⟨⟨cls2, dd2, data2, sl2⟩, n2, e2, hc2, hdd2, hd2⟩, z2⟩ := I.list hB
  simp only at hc hd hc2 hd2
  subst hc hd hc2 hd2
  have l1 := r.length
  have l2 := r2.length
  refine concat_meets ⟨_, e, rfl⟩ ⟨_, e2, rfl⟩ noFill_list_add seq_list_add PySem.F.slot_list_add PySem.F.entry_list_add (PySem.F.args_list_add_2 _ _) (PyProof.Rows.list_addW l b its.toArray its2.toArray n n2 dd dd2 sl sl2 (by rw [List.size_toArray, List.size_toArray]; omega)) ⟨e, e2, ?_⟩
  have ea : its.toArray ++ its2.toArray = (its ++ its2).toArray := by simp
  rw [ea]
  exact ⟨.ref _, _, I.lnew (t' := s.toks) (r.append r2) (by rw [List.length_append]; omega), rfl, q _ I.fresh⟩
section
variable {Y : Cy} {T : Tx} {k : Nat} {N G : List Str} {c : List Slot} {a b e : Expr} {es : List Expr} {pos : Pos} {d d1 d2 : D} {ds es' xs ys : List D} {P : Out → Prop} {rest : List Stmt}
theorem ev_catL (ha : EvD Y a c (.lst xs)) (hb : EvD Y b c (.lst ys)) (hz : xs.length + ys.length ≤ 1000000 := by first | exact of_decide_eq_true rfl | (simp; done)) : EvD Y (.BinOp a .Add b pos) c (.lst (xs ++ ys)) :=
  ev_op2 (t := tC .non) (ta := tC .non) (tb := tC .non) (pe_op op_catS ha hb) fun x y F H Q f rx ry q => by
    obtain ⟨p1, vs, rfl, h1, r1⟩ := inv_lst rx
    obtain ⟨p2, ws, rfl, h2, r2⟩ := inv_lst ry
    exact ⟨p1, p2, vs, ws, rfl, rfl, f.seq h1, f.seq h2, by rw [r1.length, r2.length]; exact small_le hz, fun p hp => q (.ref p) _ _ (Ext.new f hp (.lst (vs ++ ws))) (.lst (SqL.of upd_same) ((r1.append r2).mono (Ext.new f hp _).ff))⟩
/-- flat things -/
def flatD : D → Bool
  | .non | .bl _ | .int _ | .str _ => true
  | _ => false
def toV : D → V
  | .non => .non | .bl b => .bl b | .int i => .int i | .str x => .str x | _ => .non
def inD (d : D) (ds : List D) : Bool := inV (toV d) (ds.map toV)
/-- a constant of the module: a tuple of ints -/
def CstT (T : Tx) (x : Str) (l : List Int) : Prop := ∃ a, T.mg x = some (.ref a) ∧ ∃ (o : Obj) (its : Array Value) (n : Nat), T.K.lookup a = some o ∧ o.cls = .type "tuple" ∧ o.data = .seq its n ∧ its.size ≤ sizeLine ∧ Vals (l.map V.int) its.toList
theorem ev_cstT (S : Sn Y T N G) (gi : Nat) {x : Str} {l : List Int} (h : CstT T x l) (hg : G[gi]? = some x := by rfl) : EvD Y (.Name x pos) c (.tup (l.map D.int)) := by
  obtain ⟨a, hm, o, its, n, h1, h2, h3, h4, h5⟩ := h
  have gl := S.gl x (List.mem_of_getElem? hg)
  refine PE.imp (pe_glob (v := .ref a) gl.1 (by rw [S.eM]; exact hm) rfl gl.2.1) fun σ H Q ⟨F, E, q⟩ => q _ F H (Ext.refl E.fh) (.tup (.inr ⟨o, its, n, by rw [S.eK]; exact h1, h2, h3, h4, h5⟩) (Reps.ints l))
end
end DL
namespace DL
open PySem L2
theorem bt_ValueError : bootBuiltins "ValueError" = some (.type "ValueError") := by decide +kernel
/-- which of the twelve classes take a refusal -/
def onlyL (i : Int) : List D := (List.range 12).map fun k => .bl (inD (.int (k : Nat)) [.int 0, .int 1, .int i])
end DL
namespace DL
open PySem L2
/-! ### defs that may refuse: where they don't; with a default -/
theorem FnX.toD {T : Tx} {k : Nat} {x : Str} {R : List D → Rs → Prop} {R' : List D → D → Prop} (h : FnX T k x R) (i : ∀ ds d, R' ds d → R ds (.ok d)) : FnD T k x R' := by
  obtain ⟨f, fd, ps, hm, hk, hb, F⟩ := h.ex
  have conv : ∀ {vs : List V} {H : Hp} {Q : VK} {E : XK}, spD T.K R' vs H Q E → spX T R vs H Q E0 := fun {vs H Q E} ⟨F0, ds, d, f0, r, hR, q⟩ => ⟨F0, ds, .ok d, f0, r, i ds d hR, q⟩
  refine ⟨f, fd, ps, hm, hk, hb, ⟨fun vs H Q E z => F.len vs H Q E0 (conv z), fun A outer s H args us vs Q E hr he hb hv hs => ?_⟩⟩
  refine codeAny_mono (F.run A outer s H args us vs Q E0 hr he hb hv (conv hs)) fun r s' hq => ?_
  cases r with
  | error e => obtain ⟨_, _, _, _, _, z⟩ := hq; exact z.elim
  | ok fl => cases fl <;> exact hq
structure FnXd (T : Tx) (k : Nat) (x : Str) (i : Int) (R : List D → Rs → Prop) : Prop where
  ex : ∃ (f : Addr) (fd : FuncData) (ps : List Str) (tk : Tok), T.mg x = some (.ref f) ∧ PySem.W.keepIn T.K (.ref f) = true ∧ Binds T.K fd ps [.int i tk] ∧ FnOk T.prog T.w T.K T.mg T.base (CXE T.prog T.w) k f fd ps (spX T R)
theorem FnXd.toD {T : Tx} {k : Nat} {x : Str} {j : Int} {R : List D → Rs → Prop} {R' : List D → D → Prop} (h : FnXd T k x j R) (i : ∀ ds d, R' ds d → R ds (.ok d)) : FnDd T k x j R' := by
  obtain ⟨f, fd, ps, tk, hm, hk, hb, F⟩ := h.ex
  have conv : ∀ {vs : List V} {H : Hp} {Q : VK} {E : XK}, spD T.K R' vs H Q E → spX T R vs H Q E0 := fun {vs H Q E} ⟨F0, ds, d, f0, r, hR, q⟩ => ⟨F0, ds, .ok d, f0, r, i ds d hR, q⟩
  refine ⟨f, fd, ps, tk, hm, hk, hb, ⟨fun vs H Q E z => F.len vs H Q E0 (conv z), fun A outer s H args us vs Q E hr he hb hv hs => ?_⟩⟩
  refine codeAny_mono (F.run A outer s H args us vs Q E0 hr he hb hv (conv hs)) fun r s' hq => ?_
  cases r with
  | error e => obtain ⟨_, _, _, _, _, z⟩ := hq; exact z.elim
  | ok fl => cases fl <;> exact hq
end DL

set_option Elab.async false
set_option linter.all false
set_option maxRecDepth 100000
namespace DL
open PySem PySem.Spec PyProof.Rows L2
section
variable {Y : Cy} {T : Tx} {k j : Nat} {N G : List Str} {c : List Slot} {e : Expr} {es : List Expr} {x y : Str} {pos p : Pos}
/-- isinstance with a tuple of our own classes -/
theorem vals_rfsT : ∀ {Cs : List Addr} {its : List Value}, Vals (Cs.map V.ref) its → its = Cs.map Value.ref
  | [], its, h => by cases h; rfl
  | a :: Cs, its, h => by
    cases h with
    | cons h1 h2 =>
      rw [vals_rfsT h2, show _ = Value.ref a from h1]
      rfl
theorem isi_excT {C : Addr} {dx : Option Addr} {Cs : List Addr} {v : Bool} (Z : ExcK T.K C) (eK : Y.X.K = T.K) (e2 : PySem.W.kitAny T.K (.ref C) (Cs.map Value.ref) = some v) :
    CallR Y.X (.builtin "isinstance") (fun xs H Q => ∃ a b, xs = [.ref a, .ref b] ∧ H a = some (.ext (ExcAt C dx a)) ∧ H b = some (.tup (Cs.map V.ref)) ∧ Q (.bl v) H) := by
  intro pins s σ H xs us Q I r h
  obtain ⟨a, b, rfl, hH, hb, q⟩ := h
  obtain ⟨u, w', rfl, r1, r2⟩ := vals2 r
  cases (show u = Value.ref a from r1)
  cases (show w' = Value.ref b from r2)
  have ok : ObjOk Y.X.prog Y.X.w H s.heap a (.ext (ExcAt C dx a)) := I.hok a _ hH
  obtain ⟨_, its, r3, ob, g1, g2, n, g3⟩ := (show ObjOk Y.X.prog Y.X.w H s.heap b (.tup (Cs.map V.ref)) from I.hok b _ hb)
  have Z' : ExcK Y.X.K C := by rw [eK]; exact Z
  cases vals_rfsT r3
  obtain ⟨oc, od, oda, os⟩ := ob
  cases g2
  cases g3
  exact PySem.W.kia_tup (kitx_exc Z') I.kIn ok.1 g1 (by rw [eK]; exact e2) (fun z => nomatch z) fun tk => ⟨.bl v, H, I.tok tk, rfl, q⟩
/-- names of our own classes -/
def GlA (Y : Cy) (es : List Expr) (Cs : List Addr) : Prop := ∃ t : TA, PA Y.X es t ∧ ∀ σ H (Q : List V → Hp → Prop), Q (Cs.map V.ref) H → t σ H Q
theorem gla_nil : GlA Y [] [] := ⟨tNil, pa_nil, fun _ _ _ q => q⟩
theorem gla_cons (S : Sn Y T N G) (gj : Nat) {C' : Addr} {Cs : List Addr} {pn : Pos} (hm2 : T.mg y = some (.ref C')) (h : GlA Y es Cs) (hg : G[gj]? = some y := by rfl)
    (hst : starEach (.Name y pn :: es) Y.X.env = (false, eval (.Name y pn) Y.X.env) :: starEach es Y.X.env := by rfl) : GlA Y (.Name y pn :: es) (C' :: Cs) := by
  obtain ⟨t, h1, h2⟩ := h
  have gl2 := S.gl _ (List.mem_of_getElem? hg)
  exact ⟨_, pa_cons (pe_glob (v := .ref C') gl2.1 (by rw [S.eM]; exact hm2) rfl gl2.2.1) h1 hst, fun σ H Q q => h2 σ H _ q⟩
theorem any_nil {K : PySem.W.Frag} {t : Value} : PySem.W.kitAny K t (([] : List Addr).map Value.ref) = some false := rfl
theorem any_f {K : PySem.W.Frag} {t : Value} {C : Addr} {Cs : List Addr} {v : Bool} (h : PySem.W.kitOne K t (.ref C) = some false) (r : PySem.W.kitAny K t (Cs.map Value.ref) = some v) : PySem.W.kitAny K t ((C :: Cs).map Value.ref) = some v := by
  show PySem.W.kitAny K t (.ref C :: Cs.map Value.ref) = some v
  unfold PySem.W.kitAny
  rw [h]
  exact r
theorem ev_isXT (S : Sn Y T N G) (i gi : Nat) {z : Str} {C : Addr} {dx : Option Addr} {Cs : List Addr} {v : Bool} {pz pt : Pos} {x1} (hs : slot c i = .exc C dx) (Z : ExcK T.K C) (h : GlA Y es Cs) (hl : Cs.length ≤ 1000) (e2 : PySem.W.kitAny T.K (.ref C) (Cs.map Value.ref) = some v) (hm : T.mg "isinstance" = none)
    (hi : N[i]? = some z := by rfl) (hg : G[gi]? = some ("isinstance" : Str) := by rfl)
    (hst : starEach [.Name z pz, .Tuple es x1 pt] Y.X.env = (false, eval (.Name z pz) Y.X.env) :: starEach [.Tuple es x1 pt] Y.X.env := by rfl) (hst2 : starEach [.Tuple es x1 pt] Y.X.env = (false, eval (.Tuple es x1 pt) Y.X.env) :: starEach [] Y.X.env := by rfl) :
    EvD Y (.Call (.Name "isinstance" p) [.Name z pz, .Tuple es x1 pt] [] pos) c (.bl v) := by
  have gl := S.gl _ (List.mem_of_getElem? hg)
  obtain ⟨t, h1, h2⟩ := h
  refine PE.imp (pe_callB (isi_excT (dx := dx) Z S.eK e2) gl.1 (by rw [S.eM]; exact hm) bt_isinstance (pa_cons (pe_exc S i hi hs) (pa_cons (pe_tup h1) pa_nil hst2) hst) gl.2.2 gl.2.1 hst rfl) fun σ H Q ⟨F, E, q⟩ => ⟨F, E, fun a ha => ?_⟩
  refine h2 σ H _ ⟨by rw [List.length_map]; exact small_le (by omega), fun b hb => ?_⟩
  have ne : a ≠ b := fun w => by rw [w, hb] at ha; cases ha
  exact ⟨a, b, rfl, by rw [upd_ne ne]; exact ha, upd_same, q _ _ _ (Ext.new E.fh hb (.tup _)) (.bl v)⟩
/-- an if without an else, the ways behind it in one -/
def Jn (J : List Slot → Prop) (P : Out → Prop) : Out → Prop
  | .nx c => J c
  | o => P o
theorem ss_ifJ {t : Expr} {sa rest : List Stmt} {v : Bool} {P : Out → Prop} (J : List Slot → Prop) (ht : TeD Y t c v) (ha : v = true → SsD Y sa c (Jn J P)) (hb : v = false → J c) (hr : ∀ c', J c' → SsD Y rest c' P) : SsD Y (.If t sa [] pos :: rest) c P := by
  refine ss_if ht (fun h => PSs.imp (ha h) fun D σ H ⟨F, E, m⟩ => ⟨F, E, fun o ho => m o ?_⟩) (fun h => ss_nil (hr c (hb h)))
  cases o with
  | nx c' => exact hr c' ho
  | rt d => exact ho
  | bk c' => exact ho
  | ct c' => exact ho
  | ro ds => exact ho
  | rs R => exact ho
end
end DL

set_option Elab.async false
set_option linter.all false
set_option maxRecDepth 100000
namespace DL
open PySem L2
section
variable {Y : Cy} {T : Tx} {k j : Nat} {N G : List Str} {c c' c'' : List Slot} {a b e tg : Expr} {es : List Expr} {pos p : Pos} {rest : List Stmt} {P : Out → Prop} {d d1 d2 d3 : D} {ds : List D} {R : List D → D → Prop} {x : Str}
/-- any target = value -/
theorem ss_asg (he : EvD Y e c d) (hg : TgD Y tg d c c') (hr : SsD Y rest c' P) (hs : swapsWithSole [tg] e pos.line Y.X.env = pure false := by rfl) (hw : swappedStores [tg] e Y.X.env = pure none := by rfl)
    (h1 : (assignEach [tg] Y.X.env).map (·.2) = [assign tg Y.X.env] := by rfl) : SsD Y (.Assign [tg] e pos :: rest) c P := by
  refine ss_cons (PS.imp (ps_asg he hg hs hw h1) fun D σ H ⟨F, E, m⟩ => ⟨F, E, fun v F' H' e' r' => ?_⟩)
  exact ⟨F', E.grow e', r', fun σ2 F2 H2 e2 E2 => m (.nx c') hr σ2 F2 H2 (e'.trans e2).ff E2⟩
end

section
variable {Y : Cy} {T : Tx} {k j : Nat} {N G : List Str} {c c' c'' : List Slot} {a b e tg : Expr} {es : List Expr} {pos p : Pos} {rest : List Stmt} {P : Out → Prop} {d d1 d2 d3 : D} {ds : List D} {R : List D → D → Prop} {x : Str}
/-! targets in a row -/
def tGs (Y : Cy) (ds : List D) (c c' : List Slot) : TGs := fun vs σ H Q => ∃ F, EnvY Y F H σ c ∧ Reps Y.X.K F vs ds ∧ ∀ σ' F' H', Ext F H F' H' → EnvY Y F' H' σ' c' → Q σ' H'
def TgsD (Y : Cy) (es : List Expr) (ds : List D) (c c' : List Slot) : Prop := PGs Y.X es (tGs Y ds c c')
theorem PGs.imp {X : Cx} {t t' : TGs} (h : PGs X es t) (i : ∀ vs σ H Q, t' vs σ H Q → t vs σ H Q) : PGs X es t' := fun pins s σ H vs us Q I r q => h pins s σ H vs us Q I r (i _ _ _ _ q)
theorem tgs_nil : TgsD Y [] [] c c := PGs.imp pgs_nil fun vs σ H Q ⟨F, E, r, q⟩ => by
  cases r
  exact ⟨rfl, q σ F H (Ext.refl E.fh) E⟩
theorem tgs_cons (h1 : TgD Y e d c c') (h2 : TgsD Y es ds c' c'') (hs : (assignEach (e :: es) Y.X.env).map (·.2) = assign e Y.X.env :: (assignEach es Y.X.env).map (·.2) := by rfl) : TgsD Y (e :: es) (d :: ds) c c'' :=
  PGs.imp (pgs_cons h1 h2 hs) fun vs σ H Q ⟨F, E, r, q⟩ => by
    cases r with
    | cons r rr => exact ⟨_, _, rfl, F, E, r, fun σ' F' H' x E' => ⟨F', E', rr.mono x.ff, fun σ2 F2 H2 x2 E2 => q σ2 F2 H2 (x.trans x2) E2⟩⟩
/-- a, b, .. = a tuple -/
theorem tg_tupN (hc : Y.X.calm = true) {kt : Nat} (h : TgsD Y es ds c c') (hn : (assignEach es Y.X.env).length = ds.length := by rfl) (hst : (assignEach es Y.X.env).findIdx? (·.1) = none := by rfl) : TgD Y (.Tuple es kt pos) (.tup ds) c c' :=
  PG.imp (pg_tup hc h hn hst) fun v σ H Q ⟨F, E, r, q⟩ => by
    obtain ⟨a, vs, rfl, hp, rs⟩ := inv_tup r
    exact ⟨a, vs, rfl, sqT_same E.fh hp, rs.length, F, E, rs, q⟩
/-! a list taken apart -/
def gLst (K : PySem.W.Frag) (n : Nat) (t : TGs) : TG := fun v σ H Q => ∃ a xs, v = .ref a ∧ SqL K H a xs ∧ xs.length = n ∧ t xs σ H Q
/-! a, b = x, y -/
theorem swap_at {env : PySem.Env} {sc : Scope} {ts : List Expr} {v : Expr} {r : Sem (Option (List Str))} (h : env.scope = sc) (hs : ∀ env : PySem.Env, swappedStores ts v { env with scope := sc } = r) : swappedStores ts v env = r := by
  subst h
  exact hs env
theorem ss_par (S : Sc Y T k N G) (i j : Nat) {x y : Str} {px py pt pt2 : Pos} {kt k2 : Nat} (ha : ArD Y [a, b] c [d1, d2]) (hx : Y.X.env.scope.names.lookup x = some .local) (hy : Y.X.env.scope.names.lookup y = some .local)
    (hw : swappedStores [.Tuple [.Name x px, .Name y py] kt pt] (.Tuple [a, b] k2 pt2) Y.X.env = pure (some [x, y])) (hr : SsD Y rest (put (put c i (.val d1)) j (.val d2)) P) (hij : i ≠ j := by decide) (hi : N[i]? = some x := by rfl) (hj : N[j]? = some y := by rfl)
    (hlt : i < c.length := by first | exact of_decide_eq_true rfl | decide | omega) (hlt2 : j < c.length := by first | exact of_decide_eq_true rfl | decide | omega)
    (hs : swapsWithSole [.Tuple [.Name x px, .Name y py] kt pt] (.Tuple [a, b] k2 pt2) pos.line Y.X.env = pure false := by rfl) : SsD Y (.Assign [.Tuple [.Name x px, .Name y py] kt pt] (.Tuple [a, b] k2 pt2) pos :: rest) c P := by
  have hN := S.nd
  rw [← S.n] at hi hj hN
  refine ss_cons (PS.imp (ps_par S.calm hN hi hj hij hx hy ha hw hs) fun D σ H ⟨F, E, m⟩ => ⟨F, E, fun vs F' H' e' r' => ?_⟩)
  obtain ⟨v1, v2, rfl, r1, r2⟩ := inv2 r'
  exact ⟨v1, v2, rfl, m (.nx _) hr _ F' H' e'.ff (((E.grow e').set hlt r1).set (by rw [put_length]; exact hlt2) r2)⟩
/-! a list comprehension without a test -/
theorem ev_lto {xs ys : List D} (h : EvD Y e c (.lst xs)) (he : xs = ys) : EvD Y e c (.lst ys) := he ▸ h
theorem star_T {env : PySem.Env} {es' : List Expr} {x1 : Nat} {p1 : Pos} : starEach (.Tuple es' x1 p1 :: es) env = (false, eval (.Tuple es' x1 p1) env) :: starEach es env := by rfl
/-- a written tuple among others -/
theorem ar_consT {es' : List Expr} {x1 : Nat} {p1 : Pos} (ha : EvD Y (.Tuple es' x1 p1) c d) (hr : ArD Y es c ds) : ArD Y (.Tuple es' x1 p1 :: es) c (d :: ds) := ar_cons ha hr star_T
/-! tuple(list) -/
/-! min(list) -/
theorem best_min (val : Nat → Int) : ∀ (l : List Int) (x : Int), (∀ i, i < (x :: l).length → val i = (x :: l).getD i 0) → ∀ m, m < (x :: l).length → val (argBest (fun i j => decide (val i < val j)) m) = ((x :: l).take (m + 1)).tail.foldl min x
  | l, x, h, 0, _ => by rw [h _ (by simp [argBest])]; rfl
  | l, x, h, m + 1, hm => by
    have ih := best_min val l x h m (by omega)
    have hm' : m < l.length := by simpa using hm
    have e : ((x :: l).take (m + 1 + 1)).tail = ((x :: l).take (m + 1)).tail ++ [l[m]] := by
      show l.take (m + 1) = l.take m ++ [l[m]]
      rw [List.take_succ, List.getElem?_eq_getElem hm']
      rfl
    have hv : val (m + 1) = l[m] := by rw [h _ hm]; simp [hm']
    rw [e, List.foldl_append, ← ih]
    show val (if decide (val (m + 1) < val (argBest _ m)) = true then m + 1 else argBest _ m) = min (val (argBest _ m)) l[m]
    rw [← hv]
    split
    · rename_i q; have : val (m + 1) < val (argBest (fun i j => decide (val i < val j)) m) := by simpa using q
      omega
    · rename_i q; have : ¬ val (m + 1) < val (argBest (fun i j => decide (val i < val j)) m) := by simpa using q
      omega
theorem call_minL {X : Cx} (hh : X.A.handled = none) : CallR X (.builtin "min") (fun xs H Q => ∃ (p : Addr) (x : Int) (l : List Int), xs = [.ref p] ∧ SqL X.K H p ((x :: l).map V.int) ∧ Q (.int (l.foldl min x)) H) := by
  intro pins s σ H xs us Q I r h
  obtain ⟨p, x, l, rfl, hp, q⟩ := h
  obtain ⟨u, rfl, ru⟩ := vals1 r
  cases (show u = Value.ref p from ru)
  obtain ⟨its, rv, pl, hz⟩ := I.list hp
  have hlt : p < s.heap.objs.size := by obtain ⟨o, n, e, _⟩ := pl; exact Heap.lt_size e
  have hl := rv.length
  have hval : ∀ i v, its.toArray[i]? = some v → ∃ t, v = Value.int ((x :: l).getD i 0) t := fun i v hv => by
    have hv : its[i]? = some v := by simpa using hv
    have hi : i < (x :: l).length := by
      have := (List.getElem?_eq_some_iff.mp hv).1
      rw [← hl, List.length_map] at this; exact this
    obtain ⟨u', hu', r'⟩ := rv.get (i := i) (x := .int (x :: l)[i]) (by rw [List.getElem?_map, List.getElem?_eq_getElem hi]; rfl)
    rw [hv] at hu'
    cases hu'
    obtain ⟨t, rfl⟩ := r'
    exact ⟨t, by rw [List.getD_eq_getElem?_getD, List.getElem?_eq_getElem hi]; rfl⟩
  have hn : its.toArray.size = (x :: l).length := by rw [List.size_toArray, ← hl, List.length_map]
  refine call_min_walk (wpAny_pyIter_list pl.isList ?_)
  refine ⟨s.heap.objs.size, _, _, _, _, _, _, rfl, Walks.list (prog := X.prog) (w := X.w) (A := X.A.in1) hh s.heap.objs.size p (Nat.ne_of_lt hlt) its.toArray, ⟨⟨_, Heap.get?_push_size _ rfl, rfl, rfl⟩, pl.isList.push _⟩, fun b hb => ?_, by rw [hn]; simp, CmpOf.ints_lt (fun i => (x :: l).getD i 0) hval, fun v h' tk hv hk => ?_⟩
  · have hb' : b = s.heap.objs.size ∨ b = p := by simpa using hb
    have hz : (s.heap.push { cls := .type "list_iterator", data := .fields #[.ref p, .int 0 0] }).objs.size = s.heap.objs.size + 1 := Heap.size_push ..
    show b < (s.heap.push _).objs.size
    rw [hz]
    rcases hb' with rfl | rfl
    · exact Nat.lt_succ_self _
    · exact Nat.lt_succ_of_lt hlt
  · obtain ⟨t, rfl⟩ := hval _ v hv
    have e := best_min (fun i => (x :: l).getD i 0) l x (fun _ _ => rfl) (its.toArray.size - 1) (by rw [hn]; simp)
    have e2 : ((x :: l).take (its.toArray.size - 1 + 1)).tail = l := by rw [hn]; simp
    rw [e2] at e
    refine ⟨.int _, H, I.kept (t' := tk) fun b o z => ?_, ⟨t, rfl⟩, ?_⟩
    · refine hk b o ?_ (Heap.get?_push_of_some _ z)
      have := Heap.lt_size z
      simp; exact Nat.ne_of_lt this
    · have e' : (x :: l).getD (argBest (fun i j => decide ((x :: l).getD i 0 < (x :: l).getD j 0)) (its.toArray.size - 1)) 0 = l.foldl min x := e
      rw [e']
      exact q
theorem reps_int {K : PySem.W.Frag} {F : Hp} : ∀ {vs : List V} {l : List Int}, Reps K F vs (l.map D.int) → vs = l.map V.int
  | _, [], r => by cases r; rfl
  | _, b :: bs, r => by
    cases r with
    | cons h t => rw [inv_int h, reps_int t]; rfl
theorem ev_minL (S : Se Y T k N G) (gi : Nat) {i : Int} {l : List Int} {p : Pos} (ha : ArD Y [e] c [.lst ((i :: l).map D.int)]) (hm : T.mg "min" = none) (hg : G[gi]? = some ("min" : Str) := by rfl) (he : starEach [e] Y.X.env = (false, eval e Y.X.env) :: starEach [] Y.X.env := by rfl) : EvD Y (.Call (.Name "min" p) [e] [] pos) c (.int (l.foldl min i)) :=
  ev_callB S gi (call_minL S.room.hd) hg hm bt_min ha (fun vs F H Q f r q => by
    obtain ⟨v, rfl, rv⟩ := inv1 r
    obtain ⟨p, ws, rfl, hp, rs⟩ := inv_lst rv
    have := reps_int rs
    subst this
    exact ⟨p, i, l, rfl, f.seq hp, q _ F H (Ext.refl f) (.int _)⟩) he rfl
/-! all -/
end
end DL

set_option Elab.async false
set_option linter.all false
set_option maxRecDepth 100000
namespace DL
open PySem
section
variable {prog : Program} {w : World} {A : Around} {E : Value → Shared → Prop} {s : Shared}
/-- the zip at z, ready: its two iterators i1 and i2 stand in the pair at U, what it handed out in the pair at V -/
structure ZipT (g : Heap) (z U V i1 i2 t1 t2 : Addr) (k : Nat) (f : Value) : Prop where
  zz : IsZip g z U V f
  uu : IsPair g U (.ref i1) (.ref i2)
  vv : ∃ a b, IsPair g V a b
  j1 : g.IsTupleIter i1 t1 k
  j2 : g.IsTupleIter i2 t2 k
/-- five places, all apart -/
structure Five (z U V i1 i2 : Addr) : Prop where
  uz : U ≠ z
  vz : V ≠ z
  az : i1 ≠ z
  bz : i2 ≠ z
  uv : U ≠ V
  ua : U ≠ i1
  ub : U ≠ i2
  va : V ≠ i1
  vb : V ≠ i2
  ab : i1 ≠ i2
abbrev zq1 (g : Heap) (t1 : Addr) : Heap := g.push { cls := .type "tuple_iterator", data := .fields #[.ref t1, .int 0 0] }
abbrev zq2 (g : Heap) (t1 t2 : Addr) : Heap := (zq1 g t1).push { cls := .type "tuple_iterator", data := .fields #[.ref t2, .int 0 0] }
abbrev zq3 (g : Heap) (t1 t2 : Addr) : Heap := (zq2 g t1 t2).push { cls := .type "tuple", data := .seq #[.ref g.objs.size, .ref (zq1 g t1).objs.size] }
abbrev zq4 (g : Heap) (t1 t2 : Addr) : Heap := (zq3 g t1 t2).push { cls := .type "tuple", data := .seq #[.none, .none] }
abbrev zq5 (g : Heap) (t1 t2 : Addr) : Heap := (zq4 g t1 t2).push { cls := .type "zip", data := .fields #[.none, .bool false, .bool false, .ref (zq2 g t1 t2).objs.size, .ref (zq3 g t1 t2).objs.size] }
end
end DL

namespace DL
open PySem L2
/-- the pairs of two tuples -/
def Itz (K : PySem.W.Frag) (a b : Addr) : It :=
  ⟨fun i H => ∃ xs ys x y, SqT K H a xs ∧ SqT K H b ys ∧ xs[i]? = some x ∧ ys[i]? = some y, fun i H v H' => ∃ p x y, H p = none ∧ v = .ref p ∧ H' = upd H p (.tup [x, y]) ∧ ∀ xs ys, SqT K H a xs → SqT K H b ys → xs[i]? = some x ∧ ys[i]? = some y, fun i H => ∃ xs, SqT K H a xs ∧ xs.length ≤ i⟩
def iZip (K : PySem.W.Frag) (ta : TA) : TI := fun σ H R => ta σ H fun vs H1 => ∃ a b, vs = [.ref a, .ref b] ∧ (∃ xs, SqT K H1 a xs) ∧ (∃ ys, SqT K H1 b ys) ∧ R (Itz K a b) H1
section
variable {Y : Cy} {T : Tx} {k : Nat} {N G : List Str} {c : List Slot} {a b : Expr} {pos : Pos} {xs ys : List D}
end
end DL

set_option Elab.async false
set_option linter.all false
set_option maxRecDepth 100000
namespace DL
open PySem L2
/-! lists of our own, that are written -/
section
variable {K : PySem.W.Frag} {F₀ H₀ F H : Hp} {σ : St} {c : List Slot} {i : Nat} {a p : Addr} {vs : List V} {ds : List D}
theorem none_of {F H : Hp} {p : Addr} (s : Same F H) (h : H p = none) : F p = none := by
  cases q : F p with
  | none => rfl
  | some o => rw [s p o q] at h; cases h
end
section
variable {Y : Cy} {T : Tx} {k : Nat} {N G : List Str} {c : List Slot} {a b e : Expr} {es : List Expr} {pos p1 p2 p3 : Pos} {rest : List Stmt} {P : Out → Prop} {d : D} {ds : List D} {x : Str}
/-- e makes a new list -/
def OwD (Y : Cy) (e : Expr) (c : List Slot) (ds : List D) : Prop := PE Y.X e fun σ H Q => ∃ F, EnvY Y F H σ c ∧ ∀ vs F1 H1 p, Ext F H F1 H1 → Reps Y.X.K F1 vs ds → H1 p = none → Q (.ref p) (upd H1 p (.lst vs))
/-! max(list), sum(list) -/
end
end DL

set_option Elab.async false
set_option linter.all false
set_option maxRecDepth 100000
namespace DL
open PySem L2
section
variable {Y : Cy} {T : Tx} {k : Nat} {N G : List Str} {c : List Slot} {tg iter elt : Expr} {ifs : List Expr} {pos p1 p2 : Pos} {rest : List Stmt} {P : Out → Prop} {ds items : List D} {x : Str} {tn fs G' : List Str} {ix : List Nat} {scope osc : Scope}
theorem swapC_at {env : PySem.Env} {sc : Scope} {v : Expr} {t : Option Expr} {n : Nat} {r : Sem Bool} (h : env.scope = sc) (hs : ∀ env : PySem.Env, swapsWith v t n { env with scope := sc } = r) : swapsWith v t n env = r := by
  subst h
  exact hs env
/-- x = [.. for ..]: the list is stored ahead of the comprehension's own names' end -/
theorem ss_setC (S : Sc Y T k N G) (i : Nat) (hsc : Y.X.env.scope = osc) (B : CmB N tn fs ix G' scope osc) (hi : ItD Y tg iter c items)
    (rs : List (Option D)) (hlen : rs.length = items.length) (hz : rs.length ≤ 100000)
    (turn : ∀ (Y' : Cy) (S' : Se Y' T k (tn ++ fs) G'), (∀ x ∈ tn, Y'.X.env.scope.names.lookup x = some .local) → ∀ (m : Nat) (d : D) (r : Option D), items[m]? = some d → rs[m]? = some r → ∀ ts : List Slot, ts.length = tn.length →
      ∃ ts' : List Slot, ts'.length = tn.length ∧ ts'.all (fun s => !isOwn s) = true ∧ TgD Y' tg d (ts ++ ix.map fun i => capS (slot c i)) (ts' ++ ix.map fun i => capS (slot c i)) ∧ (match r with
        | some e => TsD Y' ifs (ts' ++ ix.map fun i => capS (slot c i)) true ∧ EvD Y' elt (ts' ++ ix.map fun i => capS (slot c i)) e
        | none => TsD Y' ifs (ts' ++ ix.map fun i => capS (slot c i)) false))
    (hw : swapsWith (.ListComp elt [⟨tg, iter, ifs, 0⟩] scope p2) (some (.Name x p1)) pos.line Y.X.env = pure true)
    (hr : SsD Y rest (put c i (.val (.lst (rs.filterMap id)))) P)
    (hs : ∀ x, foldedSetIterable iter Y.X.env x = pure x := by intro _; rfl) (hix : N[i]? = some x := by rfl) (hlt : i < c.length := by first | exact of_decide_eq_true rfl | decide | omega) :
    SsD Y (.Assign [.Name x p1] (.ListComp elt [⟨tg, iter, ifs, 0⟩] scope p2) pos :: rest) c P := by
  have hx := S.loc x (List.mem_of_getElem? hix)
  have hN := S.nd
  rw [← S.n] at hix hN
  refine ss_cons fun pins s σ H D I ⟨F, E, m⟩ => ?_
  rw [exec_Assign_Name_used _ _ _ _ hw]
  refine wpAny_bind (wpAny_standAt (wpAny_bind ?_))
  rw [arm_evalThenUse_ListComp]
  refine wpAny_bind (wpAny_mono (comp_core (pos := p2) S.toSe hsc B hi rs hlen hz turn hs I E (use := some (assign (.Name x p1) Y.X.env)) (Qv := fun _ s3 => SP Y.X pins D .next s3) (fun D' C s' mm F' H' hn fp hI ex r => ?_)) (fun _ s3 q => wpAny_pure (wpAny_pure q)) fun _ _ q => q)
  have I1 : Inv Y.X pins σ H' s' := hI s'.heap (Heap.SameBut.refl ..)
  obtain ⟨o, es, ep, ho, r'⟩ := id hn
  have I2 : Inv Y.X (pins ++ [(C, o)]) σ H' s' := I1.pins_of fun q hq => by
    rcases List.mem_append.mp hq with hq | hq
    · have := I1.pin q (List.mem_append_right _ hq)
      exact this
    · have : q = (C, o) := by simpa using hq
      subst this
      exact ⟨ho, fp.1, fp.2.1, fp.2.2.1, fun v z => by rw [r'.1] at z; cases z⟩
  show wpAny _ _ (do standAt p1; bindName Y.X.env x (.ref D')) _ _ s'
  refine wpAny_bind (wpAny_standAt (wpAny_bindName (store_ok I2 hN hix hx.1 (show RelV (.ref D') (.ref D') from rfl) (fun s2 I3 => ?_) (.inl (S.fn x)))))
  have hp := I3.pin (C, o) (by simp)
  refine ⟨mm, ⟨o, es, ep, hp.1, r'⟩, fun h' hs' => ?_⟩
  have I3' : Inv Y.X pins (σ.set i (some (.ref D'))) H' s2 := I3.pins_of fun q hq => I3.pin q (List.mem_append_right _ (List.mem_append_left _ hq))
  have I4 : Inv Y.X pins (σ.set i (some (.ref D'))) H' { s2 with heap := h' } := I3'.turned (it := C) (t' := s2.toks) (fun b o hb e => (hs'.2 b hb).trans e) fp.1 fp.2.1 fp.2.2.2.1 fp.2.2.2.2.1 fp.2.2.2.2.2
  exact ⟨_, H', I4, m (.nx _) hr _ F' H' ex.ff ((E.grow ex).set hlt r)⟩
/-- .. without a test -/
theorem ss_setCM (S : Sc Y T k N G) (i : Nat) (hsc : Y.X.env.scope = osc) (B : CmB N tn fs ix G' scope osc) (hi : ItD Y tg iter c items)
    (hlen : ds.length = items.length) (hz : ds.length ≤ 100000)
    (turn : ∀ (Y' : Cy) (S' : Se Y' T k (tn ++ fs) G'), (∀ x ∈ tn, Y'.X.env.scope.names.lookup x = some .local) → ∀ (m : Nat) (d r : D), items[m]? = some d → ds[m]? = some r → ∀ ts : List Slot, ts.length = tn.length →
      ∃ ts' : List Slot, ts'.length = tn.length ∧ ts'.all (fun s => !isOwn s) = true ∧ TgD Y' tg d (ts ++ ix.map fun i => capS (slot c i)) (ts' ++ ix.map fun i => capS (slot c i)) ∧ EvD Y' elt (ts' ++ ix.map fun i => capS (slot c i)) r)
    (hw : swapsWith (.ListComp elt [⟨tg, iter, [], 0⟩] scope p2) (some (.Name x p1)) pos.line Y.X.env = pure true)
    (hr : SsD Y rest (put c i (.val (.lst ds))) P)
    (hs : ∀ x, foldedSetIterable iter Y.X.env x = pure x := by intro _; rfl) (hix : N[i]? = some x := by rfl) (hlt : i < c.length := by first | exact of_decide_eq_true rfl | decide | omega) :
    SsD Y (.Assign [.Name x p1] (.ListComp elt [⟨tg, iter, [], 0⟩] scope p2) pos :: rest) c P := by
  have e : (ds.map some).filterMap id = ds := by rw [List.filterMap_map]; simp
  refine ss_setC S i hsc B hi (ds.map some) (by rw [List.length_map]; exact hlen) (by rw [List.length_map]; exact hz) (fun Y' S' hl m d r hd hr ts hts => ?_) hw (by rw [e]; exact hr) hs hix hlt
  rw [List.getElem?_map] at hr
  cases hq : ds[m]? with
  | none => rw [hq] at hr; cases hr
  | some q =>
    rw [hq] at hr
    cases hr
    obtain ⟨ts', h1, h2, h3, h4⟩ := turn Y' S' hl m d q hd hq ts hts
    exact ⟨ts', h1, h2, h3, rfl, h4⟩
end
end DL

set_option Elab.async false
set_option linter.all false
set_option maxRecDepth 100000
namespace DL
open PySem L2
/-! ### sorted(list of whole numbers) -/
section
variable {Y : Cy} {T : Tx} {k : Nat} {N G : List Str} {c : List Slot} {e : Expr} {pos : Pos}
end
end DL

set_option Elab.async false
set_option linter.all false
set_option maxRecDepth 100000
namespace DMX
open PySem PySem.Spec PyProof.Rows L2
section
open PySem.SeqAt
open PySem.AutoSeq1 (wpAny_loadPart')
open PySem.MeetsSeq PySem.MeetsSeq2 PySem.MeetsSeq3
end
end DMX
namespace DL
open PySem L2
/-! ### max of a list of tuples (whole number, thing): two of them have unlike first numbers, or are alike -/
/-- what lay there lies there -/
def Up (h₀ h : Heap) : Prop := ∀ b o, h₀.get? b = some o → h.get? b = some o
theorem Up.step {h₀ h h' : Heap} {wr : List Addr} (k : Up h₀ h) (fw : ∀ b ∈ wr, h₀.get? b = none) (m : ∀ b o, b ∉ wr → h.get? b = some o → h'.get? b = some o) : Up h₀ h' := fun b o e => m b o (fun z => by rw [fw b z] at e; cases e) (k b o e)
theorem Up.upd {h₀ h : Heap} {S : Addr} {f : Obj → Obj} (k : Up h₀ h) (fS : h₀.get? S = none) : Up h₀ (h.update S f) := fun b o e => by
  have ne : S ≠ b := fun z => by rw [z, e] at fS; cases fS
  exact (Heap.get?_update_other _ _ ne).trans (k b o e)
/-- a comparison that reads what lay there -/
def CmpUp (prog : Program) (w : World) (A : Around) (P : Nat → Value → Prop) (bt : Nat → Nat → Bool) (h₀ : Heap) : Prop :=
  ∀ (i j : Nat) (x y : Value) (z : Shared) (Q : Value → Shared → Prop) (E : Value → Shared → Prop), Up h₀ z.heap → P i x → P j y → Q (.bool (bt i j)) z → wpAny (model prog w) A (richCompare .Gt x y) Q E z
section
variable {prog : Program} {w : World} {A : Around} {R : Result → Shared → Prop} {it S : Addr} {fp wr : List Addr} {n : Nat} {P : Nat → Value → Prop} {St : Nat → Heap → Prop} {bt : Nat → Nat → Bool} {h₀ : Heap}
end
abbrev pairD (s : Int × D) : D := .tup [.int s.1, s.2]
def bestP (l : List (Int × D)) : Nat → Nat → Bool := fun i j => decide ((l.getD i (0, .non)).1 > (l.getD j (0, .non)).1)
section
variable {Y : Cy} {T : Tx} {k : Nat} {N G : List Str} {c : List Slot} {e : Expr} {pos : Pos}
end
end DL

set_option Elab.async false
set_option linter.all false
set_option maxRecDepth 100000
namespace DL
open PySem L2
/-! ### texts -/
def tx (l : List Nat) : Str := ⟨l.toArray⟩
section
variable {Y : Cy} {T : Tx} {k : Nat} {N G : List Str} {c : List Slot} {a b e : Expr} {es : List Expr} {pos p2 : Pos} {d d1 d2 : D} {ds : List D} {x y : Str} {P : Out → Prop} {rest : List Stmt}
theorem te_neS (ha : EvD Y a c (.str x)) (hb : EvD Y b c (.str y)) : TeD Y (.Compare a [.NotEq] [b] pos) c (!(x == y)) :=
  te_cmp op_ne (nomark _) ha hb fun u v F H Q f rx ry q => by
    rw [inv_str rx, inv_str ry]
    refine ⟨rfl, ?_⟩
    rw [dec_str]
    exact q F H (Ext.refl f)
/-! f-strings -/
inductive FvK | int (i : Int) | str (x : Str) | rep (x : Str)
def fvS : FvK → Str
  | .int i => toString i
  | .str x => x
  | .rep x => reprText x
/-- a field of an f-string -/
def FvD (Y : Cy) (e : Expr) (c : List Slot) (x : Str) : Prop := EvD Y e c (.str x)
theorem fv_int {i : Int} (h : EvD Y e c (.int i)) (hz : i.natAbs.log2 < 1920) : EvD Y (.FormattedValue e (-1) none pos) c (.str (toString i)) := by
  intro pins s σ H Q I ⟨F, E, q⟩
  refine wpAny_FormattedValue_plain (thn (h pins s σ H (fun v H1 => v = .int i ∧ ∃ F1, Ext F H F1 H1) I ⟨F, E, fun v F1 H1 e1 r1 => ⟨inv_int r1, F1, e1⟩⟩) fun u s1 ⟨v, H1, I1, r1, ev, F1, e1⟩ => ?_)
  subst ev
  obtain ⟨t, rfl⟩ := r1
  exact wpAny_formatField_int hz ⟨.str _, H1, I1.tok _, ⟨_, rfl⟩, q _ F1 H1 e1 (.str _)⟩
/-- the parts of an f-string, from the left -/
def JsD (Y : Cy) (es : List Expr) (c : List Slot) (acc z : Str) : Prop := ∀ (pins : List (Addr × Obj)) (s : Shared) (σ : St) (F H : Hp) (Q : Str → Shared → Prop), Inv Y.X pins σ H s → EnvY Y F H σ c →
  (∀ s' F' H', Ext F H F' H' → Inv Y.X pins σ H' s' → Q z s') → Joins (model Y.X.prog Y.X.w) Y.X.A Y.X.xe (evalEach es Y.X.env) acc Q s
theorem js_nil {acc : Str} : JsD Y [] c acc acc := fun pins s σ F H Q I E q => q s F H (Ext.refl E.fh) I
theorem js_cons {acc z : Str} (h : EvD Y e c (.str x)) (hz : (acc ++ x).length ≤ 1000000) (hr : JsD Y es c (acc ++ x) z) (he : evalEach (e :: es) Y.X.env = eval e Y.X.env :: evalEach es Y.X.env := by rfl) : JsD Y (e :: es) c acc z := by
  intro pins s σ F H Q I E q
  rw [he]
  refine thn (h pins s σ H (fun v H1 => v = .str x ∧ ∃ F1, Ext F H F1 H1) I ⟨F, E, fun v F1 H1 e1 r1 => ⟨inv_str r1, F1, e1⟩⟩) fun u s1 ⟨v, H1, I1, r1, ev, F1, e1⟩ => ?_
  subst ev
  obtain ⟨t, rfl⟩ := r1
  exact ⟨x, t, rfl, small_le hz, hr pins s1 σ F1 H1 Q I1 (E.grow e1) fun s' F' H' e' I' => q s' F' H' (e1.trans e') I'⟩
theorem ev_js {z : Str} {e1 e2 : Expr} (h : JsD Y (e1 :: e2 :: es) c Str.empty z) (hz : z.length ≤ 1000000) : EvD Y (.JoinedStr (e1 :: e2 :: es) pos) c (.str z) := by
  intro pins s σ H Q I ⟨F, E, q⟩
  exact wpAny_JoinedStr (h pins s σ F H _ I E fun s' F' H' e' I' => ⟨small_le hz, .str z, H', I'.tok _, ⟨_, rfl⟩, q _ F' H' e' (.str _)⟩)
end
end DL

set_option Elab.async false
set_option linter.all false
set_option maxRecDepth 100000
namespace DL
open PySem L2
/-! ### n.bit_length() -/
def bits (a : Int) : Nat := Builtin.Int.intBits a
section
variable {Y : Cy} {c : List Slot} {a : Expr} {pos apos : Pos}
end
end DL

set_option Elab.async false
set_option linter.all false
set_option maxRecDepth 100000
/-! ### sorted(list of spots): the order is told by the spots alone -/
namespace DGX
open PySem PySem.Spec PySem.W PyProof.Rows
/-- how a sort goes if the answers are these -/
def runP {α : Type} (lt : Nat → Nat → Bool) : KasT α → α
  | .ret a => a
  | .ask i j k => runP lt (k (lt i j))
def AskOk {α : Type} (n : Nat) : KasT α → (α → Prop) → Prop
  | .ret a, R => R a
  | .ask i j k, R => i < n ∧ j < n ∧ ∀ b, AskOk n (k b) R
def Gd (n : Nat) (p : Array Nat) : Prop := p.Perm (List.toArray (List.range n))
section
variable {n : Nat} {p : Array Nat}
theorem Gd.lt (h : Gd n p) (n0 : 0 < n) (x : Nat) : p.getD x 0 < n := by
  by_cases hx : x < p.size
  · have e : p.getD x 0 = p[x] := by simp [Array.getD, hx]
    have m : p[x] ∈ List.toArray (List.range n) := h.mem_iff.mp (Array.getElem_mem hx)
    rw [e]
    simpa using m
  · have e : p.getD x 0 = 0 := by simp [Array.getD, hx]
    omega
end
/-- the places in their order -/
def ord (n : Nat) (lt : Nat → Nat → Bool) : List Nat := (runP lt (kas_sort n)).toList
/-- but for one place -/
def But (a : Addr) (h h' : Heap) : Prop := ∀ b o, b ≠ a → h.get? b = some o → h'.get? b = some o
section
variable {prog : Program} {w : World} {A : Around} {E : Value → Shared → Prop} {s : Shared}
end
end DGX

set_option Elab.async false
set_option linter.all false
set_option maxRecDepth 100000
namespace DL
open PySem L2
/-! ### a def that hands back a list of its own -/
def spO (K : PySem.W.Frag) (R : List D → List D → Prop) : Sp := fun vs H Q _ => ∃ F ds l, Same F H ∧ Reps K F vs ds ∧ R ds l ∧ ∀ ws F' H' p, Ext F H F' H' → Reps K F' ws l → H' p = none → Q (.ref p) (upd H' p (.lst ws))
structure FnO (T : Tx) (k : Nat) (x : Str) (R : List D → List D → Prop) : Prop where
  ex : ∃ (f : Addr) (fd : FuncData) (ps : List Str), T.mg x = some (.ref f) ∧ PySem.W.keepIn T.K (.ref f) = true ∧ Binds T.K fd ps [] ∧ FnOk T.prog T.w T.K T.mg T.base CX0 k f fd ps (spO T.K R)
def RetO (l : List D) : Out → Prop
  | .ro e => e = l
  | _ => False
section
variable {Y : Cy} {T : Tx} {k j : Nat} {N G ps : List Str} {c : List Slot} {e : Expr} {es : List Expr} {pos p : Pos} {d : D} {ds l : List D} {R : List D → List D → Prop} {x qual : Str} {P : Out → Prop} {rest : List Stmt}
theorem ow_call (S : Se Y T k N G) (gi : Nat) (Fn : FnO T j x R) (hj : j ≤ k) (ha : ArD Y (e :: es) c ds) (hR : R ds l) (hg : G[gi]? = some x := by rfl)
    (he : starEach (e :: es) Y.X.env = (false, eval e Y.X.env) :: starEach es Y.X.env := by rfl) (hpl : (backTo pos (starEach es Y.X.env)).any (·.1) = false := by rfl) : OwD Y (.Call (.Name x p) (e :: es) [] pos) c l := by
  obtain ⟨f, fd, ps, hm, hk, hb, F⟩ := Fn.ex
  have F' : FnOk Y.X.prog Y.X.w Y.X.K Y.X.mg Y.X.base CX0 j f fd ps (spO Y.X.K R) := by rw [S.eP, S.eW, S.eK, S.eM, S.eB]; exact F
  have gl := S.gl x (List.mem_of_getElem? hg)
  refine PE.imp (pe_call F' (S.room.mono hj) gl.1 (by rw [S.eM]; exact hm) (by rw [S.eK]; exact hk) (by rw [S.eK]; exact hb) .nil pass0 ha gl.2.1 he hpl) fun σ H Q ⟨F, E, q⟩ => ⟨F, E, fun vs F1 H1 e1 r1 => ?_⟩
  show spO Y.X.K R (vs ++ []) H1 Q E0
  rw [List.append_nil]
  exact ⟨F1, ds, l, e1.fh, r1, hR, fun ws F2 H2 p e2 r2 hn => q ws F2 H2 p (e1.trans e2) r2 hn⟩
theorem ss_retO (h : OwD Y e c ds) (hp : P (.ro ds)) : SsD Y (.Return (some e) pos :: rest) c P :=
  ss_cons (PS.imp (ps_ret h) fun D σ H ⟨F, E, m⟩ => ⟨F, E, fun vs F1 H1 p x r hn => m (.ro ds) hp vs F1 H1 p x.ff (E.ext.trans x) r hn⟩)
theorem fn_O {st : Stmt} (A : At T x st) (B : ScB N ps G (defScope st)) (hb : ∀ f fd, Fun T.K x x st f fd → Binds T.K fd ps []) (hlen : ∀ ds l, R ds l → ds.length = ps.length)
    (body : ∀ (Y : Cy) (S : Sc Y T k N G) (Z : Fx Y st) (ds l : List D), R ds l → SsD Y (defBody st) (ctx0 N ds) (RetO l)) : FnO T (k + 1) x R := by
  obtain ⟨f, fd, F, hm⟩ := A
  refine ⟨f, fd, ps, hm, F.kp, hb f fd F, ?_⟩
  refine F.ok B.fs (fun vs H Q E h => ?_) fun cdv A outer s H vs Q E hr h => ?_
  · obtain ⟨F0, ds, l, _, r, hR, _⟩ := h
    rw [r.length]; exact hlen ds l hR
  · obtain ⟨F0, ds, l, f0, r, hR, q⟩ := h
    have S : Sc ⟨(cxOf CX0 T.prog T.w T.K T.mg T.base N x (defScope st) f cdv A outer s H E).nox, F0, H⟩ T k N G :=
      ⟨⟨⟨rfl, rfl, rfl, rfl, rfl, rfl, B.fs.nd, B.loc, B.gl⟩, rfl, hr⟩, fun _ => rfl, PassesOwn.never⟩
    refine ⟨_, body _ S ⟨rfl, rfl, rfl, rfl⟩ ds l hR, F0, env_start f0 r, fun o ho => ?_⟩
    cases o with
    | ro e => cases ho; exact fun vs F' H' p _ x r' hn => q vs F' H' p x r' hn
    | rt e => exact False.elim ho
    | nx c => exact False.elim ho
    | bk c => exact False.elim ho
    | ct c => exact False.elim ho
    | rs R => exact False.elim ho
/-- a new list, never written -/
theorem ev_ow (h : OwD Y e c ds) : EvD Y e c (.lst ds) := PE.imp h fun σ H Q ⟨F, E, q⟩ => ⟨F, E, fun vs F1 H1 p e1 r1 hn => by
  have x := Ext.new e1.fh hn (.lst vs)
  exact q (.ref p) _ _ (e1.trans x) (.lst (SqL.of upd_same) (r1.mono x.ff))⟩
end
/-! ### sorted(list of (whole number, (whole number, whole number))) -/
abbrev triD (t : Int × Int × Int) : D := .tup [.int t.1, .tup [.int t.2.1, .int t.2.2]]
def triLt (s t : Int × Int × Int) : Bool := if s.1 = t.1 then (if s.2 = t.2 then false else HT.lexLt [s.2.1, s.2.2] [t.2.1, t.2.2]) else decide (s.1 < t.1)
def triO (l : List (Int × Int × Int)) : List Nat := DGX.ord l.length fun i j => triLt (l.getD i (0, 0, 0)) (l.getD j (0, 0, 0))
def triS (l : List (Int × Int × Int)) : List (Int × Int × Int) := (triO l).map fun i => l.getD i (0, 0, 0)
/-- where a spot lies -/
structure TriAt (h : Heap) (u : Value) (t : Int × Int × Int) (a b : Addr) (t1 t2 t3 : Tok) : Prop where
  u : u = .ref a
  ta : PyProof.Rows.IsTup h a #[.int t.1 t1, .ref b]
  tb : PyProof.Rows.IsTup h b #[.int t.2.1 t2, .int t.2.2 t3]
  rd : ∃ as, Reads h (.ref b) (toPy (.tup [.int t.2.1, .int t.2.2])) as
theorem TriAt.up {h h' : Heap} {u : Value} {t : Int × Int × Int} {a b : Addr} {t1 t2 t3 : Tok} (x : TriAt h u t a b t1 t2 t3) (k : ∀ b o, h.get? b = some o → h'.get? b = some o) : TriAt h' u t a b t1 t2 t3 := by
  have tu : ∀ {a : Addr} {its : Array Value}, PyProof.Rows.IsTup h a its → PyProof.Rows.IsTup h' a its := fun {a its} h => by
    obtain ⟨o, e1, e2, e3⟩ := h
    exact ⟨o, k _ _ e1, e2, e3⟩
  obtain ⟨as, r⟩ := x.rd
  exact ⟨x.u, tu x.ta, tu x.tb, as, PyProof.Rows.Reads.keeps k r⟩
section
variable {X : Cx} {pins : List (Addr × Obj)} {σ : St} {F H : Hp} {s : Shared}
end
end DL

set_option Elab.async false
set_option linter.all false
set_option maxRecDepth 100000
/-! ### list(reversed(list)) -/
namespace DBX
open PySem PySem.Spec PyProof.Rows
open Sem (wp)
section
variable {prog : Program} {w : World} {A : Around} {E : Value → Shared → Prop} {s : Shared}
/-- what the loop lays down -/
def RevOf (items : Array Value) (acc : Array Value) : Prop := ItemsOf (fun i v => items[items.size - 1 - i]? = some v) acc items.size
end
end DBX
namespace DL
open PySem L2
section
variable {Y : Cy} {T : Tx} {k : Nat} {N G : List Str} {c : List Slot} {e a b b' tg : Expr} {pos p1 p2 p3 : Pos} {d : D} {ds : List D} {P : Out → Prop} {rest : List Stmt} {x : Str}
theorem ow_catL {xs ys : List D} (ha : EvD Y a c (.lst xs)) (hb : EvD Y b c (.lst ys)) (hz : xs.length + ys.length ≤ 1000000) : OwD Y (.BinOp a .Add b pos) c (xs ++ ys) :=
  PE.imp (pe_op op_catS ha hb) fun σ H Q ⟨F, E, q⟩ => ⟨F, E, fun x F1 H1 e1 r1 => ⟨F1, E.grow e1, fun y F2 H2 e2 r2 => by
    obtain ⟨l, vs, rfl, hl, rl⟩ := inv_lst (r1.mono e2.ff)
    obtain ⟨b, ws, rfl, hb', rb⟩ := inv_lst r2
    refine ⟨l, b, vs, ws, rfl, rfl, e2.fh.seq hl, e2.fh.seq hb', ?_, fun p hp => q _ F2 H2 p (e1.trans e2) (rl.append rb) hp⟩
    rw [rl.length, rb.length]
    exact small_le hz⟩⟩
theorem down_small {a b : Int} (h1 : -(2 ^ 61) ≤ a) (h2 : a < 2 ^ 61) (h3 : -(2 ^ 61) ≤ b) (h4 : b < 2 ^ 61) : Builtin.Range.small a b (-1) = true := by
  unfold Builtin.Range.small Builtin.Range.rangeSize
  simp only [Builtin.Range.rangeFitsLong, Bool.and_eq_true, Bool.or_eq_true, decide_eq_true_eq, beq_iff_eq]
  simp
  omega
theorem rangeN_down (i j : Int) : rangeN i j (-1) = (i - j).toNat := by
  unfold rangeN Builtin.Range.rangeSize
  simp
  split <;> omega
/-- range(i, j, -1) -/
theorem it_rangeD (S : Se Y T k N G) (gi : Nat) {i j : Int} {p : Pos} (ha : ArD Y [a, b, b'] c [.int i, .int j, .int (-1)]) (h0 : -(2 ^ 61) ≤ i ∧ i < 2 ^ 61 ∧ -(2 ^ 61) ≤ j ∧ j < 2 ^ 61) (hm : T.mg "range" = none) (hg : G[gi]? = some ("range" : Str) := by rfl)
    (hs : starEach [a, b, b'] Y.X.env = (false, eval a Y.X.env) :: starEach [b, b'] Y.X.env := by rfl) (hs2 : (backTo pos (starEach [b, b'] Y.X.env)).any (·.1) = false := by rfl) : ItD Y tg (.Call (.Name "range" p) [a, b, b'] [] pos) c (rangeD i (-1) (i - j).toNat) := by
  intro pins s σ H R I ⟨F, E, q⟩
  have hgl := (S.gl _ (List.mem_of_getElem? hg)).1
  refine PyProof.Rows.Call_ (ld_blt I hgl (by rw [S.eM]; exact hm) PyProof.Rows.boot_range (PyProof.Rows.callWith_type1 (thn (ha pos pins s σ H (fun vs H1 => ∃ F1, Ext F H F1 H1 ∧ vs = [V.int i, V.int j, V.int (-1)]) I ⟨F, E, fun vs F1 H1 e1 r1 => ⟨F1, e1, by
    obtain ⟨v, w, x, rfl, rv, rw', rx⟩ := inv3 r1
    rw [inv_int rv, inv_int rw', inv_int rx]⟩⟩) fun us s1 ⟨vs, H1, I1, r1, F1, e1, ev⟩ => ?_) hs hs2))
  subst ev
  obtain ⟨u1, us1, rfl, ⟨t1, rfl⟩, r2⟩ : ∃ u us1, us = u :: us1 ∧ RelV (.int i) u ∧ Vals [.int j, .int (-1)] us1 := by cases r1 with | cons a t => exact ⟨_, _, rfl, a, t⟩
  obtain ⟨u2, u3, rfl, ⟨t2, rfl⟩, ⟨t3, rfl⟩⟩ := vals2 r2
  refine PySem.call_range_3 (by omega) ?_ (.inl (PyProof.noPylong_small (by omega)))
  refine wpAny_pyIter_range (IsRange.new ..) (down_small h0.1 h0.2.1 h0.2.2.1 h0.2.2.2) ?_
  have I2 : Inv Y.X pins σ H1 { s1 with heap := s1.heap.push { cls := .type "range", data := .fields #[.int i t1, .int j t2, .int (-1) t3] }, toks := s1.toks } := I1.kept fun b o e => Heap.get?_push_of_some _ e
  rw [← rangeN_down i j] at q
  refine ⟨(s1.heap.push { cls := .type "range", data := .fields #[.int i t1, .int j t2, .int (-1) t3] }).objs.size, [(s1.heap.push { cls := .type "range", data := .fields #[.int i t1, .int j t2, .int (-1) t3] }).objs.size], _, _, H1, rfl,
    I2.kept (t' := s1.toks) fun b o e => Heap.get?_push_of_some _ e, turn_ranges _ i (-1) (rangeN i j (-1)), ?_, fun b hb => ?_, q _ F1 H1 e1 (yields_ranges i (-1) _)⟩
  · have e1 : i + ((0 : Nat) : Int) * (-1) = i := by simp
    have e2 : ((rangeN i j (-1) : Nat) : Int) - ((0 : Nat) : Int) = Builtin.Range.rangeSize i j (-1) := by
      unfold rangeN
      have nn : 0 ≤ Builtin.Range.rangeSize i j (-1) := by
        unfold Builtin.Range.rangeSize
        simp
        split <;> omega
      omega
    show IsRangeIter _ _ (i + ((0 : Nat) : Int) * (-1)) (((rangeN i j (-1) : Nat) : Int) - ((0 : Nat) : Int)) (-1)
    rw [e1, e2]
    exact Heap.get?_push_size _ rfl
  · have e : b = (s1.heap.push { cls := .type "range", data := .fields #[.int i t1, .int j t2, .int (-1) t3] }).objs.size := by simpa using hb
    subst e
    exact I2.fpOk (Nat.le_refl _) (I2.hok.fresh (Nat.le_refl _))
end
end DL

set_option Elab.async false
set_option linter.all false
set_option maxRecDepth 100000
namespace DL
open PySem L2
/-! ### x in a list of tuples, max of three whole numbers -/
section
variable {Y : Cy} {T : Tx} {k : Nat} {N G : List Str} {c : List Slot} {a b : Expr} {pos : Pos} {d : D} {ds : List D}
def rInL (K : PySem.W.Frag) (d : D) (ds : List D) (v : Bool) : R2 := fun x y H Q => ∃ F, Same F H ∧ Rep K F x d ∧ Rep K F y (.lst ds) ∧ Q (.bl v) H
end
end DL

set_option Elab.async false
set_option linter.all false
set_option maxRecDepth 100000
namespace DL
open PySem L2
/-! ### enumerate of a list that lies still -/
def Ite (K : PySem.W.Frag) (a : Addr) : It :=
  ⟨fun i H => ∃ xs x, SqL K H a xs ∧ xs[i]? = some x, fun i H v H' => ∃ p x, H p = none ∧ v = .ref p ∧ H' = upd H p (.tup [.int (i : Int), x]) ∧ ∀ xs, SqL K H a xs → xs[i]? = some x, fun i H => ∃ xs, SqL K H a xs ∧ xs.length ≤ i⟩
structure EnumT (g : Heap) (e it a : Addr) (i : Nat) : Prop where
  ee : ∃ old, IsEnum g e it i old
  ii : g.IsListIter it a i
def iEnum (K : PySem.W.Frag) (ta : TA) : TI := fun σ H R => ta σ H fun vs H1 => ∃ a, vs = [.ref a] ∧ (∃ xs, SqL K H1 a xs) ∧ R (Ite K a) H1
section
variable {Y : Cy} {T : Tx} {k : Nat} {N G : List Str} {c : List Slot} {a : Expr} {pos : Pos} {xs : List D}
end
/-! ### any(list of truths), l[i:j] -/
section
variable {Y : Cy} {T : Tx} {k : Nat} {N G : List Str} {c : List Slot} {e a b b2 : Expr} {pos p2 : Pos} {ds : List D}
def cutD32 (ds : List D) (i j : Int) : List D := (ds.drop (HT.sIx ds.length 0 (some i))).take (HT.sIx ds.length ds.length (some j) - HT.sIx ds.length 0 (some i))
end
end DL

set_option Elab.async false
set_option linter.all false
set_option maxRecDepth 100000
namespace DL
open PySem L2
/-! ### zip of two lists -/
structure ZipL (g : Heap) (z U V i1 i2 l1 l2 : Addr) (k : Nat) (f : Value) : Prop where
  zz : IsZip g z U V f
  uu : IsPair g U (.ref i1) (.ref i2)
  vv : ∃ a b, IsPair g V a b
  j1 : g.IsListIter i1 l1 k
  j2 : g.IsListIter i2 l2 k
def Itzl (K : PySem.W.Frag) (a b : Addr) : It :=
  ⟨fun i H => ∃ xs ys x y, SqL K H a xs ∧ SqL K H b ys ∧ xs[i]? = some x ∧ ys[i]? = some y, fun i H v H' => ∃ p x y, H p = none ∧ v = .ref p ∧ H' = upd H p (.tup [x, y]) ∧ ∀ xs ys, SqL K H a xs → SqL K H b ys → xs[i]? = some x ∧ ys[i]? = some y, fun i H => ∃ xs ys, SqL K H a xs ∧ SqL K H b ys ∧ (xs.length ≤ i ∨ ys.length ≤ i)⟩
def iZipL (K : PySem.W.Frag) (ta : TA) : TI := fun σ H R => ta σ H fun vs H1 => ∃ a b, vs = [.ref a, .ref b] ∧ (∃ xs, SqL K H1 a xs) ∧ (∃ ys, SqL K H1 b ys) ∧ R (Itzl K a b) H1
section
variable {Y : Cy} {T : Tx} {k : Nat} {N G : List Str} {c : List Slot} {a b : Expr} {pos p2 : Pos} {xs ys ds : List D} {d : D}
/-! ### l[::n] -/
def pickJ (n : Nat) (st : Int) : List Nat := sliceRange (sliceBounds none none (some st) n).1 (sliceBounds none none (some st) n).2.1 (sliceBounds none none (some st) n).2.2
def stepD (ds : List D) (st : Int) : List D := (pickJ ds.length st).filterMap (ds[·]?)
/-! ### x not in a list of tuples -/
end
end DL

set_option Elab.async false
set_option linter.all false
set_option maxRecDepth 100000
namespace DL
open PySem L2
/-! dicts of our own, their keys whole numbers -/
/-- what stands at j -/
def dAt (kvs : List (Int × D)) (j : Int) : Option D := (kvs.find? fun q => decide (q.1 = j)).map (·.2)
section
variable {K : PySem.W.Frag} {F₀ H₀ F H : Hp} {σ : St} {c : List Slot} {i : Nat} {a p : Addr} {kv : List (Key × V)} {kvs : List (Int × D)}
end
section
variable {Y : Cy} {T : Tx} {k : Nat} {N G : List Str} {c : List Slot} {a b e : Expr} {es : List Expr} {pos p1 p2 p3 : Pos} {rest : List Stmt} {P : Out → Prop} {d : D} {kvs : List (Int × D)} {x : Str}
end
end DL

set_option Elab.async false
set_option linter.all false
set_option maxRecDepth 100000
namespace DL
open PySem L2
/-! ### a def that hands back a tuple of a whole number and two new lists -/
/-- on top of H1 a tuple of x and two new lists -/
def Tri (x : Int) (l1 l2 : List D) : PySem.W.Frag → Hp → Hp → V → Hp → Prop := fun K F H1 v H => ∃ (p a b : Addr) (ws1 ws2 : List V), v = .ref p ∧ H1 p = none ∧ H1 a = none ∧ H1 b = none ∧ a ≠ b ∧ p ≠ a ∧ p ≠ b ∧
  Reps K F ws1 l1 ∧ Reps K F ws2 l2 ∧ H = upd (upd (upd H1 a (.lst ws1)) b (.lst ws2)) p (.tup [.int x, .ref a, .ref b])
def spG (K : PySem.W.Frag) (R : List D → (PySem.W.Frag → Hp → Hp → V → Hp → Prop) → Prop) : Sp := fun vs H Q _ => ∃ F ds r, Same F H ∧ Reps K F vs ds ∧ R ds r ∧ ∀ v F' H1 H', Ext F H F' H1 → r K F' H1 v H' → Q v H'
structure FnG (T : Tx) (k : Nat) (x : Str) (R : List D → (PySem.W.Frag → Hp → Hp → V → Hp → Prop) → Prop) : Prop where
  ex : ∃ (f : Addr) (fd : FuncData) (ps : List Str), T.mg x = some (.ref f) ∧ PySem.W.keepIn T.K (.ref f) = true ∧ Binds T.K fd ps [] ∧ FnOk T.prog T.w T.K T.mg T.base CX0 k f fd ps (spG T.K R)
def RetG (r : PySem.W.Frag → Hp → Hp → V → Hp → Prop) : Out → Prop
  | .rs e => e = r
  | _ => False
section
variable {Y : Cy} {T : Tx} {k j : Nat} {N G ps : List Str} {c : List Slot} {e e1 e2 e3 : Expr} {es : List Expr} {pos p : Pos} {d : D} {ds l l1 l2 : List D} {R : List D → (PySem.W.Frag → Hp → Hp → V → Hp → Prop) → Prop} {r : PySem.W.Frag → Hp → Hp → V → Hp → Prop} {x qual : Str} {P : Out → Prop} {rest : List Stmt}
/-- e's value is laid as r tells -/
def GwD (Y : Cy) (e : Expr) (c : List Slot) (r : PySem.W.Frag → Hp → Hp → V → Hp → Prop) : Prop := PE Y.X e fun σ H Q => ∃ F, EnvY Y F H σ c ∧ ∀ v F1 H1 H2, Ext F H F1 H1 → r Y.X.K F1 H1 v H2 → Q v H2
/-- a tuple with two lists of our own is at hand -/
structure At3 (Y : Cy) (i : Nat) (c : List Slot) (F H : Hp) (σ : St) (p a b : Addr) (x : Int) (ws1 ws2 : List V) : Prop where
  E : EnvY Y F H σ (put c i .un)
  s : σ[i]? = some (some (.ref p))
  hp : H p = some (.tup [.int x, .ref a, .ref b])
  ha : H a = some (.lst ws1)
  hb : H b = some (.lst ws2)
  fp : F p = none
  fa : F a = none
  fb : F b = none
  op : Y.H0 p = none
  oa : Y.H0 a = none
  ob : Y.H0 b = none
  ab : a ≠ b
  pa : p ≠ a
  pb : p ≠ b
theorem At3.write {i : Nat} {F H : Hp} {σ : St} {p a b z : Addr} {x : Int} {ws1 ws2 ws ws' : List V} (hno : ∀ j, isOwn (slot c j) = false) (A : EnvY Y F H σ (put c i .un)) (hz : H z = some (.lst ws)) (fz : F z = none) (oz : Y.H0 z = none) : EnvY Y F (upd H z (.lst ws')) σ (put c i .un) := by
  refine ⟨⟨A.ext.ff, fun b u q => by rw [upd_ne (ne_of_none q fz)]; exact A.ext.fh b u q, fun b u q => by rw [upd_ne (ne_of_none q oz)]; exact A.ext.hh b u q, A.ext.fr⟩, A.len, fun j => ?_, A.inj⟩
  have q := A.sl j
  have hn : isOwn (slot (put c i .un) j) = false := by
    by_cases e : i = j
    · subst e
      by_cases hl : i < c.length
      · rw [slot_put _ _ _ hl]; rfl
      · have : ∀ (c : List Slot) (i : Nat), ¬ i < c.length → slot (put c i .un) i = .un := by
          intro c
          induction c with
          | nil => intro i _; rfl
          | cons s r ih => intro i hi; cases i with
            | zero => rfl
            | succ n => exact ih n (by simpa using hi)
        rw [this c i hl]; rfl
    · rw [slot_put_ne _ _ _ _ e]; exact hno j
  generalize slot (put c i .un) j = sl at q hn ⊢
  cases sl with
  | un => trivial
  | val d => exact q
  | own ds => cases hn
  | dic ds => cases hn
  | thg ds => cases hn
  | bor t => exact q
  | exc C dx =>
    obtain ⟨w, h, g1⟩ := q
    have hw : w ≠ z := fun e => by rw [e, hz] at g1; cases g1
    exact ⟨w, h, by rw [upd_ne hw]; exact g1⟩
/-- all but a -/
def wo (H : Hp) (a : Addr) : Hp := fun z => if z = a then none else H z
theorem wo_at (H : Hp) (a : Addr) : wo H a a = none := if_pos rfl
theorem wo_ne {H : Hp} {a z : Addr} (h : z ≠ a) : wo H a z = H z := if_neg h
theorem Ext.wo {F0 H0 F H : Hp} {a : Addr} (x : Ext F0 H0 F H) (fa : F a = none) (ha : H0 a = none) : Ext F0 H0 F (wo H a) :=
  ⟨x.ff, fun b u q => by rw [wo_ne (fun z => by rw [z, fa] at q; cases q)]; exact x.fh b u q, fun b u q => by rw [wo_ne (fun z => by rw [z, ha] at q; cases q)]; exact x.hh b u q, x.fr⟩
/-- on top of H1 a new dict -/
def DicR (kvs : List (Int × D)) : PySem.W.Frag → Hp → Hp → V → Hp → Prop := fun K F H1 v H => ∃ (p : Addr) (kv : List (Key × V)), v = .ref p ∧ H1 p = none ∧ DRep K F kv kvs ∧ H = upd H1 p (.dK kv)
end
end DL

set_option linter.all false
namespace STB
open PySem
/-! ### the walk i, 5 i + 1, .. goes through all slots -/
def aa : Nat → Nat
  | 0 => 0
  | n + 1 => 5 * aa n + 1
theorem five (n : Nat) : 5 ^ n = 4 * aa n + 1 := by
  induction n with
  | zero => rfl
  | succ n ih => rw [Nat.pow_succ, ih]; show _ = 4 * (5 * aa n + 1) + 1; omega
def wk (M i : Nat) : Nat → Nat
  | 0 => i
  | n + 1 => (5 * wk M i n + 1) % M
/-! ### the leaps -/
def lp (mask i q : Nat) : Nat → Nat × Nat
  | 0 => (i, q)
  | n + 1 => SetTable.leap mask (lp mask i q n).1 (lp mask i q n).2
/-! ### a clean table is laid -/
structure OwnerOk (mask : Nat) (owner : Array (Option Nat)) (ps : List Nat) : Prop where
  sz : owner.size = mask + 1
  nd : ps.Nodup
  le : ∀ x ∈ ps, x ≤ mask
  at' : ∀ j, j ≤ mask → (j ∈ ps → ∃ i, owner[j]? = some (some i) ∧ i < ps.length) ∧ (j ∉ ps → owner[j]? = some none)
theorem subLen : ∀ (l m : List Nat), l.Nodup → (∀ x ∈ l, x ∈ m) → l.length ≤ m.length := by
  intro l
  induction l with
  | nil => intro m _ _; exact Nat.zero_le _
  | cons x l ih =>
    intro m nd hs
    rw [List.nodup_cons] at nd
    have hx := hs x (List.mem_cons_self)
    have := ih (m.erase x) nd.2 fun y hy => by
      have hm := hs y (List.mem_cons_of_mem _ hy)
      have ne : y ≠ x := fun z => nd.1 (z ▸ hy)
      exact (List.mem_erase_of_ne ne).mpr hm
    rw [List.length_erase_of_mem hx] at this
    have : 0 < m.length := List.length_pos_of_mem hx
    rw [List.length_cons]
    omega
theorem room {mask : Nat} {ps : List Nat} (h : ps.length ≤ mask) : ∃ e, e ≤ mask ∧ e ∉ ps := by
  apply Classical.byContradiction
  intro no
  have := subLen (List.range (mask + 1)) ps List.nodup_range fun x hx => by
    apply Classical.byContradiction
    intro q
    exact no ⟨x, by have := List.mem_range.mp hx; omega, q⟩
  rw [List.length_range] at this
  omega
abbrev layF (mask : Nat) : Option (Array (Option Nat) × Nat) → Int → Option (Array (Option Nat) × Nat) := fun acc h => do
  let __x ← acc
  match __x with
    | (owner, k) => do
      let j ← SetTable.layClean.free mask owner (SetTable.turns mask) (SetTable.bits h % (mask + 1)) (SetTable.bits h)
      pure (owner.setIfInBounds j (some k), k + 1)
/-- a table is sound: slots in rising order, none gone -/
structure Tab (t : SetTable) (n : Nat) : Prop where
  pow : ∃ k, 3 ≤ k ∧ t.mask + 1 = 2 ^ k
  dm : t.dummies = #[]
  sz : t.place.size = n
  up : List.Pairwise (· < ·) t.place.toList
  le : ∀ x ∈ t.place.toList, x ≤ t.mask
/-- and not too full -/
structure Good (t : SetTable) (n : Nat) : Prop extends Tab t n where
  full : n * 5 < t.mask * 3
def live (owner : Array (Option Nat)) (mask : Nat) : List (Nat × Nat) := List.filterMap (fun j => Option.map (fun x => (j, x)) (owner.getD j none)) (List.range (mask + 1))
/-! ### where a slot stands among the rising ones -/
/-! ### the search -/
def pr (t : SetTable) (h : Int) : Nat → SetTable.Probe
  | 0 => t.probeStart h
  | n + 1 => t.advance (pr t h n)
structure PrOk (t : SetTable) (p : SetTable.Probe) : Prop where
  i : p.i ≤ t.mask
  jm : p.j + p.more ≤ t.mask
  dm : p.dummy = none
end STB

set_option Elab.async false
set_option linter.all false
set_option maxRecDepth 100000
namespace SPT
open PySem PySem.Spec PyProof.Rows
/-- a spot lies at a -/
structure Pt (h : Heap) (t : Int × Int × Int) (a b : Addr) (t1 t2 t3 : Tok) : Prop where
  ta : ∃ o n, h.get? a = some o ∧ o.cls = .type "tuple" ∧ o.data = .seq #[.int t.1 t1, .ref b] n
  tb : ∃ o n, h.get? b = some o ∧ o.cls = .type "tuple" ∧ o.data = .seq #[.int t.2.1 t2, .int t.2.2 t3] n
def PtAt (h : Heap) (t : Int × Int × Int) (u : Value) : Prop := ∃ a b t1 t2 t3, u = .ref a ∧ Pt h t a b t1 t2 t3
theorem PtAt.keeps {h h' : Heap} {t : Int × Int × Int} {u : Value} {S : Addr} {oS : Obj} (x : PtAt h t u) (hS : h.get? S = some oS) (hc : oS.cls = .type "set") (k : Heap.SameBut S h h') : PtAt h' t u := by
  obtain ⟨a, b, t1, t2, t3, e, ⟨o, n, h1, h2, h3⟩, ⟨o', n', g1, g2, g3⟩⟩ := x
  have na : a ≠ S := fun z => by rw [z, hS] at h1; cases h1; rw [hc] at h2; exact absurd h2 (by decide)
  have nb : b ≠ S := fun z => by rw [z, hS] at g1; cases g1; rw [hc] at g2; exact absurd g2 (by decide)
  exact ⟨a, b, t1, t2, t3, e, ⟨o, n, (k.2 a na).trans h1, h2, h3⟩, ⟨o', n', (k.2 b nb).trans g1, g2, g3⟩⟩
section
variable {prog : Program} {w : World} {A : Around} {E : Value → Shared → Prop} {s : Shared} {t : Int × Int × Int} {u : Value}
theorem eq_int (d : Nat) (i : Int) (k : Tok) : eqIsQuiet d (.int i k) = pure true := by rw [eqIsQuiet.eq_def]
end
end SPT

set_option Elab.async false
set_option linter.all false
set_option maxRecDepth 100000
namespace DL
open PySem L2
abbrev ptD (t : Int × Int × Int) : D := .tup [.int t.1, .tup [.int t.2.1, .int t.2.2]]
section
variable {X : Cx} {pins : List (Addr × Obj)} {σ : St} {F H : Hp} {s : Shared}
end
end DL

set_option Elab.async false
set_option linter.all false
set_option maxRecDepth 100000
namespace SPT
open PySem PySem.Spec PyProof.Rows STB
section
variable {prog : Program} {w : World} {A : Around} {E : Value → Shared → Prop} {s : Shared} {t : SetTable} {S : Addr} {oS : Obj} {es : Array (Int × Value)} {ep : Nat} {x : Value} {tx : Int × Int × Int} {h : Int}
def sh (es : Array (Int × Value)) (i : Nat) : Int := (Option.map (fun x => x.fst) es[i]?).getD 0
end
end SPT

set_option Elab.async false
set_option linter.all false
set_option maxRecDepth 100000
namespace SPT
open PySem PySem.Spec PyProof.Rows STB
theorem above_go {n : Nat} : ∀ (fuel k : Nat), 3 ≤ k → n < 2 ^ k * 2 ^ fuel → 2 ^ k ≤ max 8 (2 * n) → ∃ k', 3 ≤ k' ∧ SetTable.sizeAbove.go n fuel (2 ^ k) = 2 ^ k' ∧ n < 2 ^ k' ∧ 2 ^ k' ≤ max 8 (2 * n)
  | 0, k, hk, h, h2 => ⟨k, hk, by rw [SetTable.sizeAbove.go.eq_def], by simpa using h, h2⟩
  | fuel + 1, k, hk, h, h2 => by
    rw [SetTable.sizeAbove.go.eq_def]
    by_cases q : 2 ^ k ≤ n
    · simp only [q, if_true]
      rw [show 2 ^ k * 2 = 2 ^ (k + 1) by rw [Nat.pow_succ]]
      refine above_go fuel (k + 1) (by omega) ?_ ?_
      · rw [Nat.pow_succ] at h ⊢
        rw [Nat.mul_assoc, Nat.mul_comm 2 (2 ^ fuel)]
        exact h
      · rw [Nat.pow_succ]; omega
    · simp only [q, if_false]
      exact ⟨k, hk, rfl, by omega, h2⟩
theorem above {n : Nat} (h : n < 100000000) : ∃ k, 3 ≤ k ∧ SetTable.sizeAbove n = 2 ^ k ∧ n < 2 ^ k ∧ 2 ^ k ≤ max 8 (2 * n) := by
  have := above_go (n := n) 64 3 (Nat.le_refl _) (Nat.lt_of_lt_of_le h (by decide)) (by omega)
  exact this
section
variable {prog : Program} {w : World} {A : Around} {E : Value → Shared → Prop} {s : Shared} {t : SetTable} {S : Addr} {oS : Obj} {es : Array (Int × Value)} {ep : Nat} {x : Value} {tx : Int × Int × Int} {h : Int}
/-- the set's object -/
structure SetO (h : Heap) (S : Addr) (es : Array (Int × Value)) (t : SetTable) : Prop where
  ex : ∃ ep, h.get? S = some { cls := .type "set", dict := none, data := .set es ep t, slots := #[] }
end
end SPT

set_option Elab.async false
set_option linter.all false
set_option maxRecDepth 100000
namespace SPT
open PySem PySem.Spec PyProof.Rows STB
theorem PtAt.up {h h' : Heap} {t : Int × Int × Int} {u : Value} {S : Addr} {oS : Obj} (x : PtAt h t u) (hS : h.get? S = some oS) (hc : oS.cls ≠ .type "tuple") (k : ∀ b o, b ≠ S → h.get? b = some o → h'.get? b = some o) : PtAt h' t u := by
  obtain ⟨a, b, t1, t2, t3, e, ⟨o, n, h1, h2, h3⟩, ⟨o', n', g1, g2, g3⟩⟩ := x
  have na : a ≠ S := fun z => by rw [z, hS] at h1; cases h1; exact hc h2
  have nb : b ≠ S := fun z => by rw [z, hS] at g1; cases g1; exact hc g2
  exact ⟨a, b, t1, t2, t3, e, ⟨o, n, k a o na h1, h2, h3⟩, ⟨o', n', k b o' nb g1, g2, g3⟩⟩
section
variable {prog : Program} {w : World} {A : Around} {E : Value → Shared → Prop} {S I l : Addr} {items : Array Value} {ts : List (Int × Int × Int)}
end
end SPT

set_option Elab.async false
set_option linter.all false
set_option maxRecDepth 100000
namespace DL
open PySem L2
/-! ### len(set(list of different spots)) -/
/-- a set with n members lies at q -/
def SetN (q : Addr) (n : Nat) : Heap → Prop := fun h => ∃ es t, SPT.SetO h q es t ∧ t.fits es.size = true ∧ es.size = n
section
variable {Y : Cy} {T : Tx} {k : Nat} {N G : List Str} {c : List Slot} {e : Expr} {pos p1 p2 p3 : Pos}
end
end DL

set_option Elab.async false
set_option linter.all false
set_option maxRecDepth 100000
namespace DL
open PySem L2
/-! ### for .. in reversed(list) -/
def ItR (K : PySem.W.Frag) (a : Addr) (n : Nat) : It :=
  ⟨fun i H => ∃ xs, SqL K H a xs ∧ xs.length = n ∧ i < n, fun i H v H' => H' = H ∧ ∀ xs, SqL K H a xs → xs[n - 1 - i]? = some v, fun i H => ∃ xs, SqL K H a xs ∧ xs.length = n ∧ n ≤ i⟩
section
variable {Y : Cy} {T : Tx} {k : Nat} {N G : List Str} {c : List Slot} {e a b tg : Expr} {pos p p2 : Pos} {d : D} {ds : List D}
/-! ### l[:j], l[i:] -/
def cutO (ds : List D) (lo hi : Option Int) : List D := (ds.drop (HT.sIx ds.length 0 lo)).take (HT.sIx ds.length ds.length hi - HT.sIx ds.length 0 lo)
end
end DL

set_option Elab.async false
set_option linter.all false
set_option maxRecDepth 100000
namespace DL
open PySem L2
/-! what an exception passes by does not touch its dict -/
def KeepD (e : Addr) (dx : Option Addr) (h : Heap) : Prop := ∃ o, h.get? e = some o ∧ o.dict = dx
def Gent (e : Addr) (dx : Option Addr) {α : Type} (t : Sem α) : Prop := ∀ (M : Model) (Γ : Ctx) (Q : α → Pos → Shared → Prop) (E : Value → Pos → Shared → Prop) (p : Pos) (s : Shared), KeepD e dx s.heap →
  Sem.wp M Γ t Q E p s → Sem.wp M Γ t (fun a p' s' => Q a p' s' ∧ KeepD e dx s'.heap) (fun v p' s' => E v p' s' ∧ KeepD e dx s'.heap) p s
section
variable {e : Addr} {dx : Option Addr} {α β : Type}
theorem gent_pure {a : α} : Gent e dx (Pure.pure a : Sem α) := fun M Γ Q E p s k h => ⟨h, k⟩
theorem gent_no {what : String} : Gent e dx (unsupported what : Sem α) := fun M Γ Q E p s k h => by
  rw [show (unsupported what : Sem α) = Sem.unsupported what from rfl, Sem.wp_unsupported] at h
  exact h.elim
theorem gent_bind {m : Sem α} {f : α → Sem β} (hm : Gent e dx m) (hf : ∀ a, Gent e dx (f a)) : Gent e dx (m >>= f) := fun M Γ Q E p s k h => by
  rw [Sem.wp_bind'] at h ⊢
  refine Sem.wp_mono M Γ m (fun a p' s' z => ?_) (fun v p' s' z => z) p s (hm M Γ _ _ p s k h)
  exact hf a M Γ _ _ p' s' z.2 z.1
theorem gent_load {a : Addr} {part : Option Value} : Gent e dx (loadPart a part) := fun M Γ Q E p s k h => by
  rw [show loadPart a part = Sem.load a part .pure from rfl, Sem.wp_load] at h ⊢
  obtain ⟨o, ho, q⟩ := h
  exact ⟨o, ho, q, k⟩
theorem gent_upd {a : Addr} {part : Option Value} {f : Obj → Obj} (hf : ∀ o, (f o).dict = o.dict) (hz : ∀ o, o.isFreed = false → (f o).isFreed = false) : Gent e dx (updatePart a part f) := fun M Γ Q E p s k h => by
  rw [show updatePart a part f = Sem.update a part f .pure from rfl, Sem.wp_update] at h ⊢
  refine ⟨h.1, h.2, ?_⟩
  obtain ⟨o, ho, hd⟩ := k
  by_cases q : e = a
  · subst q
    exact ⟨f o, Heap.get?_update_self _ ho (hz o (Heap.get?_some_iff.mp ho).2), (hf o).trans hd⟩
  · exact ⟨o, (Heap.get?_update_other _ _ (Ne.symm q)).trans ho, hd⟩
theorem gent_alloc {o : Obj} : Gent e dx (alloc o) := fun M Γ Q E p s k h => by
  rw [show alloc o = Sem.alloc o .pure from rfl, Sem.wp_alloc] at h ⊢
  obtain ⟨u, hu, hd⟩ := k
  exact ⟨h, u, Heap.get?_push_of_some _ hu, hd⟩
theorem gent_stack : Gent e dx stack := fun M Γ Q E p s k h => by
  rw [show stack = Sem.stack .pure from rfl, Sem.wp_stack] at h ⊢
  exact ⟨h, k⟩
theorem gent_fieldsOf {v : Value} : Gent e dx (fieldsOf v) := by
  unfold fieldsOf
  split
  · exact gent_bind (gent_load (part := none)) fun o => by split <;> first | exact gent_pure | exact gent_no
  · exact gent_no
theorem gent_field {v : Value} {i : Nat} : Gent e dx (field v i) := by
  unfold field
  exact gent_bind gent_fieldsOf fun vs => by split <;> first | exact gent_pure | exact gent_no
theorem gent_setField {v x : Value} {i : Nat} : Gent e dx (setField v i x) := by
  unfold setField updateField
  split
  · refine gent_bind (gent_load (part := none)) fun o => ?_
    split
    · split
      · exact gent_upd (part := none) (fun o => by obtain ⟨a, b, c, d⟩ := o; cases c <;> rfl) fun o ho => by obtain ⟨a, b, c, d⟩ := o; cases c <;> first | rfl | exact ho
      · exact gent_no
    · exact gent_no
  · exact gent_no
theorem gent_setFlight {v : Value} {f : Option Addr} : Gent e dx (setFlight v f) := by
  unfold setFlight
  exact gent_bind gent_field fun tb => by split <;> first | exact gent_setField | exact gent_pure
theorem gent_ready : ∀ l : List PySem.Env, Gent e dx (readyFrames l)
  | [] => gent_pure
  | env :: outer => by
    unfold readyFrames
    split
    · refine gent_bind (gent_load (part := none)) fun o => ?_
      split
      · exact gent_pure
      · refine gent_bind ?_ fun im => gent_bind ?_ fun back => gent_bind (gent_upd (part := none) (fun o => rfl) fun o ho => by obtain ⟨a, b, c, d⟩ := o; cases c <;> first | rfl | exact ho) fun _ => gent_ready outer
        · unfold behindIsImport
          split
          · exact gent_pure
          · split
            · exact gent_pure
            · exact gent_bind gent_field fun _ => gent_pure
        · unfold keptBack
          split
          · split
            · exact gent_pure
            · unfold underTheClaimsCaller
              exact gent_bind (gent_bind gent_stack fun _ => gent_pure) fun _ => gent_pure
          · exact gent_pure
    · exact gent_no
theorem gent_frameOf {env : PySem.Env} : Gent e dx (frameOf env) := by
  unfold frameOf frameEnvs
  refine gent_bind (gent_bind gent_stack fun _ => gent_pure) fun l => gent_bind ?_ fun r => by split <;> first | exact gent_pure | exact gent_no
  generalize (l.dropWhile fun x => x.frame != env.frame) = l'
  unfold frameObject
  split
  · exact gent_pure
  · exact gent_bind (gent_ready _) fun _ => gent_pure
theorem gent_place {f : Addr} {b : Bool} : Gent e dx (entryPlaceOf f b) := by
  unfold entryPlaceOf
  exact gent_bind gent_stack fun acts => by split <;> exact gent_pure
theorem gent_entry {a b c d f : Value} {l : List Value} : Gent e dx (EntryCells.newEntry a b c d f l) := by
  unfold EntryCells.newEntry newFields newObj newObjAsIs
  dsimp only
  generalize (if l.isEmpty = true then List.replicate 6 Value.none else l) = l'
  split
  · exact gent_bind gent_no fun _ => gent_bind gent_alloc fun _ => gent_pure
  · exact gent_bind gent_alloc fun _ => gent_pure
theorem gent_noteFrame {v : Value} {env : PySem.Env} : Gent e dx (noteFrame v env) := by
  unfold noteFrame
  split
  · refine gent_bind gent_field fun head => ?_
    have tl : Gent e dx (do setField v 1 (← EntryCells.newEntry head (← frameOf env) .none (rawInt ‹Addr›) .none (← entryPlaceOf ‹Addr› (head != .none)))) :=
      gent_bind gent_frameOf fun _ => gent_bind gent_place fun _ => gent_bind gent_entry fun _ => gent_setField
    split
    · refine gent_bind gent_field fun x => ?_
      split
      · exact gent_pure
      · exact gent_bind gent_setField fun _ => tl
    · exact tl
  · exact gent_no
theorem gent_leaving {v : Value} {env : PySem.Env} : Gent e dx (leaving env v) := by
  unfold leaving
  exact gent_bind gent_noteFrame fun _ => gent_setFlight
theorem wp_gent {M : Model} {A : Around} {t : Sem α} {Q : α → Shared → Prop} {E : Value → Shared → Prop} {s : Shared} (g : Gent e dx t) (k : KeepD e dx s.heap) (h : wpAny M A t Q E s) :
    wpAny M A t (fun a s' => Q a s' ∧ KeepD e dx s'.heap) (fun v s' => E v s' ∧ KeepD e dx s'.heap) s := fun Γ p hΓ => g M Γ _ _ p s k (h Γ p hΓ)
end
end DL

set_option Elab.async false
set_option linter.all false
set_option maxRecDepth 100000
namespace DL
open PySem PySem.W PySem.Calls PyProof.Rows Builtin Builtin.ObjectAttr
/-! an own class of refusals with its own __init__ that lays one field -/
abbrev VEs : List Value := [.type "ValueError", .type "Exception", .type "BaseException", .type "object"]
def farIn (K : PySem.W.Frag) (C : Addr) : Bool := match K.lookup C with
  | some ⟨.type "type", _, .cls cd, sl⟩ => (match cd.mro, sl.toList with
    | .ref C' :: bm, [_, _, _, _, some (.builtin n), _] => C' == C && (n == "ValueError.__new__" && (!cd.hasDel && (tailIn K VEs bm && cd.hasDict)))
    | _, _ => false)
  | _ => false
theorem far_of_in {K : PySem.W.Frag} {h : Heap} {C : Addr} (X : K.In h) (q : farIn K C = true) :
    ∃ bm N nm qn bs sn sub ab col dd k0 k1 k2 k3 k5, h.get? C = some (excClassObj nm qn C N bs bm true sn sub ab col dd k0 k1 k2 k3 k5 "ValueError.__new__") ∧ OwnTail h VEs bm := by
  unfold farIn at q
  split at q
  · rename_i dd cd sl ho
    split at q
    · rename_i C' bm k0 k1 k2 k3 n k5 hm hs
      simp only [Bool.and_eq_true, beq_iff_eq, Bool.not_eq_true'] at q
      obtain ⟨rfl, rfl, hdel, ht, hdc⟩ := q
      obtain ⟨nm, bs, mro, ns, qn, hd, sn, sub, ab, col, del⟩ := cd
      dsimp only at hm hdel hdc
      subst hm hdel hdc
      obtain ⟨l⟩ := sl
      simp only at hs
      subst hs
      exact ⟨bm, ns, nm, qn, bs, sn, sub, ab, col, dd, k0, k1, k2, k3, k5, X _ _ ho, tail_of_in X ht⟩
    · cases q
  · cases q
/-- the object of such an exception -/
def exo (C : Addr) (dx : Option Addr) (t : Addr) : Obj := { cls := .ref C, dict := dx, data := .fields #[.ref t, .none, .none, .none, .bool false, .none] }
structure FarK (K : PySem.W.Frag) (C D fI : Addr) : Prop where
  fa : farIn K C = true
  init : findIn K (.ref C) "__init__" = some (some (.ref fI))
  fn : typeIn K (.ref fI) = some (.type "function")
  sa : findIn K (.ref C) "__setattr__" = some (some (.builtin "object.__setattr__"))
  nf : findIn K (.ref C) "far" = some none
  rd : readsIn K D (.type "type") = true
  fi : findCls K (.ref D) (.type "type") "__init__" = some (.val (.builtin "ValueError.__init__"))
  sg : specialIn K (.ref D) "__getattribute__" = some (some (.builtin "type.__getattribute__"))
section
variable {prog : Program} {w : World} {A : Around} {E : Value → Shared → Prop} {K : PySem.W.Frag} {C D fI e t0 : Addr} {h : Heap} {g : Array GenState} {d : Drawn} {t : Nat} {os : OsState}
/-- the class is called: the object is made, then handed to __init__ -/
theorem call_far {v : Value} {Q : Value → Shared → Prop} (X : K.In h) (Z : FarK K C D fI)
    (hq : ∀ h' e t', (∀ b o, h.get? b = some o → h'.get? b = some o) → h.get? e = none → h'.get? e = some (exo C none t') →
      wpAny (model prog w) (A.under (.builtin "type.__call__" ⟨[.ref C, v], []⟩)) (call (.ref fI) [.ref e, v]) (fun r s' => r = .none ∧ Q (.ref e) s') E ⟨h', g, d, t, os⟩) :
    wpAny (model prog w) A (call (.ref C) [v]) Q E ⟨h, g, d, t, os⟩ := by
  obtain ⟨bm, N, nm, qn, bs, sn, sub, ab, col, dd, k0, k1, k2, k3, k5, hC, T⟩ := far_of_in X Z.fa
  have F := PySem.F.excBase_ValueError
  have f1 := tc_lookup
  have f2 := tc_bind (.ref C)
  have ty : (⟨h, g, d, t, os⟩ : Shared).TypeIs (.ref C) "type" := ⟨_, hC, rfl⟩
  refine wpAny_call (codeAny_of_tree (show wpAny _ _ (callAny (.ref C) _) _ _ _ from ?_))
  repeat (any_goals (first | assumption | with_reducible refine wpAny_loadPart_at hC ?_ | wp_step))
  refine ⟨rfl, codeAny_call_builtin_at (Code.quiet_builtin _ (by decide +kernel)) entry_typeCall (wpAny_check_type_call_sub hC ?_)⟩
  repeat (first | with_reducible refine wpAny_loadPart_at hC ?_ | with_reducible refine wpAny_madeBy_exc hC ?_ | wp_step)
  refine codeAny_call_builtin_code (Code.quiet_builtin _ F.quiet) (wpAny_check_new_subT F T hC (codeAny_exc_new_subT F T hC ?_ (show ([v] : List Value).length ≤ sizeLine by rw [sizeLine_eq]; simp)))
  show wpAny _ _ _ _ _ ⟨(h.push { cls := .type "tuple", data := .seq [v].toArray }).push { cls := .ref C, data := .fields #[.ref h.objs.size, .none, .none, .none, .bool false, .none] }, g, d, t, os⟩
  generalize hh : (h.push { cls := .type "tuple", data := .seq [v].toArray }).push { cls := .ref C, data := .fields #[.ref h.objs.size, .none, .none, .none, .bool false, .none] } = h1
  have kp : ∀ b o, h.get? b = some o → h1.get? b = some o := fun b o q => by rw [← hh]; exact Heap.get?_push_of_some _ (Heap.get?_push_of_some _ q)
  have he : h1.get? (h.objs.size + 1) = some { cls := .ref C, data := .fields #[.ref h.objs.size, .none, .none, .none, .bool false, .none] } := by
    rw [← hh]
    have z := Heap.get?_push_size (h.push { cls := .type "tuple", data := .seq [v].toArray }) (o := exo C none h.objs.size) rfl
    rwa [Heap.size_push] at z
  have hC1 := kp _ _ hC
  have X1 : K.In h1 := fun a o q => kp _ _ (X a o q)
  have hcC : (Value.ref C :: bm).contains (.ref C) = true := by simp
  unfold isInstance
  repeat (first | with_reducible refine wpAny_loadPart_at he ?_ | (with_reducible refine wpAny_isSubtype_exc hC1 ?_; rw [hcC]) | wp_step)
  show wpAny _ _ (typeLookup (.ref C) _) _ _ _
  refine (looks_findIn (M := model prog w) X1 Z.init).at ?_
  refine wpAny_holding (wpAny_bind ((bind_fn (M := model prog w) X1 (.ref (h.objs.size + 1)) Z.fn).at ?_))
  refine wpAny_bind (wpAny_mono (hq h1 (h.objs.size + 1) h.objs.size kp (Heap.get?_none_of_le (Nat.le_succ _)) he) (fun r s' hr => ?_) fun _ _ z => z)
  obtain ⟨rfl, z⟩ := hr
  wp_walk
  exact z
end
end DL

set_option Elab.async false
set_option linter.all false
set_option maxRecDepth 100000
namespace DL
open PySem PySem.W PySem.Calls PyProof.Rows Builtin Builtin.ObjectAttr
section
variable {prog : Program} {w : World} {A : Around} {E : Value → Shared → Prop} {K : PySem.W.Frag} {C D fI e t0 : Addr} {h : Heap} {g : Array GenState} {d : Drawn} {t : Nat} {os : OsState}
/-- the base's __init__ lays the arguments -/
theorem init_far {v : Value} {R : Result → Shared → Prop} (X : K.In h) (Z : FarK K C D fI) (he : h.get? e = some (exo C none t0))
    (hq : ∀ h' t', (∀ b o, b ≠ e → h.get? b = some o → h'.get? b = some o) → h'.get? e = some (exo C none t') → R (.ok (.ret .none)) ⟨h', g, d, t, os⟩) :
    codeAny (model prog w) A (.call (.builtin "ValueError.__init__") ⟨[.ref e, v], []⟩) R ⟨h, g, d, t, os⟩ := by
  obtain ⟨bm, N, nm, qn, bs, sn, sub, ab, col, dd, k0, k1, k2, k3, k5, hC, T⟩ := far_of_in X Z.fa
  have F := PySem.F.excBase_ValueError
  refine codeAny_call_builtin F.init.plain F.initEntry (wpAny_check_init_subT F T hC he rfl ?_)
  have he1 : h.get? e = some { cls := .ref C, data := .fields #[.ref t0, .none, .none, .none, .bool false, .none] } := he
  have he2 := Heap.get?_push_of_some { cls := .type "tuple", data := .seq [v].toArray } he1
  wp_walk
  refine hq _ h.objs.size (fun b o hb q => ?_) ?_
  · rw [Heap.get?_update_other _ _ (Ne.symm hb)]
    exact Heap.get?_push_of_some _ q
  · rw [Heap.get?_update_self _ he2 rfl]
    rfl
/-- the field is laid -/
theorem set_far {v : Value} {Q : Unit → Shared → Prop} (X : K.In h) (Z : FarK K C D fI) (he : h.get? e = some (exo C none t0))
    (hq : ∀ h' dx tk, dx ≠ e → h.get? dx = none → (∀ b o, b ≠ e → h.get? b = some o → h'.get? b = some o) → h'.get? e = some (exo C (some dx) t0) → h'.Ns1 dx (fun y => if y = "far" then some v else none) → Q () ⟨h', g, d, tk, os⟩) :
    wpAny (model prog w) A (setAttr (.ref e) "far" v) Q E ⟨h, g, d, t, os⟩ := by
  obtain ⟨bm, N, nm, qn, bs, sn, sub, ab, col, dd, k0, k1, k2, k3, k5, hC, T⟩ := far_of_in X Z.fa
  have SF := PySem.F.store_ValueError
  have L0 : Looks (model prog w) h (typeOf (.ref e)) (.ref C) := (Looks.ld he).andThen .now
  have L1 := looks_findIn (M := model prog w) X Z.sa
  have L2 := looks_findIn (M := model prog w) X Z.nf
  have pass : ∀ l, OwnTail h VEs l → refuseLoop (.ref e) "__setattr__" l = pure () := fun l q => by
    induction q with
    | base => exact SF.passes (.ref e)
    | own _ _ _ _ ih => rw [refuseLoop_ref]; exact ih
  have ob : (Value.ref C :: bm).contains (.type "object") = true := by rw [List.contains_cons, T.hasType (b := true) (by decide), Bool.or_true]
  have LI : Looks (model prog w) h (isInstance (.ref e) (.type "object")) true := L0.andThen fun A' Q' E' s' k q => by
    obtain ⟨h', g', d', t', os'⟩ := s'
    refine wpAny_isSubtype_exc (k _ _ hC) ?_
    rw [ob]
    exact q
  unfold setAttr callSpecial? specialOf
  refine wpAny_bind (wpAny_mkText (wpAny_bind (wpAny_bind (wpAny_bind (L0.at (L1.at ?_))))))
  refine wpAny_holding ?_
  dsimp only
  rw [SF.slot.bind (.ref e)]
  refine wpAny_bind (wpAny_pure (wpAny_bind (wpAny_call ?_)))
  refine codeAny_call_builtin SF.slot.plain SF.entry (@check_slot (model prog w) _ _ ⟨h, g, d, t + 1, os⟩ "object.__setattr__" "object" "__setattr__" (.ref e) [.str "far" t, v] [] _ SF.kind SF.split LI (SF.args (.ref e) (.str "far" t) v) ?_)
  show wpAny _ _ (Builtin.«object.__setattr__» ⟨[.ref e, .str "far" t, v], []⟩) _ _ _
  rw [osa_eq, refuse_eq]
  refine wpAny_bind (wpAny_bind (L0.at (wpAny_bind (wpAny_mroOf_exc hC ?_))))
  rw [refuseLoop_ref, pass _ T]
  refine wpAny_pure (wpAny_bind (L0.at (wpAny_bind (L2.at (wpAny_bind (wpAny_pure ?_))))))
  show wpAny _ _ (storeInOwnDict (.ref e) (.ref C) (.str "far" t) "far" v false) _ _ _
  have he1 : h.get? e = some { cls := .ref C, data := .fields #[.ref t0, .none, .none, .none, .bool false, .none] } := he
  unfold storeInOwnDict ownStreamTells ownDictForStores instanceDict
  refine wpAny_bind (wpAny_pure ?_)
  have ncls : (Value.ref C == Value.type "module") = false := rfl
  rw [ncls, if_neg (by decide)]
  refine wpAny_bind (wpAny_bind (wpAny_loadPart he1 ?_))
  dsimp only
  have LC : Looks (model prog w) h (classData C) _ := (Looks.ld (part := none) hC).andThen .now
  refine wpAny_bind (LC.at ?_)
  dsimp only
  rw [if_neg (by decide)]
  rw [if_neg (show ¬ (!true || !typeHasDict (Value.ref C)) = true from fun z => nomatch z)]
  have he2 : (h.push { cls := .type "dict", data := .dict #[] }).get? e = some { cls := .ref C, data := .fields #[.ref t0, .none, .none, .none, .bool false, .none] } := Heap.get?_push_of_some _ he1
  have xs : e ≠ h.objs.size := Nat.ne_of_lt (Heap.lt_size he1)
  refine wpAny_bind (wpAny_alloc' (wpAny_bind (wpAny_update' he2 ?_)))
  refine wpAny_pure ?_
  generalize hh : ((h.push { cls := .type "dict", data := .dict #[] }).update e fun o => { cls := o.cls, dict := some h.objs.size, data := o.data, slots := o.slots }) = h1
  have hx1 : h1.get? e = some (exo C (some h.objs.size) t0) := by
    rw [← hh]
    exact Heap.get?_update_self _ he2 rfl
  have hd1 : h1.get? h.objs.size = some { cls := .type "dict", data := .dict #[] } := by
    rw [← hh]
    exact (Heap.get?_update_ne _ _ _ _ xs.symm).trans (Heap.get?_push_at rfl rfl)
  have hn1 : h1.Ns h.objs.size (fun _ => none) := ⟨_, #[], _, hd1, rfl, fun q hq => absurd hq (by simp), fun _ => rfl⟩
  show wpAny _ _ (storeInDict h.objs.size (.str "far" t) "far" v) _ _ _
  unfold storeInDict newKeyGuard
  refine wpAny_bind (wpAny_pure (wpAny_bind (wpAny_nsSet1 (Heap.Ns1.of_empty hn1) fun h2 hn2 hs => ?_)))
  obtain ⟨oD, esD, epD, hoD, hdD, hcD⟩ := hn2.count (Within.cons "far" v Within.nil)
  have few : esD.size ≤ sizeLine + 1 := Nat.le_trans hcD (by rw [List.length_cons, List.length_nil, sizeLine_eq]; omega)
  refine wpAny_bind (wpAny_lookBehind hoD (by rw [hdD]; exact pastItsLine_dict few) ?_)
  refine wpAny_pure (wpAny_pure (wpAny_pure ?_))
  exact hq h2 h.objs.size _ xs.symm (Heap.get?_none_of_le (Nat.le_refl _)) (fun b o hb q => (hs.2 b (Nat.ne_of_lt (Heap.lt_size q))).trans (by rw [← hh]; exact (Heap.get?_update_other _ _ (Ne.symm hb)).trans (Heap.get?_push_of_some _ q))) ((hs.2 e xs).trans hx1) hn2
/-- the field is read -/
theorem get_far {v : Value} {dx : Addr} {oe : Obj} {vs : Array Value} {mA : Str → Option Value} {Q : Value → Shared → Prop} (X : K.In h) (Z : FarK K C D fI) (ZE : ExcK K C) (he : h.get? e = some oe) (hc : oe.cls = .ref C) (hd : oe.data = .fields vs) (hdx : oe.dict = some dx) (hn : h.Ns dx mA)
    (hv : mA "far" = some v) (hh : handedIn v = true) (hq : Q v ⟨h, g, d, t + 1, os⟩) : wpAny (model prog w) A (getAttr (.ref e) "far" true) Q E ⟨h, g, d, t, os⟩ := by
  obtain ⟨bm, N, nm, qn, bs, sn, sub, ab, col, dd, k0, k1, k2, k3, k5, hC, T⟩ := far_of_in X Z.fa
  have L0 : Looks (model prog w) h (typeOf (.ref e)) (.ref C) := hc ▸ (Looks.ld he).andThen .now
  have L1 := looks_findIn (M := model prog w) X ZE.ga
  have L2 := looks_findIn (M := model prog w) X ZE.gt
  have L3 := looks_findIn (M := model prog w) X Z.nf
  have L5 := looks_mroIn (M := model prog w) X ZE.mb
  have LI : Looks (model prog w) h (isInstance (.ref e) (.type "BaseException")) true := L0.andThen L5
  unfold getAttr getAttrBy
  refine wpAny_bind (wpAny_mkText (wpAny_holding (wpAny_bind (L0.at (wpAny_bind (L1.at ?_))))))
  show wpAny _ _ (getAttrByItsOwn _ _ _ _ _ _) _ _ _
  unfold getAttrByItsOwn hookBefore
  refine wpAny_bind (L2.at (wpAny_bind (wpAny_attempt (wpAny_holding ?_))))
  show wpAny _ _ (boundAndCalled _ _ _) _ _ _
  unfold boundAndCalled
  rw [PySem.F.excAttr_ValueError.ga.bind (.ref e)]
  refine wpAny_bind (wpAny_pure (wpAny_call (codeAny_call_builtin PySem.F.excAttr_ValueError.ga.plain F.entry_bexc_ga ?_)))
  have hk : builtinKind "BaseException.__getattribute__" = some .slot := by decide +kernel
  have hsp : splitId "BaseException.__getattribute__" = some ("BaseException", "__getattribute__") := by decide +kernel
  have hargs := F.args_bexc_ga (.ref e) (Value.str (Str.ofString "far") t)
  have LC : Looks (model prog w) h (classData C) _ := (Looks.ld (part := none) hC).andThen .now
  have own : Looks (model prog w) h (inOwnDict "far" (.ref e)) (some v) := by
    intro A' Q' E' s' k q
    obtain ⟨oc, odi, oda, osl⟩ := oe
    dsimp only at hc hd hdx
    subst hc hd hdx
    refine wpAny_bind (wpAny_bind (wpAny_loadPart (k _ _ he) ?_))
    show wpAny _ _ (instanceDict e false) _ _ _
    unfold instanceDict
    refine wpAny_bind (wpAny_loadPart (k _ _ he) ?_)
    dsimp only
    refine wpAny_bind (LC A' _ E' s' k ?_)
    dsimp only
    rw [if_neg (by decide)]
    refine wpAny_pure ?_
    refine wpAny_nsGet (hn.keeps k) ?_
    rw [hv]
    exact q
  have fnd : Looks (model prog w) h (find (.ref e) (.ref C) "far") (.value v) :=
    L3.andThen (Looks.now.andThen (Looks.now.andThen (own.andThen (Looks.tag .now))))
  simp only [checkBuiltinCall, hk, hsp]
  refine wpAny_bind (LI.at ?_)
  simp only [Bool.not_true, Bool.false_eq_true, if_false]
  have body : ∀ (A' : Around) (Q' : Fin → Shared → Prop) (E' : Value → Shared → Prop), Q' (.done (.ret v)) ⟨h, g, d, t + 1, os⟩ → wpAny (model prog w) A' (Builtin.«object.__getattribute__» ⟨[.ref e, .str "far" t], []⟩) Q' E' ⟨h, g, d, t + 1, os⟩ := by
    intro A' Q' E' q
    unfold Builtin.«object.__getattribute__»
    repeat lk
    exact q
  refine wpAny_of_eq (a := ()) hargs (body _ _ _ ?_)
  show wpAny (model prog w) A (handedOut v) _ _ _
  exact wpAny_of_eq (handedOut_of hh) hq
end
end DL

set_option Elab.async false
set_option linter.all false
set_option maxRecDepth 100000
namespace DL
open PySem L2
/-- the exception under way: its object alone -/
def ExO (C : Addr) (dx : Option Addr) (e : Addr) (h : Heap) : Prop := ∃ t, h.get? e = some (exo C dx t)
theorem exo_ok {P : Program} {w : World} {H : Hp} {h : Heap} {C e t : Addr} {dx : Option Addr} (q : h.get? e = some (exo C dx t)) : ObjOk P w H h e (.ext (ExO C dx e)) :=
  ⟨⟨t, q⟩, ⟨_, q⟩, fun h1 h2 ⟨t', z⟩ k => ⟨t', k _ z⟩⟩
abbrev farF (n : Int) : List (Str × V) := [("far", .int n)]
def upX (H : Hp) (C e dx : Addr) (n : Int) : Hp := upd (upd H e (.ext (ExO C (some dx) e))) dx (.xd (farF n))
theorem upX_d {H : Hp} {C e dx : Addr} {n : Int} : upX H C e dx n dx = some (.xd (farF n)) := upd_same
theorem upX_e {H : Hp} {C e dx : Addr} {n : Int} (h : e ≠ dx) : upX H C e dx n e = some (.ext (ExO C (some dx) e)) := (upd_ne h).trans upd_same
theorem upX_n {H : Hp} {C e dx b : Addr} {n : Int} (h : b ≠ e) (h' : b ≠ dx) : upX H C e dx n b = H b := (upd_ne h').trans (upd_ne h)
theorem _root_.L2.Inv.far {X : Cx} {pins : List (Addr × Obj)} {σ : St} {H : Hp} {s : Shared} {h' : Heap} {t' : Nat} {e dx C t : Addr} {φ : Heap → Prop} {n : Int} {u : Value} (I : Inv X pins σ H s) (hH : H e = some (.ext φ)) (hne : dx ≠ e) (hdx : s.heap.get? dx = none)
    (k : ∀ b o, b ≠ e → s.heap.get? b = some o → h'.get? b = some o) (he : h'.get? e = some (exo C (some dx) t)) (hn : h'.Ns1 dx (fun y => if y = "far" then some u else none)) (hu : RelV (.int n) u) : Inv X pins σ (upX H C e dx n) { s with heap := h', toks := t' } := by
  have Hd : H dx = none := by
    cases q : H dx with
    | none => rfl
    | some o => obtain ⟨ob, z⟩ := (I.hok dx o q).there; rw [hdx] at z; cases z
  have two : ∀ b, b ≠ e → b ≠ dx → upX H C e dx n b = H b := fun b h1 h2 => upX_n h1 h2
  have nn : ∀ b o, H b = some o → (∀ φ, o ≠ .ext φ) → upX H C e dx n b = some o := fun b o q z => by
    rw [two b (fun w => by rw [w, hH] at q; cases q; exact z _ rfl) (fun w => by rw [w, Hd] at q; cases q)]; exact q
  refine I.un ⟨fun b o q z _ _ => k b o (fun w => by rw [w, hH] at z; cases z) q, fun b o q z _ _ => ⟨o.slots, k b o (fun w => by rw [w, hH] at z; cases z) q⟩, fun b o q z _ => ?_, fun b o q _ => ?_, fun b xs q => nn b _ q (fun _ w => nomatch w), fun b o xs q => nn b _ q (fun _ w => nomatch w), fun b ps q => ⟨#[], by rw [nn b _ q (fun _ w => nomatch w)]; simp⟩⟩ fun b o q => ?_
  · rw [two b (fun w => by rw [w, hH] at z; cases z) (fun w => by rw [w, hdx] at q; cases q)]; exact z
  · by_cases w : b = e
    · exact ⟨_, by rw [w]; exact he⟩
    · exact ⟨o, k b o w q⟩
  · by_cases w : b = dx
    · subst w
      rw [upX_d] at q
      cases q
      refine ⟨_, hn, fun f => ?_⟩
      by_cases w : f = "far"
      · subst w; exact hu
      · have : List.lookup f (farF n) = none := by simp [List.lookup, beq_false_of_ne w]
        rw [this, if_neg w]
        trivial
    · by_cases w2 : b = e
      · subst w2
        rw [upX_e w] at q
        cases q
        exact exo_ok he
      · rw [upX_n w2 w] at q
        refine (I.hok b o q).stay (fun c v hc z => k c v ?_ z) (fun c z => nn c _ z (fun _ w => nomatch w)) fun c xs z => nn c _ z (fun _ w => nomatch w)
        rcases hc with z | z
        · rw [z]; exact w2
        · rintro rfl; rw [hH] at z; cases z
section
variable {Y : Cy} {T : Tx} {k : Nat} {N G : List Str} {c : List Slot} {js : Expr} {z : Str} {x y sf : Str} {p1 p2 p3 p5 p6 : Pos} {C D fI : Addr}
/-- Base.__init__(self, text) -/
theorem pe_init (S : Sn Y T N G) (i gi : Nat) (Z : FarK T.K C D fI) (hm : T.mg y = some (.ref D)) (hj : EvD Y js c (.str z)) {pl : Sem Bool} (hi : N[i]? = some sf := by rfl) (hg : G[gi]? = some y := by rfl)
    (he : eval (.Call (.Attribute (.Name y p1) "__init__" p2) [.Name sf p3, js] [] p5) Y.X.env = (do
      let ov ← eval (.Name y p1) Y.X.env
      standAt p2.atName
      let (f, first) ← holding [ov] (getMethod ov "__init__" pl)
      callWith p5 f first (backTo p5 (starEach [.Name sf p3, js] Y.X.env)) (backToKw p5 (keywordEach [] Y.X.env))) := by rfl) 
    (h1 : starEach [.Name sf p3, js] Y.X.env = (false, eval (.Name sf p3) Y.X.env) :: starEach [js] Y.X.env := by rfl) (h2 : starEach [js] Y.X.env = (false, eval js Y.X.env) :: starEach [] Y.X.env := by rfl) (hpl : (backTo p5 (starEach [js] Y.X.env)).any (·.1) = false := by rfl) :
    PE Y.X (.Call (.Attribute (.Name y p1) "__init__" p2) [.Name sf p3, js] [] p5) (fun σ H Q => ∃ F e, EnvY Y F H σ c ∧ σ[i]? = some (some (.ref e)) ∧ H e = some (.ext (ExO C none e)) ∧ ∀ F' H', Ext F H F' H' → Q .non H') := by
  intro pins s σ H Q I ⟨F, e, E, hσ, hH, q⟩
  have gl := S.gl y (List.mem_of_getElem? hg)
  have hx := S.loc sf (List.mem_of_getElem? hi)
  have Z' : FarK Y.X.K C D fI := by rw [S.eK]; exact Z
  rw [← S.n] at hi
  refine PySem.W.methodCall_KW (ld_glob I gl.1 (by rw [S.eM]; exact hm) ?_ gl.2.1) he
  refine PySem.W.method_cls I.kIn Z'.sg (PySem.W.cls_value I.kIn Z'.rd Z'.fi rfl ?_)
  have I1 := I.tok (s.toks + 1)
  have pa := pa_cons (pe_var hi (hx.1.elim .inl fun h => .inr (.inl h)) hx.2.1 hx.2.2) (pa_cons hj pa_nil h2) h1
  have hA := pa p5 pins _ σ H (fun vs H1 => ∃ u F1, vs = [.ref e, u] ∧ Ext F H F1 H1) I1 ⟨.ref e, hσ, F, E, fun v F1 H1 x1 r1 => ⟨v, F1, rfl, x1⟩⟩
  rw [h1] at hA ⊢
  refine Calls.callWith_builtin (by show (false || (backTo p5 (starEach [js] Y.X.env)).any (·.1)) = false; rw [hpl] <;> rfl) (Calls.evalArgs_plain ?_)
  refine thn hA fun us s2 ⟨vs, H2, I2, r2, u, F1, ev, x1⟩ => ?_
  subst ev
  obtain ⟨ue, uz, rfl, r1, r3⟩ := vals2 r2
  cases (show ue = Value.ref e from r1)
  have h2e : H2 e = some (.ext (ExO C none e)) := x1.hh _ _ hH
  obtain ⟨⟨t0, ht⟩, _⟩ := (show ObjOk Y.X.prog Y.X.w H2 s2.heap e (.ext (ExO C none e)) from I2.hok e _ h2e)
  obtain ⟨hp, g, d, tk, os⟩ := s2
  refine wpAny_call (init_far I2.kIn Z' ht fun h' t' kp ht' => ?_)
  have e1 : upd H2 e (.ext (ExO C none e)) = H2 := by
    funext b
    by_cases w : b = e
    · subst w; rw [upd_same, h2e]
    · rw [upd_ne w]
  have I3 := I2.write (x := e) (e := e) (o := .ext (ExO C none e)) (t' := tk) (by rw [h2e]; exact True.intro) (.inl rfl) kp ⟨_, ht'⟩ (exo_ok ht')
  rw [e1] at I3
  exact ⟨.non, H2, I3, rfl, q F1 H2 x1⟩
end
end DL

set_option Elab.async false
set_option linter.all false
set_option maxRecDepth 100000
namespace DL
open PySem L2 PySem.W PyProof.Rows
section
variable {M : Model} {A : Around} {E : Value → Shared → Prop} {K : PySem.W.Frag} {C : Addr} {env : PySem.Env} {s : Shared}
theorem raise_far {x : Sem Value} {Q : Flow → Shared → Prop} (fa : farIn K C = true) (hh : A.handled = none)
    (h : wpAny M A x (fun v s₁ => ∃ e dx t, v = .ref e ∧ K.In s₁.heap ∧ s₁.heap.get? e = some (exo C dx t) ∧ E (.ref e) s₁) E s) : wpAny M A (raiseStmt env (some x) none) Q E s := by
  unfold raiseStmt
  refine wpAny_bind (wpAny_mono h (fun v s₁ h₁ => ?_) fun _ _ x => x)
  obtain ⟨e, dx, t, rfl, X, he, hE⟩ := h₁
  obtain ⟨bm, N, nm, qn, bs, sn, sub, ab, col, dd, k0, k1, k2, k3, k5, hC, T⟩ := far_of_in X fa
  have hcB : (Value.ref C :: bm).contains (.type "BaseException") = true := by rw [List.contains_cons, T.hasType (b := true) (by decide), Bool.or_true]
  have he : s₁.heap.get? e = some { cls := .ref C, dict := dx, data := .fields #[.ref t, .none, .none, .none, .bool false, .none] } := he
  obtain ⟨hp, g, d, tk, os⟩ := s₁
  repeat (first | with_reducible refine wpAny_loadPart_at he ?_ | with_reducible refine wpAny_loadPart_at hC ?_ | (with_reducible refine wpAny_isSubtype_exc hC ?_; rw [hcB]) | wp_step)
  exact wpAny_raiseNew_none hh hE
end
end DL
namespace DL
open PySem L2
/-- how an exception with a dict lies behind a call -/
structure LiesD (P : Program) (w : World) (outer : List PySem.Env) (H : Hp) (s : Shared) (a C dx : Addr) (H' : Hp) (s' : Shared) : Prop extends Lies P w outer H s a C H' s' where
  dict : KeepD a (some dx) s'.heap
def CXF (P : Program) (w : World) : CXT := fun outer H s E e s' => ∃ a C dx H', e = .ref a ∧ LiesD P w outer H s a C dx H' s' ∧ E (.ref C) (some dx) H'
theorem leave_onD {X : Cx} {pins : List (Addr × Obj)} {σ : St} {H H' : Hp} {s s' : Shared} {e C dx : Addr} {Q : Unit → Shared → Prop} {E : Value → Shared → Prop} (I : Inv X pins σ H s) (hx : X.ex = []) (hs : X.stack = X.env :: X.outer ∧ X.env.frame = some X.env.locals)
    (L : LiesD X.prog X.w X.stack H s e C dx H' s') (hQ : ∀ s', LiesD X.prog X.w X.outer X.H₀ X.s₀ e C dx H' s' → Q () s') : wpAny (model X.prog X.w) X.A (leaving X.env (.ref e)) Q E s' :=
  wpAny_mono (wp_gent gent_leaving L.dict (leave_on (E := E) (Q := fun _ s' => Lies X.prog X.w X.outer X.H₀ X.s₀ e C H' s') I hx hs L.toLies fun s' L' => L')) (fun _ s' q => hQ s' ⟨q.1, q.2⟩) fun _ _ q => q.1
theorem inv_drop {X : Cx} {pins : List (Addr × Obj)} {σ : St} {H : Hp} {s : Shared} {e : Addr} {φ : Heap → Prop} (I : Inv X pins σ H s) (h0 : X.s₀.heap.get? e = none) (hH : H e = some (.ext φ)) : Inv X pins σ (wo H e) s := by
  have ne : ∀ b u, H b = some u → (∀ φ, u ≠ .ext φ) → wo H e b = some u := fun b u q z => by rw [wo_ne (fun w => by rw [w, hH] at q; cases q; exact z _ rfl)]; exact q
  refine ⟨I.ok, I.os, I.bare, ⟨I.base.keep, I.base.slot, fun b o q n hx => ?_, I.base.there, fun b xs q => ne _ _ (I.base.tups b xs q) (fun _ z => nomatch z), fun b o u q => ne _ _ (I.base.frzs b o u q) (fun _ z => nomatch z), fun b ps q => ?_⟩, I.loc, I.cell, ?_, fun x c q => ?_, fun p hp' => ?_, fun b o q => ?_, I.len⟩
  · rw [wo_ne (fun z => by rw [z, h0] at q; cases q)]; exact I.base.free b o q n hx
  · obtain ⟨m, q'⟩ := I.base.tbls b ps q; exact ⟨m, ne _ _ q' (fun _ z => nomatch z)⟩
  · rw [wo_ne (fun z => by have := I.free; rw [z, hH] at this; cases this)]; exact I.free
  · rw [wo_ne (fun z => by have := I.freeC x c q; rw [z, hH] at this; cases this)]; exact I.freeC x c q
  · obtain ⟨a1, a2, a3, a4, a5⟩ := I.pin p hp'
    exact ⟨a1, by rw [wo_ne (fun z => by rw [z, hH] at a2; cases a2)]; exact a2, a3, a4, a5⟩
  · have hb : b ≠ e := fun z => by rw [z, wo_at] at q; cases q
    rw [wo_ne hb] at q
    exact (I.hok b o q).stay (fun _ _ _ z => z) (fun c z => ne _ _ z (fun _ z => nomatch z)) fun c xs z => ne _ _ z (fun _ z => nomatch z)
/-- such an exception, newly made, leaves a def -/
theorem leave_far {X : Cx} {pins : List (Addr × Obj)} {σ : St} {H : Hp} {s : Shared} {e C dx t : Addr} {Q : Unit → Shared → Prop} {E : Value → Shared → Prop} (I : Inv X pins σ H s) (hx : X.ex = []) (hs : X.stack = X.env :: X.outer ∧ X.env.frame = some X.env.locals)
    (h0 : X.s₀.heap.get? e = none) (hH : H e = none) (hL : e ≠ X.env.locals) (he : s.heap.get? e = some (exo C (some dx) t)) (hQ : ∀ s', LiesD X.prog X.w X.outer X.H₀ X.s₀ e C dx H s' → Q () s') : wpAny (model X.prog X.w) X.A (leaving X.env (.ref e)) Q E s := by
  have hin : ∀ env ∈ X.stack, ∀ b, env.frame = some b → b ∈ e :: frs X.stack := fun env he b hb => .tail _ (List.mem_filterMap.mpr ⟨env, he, hb⟩)
  have fr := PySem.W.funFrames_hide (as := e :: frs X.stack) I.stack hin
  have fro : s.heap.FunFrames (PySem.W.hideAll s.heap (e :: frs X.stack)) X.outer := by have := fr; rw [hs.1] at this; rw [hs.1]; exact this.2.2
  have ub : Un (frs X.outer) [] X.H₀ H X.s₀.heap s.heap := by have := I.base; rw [hx] at this; exact this
  have fu : ∀ b ∈ frs X.outer, H b = none := fun b hb => I.stkFree b (by rw [hs.1]; unfold frs; rw [List.filterMap_cons, hs.2]; exact .tail _ hb)
  have kq : Kpt (PySem.W.hideAll s.heap (e :: frs X.stack)) X.outer H X.s₀.heap s.heap := fun b o q z => by
    refine PySem.W.hideAll_get _ q fun hb => ?_
    rcases List.mem_cons.mp hb with rfl | hb
    · rcases z with z | z
      · exact z hH
      · exact z.1 h0
    · rcases z with z | ⟨z1, z2⟩
      · exact z (I.stkFree b hb)
      · rw [hs.1] at hb
        unfold frs at hb
        rw [List.filterMap_cons, hs.2] at hb
        rcases List.mem_cons.mp hb with rfl | hb
        · cases w : X.s₀.heap.get? X.env.locals with
          | none => exact z1 w
          | some u => exact absurd (Nat.lt_of_lt_of_le (Heap.lt_size w) I.ok.above) (Nat.lt_irrefl _)
        · exact z2 hb
  have fresh : (PySem.W.hideAll s.heap (e :: frs X.stack)).get? e = none := PySem.W.hideAll_none _ (.head _)
  have w := wpAny_leaving_firstW (M := model X.prog X.w) (A := X.A) (E := E) (s := s) (base := PySem.W.hideAll s.heap (e :: frs X.stack)) (env := X.env) (outer := X.outer) (L := X.env.locals) (e := e) (a0 := .ref t) (Q := fun _ s' => Lies X.prog X.w X.outer X.H₀ X.s₀ e C H s') (by rw [I.ok.frames, hs.1]) (by rw [← hs.1]; exact fr) hs.2 he (fun b o q => PySem.W.of_hideAll _ q) fresh rfl rfl rfl fun h' hL' => ?_
  · exact wpAny_mono (wp_gent gent_leaving ⟨_, he, rfl⟩ w) (fun _ s' q => hQ s' ⟨q.1, q.2⟩) fun _ _ q => q.1
  · obtain ⟨k1, ⟨_, _, k2⟩, k3, k4⟩ := hL'
    obtain ⟨u2, h2, kp2⟩ := un_move ub kq I.hok fro fu k1 k4
    exact ⟨I.os, I.bare, u2, h2, h0, fu, _, _, ⟨k1, fresh, k2, k3⟩, kp2⟩
end DL

set_option Elab.async false
set_option linter.all false
set_option maxRecDepth 100000
namespace DL
open PySem L2
/-- what __init__ is handed and what it leaves -/
def spI (C : Addr) (m : Nat) : Sp := fun vs H Q _ => ∃ F e n, vs = [.ref e, .int n] ∧ n.natAbs ≤ m ∧ Same F H ∧ H e = some (.ext (ExO C none e)) ∧ ∀ F1 H1 dx, Ext F H F1 H1 → dx ≠ e → H1 dx = none → Q .non (upX H1 C e dx n)
def tFar (Y : Cy) (c : List Slot) (C : Addr) (n : Int) : TS := fun D σ H => ∃ F e, EnvY Y F H σ c ∧ σ[0]? = some (some (.ref e)) ∧ H e = some (.ext (ExO C none e)) ∧ ∀ F1 H1 dx, Ext F H F1 H1 → dx ≠ e → H1 dx = none → D.nx σ (upX H1 C e dx n)
section
variable {Y : Cy} {T : Tx} {k j : Nat} {N G ps : List Str} {c : List Slot} {js a e : Expr} {es : List Expr} {z : Str} {x y cl sf fr qual : Str} {pos p p1 p2 p3 p5 p6 q1 q2 q3 q4 cpos : Pos} {C D fI : Addr} {n : Int} {d : DL.D} {ds : List DL.D} {P : Out → Prop} {rest : List Stmt} {R : List DL.D → DL.Rs → Prop}
/-- Base.__init__(self, text); self.far = far -/
theorem pss_far (S : Sc Y T k N G) (gi : Nat) (Z : FarK T.K C D fI) (hm : T.mg y = some (.ref D)) (hj : EvD Y js c (.str z)) (hv : slot c 1 = .val (.int n)) {pl : Sem Bool} (hi : N[0]? = some sf := by rfl) (hi1 : N[1]? = some fr := by rfl) (hg : G[gi]? = some y := by rfl)
    (he : eval (.Call (.Attribute (.Name y p1) "__init__" p2) [.Name sf p3, js] [] p5) Y.X.env = (do
      let ov ← eval (.Name y p1) Y.X.env
      standAt p2.atName
      let (f, first) ← holding [ov] (getMethod ov "__init__" pl)
      callWith p5 f first (backTo p5 (starEach [.Name sf p3, js] Y.X.env)) (backToKw p5 (keywordEach [] Y.X.env))) := by rfl) 
    (h1 : starEach [.Name sf p3, js] Y.X.env = (false, eval (.Name sf p3) Y.X.env) :: starEach [js] Y.X.env := by rfl) (h2 : starEach [js] Y.X.env = (false, eval js Y.X.env) :: starEach [] Y.X.env := by rfl) (hpl : (backTo p5 (starEach [js] Y.X.env)).any (·.1) = false := by rfl)
    (hs1 : swapsWith (.Call (.Attribute (.Name y p1) "__init__" p2) [.Name sf p3, js] [] p5) none p6.line Y.X.env = pure false := by rfl) (hs2 : swapsWith (.Name fr q3) (some (.Attribute (.Name sf q1) "far" q2)) q4.line Y.X.env = pure false := by rfl) :
    PSs Y.X [.Expr (.Call (.Attribute (.Name y p1) "__init__" p2) [.Name sf p3, js] [] p5) p6, .Assign [.Attribute (.Name sf q1) "far" q2] (.Name fr q3) q4] (tFar Y c C n) := by
  have st1 := ps_expr (pe_init (p1 := p1) (p2 := p2) (p3 := p3) (p5 := p5) S.toSn 0 gi Z hm hj (pl := pl) hi hg he h1 h2 hpl) hs1
  have st2 : PS Y.X (.Assign [.Attribute (.Name sf q1) "far" q2] (.Name fr q3) q4) (tFar Y c C n) := by
    intro pins s σ H D' I ⟨F, e, E, hσ, hH, q⟩
    have hx := S.loc sf (List.mem_of_getElem? hi)
    have hx1 := S.loc fr (List.mem_of_getElem? hi1)
    have hi' := hi
    have hi1' := hi1
    rw [← S.n] at hi' hi1'
    have Z' : FarK Y.X.K C D fI := by rw [S.eK]; exact Z
    obtain ⟨v, ev, rv⟩ := E.val hv
    cases rv
    refine plainObj_wpAny_Assign_Attribute (thn (pe_var hi1' (hx1.1.elim .inl fun h => .inr (.inl h)) hx1.2.1 hx1.2.2 pins s σ H (fun v H1 => v = .int n ∧ H1 = H) I ⟨_, ev, rfl, rfl⟩) fun u s1 ⟨w1, H1, I1, ry, ew, eh⟩ => thn (pe_var hi' (hx.1.elim .inl fun h => .inr (.inl h)) hx.2.1 hx.2.2 pins s1 σ H1 (fun v H2 => v = .ref e ∧ H2 = H1) I1 ⟨_, hσ, rfl, rfl⟩) fun ov s2 ⟨w2, H2, I2, rx, ew2, eh2⟩ => ?_) hs2
    subst ew eh ew2 eh2
    cases (show ov = Value.ref e from rx)
    obtain ⟨⟨t0, ht⟩, _⟩ := (show ObjOk Y.X.prog Y.X.w H2 s2.heap e (.ext (ExO C none e)) from I2.hok e _ hH)
    obtain ⟨hp, g, dr, tk, os⟩ := s2
    refine set_far I2.kIn Z' ht fun h' dx tk' hne hdx kp ht' hn => ?_
    have Hd : H2 dx = none := by
      cases w : H2 dx with
      | none => rfl
      | some o => obtain ⟨ob, w2⟩ := (I2.hok dx o w).there; rw [hdx] at w2; cases w2
    exact ⟨σ, _, I2.far (t' := tk') hH hne hdx kp ht' hn ry, q F H2 dx (Ext.refl E.fh) hne Hd⟩
  refine PSs.imp (pss_cons st1 (pss_one st2)) fun D' σ H ⟨F, e, E, hσ, hH, q⟩ => ⟨F, e, E, hσ, hH, fun F1 H1 x1 => ⟨F1, e, E.grow x1, hσ, x1.hh _ _ hH, fun F2 H2 dx x2 => q F2 H2 dx (x1.trans x2)⟩⟩
theorem fn_init {m : Nat} {fd : FuncData} {st : Stmt} (F : Fun T.K x qual st fI fd) (B : ScB [sf, fr] [sf, fr] G (defScope st))
    (body : ∀ (Y : Cy) (S : Sc Y T k [sf, fr] G) (n : Int), n.natAbs ≤ m → PSs Y.X (defBody st) (tFar Y [.un, .val (.int n)] C n)) : FnOk T.prog T.w T.K T.mg T.base CX0 (k + 1) fI fd [sf, fr] (spI C m) := by
  refine F.ok B.fs (fun vs H Q E h => ?_) fun cdv A outer s H vs Q E hr h => ?_
  · obtain ⟨F0, e, n, rfl, _⟩ := h; rfl
  · obtain ⟨F0, e, n, rfl, hn, f0, hH, q⟩ := h
    have S : Sc ⟨(cxOf CX0 T.prog T.w T.K T.mg T.base [sf, fr] qual (defScope st) fI cdv A outer s H E).nox, F0, H⟩ T k [sf, fr] G :=
      ⟨⟨⟨rfl, rfl, rfl, rfl, rfl, rfl, B.fs.nd, B.loc, B.gl⟩, rfl, hr⟩, fun _ => rfl, PassesOwn.never⟩
    refine ⟨_, body _ S n hn, F0, e, ⟨Ext.refl f0, rfl, fun i => ?_, fun i j a h1 _ _ _ => ?_⟩, rfl, hH, fun F1 H1 dx x1 hne hd => q F1 H1 dx x1 hne hd⟩
    · cases i with
      | zero => exact trivial
      | succ i =>
        cases i with
        | zero => exact ⟨_, rfl, .int n⟩
        | succ i => show SlotOk T.K H F0 H _ (slot [] i); exact trivial
    · cases i with
      | zero => cases h1
      | succ i =>
        cases i with
        | zero => cases h1
        | succ i => cases h1
end
end DL

set_option Elab.async false
set_option linter.all false
set_option maxRecDepth 100000
namespace DL
open PySem L2
inductive Rf where
  | ok (d : D) | far (n : Int)
def spZ (T : Tx) (cl : Str) (R : List D → Rf → Prop) : Sp := fun vs H Q E => ∃ F ds r, Same F H ∧ Reps T.K F vs ds ∧ R ds r ∧ (match r with
  | .ok d => ∀ v F' H', Ext F H F' H' → Rep T.K F' v d → Q v H'
  | .far n => ∀ C dx F' H', T.mg cl = some (.ref C) → Ext F H F' H' → F' dx = some (.xd (farF n)) → E (.ref C) (some dx) H')
structure FnZ (T : Tx) (k : Nat) (x cl : Str) (R : List D → Rf → Prop) : Prop where
  ex : ∃ (f : Addr) (fd : FuncData) (ps : List Str), T.mg x = some (.ref f) ∧ PySem.W.keepIn T.K (.ref f) = true ∧ Binds T.K fd ps [] ∧ FnOk T.prog T.w T.K T.mg T.base (CXF T.prog T.w) k f fd ps (spZ T cl R)
/-- a refusal with a field that arrives here, or is raised here, is as it is wanted -/
structure RzD (Y : Cy) (C : Addr) (n : Int) (c : List Slot) : Prop where
  fly : ∀ {pins : List (Addr × Obj)} {σ : St} {F H F' H' : Hp} {s s' : Shared} {e dx : Addr}, Inv Y.X pins σ H s → EnvY Y F H σ c → Ext F H F' H' → LiesD Y.X.prog Y.X.w Y.X.stack H s e C dx H' s' → F' dx = some (.xd (farF n)) → Y.X.xe (.ref e) s'
structure RzDM (Y : Cy) (C : Addr) (n : Int) (c : List Slot) : Prop where
  made : ∀ {pins : List (Addr × Obj)} {σ : St} {F H : Hp} {s : Shared} {e dx t : Addr}, Inv Y.X pins σ H s → EnvY Y F H σ c → F dx = some (.xd (farF n)) → Y.X.s₀.heap.get? e = none → H e = none → e ≠ Y.X.env.locals → s.heap.get? e = some (exo C (some dx) t) → Y.X.xe (.ref e) s
def RzDN (Y : Cy) (T : Tx) (cl : Str) (n : Int) (c : List Slot) : Prop := ∀ C, T.mg cl = some (.ref C) → RzD Y C n c
def RzDMN (Y : Cy) (T : Tx) (cl : Str) (n : Int) (c : List Slot) : Prop := ∀ C, T.mg cl = some (.ref C) → RzDM Y C n c
def RetZ : Rf → Out → Prop
  | .ok d => Ret d
  | .far _ => fun _ => False
section
variable {Y : Cy} {T : Tx} {k j : Nat} {N G ps : List Str} {c : List Slot} {e : Expr} {es : List Expr} {pos p cpos : Pos} {d : D} {ds : List D} {R : List D → Rf → Prop} {x qual cl : Str} {P : Out → Prop} {rest : List Stmt} {n : Int}
theorem fn_Z {st : Stmt} (A : At T x st) (B : ScB N ps G (defScope st)) (hb : ∀ f fd, Fun T.K x x st f fd → Binds T.K fd ps []) (hlen : ∀ ds d, R ds d → ds.length = ps.length)
    (body : ∀ (Y : Cy) (S : Sc Y T k N G) (Z : Fx Y st) (ds : List D) (r : Rf), R ds r → (∀ n, r = .far n → ∀ c, RzDN Y T cl n c ∧ RzDMN Y T cl n c) → SsD Y (defBody st) (ctx0 N ds) (RetZ r)) : FnZ T (k + 1) x cl R := by
  obtain ⟨f, fd, F, hm⟩ := A
  refine ⟨f, fd, ps, hm, F.kp, hb f fd F, ?_⟩
  obtain ⟨oc, od, kV, doc, pm, an, cdv, ct, osl, rfl, lk, hcd⟩ := F.ex
  refine fn_of lk hcd B.fs (fun vs H Q E h => ?_) fun A outer s H vs Q E hr h => ?_
  · obtain ⟨F0, ds, d, _, r, hR, _⟩ := h
    rw [r.length]; exact hlen ds d hR
  · obtain ⟨F0, ds, r, f0, rs, hR, q⟩ := h
    have S : Sc ⟨cxOf (CXF T.prog T.w) T.prog T.w T.K T.mg T.base N x (defScope st) f cdv A outer s H E, F0, H⟩ T k N G :=
      ⟨⟨⟨rfl, rfl, rfl, rfl, rfl, rfl, B.fs.nd, B.loc, B.gl⟩, rfl, hr⟩, fun _ => rfl, PassesOwn.leaving⟩
    refine ⟨_, body _ S ⟨rfl, rfl, rfl, rfl⟩ ds r hR (fun n hn c => ?_), F0, env_start f0 rs, fun o ho => ?_⟩
    · subst hn
      have q : ∀ C dx F' H', T.mg cl = some (.ref C) → Ext F0 H F' H' → F' dx = some (.xd (farF n)) → E (.ref C) (some dx) H' := q
      exact ⟨fun C hC => ⟨fun I En ex L hF => leave_onD I rfl ⟨rfl, rfl⟩ L fun s' L => ⟨_, C, _, _, rfl, L, q C _ _ _ hC (En.ext.trans ex) hF⟩⟩,
        fun C hC => ⟨fun I En hF h0 hH hL he => leave_far I rfl ⟨rfl, rfl⟩ h0 hH hL he fun s' L => ⟨_, C, _, _, rfl, L, q C _ _ _ hC En.ext hF⟩⟩⟩
    · cases r with
      | far n => exact False.elim ho
      | ok d =>
        have q : ∀ v F' H', Ext F0 H F' H' → Rep T.K F' v d → Q v H' := q
        cases o with
        | rt e => cases ho; exact fun v F' H' _ x r' => q v F' H' x r'
        | nx c => cases ho; exact fun σ F' H' _ E' => q .non F' H' E'.ext .non
        | bk c => exact False.elim ho
        | ct c => exact False.elim ho
        | ro ds => exact False.elim ho
        | rs R => exact False.elim ho
theorem ev_callZ (S : Se Y T k N G) (gi : Nat) (Fn : FnZ T j x cl R) (hj : j ≤ k) (ha : ArD Y (e :: es) c ds) (hR : R ds (.ok d)) (hg : G[gi]? = some x := by rfl)
    (he : starEach (e :: es) Y.X.env = (false, eval e Y.X.env) :: starEach es Y.X.env := by rfl) (hpl : (backTo pos (starEach es Y.X.env)).any (·.1) = false := by rfl) : EvD Y (.Call (.Name x p) (e :: es) [] pos) c d := by
  obtain ⟨f, fd, ps, hm, hk, hb, F⟩ := Fn.ex
  have F' : FnOk Y.X.prog Y.X.w Y.X.K Y.X.mg Y.X.base (CXF Y.X.prog Y.X.w) j f fd ps (spZ T cl R) := by rw [S.eP, S.eW, S.eK, S.eM, S.eB]; exact F
  have gl := S.gl x (List.mem_of_getElem? hg)
  refine PE.imp (pe_call (E := E0) F' (S.room.mono hj) gl.1 (by rw [S.eM]; exact hm) (by rw [S.eK]; exact hk) (by rw [S.eK]; exact hb) .nil (fun _ _ _ _ _ _ _ ⟨_, _, _, _, _, _, z⟩ => z.elim) ha gl.2.1 he hpl) fun σ H Q ⟨F, E, q⟩ => ⟨F, E, fun vs F1 H1 e1 r1 => ?_⟩
  show spZ T cl R (vs ++ []) H1 Q E0
  rw [List.append_nil]
  refine ⟨F1, ds, .ok d, e1.fh, by rw [← S.eK]; exact r1, hR, fun v F2 H2 e2 r2 => q v F2 H2 (e1.trans e2) (by rw [← S.eK] at r2; exact r2)⟩
theorem ev_callZX (S : Se Y T k N G) (gi : Nat) (Fn : FnZ T j x cl R) (hj : j ≤ k) (ha : ArD Y (e :: es) c ds) (hR : R ds (.far n)) (hz : RzDN Y T cl n c) (hg : G[gi]? = some x := by rfl)
    (he : starEach (e :: es) Y.X.env = (false, eval e Y.X.env) :: starEach es Y.X.env := by rfl) (hpl : (backTo pos (starEach es Y.X.env)).any (·.1) = false := by rfl) : EvX Y (.Call (.Name x p) (e :: es) [] pos) c := by
  obtain ⟨f, fd, ps, hm, hk, hb, F⟩ := Fn.ex
  have F' : FnOk Y.X.prog Y.X.w Y.X.K Y.X.mg Y.X.base (CXF Y.X.prog Y.X.w) j f fd ps (spZ T cl R) := by rw [S.eP, S.eW, S.eK, S.eM, S.eB]; exact F
  have gl := S.gl x (List.mem_of_getElem? hg)
  intro pins s σ H Q I ⟨F0, E⟩
  refine wpAny_Call_Name_kw (ld_glob I gl.1 (by rw [S.eM]; exact hm) ?_ gl.2.1)
  refine PySem.W.callWith_K (h₀ := Y.X.base) I.ok.mod.kin (by rw [S.eK]; exact hk) (thn (ha pos pins s σ H (fun vs H1 => ∃ F1, Ext F0 H F1 H1 ∧ Reps Y.X.K F1 vs ds) I ⟨F0, E, fun vs F1 H1 e1 r1 => ⟨F1, e1, r1⟩⟩) fun us s1 ⟨vs, H1, I1, r, F1, e1, rs⟩ => ⟨I1.kIn, ?_⟩) he hpl
  have h : spZ T cl R vs H1 (fun _ _ => False) (fun cls od H' => ∃ C dx F', cls = .ref C ∧ od = some dx ∧ T.mg cl = some (.ref C) ∧ Ext F1 H1 F' H' ∧ F' dx = some (.xd (farF n))) :=
    ⟨F1, ds, .far n, e1.fh, by rw [← S.eK]; exact rs, hR, fun C dx F' H' hC ex hF => ⟨C, dx, F', rfl, rfl, hC, ex, hF⟩⟩
  have hl : us.length = ps.length := by rw [← r.length]; exact F'.len _ _ _ _ h
  have hb' : Binds Y.X.K fd ps [] := by rw [S.eK]; exact hb
  have hb2 := hb' s1 us I1.kIn (by rw [List.append_nil]; exact hl)
  rw [List.append_nil] at hb2
  refine wpAny_call (codeAny_mono (F'.run Y.X.A Y.X.stack s1 H1 ⟨us, []⟩ us vs _ _ (S.room.mono hj) I1.env0 hb2 r h) fun r s' hq => ?_)
  cases r with
  | error e =>
    obtain ⟨a, C, dx, H', rfl, L, C', dx', F', z, z2, hC, ex, hF⟩ := hq
    cases z
    cases z2
    exact (hz C hC).fly I1 (E.grow e1) ex L hF
  | ok fl =>
    cases fl with
    | ret u => obtain ⟨_, _, _, _, _, _, _, z⟩ := hq; exact z.elim
    | next => exact False.elim hq
    | brk => exact False.elim hq
    | cont => exact False.elim hq
/-- raise TooFar(far) -/
theorem ss_raiseF {C D' fI : Addr} {m : Nat} {fd : FuncData} {ps' : List Str} (S : Sc Y T k N G) (gi : Nat) (hex : Y.X.ex = []) (Z : FarK T.K C D' fI) (hm : T.mg cl = some (.ref C)) (hk : PySem.W.keepIn T.K (.ref C) = true) (FI : FnOk T.prog T.w T.K T.mg T.base CX0 j fI fd ps' (spI C m)) (hj : j + 1 ≤ k) (hb : Binds T.K fd ps' [])
    (ha : EvD Y e c (.int n)) (hn : n.natAbs ≤ m) (hz : RzDMN Y T cl n c) (hg : G[gi]? = some cl := by rfl)
    (he : starEach [e] Y.X.env = (false, eval e Y.X.env) :: starEach [] Y.X.env := by rfl) : SsD Y (.Raise (some (.Call (.Name cl p) [e] [] cpos)) none pos :: rest) c P := by
  have gl := S.gl cl (List.mem_of_getElem? hg)
  refine ss_cons fun pins s σ H D I ⟨F, E, _⟩ => ?_
  have Z' : FarK Y.X.K C D' fI := by rw [S.eK]; exact Z
  have FI' : FnOk Y.X.prog Y.X.w Y.X.K Y.X.mg Y.X.base CX0 j fI fd ps' (spI C m) := by rw [S.eP, S.eW, S.eK, S.eM, S.eB]; exact FI
  have hb' : Binds Y.X.K fd ps' [] := by rw [S.eK]; exact hb
  rw [arm_exec_Raise]
  refine wpAny_bind (wpAny_standAt (raise_far (K := Y.X.K) Z'.fa S.room.hd (wpAny_bind (wpAny_mono (?_ : wpAny _ _ (eval (.Call (.Name cl p) [e] [] cpos) Y.X.env) _ _ _) (fun v s₃ h₃ => wpAny_bind (wpAny_standAt (wpAny_pure h₃))) fun _ _ x => x))))
  refine wpAny_Call_Name_kw (ld_glob I gl.1 (by rw [S.eM]; exact hm) ?_ gl.2.1)
  have ar : PA Y.X [e] _ := pa_cons ha pa_nil he
  refine PySem.W.callWith_K (h₀ := Y.X.base) I.ok.mod.kin (by rw [S.eK]; exact hk) (thn (ar cpos pins s σ H (fun vs H1 => ∃ F1, Ext F H F1 H1 ∧ vs = [.int n]) I ⟨F, E, fun v F1 H1 e1 r1 => by cases r1; exact ⟨F1, e1, rfl⟩⟩) fun us s1 ⟨vs, H1, I1, r, F1, e1, ev⟩ => ⟨I1.kIn, ?_⟩) he rfl
  subst ev
  obtain ⟨u, rfl, ru⟩ : ∃ u, us = [u] ∧ RelV (.int n) u := by
    cases r with
    | cons r1 r2 => cases r2; exact ⟨_, rfl, r1⟩
  obtain ⟨hp, g, dr, tk, os⟩ := s1
  refine call_far I1.kIn Z' fun h' a t' kp hnew hat => ?_
  have Ha : H1 a = none := by
    cases w : H1 a with
    | none => rfl
    | some o => obtain ⟨ob, w2⟩ := (I1.hok a o w).there; rw [hnew] at w2; cases w2
  have a0 : Y.X.s₀.heap.get? a = none := new_in I1 hex hnew
  have aL : a ≠ Y.X.env.locals := fun w => by
    obtain ⟨mm, ⟨oL, _, _, hoL, _⟩, _⟩ := I1.loc
    rw [← w, hnew] at hoL; cases hoL
  have I2 := (I1.kept (h' := h') (t' := tk) kp).track (e := a) (φ := ExO C none a) Ha a0 aL (fun y c' w z => by
    obtain ⟨v, o, ho, _⟩ := I1.cell y c' w
    rw [z, hnew] at ho; cases ho) (fun q hq z => by
    have w := (I1.pin q hq).1
    rw [z, hnew] at w; cases w) (exo_ok hat)
  have f1 : Same F1 (upd H1 a (.ext (ExO C none a))) := fun b u w => by rw [upd_ne (fun z => by rw [z] at w; rw [e1.fh _ _ w] at Ha; cases Ha)]; exact e1.fh _ _ w
  have Fa : F1 a = none := none_of e1.fh Ha
  have h : spI C m [.ref a, .int n] (upd H1 a (.ext (ExO C none a))) (fun v H' => v = .non ∧ ∃ F2 H2 dx, H' = upX H2 C a dx n ∧ Ext F1 (upd H1 a (.ext (ExO C none a))) F2 H2 ∧ dx ≠ a ∧ H2 dx = none) E0 :=
    ⟨F1, a, n, rfl, hn, f1, upd_same, fun F2 H2 dx x2 hne hd => ⟨rfl, F2, H2, dx, rfl, x2, hne, hd⟩⟩
  have r2 : Vals [.ref a, .int n] [Value.ref a, u] := .cons rfl (.cons ru .nil)
  have hb2 := hb' ⟨h', g, dr, tk, os⟩ [Value.ref a, u] I2.kIn (by rw [List.append_nil]; exact (r2.length.symm.trans (FI'.len _ _ _ _ h)))
  rw [List.append_nil] at hb2
  refine wpAny_call (codeAny_mono (FI'.run _ Y.X.stack _ _ ⟨[Value.ref a, u], []⟩ [Value.ref a, u] _ _ E0 ((S.room.mono hj).make C [u] []) (I2.env0.make C [u] []) hb2 r2 h) fun r s' hq => ?_)
  cases r with
  | error e => exact False.elim hq
  | ok fl =>
    cases fl with
    | next => exact False.elim hq
    | brk => exact False.elim hq
    | cont => exact False.elim hq
    | ret w =>
      obtain ⟨v, H', I3, rv, ev, F2, H2, dx, eh, x2, hne, hd⟩ := I2.after hq
      subst ev eh
      cases (show w = Value.none from rv)
      have ae : upX H2 C a dx n a = some (.ext (ExO C (some dx) a)) := upX_e (Ne.symm hne)
      obtain ⟨⟨t2, ht⟩, _⟩ := (show ObjOk Y.X.prog Y.X.w (upX H2 C a dx n) s'.heap a (.ext (ExO C (some dx) a)) from I3.hok a _ ae)
      have F2a : F2 a = none := x2.fr a (by rw [upd_same]; exact fun z => nomatch z) Fa
      have up : ∀ b, b ≠ a → upd H1 a (.ext (ExO C none a)) b = H1 b := fun b w => upd_ne w
      have nb : ∀ b, H1 b ≠ none → b ≠ a := fun b w z => w (by rw [z]; exact Ha)
      have nd : ∀ b, H1 b ≠ none → b ≠ dx := fun b w z => by
        cases q : H1 b with
        | none => exact w q
        | some u => have := x2.hh b u ((up b (nb b w)).trans q); rw [z, hd] at this; cases this
      have X3 : Ext F1 H1 (upd F2 dx (.xd (farF n))) (wo (upX H2 C a dx n) a) := ⟨fun b u w => by
          have w2 := x2.ff b u w
          rw [upd_ne (fun z => by rw [z] at w2; rw [x2.fh _ _ w2] at hd; cases hd)]
          exact w2, fun b u w => by
          by_cases z : b = dx
          · subst z
            rw [upd_same] at w
            rw [wo_ne hne, upX_d]
            exact w
          · rw [upd_ne z] at w
            have zb : b ≠ a := fun q => by rw [q, F2a] at w; cases w
            rw [wo_ne zb, upX_n zb z]
            exact x2.fh b u w, fun b u w => by
          have w1 : H1 b ≠ none := by rw [w]; exact fun z => nomatch z
          rw [wo_ne (nb b w1), upX_n (nb b w1) (nd b w1)]
          exact x2.hh b u ((up b (nb b w1)).trans w), fun b w q => by
          rw [upd_ne (nd b w)]
          exact x2.fr b (by rw [up b (nb b w)]; exact w) q⟩
      have I4 := inv_drop I3 a0 ae
      refine ⟨rfl, a, some dx, t2, rfl, I3.kIn, ht, ?_⟩
      exact (hz C hm).made I4 ((E.grow e1).grow X3) upd_same a0 (wo_at _ _) aL ht
end
end DL

set_option Elab.async false
set_option linter.all false
set_option maxRecDepth 100000
namespace DL
open PySem L2 PySem.W PyProof.Rows
theorem ss_tryZ {Y : Cy} {T : Tx} {k : Nat} {N G : List Str} {c : List Slot} {pos px hpos : Pos} {x nm cl : Str} {body suite : List Stmt} {b₀ : Stmt} {rest : List Stmt} {P : Out → Prop} {Ct : Addr} {st : Stmt} (S : Sc Y T k N G) (Z : Fx Y st) (i gi : Nat) (n : Int) (q0 : Prop)
    (hlo : (defScope st).names.lookup nm = some .local) (hx : T.mg x = some (.ref Ct)) (hmt : ∀ C, T.mg cl = some (.ref C) → PySem.W.exmOne T.K (.ref C) (.ref Ct) = some true)
    (hb : ∀ (Y' : Cy) (S' : Sc Y' T k N G), (q0 → RzDN Y' T cl n c) → SsD Y' body c (Thn Y rest P))
    (hh : ∀ (Yh : Cy) (Sh : ScH Yh T k N G) (C dx : Addr), q0 → T.mg cl = some (.ref C) → Yh.F0 dx = some (.xd (farF n)) → SsD Yh (b₀ :: suite) (put c i (.exc C (some dx))) (Gone Y rest i P))
    (hi : N[i]? = some nm := by rfl) (hg : G[gi]? = some x := by rfl) (hlt : i < c.length := by first | exact of_decide_eq_true rfl | decide | omega) :
    SsD Y (.Try body [.ExceptHandler (some (.Name x px)) (some nm) (b₀ :: suite) hpos] [] [] pos :: rest) c P := by
  refine ss_cons fun pins s σ H D I ⟨F, E, m⟩ => wpAny_Try_except ?_
  have gl := S.gl x (List.mem_of_getElem? hg)
  have hl : Y.X.env.scope.names.lookup nm = some .local := by rw [Z.sc]; exact hlo
  have hN : Y.X.N.Nodup := by rw [S.n]; exact S.nd
  have hiX : Y.X.N[i]? = some nm := by rw [S.n]; exact hi
  have locn := S.loc nm (List.mem_of_getElem? hi)
  have frk : ∀ e, (Y.X.A.mark (some e)).frames = some Y.X.stack := fun e => I.ok.frames
  generalize hxe : (fun (e : Value) (s₁ : Shared) => wpAny (model Y.X.prog Y.X.w) Y.X.A (noteFrame e Y.X.env) (fun _ s₂ => wpAny (model Y.X.prog Y.X.w) Y.X.A (setFlight e none) (fun _ s₃ => wpAny (model Y.X.prog Y.X.w) Y.X.A (handleBy e Y.X.env [.ExceptHandler (some (.Name x px)) (some nm) (b₀ :: suite) hpos]) (SP Y.X pins D) Y.X.xe s₃) Y.X.xe s₂) Y.X.xe s₁) = xe'
  have hp' : PassesOwn (model Y.X.prog Y.X.w) Y.X.A Y.X.env xe' := by subst hxe; exact PassesOwn.looking
  have S' : Sc ⟨Y.X.tried xe' pins, F, Y.H0⟩ T k N G := ⟨⟨⟨S.eP, S.eW, S.eK, S.eM, S.eB, S.n, S.nd, S.loc, S.gl⟩, S.calm, S.room⟩, S.fn, hp'⟩
  have rz : q0 → RzDN ⟨Y.X.tried xe' pins, F, Y.H0⟩ T cl n c := by
    intro hq0 C hC
    refine ⟨fun {pins' σ F0 H F' H' s s' e dx} I0 E0' ex L hF => ?_⟩
    have I : Inv Y.X pins σ H s := I0.untried
    have E1 : Env Y.X.K F Y.H0 F0 H σ c := E0'
    obtain ⟨B, a0, fl, kp⟩ := L.fly
    subst hxe
    have stk : Y.X.stack = Y.X.env :: Y.X.outer := Z.stk.1
    have fl' : Heap.FlyingW B (Y.X.env :: Y.X.outer) e (.ref C) a0 s'.heap := by rw [← stk]; exact fl
    have w1 := wp_gent (E := Y.X.xe) gent_noteFrame L.dict (wpAny_looks_onW (M := model Y.X.prog Y.X.w) (A := Y.X.A) (E := Y.X.xe) (s := s') (Q := fun _ s₁ => ∃ h4, s₁ = { s' with heap := h4 } ∧ Heap.HeldW B (Y.X.env :: Y.X.outer) e (.ref C) a0 Y.X.env.locals h4 ∧ s'.heap.UpToSlots h4) (by rw [I.ok.frames, stk]) Z.stk.2 fl' fun h4 held up4 => ⟨h4, rfl, held, up4⟩)
    refine wpAny_mono w1 (fun _ s₁ q1 => ?_) fun _ _ q => q.1
    obtain ⟨⟨h4, rfl, held, up4⟩, d4⟩ := q1
    have w2 := wp_gent (E := Y.X.xe) gent_setFlight d4 (wpAny_landsW (M := model Y.X.prog Y.X.w) (A := Y.X.A) (E := Y.X.xe) (s := { s' with heap := h4 }) (Q := fun _ s₁ => ∃ h5, s₁ = { s' with heap := h5 } ∧ Heap.FlyingW B (Y.X.env :: Y.X.outer) e (.ref C) a0 h5 ∧ h4.UpToSlots h5) held fun h5 fl5 up5 => ⟨h5, rfl, fl5, up5⟩)
    refine wpAny_mono w2 (fun _ s₁ q1 => ?_) fun _ _ q => q.1
    obtain ⟨⟨h5, rfl, fl5, up5⟩, d5⟩ := q1
    obtain ⟨u5, k5, kp5⟩ := un_move L.un kp L.hok fl.2.2.1 L.fu fl5.1 (up4.trans up5)
    have I5 : Inv Y.X pins σ H' { s' with heap := h5 } := I.call' (s' := { s' with heap := h5 }) (ch := []) L.os u5 k5 L.bare (fun _ z => nomatch z)
    obtain ⟨ob, hob, hobc⟩ := fl5.there
    have LT : PySem.W.Looks (model Y.X.prog Y.X.w) h5 (typeOf (.ref e)) (.ref C) := hobc ▸ (PySem.W.Looks.ld hob).andThen .now
    have I5m : Inv (Y.X.caught (.ref e) pins) [] σ H' { s' with heap := h5 } := I5.caught (frk _)
    refine wpAny_handleBy_cons (codeAny_handlers_test (ld_glob (X := Y.X.caught (.ref e) pins) I5m gl.1 (by show Y.X.mg x = _; rw [S.eM]; exact hx) ?_ gl.2.1)) (by intro q; cases q)
    refine (PySem.W.exm_one (K := Y.X.K) I5.kIn LT (by rw [S.eK]; exact hmt C hC)).here ?_
    refine codeAny_handlers_suite_as ?_
    have w3 := fun (A' : Around) (E' : Value → Shared → Prop) => wp_gent (E := E') gent_setFlight d5 (PyProof.Rows.lands_againW (M := model Y.X.prog Y.X.w) (A := A') (E := E') (s := { s' with heap := h5 }) (Q := fun _ s₁ => ∃ h6, s₁ = { s' with heap := h6 } ∧ Heap.FlyingW B (Y.X.env :: Y.X.outer) e (.ref C) a0 h6 ∧ h5.UpToSlots h6) fl5 fun h6 fl6 up6 => ⟨h6, rfl, fl6, up6⟩)
    refine wpAny_mono (w3 _ _) (fun _ s₁ q1 => ?_) fun _ _ q => q.1
    obtain ⟨⟨h6, rfl, fl6, up6⟩, d6⟩ := q1
    have fl5r : h5.FunFrames B Y.X.stack := by rw [stk]; exact fl5.2.2.1
    obtain ⟨u6, k6, kp6⟩ := un_move u5 kp5 k5 fl5r L.fu fl6.1 up6
    have I6 : Inv Y.X pins σ H' { s' with heap := h6 } := I.call' (s' := { s' with heap := h6 }) (ch := []) L.os u6 k6 L.bare (fun _ z => nomatch z)
    have hn : H' e = none := by
      cases q : H' e with
      | none => rfl
      | some u =>
        obtain ⟨o, ho⟩ := (k6 e u q).there
        have := kp6 e o ho (.inl (by rw [q]; exact fun z => nomatch z))
        rw [fl6.2.1] at this; cases this
    have hloc : e ≠ Y.X.env.locals := fun z => by
      obtain ⟨mm, ⟨oL, _, _, hoL, _⟩, _⟩ := I.loc
      have := L.new; rw [z, hoL] at this; cases this
    have hce : ∀ x c, Y.X.env.cells.lookup x = some c → c ≠ e := fun x c q z => by
      obtain ⟨v, o, ho, _⟩ := I.cell x c q
      have := L.new; rw [← z, ho] at this; cases this
    have hpe : ∀ p ∈ Y.X.pn ++ pins, p.1 ≠ e := fun p hp z => by
      have q := (I.pin p hp).1
      have := L.new; rw [← z, q] at this; cases this
    obtain ⟨oe, vs, hoe, hoc, hod, _⟩ := fl6.first
    obtain ⟨oe2, hoe2, hdd⟩ := d6
    cases hoe.symm.trans hoe2
    have I7 : Inv Y.X pins σ (upd H' e (.ext (ExcAt C (some dx) e))) { s' with heap := h6 } :=
      I6.track hn (new_in I Z.ex L.new) hloc hce hpe ⟨⟨oe, vs, hoe, hoc, hod, fun d z => by cases z; exact hdd⟩, ⟨oe, hoe⟩, fun h1 h2 ⟨o, vs, q1, q2, q3⟩ k => ⟨o, vs, k o q1, q2, q3⟩⟩
    have I7m : Inv (Y.X.caught (.ref e) pins) [] σ (upd H' e (.ext (ExcAt C (some dx) e))) { s' with heap := h6 } := I7.caught (frk _)
    refine store_ok (X := Y.X.caught (.ref e) pins) (v := .ref e) I7m hN hiX locn.1 rfl (fun s8 I8 => ?_) (.inl (S.fn nm))
    have E7 : Env Y.X.K F Y.H0 F' (upd H' e (.ext (ExcAt C (some dx) e))) σ c := (E1.grow ex).grow (Ext.track ex.fh hn)
    have E8 : Env Y.X.K F Y.H0 F' (upd H' e (.ext (ExcAt C (some dx) e))) (σ.set i (some (.ref e))) (put c i (.exc C (some dx))) := E7.setExc hlt upd_same
    have Sh : ScH ⟨Y.X.caught (.ref e) pins, F', Y.H0⟩ T k N G := ⟨⟨S.eP, S.eW, S.eK, S.eM, S.eB, S.n, S.nd, S.loc, S.gl⟩, S.fn, ⟨S.room.dp, S.room.un⟩⟩
    have Eo : Env Y.X.K Y.F0 Y.H0 F' (upd H' e (.ext (ExcAt C (some dx) e))) (σ.set i (some (.ref e))) (put c i (.exc C (some dx))) := E.outof E8
    have w := hh _ Sh C dx hq0 hC hF [] s8 _ _ { nx := fun σ H => ∃ c2 F2, Env Y.X.K F' Y.H0 F2 H σ c2 ∧ SsD Y rest (put c2 i .un) P, rt := D.rt, bk := fun σ H => ∃ c2 F2, Env Y.X.K F' Y.H0 F2 H σ c2 ∧ P (.bk (put c2 i .un)), ct := fun σ H => ∃ c2 F2, Env Y.X.K F' Y.H0 F2 H σ c2 ∧ P (.ct (put c2 i .un)) } I8 ⟨F', E8.into, fun o ho => ?_⟩
    · refine wpAny_mono w (fun f s9 hs => ?_) fun _ _ z => False.elim z
      have back : ∀ {σ' : L2.St} {H' : Hp}, Inv (Y.X.caught (.ref e) pins) [] σ' H' s9 → Inv Y.X pins σ' H' s9 := fun J => J.uncaught I.ok.hd I.ok.frames
      cases f with
      | next =>
        obtain ⟨σ', H', J, c2, F2, E2, q⟩ := hs
        exact (back J).unname hN hiX hl fun s10 J10 => ⟨_, _, J10, m (.nx (put c2 i .un)) q _ F2 H' (E8.ext.ff.trans E2.ext.ff) (Eo.outof E2.unset)⟩
      | brk =>
        obtain ⟨σ', H', J, c2, F2, E2, q⟩ := hs
        exact (back J).unname hN hiX hl fun s10 J10 => ⟨_, _, J10, m (.bk (put c2 i .un)) q _ F2 H' (E8.ext.ff.trans E2.ext.ff) (Eo.outof E2.unset)⟩
      | cont =>
        obtain ⟨σ', H', J, c2, F2, E2, q⟩ := hs
        exact (back J).unname hN hiX hl fun s10 J10 => ⟨_, _, J10, m (.ct (put c2 i .un)) q _ F2 H' (E8.ext.ff.trans E2.ext.ff) (Eo.outof E2.unset)⟩
      | ret u =>
        obtain ⟨v, σ', H', J, r, q⟩ := hs
        exact (back J).unname hN hiX hl fun s10 J10 => ⟨v, _, _, J10, r, q⟩
    · cases o with
      | nx c2 => exact fun σ2 F2 H2 s2 E2 => ⟨c2, F2, E2, ho⟩
      | bk c2 => exact fun σ2 F2 H2 s2 E2 => ⟨c2, F2, E2, ho⟩
      | ct c2 => exact fun σ2 F2 H2 s2 E2 => ⟨c2, F2, E2, ho⟩
      | rt d => exact fun v F2 H2 s2 x r => m (.rt d) ho v F2 H2 (E8.ext.ff.trans x.ff) (Eo.ext.outof x) r
      | ro ds => exact False.elim ho
      | rs R => exact False.elim ho
  have w := hb _ S' rz [] s σ H D I.tried ⟨F, E.into, fun o ho => ?_⟩
  · refine wpAny_mono w (fun f s1 hs => ?_) fun e s1 z => by subst hxe; exact z
    cases f with
    | next => obtain ⟨σ', H', J, q⟩ := hs; exact wpAny_execs_nil ⟨σ', H', J.untried, q⟩
    | brk => obtain ⟨σ', H', J, q⟩ := hs; exact ⟨σ', H', J.untried, q⟩
    | cont => obtain ⟨σ', H', J, q⟩ := hs; exact ⟨σ', H', J.untried, q⟩
    | ret u => obtain ⟨v, σ', H', J, r, q⟩ := hs; exact ⟨v, σ', H', J.untried, r, q⟩
  · cases o with
    | nx c2 => exact fun σ2 F2 H2 s2 E2 => m (.nx c2) ho σ2 F2 H2 s2 (E.outof E2)
    | bk c2 => exact fun σ2 F2 H2 s2 E2 => m (.bk c2) ho σ2 F2 H2 s2 (E.outof E2)
    | ct c2 => exact fun σ2 F2 H2 s2 E2 => m (.ct c2) ho σ2 F2 H2 s2 (E.outof E2)
    | rt d => exact fun v F2 H2 s2 x r => m (.rt d) ho v F2 H2 s2 (E.ext.outof x) r
    | ro ds => exact fun vs F2 H2 p s2 x r hp => m (.ro ds) ho vs F2 H2 p s2 (E.ext.outof x) r hp
    | rs R => exact fun v F2 H1 H2 s2 x r => m (.rs R) ho v F2 H1 H2 s2 (E.ext.outof x) r
def farKb (K : PySem.W.Frag) (C D fI : Addr) : Bool := farIn K C && (findIn K (.ref C) "__init__" == some (some (.ref fI)) && (typeIn K (.ref fI) == some (.type "function") && (findIn K (.ref C) "__setattr__" == some (some (.builtin "object.__setattr__")) &&
  (findIn K (.ref C) "far" == some none && (readsIn K D (.type "type") && ((match findCls K (.ref D) (.type "type") "__init__" with | some (.val v) => v == .builtin "ValueError.__init__" | _ => false) && specialIn K (.ref D) "__getattribute__" == some (some (.builtin "type.__getattribute__"))))))))
theorem farK_of {K : PySem.W.Frag} {C D fI : Addr} (h : farKb K C D fI = true) : FarK K C D fI := by
  unfold farKb at h
  simp only [Bool.and_eq_true, beq_iff_eq] at h
  obtain ⟨a, b, c, d, e, f, g, i⟩ := h
  refine ⟨a, b, c, d, e, f, ?_, i⟩
  split at g
  · rename_i v hv
    rw [hv, beq_iff_eq.mp g]
  · cases g
/-- a class's method -/
def mth (s : Stmt) (i : Nat) : Stmt := match s with
  | .ClassDef _ _ _ b _ _ _ _ _ _ _ => b.getD i (.Pass ⟨0, 0, 0, 0⟩)
  | s => s
section
variable {Y : Cy} {T : Tx} {k j : Nat} {N G : List Str} {c : List Slot} {pos : Pos} {n : Int}
/-- e.far -/
theorem ev_far {z : Str} {C D' fI dx : Addr} {pz : Pos} (S : Sn Y T N G) (i : Nat) (hs : slot c i = .exc C (some dx)) (Z : FarK T.K C D' fI) (ZE : ExcK T.K C) (hF : Y.F0 dx = some (.xd (farF n))) (hi : N[i]? = some z := by rfl)
    (hb : attributeBase (.Name z pz) "far" Y.X.env (eval (.Name z pz) Y.X.env) = eval (.Name z pz) Y.X.env := by rfl) : EvD Y (.Attribute (.Name z pz) "far" pos) c (.int n) := by
  intro pins s σ H Q I ⟨F, E, q⟩
  have Z' : FarK Y.X.K C D' fI := by rw [S.eK]; exact Z
  have ZE' : ExcK Y.X.K C := by rw [S.eK]; exact ZE
  have Hd : H dx = some (.xd (farF n)) := E.ext.fh _ _ (E.ext.ff _ _ hF)
  refine attr_of hb (thn (pe_exc S i hi hs pins s σ H (fun v H1 => ∃ a, v = .ref a ∧ H a = some (.ext (ExcAt C (some dx) a)) ∧ H1 = H) I ⟨F, E, fun a ha => ⟨a, rfl, ha, rfl⟩⟩) fun u s1 ⟨x, H1, I1, rx, a, ex, ha, eh⟩ => ?_)
  subst ex eh
  obtain rfl : u = Value.ref a := rx
  obtain ⟨⟨oe, vs, h1, h2, h3, h4⟩, _⟩ := (show ObjOk Y.X.prog Y.X.w H1 s1.heap a (.ext (ExcAt C (some dx) a)) from I1.hok a _ ha)
  obtain ⟨mA, hn, hr⟩ := (show ObjOk Y.X.prog Y.X.w H1 s1.heap dx (.xd (farF n)) from I1.hok dx _ Hd)
  have rf := hr "far"
  obtain ⟨v, ev, rv⟩ : ∃ v, mA "far" = some v ∧ RelV (.int n) v := by
    cases w : mA "far" with
    | none => rw [w] at rf; exact False.elim rf
    | some v => rw [w] at rf; exact ⟨v, rfl, rf⟩
  obtain ⟨hp, g, dr, tk, os⟩ := s1
  refine get_far I1.kIn Z' ZE' h1 h2 h3 (h4 dx rfl) (Heap.Ns1.ns hn) ev ?_ ?_
  · obtain ⟨t, rfl⟩ := rv; rfl
  · exact ⟨.int n, H1, I1.tok (tk + 1), rv, q _ F H1 (Ext.refl E.fh) (.int n)⟩
end
end DL

set_option Elab.async false
set_option linter.all false
set_option maxRecDepth 100000
namespace DL
open PySem L2
section
variable {Y : Cy} {T : Tx} {k j : Nat} {N G ps : List Str} {c : List Slot} {e a b : Expr} {es : List Expr} {pos p cpos : Pos} {d d1 d2 : D} {ds : List D} {x y cl : Str} {P : Out → Prop} {rest : List Stmt} {n : Int}
theorem ev_tupZ {x1} (h : ArX Y es c) : EvX Y (.Tuple es x1 pos) c := PE.imp (pe_tup h) fun σ H Q ⟨F, E⟩ => ⟨F, E⟩
/-! a def that is handed a refusal with a field -/
def spHF (T : Tx) (cl : Str) (R : Int → D → Prop) : Sp := fun vs H Q _ => ∃ F a C dx n d, vs = [.ref a] ∧ Same F H ∧ H a = some (.ext (ExcAt C (some dx) a)) ∧ F dx = some (.xd (farF n)) ∧ T.mg cl = some (.ref C) ∧ R n d ∧ ∀ v F' H', Ext F H F' H' → Rep T.K F' v d → Q v H'
structure FnHF (T : Tx) (k : Nat) (x cl : Str) (R : Int → D → Prop) : Prop where
  ex : ∃ (f : Addr) (fd : FuncData) (ps : List Str), T.mg x = some (.ref f) ∧ PySem.W.keepIn T.K (.ref f) = true ∧ Binds T.K fd ps [] ∧ FnOkH T.prog T.w T.K T.mg T.base k f fd ps (spHF T cl R)
theorem fn_HF {R : Int → D → Prop} {st : Stmt} (A : At T x st) (B : ScB N ps G (defScope st)) (hb : ∀ f fd, Fun T.K x x st f fd → Binds T.K fd ps []) (hlen : ps.length = 1)
    (body : ∀ (Y : Cy) (S : ScH Y T k N G) (C dx : Addr) (n : Int) (d : D), T.mg cl = some (.ref C) → Y.F0 dx = some (.xd (farF n)) → R n d → SsD Y (defBody st) (ctxH N C (some dx)) (Ret d)) : FnHF T (k + 1) x cl R := by
  obtain ⟨f, fd, F, hm⟩ := A
  refine ⟨f, fd, ps, hm, F.kp, hb f fd F, ?_⟩
  obtain ⟨oc, od, kV, doc, pm, an, cdv, ct, osl, rfl, lk, hcd⟩ := F.ex
  refine fn_ofH lk hcd B.fs (fun vs H Q h => ?_) fun A outer s H vs Q hr h => ?_
  · obtain ⟨_, _, _, _, _, _, rfl, _⟩ := h; exact hlen.symm
  · obtain ⟨F0, a, C, dx, n, d, rfl, f0, hH, hF, hC, hR, q⟩ := h
    have S : ScH ⟨cxH T.prog T.w T.K T.mg T.base N x (defScope st) f cdv A outer s H, F0, H⟩ T k N G :=
      ⟨⟨rfl, rfl, rfl, rfl, rfl, rfl, B.fs.nd, B.loc, B.gl⟩, fun _ => rfl, hr⟩
    refine ⟨_, body _ S C dx n d hC hF hR, F0, env_startH f0 hH, fun o ho => ?_⟩
    cases o with
    | rt e => cases ho; exact fun v F' H' _ x r' => q v F' H' x r'
    | nx c => cases ho; exact fun σ F' H' _ E' => q .non F' H' E'.ext .non
    | bk c => exact ho.elim
    | ct c => exact ho.elim
    | ro ds => exact ho.elim
    | rs R => exact ho.elim
/-- an expression that is a refusal with a field -/
def tEx (Y : Cy) (T : Tx) (c : List Slot) (cl : Str) (n : Int) : TE := fun σ H Q => ∃ F, EnvY Y F H σ c ∧ ∀ a C dx F' H', T.mg cl = some (.ref C) → Ext F H F' H' → H' a = some (.ext (ExcAt C (some dx) a)) → F' dx = some (.xd (farF n)) → Q (.ref a) H'
def ExD (Y : Cy) (T : Tx) (e : Expr) (c : List Slot) (cl : Str) (n : Int) : Prop := PE Y.X e (tEx Y T c cl n)
theorem ex_name {z : Str} {C dx : Addr} (S : Sn Y T N G) (i : Nat) (hs : slot c i = .exc C (some dx)) (hC : T.mg cl = some (.ref C)) (hF : Y.F0 dx = some (.xd (farF n))) (hi : N[i]? = some z := by rfl) : ExD Y T (.Name z pos) c cl n :=
  PE.imp (pe_exc S i hi hs) fun σ H Q ⟨F, E, q⟩ => ⟨F, E, fun a ha => q a C dx F H hC (Ext.refl E.fh) ha (E.ext.ff _ _ hF)⟩
theorem ev_callHF {R : Int → D → Prop} (S : Sn Y T N G) (gi : Nat) (Fn : FnHF T j x cl R) (hr : RoomH j Y.X.A) (he : ExD Y T e c cl n) (hR : R n d)
    (hg : G[gi]? = some x := by rfl) (hst : starEach [e] Y.X.env = (false, eval e Y.X.env) :: starEach [] Y.X.env := by rfl) : EvD Y (.Call (.Name x p) [e] [] pos) c d := by
  obtain ⟨f, fd, ps, hm, hk, hb, F⟩ := Fn.ex
  have F' : FnOkH Y.X.prog Y.X.w Y.X.K Y.X.mg Y.X.base j f fd ps (spHF T cl R) := by rw [S.eP, S.eW, S.eK, S.eM, S.eB]; exact F
  have gl := S.gl x (List.mem_of_getElem? hg)
  intro pins s σ H Q I ⟨F0, E, q⟩
  refine wpAny_Call_Name_kw (ld_glob I gl.1 (by rw [S.eM]; exact hm) ?_ gl.2.1)
  refine PySem.W.callWith_K (h₀ := Y.X.base) I.ok.mod.kin (by rw [S.eK]; exact hk) (thn (pa_cons he pa_nil hst pos pins s σ H (fun vs H1 => ∃ a C dx F1, vs = [.ref a] ∧ Ext F0 H F1 H1 ∧ H1 a = some (.ext (ExcAt C (some dx) a)) ∧ F1 dx = some (.xd (farF n)) ∧ T.mg cl = some (.ref C)) I ⟨F0, E, fun a C dx F1 H1 hC x1 ha hF => ⟨a, C, dx, F1, rfl, x1, ha, hF, hC⟩⟩) fun us s1 ⟨vs, H1, I1, r, a, C, dx, F1, ev, x1, ha, hF, hC⟩ => ⟨I1.kIn, ?_⟩) hst rfl
  subst ev
  have h : spHF T cl R [.ref a] H1 Q E0 := ⟨F1, a, C, dx, n, d, rfl, x1.fh, ha, hF, hC, hR, fun v F' H' ex r => q v F' H' (x1.trans ex) (by rw [S.eK]; exact r)⟩
  have hl : us.length = ps.length := by rw [← r.length]; exact F'.len _ _ _ h
  have hb' : Binds Y.X.K fd ps [] := by rw [S.eK]; exact hb
  have hb2 := hb' s1 us I1.kIn (by rw [List.append_nil]; exact hl)
  rw [List.append_nil] at hb2
  refine wpAny_call (codeAny_mono (F'.run Y.X.A Y.X.stack s1 H1 ⟨us, []⟩ us _ _ hr I1.env0 hb2 r h) fun r s' hq => ?_)
  cases r with
  | error e => exact False.elim hq
  | ok fl =>
    cases fl with
    | ret u => exact I1.after hq
    | next => exact False.elim hq
    | brk => exact False.elim hq
    | cont => exact False.elim hq
/-- e.far, e any such expression -/
theorem ev_farx {C D' fI : Addr} (S : Sn Y T N G) (hC : T.mg cl = some (.ref C)) (Z : FarK T.K C D' fI) (ZE : ExcK T.K C) (he : ExD Y T e c cl n)
    (hb : attributeBase e "far" Y.X.env (eval e Y.X.env) = eval e Y.X.env := by rfl) : EvD Y (.Attribute e "far" pos) c (.int n) := by
  intro pins s σ H Q I ⟨F, E, q⟩
  have Z' : FarK Y.X.K C D' fI := by rw [S.eK]; exact Z
  have ZE' : ExcK Y.X.K C := by rw [S.eK]; exact ZE
  refine attr_of hb (thn (he pins s σ H (fun v H1 => ∃ a dx F1, v = .ref a ∧ H1 a = some (.ext (ExcAt C (some dx) a)) ∧ F1 dx = some (.xd (farF n)) ∧ Ext F H F1 H1) I ⟨F, E, fun a C2 dx F1 H1 hC2 x1 ha hF => by cases hC.symm.trans hC2; exact ⟨a, dx, F1, rfl, ha, hF, x1⟩⟩) fun u s1 ⟨x, H1, I1, rx, a, dx, F1, ex, ha, hF, x1⟩ => ?_)
  subst ex
  obtain rfl : u = Value.ref a := rx
  have Hd : H1 dx = some (.xd (farF n)) := x1.fh _ _ hF
  obtain ⟨⟨oe, vs, h1, h2, h3, h4⟩, _⟩ := (show ObjOk Y.X.prog Y.X.w H1 s1.heap a (.ext (ExcAt C (some dx) a)) from I1.hok a _ ha)
  obtain ⟨mA, hn, hr⟩ := (show ObjOk Y.X.prog Y.X.w H1 s1.heap dx (.xd (farF n)) from I1.hok dx _ Hd)
  have rf := hr "far"
  obtain ⟨v, ev, rv⟩ : ∃ v, mA "far" = some v ∧ RelV (.int n) v := by
    cases w : mA "far" with
    | none => rw [w] at rf; exact False.elim rf
    | some v => rw [w] at rf; exact ⟨v, rfl, rf⟩
  obtain ⟨hp, g, dr, tk, os⟩ := s1
  refine get_far I1.kIn Z' ZE' h1 h2 h3 (h4 dx rfl) (Heap.Ns1.ns hn) ev ?_ ?_
  · obtain ⟨t, rfl⟩ := rv; rfl
  · exact ⟨.int n, H1, I1.tok (tk + 1), rv, q _ F1 H1 x1 (.int n)⟩
/-- TooFar(e), not raised -/
theorem ex_make {C D' fI : Addr} {m : Nat} {fd : FuncData} {ps' : List Str} (S : Se Y T k N G) (gi : Nat) (hex : Y.X.ex = []) (Z : FarK T.K C D' fI) (hm : T.mg cl = some (.ref C)) (hk : PySem.W.keepIn T.K (.ref C) = true) (FI : FnOk T.prog T.w T.K T.mg T.base CX0 j fI fd ps' (spI C m)) (hj : j + 1 ≤ k) (hb : Binds T.K fd ps' [])
    (ha : EvD Y e c (.int n)) (hn : n.natAbs ≤ m) (hg : G[gi]? = some cl := by rfl)
    (he : starEach [e] Y.X.env = (false, eval e Y.X.env) :: starEach [] Y.X.env := by rfl) : ExD Y T (.Call (.Name cl p) [e] [] cpos) c cl n := by
  have gl := S.gl cl (List.mem_of_getElem? hg)
  intro pins s σ H Q I ⟨F, E, q⟩
  have Z' : FarK Y.X.K C D' fI := by rw [S.eK]; exact Z
  have FI' : FnOk Y.X.prog Y.X.w Y.X.K Y.X.mg Y.X.base CX0 j fI fd ps' (spI C m) := by rw [S.eP, S.eW, S.eK, S.eM, S.eB]; exact FI
  have hb' : Binds Y.X.K fd ps' [] := by rw [S.eK]; exact hb
  refine wpAny_Call_Name_kw (ld_glob I gl.1 (by rw [S.eM]; exact hm) ?_ gl.2.1)
  have ar : PA Y.X [e] _ := pa_cons ha pa_nil he
  refine PySem.W.callWith_K (h₀ := Y.X.base) I.ok.mod.kin (by rw [S.eK]; exact hk) (thn (ar cpos pins s σ H (fun vs H1 => ∃ F1, Ext F H F1 H1 ∧ vs = [.int n]) I ⟨F, E, fun v F1 H1 e1 r1 => by cases r1; exact ⟨F1, e1, rfl⟩⟩) fun us s1 ⟨vs, H1, I1, r, F1, e1, ev⟩ => ⟨I1.kIn, ?_⟩) he rfl
  subst ev
  obtain ⟨u, rfl, ru⟩ : ∃ u, us = [u] ∧ RelV (.int n) u := by
    cases r with
    | cons r1 r2 => cases r2; exact ⟨_, rfl, r1⟩
  obtain ⟨hp, g, dr, tk, os⟩ := s1
  refine call_far I1.kIn Z' fun h' a t' kp hnew hat => ?_
  have Ha : H1 a = none := by
    cases w : H1 a with
    | none => rfl
    | some o => obtain ⟨ob, w2⟩ := (I1.hok a o w).there; rw [hnew] at w2; cases w2
  have a0 : Y.X.s₀.heap.get? a = none := new_in I1 hex hnew
  have aL : a ≠ Y.X.env.locals := fun w => by
    obtain ⟨mm, ⟨oL, _, _, hoL, _⟩, _⟩ := I1.loc
    rw [← w, hnew] at hoL; cases hoL
  have I2 := (I1.kept (h' := h') (t' := tk) kp).track (e := a) (φ := ExO C none a) Ha a0 aL (fun y c' w z => by
    obtain ⟨v, o, ho, _⟩ := I1.cell y c' w
    rw [z, hnew] at ho; cases ho) (fun q hq z => by
    have w := (I1.pin q hq).1
    rw [z, hnew] at w; cases w) (exo_ok hat)
  have f1 : Same F1 (upd H1 a (.ext (ExO C none a))) := fun b u w => by rw [upd_ne (fun z => by rw [z] at w; rw [e1.fh _ _ w] at Ha; cases Ha)]; exact e1.fh _ _ w
  have Fa : F1 a = none := none_of e1.fh Ha
  have h : spI C m [.ref a, .int n] (upd H1 a (.ext (ExO C none a))) (fun v H' => v = .non ∧ ∃ F2 H2 dx, H' = upX H2 C a dx n ∧ Ext F1 (upd H1 a (.ext (ExO C none a))) F2 H2 ∧ dx ≠ a ∧ H2 dx = none) E0 :=
    ⟨F1, a, n, rfl, hn, f1, upd_same, fun F2 H2 dx x2 hne hd => ⟨rfl, F2, H2, dx, rfl, x2, hne, hd⟩⟩
  have r2 : Vals [.ref a, .int n] [Value.ref a, u] := .cons rfl (.cons ru .nil)
  have hb2 := hb' ⟨h', g, dr, tk, os⟩ [Value.ref a, u] I2.kIn (by rw [List.append_nil]; exact (r2.length.symm.trans (FI'.len _ _ _ _ h)))
  rw [List.append_nil] at hb2
  refine wpAny_call (codeAny_mono (FI'.run _ Y.X.stack _ _ ⟨[Value.ref a, u], []⟩ [Value.ref a, u] _ _ E0 ((S.room.mono hj).make C [u] []) (I2.env0.make C [u] []) hb2 r2 h) fun r s' hq => ?_)
  cases r with
  | error e => exact False.elim hq
  | ok fl =>
    cases fl with
    | next => exact False.elim hq
    | brk => exact False.elim hq
    | cont => exact False.elim hq
    | ret w =>
      obtain ⟨v, H', I3, rv, ev, F2, H2, dx, eh, x2, hne, hd⟩ := I2.after hq
      subst ev eh
      cases (show w = Value.none from rv)
      have ae : upX H2 C a dx n a = some (.ext (ExO C (some dx) a)) := upX_e (Ne.symm hne)
      obtain ⟨⟨t2, ht⟩, _⟩ := (show ObjOk Y.X.prog Y.X.w (upX H2 C a dx n) s'.heap a (.ext (ExO C (some dx) a)) from I3.hok a _ ae)
      have F2a : F2 a = none := x2.fr a (by rw [upd_same]; exact fun z => nomatch z) Fa
      have up : ∀ b, b ≠ a → upd H1 a (.ext (ExO C none a)) b = H1 b := fun b w => upd_ne w
      have nb : ∀ b, H1 b ≠ none → b ≠ a := fun b w z => w (by rw [z]; exact Ha)
      have nd : ∀ b, H1 b ≠ none → b ≠ dx := fun b w z => by
        cases q : H1 b with
        | none => exact w q
        | some u => have := x2.hh b u ((up b (nb b w)).trans q); rw [z, hd] at this; cases this
      have I4 := I3.write (x := a) (e := a) (o := .ext (ExcAt C (some dx) a)) (h' := s'.heap) (t' := s'.toks) (by rw [ae]; exact True.intro) (.inl rfl) (fun b u _ w => w) ⟨_, ht⟩ ⟨⟨_, _, ht, rfl, rfl, fun d z => by cases z; rfl⟩, ⟨_, ht⟩, fun h1 h2 ⟨o, vs, q1, q2, q3⟩ k => ⟨o, vs, k o q1, q2, q3⟩⟩
      have X3 : Ext F1 H1 (upd F2 dx (.xd (farF n))) (upd (upX H2 C a dx n) a (.ext (ExcAt C (some dx) a))) := ⟨fun b u w => by
          have w2 := x2.ff b u w
          rw [upd_ne (fun z => by rw [z] at w2; rw [x2.fh _ _ w2] at hd; cases hd)]
          exact w2, fun b u w => by
          by_cases z : b = dx
          · subst z
            rw [upd_same] at w
            rw [upd_ne hne, upX_d]
            exact w
          · rw [upd_ne z] at w
            have zb : b ≠ a := fun q => by rw [q, F2a] at w; cases w
            rw [upd_ne zb, upX_n zb z]
            exact x2.fh b u w, fun b u w => by
          have w1 : H1 b ≠ none := by rw [w]; exact fun z => nomatch z
          rw [upd_ne (nb b w1), upX_n (nb b w1) (nd b w1)]
          exact x2.hh b u ((up b (nb b w1)).trans w), fun b w q => by
          rw [upd_ne (nd b w)]
          exact x2.fr b (by rw [up b (nb b w)]; exact w) q⟩
      exact ⟨rfl, .ref a, _, I4, rfl, q a C dx _ _ hm (e1.trans X3) upd_same upd_same⟩
/-! a plain def that is also called within an except suite -/
structure FnDH (T : Tx) (k : Nat) (x : Str) (R : List D → D → Prop) : Prop where
  ex : ∃ (f : Addr) (fd : FuncData) (ps : List Str), T.mg x = some (.ref f) ∧ PySem.W.keepIn T.K (.ref f) = true ∧ Binds T.K fd ps [] ∧ FnOkH T.prog T.w T.K T.mg T.base k f fd ps (spD T.K R)
theorem FnDH.toD {R : List D → D → Prop} (h : FnDH T k x R) : FnD T k x R := by
  obtain ⟨f, fd, ps, hm, hk, hb, F⟩ := h.ex
  refine ⟨f, fd, ps, hm, hk, hb, ⟨fun vs H Q E z => F.len vs H Q z, fun A outer s H args us vs Q E hr e0 hb' r z => ?_⟩⟩
  refine codeAny_mono (F.run A outer s H args us vs Q ⟨hr.dp, hr.un⟩ e0 hb' r z) fun r s' q => ?_
  cases r with
  | error e => exact False.elim q
  | ok fl => exact q
theorem fn_DH {R : List D → D → Prop} {st : Stmt} (A : At T x st) (B : ScB N ps G (defScope st)) (hb : ∀ f fd, Fun T.K x x st f fd → Binds T.K fd ps []) (hlen : ∀ ds d, R ds d → ds.length = ps.length)
    (body : ∀ (Y : Cy) (S : ScH Y T k N G) (ds : List D) (d : D), R ds d → SsD Y (defBody st) (ctx0 N ds) (Ret d)) : FnDH T (k + 1) x R := by
  obtain ⟨f, fd, F, hm⟩ := A
  refine ⟨f, fd, ps, hm, F.kp, hb f fd F, ?_⟩
  obtain ⟨oc, od, kV, doc, pm, an, cdv, ct, osl, rfl, lk, hcd⟩ := F.ex
  refine fn_ofH lk hcd B.fs (fun vs H Q h => ?_) fun A outer s H vs Q hr h => ?_
  · obtain ⟨F0, ds, d, _, r, hR, _⟩ := h
    rw [r.length]; exact hlen ds d hR
  · obtain ⟨F0, ds, d, f0, rs, hR, q⟩ := h
    have S : ScH ⟨cxH T.prog T.w T.K T.mg T.base N x (defScope st) f cdv A outer s H, F0, H⟩ T k N G :=
      ⟨⟨rfl, rfl, rfl, rfl, rfl, rfl, B.fs.nd, B.loc, B.gl⟩, fun _ => rfl, hr⟩
    refine ⟨_, body _ S ds d hR, F0, env_start f0 rs, fun o ho => ?_⟩
    cases o with
    | rt e => cases ho; exact fun v F' H' _ x r' => q v F' H' x r'
    | nx c => cases ho; exact fun σ F' H' _ E' => q .non F' H' E'.ext .non
    | bk c => exact ho.elim
    | ct c => exact ho.elim
    | ro ds => exact ho.elim
    | rs R => exact ho.elim
theorem ev_callDH {R : List D → D → Prop} (S : ScH Y T k N G) (gi : Nat) (Fn : FnDH T j x R) (hj : j ≤ k) (ha : ArD Y (e :: es) c ds) (hR : R ds d) (hg : G[gi]? = some x := by rfl)
    (he : starEach (e :: es) Y.X.env = (false, eval e Y.X.env) :: starEach es Y.X.env := by rfl) (hpl : (backTo pos (starEach es Y.X.env)).any (·.1) = false := by rfl) : EvD Y (.Call (.Name x p) (e :: es) [] pos) c d := by
  obtain ⟨f, fd, ps, hm, hk, hb, F⟩ := Fn.ex
  have F' : FnOkH Y.X.prog Y.X.w Y.X.K Y.X.mg Y.X.base j f fd ps (spD T.K R) := by rw [S.eP, S.eW, S.eK, S.eM, S.eB]; exact F
  have gl := S.gl x (List.mem_of_getElem? hg)
  intro pins s σ H Q I ⟨F0, E, q⟩
  refine wpAny_Call_Name_kw (ld_glob I gl.1 (by rw [S.eM]; exact hm) ?_ gl.2.1)
  refine PySem.W.callWith_K (h₀ := Y.X.base) I.ok.mod.kin (by rw [S.eK]; exact hk) (thn (ha pos pins s σ H (fun vs H1 => ∃ F1, Ext F0 H F1 H1 ∧ Reps Y.X.K F1 vs ds) I ⟨F0, E, fun vs F1 H1 e1 r1 => ⟨F1, e1, r1⟩⟩) fun us s1 ⟨vs, H1, I1, r, F1, e1, rs⟩ => ⟨I1.kIn, ?_⟩) he hpl
  have h : spD T.K R vs H1 Q E0 := ⟨F1, ds, d, e1.fh, by rw [← S.eK]; exact rs, hR, fun v F2 H2 e2 r2 => q v F2 H2 (e1.trans e2) (by rw [← S.eK] at r2; exact r2)⟩
  have hl : us.length = ps.length := by rw [← r.length]; exact F'.len _ _ _ h
  have hb' : Binds Y.X.K fd ps [] := by rw [S.eK]; exact hb
  have hb2 := hb' s1 us I1.kIn (by rw [List.append_nil]; exact hl)
  rw [List.append_nil] at hb2
  refine wpAny_call (codeAny_mono (F'.run Y.X.A Y.X.stack s1 H1 ⟨us, []⟩ us _ _ (S.room.mono hj) I1.env0 hb2 r h) fun r s' hq => ?_)
  cases r with
  | error e => exact False.elim hq
  | ok fl =>
    cases fl with
    | ret u => exact I1.after hq
    | next => exact False.elim hq
    | brk => exact False.elim hq
    | cont => exact False.elim hq
/-- isinstance(e, C) with less known of where it runs -/
theorem ev_isi0 (S : Sn Y T N G) (gi gj : Nat) {ty : String} {b : Bool} {pn : Pos} (he : EvD Y e c d) (e2 : PySem.W.kitOne T.K (.type (tyD d)) (.type ty) = some b) (hm : T.mg "isinstance" = none) (hm2 : T.mg x = none) (hv : bootBuiltins x = some (.type ty))
    (hg : G[gi]? = some ("isinstance" : Str) := by rfl) (hg2 : G[gj]? = some x := by rfl)
    (hs : starEach [e, .Name x pn] Y.X.env = (false, eval e Y.X.env) :: starEach [.Name x pn] Y.X.env := by rfl) : EvD Y (.Call (.Name "isinstance" p) [e, .Name x pn] [] pos) c (.bl b) := by
  have gl := S.gl _ (List.mem_of_getElem? hg)
  have gl2 := S.gl x (List.mem_of_getElem? hg2)
  have hc : CallR Y.X (.builtin "isinstance") (fun xs H Q => ∃ v F, xs = [v, .ty ty] ∧ Same F H ∧ Rep Y.X.K F v d ∧ Q (.bl b) H) := by
    intro pins s σ H xs us Q I r h
    obtain ⟨v, F, rfl, f, rv, q⟩ := h
    obtain ⟨u, w', rfl, r1, r2⟩ := vals2 r
    cases (show w' = Value.type ty from r2)
    exact isinst_D I r1 f rv (by rw [S.eK]; exact e2) fun tk => ⟨.bl b, H, I.tok tk, rfl, q⟩
  refine PE.imp (pe_callB hc gl.1 (by rw [S.eM]; exact hm) bt_isinstance (pa_cons he (pa_cons (pe_bltn (v := .ty ty) gl2.1 (by rw [S.eM]; exact hm2) hv rfl gl2.2.2 gl2.2.1) pa_nil) hs) gl.2.2 gl.2.1 hs rfl) fun σ H Q ⟨F, E, q⟩ => ⟨F, E, fun v F1 H1 e1 r1 => ?_⟩
  exact ⟨v, F1, rfl, e1.fh, r1, q _ F1 H1 e1 (.bl b)⟩
theorem ev_eqD0 (hu : Y.X.A.units + 64 < cLine) (ha : EvD Y a c d1) (hb : EvD Y b c d2) (h1 : SeqAt.shaped (toPy d1) = true := by rfl) (h2 : SeqAt.shaped (toPy d2) = true := by rfl) : EvD Y (.Compare a [.Eq] [b] pos) c (.bl (eqD d1 d2)) :=
  ev_op2 (t := tC .non) (ta := tC .non) (tb := tC .non) (pe_cmpR (op_eqD hu h1 h2) ha hb (nomark _)) fun x y F H Q f rx ry q => ⟨F, f, rx, ry, q _ F H (Ext.refl f) (.bl _)⟩
/-- a constant of the module: a pair with a pair in it -/
def TupK (K : PySem.W.Frag) (a : Addr) (vs : List V) : Prop := ∃ (o : Obj) (its : Array Value) (n : Nat), K.lookup a = some o ∧ o.cls = .type "tuple" ∧ o.data = .seq its n ∧ its.size ≤ sizeLine ∧ Vals vs its.toList
def CstP (T : Tx) (x : Str) (i j l : Int) : Prop := ∃ a b, T.mg x = some (.ref a) ∧ TupK T.K a [.int i, .ref b] ∧ TupK T.K b [.int j, .int l]
theorem ev_cstP (S : Sn Y T N G) (gi : Nat) {i j l : Int} (h : CstP T x i j l) (hg : G[gi]? = some x := by rfl) : EvD Y (.Name x pos) c (.tup [.int i, .tup [.int j, .int l]]) := by
  obtain ⟨a, b, hm, h1, h2⟩ := h
  have gl := S.gl x (List.mem_of_getElem? hg)
  refine PE.imp (pe_glob (v := .ref a) gl.1 (by rw [S.eM]; exact hm) rfl gl.2.1) fun σ H Q ⟨F, E, q⟩ => q _ F H (Ext.refl E.fh) (.tup (.inr (by rw [S.eK]; exact h1)) (.cons (.int i) (.cons (.tup (.inr (by rw [S.eK]; exact h2)) (.cons (.int j) (.cons (.int l) .nil))) .nil)))
theorem roomH_of {j k : Nat} {A : Around} (r : Room k A) (h : j ≤ k) : RoomH j A := ⟨(r.mono h).dp, (r.mono h).un⟩
theorem RoomH_units {k : Nat} {A : Around} (r : RoomH k A) : A.units + 64 < cLine := by have := r.un; omega
end
end DL

set_option Elab.async false
set_option linter.all false
set_option maxRecDepth 100000
namespace DL
open PySem L2
section
variable {Y : Cy} {T : Tx} {N G : List Str} {c : List Slot} {pos : Pos}
/-! constants of the module -/
def CstS (T : Tx) (x : Str) (z : Str) : Prop := ∃ t, T.mg x = some (.str z t)
def CstI (T : Tx) (x : Str) (i : Int) : Prop := ∃ t, T.mg x = some (.int i t)
theorem ev_cstS (S : Sn Y T N G) (gi : Nat) {x z : Str} (h : CstS T x z) (hg : G[gi]? = some x := by rfl) : EvD Y (.Name x pos) c (.str z) := by
  obtain ⟨t, hm⟩ := h
  have gl := S.gl x (List.mem_of_getElem? hg)
  exact PE.imp (pe_glob (v := .str z) gl.1 (by rw [S.eM]; exact hm) ⟨t, rfl⟩ gl.2.1) fun σ H Q ⟨F, E, q⟩ => q _ F H (Ext.refl E.fh) (.str z)
theorem ev_cstI (S : Sn Y T N G) (gi : Nat) {x : Str} {i : Int} (h : CstI T x i) (hg : G[gi]? = some x := by rfl) : EvD Y (.Name x pos) c (.int i) := by
  obtain ⟨t, hm⟩ := h
  have gl := S.gl x (List.mem_of_getElem? hg)
  exact PE.imp (pe_glob (v := .int i) gl.1 (by rw [S.eM]; exact hm) ⟨t, rfl⟩ gl.2.1) fun σ H Q ⟨F, E, q⟩ => q _ F H (Ext.refl E.fh) (.int i)
end
end DL

set_option maxHeartbeats 4000000
namespace R
open PySem L2 DL
theorem gcd_step (x y : Int) : Int.gcd y (x.fmod y) = Int.gcd x y := by
  rw [Int.fmod_def, Int.gcd_sub_mul_left_right, Int.gcd_comm]
theorem fmod_small (x : Int) {y : Int} (h : y ≠ 0) : (x.fmod y).natAbs < y.natAbs := by
  rcases Int.lt_or_gt_of_ne h with h | h
  · have h1 := Int.fmod_def x y
    have e := Int.neg_fmod_neg x y
    have h2 := Int.fmod_nonneg_of_pos (-x) (show 0 < -y by omega)
    have h3 := Int.fmod_lt_of_pos (-x) (show 0 < -y by omega)
    omega
  · have h2 := Int.fmod_nonneg_of_pos x h
    have h3 := Int.fmod_lt_of_pos x h
    omega
def R_shared (ds : List D) (d : D) : Prop := ∃ a b : Int, ds = [.int a, .int b] ∧ d = .int (Int.gcd a b)
def Pr (p : Int) : Prop := p = 2 ∨ p = 3 ∨ p = 5 ∨ p = 7
theorem inv_ex {p n : Int} (hp : Pr p) (hn : ¬ n % p = 0) : ∃ b, 1 ≤ b ∧ b ≤ p - 1 ∧ n * b % p = 1 := by
  rcases hp with rfl | rfl | rfl | rfl
  · exact ⟨1, by omega, by omega, by omega⟩
  · rcases (show n % 3 = 1 ∨ n % 3 = 2 by omega) with h | h
    · exact ⟨1, by omega, by omega, by omega⟩
    · exact ⟨2, by omega, by omega, by omega⟩
  · rcases (show n % 5 = 1 ∨ n % 5 = 2 ∨ n % 5 = 3 ∨ n % 5 = 4 by omega) with h | h | h | h
    · exact ⟨1, by omega, by omega, by omega⟩
    · exact ⟨3, by omega, by omega, by omega⟩
    · exact ⟨2, by omega, by omega, by omega⟩
    · exact ⟨4, by omega, by omega, by omega⟩
  · rcases (show n % 7 = 1 ∨ n % 7 = 2 ∨ n % 7 = 3 ∨ n % 7 = 4 ∨ n % 7 = 5 ∨ n % 7 = 6 by omega) with h | h | h | h | h | h
    · exact ⟨1, by omega, by omega, by omega⟩
    · exact ⟨4, by omega, by omega, by omega⟩
    · exact ⟨5, by omega, by omega, by omega⟩
    · exact ⟨2, by omega, by omega, by omega⟩
    · exact ⟨3, by omega, by omega, by omega⟩
    · exact ⟨6, by omega, by omega, by omega⟩
theorem inv_found {p n a : Int} (hp : Pr p) (hn : ¬ n % p = 0) (h0 : 1 ≤ a) (h1 : a ≤ p - 1) (h : ∀ b, 1 ≤ b → b < a → n * b % p ≠ 1) (he : ¬ a < p - 1 ∨ n * a % p = 1) : n * a % p = 1 := by
  obtain ⟨b, b0, b1, hb⟩ := inv_ex hp hn
  rcases he with he | he
  · have e : a = b := by
      rcases Int.lt_trichotomy a b with l | l | l
      · omega
      · exact l
      · exact absurd hb (h b b0 l)
    rw [e]; exact hb
  · exact he
theorem pow_dvd (p : Int) {m n : Nat} (h : m ≤ n) : p ^ m ∣ p ^ n := ⟨p ^ (n - m), by rw [← Int.pow_add]; congr 1; omega⟩
theorem newton {p n a : Int} {s k : Nat} (h : p ^ (min s k) ∣ n * a - 1) : p ^ (min (2 * s) k) ∣ n * (a * (2 - n * a) % p ^ k) - 1 := by
  have e : a * (2 - n * a) % p ^ k = a * (2 - n * a) - p ^ k * (a * (2 - n * a) / p ^ k) := Int.emod_def _ _
  have e2 : n * (a * (2 - n * a) % p ^ k) - 1 = -((n * a - 1) * (n * a - 1)) - p ^ k * (n * (a * (2 - n * a) / p ^ k)) := by
    rw [e]; grind
  rw [e2]
  have d1 : p ^ (min (2 * s) k) ∣ (n * a - 1) * (n * a - 1) := by
    have q : p ^ (min s k) * p ^ (min s k) ∣ (n * a - 1) * (n * a - 1) := Int.mul_dvd_mul h h
    rw [← Int.pow_add] at q
    exact Int.dvd_trans (pow_dvd p (by omega)) q
  have d2 : p ^ (min (2 * s) k) ∣ p ^ k := pow_dvd p (by omega)
  exact Int.dvd_sub (Int.dvd_neg.mpr d1) (Int.dvd_trans d2 (Int.dvd_mul_right _ _))
theorem Pr.two_le {p : Int} (h : Pr p) : 2 ≤ p ∧ p ≤ 7 := by rcases h with rfl | rfl | rfl | rfl <;> omega
theorem pw_pos {p : Int} (hp : Pr p) (k : Nat) : 0 < p ^ k := Int.pow_pos (by have := hp.two_le; omega)
theorem inv_exists {p n : Int} (hp : Pr p) (hn : ¬ n % p = 0) : ∀ k : Nat, ∃ x, p ^ k ∣ n * x - 1
  | 0 => ⟨0, by simp⟩
  | 1 => by
    obtain ⟨b, _, _, hb⟩ := inv_ex hp hn
    refine ⟨b, ?_⟩
    rw [Int.pow_one]
    have := Int.emod_add_mul_ediv (n * b) p
    exact ⟨n * b / p, by omega⟩
  | k + 2 => by
    obtain ⟨x, hx⟩ := inv_exists hp hn (k + 1)
    have h : p ^ (min (k + 1) (k + 2)) ∣ n * x - 1 := by rw [show min (k + 1) (k + 2) = k + 1 by omega]; exact hx
    have := newton h
    rw [show min (2 * (k + 1)) (k + 2) = k + 2 by omega] at this
    exact ⟨_, this⟩
/-- the number over n by p ^ k -/
def IsOver (p n : Int) (k : Nat) (x : Int) : Prop := 0 ≤ x ∧ x < p ^ k ∧ p ^ k ∣ n * x - 1
theorem over_uniq {p n : Int} {k : Nat} {x y : Int} (hx : IsOver p n k x) (hy : IsOver p n k y) : x = y := by
  obtain ⟨x0, x1, xd⟩ := hx
  obtain ⟨y0, y1, yd⟩ := hy
  have d : p ^ k ∣ x - y := by
    have e : x - y = x * (n * y - 1) * (-1) + y * (n * x - 1) := by grind
    rw [e]
    exact Int.dvd_add (Int.dvd_mul_of_dvd_left (Int.dvd_mul_of_dvd_right yd)) (Int.dvd_mul_of_dvd_right xd)
  have : x - y = 0 := by
    rcases Int.lt_trichotomy (x - y) 0 with h | h | h
    · have := Int.le_of_dvd (show 0 < -(x - y) by omega) (Int.dvd_neg.mpr d); omega
    · exact h
    · have := Int.le_of_dvd h d; omega
  omega
theorem over_ex {p n : Int} (hp : Pr p) (hn : ¬ n % p = 0) (k : Nat) : ∃ x, IsOver p n k x := by
  obtain ⟨x, hx⟩ := inv_exists hp hn k
  have pp := pw_pos hp k
  refine ⟨x % p ^ k, Int.emod_nonneg _ (by omega), Int.emod_lt_of_pos _ pp, ?_⟩
  have e : n * (x % p ^ k) - 1 = (n * x - 1) - p ^ k * (n * (x / p ^ k)) := by rw [Int.emod_def]; grind
  rw [e]
  exact Int.dvd_sub hx (Int.dvd_mul_right _ _)
noncomputable def overBy (p n : Int) (k : Nat) : Int := Classical.epsilon (IsOver p n k)
theorem overBy_is {p n : Int} (hp : Pr p) (hn : ¬ n % p = 0) (k : Nat) : IsOver p n k (overBy p n k) := Classical.epsilon_spec (over_ex hp hn k)

theorem pw_le {p : Int} (hp : Pr p) : ∀ k : Nat, p ^ k < 2 ^ (3 * k + 1)
  | 0 => by rw [Int.pow_zero]; decide
  | k + 1 => by
    have h := pw_le hp k
    have q := pw_pos hp k
    have h7 := hp.two_le
    rw [Int.pow_succ, show 3 * (k + 1) + 1 = 3 * k + 1 + 3 by omega, Int.pow_add]
    have : p ^ k * p ≤ p ^ k * 7 := Int.mul_le_mul_of_nonneg_left h7.2 (by omega)
    have e : (2 : Int) ^ 3 = 8 := by decide
    rw [e]; omega
theorem sq_step {x y p : Int} {k k0 : Nat} (h : x * y ^ k = p ^ k0) : (if k % 2 = 1 then x * y else x) * (y * y) ^ (k / 2) = p ^ k0 := by
  rw [← h, Int.mul_pow, ← Int.pow_add]
  split
  · rw [Int.mul_assoc, ← Int.pow_succ']
    congr 2; omega
  · congr 2; omega
theorem le_self_pow {y : Int} (h : 1 ≤ y) : ∀ {k : Nat}, 1 ≤ k → y ≤ y ^ k
  | 1, _ => by rw [Int.pow_one]; exact Int.le_refl y
  | k + 2, _ => by
    have := le_self_pow h (show 1 ≤ k + 1 by omega)
    rw [Int.pow_succ]
    have q : y ^ (k + 1) * 1 ≤ y ^ (k + 1) * y := Int.mul_le_mul_of_nonneg_left h (by omega)
    omega
theorem le_mul_pos {x y : Int} (hx : 1 ≤ x) (hy : 1 ≤ y) : x ≤ x * y ∧ y ≤ x * y := by
  have h1 : x * 1 ≤ x * y := Int.mul_le_mul_of_nonneg_left hy (by omega)
  have h2 : 1 * y ≤ x * y := Int.mul_le_mul_of_nonneg_right hx (by omega)
  omega

theorem pw_bd {p : Int} (hp : Pr p) (k : Nat) : Bd (3 * k + 1) (p ^ k) := by
  have h := pw_le hp k
  have q := pw_pos hp k
  unfold Bd
  have e : ((2 ^ (3 * k + 1) : Nat) : Int) = (2 : Int) ^ (3 * k + 1) := by simp
  omega
theorem Bd.of_le {n : Nat} {x y : Int} (h0 : 0 ≤ x) (h1 : x ≤ y) (h : Bd n y) : Bd n x := by unfold Bd at *; omega
theorem sq_ok {x y p : Int} {k' k0 : Nat} (hp : Pr p) (hx : 1 ≤ x) (hy : 1 ≤ y) (hk : 1 ≤ k') (h0 : k0 ≤ 1000000) (h : x * y ^ k' = p ^ k0) : IntMulOk x y ∧ IntMulOk y y := by
  have b := pw_bd hp k0
  have y1 := le_self_pow hy hk
  have z := le_mul_pos hx (show 1 ≤ y ^ k' by omega)
  rw [h] at z
  have bx : Bd (3 * k0 + 1) x := Bd.of_le (by omega) z.1 b
  have by' : Bd (3 * k0 + 1) y := Bd.of_le (by omega) (by omega) b
  exact ⟨mulOk bx by' (by omega), mulOk by' by' (by omega)⟩
def R_raised (ds : List D) (d : D) : Prop := ∃ p k : Int, ds = [.int p, .int k] ∧ Pr p ∧ k ≤ 1000000 ∧ d = .int (p ^ k.toNat)
def R_obp (ds : List D) (d : D) : Prop := ∃ p n : Int, ds = [.int p, .int n] ∧ Pr p ∧ ¬ n % p = 0 ∧ Bd 1000000 n ∧ d = .int (overBy p n 1)
def R_over_by (ds : List D) (d : D) : Prop := ∃ p n k : Int, ds = [.int p, .int n, .int k] ∧ Pr p ∧ ¬ n % p = 0 ∧ 0 ≤ k ∧ k ≤ 1000000 ∧ Bd 1000000 n ∧ d = .int (overBy p n k.toNat)
def prime4 (n : Int) : Int := if n % 4 = 0 then 2 else if n % 4 = 1 then 3 else if n % 4 = 2 then 5 else 7
def R_prime (ds : List D) (d : D) : Prop := ∃ n : Int, ds = [.int n] ∧ d = .int (prime4 n)
/-! fractions -/
theorem low_num (t : Int) {b : Int} (hb : b ≠ 0) : t.fdiv (if b < 0 then -(Int.gcd t b : Int) else (Int.gcd t b : Int)) = (Rat.divInt t b).num ∧ b.fdiv (if b < 0 then -(Int.gcd t b : Int) else (Int.gcd t b : Int)) = ((Rat.divInt t b).den : Int) := by
  have hg : 0 < Int.gcd t b := Int.gcd_pos_of_ne_zero_right t hb
  have dt := Int.gcd_dvd_left t b
  have db := Int.gcd_dvd_right t b
  rw [Rat.num_divInt, Rat.den_divInt, if_neg hb, Int.gcd_comm b t]
  obtain ⟨u, hu⟩ := dt
  obtain ⟨v, hv⟩ := db
  have g0 : (Int.gcd t b : Int) ≠ 0 := by omega
  generalize hgg : (Int.gcd t b : Int) = g at *
  have hgn : Int.gcd t b = g.toNat := by omega
  have gp : 0 < g := by omega
  rw [hgn]
  have fm : ∀ x : Int, (g * x).fdiv g = x := fun x => by rw [Int.mul_comm]; exact Int.mul_fdiv_cancel x g0
  have fm' : ∀ x : Int, (g * x).fdiv (-g) = -x := fun x => by rw [show g * x = (-x) * (-g) by grind]; exact Int.mul_fdiv_cancel (-x) (by omega)
  have em : ∀ x : Int, (g * x) / g = x := fun x => Int.mul_ediv_cancel_left x g0
  by_cases hb0 : b < 0
  · rw [if_pos hb0]
    have s : b.sign = -1 := Int.sign_eq_neg_one_of_neg hb0
    rw [s]
    constructor
    · rw [hu, fm', show -1 * (g * u) = g * (-u) by grind, em]
    · rw [hv, fm']
      have vn : v < 0 := by
        by_cases h : v < 0
        · exact h
        · have := Int.mul_nonneg (show 0 ≤ g by omega) (show 0 ≤ v by omega); omega
      have : (g * v).natAbs / g.toNat = v.natAbs := by
        rw [Int.natAbs_mul, show g.natAbs = g.toNat by omega]
        exact Nat.mul_div_cancel_left _ (by omega)
      rw [this]; omega
  · rw [if_neg hb0]
    have s : b.sign = 1 := Int.sign_eq_one_of_pos (by omega)
    rw [s]
    constructor
    · rw [hu, fm, Int.one_mul, em]
    · rw [hv, fm]
      have vn : 0 ≤ v := by
        by_cases h : v < 0
        · have := Int.mul_nonneg (show 0 ≤ g by omega) (show 0 ≤ -v by omega)
          rw [show g * -v = -(g * v) by grind] at this; 
          have : g * v = 0 := by omega
          omega
        · omega
      have : (g * v).natAbs / g.toNat = v.natAbs := by
        rw [Int.natAbs_mul, show g.natAbs = g.toNat by omega]
        exact Nat.mul_div_cancel_left _ (by omega)
      rw [this]; omega
/-! powers -/
def vp (p n : Int) : Nat := if h : 2 ≤ p ∧ n ≠ 0 ∧ n % p = 0 then vp p (n / p) + 1 else 0
termination_by n.natAbs
decreasing_by
  have e := Int.emod_add_mul_ediv n p
  rw [h.2.2, Int.zero_add] at e
  have h1 : n / p ≠ 0 := fun z => h.2.1 (by rw [← e, z, Int.mul_zero])
  have : (p * (n / p)).natAbs = n.natAbs := by rw [e]
  rw [Int.natAbs_mul] at this
  have h2 : 2 * (n / p).natAbs ≤ p.natAbs * (n / p).natAbs := Nat.mul_le_mul_right _ (by omega)
  omega
theorem vp_step {p n : Int} (hp : 2 ≤ p) (hn : n ≠ 0) (h : n % p = 0) : vp p n = vp p (n / p) + 1 := by rw [vp, dif_pos ⟨hp, hn, h⟩]
theorem vp_zero {p n : Int} (h : ¬ n % p = 0) : vp p n = 0 := by rw [vp, dif_neg (fun z => h z.2.2)]
theorem div_facts {p n : Int} (hp : 2 ≤ p) (hn : n ≠ 0) (h : n % p = 0) : n = p * (n / p) ∧ n / p ≠ 0 ∧ (n / p).natAbs < n.natAbs := by
  have e := Int.emod_add_mul_ediv n p
  rw [h, Int.zero_add] at e
  have h1 : n / p ≠ 0 := fun z => hn (by rw [← e, z, Int.mul_zero])
  have : (p * (n / p)).natAbs = n.natAbs := by rw [e]
  rw [Int.natAbs_mul] at this
  have h2 : 2 * (n / p).natAbs ≤ p.natAbs * (n / p).natAbs := Nat.mul_le_mul_right _ (by omega)
  exact ⟨e.symm, h1, by omega⟩
theorem vp_mulp {p n : Int} (hp : 2 ≤ p) (hn : n ≠ 0) : vp p (p * n) = vp p n + 1 := by
  rw [vp_step hp (Int.mul_ne_zero (by omega) hn) (Int.mul_emod_right p n), Int.mul_ediv_cancel_left n (by omega)]
theorem vp_pow {p : Int} (hp : 2 ≤ p) : ∀ k : Nat, vp p (p ^ k) = k
  | 0 => by
    rw [Int.pow_zero, vp_zero]
    rw [Int.emod_eq_of_lt (by omega) (by omega)]; decide
  | k + 1 => by
    rw [Int.pow_succ', vp_mulp hp (Int.ne_of_gt (Int.pow_pos (by omega))), vp_pow hp k]
theorem vp_one {p : Int} (hp : 2 ≤ p) : vp p 1 = 0 := by have := vp_pow hp 0; rw [Int.pow_zero] at this; exact this
/-- None or a number -/
def vq (p : Int) (r : Rat) : Option Int := if r.num = 0 then none else some ((vp p r.num : Int) - (vp p r.den : Int))

abbrev frD (r : Rat) : D := .tup [.int r.num, .int (r.den : Int)]
def optI : Option Int → D
  | none => .non
  | some i => .int i
theorem num_le (t : Int) {b : Int} (hb : b ≠ 0) : (Rat.divInt t b).num.natAbs ≤ t.natAbs ∧ (Rat.divInt t b).den ≤ b.natAbs := by
  have h := low_num t hb
  have hg : 0 < Int.gcd t b := Int.gcd_pos_of_ne_zero_right t hb
  rw [Rat.num_divInt, Rat.den_divInt, if_neg hb]
  refine ⟨?_, Nat.div_le_self _ _⟩
  rw [Int.gcd_comm] at hg
  refine Nat.le_trans (Int.natAbs_ediv_le_natAbs _ _) ?_
  rw [Int.natAbs_mul]
  have : b.sign.natAbs ≤ 1 := by
    rcases Int.lt_trichotomy b 0 with h | h | h
    · rw [Int.sign_eq_neg_one_of_neg h]; decide
    · exact absurd h hb
    · rw [Int.sign_eq_one_of_pos h]; decide
  calc b.sign.natAbs * t.natAbs ≤ 1 * t.natAbs := Nat.mul_le_mul_right _ this
    _ = t.natAbs := Nat.one_mul _
/-- a fraction of at most n bits above and below -/
def Fb (n : Nat) (r : Rat) : Prop := Bd n r.num ∧ Bd n (r.den : Int)
theorem Fb.mono {m n : Nat} {r : Rat} (h : Fb m r) (l : m ≤ n) : Fb n r := ⟨h.1.mono l, h.2.mono l⟩
theorem Fb.divInt {m : Nat} {t b : Int} (hb : b ≠ 0) (h1 : Bd m t) (h2 : Bd m b) : Fb m (Rat.divInt t b) := by
  have q := num_le t hb
  refine ⟨Nat.lt_of_le_of_lt q.1 h1, ?_⟩
  show ((Rat.divInt t b).den : Int).natAbs < 2 ^ m
  rw [Int.natAbs_natCast]
  exact Nat.lt_of_le_of_lt q.2 h2
theorem den_ne (r : Rat) : (r.den : Int) ≠ 0 := by have := r.den_nz; omega
theorem den_pos (r : Rat) : 0 < (r.den : Int) := by have := r.den_nz; omega
theorem rat_mul (a b : Rat) : Rat.divInt (a.num * b.num) ((a.den : Int) * (b.den : Int)) = a * b := by
  rw [Rat.mul_def', ← Rat.divInt_ofNat]; simp
theorem rat_add (a b : Rat) : Rat.divInt (a.num * (b.den : Int) + b.num * (a.den : Int)) ((a.den : Int) * (b.den : Int)) = a + b := by
  rw [Rat.add_def', ← Rat.divInt_ofNat]; simp
theorem rat_sub (a b : Rat) : Rat.divInt (a.num * (b.den : Int) - b.num * (a.den : Int)) ((a.den : Int) * (b.den : Int)) = a - b := by
  rw [Rat.sub_def', ← Rat.divInt_ofNat]; simp
theorem Fb.mul {m n : Nat} {a b : Rat} (h1 : Fb m a) (h2 : Fb n b) : Fb (m + n) (a * b) := by
  rw [← rat_mul]
  exact Fb.divInt (Int.mul_ne_zero (den_ne a) (den_ne b)) (h1.1.mul h2.1) (h1.2.mul h2.2)
theorem Fb.add {m n : Nat} {a b : Rat} (h1 : Fb m a) (h2 : Fb n b) : Fb (m + n + 1) (a + b) := by
  rw [← rat_add]
  refine Fb.divInt (Int.mul_ne_zero (den_ne a) (den_ne b)) ?_ ((h1.2.mul h2.2).mono (by omega))
  have q := (h1.1.mul h2.2).add (h2.1.mul h1.2)
  rw [show max (m + n) (n + m) + 1 = m + n + 1 by omega] at q
  exact q
theorem Fb.sub {m n : Nat} {a b : Rat} (h1 : Fb m a) (h2 : Fb n b) : Fb (m + n + 1) (a - b) := by
  rw [← rat_sub]
  refine Fb.divInt (Int.mul_ne_zero (den_ne a) (den_ne b)) ?_ ((h1.2.mul h2.2).mono (by omega))
  have q := (h1.1.mul h2.2).sub (h2.1.mul h1.2)
  rw [show max (m + n) (n + m) + 1 = m + n + 1 by omega] at q
  exact q
/-- p to a power of either sign -/
def ppw (p k : Int) : Rat := (p : Rat) ^ k
theorem ppw_nn {p k : Int} (h : 0 ≤ k) : (ppw p k).num = p ^ k.toNat ∧ (ppw p k).den = 1 := by
  unfold ppw
  have e : k = ((k.toNat : Nat) : Int) := by omega
  rw [e, Rat.zpow_natCast, Rat.num_pow, Rat.den_pow]
  constructor
  · rfl
  · show (1 : Nat) ^ _ = 1
    simp
theorem ppw_neg {p k : Int} (hp : 0 < p) (h : k < 0) : (ppw p k).num = 1 ∧ ((ppw p k).den : Int) = p ^ (-k).toNat := by
  have q := ppw_nn (p := p) (k := -k) (by omega)
  have e : ppw p k = (ppw p (-k))⁻¹ := by
    unfold ppw
    rw [Rat.zpow_neg, Rat.inv_inv]
  have pp : 0 < p ^ (-k).toNat := Int.pow_pos hp
  rw [e, Rat.num_inv, Rat.den_inv, q.1, q.2, Int.sign_eq_one_of_pos pp, if_neg (by omega)]
  constructor
  · rfl
  · omega
theorem vq_ppw {p k : Int} (hp : Pr p) : vq p (ppw p k) = some k := by
  have p2 := hp.two_le
  unfold vq
  by_cases h : 0 ≤ k
  · have q := ppw_nn (p := p) h
    have pp : 0 < p ^ k.toNat := Int.pow_pos (by omega)
    rw [q.1, q.2, if_neg (by omega), vp_pow p2.1, show ((1 : Nat) : Int) = 1 from rfl, vp_one p2.1]
    congr 1; omega
  · have q := ppw_neg (p := p) (k := k) (by omega) (by omega)
    rw [q.1, q.2, if_neg (by decide), vp_pow p2.1, vp_one p2.1]
    congr 1; omega
def R_power_of (ds : List D) (d : D) : Prop := ∃ p n : Int, ds = [.int p, .int n] ∧ Pr p ∧ d = (if n = 0 then .non else .int (vp p n : Int))
def R_power (ds : List D) (d : D) : Prop := ∃ p n : Int, ds = [.int p, .int n] ∧ Pr p ∧ n ≠ 0 ∧ d = .int (vp p n : Int)
def R_power_in (ds : List D) (d : D) : Prop := ∃ (p : Int) (a : Rat), ds = [.int p, frD a] ∧ Pr p ∧ d = optI (vq p a)
def R_ppw (ds : List D) (d : D) : Prop := ∃ p k : Int, ds = [.int p, .int k] ∧ Pr p ∧ -1000000 ≤ k ∧ k ≤ 1000000 ∧ d = frD (ppw p k)
def R_low (ds : List D) (d : D) : Prop := ∃ t b : Int, ds = [.int t, .int b] ∧ b ≠ 0 ∧ Bd 8900 b ∧ d = frD (Rat.divInt t b)
def R_isfr (ds : List D) (d : D) : Prop := ∃ r : Rat, ds = [frD r] ∧ d = .bl true
def R_qmul (ds : List D) (d : D) : Prop := ∃ a b : Rat, ds = [frD a, frD b] ∧ Fb 4400 a ∧ Fb 4400 b ∧ d = frD (a * b)
def R_qadd (ds : List D) (d : D) : Prop := ∃ a b : Rat, ds = [frD a, frD b] ∧ Fb 4400 a ∧ Fb 4400 b ∧ d = frD (a + b)
def R_qsub (ds : List D) (d : D) : Prop := ∃ a b : Rat, ds = [frD a, frD b] ∧ Fb 4400 a ∧ Fb 4400 b ∧ d = frD (a - b)
theorem low_bd {t b : Int} (hb : b ≠ 0) (h : Bd 8900 b) : (if b < 0 then -(Int.gcd t b : Int) else (Int.gcd t b : Int)) ≠ 0 ∧ Bd 9000 (if b < 0 then -(Int.gcd t b : Int) else (Int.gcd t b : Int)) := by
  have hg : 0 < Int.gcd t b := Int.gcd_pos_of_ne_zero_right t hb
  have hl := Int.gcd_le_natAbs_right t hb
  have h' := h.mono (show 8900 ≤ 9000 by decide)
  unfold Bd at *
  refine ⟨by split <;> omega, ?_⟩
  refine Nat.lt_of_le_of_lt ?_ h'
  split <;> omega
def nTop (n : Int) : Int := if decide (n % 4 = 1) = true then n / 4 % (2 * 10 ^ Int.toNat 20 + 1) - 10 ^ Int.toNat 20 else n / 4 % 41 - 20
def nPow (n : Int) : Int := if decide (n % 4 = 3) = true then n / 4 / 500 % 81 - 40 else n / 4 / 500 % 13 - 6
def nBot (n : Int) : Int := 1 + n / 4 / 41 % 12
def numb (p n : Int) : Rat := if nPow n < 0 then Rat.divInt (nTop n) (nBot n * p ^ (-nPow n).toNat) else Rat.divInt (nTop n * p ^ (nPow n).toNat) (nBot n)
def R_number (ds : List D) (d : D) : Prop := ∃ p n : Int, ds = [.int p, .int n] ∧ Pr p ∧ d = frD (numb p n)
def R_over (ds : List D) (r : Rs) : Prop := ∃ a b : Rat, ds = [frD a, frD b] ∧ Fb 4400 a ∧ Fb 4400 b ∧ ((b.num ≠ 0 ∧ r = .ok (frD (Rat.divInt (a.num * (b.den : Int)) ((a.den : Int) * b.num)))) ∨ (b.num = 0 ∧ r = .ex "NoFraction"))
def R_less (ds : List D) (d : D) : Prop := ∃ a b : Rat, ds = [frD a, frD b] ∧ Fb 4400 a ∧ Fb 4400 b ∧ d = .bl (decide (a.num * (b.den : Int) < b.num * (a.den : Int)))
def R_refused4 (ds : List D) (d : D) : Prop := ∃ (a : Rat) (k : Int), ds = [frD a, .int k] ∧ Fb 4400 a ∧ d = .bl true
def R_is (ds : List D) (d : D) : Prop := ∃ (r : Rat) (t b : Int), ds = [frD r, .int t, .int b] ∧ Fb 100000 r ∧ Bd 100000 t ∧ Bd 100000 b ∧ r.num * b = t * (r.den : Int) ∧ d = .bl true
def R_right (ds : List D) (d : D) : Prop := ∃ a b : Rat, ds = [frD a, frD b] ∧ Fb 4400 a ∧ Fb 4400 b ∧ d = .bl true
def R_overD (ds : List D) (d : D) : Prop := ∃ a b : Rat, ds = [frD a, frD b] ∧ Fb 4400 a ∧ Fb 4400 b ∧ (b.num ≠ 0 ∧ d = frD (Rat.divInt (a.num * (b.den : Int)) ((a.den : Int) * b.num)))
theorem pr_mul {p a b : Int} (hp : Pr p) (ha : ¬ a % p = 0) (hb : ¬ b % p = 0) : ¬ a * b % p = 0 := by
  intro h
  obtain ⟨c, _, _, hc⟩ := inv_ex hp hb
  have h1 := Int.dvd_of_emod_eq_zero h
  have h2 : p ∣ a * (b * c) := by rw [← Int.mul_assoc]; exact Int.dvd_mul_of_dvd_left h1
  have e : b * c = 1 + p * (b * c / p) := by have := Int.emod_add_mul_ediv (b * c) p; omega
  rw [e, Int.mul_add, Int.mul_one, Int.mul_left_comm] at h2
  have h3 : p ∣ a := (Int.dvd_add_left (Int.dvd_mul_right p _)).mp h2
  exact ha (Int.emod_eq_zero_of_dvd h3)
/-- a number's part without p -/
theorem vp_split {p : Int} (hp : Pr p) : ∀ (m : Nat) (n : Int), n.natAbs ≤ m → n ≠ 0 → ∃ u, n = p ^ (vp p n) * u ∧ ¬ u % p = 0
  | 0, n, hm, hn => by omega
  | m + 1, n, hm, hn => by
    have p2 := hp.two_le
    by_cases h : n % p = 0
    · have f := div_facts p2.1 hn h
      obtain ⟨u, hu, hup⟩ := vp_split hp m (n / p) (by omega) f.2.1
      refine ⟨u, ?_, hup⟩
      rw [vp_step p2.1 hn h, Int.pow_succ', Int.mul_assoc, ← hu]
      exact f.1
    · exact ⟨n, by rw [vp_zero h, Int.pow_zero, Int.one_mul], h⟩
theorem vp_ex {p : Int} (hp : Pr p) {n : Int} (hn : n ≠ 0) : ∃ u, n = p ^ (vp p n) * u ∧ ¬ u % p = 0 := vp_split hp _ n (Nat.le_refl _) hn
/-- p ^ n divides m * w, p does not divide w -/
theorem pw_gauss {p w : Int} (hp : Pr p) (hw : ¬ w % p = 0) : ∀ (n : Nat) (m : Int), p ^ n ∣ m * w → p ^ n ∣ m
  | 0, m, _ => by rw [Int.pow_zero]; exact Int.one_dvd m
  | n + 1, m, h => by
    have p2 := hp.two_le
    have hm : p ∣ m := by
      have h1 : p ∣ m * w := Int.dvd_trans (by rw [Int.pow_succ']; exact Int.dvd_mul_right _ _) h
      by_cases z : m % p = 0
      · exact Int.dvd_of_emod_eq_zero z
      · exact absurd (Int.emod_eq_zero_of_dvd h1) (pr_mul hp z hw)
    obtain ⟨q, rfl⟩ := hm
    rw [Int.pow_succ', Int.mul_assoc] at h
    have h2 : p ^ n ∣ q * w := Int.dvd_of_mul_dvd_mul_left (by omega) h
    rw [Int.pow_succ']
    exact Int.mul_dvd_mul_left p (pw_gauss hp hw n q h2)
theorem vp_of {p u : Int} (hp : Pr p) (hu : ¬ u % p = 0) (n : Nat) : vp p (p ^ n * u) = n := by
  have p2 := hp.two_le
  have u0 : u ≠ 0 := fun z => hu (by rw [z]; simp)
  induction n with
  | zero => rw [Int.pow_zero, Int.one_mul, vp_zero hu]
  | succ n ih =>
    have e : p ^ (n + 1) * u = p * (p ^ n * u) := by rw [Int.pow_succ', Int.mul_assoc]
    have pp := pw_pos hp n
    rw [e, vp_step p2.1 (Int.mul_ne_zero (by omega) (Int.mul_ne_zero (by omega) u0)) (Int.mul_emod_right p _), Int.mul_ediv_cancel_left _ (by omega), ih]
theorem ppw_add {p : Int} (hp : Pr p) (a b : Int) : ppw p (a + b) = ppw p a * ppw p b := by
  have p2 := hp.two_le
  exact Rat.zpow_add (by intro z; have : p = 0 := by exact_mod_cast z
                         omega) a b
theorem ppw_nat (p : Int) (n : Nat) : ppw p (n : Int) = ((p ^ n : Int) : Rat) := by
  have q := ppw_nn (p := p) (k := (n : Int)) (by omega)
  apply Rat.ext
  · rw [q.1]; simp
  · rw [q.2]; simp
theorem ppw_zero (p : Int) : ppw p 0 = 1 := by have := ppw_nat p 0; simpa using this
theorem ppw_ne {p : Int} (hp : Pr p) (k : Int) : ppw p k ≠ 0 := by
  intro z
  have h := ppw_add hp k (-k)
  rw [z, Rat.zero_mul, show k + -k = 0 by omega, ppw_zero] at h
  exact absurd h (by decide)
theorem ppw_inv {p : Int} (hp : Pr p) (k : Int) : ppw p (-k) * ppw p k = 1 := by
  rw [← ppw_add hp, show -k + k = 0 by omega, ppw_zero]
theorem rat_pos_of {a : Rat} (h : 0 < a.num) : 0 < a := by
  rw [Rat.lt_iff]; simpa using h
theorem ppw_pos {p : Int} (hp : Pr p) (k : Int) : 0 < ppw p k := by
  have p2 := hp.two_le
  have nat : ∀ n : Nat, 0 < ppw p (n : Int) := fun n => by
    apply rat_pos_of
    rw [(ppw_nn (p := p) (k := (n : Int)) (by omega)).1]
    exact pw_pos hp _
  by_cases h : 0 ≤ k
  · have := nat k.toNat
    rw [show ((k.toNat : Nat) : Int) = k by omega] at this
    exact this
  · have h1 := nat (-k).toNat
    rw [show (((-k).toNat : Nat) : Int) = -k by omega] at h1
    have e := ppw_inv hp k
    by_cases z : 0 < ppw p k
    · exact z
    · exfalso
      have z' : ppw p k ≤ 0 := Rat.not_lt.mp z
      have : ppw p (-k) * ppw p k ≤ ppw p (-k) * 0 := Rat.mul_le_mul_of_nonneg_left z' (Rat.le_of_lt h1)
      rw [e, Rat.mul_zero] at this
      exact absurd this (by decide)
/-- r is p ^ k times a fraction that is whole by p -/
def Dv (p k : Int) (r : Rat) : Prop := ∃ u w : Int, ¬ w % p = 0 ∧ r * (w : Rat) = (u : Rat) * ppw p k

theorem dv_zero (p k : Int) (hp : Pr p) : Dv p k 0 := ⟨0, 1, by rcases hp with rfl | rfl | rfl | rfl <;> decide, by simp⟩
theorem dv_add {p k : Int} (hp : Pr p) {r s : Rat} (hr : Dv p k r) (hs : Dv p k s) : Dv p k (r + s) := by
  obtain ⟨u, w, hw, h⟩ := hr
  obtain ⟨u', w', hw', h'⟩ := hs
  refine ⟨u * w' + u' * w, w * w', pr_mul hp hw hw', ?_⟩
  push_cast
  grind
theorem dv_neg {p k : Int} {r : Rat} (hr : Dv p k r) : Dv p k (-r) := by
  obtain ⟨u, w, hw, h⟩ := hr
  refine ⟨-u, w, hw, ?_⟩
  push_cast
  grind
theorem dv_sub {p k : Int} (hp : Pr p) {r s : Rat} (hr : Dv p k r) (hs : Dv p k s) : Dv p k (r - s) := by
  rw [Rat.sub_eq_add_neg]; exact dv_add hp hr (dv_neg hs)
theorem dv_comm {p k : Int} {r s : Rat} (h : Dv p k (r - s)) : Dv p k (s - r) := by
  have := dv_neg h
  rw [show -(r - s) = s - r by grind] at this
  exact this
theorem dv_trans {p k : Int} (hp : Pr p) {r s t : Rat} (h : Dv p k (r - s)) (h' : Dv p k (s - t)) : Dv p k (r - t) := by
  have := dv_add hp h h'
  rw [show r - s + (s - t) = r - t by grind] at this
  exact this
theorem rat_split (r : Rat) : r * (r.den : Rat) = (r.num : Rat) := by
  have h := Rat.num_divInt_den r
  rw [Rat.divInt_eq_div] at h
  have d0 : ((r.den : Int) : Rat) ≠ 0 := by
    intro z
    have : (r.den : Int) = 0 := by exact_mod_cast z
    exact den_ne r this
  conv => lhs; lhs; rw [← h]
  exact Rat.div_mul_cancel d0
theorem vq_dv {p k : Int} (hp : Pr p) (r : Rat) : Dv p k r ↔ (match vq p r with | none => True | some v => k ≤ v) := by
  by_cases h0 : r.num = 0
  · have z : r = 0 := Rat.num_eq_zero.mp h0
    have e : vq p r = none := by unfold vq; rw [if_pos h0]
    rw [e, z]
    exact ⟨fun _ => trivial, fun _ => dv_zero p k hp⟩
  · have e : vq p r = some ((vp p r.num : Int) - (vp p r.den : Int)) := by unfold vq; rw [if_neg h0]
    rw [e]
    obtain ⟨n, hn, np⟩ := vp_ex hp h0
    obtain ⟨d, hd, dp⟩ := vp_ex hp (den_ne r)
    generalize vp p r.num = a at *
    generalize vp p r.den = b at *
    have s := rat_split r
    have hn' : (r.num : Rat) = ppw p (a : Int) * (n : Rat) := by rw [ppw_nat, hn]; push_cast; rfl
    have hd' : (r.den : Rat) = ppw p (b : Int) * (d : Rat) := by
      rw [ppw_nat]
      have : ((r.den : Int) : Rat) = ((p ^ b * d : Int) : Rat) := by rw [← hd]
      push_cast at this ⊢
      exact this
    rw [hn', hd'] at s
    have pb := ppw_ne hp (b : Int)
    have key : r * (d : Rat) = (n : Rat) * ppw p ((a : Int) - (b : Int)) := by
      have e2 : ppw p (a : Int) = ppw p ((a : Int) - (b : Int)) * ppw p (b : Int) := by rw [← ppw_add hp]; congr 1; omega
      rw [e2] at s
      grind
    constructor
    · rintro ⟨u, w, hw, h⟩
      show k ≤ (a : Int) - (b : Int)
      by_cases z : k ≤ (a : Int) - (b : Int)
      · exact z
      · exfalso
        have e3 : ppw p k = ppw p (k - ((a : Int) - (b : Int))) * ppw p ((a : Int) - (b : Int)) := by rw [← ppw_add hp]; congr 1; omega
        have pk := ppw_ne hp ((a : Int) - (b : Int))
        obtain ⟨m, hm⟩ : ∃ m : Nat, k - ((a : Int) - (b : Int)) = ((m + 1 : Nat) : Int) := ⟨(k - ((a : Int) - (b : Int))).toNat - 1, by omega⟩
        have e4 : (n : Rat) * (w : Rat) = (u : Rat) * (d : Rat) * ppw p (k - ((a : Int) - (b : Int))) := by
          rw [e3] at h
          grind
        rw [hm, ppw_nat] at e4
        have e5 : n * w = u * d * p ^ (m + 1) := by exact_mod_cast e4
        have : n * w % p = 0 := Int.emod_eq_zero_of_dvd (by rw [e5, Int.pow_succ', Int.mul_left_comm]; exact Int.dvd_mul_right _ _)
        exact pr_mul hp np hw this
    · intro h
      have h : k ≤ (a : Int) - (b : Int) := h
      obtain ⟨m, hm⟩ : ∃ m : Nat, (a : Int) - (b : Int) - k = (m : Int) := ⟨((a : Int) - (b : Int) - k).toNat, by omega⟩
      refine ⟨n * p ^ m, d, dp, ?_⟩
      rw [key]
      have e3 : ppw p ((a : Int) - (b : Int)) = ppw p (m : Int) * ppw p k := by rw [← ppw_add hp]; congr 1; omega
      rw [e3, ppw_nat]
      push_cast
      grind

theorem dv_mono {p j k : Int} (hp : Pr p) (h : j ≤ k) {r : Rat} (hr : Dv p k r) : Dv p j r := by
  obtain ⟨u, w, hw, e⟩ := hr
  obtain ⟨m, hm⟩ : ∃ m : Nat, k - j = (m : Int) := ⟨(k - j).toNat, by omega⟩
  refine ⟨u * p ^ m, w, hw, ?_⟩
  rw [e, show k = (m : Int) + j by omega, ppw_add hp, ppw_nat]
  push_cast
  grind
/-- the bottom is a power of p -/
def PDen (p : Int) (r : Rat) : Prop := ∃ n : Nat, (r.den : Int) = p ^ n
theorem pden_scale {p : Int} (hp : Pr p) {r : Rat} (h : PDen p r) : ∃ (n : Nat) (m : Int), r * ppw p (n : Int) = (m : Rat) := by
  obtain ⟨n, hn⟩ := h
  refine ⟨n, r.num, ?_⟩
  rw [ppw_nat, ← hn, ← rat_split r]
  first | rfl | norm_cast
theorem scale_more {p : Int} (hp : Pr p) {r : Rat} {n : Nat} {m : Int} (h : r * ppw p (n : Int) = (m : Rat)) {l : Nat} (hl : n ≤ l) : ∃ m' : Int, r * ppw p (l : Int) = (m' : Rat) := by
  refine ⟨m * p ^ (l - n), ?_⟩
  have e : ppw p (l : Int) = ppw p (n : Int) * ppw p ((l - n : Nat) : Int) := by rw [← ppw_add hp]; congr 1; omega
  rw [e, ← Rat.mul_assoc, h, ppw_nat]
  push_cast
  rfl
/-- a divisor of a power of p is one -/
theorem dvd_pw {p : Int} (hp : Pr p) : ∀ (n : Nat) (d : Int), 0 < d → d ∣ p ^ n → ∃ m : Nat, d = p ^ m
  | 0, d, h0, h => ⟨0, by
    rw [Int.pow_zero] at h ⊢
    have := Int.le_of_dvd (by decide) h
    omega⟩
  | n + 1, d, h0, h => by
    have p2 := hp.two_le
    by_cases z : d % p = 0
    · obtain ⟨q, rfl⟩ := Int.dvd_of_emod_eq_zero z
      rw [Int.pow_succ'] at h
      have q0 : 0 < q := by
        by_cases hq : 0 < q
        · exact hq
        · have := Int.mul_nonneg (show 0 ≤ p by omega) (show 0 ≤ -q by omega)
          rw [Int.mul_neg] at this
          omega
      obtain ⟨m, rfl⟩ := dvd_pw hp n q q0 (Int.dvd_of_mul_dvd_mul_left (by omega) h)
      exact ⟨m + 1, by rw [Int.pow_succ']⟩
    · obtain ⟨c, hc⟩ := h
      have h1 : p ^ (n + 1) ∣ c * d := ⟨1, by rw [Int.mul_one, Int.mul_comm]; exact hc.symm⟩
      have h2 := pw_gauss hp z (n + 1) c h1
      obtain ⟨e, rfl⟩ := h2
      have pp := pw_pos hp (n + 1)
      have : d * e = 1 := by
        have h3 : p ^ (n + 1) * (d * e) = p ^ (n + 1) * 1 := by rw [Int.mul_one]; grind
        exact Int.eq_of_mul_eq_mul_left (by omega) h3
      have : d ∣ 1 := ⟨e, this.symm⟩
      have := Int.le_of_dvd (by decide) this
      exact ⟨0, by rw [Int.pow_zero]; omega⟩
theorem pden_of {p : Int} (hp : Pr p) {r : Rat} {n : Nat} {m : Int} (h : r * ppw p (n : Int) = (m : Rat)) : PDen p r := by
  have e : r.num * p ^ n = m * (r.den : Int) := by
    have s := rat_split r
    rw [ppw_nat] at h
    have q : (r.num : Rat) * ((p ^ n : Int) : Rat) = (m : Rat) * ((r.den : Int) : Rat) := by
      rw [← s, ← h]
      push_cast
      grind
    exact_mod_cast q
  have hc : Int.gcd (r.den : Int) r.num = 1 := by
    rw [Int.gcd_comm, Int.gcd_eq_natAbs_gcd_natAbs, Int.natAbs_natCast]; exact r.reduced
  have d : (r.den : Int) ∣ r.num * p ^ n := ⟨m, by rw [e, Int.mul_comm]⟩
  have d2 : (r.den : Int) ∣ p ^ n := by
    have g := Int.gcd_mul_right_right_of_gcd_eq_one (k := p ^ n) hc
    have : (Int.gcd (r.den : Int) (r.num * p ^ n) : Int) = (r.den : Int) := by
      rw [Int.gcd_eq_left (by omega) d]
    rw [g] at this
    have h3 := Int.gcd_dvd_right (r.den : Int) (p ^ n)
    rw [this] at h3
    exact h3
  obtain ⟨k, hk⟩ := dvd_pw hp n _ (den_pos r) d2
  exact ⟨k, hk⟩
structure IsRest (p k : Int) (a r : Rat) : Prop where
  den : PDen p r
  nn : 0 ≤ r
  lt : r < ppw p k
  dv : Dv p k (a - r)
theorem rat_lt_int {a b : Int} : (a : Rat) < (b : Rat) ↔ a < b := by
  rw [Rat.lt_iff]; simp
theorem rat_le_int {a b : Int} : (a : Rat) ≤ (b : Rat) ↔ a ≤ b := by
  rw [Rat.le_iff]; simp
theorem mul_lt {a b c : Rat} (h : a < b) (hc : 0 < c) : a * c < b * c := (Rat.mul_lt_mul_right hc).mpr h
theorem rest_uniq {p k : Int} (hp : Pr p) {a b r s : Rat} (hr : IsRest p k a r) (hs : IsRest p k b s) (h : Dv p k (a - b)) : r = s := by
  have d : Dv p k (r - s) := dv_trans hp (dv_comm hr.dv) (dv_trans hp h hs.dv)
  obtain ⟨n1, m1, e1⟩ := pden_scale hp hr.den
  obtain ⟨n2, m2, e2⟩ := pden_scale hp hs.den
  obtain ⟨L, hL⟩ : ∃ L : Nat, n1 ≤ L ∧ n2 ≤ L ∧ -k ≤ (L : Int) := ⟨n1 + n2 + (-k).toNat, by omega, by omega, by omega⟩
  obtain ⟨x, hx⟩ := scale_more hp e1 hL.1
  obtain ⟨y, hy⟩ := scale_more hp e2 hL.2.1
  obtain ⟨K, hK⟩ : ∃ K : Nat, k + (L : Int) = (K : Int) := ⟨(k + L).toNat, by omega⟩
  have pL := ppw_pos hp (L : Int)
  have eK : ppw p k * ppw p (L : Int) = ((p ^ K : Int) : Rat) := by rw [← ppw_add hp, hK, ppw_nat]
  have bd : ∀ {t : Rat} {z : Int}, 0 ≤ t → t < ppw p k → t * ppw p (L : Int) = (z : Rat) → 0 ≤ z ∧ z < p ^ K := fun {t z} h0 h1 hz => by
    constructor
    · have : (0 : Rat) ≤ (z : Rat) := by rw [← hz]; exact Rat.mul_nonneg h0 (Rat.le_of_lt pL)
      exact rat_le_int.mp (by simpa using this)
    · have := mul_lt h1 pL
      rw [hz, eK] at this
      exact rat_lt_int.mp this
  have bx := bd hr.nn hr.lt hx
  have by' := bd hs.nn hs.lt hy
  obtain ⟨u, w, hw, hd⟩ := d
  have e : (x - y) * w = u * p ^ K := by
    have q : ((x : Rat) - (y : Rat)) * (w : Rat) = (u : Rat) * ((p ^ K : Int) : Rat) := by
      rw [← hx, ← hy, ← eK]
      grind
    exact_mod_cast q
  have dd := pw_gauss hp hw K (x - y) ⟨u, by rw [e, Int.mul_comm]⟩
  have : x - y = 0 := by
    rcases Int.lt_trichotomy (x - y) 0 with h | h | h
    · have := Int.le_of_dvd (show 0 < -(x - y) by omega) (Int.dvd_neg.mpr dd); omega
    · exact h
    · have := Int.le_of_dvd h dd; omega
  have exy : x = y := by omega
  rw [exy, ← hy] at hx
  have pn := ppw_ne hp (L : Int)
  grind
noncomputable def restQ (p k : Int) (a : Rat) : Rat := if k + (vp p a.den : Int) ≤ 0 then 0 else
  Rat.divInt (a.num * overBy p ((a.den : Int) / p ^ (vp p a.den)) (k + (vp p a.den : Int)).toNat % p ^ (k + (vp p a.den : Int)).toNat) (p ^ (vp p a.den))
theorem rest_is {p : Int} (hp : Pr p) (k : Int) (a : Rat) : IsRest p k a (restQ p k a) := by
  obtain ⟨d, hd, dp⟩ := vp_ex hp (den_ne a)
  unfold restQ
  have s := rat_split a
  generalize vp p a.den = e at *
  have pe := pw_pos hp e
  have hdiv : (a.den : Int) / p ^ e = d := by rw [hd]; exact Int.mul_ediv_cancel_left d (by omega)
  have hd' : (a.den : Rat) = ppw p (e : Int) * (d : Rat) := by
    rw [ppw_nat]
    have : ((a.den : Int) : Rat) = ((p ^ e * d : Int) : Rat) := by rw [← hd]
    push_cast at this ⊢
    exact this
  rw [hd'] at s
  have pne := ppw_ne hp (e : Int)
  split
  · rename_i h
    refine ⟨⟨0, by simp⟩, Rat.le_refl, ppw_pos hp k, ?_⟩
    obtain ⟨m, hm⟩ : ∃ m : Nat, -(e : Int) - k = (m : Int) := ⟨(-(e : Int) - k).toNat, by omega⟩
    refine ⟨a.num * p ^ m, d, dp, ?_⟩
    have e1 : ppw p (-(e : Int)) * ppw p (e : Int) = 1 := ppw_inv hp _
    have e2 : ppw p (-(e : Int)) = ppw p (m : Int) * ppw p k := by rw [← ppw_add hp]; congr 1; omega
    rw [ppw_nat] at e2
    push_cast at e2 ⊢
    grind
  · rename_i h
    obtain ⟨K, hK⟩ : ∃ K : Nat, k + (e : Int) = (K : Int) := ⟨(k + e).toNat, by omega⟩
    rw [hdiv, hK, Int.toNat_natCast]
    have ov := overBy_is hp dp K
    generalize overBy p d K = x at ov
    have pK := pw_pos hp K
    have w0 := Int.emod_nonneg (a.num * x) (show p ^ K ≠ 0 by omega)
    have w1 := Int.emod_lt_of_pos (a.num * x) pK
    have dw : p ^ K ∣ a.num - (a.num * x % p ^ K) * d := by
      have e1 : a.num - (a.num * x % p ^ K) * d = -(a.num * (d * x - 1)) + p ^ K * (a.num * x / p ^ K * d) := by rw [Int.emod_def]; grind
      rw [e1]
      exact Int.dvd_add (Int.dvd_neg.mpr (Int.dvd_mul_of_dvd_right ov.2.2)) (Int.dvd_mul_right _ _)
    generalize a.num * x % p ^ K = W at *
    have hr : Rat.divInt W (p ^ e) * ppw p (e : Int) = (W : Rat) := by
      rw [Rat.divInt_eq_div, ppw_nat]
      refine Rat.div_mul_cancel ?_
      intro z
      have : p ^ e = 0 := by exact_mod_cast z
      omega
    generalize Rat.divInt W (p ^ e) = r at hr
    have pp := ppw_pos hp (e : Int)
    refine ⟨pden_of hp hr, ?_, ?_, ?_⟩
    · by_cases z : 0 ≤ r
      · exact z
      · exfalso
        have := mul_lt (Rat.not_le.mp z) pp
        rw [hr, Rat.zero_mul] at this
        have := rat_lt_int.mp (by simpa using this : (W : Rat) < ((0 : Int) : Rat))
        omega
    · by_cases z : r < ppw p k
      · exact z
      · exfalso
        have h1 : ppw p k * ppw p (e : Int) ≤ r * ppw p (e : Int) := Rat.mul_le_mul_of_nonneg_right (Rat.not_lt.mp z) (Rat.le_of_lt pp)
        rw [hr, ← ppw_add hp, hK, ppw_nat] at h1
        have := rat_le_int.mp h1
        omega
    · obtain ⟨t, ht⟩ := dw
      refine ⟨t, d, dp, ?_⟩
      have e1 : ppw p (e : Int) * ppw p k = ((p ^ K : Int) : Rat) := by rw [← ppw_add hp, show (e : Int) + k = (K : Int) by omega, ppw_nat]
      have e2 : (a.num : Rat) - (W : Rat) * (d : Rat) = ((p ^ K : Int) : Rat) * (t : Rat) := by exact_mod_cast ht
      grind

theorem vp_le {p : Int} (hp : Pr p) {n : Int} (hn : n ≠ 0) {m : Nat} (h : Bd m n) : vp p n < m := by
  obtain ⟨u, hu, up⟩ := vp_ex hp hn
  have p2 := hp.two_le
  have u0 : u ≠ 0 := fun z => up (by rw [z]; simp)
  unfold Bd at h
  by_cases z : vp p n < m
  · exact z
  · exfalso
    have e : n.natAbs = (p ^ vp p n).natAbs * u.natAbs := by rw [← Int.natAbs_mul, ← hu]
    have h1 : 2 ^ m ≤ (p ^ vp p n).natAbs := by
      rw [Int.natAbs_pow]
      exact Nat.le_trans (Nat.pow_le_pow_right (by decide) (by omega)) (Nat.pow_le_pow_left (by omega) _)
    have h2 : (p ^ vp p n).natAbs * 1 ≤ (p ^ vp p n).natAbs * u.natAbs := Nat.mul_le_mul_left _ (by omega)
    omega
/-- alike by p ^ k -/
def alk (p k : Int) (a b : Rat) : Bool := match vq p (a - b) with
  | none => true
  | some v => decide (k ≤ v)
theorem alk_dv {p k : Int} (hp : Pr p) (a b : Rat) : alk p k a b = true ↔ Dv p k (a - b) := by
  rw [vq_dv hp]
  unfold alk
  cases vq p (a - b) with
  | none => simp
  | some v => simp
def R_alike (ds : List D) (d : D) : Prop := ∃ (p k : Int) (a b : Rat), ds = [.int p, .int k, frD a, frD b] ∧ Pr p ∧ Fb 4400 a ∧ Fb 4400 b ∧ d = .bl (alk p k a b)
def R_rest (ds : List D) (d : D) : Prop := ∃ (p k : Int) (a : Rat), ds = [.int p, .int k, frD a] ∧ Pr p ∧ k ≤ 900000 ∧ -900000 ≤ k ∧ Fb 4400 a ∧ d = frD (restQ p k a)
theorem rest_fb {p : Int} (hp : Pr p) {k : Int} {K m : Nat} (hk : k ≤ K) {a : Rat} (ha : Fb m a) : Fb (3 * (K + m) + 1) (restQ p k a) := by
  have hv := vp_le hp (den_ne a) ha.2
  have p2 := hp.two_le
  unfold restQ
  split
  · refine ⟨?_, ?_⟩
    · show (0 : Int).natAbs < _
      exact Nat.pow_pos (by decide)
    · show ((1 : Nat) : Int).natAbs < _
      have : 1 < 2 ^ (3 * (K + m) + 1) := Nat.one_lt_two_pow (by omega)
      simpa using this
  · have pe := pw_pos hp (vp p a.den)
    have pk := pw_pos hp (k + (vp p a.den : Int)).toNat
    have w0 := Int.emod_nonneg (a.num * overBy p ((a.den : Int) / p ^ (vp p a.den)) (k + (vp p a.den : Int)).toNat) (show p ^ (k + (vp p a.den : Int)).toNat ≠ 0 by omega)
    have w1 := Int.emod_lt_of_pos (a.num * overBy p ((a.den : Int) / p ^ (vp p a.den)) (k + (vp p a.den : Int)).toNat) pk
    exact Fb.divInt (by omega) (Bd.of_le w0 (Int.le_of_lt w1) ((pw_bd hp (k + (vp p a.den : Int)).toNat).mono (by omega))) ((pw_bd hp (vp p a.den)).mono (by omega))
def R_rest_right (ds : List D) (d : D) : Prop := ∃ (p k : Int) (a r : Rat), ds = [.int p, .int k, frD a, frD r] ∧ Pr p ∧ k ≤ 300 ∧ -300 ≤ k ∧ Fb 4400 a ∧ Fb 4400 r ∧ IsRest p k a r ∧ d = .bl true
@[ext] structure Tb where
  a : Rat
  b : Rat
  c : Rat
  d : Rat
abbrev tbD (t : Tb) : D := .tup [frD t.a, frD t.b, frD t.c, frD t.d]
def Tb.det (t : Tb) : Rat := t.a * t.d - t.b * t.c
def Tb.mul (s t : Tb) : Tb := ⟨s.a * t.a + s.b * t.c, s.a * t.b + s.b * t.d, s.c * t.a + s.d * t.c, s.c * t.b + s.d * t.d⟩
def Tb.scale (t : Tb) (r : Rat) : Tb := ⟨t.a * r, t.b * r, t.c * r, t.d * r⟩
def Tb.turn (t : Tb) : Tb := ⟨t.d, 0 - t.b, 0 - t.c, t.a⟩
def Tb.one : Tb := ⟨1, 0, 0, 1⟩
def Tb.inv (t : Tb) : Tb := t.turn.scale (t.det⁻¹)
/-- at most n bits in each part -/
structure Tbb (n : Nat) (t : Tb) : Prop where
  a : Fb n t.a
  b : Fb n t.b
  c : Fb n t.c
  d : Fb n t.d
theorem Tbb.mono {m n : Nat} {t : Tb} (h : Tbb m t) (l : m ≤ n) : Tbb n t := ⟨h.a.mono l, h.b.mono l, h.c.mono l, h.d.mono l⟩
theorem Fb.neg {m : Nat} {a : Rat} (h : Fb m a) : Fb m (-a) := ⟨by show Bd m (-a.num); exact h.1.neg, h.2⟩
theorem Fb.inv {m : Nat} {a : Rat} (h : Fb m a) (h0 : a ≠ 0) : Fb m a⁻¹ := by
  have hn : a.num ≠ 0 := fun z => h0 (Rat.num_eq_zero.mp z)
  refine ⟨?_, ?_⟩
  · rw [Rat.num_inv]
    have q := h.2
    unfold Bd at *
    rw [Int.natAbs_mul]
    have : a.num.sign.natAbs ≤ 1 := by
      rcases Int.lt_trichotomy a.num 0 with h | h | h
      · rw [Int.sign_eq_neg_one_of_neg h]; decide
      · exact absurd h hn
      · rw [Int.sign_eq_one_of_pos h]; decide
    calc a.num.sign.natAbs * (a.den : Int).natAbs ≤ 1 * (a.den : Int).natAbs := Nat.mul_le_mul_right _ this
      _ = (a.den : Int).natAbs := Nat.one_mul _
      _ < 2 ^ m := q
  · rw [Rat.den_inv, if_neg hn]
    have q := h.1
    unfold Bd at *
    rw [Int.natAbs_natCast]
    exact q
theorem fb_zero : Fb 1 0 := ⟨by decide +kernel, by decide +kernel⟩
theorem fb_one : Fb 1 1 := ⟨by decide +kernel, by decide +kernel⟩
theorem Fb.zsub {m : Nat} {a : Rat} (h : Fb m a) : Fb m (0 - a) := by rw [Rat.sub_eq_add_neg, Rat.zero_add]; exact h.neg
theorem Tbb.turn {m : Nat} {t : Tb} (h : Tbb m t) : Tbb m t.turn := ⟨h.d, h.b.zsub, h.c.zsub, h.a⟩
theorem Tbb.scale {m n : Nat} {t : Tb} {r : Rat} (h : Tbb m t) (hr : Fb n r) : Tbb (m + n) (t.scale r) := ⟨h.a.mul hr, h.b.mul hr, h.c.mul hr, h.d.mul hr⟩
theorem Tbb.det {m : Nat} {t : Tb} (h : Tbb m t) : Fb (4 * m + 1) t.det := ((h.a.mul h.d).sub (h.b.mul h.c)).mono (by omega)
theorem Tbb.mul {m n : Nat} {s t : Tb} (h : Tbb m s) (h' : Tbb n t) : Tbb (2 * (m + n) + 1) (s.mul t) :=
  ⟨((h.a.mul h'.a).add (h.b.mul h'.c)).mono (by omega), ((h.a.mul h'.b).add (h.b.mul h'.d)).mono (by omega), ((h.c.mul h'.a).add (h.d.mul h'.c)).mono (by omega), ((h.c.mul h'.b).add (h.d.mul h'.d)).mono (by omega)⟩
/-- what the measure of t and the product of s and t reckon on the way is not too long -/
structure MOk (t : Tb) : Prop where
  ht : Tbb 4400 t
  ad : Fb 4400 (t.a * t.d)
  bc : Fb 4400 (t.b * t.c)
structure POk (s t : Tb) : Prop where
  hs : Tbb 4400 s
  ht : Tbb 4400 t
  aa : Fb 4400 (s.a * t.a)
  bc : Fb 4400 (s.b * t.c)
  ab : Fb 4400 (s.a * t.b)
  bd : Fb 4400 (s.b * t.d)
  ca : Fb 4400 (s.c * t.a)
  dc : Fb 4400 (s.d * t.c)
  cb : Fb 4400 (s.c * t.b)
  dd : Fb 4400 (s.d * t.d)
theorem Tbb.pok {m n : Nat} {s t : Tb} (h : Tbb m s) (h' : Tbb n t) (l : m + n ≤ 4400) : POk s t :=
  ⟨h.mono (by omega), h'.mono (by omega), (h.a.mul h'.a).mono l, (h.b.mul h'.c).mono l, (h.a.mul h'.b).mono l, (h.b.mul h'.d).mono l, (h.c.mul h'.a).mono l, (h.d.mul h'.c).mono l, (h.c.mul h'.b).mono l, (h.d.mul h'.d).mono l⟩
def R_measure (ds : List D) (d : D) : Prop := ∃ t : Tb, ds = [tbD t] ∧ MOk t ∧ d = frD t.det
def R_trace (ds : List D) (d : D) : Prop := ∃ t : Tb, ds = [tbD t] ∧ Tbb 4400 t ∧ d = frD (t.a + t.d)
def R_onetab (ds : List D) (d : D) : Prop := ds = [] ∧ d = tbD Tb.one
def R_table_of (ds : List D) (r : Rs) : Prop := ∃ t : Tb, ds = [frD t.a, frD t.b, frD t.c, frD t.d] ∧ MOk t ∧ ((t.det ≠ 0 ∧ r = .ok (tbD t)) ∨ (t.det = 0 ∧ r = .ex "NoTable"))
def R_rowcol (ds : List D) (d : D) : Prop := ∃ a b c e : Rat, ds = [.tup [frD a, frD b], .tup [frD c, frD e]] ∧ Fb 4400 a ∧ Fb 4400 b ∧ Fb 4400 c ∧ Fb 4400 e ∧ Fb 4400 (a * c) ∧ Fb 4400 (b * e) ∧ d = frD (a * c + b * e)
def R_product (ds : List D) (d : D) : Prop := ∃ s t : Tb, ds = [tbD s, tbD t] ∧ POk s t ∧ d = tbD (s.mul t)
def R_stretched (ds : List D) (r : Rs) : Prop := ∃ (t : Tb) (q : Rat), ds = [tbD t, frD q] ∧ Tbb 4400 t ∧ Fb 4400 q ∧ ((q ≠ 0 ∧ r = .ok (tbD (t.scale q))) ∨ (q = 0 ∧ r = .ex "NoTable"))
def R_turned (ds : List D) (d : D) : Prop := ∃ t : Tb, ds = [tbD t] ∧ MOk t ∧ t.det ≠ 0 ∧ Fb 4400 t.det ∧ d = tbD t.inv
def R_neg (ds : List D) (d : D) : Prop := ∃ a : Rat, ds = [frD a] ∧ d = frD (-a)
def R_isfr2 (ds : List D) (d : D) : Prop := ∃ r : Rat, ds = [frD r, frD r] ∧ d = .bl true
def R_istab (ds : List D) (d : D) : Prop := ∃ t : Tb, ds = [tbD t, tbD t] ∧ d = .bl true
theorem over_eq (a : Rat) {b : Rat} (h0 : b ≠ 0) : Rat.divInt (a.num * (b.den : Int)) ((a.den : Int) * b.num) = a * b⁻¹ := by
  have hn : b.num ≠ 0 := fun z => h0 (Rat.num_eq_zero.mp z)
  have e : b⁻¹ = Rat.divInt (b.den : Int) b.num := by rw [Rat.inv_def]
  have ea : a = Rat.divInt a.num (a.den : Int) := by rw [Rat.divInt_ofNat]; exact (Rat.mkRat_self a).symm
  rw [e]
  conv => rhs; rw [ea]
  rw [Rat.divInt_mul_divInt]
theorem over_one {b : Rat} (h0 : b ≠ 0) : Rat.divInt ((1 : Rat).num * (b.den : Int)) (((1 : Rat).den : Int) * b.num) = b⁻¹ := by rw [over_eq 1 h0, Rat.one_mul]
theorem inv_ne {b : Rat} (h : b ≠ 0) : b⁻¹ ≠ 0 := fun z => by
  have := Rat.mul_inv_cancel _ h
  rw [z, Rat.mul_zero] at this
  exact absurd this (by decide)

theorem eqD_fq (a b : Rat) : eqD (frD a) (frD b) = decide (a = b) := by
  have e : eqD (frD a) (frD b) = ((a.num == b.num) && (((a.den : Int) == (b.den : Int)) && true)) := rfl
  rw [e, Bool.eq_iff_iff]
  simp only [Bool.and_true, Bool.and_eq_true, beq_iff_eq, decide_eq_true_eq]
  constructor
  · intro h; exact Rat.ext h.1 (by omega)
  · rintro rfl; exact ⟨rfl, rfl⟩
def R_stretchedD (ds : List D) (d : D) : Prop := ∃ (t : Tb) (q : Rat), ds = [tbD t, frD q] ∧ Tbb 4400 t ∧ Fb 4400 q ∧ (q ≠ 0 ∧ d = tbD (t.scale q))
theorem inv_i {t : Tb} (h : t.det ≠ 0) : ∃ i : Rat, (t.a * t.d - t.b * t.c) * i = 1 ∧ t.inv = ⟨t.d * i, (0 - t.b) * i, (0 - t.c) * i, t.a * i⟩ := ⟨t.det⁻¹, Rat.mul_inv_cancel _ h, rfl⟩
theorem det_mul (s t : Tb) : (s.mul t).det = s.det * t.det := by
  unfold Tb.mul Tb.det
  simp only []
  grind
theorem det_inv {t : Tb} (h : t.det ≠ 0) : t.inv.det ≠ 0 := by
  obtain ⟨i, e, q⟩ := inv_i h
  rw [q]
  unfold Tb.det
  simp only []
  intro z
  have : (1 : Rat) = 0 := by grind
  exact absurd this (by decide)
theorem inv_mul {t : Tb} (h : t.det ≠ 0) : t.inv.mul t = Tb.one := by
  obtain ⟨i, e, q⟩ := inv_i h
  rw [q]
  unfold Tb.mul Tb.one
  simp only [Tb.mk.injEq]
  refine ⟨?_, ?_, ?_, ?_⟩ <;> grind
theorem mul_inv {t : Tb} (h : t.det ≠ 0) : t.mul t.inv = Tb.one := by
  obtain ⟨i, e, q⟩ := inv_i h
  rw [q]
  unfold Tb.mul Tb.one
  simp only [Tb.mk.injEq]
  refine ⟨?_, ?_, ?_, ?_⟩ <;> grind
theorem inv_inv {t : Tb} (h : t.det ≠ 0) : t.inv.inv = t := by
  obtain ⟨i, e, q⟩ := inv_i h
  obtain ⟨j, f, r⟩ := inv_i (det_inv h)
  rw [r]
  rw [q] at f ⊢
  simp only [] at f
  rcases t with ⟨a, b, c, d⟩
  simp only [] at e f
  simp only [Tb.mk.injEq]
  have k : i * j = 1 := by grind
  refine ⟨?_, ?_, ?_, ?_⟩ <;> grind
theorem mul_assoc' (r s t : Tb) : (r.mul s).mul t = r.mul (s.mul t) := by
  unfold Tb.mul
  simp only [Tb.mk.injEq]
  refine ⟨?_, ?_, ?_, ?_⟩ <;> grind
theorem mul_one' (t : Tb) : t.mul Tb.one = t := by
  rcases t with ⟨a, b, c, d⟩
  unfold Tb.mul Tb.one
  simp only [Tb.mk.injEq]
  refine ⟨?_, ?_, ?_, ?_⟩ <;> grind
theorem Tbb.inv {m : Nat} {t : Tb} (h : Tbb m t) (h0 : t.det ≠ 0) : Tbb (5 * m + 1) t.inv := (h.turn.scale (h.det.inv h0)).mono (by omega)
theorem scale_scale {t : Tb} {q r : Rat} (h : q * r = 1) : (t.scale q).scale r = t := by
  rcases t with ⟨a, b, c, d⟩
  unfold Tb.scale
  simp only [Tb.mk.injEq]
  refine ⟨?_, ?_, ?_, ?_⟩ <;> grind
theorem scale_mul (s t : Tb) (q : Rat) : (s.scale q).mul t = (s.mul t).scale q := by
  unfold Tb.scale Tb.mul
  simp only [Tb.mk.injEq]
  refine ⟨?_, ?_, ?_, ?_⟩ <;> grind
theorem vq_none {p : Int} {r : Rat} : vq p r = none ↔ r = 0 := by
  unfold vq
  rw [← Rat.num_eq_zero]
  split <;> simp [*]
theorem vq_iff {p : Int} (hp : Pr p) {r : Rat} {v : Int} : vq p r = some v ↔ (r ≠ 0 ∧ ∀ k, Dv p k r ↔ k ≤ v) := by
  constructor
  · intro h
    refine ⟨fun z => ?_, fun k => ?_⟩
    · rw [vq_none.mpr z] at h; cases h
    · rw [vq_dv hp, h]
  · rintro ⟨h0, h⟩
    cases e : vq p r with
    | none => exact absurd (vq_none.mp e) h0
    | some w =>
      have q : ∀ k, Dv p k r ↔ k ≤ w := fun k => by rw [vq_dv hp, e]
      have h1 := (h w).mp ((q w).mpr (Int.le_refl _))
      have h2 := (q v).mp ((h v).mpr (Int.le_refl _))
      congr 1; omega
theorem dv_ppw {p k j : Int} (hp : Pr p) {r : Rat} : Dv p k (r * ppw p j) ↔ Dv p (k - j) r := by
  have hj := ppw_ne hp j
  have e : ppw p k = ppw p (k - j) * ppw p j := by rw [← ppw_add hp]; congr 1; omega
  constructor
  · rintro ⟨u, w, hw, h⟩
    refine ⟨u, w, hw, ?_⟩
    rw [e] at h
    grind
  · rintro ⟨u, w, hw, h⟩
    refine ⟨u, w, hw, ?_⟩
    rw [e]
    grind
theorem vq_mul_ppw {p : Int} (hp : Pr p) (r : Rat) (j : Int) : vq p (r * ppw p j) = (vq p r).map (· + j) := by
  cases e : vq p r with
  | none => rw [vq_none.mp e, Rat.zero_mul]; exact vq_none.mpr rfl
  | some v =>
    obtain ⟨h0, h⟩ := (vq_iff hp).mp e
    refine (vq_iff hp).mpr ⟨fun z => (Rat.mul_eq_zero.mp z).elim h0 (ppw_ne hp j), fun k => ?_⟩
    rw [dv_ppw hp, h]
    show k - j ≤ v ↔ k ≤ v + j
    omega
theorem vq_neg {p : Int} (hp : Pr p) (r : Rat) : vq p (-r) = vq p r := by
  cases e : vq p r with
  | none => rw [vq_none.mp e]; exact vq_none.mpr rfl
  | some v =>
    obtain ⟨h0, h⟩ := (vq_iff hp).mp e
    refine (vq_iff hp).mpr ⟨fun z => h0 (by grind), fun k => ?_⟩
    rw [← h k]
    exact ⟨fun z => by have := dv_neg z; rwa [Rat.neg_neg] at this, dv_neg⟩
theorem vq_one {p : Int} (hp : Pr p) : vq p 1 = some 0 := by have := vq_ppw (k := 0) hp; rwa [ppw_zero] at this
/-- the least power of those that are not nought -/
def leastV (p : Int) (rs : List Rat) : Int := match rs.filterMap (vq p) with
  | [] => 0
  | x :: xs => xs.foldl min x
/-- low: of the spot (k2, q2) in the spot (k1, q1) -/
def lowS (p k1 : Int) (q1 : Rat) (k2 : Int) (q2 : Rat) : Int := match vq p (q2 - q1) with
  | none => min 0 (k2 - k1)
  | some v => min (min 0 (k2 - k1)) (v - k1)
abbrev spotD (k : Int) (q : Rat) : D := .tup [.int k, frD q]
def tabS (p k : Int) (q : Rat) : Tb := ⟨ppw p k, q, 0, 1⟩
theorem tabS_det (p k : Int) (q : Rat) : (tabS p k q).det = ppw p k := by unfold tabS Tb.det; simp only []; grind
theorem inv_ppw {p : Int} (hp : Pr p) (k : Int) : (ppw p k)⁻¹ = ppw p (-k) := by
  have h := ppw_inv hp k
  have h0 := ppw_ne hp k
  have := Rat.mul_inv_cancel _ h0
  grind
theorem tabS_inv {p : Int} (hp : Pr p) (k : Int) (q : Rat) : (tabS p k q).inv = ⟨ppw p (-k), -q * ppw p (-k), 0, 1⟩ := by
  unfold Tb.inv
  rw [tabS_det, inv_ppw hp]
  have h := ppw_inv hp k
  unfold tabS Tb.turn Tb.scale
  simp only [Tb.mk.injEq]
  refine ⟨?_, ?_, ?_, ?_⟩ <;> grind
theorem tabS_mul {p : Int} (hp : Pr p) (k1 k2 : Int) (q1 q2 : Rat) : (tabS p k1 q1).inv.mul (tabS p k2 q2) = ⟨ppw p (k2 - k1), (q2 - q1) * ppw p (-k1), 0, 1⟩ := by
  rw [tabS_inv hp]
  have e : ppw p (k2 - k1) = ppw p (-k1) * ppw p k2 := by rw [← ppw_add hp]; congr 1; omega
  unfold tabS Tb.mul
  simp only [Tb.mk.injEq]
  refine ⟨?_, ?_, ?_, ?_⟩ <;> grind
theorem least_two {p : Int} (hp : Pr p) (k1 k2 : Int) (q1 q2 : Rat) : leastV p [ppw p (k2 - k1), (q2 - q1) * ppw p (-k1), 0, 1] = lowS p k1 q1 k2 q2 := by
  unfold leastV lowS
  have h0 : vq p 0 = none := vq_none.mpr rfl
  cases e : vq p (q2 - q1) with
  | none =>
    have h : [ppw p (k2 - k1), (q2 - q1) * ppw p (-k1), 0, 1].filterMap (vq p) = [k2 - k1, 0] := by
      simp [List.filterMap_cons, vq_ppw hp, vq_mul_ppw hp, e, h0, vq_one hp]
    rw [h]
    show min (k2 - k1) 0 = min 0 (k2 - k1)
    omega
  | some v =>
    have h : [ppw p (k2 - k1), (q2 - q1) * ppw p (-k1), 0, 1].filterMap (vq p) = [k2 - k1, v + -k1, 0] := by
      simp [List.filterMap_cons, vq_ppw hp, vq_mul_ppw hp, e, h0, vq_one hp]
    rw [h]
    show min (min (k2 - k1) (v + -k1)) 0 = min (min 0 (k2 - k1)) (v - k1)
    omega
/-- p ^ M times r is a whole number of at most B bits -/
def Sz (p : Int) (M B : Nat) (r : Rat) : Prop := ∃ m : Int, r * ppw p (M : Int) = (m : Rat) ∧ Bd B m
theorem Sz.fb {p : Int} (hp : Pr p) {M B n : Nat} {r : Rat} (h : Sz p M B r) (h1 : 3 * M + 1 ≤ n) (h2 : B ≤ n) : Fb n r := by
  obtain ⟨m, e, b⟩ := h
  have e2 : r = Rat.divInt m (p ^ M) := by
    have pp := pw_pos hp M
    have hne : ((p ^ M : Int) : Rat) ≠ 0 := by
      have := ppw_ne hp (M : Int)
      rwa [ppw_nat] at this
    rw [ppw_nat] at e
    rw [Rat.divInt_eq_div, ← e, Rat.div_def, Rat.mul_assoc, Rat.mul_inv_cancel _ hne, Rat.mul_one]
  rw [e2]
  exact Fb.divInt (by have := pw_pos hp M; omega) (b.mono h2) ((pw_bd hp M).mono h1)
theorem Sz.mul {p : Int} (hp : Pr p) {M N B C : Nat} {r s : Rat} (h : Sz p M B r) (h' : Sz p N C s) : Sz p (M + N) (B + C) (r * s) := by
  obtain ⟨m, e, b⟩ := h
  obtain ⟨m', e', b'⟩ := h'
  refine ⟨m * m', ?_, b.mul b'⟩
  have : ppw p ((M + N : Nat) : Int) = ppw p (M : Int) * ppw p (N : Int) := by rw [← ppw_add hp]; congr 1
  rw [this]
  push_cast
  grind
theorem Sz.add {p : Int} {M B : Nat} {r s : Rat} (h : Sz p M B r) (h' : Sz p M B s) : Sz p M (B + 1) (r + s) := by
  obtain ⟨m, e, b⟩ := h
  obtain ⟨m', e', b'⟩ := h'
  refine ⟨m + m', ?_, (b.add b').mono (by omega)⟩
  push_cast
  grind
theorem Sz.neg {p : Int} {M B : Nat} {r : Rat} (h : Sz p M B r) : Sz p M B (-r) := by
  obtain ⟨m, e, b⟩ := h
  refine ⟨-m, ?_, b.neg⟩
  push_cast
  grind
theorem Sz.sub {p : Int} {M B : Nat} {r s : Rat} (h : Sz p M B r) (h' : Sz p M B s) : Sz p M (B + 1) (r - s) := by rw [Rat.sub_eq_add_neg]; exact h.add h'.neg
theorem Sz.ppw {p : Int} (hp : Pr p) {k : Int} {M : Nat} (h0 : -(M : Int) ≤ k) {B : Nat} (h1 : 3 * (k + M) + 1 ≤ B) : Sz p M B (ppw p k) := by
  refine ⟨p ^ (k + M).toNat, ?_, (pw_bd hp _).mono (by omega)⟩
  rw [← ppw_add hp, ← ppw_nat]
  congr 1
  omega
theorem Sz.zero {p : Int} (M B : Nat) : Sz p M B 0 := ⟨0, by simp, by unfold Bd; exact Nat.pow_pos (by decide)⟩
theorem Sz.one {p : Int} (hp : Pr p) (M : Nat) : Sz p M (3 * M + 1) 1 := by
  have := Sz.ppw hp (k := 0) (M := M) (by omega) (B := 3 * M + 1) (by omega)
  rwa [ppw_zero] at this
theorem Sz.mono {p : Int} {M B C : Nat} {r : Rat} (h : Sz p M B r) (l : B ≤ C) : Sz p M C r := by
  obtain ⟨m, e, b⟩ := h
  exact ⟨m, e, b.mono l⟩
/-- a spot of no great size -/
structure Sp (p : Int) (k : Int) (q : Rat) : Prop where
  k0 : -310 ≤ k
  k1 : k ≤ 310
  q : Sz p 310 1862 q
theorem Sp.tab {p : Int} (hp : Pr p) {k : Int} {q : Rat} (h : Sp p k q) : MOk (tabS p k q) ∧ (tabS p k q).det ≠ 0 ∧ Fb 4400 (tabS p k q).det := by
  have hk := h.k0
  have hk1 := h.k1
  have a : Fb 4400 (ppw p k) := (Sz.ppw hp (M := 310) (k := k) (by omega) (B := 1862) (by omega)).fb hp (by decide) (by decide)
  have b : Fb 4400 q := h.q.fb hp (by decide) (by decide)
  have z : Fb 4400 0 := fb_zero.mono (by decide)
  have o : Fb 4400 1 := fb_one.mono (by decide)
  refine ⟨⟨⟨a, b, z, o⟩, ?_, ?_⟩, ?_, ?_⟩
  · show Fb 4400 (ppw p k * 1); rw [Rat.mul_one]; exact a
  · show Fb 4400 (q * 0); rw [Rat.mul_zero]; exact z
  · rw [tabS_det]; exact ppw_ne hp k
  · rw [tabS_det]; exact a
theorem Sp.pok {p : Int} (hp : Pr p) {k1 k2 : Int} {q1 q2 : Rat} (h1 : Sp p k1 q1) (h2 : Sp p k2 q2) : POk (tabS p k1 q1).inv (tabS p k2 q2) := by
  have ha := h1.k0; have hb := h1.k1; have hc := h2.k0; have hd := h2.k1
  rw [tabS_inv hp]
  have i1 := Sz.ppw hp (M := 310) (k := -k1) (by omega) (B := 1862) (by omega)
  have p2 := Sz.ppw hp (M := 310) (k := k2) (by omega) (B := 1862) (by omega)
  have f : ∀ {r : Rat}, Sz p 310 1862 r → Fb 4400 r := fun h => h.fb hp (by decide) (by decide)
  have g : ∀ {r : Rat}, Sz p 620 3724 r → Fb 4400 r := fun h => h.fb hp (by decide) (by decide)
  have z : Fb 4400 0 := fb_zero.mono (by decide)
  have o : Fb 4400 1 := fb_one.mono (by decide)
  have b1 : Fb 4400 (-q1 * ppw p (-k1)) := g (h1.q.neg.mul hp i1)
  refine ⟨⟨f i1, b1, z, o⟩, ⟨f p2, f h2.q, z, o⟩, g (i1.mul hp p2), ?_, g (i1.mul hp h2.q), ?_, ?_, ?_, ?_, ?_⟩
  · show Fb 4400 (-q1 * ppw p (-k1) * 0); rw [Rat.mul_zero]; exact z
  · show Fb 4400 (-q1 * ppw p (-k1) * 1); rw [Rat.mul_one]; exact b1
  · show Fb 4400 (0 * ppw p k2); rw [Rat.zero_mul]; exact z
  · show Fb 4400 (1 * 0); rw [Rat.mul_zero]; exact z
  · show Fb 4400 (0 * q2); rw [Rat.zero_mul]; exact z
  · show Fb 4400 (1 * 1); rw [Rat.mul_one]; exact o
theorem two_det {p : Int} (k1 k2 : Int) (q1 q2 : Rat) : Tb.det ⟨ppw p (k2 - k1), (q2 - q1) * ppw p (-k1), 0, 1⟩ = ppw p (k2 - k1) := by unfold Tb.det; simp only []; grind
def R_least (ds : List D) (d : D) : Prop := ∃ (p : Int) (rs : List Rat), ds = [.int p, .tup (rs.map frD)] ∧ Pr p ∧ rs.length ≤ 10 ∧ (∃ r ∈ rs, r ≠ 0) ∧ d = .int (leastV p rs)
def R_two (ds : List D) (d : D) : Prop := ∃ (p : Int) (t : Tb) (v : Int), ds = [.int p, tbD t] ∧ Pr p ∧ MOk t ∧ vq p t.det = some v ∧ d = .tup [.int (leastV p [t.a, t.b, t.c, t.d]), .int (v - leastV p [t.a, t.b, t.c, t.d])]
def R_tabat (ds : List D) (d : D) : Prop := ∃ (p k : Int) (q : Rat), ds = [.int p, spotD k q] ∧ Pr p ∧ -1000000 ≤ k ∧ k ≤ 1000000 ∧ d = tbD (tabS p k q)
def R_lies (ds : List D) (d : D) : Prop := ∃ (p k1 : Int) (q1 : Rat) (k2 : Int) (q2 : Rat), ds = [.int p, spotD k1 q1, spotD k2 q2] ∧ Pr p ∧ Sp p k1 q1 ∧ Sp p k2 q2 ∧ d = .tup [.int (lowS p k1 q1 k2 q2), .int (k2 - k1 - lowS p k1 q1 k2 q2)]
def wayS (p k1 : Int) (q1 : Rat) (k2 : Int) (q2 : Rat) : Int := k2 - k1 - lowS p k1 q1 k2 q2 - lowS p k1 q1 k2 q2
def R_way (ds : List D) (d : D) : Prop := ∃ (p k1 : Int) (q1 : Rat) (k2 : Int) (q2 : Rat), ds = [.int p, spotD k1 q1, spotD k2 q2] ∧ Pr p ∧ Sp p k1 q1 ∧ Sp p k2 q2 ∧ d = .int (wayS p k1 q1 k2 q2)
theorem det_of {t : Tb} {p v : Int} (h : vq p t.det = some v) : ∃ r ∈ [t.a, t.b, t.c, t.d], r ≠ 0 := by
  by_cases ha : t.a = 0
  · by_cases hb : t.b = 0
    · exfalso
      have : t.det = 0 := by unfold Tb.det; rw [ha, hb]; grind
      rw [vq_none.mpr this] at h; cases h
    · exact ⟨t.b, by simp, hb⟩
  · exact ⟨t.a, by simp, ha⟩
theorem vq_symm {p : Int} (hp : Pr p) (a b : Rat) : vq p (a - b) = vq p (b - a) := by
  rw [← vq_neg hp]; congr 1; grind
theorem low_self (p k : Int) (q : Rat) : lowS p k q k q = 0 := by
  unfold lowS
  rw [vq_none.mpr (by grind)]
  show min 0 (k - k) = 0
  omega
theorem way_symm {p : Int} (hp : Pr p) (k1 k2 : Int) (q1 q2 : Rat) : wayS p k1 q1 k2 q2 = wayS p k2 q2 k1 q1 := by
  unfold wayS lowS
  rw [vq_symm hp q2 q1]
  cases vq p (q1 - q2) with
  | none => show _ - min _ _ - min _ _ = _ - min _ _ - min _ _; omega
  | some v => show _ - min (min _ _) _ - min (min _ _) _ = _ - min (min _ _) _ - min (min _ _) _; omega
def cellOf (ns : List Int) (k : Int) : Int := if k < (ns.length : Int) then ns.getD k.toNat 0 % 10 ^ 60 else 0
def drawn (ns : List Int) (k : Int) : Int := if 0 < (ns.length : Int) ∧ ns.getD 0 0 % 2 = 1 then cellOf ns k / (1 + if k = 0 then 1 else 0)
  else cellOf ns k * 2147483629 + (cellOf ns k + 7919 * k + 13) * 48271 % 2147483647 * 69621 % 2147483629
def R_drawn (ds : List D) (d : D) : Prop := ∃ (ns : List Int) (k : Int), ds = [.lst (ns.map D.int), .int k] ∧ ns.length ≤ 63 ∧ 0 ≤ k ∧ k < 1000 ∧ d = .int (drawn ns k)
theorem cell_at {ns : List Int} {k : Int} (h0 : 0 ≤ k) (h : k < (ns.length : Int)) : atI (ns.map D.int) k = some (.int (ns.getD k.toNat 0)) := by
  have hk : k.toNat < ns.length := by omega
  have ek : k = ((k.toNat : Nat) : Int) := by omega
  have q : atI (ns.map D.int) ((k.toNat : Nat) : Int) = some (.int (ns.getD k.toNat 0)) := atI_nat (by
    rw [List.getElem?_map, List.getElem?_eq_getElem hk]
    simp [hk])
  rw [← ek] at q
  exact q
def mix60 (x k : Int) : Int := ((x % 2147483646 + 1) * 48271 % 2147483647 + k * k * 7919 + 1) * 69621 % 2147483647 * 48271 ^ 12 % 10 ^ 60
def num60 (ns : List Int) (k : Int) : Int := if k < (ns.length : Int) ∧ ns.getD 0 0 % 2 = 0 then cellOf ns k else mix60 (cellOf ns k) k
def R_num60 (ds : List D) (d : D) : Prop := ∃ (ns : List Int) (k : Int), ds = [.lst (ns.map D.int), .int k] ∧ ns.length ≤ 63 ∧ 0 ≤ k ∧ k < 1000 ∧ d = .int (num60 ns k)
/-- a spot: its fraction is its own rest, and not too long -/
structure Spt (p K k : Int) (q : Rat) : Prop where
  k0 : -K ≤ k
  k1 : k ≤ K
  nn : 0 ≤ q
  lt : q < ppw p k
  sc : ∃ m : Int, q * ppw p ((310 : Nat) : Int) = (m : Rat)
theorem Spt.mono {p K L k : Int} {q : Rat} (h : Spt p K k q) (l : K ≤ L) : Spt p L k q := ⟨by have := h.k0; omega, by have := h.k1; omega, h.nn, h.lt, h.sc⟩
theorem Spt.sz {p K k : Int} (hp : Pr p) {q : Rat} (h : Spt p K k q) (l : K ≤ 310) : Sz p 310 1862 q := by
  obtain ⟨m, e⟩ := h.sc
  refine ⟨m, e, ?_⟩
  have hk := h.k0
  have hk1 := h.k1
  have pp := ppw_pos hp ((310 : Nat) : Int)
  have m0 : (0 : Int) ≤ m := by
    have := Rat.mul_le_mul_of_nonneg_right h.nn (Rat.le_of_lt pp)
    rw [e, Rat.zero_mul] at this
    exact_mod_cast this
  have m1 : m < p ^ (k + 310).toNat := by
    have := mul_lt h.lt pp
    rw [e, ← ppw_add hp, show k + ((310 : Nat) : Int) = (((k + 310).toNat : Nat) : Int) by omega, ppw_nat] at this
    exact_mod_cast this
  exact Bd.of_le m0 (Int.le_of_lt m1) ((pw_bd hp _).mono (by omega))
theorem Spt.sp {p K k : Int} (hp : Pr p) {q : Rat} (h : Spt p K k q) (l : K ≤ 310) : Sp p k q := ⟨by have := h.k0; omega, by have := h.k1; omega, h.sz hp l⟩
theorem Spt.fb {p K k : Int} (hp : Pr p) {q : Rat} (h : Spt p K k q) (l : K ≤ 310) : Fb 1862 q := (h.sz hp l).fb hp (by decide) (by decide)
theorem ppw_fb {p : Int} (hp : Pr p) {k : Int} (n : Nat) (h0 : -(n : Int) ≤ k) (h1 : k ≤ n) : Fb (3 * n + 1) (ppw p k) := by
  by_cases h : 0 ≤ k
  · have q := ppw_nn (p := p) h
    refine ⟨?_, ?_⟩
    · rw [q.1]; exact (pw_bd hp _).mono (by omega)
    · rw [q.2]
      have : 1 < 2 ^ (3 * n + 1) := Nat.one_lt_two_pow (by omega)
      unfold Bd; simpa using this
  · have q := ppw_neg (p := p) (k := k) (by have := hp.two_le; omega) (by omega)
    refine ⟨?_, ?_⟩
    · rw [q.1]
      have : 1 < 2 ^ (3 * n + 1) := Nat.one_lt_two_pow (by omega)
      unfold Bd; simpa using this
    · rw [q.2]; exact (pw_bd hp _).mono (by omega)
/-! spots as the laws draw them -/
def spK (M h n : Int) : Int := if n / 25 % 8 = 1 then n / 200 % M - h else n % 25 - 12
def spR (M n : Int) : Int := if n / 25 % 8 = 1 then n / 200 / M else n / 200
def spQ0 (p k r : Int) : Rat := if k + r % 5 ≤ 0 then 0 else Rat.divInt (r / 5 % (ppw p (k + r % 5)).num) (ppw p (r % 5)).num
/-! the whole part taken off -/
def wholeP (a f : Rat) : Int := a.num * (f.den : Int) / ((a.den : Int) * f.num)
def R_raisedQ (ds : List D) (d : D) : Prop := ∃ p k : Int, ds = [.int p, .int k] ∧ Pr p ∧ -1000 ≤ k ∧ k ≤ 1000 ∧ d = frD (ppw p k)
def R_lvq (ds : List D) (d : D) : Prop := ∃ (p : Int) (a : Rat) (v : Int), ds = [.int p, frD a] ∧ Pr p ∧ vq p a = some v ∧ d = .int v
def R_spotN (M h : Int) (ds : List D) (d : D) : Prop := ∃ p n : Int, ds = [.int p, .int n] ∧ Pr p ∧ d = spotD (spK M h n) (spQ0 p (spK M h n) (spR M n))
abbrev R_spot401 := R_spotN 401 200
abbrev R_spot601 := R_spotN 601 300
abbrev R_spot61 := R_spotN 61 30
theorem prime_at {i : Int} (h0 : 0 ≤ i) (h1 : i < 4) : ∃ p, Pr p ∧ atI [D.int 2, D.int 3, D.int 5, D.int 7] i = some (.int p) := by
  rcases (show i = 0 ∨ i = 1 ∨ i = 2 ∨ i = 3 by omega) with rfl | rfl | rfl | rfl
  · exact ⟨2, .inl rfl, rfl⟩
  · exact ⟨3, .inr (.inl rfl), rfl⟩
  · exact ⟨5, .inr (.inr (.inl rfl)), rfl⟩
  · exact ⟨7, .inr (.inr (.inr rfl)), rfl⟩
theorem low_iff {p : Int} (hp : Pr p) (k1 k2 n : Int) (q1 q2 : Rat) : n ≤ lowS p k1 q1 k2 q2 + k1 ↔ n ≤ k1 ∧ n ≤ k2 ∧ Dv p n (q2 - q1) := by
  rw [vq_dv hp]
  unfold lowS
  cases vq p (q2 - q1) with
  | none => show n ≤ min 0 (k2 - k1) + k1 ↔ n ≤ k1 ∧ n ≤ k2 ∧ True; rw [and_true]; omega
  | some v => simp only []; omega
theorem low_le {p : Int} (hp : Pr p) (k1 k2 : Int) (q1 q2 : Rat) : lowS p k1 q1 k2 q2 + k1 ≤ k1 ∧ lowS p k1 q1 k2 q2 + k1 ≤ k2 ∧ Dv p (lowS p k1 q1 k2 q2 + k1) (q2 - q1) := (low_iff hp k1 k2 _ q1 q2).mp (Int.le_refl _)
theorem low_symm {p : Int} (hp : Pr p) (k1 k2 : Int) (q1 q2 : Rat) : lowS p k2 q2 k1 q1 + k2 = lowS p k1 q1 k2 q2 + k1 := by
  have a := low_le hp k1 k2 q1 q2
  have b := low_le hp k2 k1 q2 q1
  have c := (low_iff hp k1 k2 (lowS p k2 q2 k1 q1 + k2) q1 q2).mpr ⟨b.2.1, b.1, dv_comm b.2.2⟩
  have d := (low_iff hp k2 k1 (lowS p k1 q1 k2 q2 + k1) q2 q1).mpr ⟨a.2.1, a.1, dv_comm a.2.2⟩
  omega
theorem dv_mul {p j k : Int} (hp : Pr p) {r s : Rat} (h : Dv p j r) (h' : Dv p k s) : Dv p (j + k) (r * s) := by
  obtain ⟨u, w, hw, e⟩ := h
  obtain ⟨u', w', hw', e'⟩ := h'
  refine ⟨u * u', w * w', pr_mul hp hw hw', ?_⟩
  rw [ppw_add hp]
  push_cast
  grind
/-- a unit times a power -/
theorem vq_unit {p k u w : Int} (hp : Pr p) {r : Rat} (hu : ¬ u % p = 0) (hw : ¬ w % p = 0) (h : r * (w : Rat) = (u : Rat) * ppw p k) : vq p r = some k := by
  have w0 : (w : Rat) ≠ 0 := fun z => hw (by have : w = 0 := by exact_mod_cast z
                                             rw [this]; simp)
  have u0 : (u : Rat) ≠ 0 := fun z => hu (by have : u = 0 := by exact_mod_cast z
                                             rw [this]; simp)
  have pk := ppw_ne hp k
  refine (vq_iff hp).mpr ⟨fun z => ?_, fun j => ⟨fun hd => ?_, fun hj => dv_mono hp hj ⟨u, w, hw, h⟩⟩⟩
  · rw [z, Rat.zero_mul] at h
    exact (Rat.mul_eq_zero.mp h.symm).elim u0 pk
  · by_cases z : j ≤ k
    · exact z
    exfalso
    obtain ⟨u', w', hw', e'⟩ := dv_mono hp (show k + 1 ≤ j by omega) hd
    have e1 : ppw p (k + 1) = ppw p k * (p : Rat) := by
      rw [ppw_add hp]
      congr 1
      have := ppw_nat p 1
      simpa using this
    rw [e1] at e'
    have e2 : (u : Rat) * (w' : Rat) = (u' : Rat) * (w : Rat) * (p : Rat) := by grind
    have e3 : u * w' = u' * w * p := by exact_mod_cast e2
    exact pr_mul hp hu hw' (by rw [e3]; exact Int.mul_emod_left _ _)
theorem vq_split {p k : Int} (hp : Pr p) {r : Rat} (h : vq p r = some k) : ∃ u w : Int, ¬ u % p = 0 ∧ ¬ w % p = 0 ∧ r * (w : Rat) = (u : Rat) * ppw p k := by
  obtain ⟨h0, hk⟩ := (vq_iff hp).mp h
  obtain ⟨u, w, hw, e⟩ := (hk k).mpr (Int.le_refl _)
  refine ⟨u, w, fun z => ?_, hw, e⟩
  have e1 : ppw p (k + 1) = ppw p k * (p : Rat) := by
    rw [ppw_add hp]
    congr 1
    have := ppw_nat p 1
    simpa using this
  have p2 := hp.two_le
  have : Dv p (k + 1) r := ⟨u / p, w, hw, by
    have hu : u = u / p * p := by have := Int.emod_add_mul_ediv u p; rw [z, Int.zero_add, Int.mul_comm] at this; exact this.symm
    rw [e, e1]
    have hu' : (u : Rat) = ((u / p : Int) : Rat) * (p : Rat) := by exact_mod_cast hu
    rw [hu']
    grind⟩
  have := (hk (k + 1)).mp this
  omega
theorem vq_mul {p j k : Int} (hp : Pr p) {r s : Rat} (h : vq p r = some j) (h' : vq p s = some k) : vq p (r * s) = some (j + k) := by
  obtain ⟨u, w, hu, hw, e⟩ := vq_split hp h
  obtain ⟨u', w', hu', hw', e'⟩ := vq_split hp h'
  refine vq_unit hp (pr_mul hp hu hu') (pr_mul hp hw hw') ?_
  rw [ppw_add hp]
  push_cast
  grind
theorem vq_inv {p j : Int} (hp : Pr p) {r : Rat} (h : vq p r = some j) : vq p r⁻¹ = some (-j) := by
  obtain ⟨u, w, hu, hw, e⟩ := vq_split hp h
  have h0 := ((vq_iff hp).mp h).1
  have i := Rat.mul_inv_cancel _ h0
  have pi := ppw_inv hp j
  refine vq_unit hp hw hu ?_
  grind
theorem dv_of_vq {p k v : Int} (hp : Pr p) {r : Rat} (h : vq p r = some v) (hk : k ≤ v) : Dv p k r := by rw [vq_dv hp, h]; exact hk
/-- all four parts are whole by p to k -/
structure Dv4 (p k : Int) (t : Tb) : Prop where
  a : Dv p k t.a
  b : Dv p k t.b
  c : Dv p k t.c
  d : Dv p k t.d
/-- whole by p, with a measure of the power 0 -/
structure Glp (p : Int) (t : Tb) : Prop where
  w : Dv4 p 0 t
  d : vq p t.det = some 0
theorem Dv4.mul {p j k : Int} (hp : Pr p) {s t : Tb} (h : Dv4 p j s) (h' : Dv4 p k t) : Dv4 p (j + k) (s.mul t) :=
  ⟨dv_add hp (dv_mul hp h.a h'.a) (dv_mul hp h.b h'.c), dv_add hp (dv_mul hp h.a h'.b) (dv_mul hp h.b h'.d), dv_add hp (dv_mul hp h.c h'.a) (dv_mul hp h.d h'.c), dv_add hp (dv_mul hp h.c h'.b) (dv_mul hp h.d h'.d)⟩
theorem Glp.mul {p : Int} (hp : Pr p) {s t : Tb} (h : Glp p s) (h' : Glp p t) : Glp p (s.mul t) := ⟨h.w.mul hp h'.w, by rw [det_mul]; exact vq_mul hp h.d h'.d⟩
theorem Glp.ne {p : Int} (hp : Pr p) {t : Tb} (h : Glp p t) : t.det ≠ 0 := ((vq_iff hp).mp h.d).1
theorem Glp.inv {p : Int} (hp : Pr p) {t : Tb} (h : Glp p t) : Glp p t.inv := by
  have h0 := h.ne hp
  have i := vq_inv hp h.d
  have di := dv_of_vq hp i (show (0 : Int) ≤ -0 by decide)
  refine ⟨⟨?_, ?_, ?_, ?_⟩, ?_⟩
  · exact dv_mul hp h.w.d di
  · refine dv_mul hp (j := 0) (k := 0) (r := 0 - t.b) (s := t.det⁻¹) ?_ di; rw [Rat.sub_eq_add_neg, Rat.zero_add]; exact dv_neg h.w.b
  · refine dv_mul hp (j := 0) (k := 0) (r := 0 - t.c) (s := t.det⁻¹) ?_ di; rw [Rat.sub_eq_add_neg, Rat.zero_add]; exact dv_neg h.w.c
  · exact dv_mul hp h.w.a di
  · have e : t.inv.det * t.det = 1 := by
      rw [← det_mul, inv_mul h0]
      decide +kernel
    have e2 : t.inv.det = t.det⁻¹ := by
      have := Rat.mul_inv_cancel _ h0
      grind
    rw [e2]
    exact i
theorem least_foldl : ∀ (l : List Int) (x n : Int), n ≤ l.foldl min x ↔ n ≤ x ∧ ∀ y ∈ l, n ≤ y
  | [], x, n => by simp
  | y :: l, x, n => by
    rw [List.foldl_cons, least_foldl l (min x y) n]
    simp only [List.mem_cons, forall_eq_or_imp]
    rw [← and_assoc]
    exact and_congr_left fun _ => by omega
theorem least_iff {p : Int} (hp : Pr p) {rs : List Rat} (hr : ∃ r ∈ rs, r ≠ 0) (n : Int) : n ≤ leastV p rs ↔ ∀ r ∈ rs, Dv p n r := by
  obtain ⟨r0, hm, h0⟩ := hr
  unfold leastV
  cases e : rs.filterMap (vq p) with
  | nil => exact absurd (vq_none.mp (List.filterMap_eq_nil_iff.mp e r0 hm)) h0
  | cons x l =>
    show n ≤ l.foldl min x ↔ _
    rw [least_foldl]
    have key : (n ≤ x ∧ ∀ y ∈ l, n ≤ y) ↔ ∀ y ∈ rs.filterMap (vq p), n ≤ y := by rw [e]; simp
    rw [key]
    constructor
    · intro h r hr
      rw [vq_dv hp]
      cases hv : vq p r with
      | none => trivial
      | some v => exact h v (List.mem_filterMap.mpr ⟨r, hr, hv⟩)
    · intro h y hy
      obtain ⟨r, hr, hv⟩ := List.mem_filterMap.mp hy
      have := h r hr
      rw [vq_dv hp, hv] at this
      exact this
/-- r is a whole number of at most m bits, divided by N -/
def Qn (N : Int) (m : Nat) (r : Rat) : Prop := ∃ x : Int, r * (N : Rat) = (x : Rat) ∧ Bd m x
theorem Qn.fb {N : Int} {m n k : Nat} {r : Rat} (hN : N ≠ 0) (hb : Bd n N) (h : Qn N m r) (h1 : m ≤ k) (h2 : n ≤ k) : Fb k r := by
  obtain ⟨x, e, b⟩ := h
  have hne : (N : Rat) ≠ 0 := fun z => hN (by exact_mod_cast z)
  have e2 : r = Rat.divInt x N := by rw [Rat.divInt_eq_div, ← e, Rat.div_def, Rat.mul_assoc, Rat.mul_inv_cancel _ hne, Rat.mul_one]
  rw [e2]
  exact Fb.divInt hN (b.mono h1) (hb.mono h2)
theorem Qn.mul {N M : Int} {m n : Nat} {r s : Rat} (h : Qn N m r) (h' : Qn M n s) : Qn (N * M) (m + n) (r * s) := by
  obtain ⟨x, e, b⟩ := h
  obtain ⟨y, f, c⟩ := h'
  refine ⟨x * y, ?_, b.mul c⟩
  push_cast
  grind
theorem Qn.add {N : Int} {m : Nat} {r s : Rat} (h : Qn N m r) (h' : Qn N m s) : Qn N (m + 1) (r + s) := by
  obtain ⟨x, e, b⟩ := h
  obtain ⟨y, f, c⟩ := h'
  refine ⟨x + y, ?_, (b.add c).mono (by omega)⟩
  push_cast
  grind
theorem Qn.mono {N : Int} {m n : Nat} {r : Rat} (h : Qn N m r) (l : m ≤ n) : Qn N n r := by
  obtain ⟨x, e, b⟩ := h
  exact ⟨x, e, b.mono l⟩
theorem Qn.neg {N : Int} {m : Nat} {r : Rat} (h : Qn N m r) : Qn N m (-r) := by
  obtain ⟨x, e, b⟩ := h
  refine ⟨-x, ?_, b.neg⟩
  push_cast
  grind
/-- whole numbers of at most m bits, all divided by one number of at most n bits -/
def Cb (m n : Nat) (t : Tb) : Prop := ∃ N : Int, N ≠ 0 ∧ Bd n N ∧ Qn N m t.a ∧ Qn N m t.b ∧ Qn N m t.c ∧ Qn N m t.d
theorem Cb.mono {m n m' n' : Nat} {t : Tb} (h : Cb m n t) (l : m ≤ m') (l' : n ≤ n') : Cb m' n' t := by
  obtain ⟨N, h0, hb, a, b, c, d⟩ := h
  exact ⟨N, h0, hb.mono l', a.mono l, b.mono l, c.mono l, d.mono l⟩
theorem Cb.mul {m n m' n' : Nat} {s t : Tb} (h : Cb m n s) (h' : Cb m' n' t) : Cb (m + m' + 1) (n + n') (s.mul t) := by
  obtain ⟨N, h0, hb, a, b, c, d⟩ := h
  obtain ⟨M, g0, gb, a', b', c', d'⟩ := h'
  exact ⟨N * M, Int.mul_ne_zero h0 g0, hb.mul gb, (a.mul a').add (b.mul c'), (a.mul b').add (b.mul d'), (c.mul a').add (d.mul c'), (c.mul b').add (d.mul d')⟩
theorem Cb.tbb {m n k : Nat} {t : Tb} (h : Cb m n t) (h1 : m ≤ k) (h2 : n ≤ k) : Tbb k t := by
  obtain ⟨N, h0, hb, a, b, c, d⟩ := h
  exact ⟨a.fb h0 hb h1 h2, b.fb h0 hb h1 h2, c.fb h0 hb h1 h2, d.fb h0 hb h1 h2⟩
theorem Cb.pok {m n m' n' : Nat} {s t : Tb} (h : Cb m n s) (h' : Cb m' n' t) (h1 : m + m' ≤ 4400) (h2 : n + n' ≤ 4400) : POk s t := by
  obtain ⟨N, h0, hb, a, b, c, d⟩ := id h
  obtain ⟨M, g0, gb, a', b', c', d'⟩ := id h'
  have hn := Int.mul_ne_zero h0 g0
  have f : ∀ {r : Rat}, Qn (N * M) (m + m') r → Fb 4400 r := fun q => q.fb hn (hb.mul gb) h1 h2
  exact ⟨h.tbb (by omega) (by omega), h'.tbb (by omega) (by omega), f (a.mul a'), f (b.mul c'), f (a.mul b'), f (b.mul d'), f (c.mul a'), f (d.mul c'), f (c.mul b'), f (d.mul d')⟩
theorem Cb.det {m n : Nat} {t : Tb} (h : Cb m n t) : Fb (max (m + m + 1) (n + n)) t.det := by
  obtain ⟨N, h0, hb, a, b, c, d⟩ := h
  have q := (a.mul d).add (b.mul c).neg
  have e : t.det = t.a * t.d + -(t.b * t.c) := Rat.sub_eq_add_neg _ _
  rw [e]
  exact q.fb (Int.mul_ne_zero h0 h0) (hb.mul hb) (Nat.le_max_left _ _) (Nat.le_max_right _ _)
theorem Cb.scale {m n m' : Nat} {N : Int} {t : Tb} {r : Rat} (h : Cb m n t) {n' : Nat} (h0 : N ≠ 0) (hb : Bd n' N) (hr : Qn N m' r) : Cb (m + m') (n + n') (t.scale r) := by
  obtain ⟨M, g0, gb, a, b, c, d⟩ := h
  exact ⟨M * N, Int.mul_ne_zero g0 h0, gb.mul hb, a.mul hr, b.mul hr, c.mul hr, d.mul hr⟩
theorem Qn.self {m : Nat} {r : Rat} (h : Fb m r) : Qn (r.den : Int) m r := ⟨r.num, by have := rat_split r; push_cast; exact this, h.1⟩
theorem Qn.zero (N : Int) (m : Nat) : Qn N m 0 := ⟨0, by simp, by unfold Bd; exact Nat.pow_pos (by decide)⟩
theorem Qn.one {N : Int} {m : Nat} (h : Bd m N) : Qn N m 1 := ⟨N, by simp, h⟩
def R_spotof (ds : List D) (d : D) : Prop := ∃ (p : Int) (t : Tb) (v : Int), ds = [.int p, tbD t] ∧ Pr p ∧ MOk t ∧ vq p t.det = some v ∧ -900000 ≤ v - 2 * leastV p [t.c, t.d] ∧ v - 2 * leastV p [t.c, t.d] ≤ 900000 ∧
  (vq p t.c = some (leastV p [t.c, t.d]) → Fb 4400 (t.a * t.c⁻¹)) ∧ (¬ vq p t.c = some (leastV p [t.c, t.d]) → t.d ≠ 0 ∧ Fb 4400 (t.b * t.d⁻¹)) ∧
  d = spotD (v - 2 * leastV p [t.c, t.d]) (if vq p t.c = some (leastV p [t.c, t.d]) then restQ p (v - 2 * leastV p [t.c, t.d]) (t.a * t.c⁻¹) else restQ p (v - 2 * leastV p [t.c, t.d]) (t.b * t.d⁻¹))
theorem det_of2 {t : Tb} {p v : Int} (h : vq p t.det = some v) : ∃ r ∈ [t.c, t.d], r ≠ 0 := by
  by_cases ha : t.c = 0
  · by_cases hb : t.d = 0
    · exfalso
      have : t.det = 0 := by unfold Tb.det; rw [ha, hb]; grind
      rw [vq_none.mpr this] at h; cases h
    · exact ⟨t.d, by simp, hb⟩
  · exact ⟨t.c, by simp, ha⟩
theorem Spt.rest {p K k : Int} (hp : Pr p) {q a : Rat} (h : Spt p K k q) (hd : Dv p k (a - q)) : restQ p k a = q := by
  obtain ⟨m, e⟩ := h.sc
  have z : Dv p k (q - q) := by rw [Rat.sub_self]; exact dv_zero p k hp
  have r2 : IsRest p k q q := ⟨pden_of hp e, h.nn, h.lt, z⟩
  exact rest_uniq hp (rest_is hp k a) r2 hd
/-! a table that is a spot's, times a firm one, times a fraction -/
theorem Spt.dv {p K k : Int} (hp : Pr p) {q : Rat} (h : Spt p K k q) : Dv p (-310) q := by
  obtain ⟨m, e⟩ := h.sc
  have i := ppw_inv hp 310
  refine ⟨m, 1, by rcases hp with rfl | rfl | rfl | rfl <;> decide, ?_⟩
  rw [← e, Rat.mul_assoc, show ((310 : Nat) : Int) = 310 from rfl, Rat.mul_comm (ppw p 310), i]
  push_cast
  rfl
def nearK26 (k n : Int) : Int := k + n % 7 - 3
def nearQ26 (p k : Int) (q : Rat) (n : Int) : Rat := q + -((wholeP q (ppw p (nearK26 k n)) : Rat) * ppw p (nearK26 k n))
def R_near26 (ds : List D) (d : D) : Prop := ∃ (p k : Int) (q : Rat) (n : Int), ds = [.int p, spotD k q, .int n] ∧ Pr p ∧ Spt p 300 k q ∧ d = spotD (nearK26 k n) (nearQ26 p k q n)
def R_holds (ds : List D) (d : D) : Prop := ∃ (p k1 : Int) (q1 : Rat) (k2 : Int) (q2 : Rat) (k3 : Int) (q3 : Rat), ds = [.int p, spotD k1 q1, spotD k2 q2, spotD k3 q3] ∧ Pr p ∧ Spt p 300 k1 q1 ∧ Spt p 300 k2 q2 ∧ Spt p 300 k3 q3 ∧ d = .bl true
theorem eqD_spot2 (k1 k2 : Int) (q1 q2 : Rat) : eqD (spotD k1 q1) (spotD k2 q2) = decide (k1 = k2 ∧ q1 = q2) := by
  have e : eqD (spotD k1 q1) (spotD k2 q2) = ((k1 == k2) && (eqD (frD q1) (frD q2) && true)) := rfl
  rw [e, eqD_fq, Bool.eq_iff_iff]
  simp
/-- the rest of a fraction whose bottom is a power of p -/
def lrest (p j : Int) (q : Rat) : Rat := if j + (vp p q.den : Int) ≤ 0 then 0 else Rat.divInt (q.num % p ^ (j + (vp p q.den : Int)).toNat) q.den
theorem den_vp {p : Int} (hp : Pr p) {q : Rat} (h : PDen p q) : (q.den : Int) = p ^ vp p q.den := by
  obtain ⟨n, e⟩ := h
  have p2 := hp.two_le
  have h1 : ¬ (1 : Int) % p = 0 := by rcases hp with rfl | rfl | rfl | rfl <;> decide
  have := vp_of hp h1 n
  rw [Int.mul_one] at this
  rw [e, this]
theorem lrest_is {p : Int} (hp : Pr p) (j : Int) {q : Rat} (h : PDen p q) : lrest p j q = restQ p j q := by
  have p2 := hp.two_le
  have hd := den_vp hp h
  have dn : (q.den : Rat) ≠ 0 := by
    have := den_ne q
    exact_mod_cast this
  have rs := rat_split q
  have hnn : ((q.den : Int) : Rat) = ppw p (vp p q.den : Int) := by rw [ppw_nat, ← hd]
  generalize hv : vp p q.den = v at *
  have one : ¬ (1 : Int) % p = 0 := by rcases hp with rfl | rfl | rfl | rfl <;> decide
  have key : IsRest p j q (lrest p j q) := by
    unfold lrest
    rw [hv]
    split
    · rename_i hle
      refine ⟨⟨0, by simp⟩, by decide, ppw_pos hp j, ?_⟩
      rw [Rat.sub_eq_add_neg, Rat.neg_zero, Rat.add_zero]
      refine ⟨q.num * p ^ (-(j + v)).toNat, 1, one, ?_⟩
      have e : ppw p j * ppw p (v : Int) = ppw p (j + v) := by rw [← ppw_add hp]
      have e2 : ((p ^ (-(j + (v : Int))).toNat : Int) : Rat) * ppw p (j + v) = 1 := by
        rw [← ppw_nat, ← ppw_add hp, show (((-(j + (v : Int))).toNat : Nat) : Int) + (j + v) = 0 by omega, ppw_zero]
      have hq : q * ppw p (v : Int) = (q.num : Rat) := by rw [← hnn]; exact_mod_cast rs
      have i1 := ppw_inv hp (v : Int)
      have c : ((q.num * p ^ (-(j + (v : Int))).toNat : Int) : Rat) = (q.num : Rat) * ((p ^ (-(j + (v : Int))).toNat : Int) : Rat) := by push_cast; rfl
      rw [c]
      have one' : ((1 : Int) : Rat) = 1 := rfl
      rw [one', ← hq]
      rw [← e] at e2
      grind
    · rename_i hgt
      have hn : (((j + (v : Int)).toNat : Nat) : Int) = j + v := by omega
      generalize (j + (v : Int)).toNat = n at *
      have pp := pw_pos hp n
      have m0 := Int.emod_nonneg q.num (show p ^ n ≠ 0 by omega)
      have m1 := Int.emod_lt_of_pos q.num pp
      have dm := Int.mul_ediv_add_emod q.num (p ^ n)
      have er : Rat.divInt (q.num % p ^ n) q.den * ((q.den : Int) : Rat) = ((q.num % p ^ n : Int) : Rat) := by
        rw [Rat.divInt_eq_div]
        have : (((q.den : Int)) : Rat) ≠ 0 := by exact_mod_cast den_ne q
        rw [Rat.div_mul_cancel this]
      generalize Rat.divInt (q.num % p ^ n) q.den = r at *
      rw [hnn] at er
      have vp0 := ppw_pos hp (v : Int)
      have jn : ppw p j * ppw p (v : Int) = ((p ^ n : Int) : Rat) := by rw [← ppw_add hp, ← hn, ppw_nat]
      refine ⟨pden_of hp (n := v) er, ?_, ?_, ?_⟩
      · have : (0 : Rat) * ppw p (v : Int) ≤ r * ppw p (v : Int) := by
          rw [er, Rat.zero_mul]; exact_mod_cast m0
        exact Rat.le_of_mul_le_mul_right this vp0
      · have : r * ppw p (v : Int) < ppw p j * ppw p (v : Int) := by
          rw [er, jn]; exact_mod_cast m1
        exact (Rat.mul_lt_mul_right vp0).mp this
      · refine ⟨q.num / p ^ n, 1, one, ?_⟩
        have hq : q * ppw p (v : Int) = (q.num : Rat) := by rw [← hnn]; exact_mod_cast rs
        have i1 := ppw_inv hp (v : Int)
        have dm' : (q.num : Rat) = ((p ^ n : Int) : Rat) * ((q.num / p ^ n : Int) : Rat) + ((q.num % p ^ n : Int) : Rat) := by exact_mod_cast dm.symm
        have one' : ((1 : Int) : Rat) = 1 := rfl
        rw [one']
        rw [← hq, ← er, ← jn] at dm'
        grind
  exact rest_uniq hp key (rest_is hp j q) (by rw [Rat.sub_self]; exact dv_zero p _ hp)
theorem rest_sc {p : Int} (hp : Pr p) (j : Int) {q : Rat} (h : ∃ m : Int, q * ppw p ((310 : Nat) : Int) = (m : Rat)) : ∃ m : Int, restQ p j q * ppw p ((310 : Nat) : Int) = (m : Rat) := by
  rw [← lrest_is hp j (by obtain ⟨m, e⟩ := h; exact pden_of hp e)]
  unfold lrest
  split
  · exact ⟨0, by simp⟩
  · obtain ⟨m, h⟩ := h
    have e : q.num * p ^ 310 = m * (q.den : Int) := by
      have s := rat_split q
      rw [ppw_nat] at h
      have q : (q.num : Rat) * ((p ^ 310 : Int) : Rat) = (m : Rat) * ((q.den : Int) : Rat) := by
        rw [← s, ← h]
        push_cast
        grind
      exact_mod_cast q
    have hc : Int.gcd (q.den : Int) q.num = 1 := by
      rw [Int.gcd_comm, Int.gcd_eq_natAbs_gcd_natAbs, Int.natAbs_natCast]; exact q.reduced
    have d : (q.den : Int) ∣ q.num * p ^ 310 := ⟨m, by rw [e, Int.mul_comm]⟩
    have d2 : (q.den : Int) ∣ p ^ 310 := by
      have g := Int.gcd_mul_right_right_of_gcd_eq_one (k := p ^ 310) hc
      have : (Int.gcd (q.den : Int) (q.num * p ^ 310) : Int) = (q.den : Int) := by
        rw [Int.gcd_eq_left (by omega) d]
      rw [g] at this
      have h3 := Int.gcd_dvd_right (q.den : Int) (p ^ 310)
      rw [this] at h3
      exact h3
    obtain ⟨z, hz⟩ := d2
    generalize q.num % p ^ (j + (vp p q.den : Int)).toNat = w
    refine ⟨w * z, ?_⟩
    have dn : (((q.den : Int)) : Rat) ≠ 0 := by exact_mod_cast den_ne q
    rw [ppw_nat, hz, Rat.divInt_eq_div]
    push_cast
    push_cast at dn
    rw [← Rat.mul_assoc, Rat.div_mul_cancel dn]
theorem Spt.up {p K k : Int} (hp : Pr p) {q : Rat} (h : Spt p K k q) : Spt p (K + 1) (k - 1) (restQ p (k - 1) q) := by
  have r := rest_is hp (k - 1) q
  exact ⟨by have := h.k0; omega, by have := h.k1; omega, r.nn, r.lt, rest_sc hp _ h.sc⟩
def downQ (p k : Int) (q : Rat) (c : Int) : Rat := q + (c : Rat) * ppw p k
theorem Spt.down {p K k c : Int} (hp : Pr p) {q : Rat} (h : Spt p K k q) (hK : K ≤ 309) (c0 : 0 ≤ c) (c1 : c < p) : Spt p (K + 1) (k + 1) (downQ p k q c) := by
  have a0 := h.k0
  have a1 := h.k1
  have pk := ppw_pos hp k
  unfold downQ
  have c0' : (0 : Rat) ≤ (c : Rat) := by exact_mod_cast c0
  have c1' : ((c + 1 : Int) : Rat) ≤ (p : Rat) := by exact_mod_cast (show c + 1 ≤ p by omega)
  refine ⟨by omega, by omega, ?_, ?_, ?_⟩
  · have := Rat.mul_nonneg c0' (Rat.le_of_lt pk)
    have := h.nn
    grind
  · have e : ppw p (k + 1) = ppw p k * (p : Rat) := by
      rw [ppw_add hp]
      congr 1
      have := ppw_nat p 1
      simpa using this
    have l := h.lt
    have m : ((c + 1 : Int) : Rat) * ppw p k ≤ (p : Rat) * ppw p k := Rat.mul_le_mul_of_nonneg_right c1' (Rat.le_of_lt pk)
    push_cast at m
    rw [e]
    grind
  · obtain ⟨m, e⟩ := h.sc
    refine ⟨m + c * p ^ (k + 310).toNat, ?_⟩
    have e2 : ppw p k * ppw p ((310 : Nat) : Int) = ((p ^ (k + 310).toNat : Int) : Rat) := by
      rw [← ppw_add hp, ← ppw_nat]
      congr 1
      omega
    have c2 : ((m + c * p ^ (k + 310).toNat : Int) : Rat) = (m : Rat) + (c : Rat) * ((p ^ (k + 310).toNat : Int) : Rat) := by push_cast; rfl
    rw [c2, ← e, ← e2]
    grind
/-! the level at which two spots part -/
def lvS (p k1 : Int) (q1 : Rat) (k2 : Int) (q2 : Rat) : Int := lowS p k1 q1 k2 q2 + k1
theorem way_lv (p k1 : Int) (q1 : Rat) (k2 : Int) (q2 : Rat) : k1 + k2 - 2 * lvS p k1 q1 k2 q2 = wayS p k1 q1 k2 q2 := by
  unfold wayS lvS
  omega
/-! drawn spots -/
def fK (n : Int) : Int := if n / 25 % 8 = 1 then n / 25 / 8 % 401 - 200 else n % 25 - 12
def fDeep (n : Int) : Int := max 0 (-(fK n)) + n / 25 / 3208 % 7
def fNum (n : Int) : Int := if n / 25 / 3208 / 7 < 2 ^ 61 then (if n / 25 / 3208 / 7 % 5 = 1 then n / 25 / 3208 / 7 / 5 % 9 else (n / 25 / 3208 / 7 + 1) * 1442695040888963407 ^ 12 + n / 25 / 3208 / 7) else n / 25 / 3208 / 7
def fQ (p n : Int) : Rat := Rat.divInt (fNum n % p ^ (fK n + fDeep n).toNat) (p ^ (fDeep n).toNat)
/-! near spots: some ways up, some ways down -/
noncomputable def upsN (p : Int) : Nat → Int × Rat → Int × Rat
  | 0, s => s
  | n + 1, s => ((upsN p n s).1 - 1, restQ p ((upsN p n s).1 - 1) (upsN p n s).2)
def dnsN (p : Int) : Nat → Int → Int × Rat → Int × Rat
  | 0, _, s => s
  | n + 1, c, s => ((dnsN p n c s).1 + 1, downQ p (dnsN p n c s).1 (dnsN p n c s).2 (c / p ^ n % p))
noncomputable def nearS (p : Int) (s : Int × Rat) (n : Int) : Int × Rat := dnsN p (n / 6 % 6).toNat (n / 36) (upsN p (n % 6).toNat s)
def fmix (x k : Int) : Int := (x % 2305843009213693951 + 7919 * k * k + 104729 * k + 17) * 1442695040888963407 % 2305843009213693951 * 1181783497276652981 % 2305843009213693921
def fcell (ns : List Int) (k : Int) : Int := if k < (ns.length : Int) then (if 0 < k ∧ ns.getD 0 0 % 2 = 1 then ((ns.getD k.toNat 0).natAbs : Int) else fmix (ns.getD k.toNat 0) k) else fmix 0 k
def R_fcell (ds : List D) (d : D) : Prop := ∃ (ns : List Int) (k : Int), ds = [.lst (ns.map D.int), .int k] ∧ ns.length ≤ 63 ∧ 0 ≤ k ∧ k < 1000 ∧ d = .int (fcell ns k)
def R_fpw (ds : List D) (d : D) : Prop := ∃ p n : Int, ds = [.int p, .int n] ∧ Pr p ∧ 0 ≤ n ∧ n ≤ 3000 ∧ d = .int (p ^ n.toNat)
def R_frest (ds : List D) (d : D) : Prop := ∃ (p j : Int) (q : Rat), ds = [.int p, .int j, frD q] ∧ Pr p ∧ PDen p q ∧ Fb 1862 q ∧ j ≤ 400 ∧ d = frD (restQ p j q)
def R_fup (ds : List D) (d : D) : Prop := ∃ (p k : Int) (q : Rat), ds = [.int p, spotD k q] ∧ Pr p ∧ Spt p 309 k q ∧ d = spotD (k - 1) (restQ p (k - 1) q)
def R_fdown (ds : List D) (d : D) : Prop := ∃ (p k : Int) (q : Rat) (c : Int), ds = [.int p, spotD k q, .int c] ∧ Pr p ∧ Spt p 309 k q ∧ 0 ≤ c ∧ c < p ∧ d = spotD (k + 1) (downQ p k q c)
def R_flevel (ds : List D) (d : D) : Prop := ∃ (p k1 : Int) (q1 : Rat) (k2 : Int) (q2 : Rat), ds = [.int p, spotD k1 q1, spotD k2 q2] ∧ Pr p ∧ Fb 4400 q1 ∧ Fb 4400 q2 ∧ d = .int (lvS p k1 q1 k2 q2)
def R_ffar (ds : List D) (d : D) : Prop := ∃ (p k1 : Int) (q1 : Rat) (k2 : Int) (q2 : Rat), ds = [.int p, spotD k1 q1, spotD k2 q2] ∧ Pr p ∧ Fb 4400 q1 ∧ Fb 4400 q2 ∧ d = .int (wayS p k1 q1 k2 q2)
def R_fspot (ds : List D) (d : D) : Prop := ∃ p n : Int, ds = [.int p, .int n] ∧ Pr p ∧ 0 ≤ n ∧ d = spotD (fK n) (fQ p n)
def R_fnear (ds : List D) (d : D) : Prop := ∃ (p : Int) (s : Int × Rat) (n : Int), ds = [.int p, spotD s.1 s.2, .int n] ∧ Pr p ∧ Spt p 290 s.1 s.2 ∧ d = spotD (nearS p s n).1 (nearS p s n).2
def R_tied (ds : List D) (d : D) : Prop := ∃ (p k1 : Int) (q1 : Rat) (k2 : Int) (q2 : Rat), ds = [.int p, spotD k1 q1, spotD k2 q2] ∧ Pr p ∧ Sp p k1 q1 ∧ Sp p k2 q2 ∧ d = .bl (decide (wayS p k1 q1 k2 q2 = 1))

def R_flow (ds : List D) (d : D) : Prop := ∃ t b : Int, ds = [.int t, .int b] ∧ 0 < b ∧ Bd 8900 b ∧ d = frD (Rat.divInt t b)


theorem lv_iff {p : Int} (hp : Pr p) (k1 k2 n : Int) (q1 q2 : Rat) : n ≤ lvS p k1 q1 k2 q2 ↔ n ≤ k1 ∧ n ≤ k2 ∧ Dv p n (q2 - q1) := low_iff hp k1 k2 n q1 q2
theorem lv_symm {p : Int} (hp : Pr p) (k1 k2 : Int) (q1 q2 : Rat) : lvS p k2 q2 k1 q1 = lvS p k1 q1 k2 q2 := low_symm hp k1 k2 q1 q2
def wy (p : Int) (a b : Int × Rat) : Int := wayS p a.1 a.2 b.1 b.2
abbrev stD (s : Int × Rat) : D := spotD s.1 s.2
noncomputable def fourX (p n j : Int) (l : List (Int × Rat)) : Int × Rat :=
  if n % 4 = 0 then (fK (n / 4), fQ p (n / 4)) else if n % 32 = 1 then l.getD (n / 32 % j).toNat (0, 0) else nearS p (l.getD (n / 4 % j).toNat (0, 0)) (n / 12)
noncomputable def fourL (p : Int) (ns : List Int) (k : Int) : Nat → List (Int × Rat)
  | 0 => [(fK (fcell ns k), fQ p (fcell ns k))]
  | m + 1 => fourL p ns k m ++ [fourX p (fcell ns (k + ((m + 1 : Nat) : Int))) ((m + 1 : Nat) : Int) (fourL p ns k m)]
theorem wy_symm {p : Int} (hp : Pr p) (a b : Int × Rat) : wy p a b = wy p b a := way_symm hp _ _ _ _
def R_four (ds : List D) (d : D) : Prop := ∃ (p : Int) (ns : List Int) (k : Int), ds = [.int p, .lst (ns.map D.int), .int k] ∧ Pr p ∧ ns.length ≤ 63 ∧ 0 ≤ k ∧ k < 900 ∧ d = .lst ((fourL p ns k 3).map stD)
def R_sums (ds : List D) (d : D) : Prop := ∃ (p : Int) (a b c e : Int × Rat), ds = [.int p, .lst [stD a, stD b, stD c, stD e]] ∧ Pr p ∧ Sp p a.1 a.2 ∧ Sp p b.1 b.2 ∧ Sp p c.1 c.2 ∧ Sp p e.1 e.2 ∧ d = .lst [.int (wy p a b + wy p c e), .int (wy p a c + wy p b e), .int (wy p a e + wy p b c)]
def R_above (ds : List D) (d : D) : Prop := ∃ (p j : Int) (q : Rat) (k : Int), ds = [.int p, spotD j q, .int k] ∧ Pr p ∧ Fb 4400 q ∧ -900000 ≤ k ∧ k ≤ 900000 ∧ d = spotD k (restQ p k q)
def R_turn (ds : List D) (d : D) : Prop := ∃ (p k1 : Int) (q1 : Rat) (k2 : Int) (q2 : Rat), ds = [.int p, spotD k1 q1, spotD k2 q2] ∧ Pr p ∧ Spt p 310 k1 q1 ∧ Spt p 310 k2 q2 ∧ d = spotD (lvS p k1 q1 k2 q2) (restQ p (lvS p k1 q1 k2 q2) q1)
theorem lv_rest {p : Int} (hp : Pr p) (k1 k2 n : Int) (q1 q2 : Rat) (hn : n ≤ k1) : lvS p n (restQ p n q1) k2 q2 = min n (lvS p k1 q1 k2 q2) := by
  have rd := (rest_is hp n q1).dv
  have key : ∀ j, j ≤ lvS p n (restQ p n q1) k2 q2 ↔ j ≤ min n (lvS p k1 q1 k2 q2) := by
    intro j
    rw [lv_iff hp]
    constructor
    · rintro ⟨a, b, c⟩
      have : j ≤ lvS p k1 q1 k2 q2 := (lv_iff hp k1 k2 j q1 q2).mpr ⟨by omega, b, by
        have d := dv_sub hp c (dv_mono hp a rd)
        have e : q2 - restQ p n q1 - (q1 - restQ p n q1) = q2 - q1 := by grind
        rwa [e] at d⟩
      omega
    · intro h
      have h1 := (lv_iff hp k1 k2 j q1 q2).mp (by omega)
      refine ⟨by omega, h1.2.1, ?_⟩
      have d := dv_add hp h1.2.2 (dv_mono hp (show j ≤ n by omega) rd)
      have e : q2 - q1 + (q1 - restQ p n q1) = q2 - restQ p n q1 := by grind
      rwa [e] at d
  have a := (key (lvS p n (restQ p n q1) k2 q2)).mp (Int.le_refl _)
  have b := (key (min n (lvS p k1 q1 k2 q2))).mpr (Int.le_refl _)
  omega
/-- where the roads to two spots part -/
noncomputable def trn (p : Int) (a b : Int × Rat) : Int × Rat := (lvS p a.1 a.2 b.1 b.2, restQ p (lvS p a.1 a.2 b.1 b.2) a.2)
theorem lv_self {p : Int} (hp : Pr p) (k : Int) (q : Rat) : lvS p k q k q = k := by unfold lvS; rw [low_self]; omega
/-- two spots part at the same spot, seen from either -/
theorem rest_part {p : Int} (hp : Pr p) (a b : Int × Rat) {n : Int} (h : n ≤ lvS p a.1 a.2 b.1 b.2) : restQ p n a.2 = restQ p n b.2 := by
  have d := ((lv_iff hp a.1 b.1 n a.2 b.2).mp h).2.2
  exact rest_uniq hp (rest_is hp n a.2) (rest_is hp n b.2) (dv_comm d)
noncomputable def tiesL (p k : Int) (q : Rat) : List (Int × Rat) := (k - 1, restQ p (k - 1) q) :: (List.range p.toNat).map fun (c : Nat) => (k + 1, downQ p k q (0 + (c : Int) * 1))
abbrev trS (s : Int × Rat) : Int × Int × Int := (s.1, s.2.num, (s.2.den : Int))
noncomputable def tieS (p k : Int) (q : Rat) : List (Int × Int × Int) := triS ((tiesL p k q).map trS)
def R_above31 (ds : List D) (d : D) : Prop := ∃ (p j : Int) (q : Rat) (k : Int), ds = [.int p, spotD j q, .int k] ∧ Pr p ∧ Fb 4400 q ∧ -900000 ≤ k ∧ k ≤ 900000 ∧ d = spotD k (restQ p k q)
def R_ties (ds l : List D) : Prop := ∃ (p k : Int) (q : Rat), ds = [.int p, spotD k q] ∧ Pr p ∧ Spt p 300 k q ∧ l = (tieS p k q).map triD
def R_lties (ds : List D) (d : D) : Prop := ∃ (p k : Int) (q : Rat), ds = [.int p, spotD k q] ∧ Pr p ∧ Spt p 300 k q ∧ d = .lst ((tieS p k q).map triD)
def R_isspot31 (ds : List D) (d : D) : Prop := ∃ t : Int × Int × Int, ds = [triD t] ∧ d = .bl true
def R_are31 (ds : List D) (d : D) : Prop := ∃ l : List (Int × Int × Int), ds = [.lst (l.map triD), .lst (l.map triD)] ∧ l.length ≤ 1000 ∧ d = .bl true
noncomputable def abv (p : Int) (a : Int × Rat) (k : Int) : Int × Rat := (k, restQ p k a.2)
noncomputable def roadL (p : Int) (a b : Int × Rat) : List (Int × Rat) :=
  ((List.range (a.1 - (lvS p a.1 a.2 b.1 b.2 - 1)).toNat).map fun (j : Nat) => abv p a (a.1 + (j : Int) * (-1))) ++ (List.range (b.1 + 1 - (lvS p a.1 a.2 b.1 b.2 + 1)).toNat).map fun (j : Nat) => abv p b (lvS p a.1 a.2 b.1 b.2 + 1 + (j : Int) * 1)
theorem rest_rest41 {p : Int} (hp : Pr p) {j k : Int} (h : j ≤ k) (a : Rat) : restQ p j (restQ p k a) = restQ p j a :=
  rest_uniq hp (rest_is hp j _) (rest_is hp j a) (dv_comm (dv_mono hp h (rest_is hp k a).dv))
theorem abv_self {p K : Int} (hp : Pr p) {a : Int × Rat} (h : Spt p K a.1 a.2) : abv p a a.1 = a := by
  obtain ⟨m, e⟩ := h.sc
  have z : Dv p a.1 (a.2 - a.2) := by rw [Rat.sub_self]; exact dv_zero p a.1 hp
  have r2 : IsRest p a.1 a.2 a.2 := ⟨pden_of hp e, h.nn, h.lt, z⟩
  exact Prod.ext rfl (rest_uniq hp (rest_is hp a.1 a.2) r2 z)
theorem range_rev {α : Type} (f : Nat → α) (n : Nat) : ((List.range n).map f).reverse = (List.range n).map fun i => f (n - 1 - i) := by
  apply List.ext_getElem
  · simp
  · intro i h1 h2
    simp at h1 h2
    simp
theorem road_rev {p : Int} (hp : Pr p) (a b : Int × Rat) : (roadL p a b).reverse = roadL p b a := by
  have sy := lv_symm hp a.1 b.1 a.2 b.2
  have le := (lv_iff hp a.1 b.1 _ a.2 b.2).mp (Int.le_refl (lvS p a.1 a.2 b.1 b.2))
  have pt := rest_part hp a b (Int.le_refl (lvS p a.1 a.2 b.1 b.2))
  unfold roadL
  rw [sy]
  generalize lvS p a.1 a.2 b.1 b.2 = t at *
  obtain ⟨m, hm⟩ : ∃ m : Nat, a.1 = t + (m : Int) := ⟨(a.1 - t).toNat, by omega⟩
  obtain ⟨n, hn⟩ : ∃ n : Nat, b.1 = t + (n : Int) := ⟨(b.1 - t).toNat, by omega⟩
  have e1 : (a.1 - (t - 1)).toNat = m + 1 := by omega
  have e2 : (b.1 + 1 - (t + 1)).toNat = n := by omega
  have e3 : (b.1 - (t - 1)).toNat = n + 1 := by omega
  have e4 : (a.1 + 1 - (t + 1)).toNat = m := by omega
  rw [e1, e2, e3, e4, List.reverse_append, range_rev, range_rev, List.range_succ (n := n), List.map_append, List.range_succ_eq_map (n := m), List.map_cons, List.map_map]
  have g0 : abv p b (b.1 + ((n : Nat) : Int) * (-1)) = abv p a (a.1 + ((m + 1 - 1 - 0 : Nat) : Int) * (-1)) := by
    rw [show b.1 + ((n : Nat) : Int) * (-1) = t by omega, show a.1 + ((m + 1 - 1 - 0 : Nat) : Int) * (-1) = t by omega]
    exact Prod.ext rfl pt.symm
  have g1 : (List.range n).map (fun i => abv p b (t + 1 + ((n - 1 - i : Nat) : Int) * 1)) = (List.range n).map fun (j : Nat) => abv p b (b.1 + (j : Int) * (-1)) := by
    apply List.map_congr_left
    intro i hi
    have := List.mem_range.mp hi
    congr 1
    omega
  have g2 : (List.range m).map ((fun i => abv p a (a.1 + ((m + 1 - 1 - i : Nat) : Int) * (-1))) ∘ Nat.succ) = (List.range m).map fun (j : Nat) => abv p a (t + 1 + (j : Int) * 1) := by
    apply List.map_congr_left
    intro i hi
    have := List.mem_range.mp hi
    show abv p a (a.1 + ((m + 1 - 1 - (i + 1) : Nat) : Int) * (-1)) = _
    congr 1
    omega
  rw [g1, g2]
  show _ ++ (abv p a (a.1 + ((m + 1 - 1 - 0 : Nat) : Int) * (-1)) :: _) = (_ ++ [abv p b (b.1 + ((n : Nat) : Int) * (-1))]) ++ _
  rw [g0, List.append_assoc]
  rfl
def R_sbO (ds l : List D) : Prop := ∃ (p : Int) (a b : Int × Rat), ds = [.int p, stD a, stD b] ∧ Pr p ∧ Spt p 300 a.1 a.2 ∧ Spt p 300 b.1 b.2 ∧ l = ((roadL p a b).map trS).map triD
def R_roadO (ds l : List D) : Prop := ∃ (p : Int) (a b : Int × Rat), ds = [.int p, stD a, stD b] ∧ Pr p ∧ Spt p 300 a.1 a.2 ∧ Spt p 300 b.1 b.2 ∧ wy p a b ≤ 500 ∧ l = ((roadL p a b).map trS).map triD
def R_lroad (ds : List D) (d : D) : Prop := ∃ (p : Int) (a b : Int × Rat), ds = [.int p, stD a, stD b] ∧ Pr p ∧ Spt p 300 a.1 a.2 ∧ Spt p 300 b.1 b.2 ∧ d = .lst (((roadL p a b).map trS).map triD)
theorem road_D {p : Int} (a b : Int × Rat) (x y : List Nat) (f g : Nat → Int × Rat) : (x.map fun j => stD (f j)) ++ (y.map fun j => stD (g j)) = ((x.map f ++ y.map g).map trS).map triD := by
  simp only [List.map_append, List.map_map]
  rfl
def isW : D → Bool
  | .int _ => true
  | _ => false
def R_isw (ds : List D) (d : D) : Prop := ∃ x : D, ds = [x] ∧ d = .bl (isW x)

def isF : D → Bool
  | .tup [.int a, .int b] => decide (1 ≤ b) && decide ((Int.gcd a b : Int) = 1)
  | _ => false
noncomputable def isS (p : Int) : D → Bool
  | .tup [.int k, .tup [.int a, .int b]] => isF (.tup [.int a, .int b]) && decide (restQ p (min k (bits a : Int)) (Rat.divInt a b) = Rat.divInt a b)
  | _ => false
def okS (x : D) : Prop := ∀ k a b : Int, x = .tup [.int k, .tup [.int a, .int b]] → -900000 ≤ k ∧ Bd 4400 a ∧ Bd 4400 b
def SpP (p k a b : Int) : Prop := 1 ≤ b ∧ 0 ≤ a ∧ (Int.gcd a b : Int) = 1 ∧ (∃ n : Nat, b = p ^ n) ∧ Rat.divInt a b < ppw p k
def R_isF (ds : List D) (d : D) : Prop := ∃ x : D, ds = [x] ∧ d = .bl (isF x)
def R_isS (ds : List D) (d : D) : Prop := ∃ (p : Int) (x : D), ds = [.int p, x] ∧ Pr p ∧ okS x ∧ d = .bl (isS p x)
def things (k : Int) (q : Rat) : List D := [.lst [.int k, frD q], .tup [.int k, .lst [.int q.num, .int (q.den : Int)]], .tup [.int k, frD q, .int 0], .tup [.int k], .tup [.int k, .tup [.int q.num]], .tup [.int k, .tup [.int q.num, .int (q.den : Int), .int 1]]] ++
  [.tup [.non, frD q], .tup [.str "1", frD q], .tup [.int k, .tup [.str (toString q.num), .int (q.den : Int)]], .tup [.int k, .tup [.int q.num, .non]], .int k, .non] ++
  [.str "0:0", .tup [.bl true, .tup [.int 0, .int 1]], .tup [.int 3, .tup [.bl true, .int 1]], .tup [.int 3, .tup [.int 0, .bl true]], .tup [.int k, .int q.num], .tup [frD q, .int k], .tup [], .lst []]
def R_things (ds : List D) (d : D) : Prop := ∃ (k : Int) (q : Rat) (n : Int), ds = [spotD k q, .int n] ∧ Fb 1862 q ∧ d = (things k q).getD (n % 20).toNat .non
def nsp (p k : Int) (q : Rat) (n : Int) : Int × Int := if n % 6 = 0 then (q.num * 6, (q.den : Int) * 6) else if n % 6 = 1 then (-1 - q.num, (q.den : Int)) else if n % 6 = 2 then ((ppw p k).num, ((ppw p k).den : Int)) else
  if n % 6 = 3 then ((Rat.divInt (q.num * ((ppw p k).den : Int) + (ppw p k).num * (q.den : Int) * (1 + n / 6 % 9)) ((q.den : Int) * ((ppw p k).den : Int))).num, ((Rat.divInt (q.num * ((ppw p k).den : Int) + (ppw p k).num * (q.den : Int) * (1 + n / 6 % 9)) ((q.den : Int) * ((ppw p k).den : Int))).den : Int)) else
  if n % 6 = 4 then ((Rat.divInt (q.num * 11 + (q.den : Int)) ((q.den : Int) * 11)).num, ((Rat.divInt (q.num * 11 + (q.den : Int)) ((q.den : Int) * 11)).den : Int)) else (q.num, -(q.den : Int))
abbrev sp3 (k a b : Int) : D := .tup [.int k, .tup [.int a, .int b]]
def R_nsp (ds : List D) (d : D) : Prop := ∃ (p k : Int) (q : Rat) (n : Int), ds = [.int p, spotD k q, .int n] ∧ Pr p ∧ -320 ≤ k ∧ k ≤ 320 ∧ Fb 1862 q ∧ d = sp3 k (nsp p k q n).1 (nsp p k q n).2
def R_fits (ds : List D) (d : D) : Prop := ∃ p k a b : Int, ds = [.int p, sp3 k a b] ∧ Pr p ∧ -320 ≤ k ∧ k ≤ 320 ∧ Bd 4400 a ∧ Bd 4400 b ∧ d = .bl (isS p (sp3 k a b))
theorem dv_int32 {p : Int} (hp : Pr p) (k c : Int) : Dv p k ((c : Rat) * ppw p k) := ⟨c, 1, by rcases hp with rfl | rfl | rfl | rfl <;> decide, by simp⟩
/-- above a spot below lies the spot itself -/
theorem rest_down32 {p K k : Int} (hp : Pr p) {q : Rat} (h : Spt p K k q) (c : Int) : restQ p k (downQ p k q c) = q := by
  obtain ⟨m, e⟩ := h.sc
  have z : Dv p k (downQ p k q c - q) := by
    have e1 : downQ p k q c - q = (c : Rat) * ppw p k := by unfold downQ; grind
    rw [e1]
    exact dv_int32 hp k c
  exact rest_uniq hp (rest_is hp k _) ⟨pden_of hp e, h.nn, h.lt, z⟩ (by rw [Rat.sub_self]; exact dv_zero p k hp)
theorem way_abv32 {p : Int} (hp : Pr p) (a : Int × Rat) {j : Int} (h : j ≤ a.1) : wy p (abv p a j) a = a.1 - j := by
  have r := lv_rest hp a.1 a.1 j a.2 a.2 h
  rw [lv_self hp] at r
  have w := way_lv p (abv p a j).1 (abv p a j).2 a.1 a.2
  show wayS p (abv p a j).1 (abv p a j).2 a.1 a.2 = _
  rw [← w]
  show j + a.1 - 2 * lvS p j (restQ p j a.2) a.1 a.2 = _
  rw [r]
  omega
theorem abv_down32 {p K k : Int} (hp : Pr p) {q : Rat} (h : Spt p K k q) (c : Int) : abv p (k + 1, downQ p k q c) k = (k, q) := Prod.ext rfl (rest_down32 hp h c)
theorem mem_ties32 {p : Int} (hp : Pr p) (k : Int) (q : Rat) (t : Int × Rat) : t ∈ tiesL p k q ↔ t = (k - 1, restQ p (k - 1) q) ∨ ∃ c : Int, 0 ≤ c ∧ c < p ∧ t = (k + 1, downQ p k q c) := by
  unfold tiesL
  rw [List.mem_cons, List.mem_map]
  constructor
  · rintro (h | ⟨j, hj, rfl⟩)
    · exact .inl h
    · have := List.mem_range.mp hj
      exact .inr ⟨0 + (j : Int) * 1, by omega, by omega, rfl⟩
  · rintro (h | ⟨c, c0, c1, rfl⟩)
    · exact .inl h
    · refine .inr ⟨c.toNat, List.mem_range.mpr (by omega), ?_⟩
      rw [show 0 + ((c.toNat : Nat) : Int) * 1 = c by omega]
/-- a tie is one way off -/
theorem tie_way32 {p K : Int} (hp : Pr p) {a : Int × Rat} (h : Spt p K a.1 a.2) {t : Int × Rat} (ht : t ∈ tiesL p a.1 a.2) : wy p a t = 1 ∧ wy p t a = 1 := by
  have sy : ∀ x y : Int × Rat, wy p x y = wy p y x := fun x y => wy_symm hp x y
  rcases (mem_ties32 hp _ _ _).mp ht with rfl | ⟨c, c0, c1, rfl⟩
  · have w := way_abv32 hp a (j := a.1 - 1) (by omega)
    have w2 : wy p (a.1 - 1, restQ p (a.1 - 1) a.2) a = 1 := by
      have : wy p (abv p a (a.1 - 1)) a = 1 := by rw [w]; omega
      exact this
    exact ⟨(sy _ _).trans w2, w2⟩
  · have w := way_abv32 hp (a.1 + 1, downQ p a.1 a.2 c) (j := a.1) (show a.1 ≤ a.1 + 1 by omega)
    rw [abv_down32 hp h c] at w
    have w2 : wy p a (a.1 + 1, downQ p a.1 a.2 c) = 1 := by
      have : wy p (a.1, a.2) (a.1 + 1, downQ p a.1 a.2 c) = 1 := by
        rw [w]
        show a.1 + 1 - a.1 = 1
        omega
      exact this
    exact ⟨w2, (sy _ _).trans w2⟩
section
variable {Y : Cy} {T : Tx} {k : Nat} {N G : List Str} {c : List Slot} {a b : Expr} {pos : Pos} {d d' : D} {ds : List D}
end
def R_alone (ds : List D) (d : D) : Prop := ∃ (p : Int) (a t : Int × Rat), ds = [.int p, stD a, stD t] ∧ Pr p ∧ Spt p 300 a.1 a.2 ∧ Spt p 300 t.1 t.2 ∧ wy p a t = 1 ∧ wy p t a = 1 ∧ a ∈ tiesL p t.1 t.2 ∧ d = .bl true

noncomputable def mtL (p : Int) (a b c : Int × Rat) : List (Int × Rat) := [trn p a b, trn p a c, trn p b c]
abbrev prS (s : Int × Rat) : Int × D := (s.1, frD s.2)
noncomputable def meetS (p : Int) (a b c : Int × Rat) : Int × Rat := (mtL p a b c).getD (argBest (bestP ((mtL p a b c).map prS)) 2) (0, 0)
def R_meeting (ds : List D) (d : D) : Prop := ∃ (p : Int) (a b c : Int × Rat), ds = [.int p, stD a, stD b, stD c] ∧ Pr p ∧ Spt p 310 a.1 a.2 ∧ Spt p 310 b.1 b.2 ∧ Spt p 310 c.1 c.2 ∧ d = stD (meetS p a b c)
def R_right45 (ds : List D) (d : D) : Prop := ∃ (p : Int) (a b c : Int × Rat), ds = [.int p, stD a, stD b, stD c] ∧ Pr p ∧ Spt p 310 a.1 a.2 ∧ Spt p 310 b.1 b.2 ∧ Spt p 310 c.1 c.2 ∧ d = .bl true
noncomputable def sp45x (p n : Int) (l : List (Int × Rat)) : Int × Rat :=
  if 250 < (((nearS p (l.getD (max 0 ((l.length : Int) - 1 - n % 3)).toNat (0, 0)) (n / 3)).1.natAbs : Nat) : Int) then l.getD 0 (0, 0) else nearS p (l.getD (max 0 ((l.length : Int) - 1 - n % 3)).toNat (0, 0)) (n / 3)
noncomputable def sp45 (p : Int) (ns : List Int) (s : Int × Rat) : Nat → List (Int × Rat)
  | 0 => [s]
  | m + 1 => sp45 p ns s m ++ [sp45x p (fcell ns (2 + (m : Int) * 1)) (sp45 p ns s m)]
/-- a spot lies on the road between two -/
def On44 (p : Int) (a b x : Int × Rat) : Prop := lvS p a.1 a.2 b.1 b.2 ≤ x.1 ∧ ((x.1 ≤ a.1 ∧ x.2 = restQ p x.1 a.2) ∨ (x.1 ≤ b.1 ∧ x.2 = restQ p x.1 b.2))
def in44 (l : List (Int × Rat)) (x : Int × Rat) : Bool := l.any fun y => decide (y = x)
noncomputable def both44 (p : Int) (a b c : Int × Rat) : List (Int × Rat) := (roadL p a b).filter (in44 (roadL p c a))
noncomputable def th44 (p : Int) (ns : List Int) (k : Int) : List (Int × Rat) :=
  if 1 < fcell ns k / 11 % 4 then
    [(fK (fcell ns k), fQ p (fcell ns k)), nearS p (fK (fcell ns k), fQ p (fcell ns k)) (fcell ns (k + 1)),
      if fcell ns k / 11 / 8 % 8 = 1 then (fK (fcell ns k), fQ p (fcell ns k)) else nearS p ([(fK (fcell ns k), fQ p (fcell ns k)), nearS p (fK (fcell ns k), fQ p (fcell ns k)) (fcell ns (k + 1))].getD (fcell ns k / 11 / 4 % 2).toNat (0, 0)) (fcell ns (k + 2))]
  else [(fK (fcell ns k), fQ p (fcell ns k)), (fK (fcell ns (k + 1)), fQ p (fcell ns (k + 1))), if fcell ns k / 11 / 8 % 8 = 1 then (fK (fcell ns k), fQ p (fcell ns k)) else (fK (fcell ns (k + 2)), fQ p (fcell ns (k + 2)))]
def R_three (ds : List D) (d : D) : Prop := ∃ (p : Int) (ns : List Int) (k : Int), ds = [.int p, .lst (ns.map D.int), .int k] ∧ Pr p ∧ ns.length ≤ 63 ∧ 0 ≤ k ∧ k < 900 ∧ d = .lst ((th44 p ns k).map stD)
/-! a walk without turning back is the road -/
theorem abv_abv {p : Int} (hp : Pr p) (a : Int × Rat) {j k : Int} (h : j ≤ k) : abv p (abv p a k) j = abv p a j := Prod.ext rfl (rest_rest41 hp h a.2)
theorem lv_abv {p : Int} (hp : Pr p) (a b : Int × Rat) {j : Int} (h : j ≤ b.1) : lvS p a.1 a.2 (abv p b j).1 (abv p b j).2 = min (lvS p a.1 a.2 b.1 b.2) j := by
  have h1 := fun n => lv_iff hp a.1 (abv p b j).1 n a.2 (abv p b j).2
  have h2 := fun n => lv_iff hp a.1 b.1 n a.2 b.2
  have key : ∀ n, n ≤ lvS p a.1 a.2 (abv p b j).1 (abv p b j).2 ↔ n ≤ min (lvS p a.1 a.2 b.1 b.2) j := by
    intro n
    rw [h1 n, show n ≤ min (lvS p a.1 a.2 b.1 b.2) j ↔ n ≤ lvS p a.1 a.2 b.1 b.2 ∧ n ≤ j by omega, h2 n]
    have rj := (rest_is hp j b.2).dv
    constructor
    · rintro ⟨x1, x2, x3⟩
      have x2 : n ≤ j := x2
      have x3 : Dv p n (restQ p j b.2 - a.2) := x3
      exact ⟨⟨x1, by omega, dv_trans hp (dv_mono hp x2 rj) x3⟩, x2⟩
    · rintro ⟨⟨x1, x2, x3⟩, x4⟩
      refine ⟨x1, x4, ?_⟩
      show Dv p n (restQ p j b.2 - a.2)
      exact dv_trans hp (dv_comm (dv_mono hp x4 rj)) x3
  have k1 := (key _).mp (Int.le_refl _)
  have k2 := (key _).mpr (Int.le_refl _)
  omega
/-- down to t, one more -/
theorem road_down {p K : Int} (hp : Pr p) (a b t : Int × Rat) (st : Spt p K t.1 t.2) (h1 : t.1 = b.1 + 1) (h2 : abv p t b.1 = b) (h3 : lvS p a.1 a.2 t.1 t.2 = lvS p a.1 a.2 b.1 b.2) : roadL p a t = roadL p a b ++ [t] := by
  have le := (lv_iff hp a.1 b.1 _ a.2 b.2).mp (Int.le_refl (lvS p a.1 a.2 b.1 b.2))
  unfold roadL
  rw [h3]
  generalize lvS p a.1 a.2 b.1 b.2 = L at *
  obtain ⟨n, hn⟩ : ∃ n : Nat, b.1 = L + (n : Int) := ⟨(b.1 - L).toNat, by omega⟩
  rw [show (t.1 + 1 - (L + 1)).toNat = n + 1 by omega, show (b.1 + 1 - (L + 1)).toNat = n by omega, List.range_succ (n := n), List.map_append, List.append_assoc]
  congr 1
  have e1 : (List.range n).map (fun (j : Nat) => abv p t (L + 1 + (j : Int) * 1)) = (List.range n).map fun (j : Nat) => abv p b (L + 1 + (j : Int) * 1) := by
    apply List.map_congr_left
    intro j hj
    have := List.mem_range.mp hj
    show abv p t (L + 1 + (j : Int) * 1) = abv p b (L + 1 + (j : Int) * 1)
    rw [← h2]
    exact (abv_abv hp t (by omega)).symm
  rw [e1]
  congr 1
  show [abv p t (L + 1 + (n : Int) * 1)] = [t]
  rw [show L + 1 + (n : Int) * 1 = t.1 by omega, abv_self hp st]
/-- up to t, one more -/
theorem road_up {p : Int} (hp : Pr p) (a b t : Int × Rat) (h1 : t = abv p b (b.1 - 1)) (h2 : abv p a b.1 = b) (h3 : lvS p a.1 a.2 b.1 b.2 = b.1) : roadL p a t = roadL p a b ++ [t] := by
  have le := (lv_iff hp a.1 b.1 _ a.2 b.2).mp (Int.le_refl (lvS p a.1 a.2 b.1 b.2))
  have lt : lvS p a.1 a.2 t.1 t.2 = b.1 - 1 := by
    rw [h1, lv_abv hp a b (by omega), h3]
    omega
  have t1 : t.1 = b.1 - 1 := by rw [h1]; rfl
  unfold roadL
  rw [lt, h3]
  rw [h3] at le
  obtain ⟨n, hn⟩ : ∃ n : Nat, a.1 = b.1 + (n : Int) := ⟨(a.1 - b.1).toNat, by omega⟩
  rw [show (a.1 - (b.1 - 1 - 1)).toNat = n + 1 + 1 by omega, show (a.1 - (b.1 - 1)).toNat = n + 1 by omega, show (t.1 + 1 - (b.1 - 1 + 1)).toNat = 0 by omega, show (b.1 + 1 - (b.1 + 1)).toNat = 0 by omega, List.range_succ (n := n + 1), List.map_append]
  simp only [List.range_zero, List.map_nil, List.append_nil, List.map_cons]
  congr 2
  rw [h1, ← h2, abv_abv hp a (by rw [h2]; omega)]
  show abv p a (a.1 + ((n + 1 : Nat) : Int) * (-1)) = abv p a ((abv p a b.1).1 - 1)
  rw [show a.1 + ((n + 1 : Nat) : Int) * (-1) = b.1 - 1 by omega]
  rfl
theorem lv_full {p : Int} (hp : Pr p) {K : Int} (a b : Int × Rat) (sb : Spt p K b.1 b.2) (h : lvS p a.1 a.2 b.1 b.2 = b.1) : abv p a b.1 = b := by
  have le := (lv_iff hp a.1 b.1 _ a.2 b.2).mp (Int.le_refl (lvS p a.1 a.2 b.1 b.2))
  rw [h] at le
  have s := abv_self hp sb
  have e : restQ p b.1 a.2 = restQ p b.1 b.2 := rest_uniq hp (rest_is hp b.1 a.2) (rest_is hp b.1 b.2) (dv_comm le.2.2)
  rw [← s]
  exact Prod.ext rfl e
/-- one step from b: the road grows by it, or it was the last but one -/
theorem road_step {p K : Int} (hp : Pr p) (a b t : Int × Rat) (sb : Spt p K b.1 b.2) (st : Spt p (K + 1) t.1 t.2) (ht : t ∈ tiesL p b.1 b.2) : roadL p a t = roadL p a b ++ [t] ∨ roadL p a b = roadL p a t ++ [b] := by
  have le := (lv_iff hp a.1 b.1 _ a.2 b.2).mp (Int.le_refl (lvS p a.1 a.2 b.1 b.2))
  have sbb := abv_self hp sb
  rcases (mem_ties32 hp b.1 b.2 t).mp ht with e | ⟨c, c0, c1, e⟩
  · have et : t = abv p b (b.1 - 1) := e
    have lt : lvS p a.1 a.2 t.1 t.2 = min (lvS p a.1 a.2 b.1 b.2) (b.1 - 1) := by rw [et]; exact lv_abv hp a b (by omega)
    by_cases h : lvS p a.1 a.2 b.1 b.2 = b.1
    · exact .inl (road_up hp a b t et (lv_full hp a b sb h) h)
    · refine .inr (road_down hp a t b sb ?_ ?_ ?_)
      · rw [et]; show b.1 = b.1 - 1 + 1; omega
      · rw [et]; rfl
      · rw [lt]; omega
  · have t1 : t.1 = b.1 + 1 := by rw [e]
    have tb : abv p t b.1 = b := by
      rw [e]
      exact abv_down32 hp sb c
    have lb : lvS p a.1 a.2 b.1 b.2 = min (lvS p a.1 a.2 t.1 t.2) b.1 := by
      have := lv_abv hp a t (j := b.1) (by omega)
      rw [tb] at this
      exact this
    have let' := (lv_iff hp a.1 t.1 _ a.2 t.2).mp (Int.le_refl (lvS p a.1 a.2 t.1 t.2))
    by_cases h : lvS p a.1 a.2 t.1 t.2 = t.1
    · refine .inr (road_up hp a t b ?_ (lv_full hp a t st h) h)
      rw [show t.1 - 1 = b.1 by omega]
      exact tb.symm
    · refine .inl (road_down hp a b t st t1 tb ?_)
      omega
theorem road_one {p K : Int} (hp : Pr p) {a : Int × Rat} (sa : Spt p K a.1 a.2) : roadL p a a = [a] := by
  have l : lvS p a.1 a.2 a.1 a.2 = a.1 := by
    have h := lv_iff hp a.1 a.1 a.1 a.2 a.2
    have h2 := (lv_iff hp a.1 a.1 _ a.2 a.2).mp (Int.le_refl (lvS p a.1 a.2 a.1 a.2))
    have := h.mpr ⟨Int.le_refl _, Int.le_refl _, by rw [Rat.sub_self]; exact dv_zero p a.1 hp⟩
    omega
  unfold roadL
  rw [l, show (a.1 - (a.1 - 1)).toNat = 0 + 1 by omega, show (a.1 + 1 - (a.1 + 1)).toNat = 0 by omega]
  show [abv p a (a.1 + ((0 : Nat) : Int) * (-1))] ++ [] = [a]
  rw [show a.1 + ((0 : Nat) : Int) * (-1) = a.1 by omega, abv_self hp sa]
  rfl
theorem road_head42 {p K : Int} (hp : Pr p) {a : Int × Rat} (sa : Spt p K a.1 a.2) (b : Int × Rat) : ∃ l, roadL p a b = a :: l := by
  have le := (lv_iff hp a.1 b.1 _ a.2 b.2).mp (Int.le_refl (lvS p a.1 a.2 b.1 b.2))
  unfold roadL
  generalize lvS p a.1 a.2 b.1 b.2 = L at *
  obtain ⟨n, hn⟩ : ∃ n : Nat, (a.1 - (L - 1)).toNat = n + 1 := ⟨(a.1 - L).toNat, by omega⟩
  rw [hn, List.range_succ_eq_map, List.map_cons, List.cons_append, show a.1 + ((0 : Nat) : Int) * (-1) = a.1 by omega, abv_self hp sa]
  exact ⟨_, rfl⟩
theorem road_last42 {p K : Int} (hp : Pr p) {b : Int × Rat} (sb : Spt p K b.1 b.2) (a : Int × Rat) : ∃ l, roadL p a b = l ++ [b] := by
  obtain ⟨l, e⟩ := road_head42 hp sb a
  refine ⟨l.reverse, ?_⟩
  rw [← road_rev hp, e, List.reverse_cons]
structure WI42 (p K : Int) (a : Int × Rat) (n : Nat) (b : Int × Rat) : Prop where
  sb : Spt p (K + (n : Int)) b.1 b.2
  sx : ∀ x ∈ roadL p a b, Spt p (K + (n : Int)) x.1 x.2
  ln : (roadL p a b).length ≤ n + 1
  cs : ∀ (i : Nat) x y, (roadL p a b)[i]? = some x → (roadL p a b)[i + 1]? = some y → wy p x y = 1
theorem WI42.zero {p K : Int} (hp : Pr p) {a : Int × Rat} (sa : Spt p K a.1 a.2) : WI42 p K a 0 a := by
  have e := road_one hp sa
  have sa' : Spt p (K + ((0 : Nat) : Int)) a.1 a.2 := by rw [show K + ((0 : Nat) : Int) = K by omega]; exact sa
  refine ⟨sa', fun x hx => ?_, by rw [e]; exact Nat.le_refl 1, fun i x y hx hy => ?_⟩
  · rw [e] at hx
    rw [List.mem_singleton.mp hx]
    exact sa'
  · rw [e] at hy
    cases hy
theorem WI42.step {p K : Int} (hp : Pr p) {a b t : Int × Rat} {n : Nat} (h : WI42 p K a n b) (ht : t ∈ tiesL p b.1 b.2) (st : Spt p (K + (n : Int) + 1) t.1 t.2) : WI42 p K a (n + 1) t := by
  have ek : K + ((n + 1 : Nat) : Int) = K + (n : Int) + 1 := by omega
  have mo : ∀ x ∈ roadL p a b, Spt p (K + ((n + 1 : Nat) : Int)) x.1 x.2 := fun x hx => (h.sx x hx).mono (by omega)
  have ln := h.ln
  rcases road_step hp a b t h.sb st ht with e | e
  · refine ⟨by rw [ek]; exact st, fun x hx => ?_, by rw [e, List.length_append, List.length_singleton]; omega, fun i x y hx hy => ?_⟩
    · rw [e] at hx
      rcases List.mem_append.mp hx with hx | hx
      · exact mo x hx
      · rw [List.mem_singleton.mp hx, ek]
        exact st
    · rw [e] at hx hy
      by_cases hi : i + 1 < (roadL p a b).length
      · rw [List.getElem?_append_left (by omega)] at hx
        rw [List.getElem?_append_left hi] at hy
        exact h.cs i x y hx hy
      · obtain ⟨l, el⟩ := road_last42 hp h.sb a
        have ll : (roadL p a b).length = l.length + 1 := by rw [el, List.length_append]; rfl
        have hy2 := (List.getElem?_eq_some_iff.mp hy).1
        rw [List.length_append, List.length_singleton] at hy2
        have ei : i = l.length := by omega
        subst ei
        rw [List.getElem?_append_left (by omega), el, List.getElem?_append_right (Nat.le_refl _), Nat.sub_self] at hx
        rw [List.getElem?_append_right (by omega), show l.length + 1 - (roadL p a b).length = 0 by omega] at hy
        cases hx
        cases hy
        exact (tie_way32 hp h.sb ht).1
  · have sub : ∀ x ∈ roadL p a t, x ∈ roadL p a b := fun x hx => by rw [e]; exact List.mem_append_left _ hx
    refine ⟨by rw [ek]; exact st, fun x hx => mo x (sub x hx), ?_, fun i x y hx hy => ?_⟩
    · have : (roadL p a b).length = (roadL p a t).length + 1 := by rw [e, List.length_append]; rfl
      omega
    · have l1 := (List.getElem?_eq_some_iff.mp hx).1
      have l2 := (List.getElem?_eq_some_iff.mp hy).1
      refine h.cs i x y ?_ ?_
      · rw [e, List.getElem?_append_left l1]; exact hx
      · rw [e, List.getElem?_append_left l2]; exact hy
noncomputable def stepW (p : Int) (b : Int × Rat) (c : Int) : Int × Rat := if c % 3 = 0 then (b.1 - 1, restQ p (b.1 - 1) b.2) else (b.1 + 1, downQ p b.1 b.2 (c / 3 % p))
noncomputable def wkB (p : Int) (a : Int × Rat) (l : List Int) : Int × Rat := l.foldl (stepW p) a
noncomputable def bk42 (p : Int) (a b : Int × Rat) : Int × Rat := (roadL p a b).getD ((roadL p a b).length - 2) (0, 0)
def R_walk42 (ds : List D) (d : D) : Prop := ∃ (p : Int) (a : Int × Rat) (cs : List Int), ds = [.int p, stD a, .lst (cs.map D.int)] ∧ Pr p ∧ Spt p 12 a.1 a.2 ∧ cs.length ≤ 60 ∧ d = .lst (((roadL p a (wkB p a cs)).map trS).map triD)
theorem bt_list42 : bootBuiltins "list" = some (.type "list") := by decide +kernel
theorem at_nat42 {α : Type} {l : List α} {i : Int} (h : 0 ≤ i) (h2 : i < l.length) : atI l i = l[i.toNat]? := by
  unfold atI ixN
  rw [if_pos h, if_pos h2]
  rfl
theorem eq_st42 (s t : Int × Rat) : eqD (stD s) (stD t) = decide (s = t) := by
  rw [show eqD (stD s) (stD t) = _ from eqD_spot2 s.1 t.1 s.2 t.2]
  exact decide_eq_decide.mpr Prod.ext_iff.symm


def R_whole (ds : List D) (d : D) : Prop := ∃ i : Int, ds = [.int i] ∧ d = .bl true
/-! two spots below a first number, with unlike figures there -/
theorem vq_unit43 {p n : Int} (hp : Pr p) (h : ¬ n % p = 0) : vq p (n : Rat) = some 0 := by
  unfold vq
  have n0 : n ≠ 0 := fun z => h (by rw [z]; simp)
  have e1 : ((n : Rat)).num = n := Rat.num_intCast n
  have e2 : ((n : Rat)).den = 1 := Rat.den_intCast n
  have e3 : vp p 1 = 0 := vp_zero (by rcases hp with rfl | rfl | rfl | rfl <;> decide)
  rw [e1, e2, if_neg n0, vp_zero h]
  show some ((0 : Int) - ((vp p ((1 : Nat) : Int) : Nat) : Int)) = some 0
  rw [show (((1 : Nat) : Int)) = 1 from rfl, e3]
  rfl
def belN (p f n : Int) : Int := (if n < 2 ^ 61 then n * 1442695040888963407 ^ 20 + n else n) * p + f
def R_below (ds : List D) (d : D) : Prop := ∃ p t w f n : Int, ds = [.int p, .int t, .int w, .int f, .int n] ∧ Pr p ∧ -300 ≤ t ∧ t ≤ 0 ∧ 0 ≤ w ∧ w ≤ 1000 ∧ 0 ≤ n ∧ d = stD (t + w, ((belN p f n % p ^ w.toNat : Int) : Rat) * ppw p t)
def R_roadZ (ds : List D) (r : Rf) : Prop := ∃ (p : Int) (a b : Int × Rat), ds = [.int p, stD a, stD b] ∧ Pr p ∧ Spt p 300 a.1 a.2 ∧ Spt p 300 b.1 b.2 ∧ wy p a b ≤ 1000 ∧ ((wy p a b ≤ 500 ∧ r = .ok (.lst (((roadL p a b).map trS).map triD))) ∨ (500 < wy p a b ∧ r = .far (wy p a b)))
def R_met43 (ds : List D) (d : D) : Prop := ∃ (p : Int) (a b : Int × Rat), ds = [.int p, stD a, stD b] ∧ Pr p ∧ Spt p 300 a.1 a.2 ∧ Spt p 300 b.1 b.2 ∧ wy p a b ≤ 1000 ∧ ((wy p a b ≤ 500 ∧ d = .lst (((roadL p a b).map trS).map triD)) ∨ (500 < wy p a b ∧ d = .int (wy p a b)))
def R_another43 (y : Str) (d : D) : Prop := y = "TooFar" ∧ d = .bl false
def enD : Option Rat → D
  | none => .str "far"
  | some q => frD q
def ovf (u l : Rat) : Option Rat := if l = 0 then none else some (u * l⁻¹)
def ledQ (t : Tb) : Option Rat → Option Rat
  | none => ovf t.a t.c
  | some x => ovf (t.a * x + t.b) (t.c * x + t.d)
def EFb (n : Nat) (e : Option Rat) : Prop := ∀ x, e = some x → Fb n x
def R_ovf (ds : List D) (d : D) : Prop := ∃ u l : Rat, ds = [frD u, frD l] ∧ Fb 4400 u ∧ Fb 4400 l ∧ d = enD (ovf u l)
def R_led (ds : List D) (d : D) : Prop := ∃ (t : Tb) (e : Option Rat) (m n : Nat), ds = [tbD t, enD e] ∧ Tbb m t ∧ EFb n e ∧ 2 * m + n + 1 ≤ 4400 ∧ d = enD (ledQ t e)
def smT (n : Int) : Int := n % 41 - 20
def smW (n : Int) : Int := n / 500 % 13 - 6
def smB (n : Int) : Int := 1 + n / 41 % 12
def smq (p n : Int) : Rat := if smW n < 0 then Rat.divInt (smT n) (smB n * p ^ (-smW n).toNat) else Rat.divInt (smT n * p ^ (smW n).toNat) (smB n)
def R_small (ds : List D) (d : D) : Prop := ∃ p n : Int, ds = [.int p, .int n] ∧ Pr p ∧ d = frD (smq p n)
def tabE (p n : Int) (a b c d : Rat) : Tb := if a * d = b * (if n % 7 = 1 then 0 else c) then ⟨1, b, 0, (p : Rat)⟩ else ⟨a, b, if n % 7 = 1 then 0 else c, d⟩
def R_tabE (ds : List D) (d : D) : Prop := ∃ (p : Int) (ns : List Int) (k : Int), ds = [.int p, .lst (ns.map D.int), .int k] ∧ Pr p ∧ ns.length ≤ 63 ∧ 0 ≤ k ∧ k < 900 ∧
  d = tbD (tabE p (drawn ns k) (smq p (drawn ns (k + (0 + ((0 : Nat) : Int) * 1)))) (smq p (drawn ns (k + (0 + ((1 : Nat) : Int) * 1)))) (smq p (drawn ns (k + (0 + ((2 : Nat) : Int) * 1)))) (smq p (drawn ns (k + (0 + ((3 : Nat) : Int) * 1)))))
abbrev spE (k : Int) (q : Rat) : D := .tup [.int k, frD q]
/-- figure by figure: what is told so far, and what is left -/
def figR (p B c A : Int) : Nat → Int × Int
  | 0 => (0, A)
  | m + 1 => ((figR p B c A m).1 + (figR p B c A m).2 * c % p * p ^ m, ((figR p B c A m).2 - (figR p B c A m).2 * c % p * B) / p)
theorem rest_of {p : Int} (hp : Pr p) (k : Int) (a : Rat) {W : Int} (h : 0 < k + (vp p a.den : Int)) (w0 : 0 ≤ W) (w1 : W < p ^ (k + (vp p a.den : Int)).toNat) (dw : p ^ (k + (vp p a.den : Int)).toNat ∣ a.num - W * ((a.den : Int) / p ^ vp p a.den)) : Rat.divInt W (p ^ vp p a.den) = restQ p k a := by
  have ri := rest_is hp k a
  obtain ⟨d, hd, dp⟩ := vp_ex hp (den_ne a)
  have s := rat_split a
  generalize vp p a.den = e at *
  have pe := pw_pos hp e
  have hdiv : (a.den : Int) / p ^ e = d := by rw [hd]; exact Int.mul_ediv_cancel_left d (by omega)
  have hd' : (a.den : Rat) = ppw p (e : Int) * (d : Rat) := by
    rw [ppw_nat]
    have : ((a.den : Int) : Rat) = ((p ^ e * d : Int) : Rat) := by rw [← hd]
    push_cast at this ⊢
    exact this
  rw [hd'] at s
  have pne := ppw_ne hp (e : Int)
  obtain ⟨K, hK⟩ : ∃ K : Nat, k + (e : Int) = (K : Int) := ⟨(k + e).toNat, by omega⟩
  rw [hdiv] at dw
  rw [hK, Int.toNat_natCast] at dw w1
  have hr : Rat.divInt W (p ^ e) * ppw p (e : Int) = (W : Rat) := by
    rw [Rat.divInt_eq_div, ppw_nat]
    refine Rat.div_mul_cancel ?_
    intro z
    have : p ^ e = 0 := by exact_mod_cast z
    omega
  generalize Rat.divInt W (p ^ e) = r at hr
  have pp := ppw_pos hp (e : Int)
  have dz : Dv p k (a - a) := by rw [show a - a = 0 by grind]; exact dv_zero p k hp
  refine rest_uniq hp ⟨pden_of hp hr, ?_, ?_, ?_⟩ ri dz
  · by_cases z : 0 ≤ r
    · exact z
    · exfalso
      have := mul_lt (Rat.not_le.mp z) pp
      rw [hr, Rat.zero_mul] at this
      have := rat_lt_int.mp (by simpa using this : (W : Rat) < ((0 : Int) : Rat))
      omega
  · by_cases z : r < ppw p k
    · exact z
    · exfalso
      have h1 : ppw p k * ppw p (e : Int) ≤ r * ppw p (e : Int) := Rat.mul_le_mul_of_nonneg_right (Rat.not_lt.mp z) (Rat.le_of_lt pp)
      rw [hr, ← ppw_add hp, hK, ppw_nat] at h1
      have := rat_le_int.mp h1
      omega
  · obtain ⟨t, ht⟩ := dw
    refine ⟨t, d, dp, ?_⟩
    have e1 : ppw p (e : Int) * ppw p k = ((p ^ K : Int) : Rat) := by rw [← ppw_add hp, show (e : Int) + k = (K : Int) by omega, ppw_nat]
    have e2 : (a.num : Rat) - (W : Rat) * (d : Rat) = ((p ^ K : Int) : Rat) * (t : Rat) := by exact_mod_cast ht
    grind
/-- the next spot towards an end -/
noncomputable def nxt (p k : Int) (q : Rat) : Option Rat → Int × Rat
  | none => (k - 1, restQ p (k - 1) q)
  | some x => if alk p k x q = true then (k + 1, restQ p (k + 1) x) else (k - 1, restQ p (k - 1) q)
def R_next (ds : List D) (d : D) : Prop := ∃ (p k : Int) (q : Rat) (e : Option Rat), ds = [.int p, spE k q, enD e] ∧ Pr p ∧ -10000 ≤ k ∧ k ≤ 10000 ∧ Fb 4400 q ∧ EFb 4400 e ∧ d = spE (nxt p k q e).1 (nxt p k q e).2
def R_restE (ds : List D) (d : D) : Prop := ∃ (p k : Int) (a : Rat), ds = [.int p, .int k, frD a] ∧ Pr p ∧ -20000 ≤ k ∧ k ≤ 20000 ∧ Fb 4400 a ∧ d = frD (restQ p k a)
def R_aboveE (ds : List D) (d : D) : Prop := ∃ (p j : Int) (q : Rat) (k : Int), ds = [.int p, spE j q, .int k] ∧ Pr p ∧ Fb 4400 q ∧ -900000 ≤ k ∧ k ≤ 900000 ∧ d = spE k (restQ p k q)
def R_overE (ds : List D) (d : D) : Prop := ∃ (p t : Int) (e : Nat), ds = [.int p, .int t, .int (e : Int)] ∧ Pr p ∧ e ≤ 10000 ∧ d = frD (Rat.divInt t (p ^ e))
def eK (n : Int) : Int := if decide (n / 25 % 8 = 1) = true then n / 200 % 401 - 200 else n % 25 - 12
def eQ (p n m : Int) : Rat := if eK n + m % 11 ≤ 0 then 0 else Rat.divInt (m / 11 % (if p ^ (eK n + m % 11).toNat ≤ 10 ^ 40 then p ^ (eK n + m % 11).toNat else 10 ^ 40)) (p ^ (m % 11).toNat)
def R_spotE (ds : List D) (d : D) : Prop := ∃ p n m : Int, ds = [.int p, .int n, .int m] ∧ Pr p ∧ d = spE (eK n) (eQ p n m)
def end62 (p k : Int) (q : Rat) (s n : Int) : Option Rat := if s = 1 then none else if s = 2 then some q else if s = 3 then some (q + smq p n * ppw p (max (-12) (min k 12))) else some (numb p n)
def R_end62 (ds : List D) (d : D) : Prop := ∃ (p k : Int) (q : Rat) (s n : Int), ds = [.int p, spE k q, .int s, .int n] ∧ Pr p ∧ Fb 140 q ∧ d = enD (end62 p k q s n)
def R_isE (ds : List D) (d : D) : Prop := ∃ (k : Int) (q : Rat), ds = [spE k q, spE k q] ∧ d = .bl true
/-- alike but for a firm table behind it and a number -/
def Sim (p : Int) (s t : Tb) : Prop := ∃ (u : Tb) (r : Rat) (j : Int), Glp p u ∧ vq p r = some j ∧ s = (t.mul u).scale r
theorem scale_inv (t : Tb) {r : Rat} (h : r ≠ 0) : (t.scale r).scale r⁻¹ = t := scale_scale (Rat.mul_inv_cancel _ h)
theorem scale2 (t : Tb) (q r : Rat) : (t.scale q).scale r = t.scale (q * r) := by
  unfold Tb.scale
  simp only [Tb.mk.injEq]
  refine ⟨?_, ?_, ?_, ?_⟩ <;> grind
theorem glp_one {p : Int} (hp : Pr p) : Glp p Tb.one := by
  have d1 : Dv p 0 1 := ⟨1, 1, by rcases hp with rfl | rfl | rfl | rfl <;> decide, by rw [ppw_zero]; simp⟩
  have e : Tb.one.det = 1 := by decide +kernel
  exact ⟨⟨d1, dv_zero p 0 hp, dv_zero p 0 hp, d1⟩, by rw [e]; exact vq_one hp⟩
theorem Sim.symm {p : Int} (hp : Pr p) {s t : Tb} (h : Sim p s t) : Sim p t s := by
  obtain ⟨u, r, j, hu, hr, e⟩ := h
  have r0 := ((vq_iff hp).mp hr).1
  refine ⟨u.inv, r⁻¹, -j, hu.inv hp, vq_inv hp hr, ?_⟩
  rw [e, scale_mul, scale_inv _ r0, mul_assoc', mul_inv (hu.ne hp), mul_one']
theorem Sim.trans {p : Int} (hp : Pr p) {s t w : Tb} (h : Sim p s t) (h' : Sim p t w) : Sim p s w := by
  obtain ⟨u, r, j, hu, hr, e⟩ := h
  obtain ⟨u', r', j', hu', hr', e'⟩ := h'
  refine ⟨u'.mul u, r' * r, j' + j, hu'.mul hp hu, vq_mul hp hr' hr, ?_⟩
  rw [e, e', scale_mul, scale2, mul_assoc']
theorem dv_unit {p j : Int} (hp : Pr p) {r s : Rat} {v : Int} (hr : vq p r = some v) (h : Dv p j (s * r)) : Dv p (j - v) s := by
  have r0 := ((vq_iff hp).mp hr).1
  have := dv_mul hp h (dv_of_vq hp (vq_inv hp hr) (Int.le_refl _))
  rw [show s * r * r⁻¹ = s by rw [Rat.mul_assoc, Rat.mul_inv_cancel _ r0, Rat.mul_one]] at this
  rw [show j - v = j + -v by omega]
  exact this
/-- a spot's fraction is its own rest -/
def Own (p k : Int) (q : Rat) : Prop := IsRest p k q q
/-- the spot of a table -/
noncomputable def spotS (p : Int) (t : Tb) : Int × Rat := ((vq p t.det).getD 0 - 2 * leastV p [t.c, t.d], if vq p t.c = some (leastV p [t.c, t.d]) then restQ p ((vq p t.det).getD 0 - 2 * leastV p [t.c, t.d]) (t.a * t.c⁻¹) else restQ p ((vq p t.det).getD 0 - 2 * leastV p [t.c, t.d]) (t.b * t.d⁻¹))
/-- M's column by f, towards an end: μ times (x, 1), or μ times (1, 0) -/
def ToE (n : Tb) (μ : Rat) : Option Rat → Prop
  | none => n.a = μ ∧ n.c = 0
  | some x => n.a = μ * x ∧ n.c = μ
def Tb.dg (p : Int) : Tb := ⟨1, 0, 0, (p : Rat)⟩
/-- t is the next towards e from m -/
def To (p : Int) (m : Tb) (e : Option Rat) (t : Tb) : Prop := ∃ (f : Tb) (μ : Rat), Glp p f ∧ μ ≠ 0 ∧ ToE (m.mul f) μ e ∧ Sim p ((m.mul f).mul (Tb.dg p)) t
theorem ppw_one (p : Int) : ppw p 1 = (p : Rat) := by have := ppw_nat p 1; simpa using this
theorem dv_w {p : Int} (hp : Pr p) {k : Int} {r : Rat} (h : Dv p k r) : Dv p 0 (r * ppw p (-k)) := by rw [dv_ppw hp]; rwa [show 0 - -k = k by omega]
theorem dv_one0 {p : Int} (hp : Pr p) : Dv p 0 1 := dv_of_vq hp (vq_one hp) (Int.le_refl 0)
theorem To.low {p : Int} (hp : Pr p) (k : Int) (q : Rat) {e : Option Rat} (h : ∀ x, e = some x → ¬ Dv p k (x - q)) : To p (tabS p k q) e (tabS p (k - 1) (restQ p (k - 1) q)) := by
  have rd := (rest_is hp (k - 1) q).dv
  generalize restQ p (k - 1) q = r at rd
  have p1 := ppw_inv hp (k - 1)
  have p2 : ppw p k = ppw p (k - 1) * (p : Rat) := by rw [← ppw_one, ← ppw_add hp]; congr 1; omega
  have wq := dv_w hp rd
  have pv : vq p (p : Rat) = some 1 := by rw [← ppw_one]; exact vq_ppw hp
  cases e with
  | none =>
    refine ⟨Tb.one, ppw p k, glp_one hp, ppw_ne hp k, ⟨?_, ?_⟩, ⟨⟨1, (q - r) * ppw p (-(k - 1)), 0, 1⟩, (p : Rat), 1, ⟨⟨dv_one0 hp, wq, dv_zero p 0 hp, dv_one0 hp⟩, ?_⟩, pv, ?_⟩⟩
    · rw [mul_one']; rfl
    · rw [mul_one']; rfl
    · have e2 : (Tb.mk 1 ((q - r) * ppw p (-(k - 1))) 0 1).det = 1 := by unfold Tb.det; simp only []; grind
      rw [e2]; exact vq_one hp
    · rw [mul_one']
      unfold tabS Tb.dg Tb.mul Tb.scale
      simp only [Tb.mk.injEq]
      refine ⟨?_, ?_, ?_, ?_⟩ <;> grind
  | some x =>
    have hx := h x rfl
    obtain ⟨v, hv⟩ : ∃ v, vq p (x - q) = some v := by
      cases ev : vq p (x - q) with
      | none => exact absurd (by rw [vq_dv hp, ev]; trivial) hx
      | some v => exact ⟨v, rfl⟩
    have vk : v < k := by
      by_cases z : k ≤ v
      · exact absurd (dv_of_vq hp hv z) hx
      · omega
    -- the column (u, p ^ j), u of the power 0
    have uv : vq p ((x - q) * ppw p (-v)) = some 0 := by
      have := vq_mul hp hv (vq_ppw (k := -v) hp)
      rwa [show v + -v = 0 by omega] at this
    have uw := dv_of_vq hp uv (Int.le_refl 0)
    have p3 : ppw p (k - v) = ppw p (k - 1 - v) * (p : Rat) := by rw [← ppw_one, ← ppw_add hp]; congr 1; omega
    have p4 : ppw p (k - v) = ppw p k * ppw p (-v) := by rw [← ppw_add hp]; congr 1
    have p5 : ppw p (k - 1 - v) = ppw p (k - 1) * ppw p (-v) := by rw [← ppw_add hp]; congr 1
    have wj : Dv p 0 (ppw p (k - v)) := dv_of_vq hp (vq_ppw hp) (by omega)
    have wi : Dv p 0 (ppw p (k - 1 - v)) := dv_of_vq hp (vq_ppw hp) (by omega)
    refine ⟨⟨(x - q) * ppw p (-v), 0, ppw p (k - v), 1⟩, ppw p (k - v), ⟨⟨uw, dv_zero p 0 hp, wj, dv_one0 hp⟩, ?_⟩, ppw_ne hp _, ⟨?_, ?_⟩, ⟨⟨(x - q) * ppw p (-v) + (q - r) * ppw p (-(k - 1)) * ppw p (k - 1 - v), (q - r) * ppw p (-(k - 1)), ppw p (k - 1 - v), 1⟩, (p : Rat), 1, ⟨⟨?_, wq, wi, dv_one0 hp⟩, ?_⟩, pv, ?_⟩⟩
    · have e2 : (Tb.mk ((x - q) * ppw p (-v)) 0 (ppw p (k - v)) 1).det = (x - q) * ppw p (-v) := by unfold Tb.det; simp only []; grind
      rw [e2]; exact uv
    · show ppw p k * ((x - q) * ppw p (-v)) + q * ppw p (k - v) = ppw p (k - v) * x
      rw [p4]; grind
    · show 0 * ((x - q) * ppw p (-v)) + 1 * ppw p (k - v) = ppw p (k - v)
      grind
    · exact dv_add hp uw (by have := dv_mul hp wq wi; rwa [Int.add_zero] at this)
    · have e2 : (Tb.mk ((x - q) * ppw p (-v) + (q - r) * ppw p (-(k - 1)) * ppw p (k - 1 - v)) ((q - r) * ppw p (-(k - 1))) (ppw p (k - 1 - v)) 1).det = (x - q) * ppw p (-v) := by unfold Tb.det; simp only []; grind
      rw [e2]; exact uv
    · unfold tabS Tb.dg Tb.mul Tb.scale
      simp only [Tb.mk.injEq]
      refine ⟨?_, ?_, ?_, ?_⟩ <;> grind
theorem To.high {p : Int} (hp : Pr p) (k : Int) (q : Rat) {x : Rat} (h : Dv p k (x - q)) : To p (tabS p k q) (some x) (tabS p (k + 1) (restQ p (k + 1) x)) := by
  have rd := (rest_is hp (k + 1) x).dv
  generalize restQ p (k + 1) x = r at rd
  have p1 := ppw_inv hp k
  have p2 : ppw p (k + 1) = ppw p k * (p : Rat) := by rw [← ppw_one, ← ppw_add hp]
  have p6 := ppw_inv hp (k + 1)
  have w1 := dv_w hp h
  have w2 := dv_w hp rd
  refine ⟨⟨(x - q) * ppw p (-k), 1, 1, 0⟩, 1, ⟨⟨w1, dv_one0 hp, dv_one0 hp, dv_zero p 0 hp⟩, ?_⟩, by decide, ⟨?_, ?_⟩, ⟨⟨(x - r) * ppw p (-(k + 1)), 1, 1, 0⟩, 1, 0, ⟨⟨w2, dv_one0 hp, dv_one0 hp, dv_zero p 0 hp⟩, ?_⟩, vq_one hp, ?_⟩⟩
  · have e2 : (Tb.mk ((x - q) * ppw p (-k)) 1 1 0).det = -1 := by unfold Tb.det; simp only []; grind
    rw [e2, vq_neg hp]; exact vq_one hp
  · show ppw p k * ((x - q) * ppw p (-k)) + q * 1 = 1 * x
    grind
  · show 0 * ((x - q) * ppw p (-k)) + 1 * 1 = 1
    grind
  · have e2 : (Tb.mk ((x - r) * ppw p (-(k + 1))) 1 1 0).det = -1 := by unfold Tb.det; simp only []; grind
    rw [e2, vq_neg hp]; exact vq_one hp
  · unfold tabS Tb.dg Tb.mul Tb.scale
    simp only [Tb.mk.injEq]
    refine ⟨?_, ?_, ?_, ?_⟩ <;> grind
theorem To.next {p : Int} (hp : Pr p) (k : Int) (q : Rat) (e : Option Rat) : To p (tabS p k q) e (tabS p (nxt p k q e).1 (nxt p k q e).2) := by
  cases e with
  | none => exact To.low hp k q (fun x hx => nomatch hx)
  | some x =>
    by_cases h : alk p k x q = true
    · have e1 : nxt p k q (some x) = (k + 1, restQ p (k + 1) x) := if_pos h
      rw [e1]
      exact To.high hp k q ((alk_dv hp x q).mp h)
    · have e1 : nxt p k q (some x) = (k - 1, restQ p (k - 1) q) := if_neg h
      rw [e1]
      exact To.low hp k q (fun y hy => by cases hy; exact fun z => h ((alk_dv hp x q).mpr z))
/-- a spot moved -/
noncomputable def movS (p : Int) (a : Tb) (s : Int × Rat) : Int × Rat := spotS p (a.mul (tabS p s.1 s.2))
noncomputable def road (p : Int) (e : Option Rat) (s : Int × Rat) : Nat → Int × Rat
  | 0 => s
  | n + 1 => nxt p (road p e s n).1 (road p e s n).2 e
/-- where a road's fractions come from -/
def Form (p : Int) (y : Rat) (e : Option Rat) (s : Int × Rat) : Prop := s.2 = y ∨ s.2 = restQ p s.1 y ∨ ∃ x, e = some x ∧ s.2 = restQ p s.1 x
theorem rest_rest {p : Int} (hp : Pr p) {j k : Int} (h : j ≤ k) (a : Rat) : restQ p j (restQ p k a) = restQ p j a :=
  rest_uniq hp (rest_is hp j _) (rest_is hp j a) (dv_comm (dv_mono hp h (rest_is hp k a).dv))
theorem Form.step {p : Int} (hp : Pr p) {y : Rat} {e : Option Rat} {s : Int × Rat} (h : Form p y e s) : Form p y e (nxt p s.1 s.2 e) := by
  have low : Form p y e (s.1 - 1, restQ p (s.1 - 1) s.2) := by
    rcases h with h | h | ⟨x, hx, h⟩
    · exact .inr (.inl (by show restQ p (s.1 - 1) s.2 = restQ p (s.1 - 1) y; rw [h]))
    · exact .inr (.inl (by show restQ p (s.1 - 1) s.2 = restQ p (s.1 - 1) y; rw [h, rest_rest hp (by omega)]))
    · exact .inr (.inr ⟨x, hx, by show restQ p (s.1 - 1) s.2 = restQ p (s.1 - 1) x; rw [h, rest_rest hp (by omega)]⟩)
  cases e with
  | none => exact low
  | some x =>
    by_cases g : alk p s.1 x s.2 = true
    · have e1 : nxt p s.1 s.2 (some x) = (s.1 + 1, restQ p (s.1 + 1) x) := if_pos g
      rw [e1]
      exact .inr (.inr ⟨x, rfl, rfl⟩)
    · have e1 : nxt p s.1 s.2 (some x) = (s.1 - 1, restQ p (s.1 - 1) s.2) := if_neg g
      rw [e1]
      exact low
theorem Form.fb {p : Int} (hp : Pr p) {y : Rat} {e : Option Rat} {s : Int × Rat} (h : Form p y e s) {m K : Nat} (hy : Fb m y) (he : EFb m e) (hk : s.1 ≤ K) : Fb (3 * (K + m) + 1) s.2 := by
  rcases h with h | h | ⟨x, hx, h⟩
  · rw [h]; exact hy.mono (by omega)
  · rw [h]; exact rest_fb hp hk hy
  · rw [h]; exact rest_fb hp hk (he x hx)
theorem vq_bd {p : Int} (hp : Pr p) {m : Nat} {r : Rat} (h : Fb m r) {v : Int} (hv : vq p r = some v) : -(m : Int) ≤ v ∧ v ≤ m := by
  have r0 := ((vq_iff hp).mp hv).1
  have n0 : r.num ≠ 0 := fun z => r0 (Rat.num_eq_zero.mp z)
  have a := vp_le hp n0 h.1
  have b := vp_le hp (den_ne r) h.2
  unfold vq at hv
  rw [if_neg n0] at hv
  have := Option.some.inj hv
  omega
def R_moved (ds : List D) (d : D) : Prop := ∃ (p : Int) (a : Tb) (k : Int) (q : Rat) (n K m : Nat), ds = [.int p, tbD a, spotD k q] ∧ Pr p ∧ a.det ≠ 0 ∧ Tbb n a ∧ Fb m q ∧ -(K : Int) ≤ k ∧ k ≤ K ∧ 3 * K + 1 ≤ m ∧ 2 * n + m ≤ 2000 ∧ d = spotD (movS p a (k, q)).1 (movS p a (k, q)).2
def R_roadto (ds : List D) (d : D) : Prop := ∃ (p : Int) (s : Int × Rat) (e : Option Rat) (n : Nat) (y : Rat) (K m : Nat), ds = [.int p, spotD s.1 s.2, enD e, .int (n : Int)] ∧ Pr p ∧ Form p y e s ∧ Fb m y ∧ EFb m e ∧ n ≤ 300 ∧ -(K : Int) ≤ s.1 ∧ s.1 ≤ K ∧ K + n ≤ 10000 ∧ 3 * (K + n + m) + 1 ≤ 4400 ∧
  d = .lst ((List.range (n + 1)).map fun i => spotD (road p e s i).1 (road p e s i).2)
def gK (n : Int) : Int := n % 25 - 12
def gQ (p n m : Int) : Rat := if gK n + m % 11 ≤ 0 then 0 else Rat.divInt (m / 11 % (if p ^ (gK n + m % 11).toNat ≤ 10 ^ 20 then p ^ (gK n + m % 11).toNat else 10 ^ 20)) (p ^ (m % 11).toNat)
def R_spotG (ds : List D) (d : D) : Prop := ∃ p n m : Int, ds = [.int p, .int n, .int m] ∧ Pr p ∧ d = spE (gK n) (gQ p n m)
def end69 (p k : Int) (q : Rat) (s n : Int) : Option Rat := if s = 1 then none else if s = 2 then some q else if s = 3 then some (q + smq p n * ppw p k) else some (smq p n)
def R_end69 (ds : List D) (d : D) : Prop := ∃ (p k : Int) (q : Rat) (s n : Int), ds = [.int p, spE k q, .int s, .int n] ∧ Pr p ∧ -12 ≤ k ∧ k ≤ 12 ∧ Fb 70 q ∧ d = enD (end69 p k q s n)
/-! a table with nought below on the left; what it slides along -/
structure Wk (p k1 : Int) (q1 : Rat) (k2 : Int) (q2 : Rat) : Prop where
  tb : MOk (tabS p k1 q1) ∧ (tabS p k1 q1).det ≠ 0 ∧ Fb 4400 (tabS p k1 q1).det
  po : POk (tabS p k1 q1).inv (tabS p k2 q2)
  mo : MOk ⟨ppw p (k2 - k1), (q2 - q1) * ppw p (-k1), 0, 1⟩
  a0 : -1000 ≤ k1
  a1 : k1 ≤ 1000
  b0 : -1000 ≤ k2
  b1 : k2 ≤ 1000
  f1 : Fb 4400 q1
  f2 : Fb 4400 q2
theorem wk78 {p : Int} (hp : Pr p) {k1 k2 : Int} {q1 q2 : Rat} {L M B C K : Nat} (h1 : Sz p L B q1) (h2 : Sz p L B q2) (m0 : -(M : Int) ≤ -k1) (m1 : 3 * (-k1 + M) + 1 ≤ C) (a0 : -1000 ≤ k1) (a1 : k1 ≤ 1000) (b0 : -1000 ≤ k2) (b1 : k2 ≤ 1000) (d0 : -(K : Int) ≤ k2 - k1) (d1 : k2 - k1 ≤ K) (hK : 3 * K + 1 ≤ 4400)
    (hL : 3 * (L + M) + 1 ≤ 4400) (hB : B + 1 + C ≤ 4400) : Wk p k1 q1 k2 q2 := by
  have i1 := Sz.ppw hp (M := M) (k := -k1) m0 (B := C) m1
  have e1 : Fb 4400 (ppw p k1) := (ppw_fb hp 1000 a0 a1).mono (by decide)
  have e2 : Fb 4400 (ppw p k2) := (ppw_fb hp 1000 b0 b1).mono (by decide)
  have e3 : Fb 4400 (ppw p (k2 - k1)) := (ppw_fb hp K d0 d1).mono hK
  have f1 : Fb 4400 q1 := h1.fb hp (by omega) (by omega)
  have f2 : Fb 4400 q2 := h2.fb hp (by omega) (by omega)
  have z : Fb 4400 0 := fb_zero.mono (by decide)
  have o : Fb 4400 1 := fb_one.mono (by decide)
  have fi : Fb 4400 (ppw p (-k1)) := (ppw_fb hp 1000 (k := -k1) (by omega) (by omega)).mono (by decide)
  have g1 : Fb 4400 (-q1 * ppw p (-k1)) := (h1.neg.mul hp i1).fb hp (by omega) (by omega)
  have g2 : Fb 4400 (ppw p (-k1) * q2) := by rw [Rat.mul_comm]; exact (h2.mul hp i1).fb hp (by omega) (by omega)
  refine ⟨⟨⟨⟨e1, f1, z, o⟩, ?_, ?_⟩, ?_, ?_⟩, ?_, ?_, a0, a1, b0, b1, f1, f2⟩
  · show Fb 4400 (ppw p k1 * 1); rw [Rat.mul_one]; exact e1
  · show Fb 4400 (q1 * 0); rw [Rat.mul_zero]; exact z
  · rw [tabS_det]; exact ppw_ne hp k1
  · rw [tabS_det]; exact e1
  · rw [tabS_inv hp]
    refine ⟨⟨fi, g1, z, o⟩, ⟨e2, f2, z, o⟩, ?_, ?_, g2, ?_, ?_, ?_, ?_, ?_⟩
    · show Fb 4400 (ppw p (-k1) * ppw p k2); rw [← ppw_add hp, show -k1 + k2 = k2 - k1 by omega]; exact e3
    · show Fb 4400 (-q1 * ppw p (-k1) * 0); rw [Rat.mul_zero]; exact z
    · show Fb 4400 (-q1 * ppw p (-k1) * 1); rw [Rat.mul_one]; exact g1
    · show Fb 4400 (0 * ppw p k2); rw [Rat.zero_mul]; exact z
    · show Fb 4400 (1 * 0); rw [Rat.mul_zero]; exact z
    · show Fb 4400 (0 * q2); rw [Rat.zero_mul]; exact z
    · show Fb 4400 (1 * 1); rw [Rat.mul_one]; exact o
  · refine ⟨⟨e3, ?_, z, o⟩, ?_, ?_⟩
    · exact ((h2.sub h1).mul hp i1).fb hp (by omega) (by omega)
    · show Fb 4400 (ppw p (k2 - k1) * 1); rw [Rat.mul_one]; exact e3
    · show Fb 4400 ((q2 - q1) * ppw p (-k1) * 0); rw [Rat.mul_zero]; exact z
theorem int_of78 {p : Int} (hp : Pr p) {q : Rat} (h : PDen p q) {L : Nat} (hd : Dv p (-(L : Int)) q) : ∃ m : Int, q * ppw p (L : Int) = (m : Rat) := by
  by_cases q0 : q = 0
  · exact ⟨0, by rw [q0]; simp⟩
  have n0 : q.num ≠ 0 := fun z => q0 (Rat.num_eq_zero.mp z)
  obtain ⟨n, hn⟩ := h
  have p2 := hp.two_le
  have nle : n ≤ L := by
    refine Classical.byContradiction fun hc => ?_
    have np : ¬ q.num % p = 0 := fun z => by
      have d1 : p ∣ q.num := Int.dvd_of_emod_eq_zero z
      have d2 : p ∣ (q.den : Int) := by
        rw [hn]
        obtain ⟨m, rfl⟩ : ∃ m, n = m + 1 := ⟨n - 1, by omega⟩
        exact ⟨p ^ m, by rw [Int.pow_succ, Int.mul_comm]⟩
      have c := q.reduced
      have g1 : p.natAbs ∣ q.num.natAbs := Int.natAbs_dvd_natAbs.mpr d1
      have g2 : p.natAbs ∣ q.den := by have := Int.natAbs_dvd_natAbs.mpr d2; simpa using this
      have g := Nat.dvd_gcd g1 g2
      rw [c] at g
      have := Nat.le_of_dvd (by decide) g
      omega
    have hv : vq p q = some (-(n : Int)) := by
      unfold vq
      rw [if_neg n0, vp_zero np, hn, vp_pow p2.1]
      congr 1
      omega
    rw [vq_dv hp, hv] at hd
    have hd : -(L : Int) ≤ -(n : Int) := hd
    omega
  refine ⟨q.num * p ^ (L - n), ?_⟩
  have e1 : q * (q.den : Rat) = (q.num : Rat) := by
    have := rat_split q
    exact_mod_cast this
  have e2 : (q.den : Rat) = ppw p (n : Int) := by
    rw [ppw_nat]
    have : ((q.den : Int) : Rat) = ((p ^ n : Int) : Rat) := by rw [hn]
    exact_mod_cast this
  have e3 : ppw p (L : Int) = ppw p (n : Int) * ppw p ((L - n : Nat) : Int) := by rw [← ppw_add hp]; congr 1; omega
  rw [e3, ← Rat.mul_assoc, ← e2, e1, ppw_nat]
  push_cast
  rfl
theorem rest_sz78 {p : Int} (hp : Pr p) {z : Rat} {L B : Nat} {k : Int} (h : Dv p (-(L : Int)) z) (hk : -(L : Int) ≤ k) (hB : 3 * (k + L) + 1 ≤ B) : Sz p L B (restQ p k z) := by
  have r := rest_is hp k z
  have d : Dv p (-(L : Int)) (restQ p k z) := by
    have := dv_sub hp h (dv_mono hp hk r.dv)
    rwa [show z - (z - restQ p k z) = restQ p k z by grind] at this
  obtain ⟨m, e⟩ := int_of78 hp r.den d
  refine ⟨m, e, ?_⟩
  have pp := ppw_pos hp (L : Int)
  have m0 : (0 : Int) ≤ m := by
    have := Rat.mul_le_mul_of_nonneg_right r.nn (Rat.le_of_lt pp)
    rw [e, Rat.zero_mul] at this
    exact_mod_cast this
  have m1 : m < p ^ (k + L).toNat := by
    have := mul_lt r.lt pp
    rw [e, ← ppw_add hp, show k + (L : Int) = (((k + L).toNat : Nat) : Int) by omega, ppw_nat] at this
    exact_mod_cast this
  exact Bd.of_le m0 (Int.le_of_lt m1) ((pw_bd hp _).mono (by omega))
theorem rest_eq78 {p : Int} (hp : Pr p) {k : Int} {a b : Rat} (h : Dv p k (a - b)) : restQ p k a = restQ p k b := rest_uniq hp (rest_is hp k a) (rest_is hp k b) h
theorem rest_zero78 {p : Int} (hp : Pr p) (k : Int) : restQ p k 0 = 0 := by
  have z : Dv p k ((0 : Rat) - 0) := by rw [Rat.sub_self]; exact dv_zero p k hp
  exact rest_uniq hp (rest_is hp k 0) ⟨⟨0, by simp⟩, Rat.le_refl, ppw_pos hp k, z⟩ z
noncomputable def axS (p : Int) (s : Rat) (k : Int) : Int × Rat := (k, restQ p k s)
/-- a table that slides: z to y z + s (1 - y) -/
structure Sld (p : Int) (t : Tb) (y s : Rat) (m : Int) : Prop where
  c : t.c = 0
  d : t.d ≠ 0
  ya : t.a = y * t.d
  yb : t.b = s * (1 - y) * t.d
  vy : vq p y = some m
/-- the moved spot of such a table -/
theorem mov78 {p : Int} (hp : Pr p) {t : Tb} {y s : Rat} {m : Int} (S : Sld p t y s m) (k : Int) (q : Rat) : (vq p (t.mul (tabS p k q)).det).isSome = true ∧ (vq p (t.mul (tabS p k q)).det).getD 0 - 2 * leastV p [(t.mul (tabS p k q)).c, (t.mul (tabS p k q)).d] = k + m ∧ ¬ vq p (t.mul (tabS p k q)).c = some (leastV p [(t.mul (tabS p k q)).c, (t.mul (tabS p k q)).d]) ∧
    (t.mul (tabS p k q)).b * (t.mul (tabS p k q)).d⁻¹ = y * q + s * (1 - y) := by
  have ec : (t.mul (tabS p k q)).c = 0 := by show t.c * ppw p k + t.d * 0 = 0; rw [S.c]; grind
  have ed : (t.mul (tabS p k q)).d = t.d := by show t.c * q + t.d * 1 = t.d; rw [S.c]; grind
  have eb : (t.mul (tabS p k q)).b = (y * q + s * (1 - y)) * t.d := by show t.a * q + t.b * 1 = _; rw [S.ya, S.yb]; grind
  obtain ⟨vd, hd⟩ : ∃ vd, vq p t.d = some vd := by
    cases e : vq p t.d with
    | none => exact absurd (vq_none.mp e) S.d
    | some v => exact ⟨v, rfl⟩
  have edt : (t.mul (tabS p k q)).det = y * t.d * ppw p k * t.d := by
    rw [det_mul, tabS_det]
    unfold Tb.det
    rw [S.c, S.ya]
    grind
  have vdt : vq p (t.mul (tabS p k q)).det = some (m + vd + k + vd) := by
    rw [edt]
    exact vq_mul hp (vq_mul hp (vq_mul hp S.vy hd) (vq_ppw hp)) hd
  have lst : leastV p [(t.mul (tabS p k q)).c, (t.mul (tabS p k q)).d] = vd := by
    rw [ec, ed]
    have key : ∀ j : Int, j ≤ leastV p [0, t.d] ↔ j ≤ vd := fun j => by
      rw [least_iff hp ⟨t.d, by simp, S.d⟩]
      constructor
      · intro h
        have := h t.d (by simp)
        rw [vq_dv hp, hd] at this
        exact this
      · intro h r hr
        simp at hr
        rcases hr with rfl | rfl
        · exact dv_zero p j hp
        · exact dv_of_vq hp hd h
    have a := (key _).mp (Int.le_refl _)
    have b := (key vd).mpr (Int.le_refl _)
    omega
  refine ⟨by rw [vdt]; rfl, ?_, ?_, ?_⟩
  · rw [vdt, lst]
    show m + vd + k + vd - 2 * vd = k + m
    omega
  · rw [lst, ec]
    intro z
    rw [vq_none.mpr rfl] at z
    cases z
  · rw [eb, ed]
    have := Rat.mul_inv_cancel _ S.d
    generalize t.d⁻¹ = i at *
    grind
/-- what lies on the line stays on it -/
theorem line78 {p : Int} (hp : Pr p) {y s : Rat} {m : Int} (vy : vq p y = some m) (k : Int) : restQ p (k + m) (y * restQ p k s + s * (1 - y)) = restQ p (k + m) s := by
  refine rest_eq78 hp ?_
  have e : y * restQ p k s + s * (1 - y) - s = (restQ p k s - s) * y := by grind
  rw [e]
  exact dv_mul hp (dv_comm (rest_is hp k s).dv) (dv_of_vq hp vy (Int.le_refl _))
theorem one_sub_pos78 {p : Int} (hp : Pr p) {y : Rat} {m : Int} (vy : vq p y = some m) (h : 0 < m) : vq p (1 - y) = some 0 := by
  have d1 : ∀ k, Dv p k 1 ↔ k ≤ 0 := ((vq_iff hp).mp (vq_one hp)).2
  have dy := ((vq_iff hp).mp vy).2
  have key : ∀ k, Dv p k (1 - y) ↔ k ≤ 0 := fun k => by
    constructor
    · intro hk
      refine Classical.byContradiction fun hc => ?_
      have a : Dv p 1 (1 - y) := dv_mono hp (by omega) hk
      have b : Dv p 1 y := (dy 1).mpr (by omega)
      have c := dv_add hp a b
      rw [show 1 - y + y = 1 by grind] at c
      have := (d1 1).mp c
      omega
    · intro hk
      exact dv_sub hp ((d1 k).mpr hk) ((dy k).mpr (by omega))
  refine (vq_iff hp).mpr ⟨fun z => ?_, key⟩
  have := (key 1).mp (by rw [z]; exact dv_zero p 1 hp)
  omega
theorem one_sub_neg78 {p : Int} (hp : Pr p) {y : Rat} {m : Int} (vy : vq p y = some m) (h : m < 0) : vq p (1 - y) = some m := by
  have d1 : ∀ k, Dv p k 1 ↔ k ≤ 0 := ((vq_iff hp).mp (vq_one hp)).2
  have dy := ((vq_iff hp).mp vy).2
  have key : ∀ k, Dv p k (1 - y) ↔ k ≤ m := fun k => by
    constructor
    · intro hk
      refine Classical.byContradiction fun hc => ?_
      have a : Dv p (m + 1) (1 - y) := dv_mono hp (by omega) hk
      have b : Dv p (m + 1) 1 := (d1 (m + 1)).mpr (by omega)
      have c := dv_sub hp b a
      rw [show 1 - (1 - y) = y by grind] at c
      have := (dy (m + 1)).mp c
      omega
    · intro hk
      exact dv_sub hp ((d1 k).mpr (by omega)) ((dy k).mpr hk)
  refine (vq_iff hp).mpr ⟨fun z => ?_, key⟩
  have := (key (m + 1)).mp (by rw [z]; exact dv_zero p _ hp)
  omega
theorem dv_u78 {p j v : Int} (hp : Pr p) {r s : Rat} (hr : vq p r = some v) : Dv p j (s * r) ↔ Dv p (j - v) s := by
  constructor
  · exact dv_unit hp hr
  · intro h
    have := dv_mul hp h (dv_of_vq hp hr (Int.le_refl _))
    rwa [show j - v + v = j by omega] at this
theorem lv_78 {p : Int} (hp : Pr p) (m : Int) (z : Rat) (j : Int) : j ≤ lvS p 0 0 m (restQ p m z) ↔ j ≤ 0 ∧ j ≤ m ∧ Dv p j z := by
  rw [lv_iff hp]
  have e : restQ p m z - 0 = restQ p m z := by grind
  rw [e]
  constructor
  · rintro ⟨a, b, c⟩
    refine ⟨a, b, ?_⟩
    have := dv_add hp (dv_mono hp b (rest_is hp m z).dv) c
    rwa [show z - restQ p m z + restQ p m z = z by grind] at this
  · rintro ⟨a, b, c⟩
    refine ⟨a, b, ?_⟩
    have := dv_sub hp c (dv_mono hp b (rest_is hp m z).dv)
    rwa [show z - (z - restQ p m z) = restQ p m z by grind] at this
theorem kind78 {p : Int} (hp : Pr p) {y s : Rat} {m n : Int} (vy : vq p y = some m) (hm : m = n ∨ m = -n) (n0 : 2 ≤ n) (n1 : n ≤ 520) (hs : Dv p (-10) s) :
    -530 ≤ lvS p 0 0 m (restQ p m (s * (1 - y))) ∧ lvS p 0 0 m (restQ p m (s * (1 - y))) ≤ 0 ∧ ∃ k1, -270 ≤ k1 ∧ k1 ≤ 270 ∧
    (if (m - 2 * lvS p 0 0 m (restQ p m (s * (1 - y)))) / 2 ≤ 0 - lvS p 0 0 m (restQ p m (s * (1 - y))) then (0 - (m - 2 * lvS p 0 0 m (restQ p m (s * (1 - y)))) / 2, restQ p (0 - (m - 2 * lvS p 0 0 m (restQ p m (s * (1 - y)))) / 2) 0)
      else (0 - 2 * (0 - lvS p 0 0 m (restQ p m (s * (1 - y)))) + (m - 2 * lvS p 0 0 m (restQ p m (s * (1 - y)))) / 2, restQ p (0 - 2 * (0 - lvS p 0 0 m (restQ p m (s * (1 - y)))) + (m - 2 * lvS p 0 0 m (restQ p m (s * (1 - y)))) / 2) (restQ p m (s * (1 - y))))) = axS p s k1 := by
  have key := lv_78 hp m (s * (1 - y))
  generalize lvS p 0 0 m (restQ p m (s * (1 - y))) = lv at key ⊢
  obtain ⟨a, b, c⟩ := (key lv).mp (Int.le_refl _)
  rcases hm with rfl | rfl
  · have u := one_sub_pos78 hp vy (by omega)
    rw [dv_u78 hp u, Int.sub_zero] at c
    have l0 := (key (-10)).mpr ⟨by decide, by omega, by rw [dv_u78 hp u]; exact hs⟩
    refine ⟨by omega, a, lv + m / 2, by omega, by omega, ?_⟩
    rw [if_neg (by omega)]
    have e : 0 - 2 * (0 - lv) + (m - 2 * lv) / 2 = lv + m / 2 := by omega
    rw [e]
    refine Prod.ext rfl ?_
    show restQ p (lv + m / 2) (restQ p m (s * (1 - y))) = restQ p (lv + m / 2) s
    rw [rest_rest41 hp (by omega)]
    refine rest_eq78 hp ?_
    have e2 : s * (1 - y) - s = -(s * y) := by grind
    rw [e2]
    refine dv_neg (dv_mono hp ?_ (dv_mul hp c (dv_of_vq hp vy (Int.le_refl _))))
    omega
  · have u := one_sub_neg78 hp vy (by omega)
    rw [dv_u78 hp u] at c
    have l0 := (key (-n - 10)).mpr ⟨by omega, by omega, by rw [dv_u78 hp u]; exact dv_mono hp (by omega) hs⟩
    refine ⟨by omega, a, 0 - (-n - 2 * lv) / 2, by omega, by omega, ?_⟩
    rw [if_pos (by omega)]
    refine Prod.ext rfl ?_
    show restQ p (0 - (-n - 2 * lv) / 2) 0 = restQ p (0 - (-n - 2 * lv) / 2) s
    refine rest_eq78 hp ?_
    rw [show (0 : Rat) - s = -s by grind]
    exact dv_neg (dv_mono hp (by omega) c)
theorem axlv78 {p : Int} (hp : Pr p) (s : Rat) (k1 k2 : Int) : lvS p (axS p s k1).1 (axS p s k1).2 (axS p s k2).1 (axS p s k2).2 = min k1 k2 := by
  have key : ∀ j, j ≤ lvS p k1 (restQ p k1 s) k2 (restQ p k2 s) ↔ j ≤ min k1 k2 := fun j => by
    rw [lv_iff hp]
    constructor
    · rintro ⟨a, b, _⟩
      omega
    · intro h
      refine ⟨by omega, by omega, ?_⟩
      have a := dv_mono hp (show j ≤ k1 by omega) (rest_is hp k1 s).dv
      have b := dv_mono hp (show j ≤ k2 by omega) (rest_is hp k2 s).dv
      have := dv_sub hp a b
      rwa [show s - restQ p k1 s - (s - restQ p k2 s) = restQ p k2 s - restQ p k1 s by grind] at this
  have a := (key _).mp (Int.le_refl _)
  have b := (key (min k1 k2)).mpr (Int.le_refl _)
  show lvS p k1 (restQ p k1 s) k2 (restQ p k2 s) = _
  omega
theorem axway78 {p : Int} (hp : Pr p) (s : Rat) (k1 k2 : Int) : wy p (axS p s k1) (axS p s k2) = k1 + k2 - 2 * min k1 k2 := by
  show wayS p _ _ _ _ = _
  rw [← way_lv, axlv78 hp]
  rfl
theorem axroad78 {p : Int} (hp : Pr p) (s : Rat) (k1 : Int) (n : Nat) {g : Int} (hg : g = 1 ∨ g = -1) : roadL p (axS p s k1) (axS p s (k1 + g * n)) = (List.range (n + 1)).map fun (i : Nat) => axS p s (k1 + g * i) := by
  unfold roadL
  rw [axlv78 hp]
  have ab : ∀ a k : Int, k ≤ a → abv p (axS p s a) k = axS p s k := fun a k h => Prod.ext rfl (rest_rest41 hp h s)
  show ((List.range (k1 - (min k1 (k1 + g * n) - 1)).toNat).map fun (j : Nat) => abv p (axS p s k1) (k1 + (j : Int) * (-1))) ++ (List.range (k1 + g * n + 1 - (min k1 (k1 + g * n) + 1)).toNat).map (fun (j : Nat) => abv p (axS p s (k1 + g * n)) (min k1 (k1 + g * n) + 1 + (j : Int) * 1)) = _
  rcases hg with rfl | rfl
  · have e1 : (k1 - (min k1 (k1 + 1 * n) - 1)).toNat = 1 := by omega
    have e2 : (k1 + 1 * n + 1 - (min k1 (k1 + 1 * n) + 1)).toNat = n := by omega
    have e3 : min k1 (k1 + 1 * (n : Int)) = k1 := by omega
    have e4 : (List.range (n + 1)).map (fun (i : Nat) => axS p s (k1 + 1 * (i : Int))) = axS p s (k1 + 1 * ((0 : Nat) : Int)) :: (List.range n).map (fun (i : Nat) => axS p s (k1 + 1 * ((i + 1 : Nat) : Int))) := by
      rw [List.range_succ_eq_map, List.map_cons, List.map_map]
      rfl
    rw [e1, e2, e3, e4]
    show abv p (axS p s k1) (k1 + ((0 : Nat) : Int) * (-1)) :: (List.range n).map _ = _
    rw [ab _ _ (by omega), show k1 + ((0 : Nat) : Int) * (-1) = k1 + 1 * ((0 : Nat) : Int) by omega]
    congr 1
    refine List.map_congr_left fun j hj => ?_
    have hj := List.mem_range.mp hj
    show abv p (axS p s (k1 + 1 * n)) (k1 + 1 + (j : Int) * 1) = axS p s (k1 + 1 * ((j + 1 : Nat) : Int))
    rw [ab _ _ (by omega)]
    congr 1
    omega
  · have e1 : (k1 - (min k1 (k1 + -1 * n) - 1)).toNat = n + 1 := by omega
    have e2 : (k1 + -1 * n + 1 - (min k1 (k1 + -1 * n) + 1)).toNat = 0 := by omega
    rw [e1, e2, List.range_zero, List.map_nil, List.append_nil]
    refine List.map_congr_left fun j hj => ?_
    rw [ab _ _ (by omega)]
    congr 1
    omega
def Ub (p : Int) (t : Tb) (k : Int) (q : Rat) : Prop := POk t (tabS p k q) ∧ MOk (t.mul (tabS p k q))
theorem spotof78 {p : Int} (hp : Pr p) {t : Tb} {y s : Rat} {m : Int} (S : Sld p t y s m) {k : Int} {q : Rat} (u : Ub p t k q) (f : Fb 4400 (y * q + s * (1 - y))) (k0 : -2000 ≤ k) (k1 : k ≤ 2000) (m0 : -2000 ≤ m) (m1 : m ≤ 2000) :
    R_spotof [.int p, tbD (t.mul (tabS p k q))] (spotD (k + m) (restQ p (k + m) (y * q + s * (1 - y)))) := by
  obtain ⟨h1, h2, h3, h4⟩ := mov78 hp S k q
  obtain ⟨v, hv⟩ := Option.isSome_iff_exists.mp h1
  rw [hv] at h2
  have h2 : v - 2 * leastV p [(t.mul (tabS p k q)).c, (t.mul (tabS p k q)).d] = k + m := h2
  refine ⟨p, t.mul (tabS p k q), v, rfl, hp, u.2, hv, by omega, by omega, fun h => absurd h h3, fun _ => ⟨?_, by rw [h4]; exact f⟩, ?_⟩
  · show t.c * q + t.d * 1 ≠ 0
    rw [S.c, Rat.zero_mul, Rat.zero_add, Rat.mul_one]
    exact S.d
  · rw [if_neg h3, h2, h4]
noncomputable def alongS (p : Int) (a b : Int × Rat) (j : Int) : Int × Rat := if j ≤ a.1 - lvS p a.1 a.2 b.1 b.2 then (a.1 - j, restQ p (a.1 - j) a.2) else (a.1 - 2 * (a.1 - lvS p a.1 a.2 b.1 b.2) + j, restQ p (a.1 - 2 * (a.1 - lvS p a.1 a.2 b.1 b.2) + j) b.2)
noncomputable def mid78 (p : Int) (y s : Rat) (m : Int) : Int × Rat := alongS p (0, 0) (m, restQ p m (s * (1 - y))) (wayS p 0 0 m (restQ p m (s * (1 - y))) / 2)
theorem mid_is78 {p : Int} (hp : Pr p) {y s : Rat} {m n : Int} (vy : vq p y = some m) (hm : m = n ∨ m = -n) (n0 : 2 ≤ n) (n1 : n ≤ 520) (hs : Dv p (-10) s) :
    -530 ≤ lvS p 0 0 m (restQ p m (s * (1 - y))) ∧ lvS p 0 0 m (restQ p m (s * (1 - y))) ≤ 0 ∧ 0 ≤ wayS p 0 0 m (restQ p m (s * (1 - y))) ∧ wayS p 0 0 m (restQ p m (s * (1 - y))) ≤ 2000 ∧ -270 ≤ (mid78 p y s m).1 ∧ (mid78 p y s m).1 ≤ 270 ∧ mid78 p y s m = axS p s (mid78 p y s m).1 := by
  have w := way_lv p 0 0 m (restQ p m (s * (1 - y)))
  obtain ⟨a, b, k1, c, d, e⟩ := kind78 hp vy hm n0 n1 hs
  have le := ((lv_78 hp m (s * (1 - y)) _).mp (Int.le_refl _)).2.1
  have e2 : mid78 p y s m = axS p s k1 := by
    rw [← e]
    unfold mid78 alongS
    rw [← w]
    show (if (0 + m - 2 * _) / 2 ≤ _ then _ else _) = _
    rw [Int.zero_add]
  have e3 : (mid78 p y s m).1 = k1 := by rw [e2]; rfl
  rw [e3]
  refine ⟨a, b, by omega, by omega, c, d, e2⟩
theorem ax_sz78 {p : Int} (hp : Pr p) {s : Rat} (hs : Dv p (-10) s) {k : Int} (hk : k ≤ 790) : Sz p 10 2402 (restQ p k s) := by
  by_cases h : -10 ≤ k
  · exact rest_sz78 (L := 10) hp hs h (by omega)
  · have e : restQ p k s = 0 := by
      rw [rest_eq78 (b := 0) hp (by rw [show s - 0 = s by grind]; exact dv_mono hp (by omega) hs), rest_zero78 hp]
    rw [e]
    exact Sz.zero _ _
theorem wk_far78 {p : Int} (hp : Pr p) {y s : Rat} {m n : Int} (vy : vq p y = some m) (hm : m = n ∨ m = -n) (n0 : 2 ≤ n) (n1 : n ≤ 520) (hs : Dv p (-10) s) : Wk p 0 0 m (restQ p m (s * (1 - y))) := by
  have d : Dv p (-((540 : Nat) : Int)) (s * (1 - y)) := by
    rcases hm with rfl | rfl
    · rw [dv_u78 hp (one_sub_pos78 hp vy (by omega))]; exact dv_mono hp (by omega) hs
    · rw [dv_u78 hp (one_sub_neg78 hp vy (by omega))]; exact dv_mono hp (by omega) hs
  exact wk78 (L := 540) (M := 0) (B := 3200) (C := 1) (K := 520) hp (Sz.zero _ _) (rest_sz78 hp d (by omega) (by omega)) (by omega) (by omega) (by omega) (by omega) (by omega) (by omega) (by omega) (by omega) (by decide) (by decide) (by decide)
theorem wk_ax78 {p : Int} (hp : Pr p) {s : Rat} {k1 k2 : Int} (hs : Dv p (-10) s) (a0 : -270 ≤ k1) (a1 : k1 ≤ 270) (d0 : -520 ≤ k2 - k1) (d1 : k2 - k1 ≤ 520) : Wk p k1 (restQ p k1 s) k2 (restQ p k2 s) :=
  wk78 (L := 10) (M := 270) (B := 2402) (C := 1621) (K := 520) hp (ax_sz78 hp hs (by omega)) (ax_sz78 hp hs (by omega)) (by omega) (by omega) (by omega) (by omega) (by omega) (by omega) (by omega) (by omega) (by decide) (by decide) (by decide)
noncomputable abbrev LA (p : Int) (s : Rat) (k1 g n : Int) : List D := (((List.range (n.toNat + 1)).map fun (i : Nat) => axS p s (k1 + g * i)).map trS).map triD
def R_lies78 (ds : List D) (d : D) : Prop := ∃ (p k1 : Int) (q1 : Rat) (k2 : Int) (q2 : Rat), ds = [.int p, spotD k1 q1, spotD k2 q2] ∧ Pr p ∧ Wk p k1 q1 k2 q2 ∧ d = .tup [.int (lowS p k1 q1 k2 q2), .int (k2 - k1 - lowS p k1 q1 k2 q2)]
def R_way78 (ds : List D) (d : D) : Prop := ∃ (p k1 : Int) (q1 : Rat) (k2 : Int) (q2 : Rat), ds = [.int p, spotD k1 q1, spotD k2 q2] ∧ Pr p ∧ Wk p k1 q1 k2 q2 ∧ d = .int (wayS p k1 q1 k2 q2)
def R_turn78 (ds : List D) (d : D) : Prop := ∃ (p k1 : Int) (q1 : Rat) (k2 : Int) (q2 : Rat), ds = [.int p, spotD k1 q1, spotD k2 q2] ∧ Pr p ∧ Wk p k1 q1 k2 q2 ∧ -3000 ≤ lvS p k1 q1 k2 q2 ∧ d = spotD (lvS p k1 q1 k2 q2) (restQ p (lvS p k1 q1 k2 q2) q1)
def R_sbO78 (ds l : List D) : Prop := ∃ (p : Int) (a b : Int × Rat), ds = [.int p, stD a, stD b] ∧ Pr p ∧ Wk p a.1 a.2 b.1 b.2 ∧ -3000 ≤ lvS p a.1 a.2 b.1 b.2 ∧ l = ((roadL p a b).map trS).map triD
def R_roadZ78 (ds : List D) (r : Rf) : Prop := ∃ (p : Int) (a b : Int × Rat), ds = [.int p, stD a, stD b] ∧ Pr p ∧ Wk p a.1 a.2 b.1 b.2 ∧ -3000 ≤ lvS p a.1 a.2 b.1 b.2 ∧ wy p a b ≤ 1000 ∧ 0 ≤ wy p a b ∧ ((wy p a b ≤ 500 ∧ r = .ok (.lst (((roadL p a b).map trS).map triD))) ∨ (500 < wy p a b ∧ r = .far (wy p a b)))
def R_along78 (ds : List D) (d : D) : Prop := ∃ (p : Int) (a b : Int × Rat) (j : Int), ds = [.int p, stD a, stD b, .int j] ∧ Pr p ∧ Wk p a.1 a.2 b.1 b.2 ∧ -3000 ≤ lvS p a.1 a.2 b.1 b.2 ∧ -3000 ≤ j ∧ j ≤ 3000 ∧ d = stD (alongS p a b j)
def R_slide78 (ds : List D) (d : D) : Prop := ∃ (p : Int) (t : Tb) (v1 v2 : Int), ds = [.int p, tbD t] ∧ Pr p ∧ Tbb 4400 t ∧ MOk t ∧ vq p (t.a + t.d) = some v1 ∧ vq p t.det = some v2 ∧ d = .int (max 0 (v2 - 2 * v1))
def R_mov78 (ds : List D) (d : D) : Prop := ∃ (p : Int) (t : Tb) (y s : Rat) (m k : Int) (q : Rat), ds = [.int p, tbD t, spotD k q] ∧ Pr p ∧ Sld p t y s m ∧ Ub p t k q ∧ Fb 4400 (y * q + s * (1 - y)) ∧ (-2000 ≤ k ∧ k ≤ 2000 ∧ -2000 ≤ m ∧ m ≤ 2000) ∧ d = spotD (k + m) (restQ p (k + m) (y * q + s * (1 - y)))
structure Kb (p : Int) (t : Tb) (y s : Rat) : Prop where
  tb : Tbb 4400 t
  mo : MOk t
  u0 : Ub p t 0 0
  f0 : Fb 4400 (y * 0 + s * (1 - y))
  u : ∀ k : Int, -270 ≤ k → k ≤ 270 → Ub p t k (restQ p k s)
  f : ∀ k : Int, -270 ≤ k → k ≤ 270 → Fb 4400 (y * restQ p k s + s * (1 - y))
def R_kind78 (ds : List D) (r : Rf) : Prop := ∃ (p : Int) (t : Tb) (y s : Rat) (m n g v1 v2 : Int), ds = [.int p, tbD t] ∧ Pr p ∧ Sld p t y s m ∧ ((g = 1 ∧ m = n) ∨ (g = -1 ∧ m = -n)) ∧ 2 ≤ n ∧ n ≤ 520 ∧ Dv p (-10) s ∧ Kb p t y s ∧ vq p (t.a + t.d) = some v1 ∧ vq p t.det = some v2 ∧ v2 - 2 * v1 = n ∧
  ((n ≤ 500 ∧ r = .ok (.tup [.str "slides", .int n, .lst (LA p s (mid78 p y s m).1 g n)])) ∨ (500 < n ∧ r = .far n))

/-! the laws' own parts of k78 -/
def ccell (ns : List Int) (k : Int) : Int := if (ns.length : Int) = 0 then 7 * k + 3 else if ns.getD 0 0 % 2 = 1 then ((ns.getD (k % ns.length).toNat 0).natAbs : Int) * (if decide (k < (ns.length : Int)) = true then 1 else 0)
  else (ns.getD (k % ns.length).toNat 0 + 7 * k * k + 13 * k + 5) * 48271 % 2147483647 * 69621 % 1000000007
theorem ccell_at {ns : List Int} {k : Int} (hl : ¬ (ns.length : Int) = 0) : atI (ns.map D.int) (k % ns.length) = some (.int (ns.getD (k % ns.length).toNat 0)) := by
  have a := Int.emod_nonneg k hl
  have b := Int.emod_lt_of_pos k (show (0 : Int) < ns.length by omega)
  unfold atI ixN
  rw [List.length_map, if_pos a, if_pos b]
  show (ns.map D.int)[(k % ns.length).toNat]? = _
  rw [List.getElem?_map, List.getElem?_eq_getElem (by omega), List.getD_eq_getElem?_getD, List.getElem?_eq_getElem (by omega)]
  rfl
def R_cell78 (ds : List D) (d : D) : Prop := ∃ (ns : List Int) (k : Int), ds = [.lst (ns.map D.int), .int k] ∧ ns.length ≤ 63 ∧ 0 ≤ k ∧ k ≤ 100 ∧ d = .int (ccell ns k)
def R_prime78 (ds : List D) (d : D) : Prop := ∃ (ns : List Int) (p : Int), ds = [.lst (ns.map D.int)] ∧ ns.length ≤ 63 ∧ Pr p ∧ atI [D.int 2, D.int 3, D.int 5, D.int 7] (ccell ns 0 / 2 % 4) = some (.int p) ∧ d = .int p
def R_low78 (ds : List D) (d : D) : Prop := ∃ t b : Int, ds = [.int t, .int b] ∧ 0 < b ∧ Bd 8900 b ∧ d = frD (Rat.divInt t b)
def R_pp78 (ds : List D) (d : D) : Prop := ∃ p n : Int, ds = [.int p, .int n] ∧ Pr p ∧ 0 ≤ n ∧ n ≤ 1000 ∧ d = .tup [.int (p ^ n.toNat), .int 1]
def R_rest78 (ds : List D) (d : D) : Prop := ∃ (p k : Int) (s : Rat), ds = [.int p, .int k, frD s] ∧ Pr p ∧ -900 ≤ k ∧ k ≤ 900 ∧ Fb 20 s ∧ d = frD (restQ p k s)
/-- powers by squaring -/
theorem pp_step78 {p : Int} {a b l n : Nat} (h : a + b * l = n) : (if l % 2 = 1 then a + b else a) + (b + b) * (l / 2) = n := by
  have e : l = 2 * (l / 2) + l % 2 := by omega
  have e2 : b * l = (b + b) * (l / 2) + b * (l % 2) := by
    rw [show b * l = b * (2 * (l / 2) + l % 2) by rw [← e], Nat.mul_add, ← Nat.mul_assoc, Nat.mul_comm b 2, Nat.two_mul]
  have h2 : l % 2 = 0 ∨ l % 2 = 1 := by omega
  rcases h2 with h2 | h2
  · rw [h2, Nat.mul_zero] at e2
    rw [if_neg (by omega)]
    omega
  · rw [h2, Nat.mul_one] at e2
    rw [if_pos h2]
    omega
/-- Euclid's way, with what makes the first number -/
structure EI (w M x y f g : Int) : Prop where
  x0 : 0 < x
  y0 : 0 ≤ y
  fx : M ∣ x - f * w
  gy : M ∣ y - g * w
  gc : Int.gcd x y = 1
  sg : f * g ≤ 0
  sz : (f.natAbs : Int) * y + (g.natAbs : Int) * x = M
theorem abs78 {f g o : Int} (h : f * g ≤ 0) (ho : 0 ≤ o) : ((f - o * g).natAbs : Int) = (f.natAbs : Int) + o * (g.natAbs : Int) := by
  have key : (0 ≤ f ∧ g ≤ 0) ∨ (f ≤ 0 ∧ 0 ≤ g) := by
    by_cases f0 : f = 0
    · by_cases g0 : 0 ≤ g
      · exact .inr ⟨by omega, g0⟩
      · exact .inl ⟨by omega, by omega⟩
    · by_cases fp : 0 < f
      · refine .inl ⟨by omega, ?_⟩
        refine Classical.byContradiction fun hg => ?_
        have := Int.mul_pos fp (show 0 < g by omega)
        omega
      · refine .inr ⟨by omega, ?_⟩
        refine Classical.byContradiction fun hg => ?_
        have := Int.mul_pos_of_neg_of_neg (show f < 0 by omega) (show g < 0 by omega)
        omega
  rcases key with ⟨a, b⟩ | ⟨a, b⟩
  · have og : o * g ≤ 0 := Int.mul_nonpos_of_nonneg_of_nonpos ho b
    have e1 : (g.natAbs : Int) = -g := by omega
    rw [e1, Int.mul_neg]
    omega
  · have og : 0 ≤ o * g := Int.mul_nonneg ho b
    have e1 : (g.natAbs : Int) = g := by omega
    rw [e1]
    omega
theorem EI.step {w M x y f g : Int} (h : EI w M x y f g) (hy : 0 < y) : EI w M y (x - x / y * y) g (f - x / y * g) := by
  have o0 : 0 ≤ x / y := Int.ediv_nonneg (by have := h.x0; omega) (by omega)
  have em : x - x / y * y = x % y := by rw [Int.emod_def, Int.mul_comm]
  refine ⟨hy, by rw [em]; exact Int.emod_nonneg _ (by omega), h.gy, ?_, ?_, ?_, ?_⟩
  · have := Int.dvd_sub h.fx (Int.dvd_mul_of_dvd_right (b := x / y) h.gy)
    rwa [show x - f * w - x / y * (y - g * w) = x - x / y * y - (f - x / y * g) * w by grind] at this
  · rw [em, Int.emod_def, Int.gcd_sub_mul_left_right, Int.gcd_comm]
    exact h.gc
  · have e : g * (f - x / y * g) = f * g - x / y * (g * g) := by grind
    have : 0 ≤ x / y * (g * g) := Int.mul_nonneg o0 (by rcases Int.le_total 0 g with z | z; exact Int.mul_nonneg z z; exact Int.mul_nonneg_of_nonpos_of_nonpos z z)
    have := h.sg
    omega
  · rw [abs78 h.sg o0]
    have := h.sz
    generalize (f.natAbs : Int) = F at *
    generalize (g.natAbs : Int) = G at *
    grind
theorem EI.small {w M x y f g : Int} (h : EI w M x y f g) (hy : 0 < y) : (f.natAbs : Int) ≤ M ∧ (g.natAbs : Int) ≤ M := by
  have x0 := h.x0
  have e := h.sz
  have a : (f.natAbs : Int) ≤ (f.natAbs : Int) * y := by
    have := Int.mul_le_mul_of_nonneg_left (show 1 ≤ y by omega) (show (0 : Int) ≤ f.natAbs by omega)
    omega
  have b : (g.natAbs : Int) ≤ (g.natAbs : Int) * x := by
    have := Int.mul_le_mul_of_nonneg_left (show 1 ≤ x by omega) (show (0 : Int) ≤ g.natAbs by omega)
    omega
  have c : (0 : Int) ≤ (f.natAbs : Int) * y := Int.mul_nonneg (by omega) (by omega)
  have d : (0 : Int) ≤ (g.natAbs : Int) * x := Int.mul_nonneg (by omega) (by omega)
  omega
theorem EI.fin {w M x f g : Int} (h : EI w M x 0 f g) : M ∣ 1 - f * w := by
  have gc := h.gc
  rw [Int.gcd_zero_right] at gc
  have x0 := h.x0
  have : x = 1 := by omega
  have fx := h.fx
  rwa [this] at fx
theorem rest_78 {p : Int} (hp : Pr p) (k : Int) (s : Rat) {f : Int} (h : 0 < k + (vp p s.den : Int)) (hf : p ^ (k + (vp p s.den : Int)).toNat ∣ 1 - f * ((s.den : Int) / p ^ vp p s.den)) :
    Rat.divInt (s.num * f % p ^ (k + (vp p s.den : Int)).toNat) (p ^ vp p s.den) = restQ p k s := by
  have pz := pw_pos hp (k + (vp p s.den : Int)).toNat
  refine rest_of hp k s h (Int.emod_nonneg _ (by omega)) (Int.emod_lt_of_pos _ pz) ?_
  generalize p ^ (k + (vp p s.den : Int)).toNat = M at *
  generalize (s.den : Int) / p ^ vp p s.den = w at *
  obtain ⟨c, hc⟩ := hf
  have e : s.num * f % M = s.num * f - M * (s.num * f / M) := Int.emod_def _ _
  refine ⟨s.num * c + s.num * f / M * w, ?_⟩
  rw [e]
  have : s.num * (1 - f * w) = s.num * (M * c) := by rw [hc]
  grind
theorem cop78 {p : Int} (hp : Pr p) {w : Int} (hw : ¬ w % p = 0) (n : Nat) : Int.gcd w (p ^ n) = 1 := by
  induction n with
  | zero => rw [Int.pow_zero]; simp
  | succ n ih =>
    rw [Int.pow_succ]
    have g1 : Int.gcd w p = 1 := by
      have d1 := Int.gcd_dvd_left w p
      have d2 := Int.gcd_dvd_right w p
      rcases hp with rfl | rfl | rfl | rfl
      all_goals
        generalize hg : Int.gcd w _ = g at d1 d2
        have : g ≤ 7 := Nat.le_trans (Nat.le_of_dvd (by decide) (Int.ofNat_dvd.mp d2)) (by decide)
        have hgp : 0 < g := Nat.pos_of_ne_zero (by rintro rfl; simp at d2)
        have h7 : g = 1 ∨ g = 2 ∨ g = 3 ∨ g = 4 ∨ g = 5 ∨ g = 6 ∨ g = 7 := by omega
        rcases h7 with rfl | rfl | rfl | rfl | rfl | rfl | rfl <;> first | rfl | (exfalso; revert d2; decide) | (exfalso; exact hw (Int.emod_eq_zero_of_dvd d1))
    rw [Int.gcd_mul_right_right_of_gcd_eq_one (k := p) ih]
    exact g1
theorem EI.start {p : Int} (hp : Pr p) {w : Int} (hw : ¬ w % p = 0) {n : Nat} (hn : 0 < n) : EI w (p ^ n) (w % p ^ n) (p ^ n) 1 0 := by
  have pz := pw_pos hp n
  have m0 := Int.emod_nonneg w (show p ^ n ≠ 0 by omega)
  have gc : Int.gcd (w % p ^ n) (p ^ n) = 1 := by
    rw [Int.gcd_comm, Int.emod_def, Int.gcd_sub_mul_left_right, Int.gcd_comm]
    exact cop78 hp hw n
  refine ⟨?_, by omega, ?_, ?_, gc, by simp, by simp⟩
  · by_cases z : w % p ^ n = 0
    · exfalso
      rw [z, Int.gcd_zero_left] at gc
      have p2 := hp.two_le
      obtain ⟨m, rfl⟩ : ∃ m, n = m + 1 := ⟨n - 1, by omega⟩
      have pm := pw_pos hp m
      rw [Int.pow_succ] at gc
      have : 2 ≤ p ^ m * p := by
        have := Int.mul_le_mul_of_nonneg_right (show 1 ≤ p ^ m by omega) (show 0 ≤ p by omega)
        omega
      omega
    · omega
  · rw [Int.one_mul]
    exact ⟨-(w / p ^ n), by rw [Int.emod_def, Int.mul_neg]; omega⟩
  · rw [Int.zero_mul, Int.sub_zero]
    exact Int.dvd_refl _

theorem ub78 {p : Int} (hp : Pr p) {t : Tb} (c0 : t.c = 0) (fa : Fb 1600 t.a) (fb : Fb 1600 t.b) (fd : Fb 1600 t.d) {k : Int} {q : Rat} (k0 : -270 ≤ k) (k1 : k ≤ 270) (fq : Fb 841 q) : Ub p t k q := by
  have e1 : Fb 811 (ppw p k) := (ppw_fb hp 270 (by omega) (by omega)).mono (by decide)
  have z : Fb 4400 0 := fb_zero.mono (by decide)
  have o : Fb 4400 1 := fb_one.mono (by decide)
  obtain ⟨a, b, c, d⟩ := t
  dsimp only at c0 fa fb fd
  subst c0
  have pk : Fb 4400 (a * ppw p k) := (fa.mul e1).mono (by decide)
  have aq : Fb 4400 (a * q) := (fa.mul fq).mono (by decide)
  refine ⟨⟨⟨fa.mono (by decide), fb.mono (by decide), z, fd.mono (by decide)⟩, ⟨e1.mono (by decide), fq.mono (by decide), z, o⟩, pk, ?_, aq, ?_, ?_, ?_, ?_, ?_⟩, ⟨⟨?_, ?_, ?_, ?_⟩, ?_, ?_⟩⟩
  · show Fb 4400 (b * 0); rw [Rat.mul_zero]; exact z
  · show Fb 4400 (b * 1); rw [Rat.mul_one]; exact fb.mono (by decide)
  · show Fb 4400 (0 * ppw p k); rw [Rat.zero_mul]; exact z
  · show Fb 4400 (d * 0); rw [Rat.mul_zero]; exact z
  · show Fb 4400 (0 * q); rw [Rat.zero_mul]; exact z
  · show Fb 4400 (d * 1); rw [Rat.mul_one]; exact fd.mono (by decide)
  · show Fb 4400 (a * ppw p k + b * 0); rw [Rat.mul_zero, Rat.add_zero]; exact pk
  · show Fb 4400 (a * q + b * 1); rw [Rat.mul_one]; exact ((fa.mul fq).add fb).mono (by decide)
  · show Fb 4400 (0 * ppw p k + d * 0); rw [Rat.zero_mul, Rat.mul_zero, Rat.add_zero]; exact z
  · show Fb 4400 (0 * q + d * 1); rw [Rat.zero_mul, Rat.zero_add, Rat.mul_one]; exact fd.mono (by decide)
  · show Fb 4400 ((a * ppw p k + b * 0) * (0 * q + d * 1)); rw [Rat.mul_zero, Rat.add_zero, Rat.zero_mul, Rat.zero_add, Rat.mul_one]; exact ((fa.mul e1).mul fd).mono (by decide)
  · show Fb 4400 ((a * q + b * 1) * (0 * ppw p k + d * 0)); rw [Rat.zero_mul, Rat.mul_zero, Rat.add_zero, Rat.mul_zero]; exact z
theorem kb78 {p : Int} (hp : Pr p) {t : Tb} {y s : Rat} (c0 : t.c = 0) (fa : Fb 1600 t.a) (fb : Fb 1600 t.b) (fd : Fb 1600 t.d) (fy : Fb 1600 y) (fz : Fb 1600 (s * (1 - y))) (fs : Fb 10 s) : Kb p t y s := by
  have z : Fb 4400 0 := fb_zero.mono (by decide)
  have fr : ∀ k : Int, k ≤ 270 → Fb 841 (restQ p k s) := fun k hk => (rest_fb (K := 270) hp hk fs).mono (by decide)
  refine ⟨⟨fa.mono (by decide), fb.mono (by decide), by rw [c0]; exact z, fd.mono (by decide)⟩, ⟨⟨fa.mono (by decide), fb.mono (by decide), by rw [c0]; exact z, fd.mono (by decide)⟩, (fa.mul fd).mono (by decide), by rw [c0, Rat.mul_zero]; exact z⟩,
    ub78 hp c0 fa fb fd (by decide) (by decide) (fb_zero.mono (by decide)), ?_, fun k h0 h1 => ub78 hp c0 fa fb fd h0 h1 (fr k h1), fun k h0 h1 => ((fy.mul (fr k h1)).add fz).mono (by decide)⟩
  rw [Rat.mul_zero, Rat.zero_add]
  exact fz.mono (by decide)
theorem dv10_78 {p : Int} (hp : Pr p) {s : Rat} (fs : Fb 10 s) : Dv p (-10) s := by
  rw [vq_dv hp]
  cases e : vq p s with
  | none => trivial
  | some v => exact (vq_bd hp fs e).1
structure Lng (p n : Int) (X : Rat) : Prop where
  fb : Fb 1570 X
  vx : vq p X = some n
theorem lng78 {p u n : Int} (hp : Pr p) (hu : ¬ u % p = 0) (u0 : 0 < u) (u1 : u ≤ 30) (n0 : 480 ≤ n) (n1 : n ≤ 520) : Lng p n (ppw p 250 * ppw p (n - 250) * (u : Rat)) := by
  have e : ppw p 250 * ppw p (n - 250) = ppw p n := by rw [← ppw_add hp]; congr 1; omega
  rw [e]
  have fu : Fb 5 (u : Rat) := by
    refine ⟨?_, ?_⟩
    · rw [Rat.num_intCast]; exact Bd.of 31 (by omega) (by omega) (by decide)
    · rw [Rat.den_intCast]; decide
  refine ⟨((ppw_fb hp 520 (by omega) (by omega)).mul fu).mono (by decide), ?_⟩
  have := vq_mul hp (vq_ppw hp (k := n)) (vq_unit43 hp hu)
  rwa [Int.add_zero] at this
theorem tabA78 {p n : Int} (hp : Pr p) {X s : Rat} (h : Lng p n X) (n0 : 480 ≤ n) (fs : Fb 10 s) {t : Tb} (ht : t = ⟨X, s - s * X, 0, 1⟩) : Sld p t X s n ∧ Kb p t X s ∧ vq p (t.a + t.d) = some 0 ∧ vq p t.det = some n := by
  subst ht
  have f1 : Fb 1600 (1 : Rat) := fb_one.mono (by decide)
  have fX : Fb 1600 X := h.fb.mono (by decide)
  have fz : Fb 1600 (s * (1 - X)) := (fs.mul (fb_one.sub h.fb)).mono (by decide)
  refine ⟨⟨rfl, by show (1 : Rat) ≠ 0; decide, by show X = X * 1; rw [Rat.mul_one], by show s - s * X = s * (1 - X) * 1; grind, h.vx⟩, kb78 hp rfl fX (by show Fb 1600 (s - s * X); rw [show s - s * X = s * (1 - X) by grind]; exact fz) f1 fX fz fs, ?_, ?_⟩
  · show vq p (X + 1) = some 0
    have := one_sub_pos78 hp (y := -X) (m := n) (by rw [vq_neg hp]; exact h.vx) (by omega)
    rwa [show 1 - -X = X + 1 by grind] at this
  · show vq p (X * 1 - (s - s * X) * 0) = some n
    rw [show X * 1 - (s - s * X) * 0 = X by grind]
    exact h.vx
theorem tabB78 {p n : Int} (hp : Pr p) {X s : Rat} (h : Lng p n X) (n0 : 480 ≤ n) (fs : Fb 10 s) {t : Tb} (ht : t = ⟨1, s * X - s, 0, X⟩) : Sld p t X⁻¹ s (-n) ∧ Kb p t X⁻¹ s ∧ vq p (t.a + t.d) = some 0 ∧ vq p t.det = some n := by
  subst ht
  have X0 : X ≠ 0 := fun z => by have := h.vx; rw [vq_none.mpr z] at this; cases this
  have ci := Rat.mul_inv_cancel _ X0
  have f1 : Fb 1600 (1 : Rat) := fb_one.mono (by decide)
  have fX : Fb 1600 X := h.fb.mono (by decide)
  have fi : Fb 1570 X⁻¹ := h.fb.inv X0
  have fz : Fb 1600 (s * (1 - X⁻¹)) := (fs.mul (fb_one.sub fi)).mono (by decide)
  have vi : vq p X⁻¹ = some (-n) := by
    cases e : vq p X⁻¹ with
    | none =>
      have := vq_none.mp e
      rw [this, Rat.mul_zero] at ci
      exact absurd ci (by decide)
    | some v =>
      have := vq_mul hp h.vx e
      rw [ci, vq_one hp] at this
      have := Option.some.inj this
      congr 1
      omega
  refine ⟨⟨rfl, X0, by show (1 : Rat) = X⁻¹ * X; rw [Rat.mul_comm]; exact ci.symm, by show s * X - s = s * (1 - X⁻¹) * X; generalize X⁻¹ = i at *; grind, vi⟩, kb78 hp rfl f1 (by show Fb 1600 (s * X - s); rw [show s * X - s = -(s * (1 - X)) by grind]; exact ((fs.mul (fb_one.sub h.fb)).mono (by decide)).neg) fX (fi.mono (by decide)) fz fs, ?_, ?_⟩
  · show vq p (1 + X) = some 0
    have := one_sub_pos78 hp (y := -X) (m := n) (by rw [vq_neg hp]; exact h.vx) (by omega)
    rwa [show 1 - -X = 1 + X by grind] at this
  · show vq p (1 * X - (s * X - s) * 0) = some n
    rw [show 1 * X - (s * X - s) * 0 = X by grind]
    exact h.vx

def R_marks78 (n : Int) (d : D) : Prop := d = .bl true
def R_told78 (ds : List D) (d : D) : Prop := ∃ r, R_kind78 ds r ∧ (match r with | .ok d' => d = d' | .far n => d = .tup [.str "far", .int n])
def R_right78 (ds : List D) (d : D) : Prop := ∃ (p n g k1 : Int) (s : Rat), ds = [.int p, .tup [.str "slides", .int n, .lst (LA p s k1 g n)], .int n, frD s, .int g] ∧ Pr p ∧ (g = 1 ∨ g = -1) ∧ 0 ≤ n ∧ n ≤ 500 ∧ -270 ≤ k1 ∧ k1 ≤ 270 ∧ Fb 10 s ∧ d = .bl true
theorem la_at78 {p : Int} {s : Rat} {k1 g n : Int} {i : Int} (i0 : 0 ≤ i) (i1 : i ≤ n) : atI (LA p s k1 g n) i = some (stD (axS p s (k1 + g * i))) := by
  have hl : (LA p s k1 g n).length = n.toNat + 1 := by simp
  rw [at_nat42 i0 (by rw [hl]; omega), List.getElem?_map, List.getElem?_map, List.getElem?_map, List.getElem?_range (by omega)]
  show some (stD (axS p s (k1 + g * ((i.toNat : Nat) : Int)))) = _
  rw [show ((i.toNat : Nat) : Int) = i by omega]
theorem la_len78 {p : Int} {s : Rat} {k1 g n : Int} : (LA p s k1 g n).length = n.toNat + 1 := by simp

theorem eq_far78 (n : Int) : eqD (.tup [.str "far", .int n]) (.tup [.str "far", .int n]) = true := by
  have e : eqD (.tup [.str "far", .int n]) (.tup [.str "far", .int n]) = (eqD (.str "far") (.str "far") && ((n == n) && true)) := rfl
  rw [e, show eqD (.str "far") (.str "far") = true from by decide +kernel]
  simp
theorem sh_far78 (n : Int) : SeqAt.shaped (toPy (.tup [.str "far", .int n])) = true := by
  have e : PyData.canLay0 (toPy (.str "far")) = true := by decide +kernel
  show ((PyData.canLay0 (toPy (.str "far")) && (true && true)) && decide (PyData.depth (toPy (.tup [.str "far", .int n])) ≤ 64)) = true
  rw [e]
  rfl
theorem conjA78 (X s : Rat) : (⟨1, s, 0, 1⟩ : Tb).mul ((⟨X, 0, 0, 1⟩ : Tb).mul ⟨1, -s, 0, 1⟩) = ⟨X, s - s * X, 0, 1⟩ := by
  unfold Tb.mul
  simp only [Tb.mk.injEq]
  refine ⟨?_, ?_, ?_, ?_⟩ <;> grind
theorem conjB78 (X s : Rat) : (⟨1, s, 0, 1⟩ : Tb).mul ((⟨1, 0, 0, X⟩ : Tb).mul ⟨1, -s, 0, 1⟩) = ⟨1, s * X - s, 0, X⟩ := by
  unfold Tb.mul
  simp only [Tb.mk.injEq]
  refine ⟨?_, ?_, ?_, ?_⟩ <;> grind
theorem noneA78 (X : Rat) : (⟨X, 0, 0, 1⟩ : Tb) = ⟨X, 0 - 0 * X, 0, 1⟩ := by
  rw [show (0 : Rat) - 0 * X = 0 by grind]
theorem noneB78 (X : Rat) : (⟨1, 0, 0, X⟩ : Tb) = ⟨1, 0 * X - 0, 0, X⟩ := by
  rw [show (0 : Rat) * X - 0 = 0 by grind]
def top (i : Nat) : Stmt := PySem.Challenge.pw_primetree_k78_slides_too_far.main.body.getD i (.Pass ⟨0, 0, 0, 0⟩)
abbrev s_init : Stmt := mth (top 11) 0
structure Mo (T : Tx) : Prop where
  b_abs : T.mg "abs" = none
  b_min : T.mg "min" = none
  b_range : T.mg "range" = none
  b_max : T.mg "max" = none
  b_len : T.mg "len" = none
  b_int : T.mg "int" = none
  b_isinstance : T.mg "isinstance" = none
  b_bool : T.mg "bool" = none
  b_ValueError : T.mg "ValueError" = none
  b_tuple : T.mg "tuple" = none
  b_list : T.mg "list" = none
  F_shared : At T "shared" (top 13)
  F_power_of : At T "power_of" (top 14)
  F_raised : At T "raised" (top 15)
  F_over_by : At T "over_by" (top 16)
  F_obp : At T "over_by_prime" (top 17)
  F_fraction : AtV T "fraction" (top 21) 1
  F_plus : At T "plus" (top 22)
  F_minus : At T "minus" (top 23)
  F_times : At T "times" (top 24)
  F_over : At T "over" (top 25)
  F_power_in : At T "power_in" (top 26)
  F_prime_power : At T "prime_power" (top 27)
  F_rest_byN : At T "rest_by" (top 28)
  F_measure : At T "measure" (top 30)
  F_trace : At T "trace" (top 31)
  F_product : At T "product" (top 32)
  F_row_by_column : At T "row_by_column" (top 33)
  F_turned_over : At T "turned_over" (top 34)
  F_stretched : At T "stretched" (top 35)
  F_spot_of : At T "spot_of" (top 38)
  F_table_at : At T "table_at" (top 39)
  F_above : At T "spot_above" (top 40)
  F_least_power : At T "least_power" (top 41)
  F_two_numbers : At T "two_numbers" (top 42)
  F_lies78 : At T "lies_in" (top 43)
  F_way78 : At T "way" (top 44)
  F_moved78 : At T "moved" (top 46)
  F_road78 : At T "road" (top 49)
  F_sb78 : At T "spots_between" (top 50)
  F_turn78 : At T "turn_between" (top 51)
  F_along78 : At T "spot_along" (top 52)
  F_kind78 : At T "kind" (top 57)
  F_slide78 : At T "slide" (top 58)
  F_cell78 : At T "_law_cell" (top 60)
  F_wholeI : At T "_law_whole" (top 61)
  F_low78 : At T "_law_low" (top 62)
  F_pp78 : At T "_law_prime_power" (top 67)
  F_rest78 : At T "_law_rest" (top 68)
  F_prime78 : At T "_law_prime" (top 71)
  F_marks78 : At T "_law_marks" (top 72)
  F_told78 : At T "_law_told" (top 73)
  F_right78 : At T "_law_right" (top 74)
  g_TreeError : ∃ C, T.mg "TreeError" = some (.ref C)
  g_NoPrime : ∃ C, T.mg "NoPrime" = some (.ref C)
  g_NoFraction : ∃ C, T.mg "NoFraction" = some (.ref C)
  g_NoText : ∃ C, T.mg "NoText" = some (.ref C)
  g_NoSpot : ∃ C, T.mg "NoSpot" = some (.ref C)
  g_NoTable : ∃ C, T.mg "NoTable" = some (.ref C)
  g_TooMany : ∃ C, T.mg "TooMany" = some (.ref C)
  g_NoLine : ∃ C, T.mg "NoLine" = some (.ref C)
  g_NoRow : ∃ C, T.mg "NoRow" = some (.ref C)
  g_NothingDone : ∃ C, T.mg "NothingDone" = some (.ref C)
  g_TooFar : ∃ C, T.mg "TooFar" = some (.ref C)
  z_TooFar : ∃ C D fI fd, T.mg "TooFar" = some (.ref C) ∧ T.mg "TreeError" = some (.ref D) ∧ FarK T.K C D fI ∧ PySem.W.keepIn T.K (.ref C) = true ∧ Fun T.K "__init__" "TooFar.__init__" s_init fI fd
  e_TooFar : ∀ C, T.mg "TooFar" = some (.ref C) → ExcK T.K C
  v_TooFar : ∀ C, T.mg "TooFar" = some (.ref C) → PySem.W.kitOne T.K (.ref C) (.type "ValueError") = some true
  i_TooFar_TooFar : ∀ C C', T.mg "TooFar" = some (.ref C) → T.mg "TooFar" = some (.ref C') → PySem.W.kitOne T.K (.ref C) (.ref C') = some true
  i_TooFar_NoFraction : ∀ C C', T.mg "TooFar" = some (.ref C) → T.mg "NoFraction" = some (.ref C') → PySem.W.kitOne T.K (.ref C) (.ref C') = some false
  i_TooFar_NoLine : ∀ C C', T.mg "TooFar" = some (.ref C) → T.mg "NoLine" = some (.ref C') → PySem.W.kitOne T.K (.ref C) (.ref C') = some false
  i_TooFar_NoPrime : ∀ C C', T.mg "TooFar" = some (.ref C) → T.mg "NoPrime" = some (.ref C') → PySem.W.kitOne T.K (.ref C) (.ref C') = some false
  i_TooFar_NoRow : ∀ C C', T.mg "TooFar" = some (.ref C) → T.mg "NoRow" = some (.ref C') → PySem.W.kitOne T.K (.ref C) (.ref C') = some false
  i_TooFar_NoSpot : ∀ C C', T.mg "TooFar" = some (.ref C) → T.mg "NoSpot" = some (.ref C') → PySem.W.kitOne T.K (.ref C) (.ref C') = some false
  i_TooFar_NoTable : ∀ C C', T.mg "TooFar" = some (.ref C) → T.mg "NoTable" = some (.ref C') → PySem.W.kitOne T.K (.ref C) (.ref C') = some false
  i_TooFar_NoText : ∀ C C', T.mg "TooFar" = some (.ref C) → T.mg "NoText" = some (.ref C') → PySem.W.kitOne T.K (.ref C) (.ref C') = some false
  i_TooFar_NothingDone : ∀ C C', T.mg "TooFar" = some (.ref C) → T.mg "NothingDone" = some (.ref C') → PySem.W.kitOne T.K (.ref C) (.ref C') = some false
  i_TooFar_TooMany : ∀ C C', T.mg "TooFar" = some (.ref C) → T.mg "TooMany" = some (.ref C') → PySem.W.kitOne T.K (.ref C) (.ref C') = some false
  m_TooFar_TreeError : ∀ C C', T.mg "TooFar" = some (.ref C) → T.mg "TreeError" = some (.ref C') → PySem.W.exmOne T.K (.ref C) (.ref C') = some true
  k_FIRST : CstP T "FIRST" 0 0 1
  k_NOUGHT : CstT T "NOUGHT" [0, 1]
  k_ONE : CstT T "ONE" [1, 1]
  k_FURTHEST_WAY : CstI T "FURTHEST_WAY" 500
  k_KEEPS : CstS T "KEEPS" "keeps"
  k_TURNS : CstS T "TURNS" "turns"
  k_SLIDES : CstS T "SLIDES" "slides"
theorem sc_init : ScB ["self", "far"] ["self", "far"] ["TreeError"] (defScope s_init) := ⟨⟨rfl, rfl, rfl, by decide +kernel, rfl, by decide +kernel, by decide +kernel⟩, by decide +kernel, by decide +kernel⟩
theorem txt_far (n : Int) (h : n.natAbs ≤ 1000) : (Str.ofString (toString n)).length ≤ 100 := by
  have a : ∀ k : Fin 1001, (Str.ofString (toString (Int.ofNat k.val))).length ≤ 100 := by decide +kernel
  have b : ∀ k : Fin 1000, (Str.ofString (toString (Int.negSucc k.val))).length ≤ 100 := by decide +kernel
  cases n with
  | ofNat k => exact a ⟨k, by show k < 1001; have h : k ≤ 1000 := h; omega⟩
  | negSucc k => exact b ⟨k, by have h : k + 1 ≤ 1000 := h; omega⟩
theorem ok_init {T : Tx} (M : Mo T) : ∃ C D fI fd, T.mg "TooFar" = some (.ref C) ∧ FarK T.K C D fI ∧ PySem.W.keepIn T.K (.ref C) = true ∧ Binds T.K fd ["self", "far"] [] ∧ FnOk T.prog T.w T.K T.mg T.base CX0 1 fI fd ["self", "far"] (spI C 1000) := by
  obtain ⟨C, D, fI, fd, h1, h2, Z, hk, F⟩ := M.z_TooFar
  refine ⟨C, D, fI, fd, h1, Z, hk, F.binds fun _ _ _ _ _ _ us hl => match us, hl with | [_, _], _ => rfl, fn_init F sc_init fun Y S n hn => ?_⟩
  have hl := txt_far n hn
  have e1 : (Str.empty ++ Str.ofString "too far: ").length = 9 := by decide +kernel
  have e2 : ((Str.empty ++ Str.ofString "too far: ") ++ Str.ofString (toString n)).length = 9 + (Str.ofString (toString n)).length := by rw [PySem.Str.length_append, e1]
  exact pss_far S 0 Z h2 (ev_js (js_cons ev_str (by rw [e1]; decide) (js_cons (fv_int (ev_var S.toSe 1) (Nat.lt_of_le_of_lt (Nat.log2_le_self _) (by omega))) (by rw [e2]; omega) js_nil)) (by rw [e2]; omega)) rfl
abbrev s_shared : Stmt := top 13
theorem sc_shared : ScB ["one", "other", "left"] ["one", "other"] ["abs"] (defScope s_shared) := ⟨⟨rfl, rfl, rfl, by decide +kernel, rfl, by decide +kernel, by decide +kernel⟩, by decide +kernel, by decide +kernel⟩
theorem ok_shared {T : Tx} (M : Mo T) : FnD T 1 "shared" R_shared := by
  refine fn_D M.F_shared sc_shared (fun f fd F => F.binds fun _ _ _ _ _ _ us hl => match us, hl with | [_, _], _ => rfl) (by rintro _ _ ⟨a, b, rfl, rfl⟩; rfl) fun Y S Z ds d h => ?_
  have Se := S.toSe
  obtain ⟨a, b, rfl, rfl⟩ := h
  refine ss_while S (fun c => ∃ x y z, c = [.val (.int x), .val (.int y), z] ∧ Int.gcd x y = Int.gcd a b) (fun c => match c with | [_, .val (.int y), _] => y.natAbs | _ => 0) ⟨a, b, _, rfl, rfl⟩ ?_
  rintro _ ⟨x, y, z, rfl, hg⟩
  refine ⟨_, te_neI (ev_var Se 1) ev_int, fun h => ?_, fun h => ?_⟩
  · have h0 : y ≠ 0 := by simpa using h
    refine ss_set S 2 (ev_mod (ev_var Se 0) (ev_var Se 1) h0) ?_
    refine ss_set S 0 (ev_var Se 1) ?_
    refine ss_set S 1 (ev_var Se 2) ?_
    refine ss_nil ⟨⟨y, x.fmod y, _, rfl, ?_⟩, ?_⟩
    · rw [gcd_step]; exact hg
    · exact fmod_small x h0
  · have h0 : y = 0 := by simpa using h
    refine ss_ret (ev_abs Se 0 (ar_cons (ev_var Se 0) ar_nil) M.b_abs) ?_
    subst h0
    rw [Int.gcd_zero_right] at hg
    show D.int _ = D.int _
    rw [hg]
abbrev s_power_of : Stmt := top 14
theorem sc_power_of : ScB ["p", "n", "power"] ["p", "n"] [] (defScope s_power_of) := ⟨⟨rfl, rfl, rfl, by decide +kernel, rfl, by decide +kernel, by decide +kernel⟩, by decide +kernel, by decide +kernel⟩
theorem ok_power_of {T : Tx} (M : Mo T) : FnD T 1 "power_of" R_power_of := by
  refine fn_D M.F_power_of sc_power_of (fun f fd F => F.binds fun _ _ _ _ _ _ us hl => match us, hl with | [_, _], _ => rfl) (by rintro _ _ ⟨a, b, rfl, _, rfl⟩; rfl) fun Y S Z ds d h => ?_
  have Se := S.toSe
  obtain ⟨p, n, rfl, hp, rfl⟩ := h
  have p2 := hp.two_le
  refine ss_if (te_eqI (ev_var Se 1) ev_int) (fun h => ?_) (fun h => ss_nil ?_)
  · refine ss_ret ev_non ?_
    show D.non = _
    rw [if_pos (by simpa using h)]
  have h0 : ¬ n = 0 := by simpa using h
  rw [if_neg h0]
  refine ss_set S 2 ev_int ?_
  refine ss_while S (fun c => ∃ m w : Int, c = [.val (.int p), .val (.int m), .val (.int w)] ∧ m ≠ 0 ∧ (vp p n : Int) = w + (vp p m : Int)) (fun c => match c with | [_, .val (.int m), _] => m.natAbs | _ => 0) ⟨n, 0, rfl, h0, by omega⟩ ?_
  rintro _ ⟨m, w, rfl, hm, hv⟩
  refine ⟨_, te_eqI (ev_modP (ev_var Se 1) (ev_var Se 0) (by omega)) ev_int, fun h => ?_, fun h => ?_⟩
  · have h1 : m % p = 0 := by simpa using h
    have f := div_facts p2.1 hm h1
    have s := vp_step p2.1 hm h1
    refine ss_set S 1 (ev_fdivP (ev_var Se 1) (ev_var Se 0) (by omega) (Bd.of 8 (by omega) (by omega) (by decide +kernel))) ?_
    refine ss_set S 2 (ev_add (ev_var Se 2) ev_int) ?_
    exact ss_nil ⟨⟨m / p, w + 1, rfl, f.2.1, by omega⟩, f.2.2⟩
  · have h1 : ¬ m % p = 0 := by simpa using h
    have s := vp_zero h1
    refine ss_ret (ev_var Se 2) ?_
    show D.int _ = D.int _
    congr 1
    omega
abbrev s_raised : Stmt := top 15
theorem sc_raised : ScB ["p", "k", "product", "square"] ["p", "k"] [] (defScope s_raised) := ⟨⟨rfl, rfl, rfl, by decide +kernel, rfl, by decide +kernel, by decide +kernel⟩, by decide +kernel, by decide +kernel⟩
theorem ok_raised {T : Tx} (M : Mo T) : FnD T 1 "raised" R_raised := by
  refine fn_D M.F_raised sc_raised (fun f fd F => F.binds fun _ _ _ _ _ _ us hl => match us, hl with | [_, _], _ => rfl) (by rintro _ _ ⟨a, b, rfl, _, _, rfl⟩; rfl) fun Y S Z ds d h => ?_
  have Se := S.toSe
  obtain ⟨p, k, rfl, hp, hk, rfl⟩ := h
  have p2 := hp.two_le
  refine ss_set S 2 ev_int ?_
  refine ss_set S 3 (ev_var Se 0) ?_
  refine ss_while S (fun c => ∃ k' x y : Int, c = [.val (.int p), .val (.int k'), .val (.int x), .val (.int y)] ∧ k' ≤ k ∧ 1 ≤ x ∧ 1 ≤ y ∧ x * y ^ k'.toNat = p ^ k.toNat) (fun c => match c with | [_, .val (.int y), _, _] => y.toNat | _ => 0) ⟨_, _, _, rfl, Int.le_refl _, by decide, by omega, by rw [Int.one_mul]⟩ ?_
  rintro _ ⟨k', x, y, rfl, hk', hx, hy, he⟩
  refine ⟨_, te_gt (ev_var Se 1) ev_int, fun h => ?_, fun h => ?_⟩
  · have h0 : 0 < k' := by simpa using h
    have ok := sq_ok hp hx hy (show 1 ≤ k'.toNat by omega) (by omega) he
    have xy := le_mul_pos hx hy
    have yy := le_mul_pos hy hy
    refine ss_ifI S 2 (te_eqI (ev_modP (ev_var Se 1) ev_int (by decide)) ev_int) (fun _ => ev_mul (ev_var Se 2) (ev_var Se 3) ok.1) ?_
    refine ss_set S 3 (ev_mul (ev_var Se 3) (ev_var Se 3) ok.2) ?_
    refine ss_set S 1 (ev_fdivP (ev_var Se 1) ev_int (by decide) (by decide +kernel)) ?_
    refine ss_nil ⟨⟨k' / 2, _, y * y, rfl, by omega, ?_, by omega, ?_⟩, ?_⟩
    · split <;> omega
    · have e := sq_step he
      have e1 : (k' / 2).toNat = k'.toNat / 2 := by omega
      rw [e1, ← e]
      by_cases h2 : k' % 2 = 1
      · rw [if_pos (by simpa using h2), if_pos (show k'.toNat % 2 = 1 by omega)]
      · rw [if_neg (by simpa using h2), if_neg (show ¬ k'.toNat % 2 = 1 by omega)]
    · show (k' / 2).toNat < k'.toNat
      omega
  · have h0 : k'.toNat = 0 := by
      have : ¬ 0 < k' := by simpa using h
      omega
    refine ss_ret (ev_var Se 2) ?_
    rw [h0, Int.pow_zero, Int.mul_one] at he
    show D.int _ = D.int _
    rw [he]
abbrev s_obp : Stmt := top 17
theorem sc_obp : ScB ["p", "n", "answer"] ["p", "n"] [] (defScope s_obp) := ⟨⟨rfl, rfl, rfl, by decide +kernel, rfl, by decide +kernel, by decide +kernel⟩, by decide +kernel, by decide +kernel⟩
theorem ok_obp {T : Tx} (M : Mo T) : FnD T 1 "over_by_prime" R_obp := by
  refine fn_D M.F_obp sc_obp (fun f fd F => F.binds fun _ _ _ _ _ _ us hl => match us, hl with | [_, _], _ => rfl) (by rintro _ _ ⟨a, b, rfl, _, _, _, rfl⟩; rfl) fun Y S Z ds d h => ?_
  have Se := S.toSe
  obtain ⟨p, n, rfl, hp, hn, hb, rfl⟩ := h
  have p2 := hp.two_le
  refine ss_set S 2 ev_int ?_
  refine ss_while S (fun c => ∃ a : Int, c = [.val (.int p), .val (.int n), .val (.int a)] ∧ 1 ≤ a ∧ a ≤ p - 1 ∧ ∀ b, 1 ≤ b → b < a → n * b % p ≠ 1) (fun c => match c with | [_, _, .val (.int y)] => (p - y).toNat | _ => 0) ⟨1, rfl, by omega, by omega, fun b h1 h2 => by omega⟩ ?_
  rintro _ ⟨a, rfl, a1, a2, hs⟩
  refine ⟨_, (te_and (te_lt (ev_var Se 2) (ev_sub (ev_var Se 0) ev_int)) fun _ => te_and1 (te_neI (ev_modP (ev_mul (ev_var Se 1) (ev_var Se 2) (mulOk hb (Bd.of (n := 3) 8 (by omega) (by omega) (by decide)) (by decide))) (ev_var Se 0) (by omega)) ev_int)).pt, fun h => ?_, fun h => ?_⟩
  · have h' : a < p - 1 ∧ ¬ n * a % p = 1 := by simpa using h
    refine ss_set S 2 (ev_add (ev_var Se 2) ev_int) ?_
    refine ss_nil ⟨⟨a + 1, rfl, by omega, by omega, fun b h1 h2 => ?_⟩, ?_⟩
    · by_cases e : b = a
      · rw [e]; exact h'.2
      · exact hs b h1 (by omega)
    · show (p - (a + 1)).toNat < (p - a).toNat
      omega
  · have h' : ¬ a < p - 1 ∨ n * a % p = 1 := by
      by_cases z : a < p - 1
      · right
        simpa [z] using h
      · exact .inl z
    have e := inv_found hp hn a1 a2 hs h'
    refine ss_ret (ev_var Se 2) ?_
    show D.int _ = D.int _
    congr 1
    refine over_uniq (k := 1) ⟨by omega, by rw [Int.pow_one]; omega, ?_⟩ (overBy_is hp hn 1)
    rw [Int.pow_one]
    have := Int.emod_add_mul_ediv (n * a) p
    exact ⟨n * a / p, by omega⟩
abbrev s_over_by : Stmt := top 16
theorem sc_over_by : ScB ["p", "n", "k", "modulus", "answer", "settled"] ["p", "n", "k"] ["raised", "over_by_prime"] (defScope s_over_by) := ⟨⟨rfl, rfl, rfl, by decide +kernel, rfl, by decide +kernel, by decide +kernel⟩, by decide +kernel, by decide +kernel⟩
theorem ok_over_by {T : Tx} (M : Mo T) : FnD T 2 "over_by" R_over_by := by
  refine fn_D M.F_over_by sc_over_by (fun f fd F => F.binds fun _ _ _ _ _ _ us hl => match us, hl with | [_, _, _], _ => rfl) (by rintro _ _ ⟨a, b, c, rfl, _, _, _, _, _, rfl⟩; rfl) fun Y S Z ds d h => ?_
  have Se := S.toSe
  obtain ⟨p, n, k, rfl, hp, hn, k0, k1, hb, rfl⟩ := h
  have p2 := hp.two_le
  refine ss_if (te_eqI (ev_var Se 2) ev_int) (fun h => ?_) (fun h => ss_nil ?_)
  · have h0 : k = 0 := by simpa using h
    refine ss_ret ev_int ?_
    subst h0
    show D.int _ = D.int _
    congr 1
    exact over_uniq (k := 0) ⟨by omega, by rw [Int.pow_zero]; omega, by rw [Int.pow_zero]; exact Int.one_dvd _⟩ (overBy_is hp hn 0)
  have h0 : ¬ k = 0 := by simpa using h
  have pp := pw_pos hp k.toNat
  have pb := pw_bd hp k.toNat
  refine ss_set S 3 (ev_call Se 0 (ok_raised M) (by decide) (ar_cons (ev_var Se 0) (ar_cons (ev_var Se 2) ar_nil)) ⟨p, k, rfl, hp, k1, rfl⟩) ?_
  refine ss_set S 4 (ev_call Se 1 (ok_obp M) (by decide) (ar_cons (ev_var Se 0) (ar_cons (ev_var Se 1) ar_nil)) ⟨p, n, rfl, hp, hn, hb, rfl⟩) ?_
  refine ss_set S 5 ev_int ?_
  have i1 := overBy_is hp hn 1
  refine ss_while S (fun c => ∃ a s : Int, c = [.val (.int p), .val (.int n), .val (.int k), .val (.int (p ^ k.toNat)), .val (.int a), .val (.int s)] ∧ 0 ≤ a ∧ a < p ^ k.toNat ∧ 1 ≤ s ∧ p ^ (min s.toNat k.toNat) ∣ n * a - 1) (fun c => match c with | [_, _, _, _, _, .val (.int s)] => (k - s).toNat | _ => 0) ⟨_, 1, rfl, i1.1, ?_, by omega, ?_⟩ ?_
  · have := i1.2.1
    have q := le_self_pow (show 1 ≤ p by omega) (show 1 ≤ k.toNat by omega)
    rw [Int.pow_one] at this
    omega
  · rw [show min (1 : Int).toNat k.toNat = 1 by omega]
    exact i1.2.2
  rintro _ ⟨a, s, rfl, a0, a1, s1, hd⟩
  refine ⟨_, te_lt (ev_var Se 5) (ev_var Se 2), fun h => ?_, fun h => ?_⟩
  · have h' : s < k := by simpa using h
    have ba : Bd (3 * k.toNat + 1) a := Bd.of_le a0 (by omega) pb
    have bn := hb.mul ba
    have b2 := Bd.sub (n := 1000000 + (3 * k.toNat + 1)) (show Bd 2 2 by decide) bn
    refine ss_set S 4 (ev_modP (ev_mul (ev_var Se 4) (ev_sub ev_int (ev_mul (ev_var Se 1) (ev_var Se 4) (mulOk hb ba (by omega)))) (mulOk ba b2 (by omega))) (ev_var Se 3) pp) ?_
    refine ss_set S 5 (ev_mul ev_int (ev_var Se 5) (.of_left (intBits_le_64 (by decide) (by decide)))) ?_
    refine ss_nil ⟨⟨_, 2 * s, rfl, Int.emod_nonneg _ (by omega), Int.emod_lt_of_pos _ pp, by omega, ?_⟩, ?_⟩
    · have e := newton hd
      rw [show (2 * s).toNat = 2 * s.toNat by omega]
      exact e
    · show (k - 2 * s).toNat < (k - s).toNat
      omega
  · have h' : ¬ s < k := by simpa using h
    refine ss_ret (ev_var Se 4) ?_
    show D.int _ = D.int _
    congr 1
    rw [show min s.toNat k.toNat = k.toNat by omega] at hd
    exact over_uniq ⟨a0, a1, hd⟩ (overBy_is hp hn _)
abbrev s_fraction : Stmt := top 21
theorem sc_fraction : ScB ["top", "bottom", "factor"] ["top", "bottom"] ["shared", "NoFraction"] (defScope s_fraction) := ⟨⟨rfl, rfl, rfl, by decide +kernel, rfl, by decide +kernel, by decide +kernel⟩, by decide +kernel, by decide +kernel⟩
theorem okv_fraction {T : Tx} (M : Mo T) : FnD T 2 "fraction" R_low ∧ FnDd T 2 "fraction" 1 R_low := by
  refine fn_DV M.F_fraction sc_fraction (fun Td kV doc pm an cdv ct tk o n lt hs => ⟨fun s us X hl => match us, (show us.length = 2 by simpa using hl) with | [_, _], _ => PySem.W.binds_K X rfl lt hs rfl rfl, fun s us X hl => match us, (show us.length = 1 by simpa using hl) with | [_], _ => PySem.W.binds_K X rfl lt hs rfl rfl⟩) (by rintro _ _ ⟨a, b, rfl, _⟩; rfl) fun Y S Z ds d h => ?_
  have Se := S.toSe
  obtain ⟨t, b, rfl, h⟩ := h
  obtain ⟨hb, bb, rfl⟩ := h
  refine ss_if (te_eqI (ev_var Se 1) ev_int) (fun h => absurd (by simpa using h) hb) (fun _ => ss_nil ?_)
  refine ss_set S 2 (ev_call Se 0 (ok_shared M) (by decide) (ar_cons (ev_var Se 0) (ar_cons (ev_var Se 1) ar_nil)) ⟨_, _, rfl, rfl⟩) ?_
  refine ss_ifI S 2 (te_lt (ev_var Se 1) ev_int) (fun _ => ev_neg (ev_var Se 2)) ?_
  have q := low_bd (t := t) hb bb
  have l := low_num t hb
  have e : (if decide (b < 0) = true then -(Int.gcd t b : Int) else (Int.gcd t b : Int)) = (if b < 0 then -(Int.gcd t b : Int) else (Int.gcd t b : Int)) := by simp
  rw [e]
  refine ss_ret (ev_tup (ar_cons (ev_fdiv (ev_var Se 0) (ev_var Se 2) q.1 q.2) (ar_cons (ev_fdiv (ev_var Se 1) (ev_var Se 2) q.1 q.2) ar_nil))) ?_
  show D.tup _ = D.tup _
  rw [l.1, l.2]
theorem ok_fraction {T : Tx} (M : Mo T) : FnD T 2 "fraction" R_low := (okv_fraction M).1
theorem okd_fraction {T : Tx} (M : Mo T) : FnDd T 2 "fraction" 1 R_low := (okv_fraction M).2
abbrev s_plus : Stmt := top 22
theorem sc_plus : ScB ["a", "b"] ["a", "b"] ["fraction"] (defScope s_plus) := ⟨⟨rfl, rfl, rfl, by decide +kernel, rfl, by decide +kernel, by decide +kernel⟩, by decide +kernel, by decide +kernel⟩
theorem ok_plus {T : Tx} (M : Mo T) : FnD T 3 "plus" R_qadd := by
  refine fn_D M.F_plus sc_plus (fun f fd F => F.binds fun _ _ _ _ _ _ us hl => match us, hl with | [_, _], _ => rfl) (by rintro _ _ ⟨a, b, rfl, _, _, rfl⟩; rfl) fun Y S Z ds d h => ?_
  have Se := S.toSe
  obtain ⟨a, b, rfl, ha, hb, rfl⟩ := h
  rw [← rat_add a b]
  exact ss_ret (ev_call Se 0 (ok_fraction M) (by decide) (ar_cons (ev_add (ev_mul (ev_ixT (ev_var Se 0) ev_int rfl) (ev_ixT (ev_var Se 1) ev_int rfl) (mulOk ha.1 hb.2 (by decide))) (ev_mul (ev_ixT (ev_var Se 1) ev_int rfl) (ev_ixT (ev_var Se 0) ev_int rfl) (mulOk hb.1 ha.2 (by decide)))) (ar_cons (ev_mul (ev_ixT (ev_var Se 0) ev_int rfl) (ev_ixT (ev_var Se 1) ev_int rfl) (mulOk ha.2 hb.2 (by decide))) ar_nil)) ⟨_, _, rfl, Int.mul_ne_zero (den_ne a) (den_ne b), (ha.2.mul hb.2).mono (by decide), rfl⟩) rfl
abbrev s_minus : Stmt := top 23
theorem sc_minus : ScB ["a", "b"] ["a", "b"] ["fraction"] (defScope s_minus) := ⟨⟨rfl, rfl, rfl, by decide +kernel, rfl, by decide +kernel, by decide +kernel⟩, by decide +kernel, by decide +kernel⟩
theorem ok_minus {T : Tx} (M : Mo T) : FnD T 3 "minus" R_qsub := by
  refine fn_D M.F_minus sc_minus (fun f fd F => F.binds fun _ _ _ _ _ _ us hl => match us, hl with | [_, _], _ => rfl) (by rintro _ _ ⟨a, b, rfl, _, _, rfl⟩; rfl) fun Y S Z ds d h => ?_
  have Se := S.toSe
  obtain ⟨a, b, rfl, ha, hb, rfl⟩ := h
  rw [← rat_sub a b]
  exact ss_ret (ev_call Se 0 (ok_fraction M) (by decide) (ar_cons (ev_sub (ev_mul (ev_ixT (ev_var Se 0) ev_int rfl) (ev_ixT (ev_var Se 1) ev_int rfl) (mulOk ha.1 hb.2 (by decide))) (ev_mul (ev_ixT (ev_var Se 1) ev_int rfl) (ev_ixT (ev_var Se 0) ev_int rfl) (mulOk hb.1 ha.2 (by decide)))) (ar_cons (ev_mul (ev_ixT (ev_var Se 0) ev_int rfl) (ev_ixT (ev_var Se 1) ev_int rfl) (mulOk ha.2 hb.2 (by decide))) ar_nil)) ⟨_, _, rfl, Int.mul_ne_zero (den_ne a) (den_ne b), (ha.2.mul hb.2).mono (by decide), rfl⟩) rfl
abbrev s_times : Stmt := top 24
theorem sc_times : ScB ["a", "b"] ["a", "b"] ["fraction"] (defScope s_times) := ⟨⟨rfl, rfl, rfl, by decide +kernel, rfl, by decide +kernel, by decide +kernel⟩, by decide +kernel, by decide +kernel⟩
theorem ok_times {T : Tx} (M : Mo T) : FnD T 3 "times" R_qmul := by
  refine fn_D M.F_times sc_times (fun f fd F => F.binds fun _ _ _ _ _ _ us hl => match us, hl with | [_, _], _ => rfl) (by rintro _ _ ⟨a, b, rfl, _, _, rfl⟩; rfl) fun Y S Z ds d h => ?_
  have Se := S.toSe
  obtain ⟨a, b, rfl, ha, hb, rfl⟩ := h
  rw [← rat_mul a b]
  exact ss_ret (ev_call Se 0 (ok_fraction M) (by decide) (ar_cons (ev_mul (ev_ixT (ev_var Se 0) ev_int rfl) (ev_ixT (ev_var Se 1) ev_int rfl) (mulOk ha.1 hb.1 (by decide))) (ar_cons (ev_mul (ev_ixT (ev_var Se 0) ev_int rfl) (ev_ixT (ev_var Se 1) ev_int rfl) (mulOk ha.2 hb.2 (by decide))) ar_nil)) ⟨_, _, rfl, Int.mul_ne_zero (den_ne a) (den_ne b), (ha.2.mul hb.2).mono (by decide), rfl⟩) rfl
abbrev s_over : Stmt := top 25
theorem sc_over : ScB ["a", "b"] ["a", "b"] ["fraction"] (defScope s_over) := ⟨⟨rfl, rfl, rfl, by decide +kernel, rfl, by decide +kernel, by decide +kernel⟩, by decide +kernel, by decide +kernel⟩
theorem ok_over {T : Tx} (M : Mo T) : FnD T 3 "over" R_overD := by
  refine fn_D M.F_over sc_over (fun f fd F => F.binds fun _ _ _ _ _ _ us hl => match us, hl with | [_, _], _ => rfl) (by rintro _ _ ⟨a, b, rfl, _⟩; rfl) fun Y S Z ds d h => ?_
  have Se := S.toSe
  obtain ⟨a, b, rfl, ha, hb, h⟩ := h
  obtain ⟨h0, rfl⟩ := h
  exact ss_ret (ev_call Se 0 (ok_fraction M) (by decide) (ar_cons (ev_mul (ev_ixT (ev_var Se 0) ev_int rfl) (ev_ixT (ev_var Se 1) ev_int rfl) (mulOk ha.1 hb.2 (by decide))) (ar_cons (ev_mul (ev_ixT (ev_var Se 0) ev_int rfl) (ev_ixT (ev_var Se 1) ev_int rfl) (mulOk ha.2 hb.1 (by decide))) ar_nil)) ⟨_, _, rfl, ⟨Int.mul_ne_zero (den_ne a) h0, (ha.2.mul hb.1).mono (by decide), rfl⟩⟩) rfl
abbrev s_power_in : Stmt := top 26
theorem sc_power_in : ScB ["p", "a"] ["p", "a"] ["power_of"] (defScope s_power_in) := ⟨⟨rfl, rfl, rfl, by decide +kernel, rfl, by decide +kernel, by decide +kernel⟩, by decide +kernel, by decide +kernel⟩
theorem ok_power_in {T : Tx} (M : Mo T) : FnD T 2 "power_in" R_power_in := by
  refine fn_D M.F_power_in sc_power_in (fun f fd F => F.binds fun _ _ _ _ _ _ us hl => match us, hl with | [_, _], _ => rfl) (by rintro _ _ ⟨a, b, rfl, _, rfl⟩; rfl) fun Y S Z ds d h => ?_
  have Se := S.toSe
  obtain ⟨p, a, rfl, hp, rfl⟩ := h
  refine ss_if (te_eqI (ev_ixT (ev_var Se 1) ev_int rfl) ev_int) (fun h => ?_) (fun h => ss_nil ?_)
  · refine ss_ret ev_non ?_
    show D.non = _
    unfold vq
    rw [if_pos (by simpa using h)]
    rfl
  have h0 : ¬ a.num = 0 := by simpa using h
  refine ss_ret (ev_sub (ev_call Se 0 (ok_power_of M) (by decide) (ar_cons (ev_var Se 0) (ar_cons (ev_ixT (ev_var Se 1) ev_int rfl) ar_nil)) ⟨p, _, rfl, hp, (if_neg h0).symm⟩) (ev_call Se 0 (ok_power_of M) (by decide) (ar_cons (ev_var Se 0) (ar_cons (ev_ixT (ev_var Se 1) ev_int rfl) ar_nil)) ⟨p, _, rfl, hp, (if_neg (den_ne a)).symm⟩)) ?_
  show D.int _ = _
  unfold vq
  rw [if_neg h0]
  rfl
abbrev s_prime_power : Stmt := top 27
theorem sc_prime_power : ScB ["p", "k"] ["p", "k"] ["raised"] (defScope s_prime_power) := ⟨⟨rfl, rfl, rfl, by decide +kernel, rfl, by decide +kernel, by decide +kernel⟩, by decide +kernel, by decide +kernel⟩
theorem ok_prime_power {T : Tx} (M : Mo T) : FnD T 2 "prime_power" R_ppw := by
  refine fn_D M.F_prime_power sc_prime_power (fun f fd F => F.binds fun _ _ _ _ _ _ us hl => match us, hl with | [_, _], _ => rfl) (by rintro _ _ ⟨a, b, rfl, _, _, _, rfl⟩; rfl) fun Y S Z ds d h => ?_
  have Se := S.toSe
  obtain ⟨p, k, rfl, hp, k0, k1, rfl⟩ := h
  have p2 := hp.two_le
  refine ss_if (te_lt (ev_var Se 1) ev_int) (fun h => ?_) (fun h => ss_nil ?_)
  · have h0 : k < 0 := by simpa using h
    have q := ppw_neg (p := p) (by omega) h0
    refine ss_ret (ev_tup (ar_cons ev_int (ar_cons (ev_call Se 0 (ok_raised M) (by decide) (ar_cons (ev_var Se 0) (ar_cons (ev_neg (ev_var Se 1)) ar_nil)) ⟨p, -k, rfl, hp, by omega, rfl⟩) ar_nil))) ?_
    show D.tup _ = D.tup _
    rw [q.1, q.2]
  · have h0 : ¬ k < 0 := by simpa using h
    have q := ppw_nn (p := p) (k := k) (by omega)
    refine ss_ret (ev_tup (ar_cons (ev_call Se 0 (ok_raised M) (by decide) (ar_cons (ev_var Se 0) (ar_cons (ev_var Se 1) ar_nil)) ⟨p, k, rfl, hp, by omega, rfl⟩) (ar_cons ev_int ar_nil))) ?_
    show D.tup _ = D.tup _
    rw [q.1, q.2]
    rfl
abbrev s_rest_byN : Stmt := top 28
theorem sc_rest_byN : ScB ["p", "k", "a", "sunk", "settled", "scale", "whole"] ["p", "k", "a"] ["power_of", "NOUGHT", "raised", "fraction", "over_by"] (defScope s_rest_byN) := ⟨⟨rfl, rfl, rfl, by decide +kernel, rfl, by decide +kernel, by decide +kernel⟩, by decide +kernel, by decide +kernel⟩
theorem ok_rest_byN {T : Tx} (M : Mo T) : FnD T 3 "rest_by" R_rest := by
  refine fn_D M.F_rest_byN sc_rest_byN (fun f fd F => F.binds fun _ _ _ _ _ _ us hl => match us, hl with | [_, _, _], _ => rfl) (by rintro _ _ ⟨_, _, _, rfl, _, _, _, _, rfl⟩; rfl) fun Y S Z ds d h => ?_
  have Se := S.toSe
  obtain ⟨p, k, a, rfl, hp, k1, k0, ha, rfl⟩ := h
  have p2 := hp.two_le
  have hv := vp_le hp (den_ne a) ha.2
  obtain ⟨u, hu, up⟩ := vp_ex hp (den_ne a)
  refine ss_set S 3 (ev_call Se 0 (ok_power_of M) (by decide) (ar_cons (ev_var Se 0) (ar_cons (ev_ixT (ev_var Se 2) ev_int rfl) ar_nil)) ⟨p, _, rfl, hp, (if_neg (den_ne a)).symm⟩) ?_
  refine ss_set S 4 (ev_add (ev_var Se 1) (ev_var Se 3)) ?_
  unfold restQ
  generalize vp p a.den = e at *
  refine ss_if (te_le (ev_var Se 4) ev_int) (fun h => ?_) (fun h => ss_nil ?_)
  · have h0 : k + (e : Int) ≤ 0 := by simpa using h
    rw [if_pos h0]
    exact ss_ret (ev_cstT Se.toSn 1 M.k_NOUGHT) rfl
  have h0 : ¬ k + (e : Int) ≤ 0 := by simpa using h
  rw [if_neg h0]
  have pe := pw_pos hp e
  have bpe : Bd 4400 (p ^ e) := by
    refine Bd.of_le (by omega) (?_ : p ^ e ≤ (a.den : Int)) ha.2
    have := den_pos a
    exact Int.le_of_dvd this ⟨u, hu⟩
  have hdiv : (a.den : Int) / p ^ e = u := by rw [hu]; exact Int.mul_ediv_cancel_left u (by omega)
  have bu : Bd 4400 u := by
    have q := ha.2
    rw [hu] at q
    unfold Bd at *
    rw [Int.natAbs_mul] at q
    have : 1 * u.natAbs ≤ (p ^ e).natAbs * u.natAbs := Nat.mul_le_mul_right _ (by omega)
    omega
  refine ss_set S 5 (ev_call Se 2 (ok_raised M) (by decide) (ar_cons (ev_var Se 0) (ar_cons (ev_var Se 3) ar_nil)) ⟨p, (e : Int), rfl, hp, by omega, by rw [Int.toNat_natCast]⟩) ?_
  rw [hdiv]
  have ov := overBy_is hp up (k + (e : Int)).toNat
  have pk := pw_pos hp (k + (e : Int)).toNat
  have bk := pw_bd hp (k + (e : Int)).toNat
  refine ss_set S 6 (ev_modP (ev_mul (ev_ixT (ev_var Se 2) ev_int rfl) (ev_call Se 4 (ok_over_by M) (by decide) (ar_cons (ev_var Se 0) (ar_cons (ev_fdivP (ev_ixT (ev_var Se 2) ev_int rfl) (ev_var Se 5) pe (bpe.mono (by decide))) (ar_cons (ev_var Se 4) ar_nil))) ⟨p, u, k + (e : Int), by rw [hdiv], hp, up, by omega, by omega, bu.mono (by decide), rfl⟩) (mulOk ha.1 (Bd.of_le ov.1 (Int.le_of_lt ov.2.1) bk) (by omega))) (ev_call Se 2 (ok_raised M) (by decide) (ar_cons (ev_var Se 0) (ar_cons (ev_var Se 4) ar_nil)) ⟨p, k + (e : Int), rfl, hp, by omega, rfl⟩) pk) ?_
  exact ss_ret (ev_call Se 3 (ok_fraction M) (by decide) (ar_cons (ev_var Se 6) (ar_cons (ev_var Se 5) ar_nil)) ⟨_, _, rfl, by omega, bpe.mono (by decide), rfl⟩) rfl
abbrev s_measure : Stmt := top 30
theorem sc_measure : ScB ["table"] ["table"] ["minus", "times"] (defScope s_measure) := ⟨⟨rfl, rfl, rfl, by decide +kernel, rfl, by decide +kernel, by decide +kernel⟩, by decide +kernel, by decide +kernel⟩
theorem ok_measure {T : Tx} (M : Mo T) : FnD T 4 "measure" R_measure := by
  refine fn_D M.F_measure sc_measure (fun f fd F => F.binds fun _ _ _ _ _ _ us hl => match us, hl with | [_], _ => rfl) (by rintro _ _ ⟨_, rfl, _, rfl⟩; rfl) fun Y S Z ds d h => ?_
  have Se := S.toSe
  obtain ⟨t, rfl, hm, rfl⟩ := h
  exact ss_ret (ev_call Se 0 (ok_minus M) (by decide) (ar_cons (ev_call Se 1 (ok_times M) (by decide) (ar_cons (ev_ixT (ev_var Se 0) ev_int rfl) (ar_cons (ev_ixT (ev_var Se 0) ev_int rfl) ar_nil)) ⟨t.a, t.d, rfl, hm.ht.a, hm.ht.d, rfl⟩) (ar_cons (ev_call Se 1 (ok_times M) (by decide) (ar_cons (ev_ixT (ev_var Se 0) ev_int rfl) (ar_cons (ev_ixT (ev_var Se 0) ev_int rfl) ar_nil)) ⟨t.b, t.c, rfl, hm.ht.b, hm.ht.c, rfl⟩) ar_nil)) ⟨_, _, rfl, hm.ad, hm.bc, rfl⟩) rfl
abbrev s_trace : Stmt := top 31
theorem sc_trace : ScB ["table"] ["table"] ["plus"] (defScope s_trace) := ⟨⟨rfl, rfl, rfl, by decide +kernel, rfl, by decide +kernel, by decide +kernel⟩, by decide +kernel, by decide +kernel⟩
theorem ok_trace {T : Tx} (M : Mo T) : FnD T 4 "trace" R_trace := by
  refine fn_D M.F_trace sc_trace (fun f fd F => F.binds fun _ _ _ _ _ _ us hl => match us, hl with | [_], _ => rfl) (by rintro _ _ ⟨_, rfl, _, rfl⟩; rfl) fun Y S Z ds d h => ?_
  have Se := S.toSe
  obtain ⟨t, rfl, ht, rfl⟩ := h
  exact ss_ret (ev_call Se 0 (ok_plus M) (by decide) (ar_cons (ev_ixT (ev_var Se 0) ev_int rfl) (ar_cons (ev_ixT (ev_var Se 0) ev_int rfl) ar_nil)) ⟨t.a, t.d, rfl, ht.a, ht.d, rfl⟩) rfl
abbrev s_row_by_column : Stmt := top 33
theorem sc_row_by_column : ScB ["row", "column"] ["row", "column"] ["plus", "times"] (defScope s_row_by_column) := ⟨⟨rfl, rfl, rfl, by decide +kernel, rfl, by decide +kernel, by decide +kernel⟩, by decide +kernel, by decide +kernel⟩
theorem ok_row_by_column {T : Tx} (M : Mo T) : FnD T 4 "row_by_column" R_rowcol := by
  refine fn_D M.F_row_by_column sc_row_by_column (fun f fd F => F.binds fun _ _ _ _ _ _ us hl => match us, hl with | [_, _], _ => rfl) (by rintro _ _ ⟨_, _, _, _, rfl, _, _, _, _, _, _, rfl⟩; rfl) fun Y S Z ds d h => ?_
  have Se := S.toSe
  obtain ⟨a, b, c, e, rfl, ha, hb, hc, he, h1, h2, rfl⟩ := h
  exact ss_ret (ev_call Se 0 (ok_plus M) (by decide) (ar_cons (ev_call Se 1 (ok_times M) (by decide) (ar_cons (ev_ixT (ev_var Se 0) ev_int rfl) (ar_cons (ev_ixT (ev_var Se 1) ev_int rfl) ar_nil)) ⟨a, c, rfl, ha, hc, rfl⟩) (ar_cons (ev_call Se 1 (ok_times M) (by decide) (ar_cons (ev_ixT (ev_var Se 0) ev_int rfl) (ar_cons (ev_ixT (ev_var Se 1) ev_int rfl) ar_nil)) ⟨b, e, rfl, hb, he, rfl⟩) ar_nil)) ⟨_, _, rfl, h1, h2, rfl⟩) rfl
abbrev s_product : Stmt := top 32
theorem sc_product : ScB ["one", "other", "left", "right", "upper", "lower"] ["one", "other"] ["row_by_column"] (defScope s_product) := ⟨⟨rfl, rfl, rfl, by decide +kernel, rfl, by decide +kernel, by decide +kernel⟩, by decide +kernel, by decide +kernel⟩
theorem ok_product {T : Tx} (M : Mo T) : FnD T 5 "product" R_product := by
  refine fn_D M.F_product sc_product (fun f fd F => F.binds fun _ _ _ _ _ _ us hl => match us, hl with | [_, _], _ => rfl) (by rintro _ _ ⟨_, _, rfl, _, rfl⟩; rfl) fun Y S Z ds d h => ?_
  have Se := S.toSe
  obtain ⟨s, t, rfl, hp, rfl⟩ := h
  refine ss_set S 2 (ev_tup (ar_cons (ev_ixT (ev_var Se 1) ev_int rfl) (ar_cons (ev_ixT (ev_var Se 1) ev_int rfl) ar_nil))) ?_
  refine ss_set S 3 (ev_tup (ar_cons (ev_ixT (ev_var Se 1) ev_int rfl) (ar_cons (ev_ixT (ev_var Se 1) ev_int rfl) ar_nil))) ?_
  refine ss_set S 4 (ev_tup (ar_cons (ev_ixT (ev_var Se 0) ev_int rfl) (ar_cons (ev_ixT (ev_var Se 0) ev_int rfl) ar_nil))) ?_
  refine ss_set S 5 (ev_tup (ar_cons (ev_ixT (ev_var Se 0) ev_int rfl) (ar_cons (ev_ixT (ev_var Se 0) ev_int rfl) ar_nil))) ?_
  exact ss_ret (ev_tup (ar_cons (ev_call Se 0 (ok_row_by_column M) (by decide) (ar_cons (ev_var Se 4) (ar_cons (ev_var Se 2) ar_nil)) ⟨s.a, s.b, t.a, t.c, rfl, hp.hs.a, hp.hs.b, hp.ht.a, hp.ht.c, hp.aa, hp.bc, rfl⟩) (ar_cons (ev_call Se 0 (ok_row_by_column M) (by decide) (ar_cons (ev_var Se 4) (ar_cons (ev_var Se 3) ar_nil)) ⟨s.a, s.b, t.b, t.d, rfl, hp.hs.a, hp.hs.b, hp.ht.b, hp.ht.d, hp.ab, hp.bd, rfl⟩) (ar_cons (ev_call Se 0 (ok_row_by_column M) (by decide) (ar_cons (ev_var Se 5) (ar_cons (ev_var Se 2) ar_nil)) ⟨s.c, s.d, t.a, t.c, rfl, hp.hs.c, hp.hs.d, hp.ht.a, hp.ht.c, hp.ca, hp.dc, rfl⟩) (ar_cons (ev_call Se 0 (ok_row_by_column M) (by decide) (ar_cons (ev_var Se 5) (ar_cons (ev_var Se 3) ar_nil)) ⟨s.c, s.d, t.b, t.d, rfl, hp.hs.c, hp.hs.d, hp.ht.b, hp.ht.d, hp.cb, hp.dd, rfl⟩) ar_nil))))) rfl
abbrev s_stretched : Stmt := top 35
theorem sc_stretched : ScB ["table", "a"] ["table", "a"] ["NOUGHT", "NoTable", "times"] (defScope s_stretched) := ⟨⟨rfl, rfl, rfl, by decide +kernel, rfl, by decide +kernel, by decide +kernel⟩, by decide +kernel, by decide +kernel⟩
theorem ok_stretched {T : Tx} (M : Mo T) : FnD T 4 "stretched" R_stretchedD := by
  refine fn_D M.F_stretched sc_stretched (fun f fd F => F.binds fun _ _ _ _ _ _ us hl => match us, hl with | [_, _], _ => rfl) (by rintro _ _ ⟨_, _, rfl, _⟩; rfl) fun Y S Z ds d h => ?_
  have Se := S.toSe
  obtain ⟨t, q, rfl, ht, hq, h⟩ := h
  have e0 : eqD (frD q) (.tup ([0, 1].map D.int)) = decide (q = 0) := eqD_fq q 0

  obtain ⟨h0, rfl⟩ := h
  refine ss_if (te_eqD Se (ev_var Se 1) (ev_cstT Se.toSn 0 M.k_NOUGHT)) (fun h => absurd (by rw [e0] at h; simpa using h) h0) (fun _ => ss_nil ?_)
  exact ss_ret (ev_tup (ar_cons (ev_call Se 2 (ok_times M) (by decide) (ar_cons (ev_ixT (ev_var Se 0) ev_int rfl) (ar_cons (ev_var Se 1) ar_nil)) ⟨t.a, q, rfl, ht.a, hq, rfl⟩) (ar_cons (ev_call Se 2 (ok_times M) (by decide) (ar_cons (ev_ixT (ev_var Se 0) ev_int rfl) (ar_cons (ev_var Se 1) ar_nil)) ⟨t.b, q, rfl, ht.b, hq, rfl⟩) (ar_cons (ev_call Se 2 (ok_times M) (by decide) (ar_cons (ev_ixT (ev_var Se 0) ev_int rfl) (ar_cons (ev_var Se 1) ar_nil)) ⟨t.c, q, rfl, ht.c, hq, rfl⟩) (ar_cons (ev_call Se 2 (ok_times M) (by decide) (ar_cons (ev_ixT (ev_var Se 0) ev_int rfl) (ar_cons (ev_var Se 1) ar_nil)) ⟨t.d, q, rfl, ht.d, hq, rfl⟩) ar_nil))))) rfl
abbrev s_turned_over : Stmt := top 34
theorem sc_turned_over : ScB ["table", "swapped"] ["table"] ["stretched", "minus", "NOUGHT", "over", "ONE", "measure"] (defScope s_turned_over) := ⟨⟨rfl, rfl, rfl, by decide +kernel, rfl, by decide +kernel, by decide +kernel⟩, by decide +kernel, by decide +kernel⟩
theorem ok_turned_over {T : Tx} (M : Mo T) : FnD T 5 "turned_over" R_turned := by
  refine fn_D M.F_turned_over sc_turned_over (fun f fd F => F.binds fun _ _ _ _ _ _ us hl => match us, hl with | [_], _ => rfl) (by rintro _ _ ⟨_, rfl, _, _, _, rfl⟩; rfl) fun Y S Z ds d h => ?_
  have Se := S.toSe
  obtain ⟨t, rfl, hm, h0, hd, rfl⟩ := h
  have z4 : Fb 4400 0 := fb_zero.mono (by decide)
  have o4 : Fb 4400 1 := fb_one.mono (by decide)
  have n0 : t.det.num ≠ 0 := fun z => h0 (Rat.num_eq_zero.mp z)
  refine ss_set S 1 (ev_tup (ar_cons (ev_ixT (ev_var Se 0) ev_int rfl) (ar_cons (ev_call Se 1 (ok_minus M) (by decide) (ar_cons (ev_cstT Se.toSn 2 M.k_NOUGHT) (ar_cons (ev_ixT (ev_var Se 0) ev_int rfl) ar_nil)) ⟨0, t.b, rfl, z4, hm.ht.b, rfl⟩) (ar_cons (ev_call Se 1 (ok_minus M) (by decide) (ar_cons (ev_cstT Se.toSn 2 M.k_NOUGHT) (ar_cons (ev_ixT (ev_var Se 0) ev_int rfl) ar_nil)) ⟨0, t.c, rfl, z4, hm.ht.c, rfl⟩) (ar_cons (ev_ixT (ev_var Se 0) ev_int rfl) ar_nil))))) ?_
  refine ss_ret (ev_call Se 0 (ok_stretched M) (by decide) (ar_cons (ev_var Se 1) (ar_cons (ev_call Se 3 (ok_over M) (by decide) (ar_cons (ev_cstT Se.toSn 4 M.k_ONE) (ar_cons (ev_call Se 5 (ok_measure M) (by decide) (ar_cons (ev_var Se 0) ar_nil) ⟨t, rfl, hm, rfl⟩) ar_nil)) ⟨1, t.det, rfl, o4, hd, ⟨n0, rfl⟩⟩) ar_nil)) ⟨t.turn, t.det⁻¹, ?e, hm.ht.turn, hd.inv h0, ⟨inv_ne h0, rfl⟩⟩) rfl
  case e => rw [over_one h0]; rfl
abbrev s_least_power : Stmt := top 41
theorem sc_least_power : ScB ["p", "numbers"] ["p", "numbers"] ["min"] (defScope s_least_power) := ⟨⟨rfl, rfl, rfl, by decide +kernel, rfl, by decide +kernel, by decide +kernel⟩, by decide +kernel, by decide +kernel⟩
theorem ok_least_power {T : Tx} (M : Mo T) : FnD T 3 "least_power" R_least := by
  refine fn_D M.F_least_power sc_least_power (fun f fd F => F.binds fun _ _ _ _ _ _ us hl => match us, hl with | [_, _], _ => rfl) (by rintro _ _ ⟨_, _, rfl, _, _, _, rfl⟩; rfl) fun Y S Z ds d h => ?_
  have Se := S.toSe
  obtain ⟨p, rs, rfl, hp, hl10, ⟨r0, hr0, hn0⟩, rfl⟩ := h
  have e : (rs.map fun r => (vq p r).map D.int).filterMap id = (rs.filterMap (vq p)).map D.int := by
    rw [List.filterMap_map, List.map_filterMap]
    rfl
  obtain ⟨i, l, hil⟩ : ∃ i l, rs.filterMap (vq p) = i :: l := by
    cases h : rs.filterMap (vq p) with
    | nil => exact absurd (vq_none.mp (List.filterMap_eq_nil_iff.mp h r0 hr0)) hn0
    | cons i l => exact ⟨i, l, rfl⟩
  have hd0 : leastV p rs = l.foldl min i := by unfold leastV; rw [hil]
  rw [hd0]
  rw [hil] at e
  refine ss_ret (ev_minL Se 0 (ar_cons (ev_lto (ev_comp (tn := ["a"]) (fs := ["p"]) (ix := [0]) (G' := ["power_in", "NOUGHT"]) Se Z.sc ?B (it_tup (ev_var Se 1)) (rs.map fun r => (vq p r).map D.int) (by simp) (by rw [List.length_map]; omega) ?T) e) ar_nil) M.b_min) rfl
  case B => exact ⟨rfl, rfl, by decide +kernel, by decide +kernel, by decide +kernel, by decide +kernel, by decide +kernel, by decide +kernel, rfl, by decide +kernel⟩
  case T =>
    intro Y' S' hl m d r hd hr ts hts
    obtain ⟨t1, rfl⟩ : ∃ t1, ts = [t1] := List.length_eq_one_iff.mp hts
    rw [List.getElem?_map] at hd hr
    cases hq : rs[m]? with
    | none => rw [hq] at hd; cases hd
    | some q =>
      rw [hq] at hd hr
      cases hd
      have hr2 : (vq p q).map D.int = r := by simpa using hr
      have e0 : eqD (frD q) (.tup ([0, 1].map D.int)) = decide (q = 0) := eqD_fq q 0
      cases hv : vq p q with
      | none =>
        rw [hv] at hr2
        subst hr2
        refine ⟨[.val (frD q)], rfl, rfl, tg_name0 S'.toSn 0 (.inr (hl _ (by simp))), ?_⟩
        have h2 : (!eqD (frD q) (.tup ([0, 1].map D.int))) = false := by rw [e0, vq_none.mp hv]; simp
        show TeD Y' _ _ false
        rw [← h2]
        exact te_neD S' (ev_var S' 0) (ev_cstT S'.toSn 1 M.k_NOUGHT)
      | some v =>
        rw [hv] at hr2
        subst hr2
        refine ⟨[.val (frD q)], rfl, rfl, tg_name0 S'.toSn 0 (.inr (hl _ (by simp))), ?_, ?_⟩
        · have h2 : (!eqD (frD q) (.tup ([0, 1].map D.int))) = true := by
            rw [e0]
            have : q ≠ 0 := fun z => by rw [vq_none.mpr z] at hv; cases hv
            simp [this]
          show TeD Y' _ _ true
          rw [← h2]
          exact te_neD S' (ev_var S' 0) (ev_cstT S'.toSn 1 M.k_NOUGHT)
        · exact ev_call S' 0 (ok_power_in M) (by decide) (ar_cons (ev_var S' 1) (ar_cons (ev_var S' 0) ar_nil)) ⟨p, q, rfl, hp, by rw [hv]; rfl⟩
abbrev s_spot_of : Stmt := top 38
theorem sc_spot_of : ScB ["p", "table", "least", "k"] ["p", "table"] ["least_power", "power_in", "rest_by", "measure", "over"] (defScope s_spot_of) := ⟨⟨rfl, rfl, rfl, by decide +kernel, rfl, by decide +kernel, by decide +kernel⟩, by decide +kernel, by decide +kernel⟩
theorem ok_spot_of {T : Tx} (M : Mo T) : FnD T 5 "spot_of" R_spotof := by
  refine fn_D M.F_spot_of sc_spot_of (fun f fd F => F.binds fun _ _ _ _ _ _ us hl => match us, hl with | [_, _], _ => rfl) (by rintro _ _ ⟨_, _, _, rfl, _⟩; rfl) fun Y S Z ds d h => ?_
  have Se := S.toSe
  obtain ⟨p, t, v, rfl, hp, hm, hv, k0, k1, hc, hd, rfl⟩ := h
  refine ss_set S 2 (ev_call Se 0 (ok_least_power M) (by decide) (ar_cons (ev_var Se 0) (ar_consT (ev_tup (ar_cons (ev_ixT (ev_var Se 1) ev_int rfl) (ar_cons (ev_ixT (ev_var Se 1) ev_int rfl) ar_nil))) ar_nil)) ⟨p, [t.c, t.d], rfl, hp, by simp, det_of2 hv, rfl⟩) ?_
  refine ss_set S 3 (ev_sub (i := v) (ev_call Se 1 (ok_power_in M) (by decide) (ar_cons (ev_var Se 0) (ar_cons (ev_call Se 3 (ok_measure M) (by decide) (ar_cons (ev_var Se 1) ar_nil) ⟨t, rfl, hm, rfl⟩) ar_nil)) ⟨p, t.det, rfl, hp, by rw [hv]; rfl⟩) (ev_mul ev_int (ev_var Se 2) (.of_left (intBits_le_64 (by decide) (by decide))))) ?_
  cases ec : vq p t.c with
  | none =>
    have hn : ¬ (none : Option Int) = some (leastV p [t.c, t.d]) := fun z => nomatch z
    have hd' := hd (by rw [ec]; exact hn)
    have nn : t.d.num ≠ 0 := fun z => hd'.1 (Rat.num_eq_zero.mp z)
    rw [if_neg hn]
    refine ss_if (te_eqD Se (d1 := .non) (ev_call Se 1 (ok_power_in M) (by decide) (ar_cons (ev_var Se 0) (ar_cons (ev_ixT (ev_var Se 1) ev_int rfl) ar_nil)) ⟨p, t.c, rfl, hp, by rw [ec]; rfl⟩) (ev_var Se 2)) (fun h => ?_) (fun _ => ss_nil ?_)
    · exact absurd h (by simp [eqD, toPy, PyData.eqv])
    exact ss_ret (ev_tup (ar_cons (ev_var Se 3) (ar_cons (ev_call Se 2 (ok_rest_byN M) (by decide) (ar_cons (ev_var Se 0) (ar_cons (ev_var Se 3) (ar_cons (ev_call Se 4 (ok_over M) (by decide) (ar_cons (ev_ixT (ev_var Se 1) ev_int rfl) (ar_cons (ev_ixT (ev_var Se 1) ev_int rfl) ar_nil)) ⟨_, _, rfl, hm.ht.b, hm.ht.d, ⟨nn, rfl⟩⟩) ar_nil))) ⟨p, v - 2 * leastV p [t.c, t.d], t.b * t.d⁻¹, by rw [over_eq _ hd'.1], hp, k1, k0, hd'.2, rfl⟩) ar_nil))) rfl
  | some w =>
    have ee : eqD (.int w) (.int (leastV p [t.c, t.d])) = decide (w = leastV p [t.c, t.d]) := by
      show (w == leastV p [t.c, t.d]) = _
      by_cases z : w = leastV p [t.c, t.d] <;> simp [z]
    refine ss_if (te_eqD Se (d1 := .int w) (ev_call Se 1 (ok_power_in M) (by decide) (ar_cons (ev_var Se 0) (ar_cons (ev_ixT (ev_var Se 1) ev_int rfl) ar_nil)) ⟨p, t.c, rfl, hp, by rw [ec]; rfl⟩) (ev_var Se 2)) (fun h => ?_) (fun h => ss_nil ?_)
    · rw [ee] at h
      have hw : w = leastV p [t.c, t.d] := of_decide_eq_true h
      have hc' := hc (by rw [ec, hw])
      have c0 : t.c ≠ 0 := fun z => by rw [vq_none.mpr z] at ec; cases ec
      have nn : t.c.num ≠ 0 := fun z => c0 (Rat.num_eq_zero.mp z)
      rw [if_pos (by rw [hw])]
      exact ss_ret (ev_tup (ar_cons (ev_var Se 3) (ar_cons (ev_call Se 2 (ok_rest_byN M) (by decide) (ar_cons (ev_var Se 0) (ar_cons (ev_var Se 3) (ar_cons (ev_call Se 4 (ok_over M) (by decide) (ar_cons (ev_ixT (ev_var Se 1) ev_int rfl) (ar_cons (ev_ixT (ev_var Se 1) ev_int rfl) ar_nil)) ⟨_, _, rfl, hm.ht.a, hm.ht.c, ⟨nn, rfl⟩⟩) ar_nil))) ⟨p, v - 2 * leastV p [t.c, t.d], t.a * t.c⁻¹, by rw [over_eq _ c0], hp, k1, k0, hc', rfl⟩) ar_nil))) rfl
    · rw [ee] at h
      have hn : ¬ some w = some (leastV p [t.c, t.d]) := fun z => of_decide_eq_false h (by cases z; rfl)
      have hd' := hd (by rw [ec]; exact hn)
      have nn : t.d.num ≠ 0 := fun z => hd'.1 (Rat.num_eq_zero.mp z)
      rw [if_neg hn]
      exact ss_ret (ev_tup (ar_cons (ev_var Se 3) (ar_cons (ev_call Se 2 (ok_rest_byN M) (by decide) (ar_cons (ev_var Se 0) (ar_cons (ev_var Se 3) (ar_cons (ev_call Se 4 (ok_over M) (by decide) (ar_cons (ev_ixT (ev_var Se 1) ev_int rfl) (ar_cons (ev_ixT (ev_var Se 1) ev_int rfl) ar_nil)) ⟨_, _, rfl, hm.ht.b, hm.ht.d, ⟨nn, rfl⟩⟩) ar_nil))) ⟨p, v - 2 * leastV p [t.c, t.d], t.b * t.d⁻¹, by rw [over_eq _ hd'.1], hp, k1, k0, hd'.2, rfl⟩) ar_nil))) rfl
abbrev s_table_at : Stmt := top 39
theorem sc_table_at : ScB ["p", "spot"] ["p", "spot"] ["NOUGHT", "ONE", "prime_power"] (defScope s_table_at) := ⟨⟨rfl, rfl, rfl, by decide +kernel, rfl, by decide +kernel, by decide +kernel⟩, by decide +kernel, by decide +kernel⟩
theorem ok_table_at {T : Tx} (M : Mo T) : FnD T 3 "table_at" R_tabat := by
  refine fn_D M.F_table_at sc_table_at (fun f fd F => F.binds fun _ _ _ _ _ _ us hl => match us, hl with | [_, _], _ => rfl) (by rintro _ _ ⟨_, _, _, rfl, _, _, _, rfl⟩; rfl) fun Y S Z ds d h => ?_
  have Se := S.toSe
  obtain ⟨p, k, q, rfl, hp, k0, k1, rfl⟩ := h
  exact ss_ret (ev_tup (ar_cons (ev_call Se 2 (ok_prime_power M) (by decide) (ar_cons (ev_var Se 0) (ar_cons (ev_ixT (ev_var Se 1) ev_int rfl) ar_nil)) ⟨p, k, rfl, hp, k0, k1, rfl⟩) (ar_cons (ev_ixT (ev_var Se 1) ev_int rfl) (ar_cons (ev_cstT Se.toSn 0 M.k_NOUGHT) (ar_cons (ev_cstT Se.toSn 1 M.k_ONE) ar_nil))))) rfl
abbrev s_above : Stmt := top 40
theorem sc_above : ScB ["p", "spot", "k"] ["p", "spot", "k"] ["rest_by"] (defScope s_above) := ⟨⟨rfl, rfl, rfl, by decide +kernel, rfl, by decide +kernel, by decide +kernel⟩, by decide +kernel, by decide +kernel⟩
theorem ok_above {T : Tx} (M : Mo T) : FnD T 4 "spot_above" R_above := by
  refine fn_D M.F_above sc_above (fun f fd F => F.binds fun _ _ _ _ _ _ us hl => match us, hl with | [_, _, _], _ => rfl) (by rintro _ _ ⟨_, _, _, _, rfl, _, _, _, _, rfl⟩; rfl) fun Y S Z ds d h => ?_
  have Se := S.toSe
  obtain ⟨p, j, q, k, rfl, hp, fb, k0, k1, rfl⟩ := h
  exact ss_ret (ev_tup (ar_cons (ev_var Se 2) (ar_cons (ev_call Se 0 (ok_rest_byN M) (by decide) (ar_cons (ev_var Se 0) (ar_cons (ev_var Se 2) (ar_cons (ev_ixT (ev_var Se 1) ev_int rfl) ar_nil))) ⟨p, k, q, rfl, hp, k1, k0, fb, rfl⟩) ar_nil))) rfl
abbrev s_two_numbers : Stmt := top 42
theorem sc_two_numbers : ScB ["p", "table", "low"] ["p", "table"] ["least_power", "power_in", "measure"] (defScope s_two_numbers) := ⟨⟨rfl, rfl, rfl, by decide +kernel, rfl, by decide +kernel, by decide +kernel⟩, by decide +kernel, by decide +kernel⟩
theorem ok_two_numbers {T : Tx} (M : Mo T) : FnD T 5 "two_numbers" R_two := by
  refine fn_D M.F_two_numbers sc_two_numbers (fun f fd F => F.binds fun _ _ _ _ _ _ us hl => match us, hl with | [_, _], _ => rfl) (by rintro _ _ ⟨_, _, _, rfl, _, _, _, rfl⟩; rfl) fun Y S Z ds d h => ?_
  have Se := S.toSe
  obtain ⟨p, t, v, rfl, hp, hm, hv, rfl⟩ := h
  refine ss_set S 2 (ev_call Se 0 (ok_least_power M) (by decide) (ar_cons (ev_var Se 0) (ar_cons (ev_var Se 1) ar_nil)) ⟨p, [t.a, t.b, t.c, t.d], rfl, hp, by simp, det_of hv, rfl⟩) ?_
  exact ss_ret (ev_tup (ar_cons (ev_var Se 2) (ar_cons (ev_sub (i := v) (ev_call Se 1 (ok_power_in M) (by decide) (ar_cons (ev_var Se 0) (ar_cons (ev_call Se 2 (ok_measure M) (by decide) (ar_cons (ev_var Se 1) ar_nil) ⟨t, rfl, hm, rfl⟩) ar_nil)) ⟨p, t.det, rfl, hp, by rw [hv]; rfl⟩) (ev_var Se 2)) ar_nil))) rfl
abbrev s_lies78 : Stmt := top 43
theorem sc_lies78 : ScB ["p", "one", "other"] ["p", "one", "other"] ["two_numbers", "product", "turned_over", "table_at"] (defScope s_lies78) := ⟨⟨rfl, rfl, rfl, by decide +kernel, rfl, by decide +kernel, by decide +kernel⟩, by decide +kernel, by decide +kernel⟩
theorem ok_lies78 {T : Tx} (M : Mo T) : FnD T 6 "lies_in" R_lies78 := by
  refine fn_D M.F_lies78 sc_lies78 (fun f fd F => F.binds fun _ _ _ _ _ _ us hl => match us, hl with | [_, _, _], _ => rfl) (by rintro _ _ ⟨_, _, _, _, _, rfl, _, _, rfl⟩; rfl) fun Y S Z ds d h => ?_
  have Se := S.toSe
  obtain ⟨p, k1, q1, k2, q2, rfl, hp, hw, rfl⟩ := h
  have et := tabS_mul hp k1 k2 q1 q2
  have ta := hw.tb
  have hm : MOk ((tabS p k1 q1).inv.mul (tabS p k2 q2)) := by rw [et]; exact hw.mo
  have hv : vq p ((tabS p k1 q1).inv.mul (tabS p k2 q2)).det = some (k2 - k1) := by rw [et, two_det]; exact vq_ppw hp
  have a0 := hw.a0; have a1 := hw.a1; have b0 := hw.b0; have b1 := hw.b1
  refine ss_ret (ev_call Se 0 (ok_two_numbers M) (by decide) (ar_cons (ev_var Se 0) (ar_cons (ev_call Se 1 (ok_product M) (by decide) (ar_cons (ev_call Se 2 (ok_turned_over M) (by decide) (ar_cons (ev_call Se 3 (ok_table_at M) (by decide) (ar_cons (ev_var Se 0) (ar_cons (ev_var Se 1) ar_nil)) ⟨p, k1, q1, rfl, hp, by omega, by omega, rfl⟩) ar_nil) ⟨_, rfl, ta.1, ta.2.1, ta.2.2, rfl⟩) (ar_cons (ev_call Se 3 (ok_table_at M) (by decide) (ar_cons (ev_var Se 0) (ar_cons (ev_var Se 2) ar_nil)) ⟨p, k2, q2, rfl, hp, by omega, by omega, rfl⟩) ar_nil)) ⟨_, _, rfl, hw.po, rfl⟩) ar_nil)) ⟨p, _, k2 - k1, rfl, hp, hm, hv, rfl⟩) ?_
  have el : leastV p [((tabS p k1 q1).inv.mul (tabS p k2 q2)).a, ((tabS p k1 q1).inv.mul (tabS p k2 q2)).b, ((tabS p k1 q1).inv.mul (tabS p k2 q2)).c, ((tabS p k1 q1).inv.mul (tabS p k2 q2)).d] = lowS p k1 q1 k2 q2 := by
    rw [et]
    exact least_two hp k1 k2 q1 q2
  show D.tup _ = D.tup _
  rw [el]
abbrev s_way78 : Stmt := top 44
theorem sc_way78 : ScB ["p", "one", "other", "numbers"] ["p", "one", "other"] ["lies_in"] (defScope s_way78) := ⟨⟨rfl, rfl, rfl, by decide +kernel, rfl, by decide +kernel, by decide +kernel⟩, by decide +kernel, by decide +kernel⟩
theorem ok_way78 {T : Tx} (M : Mo T) : FnD T 7 "way" R_way78 := by
  refine fn_D M.F_way78 sc_way78 (fun f fd F => F.binds fun _ _ _ _ _ _ us hl => match us, hl with | [_, _, _], _ => rfl) (by rintro _ _ ⟨_, _, _, _, _, rfl, _, _, rfl⟩; rfl) fun Y S Z ds d h => ?_
  have Se := S.toSe
  obtain ⟨p, k1, q1, k2, q2, rfl, hp, hw, rfl⟩ := h
  refine ss_set S 3 (ev_call Se 0 (ok_lies78 M) (by decide) (ar_cons (ev_var Se 0) (ar_cons (ev_var Se 1) (ar_cons (ev_var Se 2) ar_nil))) ⟨p, k1, q1, k2, q2, rfl, hp, hw, rfl⟩) ?_
  exact ss_ret (ev_sub (ev_ixT (ev_var Se 3) ev_int rfl) (ev_ixT (ev_var Se 3) ev_int rfl)) rfl
abbrev s_moved78 : Stmt := top 46
theorem sc_moved78 : ScB ["p", "table", "spot"] ["p", "table", "spot"] ["spot_of", "product", "table_at"] (defScope s_moved78) := ⟨⟨rfl, rfl, rfl, by decide +kernel, rfl, by decide +kernel, by decide +kernel⟩, by decide +kernel, by decide +kernel⟩
theorem ok_moved78 {T : Tx} (M : Mo T) : FnD T 6 "moved" R_mov78 := by
  refine fn_D M.F_moved78 sc_moved78 (fun f fd F => F.binds fun _ _ _ _ _ _ us hl => match us, hl with | [_, _, _], _ => rfl) (by rintro _ _ ⟨_, _, _, _, _, _, _, rfl, _⟩; rfl) fun Y S Z ds d h => ?_
  have Se := S.toSe
  obtain ⟨p, t, y, s, m, k, q, rfl, hp, hS, hu, hf, hk, rfl⟩ := h
  exact ss_ret (ev_call Se 0 (ok_spot_of M) (by decide) (ar_cons (ev_var Se 0) (ar_cons (ev_call Se 1 (ok_product M) (by decide) (ar_cons (ev_var Se 1) (ar_cons (ev_call Se 2 (ok_table_at M) (by decide) (ar_cons (ev_var Se 0) (ar_cons (ev_var Se 2) ar_nil)) ⟨p, k, q, rfl, hp, by omega, by omega, rfl⟩) ar_nil)) ⟨t, tabS p k q, rfl, hu.1, rfl⟩) ar_nil)) (spotof78 hp hS hu hf hk.1 hk.2.1 hk.2.2.1 hk.2.2.2)) rfl
abbrev s_turn78 : Stmt := top 51
theorem sc_turn78 : ScB ["p", "one", "other"] ["p", "one", "other"] ["spot_above", "lies_in"] (defScope s_turn78) := ⟨⟨rfl, rfl, rfl, by decide +kernel, rfl, by decide +kernel, by decide +kernel⟩, by decide +kernel, by decide +kernel⟩
theorem ok_turn78 {T : Tx} (M : Mo T) : FnD T 7 "turn_between" R_turn78 := by
  refine fn_D M.F_turn78 sc_turn78 (fun f fd F => F.binds fun _ _ _ _ _ _ us hl => match us, hl with | [_, _, _], _ => rfl) (by rintro _ _ ⟨_, _, _, _, _, rfl, _, _, _, rfl⟩; rfl) fun Y S Z ds d h => ?_
  have Se := S.toSe
  obtain ⟨p, k1, q1, k2, q2, rfl, hp, hw, hl, rfl⟩ := h
  have lv0 := (lv_iff hp k1 k2 _ q1 q2).mp (Int.le_refl (lvS p k1 q1 k2 q2))
  have e : k1 + lowS p k1 q1 k2 q2 = lvS p k1 q1 k2 q2 := by unfold lvS; omega
  have a := hw.a1
  have lv1 := lv0.1
  rw [← e] at hl lv1
  rw [← e]
  exact ss_ret (ev_call Se 0 (ok_above M) (by decide) (ar_cons (ev_var Se 0) (ar_cons (ev_var Se 1) (ar_cons (ev_add (ev_ixT (ev_var Se 1) ev_int rfl) (ev_ixT (ev_call Se 1 (ok_lies78 M) (by decide) (ar_cons (ev_var Se 0) (ar_cons (ev_var Se 1) (ar_cons (ev_var Se 2) ar_nil))) ⟨p, k1, q1, k2, q2, rfl, hp, hw, rfl⟩) ev_int rfl)) ar_nil))) ⟨p, k1, q1, k1 + lowS p k1 q1 k2 q2, rfl, hp, hw.f1, by omega, by omega, rfl⟩) rfl
abbrev s_sb78 : Stmt := top 50
theorem sc_sb78 : ScB ["p", "one", "other", "turn", "up", "down"] ["p", "one", "other"] ["turn_between", "range"] (defScope s_sb78) := ⟨⟨rfl, rfl, rfl, by decide +kernel, rfl, by decide +kernel, by decide +kernel⟩, by decide +kernel, by decide +kernel⟩
theorem ok_sb78 {T : Tx} (M : Mo T) : FnO T 8 "spots_between" R_sbO78 := by
  refine fn_O M.F_sb78 sc_sb78 (fun f fd F => F.binds fun _ _ _ _ _ _ us hl => match us, hl with | [_, _, _], _ => rfl) (by rintro _ _ ⟨_, _, _, rfl, _⟩; rfl) fun Y S Z ds l h => ?_
  have Se := S.toSe
  obtain ⟨p, a, b, rfl, hp, hw, hl, rfl⟩ := h
  have lv0 := (lv_iff hp a.1 b.1 _ a.2 b.2).mp (Int.le_refl (lvS p a.1 a.2 b.1 b.2))
  have lb : -3000 ≤ lvS p a.1 a.2 b.1 b.2 ∧ lvS p a.1 a.2 b.1 b.2 ≤ a.1 ∧ lvS p a.1 a.2 b.1 b.2 ≤ b.1 := ⟨hl, lv0.1, lv0.2.1⟩
  have a0 := hw.a0; have a1 := hw.a1; have b0 := hw.b0; have b1 := hw.b1
  have fa := hw.f1; have fb := hw.f2
  refine ss_set S 3 (ev_ixT (ev_call Se 0 (ok_turn78 M) (by decide) (ar_cons (ev_var Se 0) (ar_cons (ev_var Se 1) (ar_cons (ev_var Se 2) ar_nil))) ⟨p, a.1, a.2, b.1, b.2, rfl, hp, hw, hl, rfl⟩) ev_int rfl) ?_
  unfold roadL
  clear hl lv0 hw
  generalize lvS p a.1 a.2 b.1 b.2 = t at *
  refine ss_setCM S 4 (ds := (List.range (a.1 - (t - 1)).toNat).map fun (j : Nat) => stD (abv p a (a.1 + (j : Int) * (-1)))) (tn := ["k"]) (fs := ["p", "one"]) (ix := [0, 1]) (G' := ["spot_above"]) (items := rangeD a.1 (-1) (a.1 - (t - 1)).toNat) Z.sc ?B1 (it_rangeD Se 1 (ar_cons (ev_ixT (ev_var Se 1) ev_int rfl) (ar_cons (ev_sub (ev_var Se 3) ev_int) (ar_cons (ev_neg ev_int) ar_nil))) ⟨by omega, by omega, by omega, by omega⟩ M.b_range) (by simp [rangeD]) (by rw [List.length_map, List.length_range]; omega) ?T1 (swapC_at Z.sc fun _ => rfl) ?_
  case B1 => exact ⟨rfl, rfl, by decide +kernel, by decide +kernel, by decide +kernel, by decide +kernel, by decide +kernel, by decide +kernel, rfl, by decide +kernel⟩
  case T1 =>
    intro Y' S' hl m d r hd hr ts hts
    obtain ⟨hm, rfl⟩ := rangeD_of hd
    obtain ⟨t1, rfl⟩ : ∃ t1, ts = [t1] := List.length_eq_one_iff.mp hts
    rw [List.getElem?_map, List.getElem?_range hm] at hr
    cases hr
    exact ⟨[_], rfl, rfl, tg_name0 S'.toSn 0 (.inr (hl _ (by simp))), ev_call S' 0 (ok_above M) (by decide) (ar_cons (ev_var S' 1) (ar_cons (ev_var S' 2) (ar_cons (ev_var S' 0) ar_nil))) ⟨p, a.1, a.2, a.1 + (m : Int) * (-1), rfl, hp, fa, by omega, by omega, rfl⟩⟩
  refine ss_setCM S 5 (ds := (List.range (b.1 + 1 - (t + 1)).toNat).map fun (j : Nat) => stD (abv p b (t + 1 + (j : Int) * 1))) (tn := ["k"]) (fs := ["p", "other"]) (ix := [0, 2]) (G' := ["spot_above"]) (items := rangeD (t + 1) 1 (b.1 + 1 - (t + 1)).toNat) Z.sc ?B2 (it_range2 Se 1 (ar_cons (ev_add (ev_var Se 3) ev_int) (ar_cons (ev_add (ev_ixT (ev_var Se 2) ev_int rfl) ev_int) ar_nil)) ⟨by omega, by omega, by omega, by omega⟩ M.b_range) (by simp [rangeD]) (by rw [List.length_map, List.length_range]; omega) ?T2 (swapC_at Z.sc fun _ => rfl) ?_
  case B2 => exact ⟨rfl, rfl, by decide +kernel, by decide +kernel, by decide +kernel, by decide +kernel, by decide +kernel, by decide +kernel, rfl, by decide +kernel⟩
  case T2 =>
    intro Y' S' hl m d r hd hr ts hts
    obtain ⟨hm, rfl⟩ := rangeD_of hd
    obtain ⟨t1, rfl⟩ : ∃ t1, ts = [t1] := List.length_eq_one_iff.mp hts
    rw [List.getElem?_map, List.getElem?_range hm] at hr
    cases hr
    exact ⟨[_], rfl, rfl, tg_name0 S'.toSn 0 (.inr (hl _ (by simp))), ev_call S' 0 (ok_above M) (by decide) (ar_cons (ev_var S' 1) (ar_cons (ev_var S' 2) (ar_cons (ev_var S' 0) ar_nil))) ⟨p, b.1, b.2, t + 1 + (m : Int) * 1, rfl, hp, fb, by omega, by omega, rfl⟩⟩

  refine ss_retO (ow_catL (ev_var Se 4) (ev_var Se 5) (by rw [List.length_map, List.length_map, List.length_range, List.length_range]; omega)) ?_
  exact road_D (p := p) a b _ _ _ _
abbrev s_road78 : Stmt := top 49
theorem sc_road78 : ScB ["p", "one", "other", "far"] ["p", "one", "other"] ["way", "FURTHEST_WAY", "spots_between", "TooFar"] (defScope s_road78) := ⟨⟨rfl, rfl, rfl, by decide +kernel, rfl, by decide +kernel, by decide +kernel⟩, by decide +kernel, by decide +kernel⟩
theorem okz_road78 {T : Tx} (M : Mo T) : FnZ T 9 "road" "TooFar" R_roadZ78 := by
  refine fn_Z M.F_road78 sc_road78 (fun f fd F => F.binds fun _ _ _ _ _ _ us hl => match us, hl with | [_, _, _], _ => rfl) (by rintro _ _ ⟨_, _, _, rfl, _⟩; rfl) fun Y S Z ds r h hz => ?_
  have Se := S.toSe
  obtain ⟨p, a, b, rfl, hp, hw, hl, hw1, hw0, hr⟩ := h
  refine ss_set S 3 (d := .int (wy p a b)) (ev_call Se 0 (ok_way78 M) (by decide) (ar_cons (ev_var Se 0) (ar_cons (ev_var Se 1) (ar_cons (ev_var Se 2) ar_nil))) ⟨p, a.1, a.2, b.1, b.2, rfl, hp, hw, rfl⟩) ?_
  refine ss_if (te_gt (ev_var Se 3) (ev_cstI Se.toSn 1 M.k_FURTHEST_WAY)) (fun h => ?_) (fun h => ss_nil ?_)
  · have h5 := of_decide_eq_true h
    rcases hr with ⟨h2, rfl⟩ | ⟨h2, rfl⟩
    · omega
    · obtain ⟨C, D, fI, fd, hC, ZF, hk, hb', FI⟩ := ok_init M
      exact ss_raiseF S 3 Z.ex ZF hC hk FI (by decide) hb' (ev_var Se 3) (by omega) (hz _ rfl _).2
  · have h5 := of_decide_eq_false h
    rcases hr with ⟨h2, rfl⟩ | ⟨h2, rfl⟩
    · exact ss_ret (ev_ow (ow_call Se 2 (ok_sb78 M) (by decide) (ar_cons (ev_var Se 0) (ar_cons (ev_var Se 1) (ar_cons (ev_var Se 2) ar_nil))) ⟨p, a, b, rfl, hp, hw, hl, rfl⟩)) rfl
    · omega
abbrev s_along78 : Stmt := top 52
theorem sc_along78 : ScB ["p", "one", "other", "steps", "up"] ["p", "one", "other", "steps"] ["spot_above", "turn_between"] (defScope s_along78) := ⟨⟨rfl, rfl, rfl, by decide +kernel, rfl, by decide +kernel, by decide +kernel⟩, by decide +kernel, by decide +kernel⟩
theorem ok_along78 {T : Tx} (M : Mo T) : FnD T 8 "spot_along" R_along78 := by
  refine fn_D M.F_along78 sc_along78 (fun f fd F => F.binds fun _ _ _ _ _ _ us hl => match us, hl with | [_, _, _, _], _ => rfl) (by rintro _ _ ⟨_, _, _, _, rfl, _⟩; rfl) fun Y S Z ds d h => ?_
  have Se := S.toSe
  obtain ⟨p, a, b, j, rfl, hp, hw, hl, j0, j1, rfl⟩ := h
  have lv0 := (lv_iff hp a.1 b.1 _ a.2 b.2).mp (Int.le_refl (lvS p a.1 a.2 b.1 b.2))
  have a0 := hw.a0; have a1 := hw.a1; have b0 := hw.b0; have b1 := hw.b1
  have lv1 := lv0.1
  refine ss_set S 4 (d := .int (a.1 - lvS p a.1 a.2 b.1 b.2)) (ev_sub (ev_ixT (ev_var Se 1) ev_int rfl) (ev_ixT (ev_call Se 1 (ok_turn78 M) (by decide) (ar_cons (ev_var Se 0) (ar_cons (ev_var Se 1) (ar_cons (ev_var Se 2) ar_nil))) ⟨p, a.1, a.2, b.1, b.2, rfl, hp, hw, hl, rfl⟩) ev_int rfl)) ?_
  unfold alongS
  generalize lvS p a.1 a.2 b.1 b.2 = t at *
  refine ss_if (te_le (ev_var Se 3) (ev_var Se 4)) (fun h => ?_) (fun h => ss_nil ?_)
  · rw [if_pos (of_decide_eq_true h)]
    exact ss_ret (ev_call Se 0 (ok_above M) (by decide) (ar_cons (ev_var Se 0) (ar_cons (ev_var Se 1) (ar_cons (ev_sub (ev_ixT (ev_var Se 1) ev_int rfl) (ev_var Se 3)) ar_nil))) ⟨p, a.1, a.2, a.1 - j, rfl, hp, hw.f1, by omega, by omega, rfl⟩) rfl
  · rw [if_neg (of_decide_eq_false h)]
    exact ss_ret (ev_call Se 0 (ok_above M) (by decide) (ar_cons (ev_var Se 0) (ar_cons (ev_var Se 2) (ar_cons (ev_add (ev_sub (ev_ixT (ev_var Se 1) ev_int rfl) (ev_mul ev_int (ev_var Se 4) (.of_left (intBits_le_64 (by decide) (by decide))))) (ev_var Se 3)) ar_nil))) ⟨p, b.1, b.2, a.1 - 2 * (a.1 - t) + j, rfl, hp, hw.f2, by omega, by omega, rfl⟩) rfl
abbrev s_slide78 : Stmt := top 58
theorem sc_slide78 : ScB ["p", "table", "power"] ["p", "table"] ["power_in", "max", "trace", "measure"] (defScope s_slide78) := ⟨⟨rfl, rfl, rfl, by decide +kernel, rfl, by decide +kernel, by decide +kernel⟩, by decide +kernel, by decide +kernel⟩
theorem ok_slide78 {T : Tx} (M : Mo T) : FnD T 5 "slide" R_slide78 := by
  refine fn_D M.F_slide78 sc_slide78 (fun f fd F => F.binds fun _ _ _ _ _ _ us hl => match us, hl with | [_, _], _ => rfl) (by rintro _ _ ⟨_, _, _, _, rfl, _⟩; rfl) fun Y S Z ds d h => ?_
  have Se := S.toSe
  obtain ⟨p, t, v1, v2, rfl, hp, tb, mo, h1, h2, rfl⟩ := h
  refine ss_set S 2 (d := .int v1) (ev_call Se 0 (ok_power_in M) (by decide) (ar_cons (ev_var Se 0) (ar_cons (ev_call Se 2 (ok_trace M) (by decide) (ar_cons (ev_var Se 1) ar_nil) ⟨t, rfl, tb, rfl⟩) ar_nil)) ⟨p, t.a + t.d, rfl, hp, by rw [h1]; rfl⟩) ?_
  refine ss_if (te_isN (d := .int v1) (ev_var Se 2)) (fun h => nomatch h) (fun _ => ss_nil ?_)
  exact ss_ret (ev_max Se 1 (ar_cons ev_int (ar_cons (ev_sub (i := v2) (ev_call Se 0 (ok_power_in M) (by decide) (ar_cons (ev_var Se 0) (ar_cons (ev_call Se 3 (ok_measure M) (by decide) (ar_cons (ev_var Se 1) ar_nil) ⟨t, rfl, mo, rfl⟩) ar_nil)) ⟨p, t.det, rfl, hp, by rw [h2]; rfl⟩) (ev_mul ev_int (ev_var Se 2) (.of_left (intBits_le_64 (by decide) (by decide))))) ar_nil)) M.b_max) rfl
abbrev s_kind78 : Stmt := top 57
theorem sc_kind78 : ScB ["p", "table", "there", "one", "other", "steps"] ["p", "table"] ["moved", "FIRST", "spot_along", "slide", "SLIDES", "KEEPS", "TURNS", "road", "way", "min", "max"] (defScope s_kind78) := ⟨⟨rfl, rfl, rfl, by decide +kernel, rfl, by decide +kernel, by decide +kernel⟩, by decide +kernel, by decide +kernel⟩
theorem okz_kind78 {T : Tx} (M : Mo T) : FnZ T 10 "kind" "TooFar" R_kind78 := by
  refine fn_Z M.F_kind78 sc_kind78 (fun f fd F => F.binds fun _ _ _ _ _ _ us hl => match us, hl with | [_, _], _ => rfl) (by rintro _ _ ⟨_, _, _, _, _, _, _, _, _, rfl, _⟩; rfl) fun Y S Z ds r h hz => ?_
  have Se := S.toSe
  obtain ⟨p, t, y, s, m, n, g, v1, v2, rfl, hp, hS, hg, n2, n520, hs, kb, hv1, hv2, hv, hr⟩ := h
  have hm : m = n ∨ m = -n := by omega
  obtain ⟨l0, l1, w0, w1, c0, c1, ec⟩ := mid_is78 hp hS.vy hm n2 n520 hs
  have wk := wk_far78 hp hS.vy hm n2 n520 hs
  refine ss_set S 2 (d := stD (m, restQ p m (s * (1 - y)))) ?M0 ?_
  case M0 =>
    have e : stD (m, restQ p m (s * (1 - y))) = spotD (0 + m) (restQ p (0 + m) (y * 0 + s * (1 - y))) := by rw [Int.zero_add, Rat.mul_zero, Rat.zero_add]
    rw [e]
    exact (ev_call Se 0 (ok_moved78 M) (by decide) (ar_cons (ev_var Se 0) (ar_cons (ev_var Se 1) (ar_cons (ev_cstP Se.toSn 1 M.k_FIRST) ar_nil))) ⟨p, t, y, s, m, 0, 0, rfl, hp, hS, kb.u0, kb.f0, ⟨by decide, by decide, by omega, by omega⟩, rfl⟩)
  refine ss_set S 3 (d := stD (mid78 p y s m)) (ev_call Se 2 (ok_along78 M) (by decide) (ar_cons (ev_var Se 0) (ar_cons (ev_cstP Se.toSn 1 M.k_FIRST) (ar_cons (ev_var Se 2) (ar_cons (ev_fdivP (ev_call Se 8 (ok_way78 M) (by decide) (ar_cons (ev_var Se 0) (ar_cons (ev_cstP Se.toSn 1 M.k_FIRST) (ar_cons (ev_var Se 2) ar_nil))) ⟨p, 0, 0, m, restQ p m (s * (1 - y)), rfl, hp, wk, rfl⟩) ev_int (by decide) (by decide +kernel)) ar_nil)))) ⟨p, (0, 0), (m, restQ p m (s * (1 - y))), _, rfl, hp, wk, by show -3000 ≤ lvS p 0 0 m (restQ p m (s * (1 - y))); omega, by omega, by omega, rfl⟩) ?_
  rw [ec]
  generalize (mid78 p y s m).1 = k1 at c0 c1 hr ⊢
  refine ss_set S 4 (d := stD (axS p s (k1 + m))) ?M1 ?_
  case M1 =>
    have e : stD (axS p s (k1 + m)) = spotD (k1 + m) (restQ p (k1 + m) (y * restQ p k1 s + s * (1 - y))) := by rw [line78 hp hS.vy]; rfl
    rw [e]
    exact (ev_call Se 0 (ok_moved78 M) (by decide) (ar_cons (ev_var Se 0) (ar_cons (ev_var Se 1) (ar_cons (ev_var Se 3) ar_nil))) ⟨p, t, y, s, m, k1, restQ p k1 s, rfl, hp, hS, kb.u k1 c0 c1, kb.f k1 c0 c1, ⟨by omega, by omega, by omega, by omega⟩, rfl⟩)
  have wk2 := wk_ax78 (k2 := k1 + m) hp hs c0 c1 (by omega) (by omega)
  refine ss_if (te_eqD Se (d1 := stD (axS p s k1)) (d2 := stD (axS p s (k1 + m))) (ev_var Se 3) (ev_var Se 4) rfl rfl) (fun h => ?_) (fun _ => ss_nil ?_)
  · exfalso
    rw [eq_st42] at h
    have h := congrArg Prod.fst (of_decide_eq_true h)
    have h : k1 = k1 + m := h
    omega
  refine ss_set S 5 (d := .int n) ?ST ?_
  case ST =>
    have e : D.int n = .int (max 0 (v2 - 2 * v1)) := by rw [hv]; congr 1; omega
    rw [e]
    exact (ev_call Se 3 (ok_slide78 M) (by decide) (ar_cons (ev_var Se 0) (ar_cons (ev_var Se 1) ar_nil)) ⟨p, t, v1, v2, rfl, hp, kb.tb, kb.mo, hv1, hv2, rfl⟩)
  refine ss_if (te_eqI (ev_var Se 5) ev_int) (fun h => absurd (of_decide_eq_true h) (by omega)) (fun _ => ss_nil ?_)
  have wn : wy p (axS p s k1) (axS p s (k1 + m)) = n := by rw [axway78 hp]; omega
  have lb : -3000 ≤ lvS p (axS p s k1).1 (axS p s k1).2 (axS p s (k1 + m)).1 (axS p s (k1 + m)).2 := by rw [axlv78 hp]; omega
  rcases hr with ⟨h5, rfl⟩ | ⟨h5, rfl⟩
  · refine ss_ret (ev_tup (ar_cons (ev_cstS Se.toSn 4 M.k_SLIDES) (ar_cons (ev_var Se 5) (ar_cons (d := .lst (LA p s k1 g n)) ?RD ar_nil)))) rfl
    case RD =>
      have e : LA p s k1 g n = ((roadL p (axS p s k1) (axS p s (k1 + m))).map trS).map triD := by
        have em : k1 + m = k1 + g * (n.toNat : Int) := by
          rcases hg with ⟨rfl, rfl⟩ | ⟨rfl, rfl⟩ <;> omega
        rw [em, axroad78 hp s k1 n.toNat (by omega)]
      rw [e]
      exact ev_callZ Se 7 (okz_road78 M) (by decide) (ar_cons (ev_var Se 0) (ar_cons (ev_var Se 3) (ar_cons (ev_var Se 4) ar_nil))) ⟨p, axS p s k1, axS p s (k1 + m), rfl, hp, wk2, lb, by omega, by omega, .inl ⟨by omega, rfl⟩⟩
  · exact ss_retX (ev_tupZ (ar_consX (ev_cstS Se.toSn 4 M.k_SLIDES) (ar_consX (ev_var Se 5) (ar_X (ev_callZX Se 7 (okz_road78 M) (by decide) (ar_cons (ev_var Se 0) (ar_cons (ev_var Se 3) (ar_cons (ev_var Se 4) ar_nil))) ⟨p, axS p s k1, axS p s (k1 + m), rfl, hp, wk2, lb, by omega, by omega, .inr ⟨by omega, by rw [wn]⟩⟩ (hz _ rfl _).1) pa_none))))
abbrev s_cell78 : Stmt := top 60
theorem sc_cell78 : ScB ["_law_script", "_law_k", "_law_cell_here"] ["_law_script", "_law_k"] ["len", "abs", "int"] (defScope s_cell78) := ⟨⟨rfl, rfl, rfl, by decide +kernel, rfl, by decide +kernel, by decide +kernel⟩, by decide +kernel, by decide +kernel⟩
theorem ok_cell78 {T : Tx} (M : Mo T) : FnD T 1 "_law_cell" R_cell78 := by
  refine fn_D M.F_cell78 sc_cell78 (fun f fd F => F.binds fun _ _ _ _ _ _ us hl => match us, hl with | [_, _], _ => rfl) (by rintro _ _ ⟨_, _, rfl, _⟩; rfl) fun Y S Z ds d h => ?_
  have Se := S.toSe
  obtain ⟨ns, k, rfl, h63, k0, k1, rfl⟩ := h
  unfold ccell
  refine ss_if (te_eqI (ev_len Se 0 (n := ns.length) (ar_cons (ev_var Se 0) ar_nil) (by show some _ = some _; rw [List.length_map]) M.b_len) ev_int) (fun h => ?_) (fun h => ss_nil ?_)
  · rw [if_pos (of_decide_eq_true h)]
    exact ss_ret (ev_add (ev_mul ev_int (ev_var Se 1) (.of_left (intBits_le_64 (by decide) (by decide)))) ev_int) rfl
  · have h0 := of_decide_eq_false h
    rw [if_neg h0]
    refine ss_set S 2 (ev_ixL (ev_var Se 0) (ev_modP (ev_var Se 1) (ev_len Se 0 (n := ns.length) (ar_cons (ev_var Se 0) ar_nil) (by show some _ = some _; rw [List.length_map]) M.b_len) (by omega)) (ccell_at h0)) ?_
    generalize ns.getD (k % (ns.length : Int)).toNat 0 = cc
    refine ss_if (te_eqI (ev_modP (ev_ixL (ev_var Se 0) ev_int (cell_at (by decide) (by omega))) ev_int (by decide)) ev_int) (fun h2 => ?_) (fun h2 => ss_nil ?_)
    · rw [if_pos (show ns.getD 0 0 % 2 = 1 from of_decide_eq_true h2)]
      exact ss_ret (ev_mul (ev_abs Se 1 (ar_cons (ev_var Se 2) ar_nil) M.b_abs) (ev_intOf Se 2 (ar_cons (ev_lt (ev_var Se 1) (ev_len Se 0 (n := ns.length) (ar_cons (ev_var Se 0) ar_nil) (by show some _ = some _; rw [List.length_map]) M.b_len)) ar_nil) M.b_int) (.of_right (intBits_le_64 (by split <;> decide) (by split <;> decide)))) rfl
    · rw [if_neg (show ¬ ns.getD 0 0 % 2 = 1 from of_decide_eq_false h2)]
      exact ss_ret (ev_modP (ev_mul (ev_modP (ev_mul (ev_add (ev_add (ev_add (ev_var Se 2) (ev_mul (ev_mul ev_int (ev_var Se 1) (.of_left (intBits_le_64 (by decide) (by decide)))) (ev_var Se 1) (.of_right (intBits_le_64 (by omega) (by omega))))) (ev_mul ev_int (ev_var Se 1) (.of_left (intBits_le_64 (by decide) (by decide))))) ev_int) ev_int (.of_right (intBits_le_64 (by decide) (by decide)))) ev_int (by decide)) ev_int (.of_right (intBits_le_64 (by decide) (by decide)))) ev_int (by decide)) rfl
abbrev s_wholeI : Stmt := top 61
theorem sc_wholeI : ScB ["_law_found"] ["_law_found"] ["isinstance", "int", "bool"] (defScope s_wholeI) := ⟨⟨rfl, rfl, rfl, by decide +kernel, rfl, by decide +kernel, by decide +kernel⟩, by decide +kernel, by decide +kernel⟩
theorem okh_wholeI {T : Tx} (M : Mo T) : FnDH T 1 "_law_whole" R_whole := by
  refine fn_DH M.F_wholeI sc_wholeI (fun f fd F => F.binds fun _ _ _ _ _ _ us hl => match us, hl with | [_], _ => rfl) (by rintro _ _ ⟨a, rfl, rfl⟩; rfl) fun Y S ds d h => ?_
  obtain ⟨i, rfl, rfl⟩ := h
  exact ss_ret (ev_and (ev_isi0 S.toSn 0 1 (ev_var0 S.toSn 0) (b := true) rfl M.b_isinstance M.b_int bt_int) fun _ => ev_one (ev_not (ev_isi0 S.toSn 0 2 (ev_var0 S.toSn 0) (b := false) rfl M.b_isinstance M.b_bool bt_bool))) rfl
theorem ok_wholeI {T : Tx} (M : Mo T) : FnD T 1 "_law_whole" R_whole := (okh_wholeI M).toD
abbrev s_low78 : Stmt := top 62
theorem sc_low78 : ScB ["_law_top", "_law_bottom", "_law_one", "_law_other"] ["_law_top", "_law_bottom"] ["abs"] (defScope s_low78) := ⟨⟨rfl, rfl, rfl, by decide +kernel, rfl, by decide +kernel, by decide +kernel⟩, by decide +kernel, by decide +kernel⟩
theorem ok_low78 {T : Tx} (M : Mo T) : FnD T 1 "_law_low" R_low78 := by
  refine fn_D M.F_low78 sc_low78 (fun f fd F => F.binds fun _ _ _ _ _ _ us hl => match us, hl with | [_, _], _ => rfl) (by rintro _ _ ⟨a, b, rfl, _, _, rfl⟩; rfl) fun Y S Z ds d h => ?_
  have Se := S.toSe
  obtain ⟨t, b, rfl, hb0, bb, rfl⟩ := h
  have hb : b ≠ 0 := by omega
  have hx : Y.X.env.scope.names.lookup ("_law_one" : Str) = some NameKind.local := by rw [Z.sc]; decide +kernel
  have hy : Y.X.env.scope.names.lookup ("_law_other" : Str) = some NameKind.local := by rw [Z.sc]; decide +kernel
  refine ss_par S 2 3 (ar_cons (ev_abs Se 0 (ar_cons (ev_var Se 0) ar_nil) M.b_abs) (ar_cons (ev_abs Se 0 (ar_cons (ev_var Se 1) ar_nil) M.b_abs) ar_nil)) hx hy (swap_at Z.sc fun _ => rfl) ?_
  refine ss_while S (fun c => ∃ x y : Int, c = [.val (.int t), .val (.int b), .val (.int x), .val (.int y)] ∧ 0 ≤ x ∧ 0 ≤ y ∧ Int.gcd x y = Int.gcd t b) (fun c => match c with | [_, _, _, .val (.int y)] => y.natAbs | _ => 0) ⟨_, _, rfl, by omega, by omega, by simp [Int.gcd]⟩ ?_
  rintro _ ⟨x, y, rfl, hx0, hy0, hg⟩
  refine ⟨_, te_neI (ev_var Se 3) ev_int, fun h => ?_, fun h => ?_⟩
  · have h0 : y ≠ 0 := by simpa using h
    refine ss_par S 2 3 (ar_cons (ev_var Se 3) (ar_cons (ev_mod (ev_var Se 2) (ev_var Se 3) h0) ar_nil)) hx hy (swap_at Z.sc fun _ => rfl) ?_
    refine ss_nil ⟨⟨y, x.fmod y, rfl, hy0, Int.fmod_nonneg_of_pos x (by omega), ?_⟩, ?_⟩
    · rw [gcd_step]; exact hg
    · exact fmod_small x h0
  · have h0 : y = 0 := by simpa using h
    subst h0
    have hx1 : x = (Int.gcd t b : Int) := by rw [Int.gcd_zero_right] at hg; omega
    subst hx1
    have q := low_bd (t := t) hb bb
    have l := low_num t hb
    rw [if_neg (by omega)] at q l
    refine ss_if (te_lt (ev_var Se 1) ev_int) (fun h => absurd (of_decide_eq_true h) (by omega)) (fun _ => ss_nil ?_)
    refine ss_ret (ev_tup (ar_cons (ev_fdiv (ev_var Se 0) (ev_var Se 2) q.1 q.2) (ar_cons (ev_fdiv (ev_var Se 1) (ev_var Se 2) q.1 q.2) ar_nil))) ?_
    show D.tup _ = D.tup _
    rw [l.1, l.2]
abbrev s_pp78 : Stmt := top 67
theorem sc_pp78 : ScB ["_law_p", "_law_n", "_law_made", "_law_left", "_law_base"] ["_law_p", "_law_n"] ["abs"] (defScope s_pp78) := ⟨⟨rfl, rfl, rfl, by decide +kernel, rfl, by decide +kernel, by decide +kernel⟩, by decide +kernel, by decide +kernel⟩
theorem ok_pp78 {T : Tx} (M : Mo T) : FnD T 1 "_law_prime_power" R_pp78 := by
  refine fn_D M.F_pp78 sc_pp78 (fun f fd F => F.binds fun _ _ _ _ _ _ us hl => match us, hl with | [_, _], _ => rfl) (by rintro _ _ ⟨_, _, rfl, _⟩; rfl) fun Y S Z ds d h => ?_
  have Se := S.toSe
  obtain ⟨p, n, rfl, hp, n0, n1, rfl⟩ := h
  refine ss_set S 2 ev_int ?_
  refine ss_set S 3 (ev_abs Se 0 (ar_cons (ev_var Se 1) ar_nil) M.b_abs) ?_
  refine ss_set S 4 (ev_var Se 0) ?_
  refine ss_while S (fun c => ∃ a b l : Nat, c = [.val (.int p), .val (.int n), .val (.int (p ^ a)), .val (.int (l : Int)), .val (.int (p ^ b))] ∧ a + b * l = n.toNat) (fun c => match c with | [_, _, _, .val (.int l), _] => l.toNat | _ => 0) ⟨0, 1, n.natAbs, by rw [Int.pow_zero, Int.pow_succ, Int.pow_zero, Int.one_mul]; rfl, by omega⟩ ?_
  rintro _ ⟨a, b, l, rfl, hab⟩
  refine ⟨_, te_gt (ev_var Se 3) ev_int, fun h => ?_, fun h => ?_⟩
  · have l0 : 0 < l := by have := of_decide_eq_true h; omega
    have hb : b ≤ n.toNat := by
      have := Nat.le_mul_of_pos_right b l0
      omega
    refine ss_ifD S 2 (d1 := .int (p ^ a * p ^ b)) (d2 := .int (p ^ a)) (te_eqI (ev_modP (ev_var Se 3) ev_int (by decide)) ev_int) (fun _ => ev_mul (ev_var Se 2) (ev_var Se 4) (mulOk (pw_bd hp a) (pw_bd hp b) (by omega))) ?_
    have e : (if decide ((l : Int) % 2 = 1) = true then D.int (p ^ a * p ^ b) else .int (p ^ a)) = .int (p ^ (if l % 2 = 1 then a + b else a)) := by
      by_cases h2 : l % 2 = 1
      · rw [if_pos h2, if_pos (decide_eq_true (by omega)), Int.pow_add]
      · rw [if_neg h2, if_neg (by rw [decide_eq_false (by omega)]; exact Bool.false_ne_true)]
    rw [e]
    refine ss_set S 4 (d := .int (p ^ (b + b))) (by rw [Int.pow_add]; exact ev_mul (ev_var Se 4) (ev_var Se 4) (mulOk (pw_bd hp b) (pw_bd hp b) (by omega))) ?_
    refine ss_set S 3 (d := .int ((l / 2 : Nat) : Int)) (by rw [show ((l / 2 : Nat) : Int) = (l : Int) / 2 by omega]; exact ev_fdivP (ev_var Se 3) ev_int (by decide) (by decide +kernel)) ?_
    refine ss_nil ⟨⟨_, _, _, rfl, pp_step78 (p := p) hab⟩, ?_⟩
    show ((l / 2 : Nat) : Int).toNat < (l : Int).toNat
    omega
  · have l0 : l = 0 := by have := of_decide_eq_false h; omega
    subst l0
    rw [Nat.mul_zero, Nat.add_zero] at hab
    subst hab
    refine ss_if (te_lt (ev_var Se 1) ev_int) (fun h => absurd (of_decide_eq_true h) (by omega)) (fun _ => ss_nil ?_)
    exact ss_ret (ev_tup (ar_cons (ev_var Se 2) (ar_cons ev_int ar_nil))) rfl
abbrev s_rest78 : Stmt := top 68
theorem sc_rest78 : ScB ["_law_p", "_law_k", "_law_a", "_law_deep", "_law_bottom", "_law_full", "_law_one", "_law_other", "_law_first", "_law_second", "_law_often"] ["_law_p", "_law_k", "_law_a"] ["_law_low", "_law_prime_power"] (defScope s_rest78) := ⟨⟨rfl, rfl, rfl, by decide +kernel, rfl, by decide +kernel, by decide +kernel⟩, by decide +kernel, by decide +kernel⟩
theorem ok_rest78 {T : Tx} (M : Mo T) : FnD T 2 "_law_rest" R_rest78 := by
  refine fn_D M.F_rest78 sc_rest78 (fun f fd F => F.binds fun _ _ _ _ _ _ us hl => match us, hl with | [_, _, _], _ => rfl) (by rintro _ _ ⟨_, _, _, rfl, _⟩; rfl) fun Y S Z ds d h => ?_
  have Se := S.toSe
  obtain ⟨p, k, s, rfl, hp, k0, k1, fs, rfl⟩ := h
  have p2 := hp.two_le
  have p7 : p ≤ 7 := by rcases hp with rfl | rfl | rfl | rfl <;> decide
  refine ss_set S 3 ev_int ?_
  refine ss_set S 4 (d := .int (s.den : Int)) (ev_ixT (ev_var Se 2) ev_int rfl) ?_
  have dn : (s.den : Int) ≠ 0 := den_ne s
  have d0 : (0 : Int) < s.den := by omega
  refine ss_while S (fun c => ∃ (e : Nat) (w : Int), c = [.val (.int p), .val (.int k), .val (frD s), .val (.int (e : Int)), .val (.int w), .un, .un, .un, .un, .un, .un] ∧ (s.den : Int) = p ^ e * w ∧ 0 < w) (fun c => match c with | [_, _, _, _, .val (.int w), _, _, _, _, _, _] => w.toNat | _ => 0) ⟨0, s.den, rfl, by rw [Int.pow_zero, Int.one_mul], d0⟩ ?_
  rintro _ ⟨e, w, rfl, hd, w0⟩
  refine ⟨_, te_eqI (ev_modP (ev_var Se 4) (ev_var Se 0) (by omega)) ev_int, fun h => ?_, fun h => ?_⟩
  · have hm : w % p = 0 := of_decide_eq_true h
    have ew : w = p * (w / p) := by
      have := Int.mul_ediv_add_emod w p
      omega
    have w1 : 0 < w / p := by
      refine Classical.byContradiction fun hc => ?_
      have : p * (w / p) ≤ 0 := Int.mul_nonpos_of_nonneg_of_nonpos (by omega) (by omega)
      omega
    refine ss_set S 4 (ev_fdivP (ev_var Se 4) (ev_var Se 0) (by omega) (Bd.of 8 (by omega) (by omega) (by decide +kernel))) ?_
    refine ss_set S 3 (d := .int ((e + 1 : Nat) : Int)) (by rw [show (((e + 1 : Nat)) : Int) = (e : Int) + 1 by omega]; exact ev_add (ev_var Se 3) ev_int) ?_
    refine ss_nil ⟨⟨e + 1, w / p, rfl, by rw [Int.pow_succ, Int.mul_assoc, ← ew]; exact hd, w1⟩, ?_⟩
    show (w / p).toNat < w.toNat
    have : 2 * (w / p) ≤ p * (w / p) := Int.mul_le_mul_of_nonneg_right (by omega) (by omega)
    omega
  have hm : ¬ w % p = 0 := of_decide_eq_false h
  have ve : vp p s.den = e := by rw [hd]; exact vp_of hp hm e
  have e20 : e < 20 := by rw [← ve]; exact vp_le hp dn fs.2
  have wd : (s.den : Int) / p ^ vp p s.den = w := by
    rw [ve, hd]
    exact Int.mul_ediv_cancel_left w (by have := pw_pos hp e; omega)
  refine ss_if (te_le (ev_add (ev_var Se 1) (ev_var Se 3)) ev_int) (fun h2 => ?_) (fun h2 => ss_nil ?_)
  · have h3 := of_decide_eq_true h2
    have e0 : restQ p k s = 0 := by
      unfold restQ
      rw [if_pos (by rw [ve]; exact h3)]
    rw [e0]
    exact ss_ret (ev_tup (ar_cons ev_int (ar_cons ev_int ar_nil))) rfl
  have h3 := of_decide_eq_false h2
  refine ss_set S 5 (d := .int (p ^ (k + e).toNat)) (ev_ixT (ev_call Se 1 (ok_pp78 M) (by decide) (ar_cons (ev_var Se 0) (ar_cons (ev_add (ev_var Se 1) (ev_var Se 3)) ar_nil)) ⟨p, k + e, rfl, hp, by omega, by omega, rfl⟩) ev_int rfl) ?_
  have pz := pw_pos hp (k + e).toNat
  have pb := pw_bd hp (k + e).toNat
  have pn : (k + e).toNat ≤ 920 := by omega
  refine ss_asg (ev_tup (ar_cons (ev_modP (ev_var Se 4) (ev_var Se 5) pz) (ar_cons (ev_var Se 5) (ar_cons ev_int (ar_cons ev_int ar_nil))))) (tg_tupN Se.calm (tgs_cons (tg_name S 6) (tgs_cons (tg_name S 7) (tgs_cons (tg_name S 8) (tgs_cons (tg_name S 9) tgs_nil))))) ?_
  refine ss_while S (fun c => ∃ (x y f g : Int) (s10 : Slot), c = [.val (.int p), .val (.int k), .val (frD s), .val (.int (e : Int)), .val (.int w), .val (.int (p ^ (k + e).toNat)), .val (.int x), .val (.int y), .val (.int f), .val (.int g), s10] ∧ EI w (p ^ (k + e).toNat) x y f g ∧ x ≤ p ^ (k + e).toNat ∧ y ≤ p ^ (k + e).toNat) (fun c => match c with | [_, _, _, _, _, _, _, .val (.int y), _, _, _] => y.toNat | _ => 0) ⟨_, _, _, _, _, rfl, EI.start hp hm (by omega), Int.le_of_lt (Int.emod_lt_of_pos _ pz), Int.le_refl _⟩ ?_
  rintro _ ⟨x, y, f, g, s10, rfl, hE, hx1, hy1⟩
  have x0 := hE.x0
  have y0 := hE.y0
  refine ⟨_, te_neI (ev_var Se 7) ev_int, fun h4 => ?_, fun h4 => ?_⟩
  · have y1 : 0 < y := by have : y ≠ 0 := by simpa using h4
                          omega
    have sm := hE.small y1
    have bM : Bd 2800 (p ^ (k + e).toNat) := pb.mono (by omega)
    have le : ∀ z : Int, (z.natAbs : Int) ≤ p ^ (k + e).toNat → Bd 2800 z := fun z hz => by
      unfold Bd at *
      omega
    have o0 : 0 ≤ x / y := Int.ediv_nonneg (by omega) (by omega)
    have o1 : x / y ≤ x := Int.ediv_le_self _ (by omega)
    have bo : Bd 2800 (x / y) := le _ (by omega)
    refine ss_set S 10 (ev_fdivP (ev_var Se 6) (ev_var Se 7) y1 ((le y (by omega)).mono (by decide))) ?_
    refine ss_asg (ev_tup (ar_cons (ev_var Se 7) (ar_cons (ev_sub (ev_var Se 6) (ev_mul (ev_var Se 10) (ev_var Se 7) (mulOk bo (le y (by omega)) (by decide)))) (ar_cons (ev_var Se 9) (ar_cons (ev_sub (ev_var Se 8) (ev_mul (ev_var Se 10) (ev_var Se 9) (mulOk bo (le g sm.2) (by decide)))) ar_nil))))) (tg_tupN Se.calm (tgs_cons (tg_name S 6) (tgs_cons (tg_name S 7) (tgs_cons (tg_name S 8) (tgs_cons (tg_name S 9) tgs_nil))))) ?_
    have em : x - x / y * y = x % y := by rw [Int.emod_def, Int.mul_comm]
    have lt := Int.emod_lt_of_pos x y1
    have ge := Int.emod_nonneg x (show y ≠ 0 by omega)
    refine ss_nil ⟨⟨_, _, _, _, _, rfl, hE.step y1, hy1, by rw [em]; omega⟩, ?_⟩
    show (x - x / y * y).toNat < y.toNat
    rw [em]
    omega
  have y1 : y = 0 := by simpa using h4
  subst y1
  have fin := hE.fin
  have r8 := rest_78 (f := f) hp k s (by rw [ve]; omega) (by rw [wd, ve]; exact fin)
  rw [ve] at r8
  rw [← r8]
  have sn : s.num.natAbs < 2 ^ 20 := fs.1
  exact ss_ret (ev_call Se 0 (ok_low78 M) (by decide) (ar_cons (ev_modP (ev_mul (ev_ixT (d := .int s.num) (ev_var Se 2) ev_int rfl) (ev_var Se 8) (.of_left (intBits_le_64 (by omega) (by omega)))) (ev_var Se 5) pz) (ar_cons (ev_ixT (d := .int (p ^ ((e : Int)).toNat)) (ev_call Se 1 (ok_pp78 M) (by decide) (ar_cons (ev_var Se 0) (ar_cons (ev_var Se 3) ar_nil)) ⟨p, e, rfl, hp, by omega, by omega, rfl⟩) ev_int rfl) ar_nil)) ⟨_, _, rfl, pw_pos hp _, (pw_bd hp _).mono (by omega), rfl⟩) rfl
abbrev s_prime78 : Stmt := top 71
theorem sc_prime78 : ScB ["_law_script"] ["_law_script"] ["_law_cell"] (defScope s_prime78) := ⟨⟨rfl, rfl, rfl, by decide +kernel, rfl, by decide +kernel, by decide +kernel⟩, by decide +kernel, by decide +kernel⟩
theorem ok_prime78 {T : Tx} (M : Mo T) : FnD T 2 "_law_prime" R_prime78 := by
  refine fn_D M.F_prime78 sc_prime78 (fun f fd F => F.binds fun _ _ _ _ _ _ us hl => match us, hl with | [_], _ => rfl) (by rintro _ _ ⟨_, _, rfl, _⟩; rfl) fun Y S Z ds d h => ?_
  have Se := S.toSe
  obtain ⟨ns, p, rfl, h63, hp, hpa, rfl⟩ := h
  exact ss_ret (ev_ixT (ev_tup (ar_cons ev_int (ar_cons ev_int (ar_cons ev_int (ar_cons ev_int ar_nil))))) (ev_modP (ev_fdivP (ev_call Se 0 (ok_cell78 M) (by decide) (ar_cons (ev_var Se 0) (ar_cons ev_int ar_nil)) ⟨ns, 0, rfl, h63, by decide, by decide, rfl⟩) ev_int (by decide) (by decide +kernel)) ev_int (by decide)) hpa) rfl
abbrev s_marks78 : Stmt := top 72
theorem sc_marks78 : ScB ["_law_error", "_law_marks_here"] ["_law_error"] ["isinstance", "TooFar", "ValueError", "_law_whole", "NoFraction", "NoLine", "NoPrime", "NoRow", "NoSpot", "NoTable", "NoText", "NothingDone", "TooMany"] (defScope s_marks78) := ⟨⟨rfl, rfl, rfl, by decide +kernel, rfl, by decide +kernel, by decide +kernel⟩, by decide +kernel, by decide +kernel⟩
theorem ok_marks78 {T : Tx} (M : Mo T) : FnHF T 2 "_law_marks" "TooFar" R_marks78 := by
  refine fn_HF M.F_marks78 sc_marks78 (fun f fd F => F.binds fun _ _ _ _ _ _ us hl => match us, hl with | [_], _ => rfl) rfl fun Y S C dx n d hC hF h => ?_
  obtain ⟨c_NoFraction, h_NoFraction⟩ := M.g_NoFraction
  obtain ⟨c_NoLine, h_NoLine⟩ := M.g_NoLine
  obtain ⟨c_NoPrime, h_NoPrime⟩ := M.g_NoPrime
  obtain ⟨c_NoRow, h_NoRow⟩ := M.g_NoRow
  obtain ⟨c_NoSpot, h_NoSpot⟩ := M.g_NoSpot
  obtain ⟨c_NoTable, h_NoTable⟩ := M.g_NoTable
  obtain ⟨c_NoText, h_NoText⟩ := M.g_NoText
  obtain ⟨c_NothingDone, h_NothingDone⟩ := M.g_NothingDone
  obtain ⟨c_TooMany, h_TooMany⟩ := M.g_TooMany
  obtain ⟨c_TooFar, h_TooFar⟩ := M.g_TooFar
  cases h
  obtain ⟨C', D', fI, fd, hC', ZF, _⟩ := ok_init M
  cases hC.symm.trans hC'
  refine ss_set0 S 1 (ev_lst (ar_cons (ev_isX S.toSn 0 0 1 rfl (M.e_TooFar C hC) h_TooFar (M.i_TooFar_TooFar C _ hC h_TooFar) M.b_isinstance) (ar_cons (ev_isXB S.toSn 0 0 2 rfl (M.e_TooFar C hC) M.b_ValueError bt_ValueError (M.v_TooFar C hC) M.b_isinstance) (ar_cons (ev_isXT S.toSn 0 0 rfl (M.e_TooFar C hC) (gla_cons S.toSn 4 h_NoFraction (gla_cons S.toSn 5 h_NoLine (gla_cons S.toSn 6 h_NoPrime gla_nil))) (Nat.le_of_ble_eq_true rfl) (any_f (M.i_TooFar_NoFraction C _ hC h_NoFraction) (any_f (M.i_TooFar_NoLine C _ hC h_NoLine) (any_f (M.i_TooFar_NoPrime C _ hC h_NoPrime) any_nil))) M.b_isinstance) ar_nil)))) ?_
  refine ss_set0 S 1 (ev_catL (ev_var0 S.toSn 1) (ev_lst (ar_cons (ev_isXT S.toSn 0 0 rfl (M.e_TooFar C hC) (gla_cons S.toSn 7 h_NoRow (gla_cons S.toSn 8 h_NoSpot (gla_cons S.toSn 9 h_NoTable gla_nil))) (Nat.le_of_ble_eq_true rfl) (any_f (M.i_TooFar_NoRow C _ hC h_NoRow) (any_f (M.i_TooFar_NoSpot C _ hC h_NoSpot) (any_f (M.i_TooFar_NoTable C _ hC h_NoTable) any_nil))) M.b_isinstance) (ar_cons (ev_isXT S.toSn 0 0 rfl (M.e_TooFar C hC) (gla_cons S.toSn 10 h_NoText (gla_cons S.toSn 11 h_NothingDone (gla_cons S.toSn 12 h_TooMany gla_nil))) (Nat.le_of_ble_eq_true rfl) (any_f (M.i_TooFar_NoText C _ hC h_NoText) (any_f (M.i_TooFar_NothingDone C _ hC h_NothingDone) (any_f (M.i_TooFar_TooMany C _ hC h_TooMany) any_nil))) M.b_isinstance) ar_nil)))) ?_
  exact ss_ret (ev_and (ev_eqD0 (d1 := .lst [.bl true, .bl true, .bl false, .bl false, .bl false]) (RoomH_units S.room) (ev_var0 S.toSn 1) (ev_lst (ar_cons ev_bl (ar_cons ev_bl (ar_cons ev_bl (ar_cons ev_bl (ar_cons ev_bl ar_nil))))))) fun _ => ev_one (ev_callDH S 3 (okh_wholeI M) (by decide) (ar_cons (ev_far S.toSn 0 rfl ZF (M.e_TooFar C hC) hF) ar_nil) ⟨n, rfl, rfl⟩)) rfl
abbrev s_told78 : Stmt := top 73
theorem sc_told78 : ScB ["_law_p", "_law_table", "_law_found", "_law_error"] ["_law_p", "_law_table"] ["TreeError", "kind", "_law_marks"] (defScope s_told78) := ⟨⟨rfl, rfl, rfl, by decide +kernel, rfl, by decide +kernel, by decide +kernel⟩, by decide +kernel, by decide +kernel⟩
theorem ok_told78 {T : Tx} (M : Mo T) : FnD T 11 "_law_told" R_told78 := by
  refine fn_D M.F_told78 sc_told78 (fun f fd F => F.binds fun _ _ _ _ _ _ us hl => match us, hl with | [_, _], _ => rfl) (by rintro _ _ ⟨_, ⟨_, _, _, _, _, _, _, _, _, rfl, _⟩, _⟩; rfl) fun Y S Z ds d h => ?_
  have Se := S.toSe
  obtain ⟨r, hk, hr⟩ := h
  obtain ⟨p, t, _, _, _, _, _, _, _, rfl, _⟩ := id hk
  refine ss_set S 2 ev_non ?_
  obtain ⟨Ct, hCt⟩ := M.g_TreeError
  cases r with
  | ok d' =>
    cases hr
    refine ss_tryZ (cl := "TooFar") S Z 3 0 0 False (by decide +kernel) hCt (fun C hC => M.m_TooFar_TreeError C Ct hC hCt) (fun Y' S' hz => ?_) (fun Yh Sh C dx hq => hq.elim)
    exact ss_set S' 2 (ev_callZ S'.toSe 1 (okz_kind78 M) (by decide) (ar_cons (ev_var S'.toSe 0) (ar_cons (ev_var S'.toSe 1) ar_nil)) hk) (ss_nil (ss_ret (ev_var Se 2) rfl))
  | far n =>
    cases hr
    refine ss_tryZ (cl := "TooFar") S Z 3 0 n True (by decide +kernel) hCt (fun C hC => M.m_TooFar_TreeError C Ct hC hCt) (fun Y' S' hz => ?_) (fun Yh Sh C dx _ hC hF => ?_)
    · exact ss_setX S' 2 (ev_callZX S'.toSe 1 (okz_kind78 M) (by decide) (ar_cons (ev_var S'.toSe 0) (ar_cons (ev_var S'.toSe 1) ar_nil)) hk (hz trivial))
    · obtain ⟨C', D', fI, fd, hC', ZF, _⟩ := ok_init M
      cases hC.symm.trans hC'
      refine ss_set0 Sh 2 (ev_tup (ar_cons ev_str (ar_cons ev_int ar_nil))) ?_
      refine ss_if (te_val (ev_callHF Sh.toSn 2 (ok_marks78 M) (Sh.room.mono (by decide)) (ex_name Sh.toSn 3 rfl hC hF) (d := .bl true) rfl)) (fun _ => ?_) (fun h => nomatch h)
      refine ss_set0 Sh 2 (ev_tup (ar_cons ev_str (ar_cons (ev_far Sh.toSn 3 rfl ZF (M.e_TooFar C hC) hF) ar_nil))) (ss_nil (ss_nil ?_))
      exact ss_ret (ev_var Se 2) rfl
abbrev s_right78 : Stmt := top 74
theorem sc_right78 : ScB ["_law_p", "_law_found", "_law_steps", "_law_off", "_law_rising", "_law_first", "_law_k", "_law_level"] ["_law_p", "_law_found", "_law_steps", "_law_off", "_law_rising"] ["range", "isinstance", "tuple", "len", "_law_whole", "list", "_law_rest"] (defScope s_right78) := ⟨⟨rfl, rfl, rfl, by decide +kernel, rfl, by decide +kernel, by decide +kernel⟩, by decide +kernel, by decide +kernel⟩
theorem ok_right78 {T : Tx} (M : Mo T) : FnD T 3 "_law_right" R_right78 := by
  refine fn_D M.F_right78 sc_right78 (fun f fd F => F.binds fun _ _ _ _ _ _ us hl => match us, hl with | [_, _, _, _, _], _ => rfl) (by rintro _ _ ⟨_, _, _, _, _, rfl, _⟩; rfl) fun Y S Z ds d h => ?_
  have Se := S.toSe
  obtain ⟨p, n, g, k1, s, rfl, hp, hg, n0, n1, c0, c1, fs, rfl⟩ := h
  refine ss_if (te_or (te_not (te_val (ev_isi Se 1 2 (ev_var Se 1) (b := true) rfl M.b_isinstance M.b_tuple bt_tuple))) fun _ => te_or (te_neI (i := 3) (j := 3) (ev_len Se 3 (n := 3) (ar_cons (ev_var Se 1) ar_nil) rfl M.b_len) ev_int) fun _ => te_or (te_neS (x := "slides") (y := "slides") (ev_ixT (ev_var Se 1) ev_int rfl) ev_str) fun _ => te_or1 (te_not (te_val (ev_call Se 4 (ok_wholeI M) (by decide) (ar_cons (ev_ixT (d := .int n) (ev_var Se 1) ev_int rfl) ar_nil) ⟨_, rfl, rfl⟩)))).pt (fun h => by exfalso; revert h; decide) (fun _ => ss_nil ?_)
  refine ss_if (te_or (te_neI (i := n) (j := n) (ev_ixT (ev_var Se 1) ev_int rfl) (ev_var Se 2)) fun _ => te_or (te_not (te_val (ev_isi Se 1 5 (ev_ixT (d := .lst (LA p s k1 g n)) (ev_var Se 1) ev_int rfl) (b := true) rfl M.b_isinstance M.b_list bt_list42))) fun _ => te_or1 (te_neI (i := n + 1) (j := n + 1) ?LN (ev_add (ev_var Se 2) ev_int))).pt (fun h => by exfalso; simp at h) (fun _ => ss_nil ?_)
  case LN =>
    have e : n + 1 = (((n.toNat + 1 : Nat)) : Int) := by omega
    rw [e]
    exact ev_len Se 3 (ar_cons (ev_ixT (d := .lst (LA p s k1 g n)) (ev_var Se 1) ev_int rfl) ar_nil) (by show some _ = some _; rw [la_len78]) M.b_len
  refine ss_set S 5 (d := .int k1) (ev_ixT (d := .int k1) (ds := [.int k1, frD (restQ p k1 s)]) ?F0 ev_int rfl) ?_
  case F0 =>
    have e : (.tup [.int k1, frD (restQ p k1 s)] : D) = stD (axS p s (k1 + g * 0)) := by rw [Int.mul_zero, Int.add_zero]; rfl
    rw [e]
    exact ev_ixL (ev_ixT (d := .lst (LA p s k1 g n)) (ev_var Se 1) ev_int rfl) ev_int (la_at78 (Int.le_refl 0) n0)
  refine ss_for S (it_range1 Se 0 (ar_cons (ev_add (ev_var Se 2) ev_int) ar_nil) (by omega) (by omega) M.b_range) (fun _ c => ∃ s6 s7 : Slot, c = [.val (.int p), .val (.tup [.str "slides", .int n, .lst (LA p s k1 g n)]), .val (.int n), .val (frD s), .val (.int g), .val (.int k1), s6, s7]) ⟨_, _, rfl⟩ ?_ ?_
  · rintro m d _ hd ⟨s6, s7, rfl⟩
    obtain ⟨hm, rfl⟩ := rangeD_of hd
    have hm : (m : Int) ≤ n := by omega
    refine ⟨_, tg_name S 6, ?_⟩
    refine ss_set S 7 (ev_add (ev_var Se 5) (ev_mul (ev_var Se 4) (ev_var Se 6) (.of_left (intBits_le_64 (by omega) (by omega))))) ?_
    rw [show (0 : Int) + (m : Int) * 1 = (m : Int) by omega]
    have gm : -500 ≤ g * (m : Int) ∧ g * (m : Int) ≤ 500 := by rcases hg with rfl | rfl <;> omega
    have at8 := la_at78 (p := p) (s := s) (k1 := k1) (g := g) (n := n) (i := (m : Int)) (by omega) hm
    generalize g * (m : Int) = gmv at gm at8 ⊢
    refine ss_if (te_neD Se (d1 := stD (axS p s (k1 + gmv))) (d2 := stD (axS p s (k1 + gmv))) (ev_ixL (ev_ixT (d := .lst (LA p s k1 g n)) (ev_var Se 1) ev_int rfl) (ev_var Se 6) at8) ?RS rfl rfl) (fun h => ?_) (fun _ => ss_nil (ss_nil ⟨_, _, rfl⟩))
    case RS => exact ev_tup (ar_cons (ev_var Se 7) (ar_cons (ev_call Se 6 (ok_rest78 M) (by decide) (ar_cons (ev_var Se 0) (ar_cons (ev_var Se 7) (ar_cons (ev_var Se 3) ar_nil))) ⟨p, k1 + gmv, s, rfl, hp, by omega, by omega, fs.mono (by decide), rfl⟩) ar_nil))
    exfalso
    rw [eq_st42] at h
    simp at h
  · rintro _ ⟨s6, s7, rfl⟩
    exact ss_ret ev_bl rfl
abbrev s_law : Stmt := top 75
theorem sc_law : ScB ["_law_script", "_law_p", "_law_steps", "_law_unit", "_law_long", "_law_table", "_law_rising", "_law_off", "_law_found"] ["_law_script"] ["_law_prime", "times", "_law_told", "_law_right", "_law_low", "product", "_law_cell", "prime_power", "_law_marks", "TooFar"] (defScope s_law) := ⟨⟨rfl, rfl, rfl, by decide +kernel, rfl, by decide +kernel, by decide +kernel⟩, by decide +kernel, by decide +kernel⟩
theorem okk_law {T : Tx} (M : Mo T) {f : Addr} {fd : FuncData} (F : Fun T.K "law" "law" s_law f fd) : FnOk T.prog T.w T.K T.mg T.base CX0 12 f fd ["_law_script"] (spD T.K R_law) := by
  refine fn_Dk F sc_law (by rintro _ _ ⟨_, rfl, _, rfl⟩; rfl) fun Y S Z ds d h => ?_
  have Se := S.toSe
  obtain ⟨ns, rfl, h63, rfl⟩ := h
  obtain ⟨p, hp, hpa⟩ := prime_at (i := ccell ns 0 / 2 % 4) (by omega) (by omega)
  have p2 := hp.two_le
  have p7 : p ≤ 7 := by rcases hp with rfl | rfl | rfl | rfl <;> decide
  refine ss_set S 1 (d := .int p) (ev_call Se 0 (ok_prime78 M) (by decide) (ar_cons (ev_var Se 0) ar_nil) ⟨ns, p, rfl, h63, hp, hpa, rfl⟩) ?_
  refine ss_set S 2 (ev_add ev_int (ev_modP (ev_call Se 6 (ok_cell78 M) (by decide) (ar_cons (ev_var Se 0) (ar_cons ev_int ar_nil)) ⟨ns, 1, rfl, h63, by decide, by decide, rfl⟩) ev_int (by decide))) ?_
  refine ss_ifI S 2 (a := 499 + ccell ns 1 % 4) (b := 480 + ccell ns 1 % 41) (te_eqI (ev_modP (ev_call Se 6 (ok_cell78 M) (by decide) (ar_cons (ev_var Se 0) (ar_cons ev_int ar_nil)) ⟨ns, 2, rfl, h63, by decide, by decide, rfl⟩) ev_int (by decide)) ev_int) (fun _ => ev_add ev_int (ev_modP (ev_call Se 6 (ok_cell78 M) (by decide) (ar_cons (ev_var Se 0) (ar_cons ev_int ar_nil)) ⟨ns, 1, rfl, h63, by decide, by decide, rfl⟩) ev_int (by decide))) ?_
  obtain ⟨n, en, n0, n1⟩ : ∃ n : Int, (if decide (ccell ns 2 % 2 = 1) = true then 499 + ccell ns 1 % 4 else 480 + ccell ns 1 % 41) = n ∧ 480 ≤ n ∧ n ≤ 520 := ⟨_, rfl, by split <;> omega, by split <;> omega⟩
  rw [en]
  clear en
  refine ss_set S 3 (ev_add ev_int (ev_modP (ev_call Se 6 (ok_cell78 M) (by decide) (ar_cons (ev_var Se 0) (ar_cons ev_int ar_nil)) ⟨ns, 3, rfl, h63, by decide, by decide, rfl⟩) ev_int (by decide))) ?_
  obtain ⟨u0, eu, a0, a1⟩ : ∃ u0 : Int, 1 + ccell ns 3 % 30 = u0 ∧ 1 ≤ u0 ∧ u0 ≤ 30 := ⟨_, rfl, by omega, by omega⟩
  rw [eu]
  clear eu
  refine ss_while S (fun c => ∃ u : Int, c = [.val (.lst (ns.map D.int)), .val (.int p), .val (.int n), .val (.int u), .un, .un, .un, .un, .un] ∧ 1 ≤ u ∧ u ≤ 30) (fun c => match c with | [_, _, _, .val (.int u), _, _, _, _, _] => u.toNat | _ => 0) ⟨u0, rfl, a0, a1⟩ ?_
  rintro _ ⟨u, rfl, b0, b1⟩
  refine ⟨_, te_eqI (ev_modP (ev_var Se 3) (ev_var Se 1) (by omega)) ev_int, fun h => ?_, fun h => ?_⟩
  · have hm : u % p = 0 := of_decide_eq_true h
    have ew : p * (u / p) = u := by
      have := Int.mul_ediv_add_emod u p
      omega
    have w1 : 1 ≤ u / p := by
      refine Classical.byContradiction fun hc => ?_
      have : p * (u / p) ≤ 0 := Int.mul_nonpos_of_nonneg_of_nonpos (by omega) (by omega)
      omega
    have w2 : 2 * (u / p) ≤ p * (u / p) := Int.mul_le_mul_of_nonneg_right (by omega) (by omega)
    refine ss_set S 3 (ev_fdivP (ev_var Se 3) (ev_var Se 1) (by omega) (Bd.of 8 (by omega) (by omega) (by decide +kernel))) (ss_nil ⟨⟨u / p, rfl, w1, by omega⟩, ?_⟩)
    show (u / p).toNat < u.toNat
    omega
  have hu : ¬ u % p = 0 := of_decide_eq_false h
  have hL := lng78 hp hu (by omega) b1 n0 n1
  have f250 : Fb 4400 (ppw p 250) := (ppw_fb hp 250 (by decide) (by decide)).mono (by decide)
  have f251 : Fb 4400 (ppw p (n - 250)) := (ppw_fb hp 270 (by omega) (by omega)).mono (by decide)
  have f252 : Fb 4400 (ppw p 250 * ppw p (n - 250)) := ((ppw_fb hp 250 (by decide) (by decide)).mul (ppw_fb hp 270 (k := n - 250) (by omega) (by omega))).mono (by decide)
  have fu : Fb 4400 (u : Rat) := by
    refine ⟨?_, ?_⟩
    · rw [Rat.num_intCast]; exact Bd.of 31 (by omega) (by omega) (by decide +kernel)
    · rw [Rat.den_intCast]; decide +kernel
  refine ss_set S 4 (d := frD (ppw p 250 * ppw p (n - 250) * (u : Rat))) (ev_call Se 1 (ok_times M) (by decide) (ar_cons (ev_call Se 1 (ok_times M) (by decide) (ar_cons (ev_call Se 7 (ok_prime_power M) (by decide) (ar_cons (ev_var Se 1) (ar_cons ev_int ar_nil)) ⟨p, 250, rfl, hp, by decide, by decide, rfl⟩) (ar_cons (ev_call Se 7 (ok_prime_power M) (by decide) (ar_cons (ev_var Se 1) (ar_cons (ev_sub (ev_var Se 2) ev_int) ar_nil)) ⟨p, n - 250, rfl, hp, by omega, by omega, rfl⟩) ar_nil)) ⟨_, _, rfl, f250, f251, rfl⟩) (ar_consT (ev_tup (ar_cons (ev_var Se 3) (ar_cons ev_int ar_nil))) ar_nil)) ⟨_, (u : Rat), rfl, f252, fu, rfl⟩) ?_
  clear f250 f251 f252 fu
  generalize ppw p 250 * ppw p (n - 250) * (u : Rat) = X at hL ⊢
  refine ss_set S 5 (d := tbD ⟨X, 0, 0, 1⟩) ?TA ?_
  case TA =>
    refine ev_tup ?ta0
    refine ar_cons ?taa ?ta1
    case taa => exact (ev_var Se 4)
    refine ar_cons ?tab ?ta2
    case tab => exact (ev_tup (ar_cons ev_int (ar_cons ev_int ar_nil)))
    refine ar_cons ?tac ?ta3
    case tac => exact (ev_tup (ar_cons ev_int (ar_cons ev_int ar_nil)))
    refine ar_cons ?tad ar_nil
    case tad => exact (ev_tup (ar_cons ev_int (ar_cons ev_int ar_nil)))
  refine ss_set S 6 ev_int ?_
  refine ss_ifJ (fun c => ∃ (t : Tb) (g : Int), c = [.val (.lst (ns.map D.int)), .val (.int p), .val (.int n), .val (.int u), .val (frD X), .val (tbD t), .val (.int g), .un, .un] ∧ ((t = ⟨X, 0, 0, 1⟩ ∧ g = 1) ∨ (t = ⟨1, 0, 0, X⟩ ∧ g = -1))) (te_eqI (ev_modP (ev_fdivP (ev_call Se 6 (ok_cell78 M) (by decide) (ar_cons (ev_var Se 0) (ar_cons ev_int ar_nil)) ⟨ns, 2, rfl, h63, by decide, by decide, rfl⟩) ev_int (by decide) (by decide +kernel)) ev_int (by decide)) ev_int) (fun _ => ?A) (fun _ => ⟨_, _, rfl, .inl ⟨rfl, rfl⟩⟩) ?_
  case A =>
    refine ss_set S 5 (d := tbD ⟨1, 0, 0, X⟩) ?TB ?_
    case TB =>
      refine ev_tup ?tb0
      refine ar_cons ?tba ?tb1
      case tba => exact (ev_tup (ar_cons ev_int (ar_cons ev_int ar_nil)))
      refine ar_cons ?tbb ?tb2
      case tbb => exact (ev_tup (ar_cons ev_int (ar_cons ev_int ar_nil)))
      refine ar_cons ?tbc ?tb3
      case tbc => exact (ev_tup (ar_cons ev_int (ar_cons ev_int ar_nil)))
      refine ar_cons ?tbd ar_nil
      case tbd => exact (ev_var Se 4)
    exact ss_set S 6 (ev_neg ev_int) (ss_nil ⟨_, _, rfl, .inr ⟨rfl, rfl⟩⟩)
  rintro _ ⟨t0, g, rfl, ht0⟩
  refine ss_set S 7 (d := frD 0) (ev_tup (ar_cons ev_int (ar_cons ev_int ar_nil))) ?_
  refine ss_ifJ (fun c => ∃ (t : Tb) (s : Rat), c = [.val (.lst (ns.map D.int)), .val (.int p), .val (.int n), .val (.int u), .val (frD X), .val (tbD t), .val (.int g), .val (frD s), .un] ∧ Fb 10 s ∧ ((t = ⟨X, s - s * X, 0, 1⟩ ∧ g = 1) ∨ (t = ⟨1, s * X - s, 0, X⟩ ∧ g = -1))) (te_eqI (ev_modP (ev_call Se 6 (ok_cell78 M) (by decide) (ar_cons (ev_var Se 0) (ar_cons ev_int ar_nil)) ⟨ns, 4, rfl, h63, by decide, by decide, rfl⟩) ev_int (by decide)) ev_int) (fun _ => ?B) (fun _ => ⟨t0, 0, rfl, fb_zero.mono (by decide), ?C⟩) ?_
  case C =>
    rcases ht0 with ⟨rfl, rfl⟩ | ⟨rfl, rfl⟩
    · exact .inl ⟨noneA78 X, rfl⟩
    · exact .inr ⟨noneB78 X, rfl⟩
  case B =>
    have c6 := Int.emod_nonneg (ccell ns 6) (show (40 : Int) ≠ 0 by decide)
    refine ss_set S 7 (d := frD (Rat.divInt (ccell ns 5 % 2001 - 1000) (1 + ccell ns 6 % 40))) (ev_call Se 4 (ok_low78 M) (by decide) (ar_cons (ev_sub (ev_modP (ev_call Se 6 (ok_cell78 M) (by decide) (ar_cons (ev_var Se 0) (ar_cons ev_int ar_nil)) ⟨ns, 5, rfl, h63, by decide, by decide, rfl⟩) ev_int (by decide)) ev_int) (ar_cons (ev_add ev_int (ev_modP (ev_call Se 6 (ok_cell78 M) (by decide) (ar_cons (ev_var Se 0) (ar_cons ev_int ar_nil)) ⟨ns, 6, rfl, h63, by decide, by decide, rfl⟩) ev_int (by decide))) ar_nil)) ⟨_, _, rfl, by omega, Bd.of 41 (by omega) (by omega) (by decide +kernel), rfl⟩) ?_
    have fs : Fb 10 (Rat.divInt (ccell ns 5 % 2001 - 1000) (1 + ccell ns 6 % 40)) := Fb.divInt (by omega) (Bd.of 1001 (by omega) (by omega) (by decide)) (Bd.of 41 (by omega) (by omega) (by decide))
    generalize Rat.divInt (ccell ns 5 % 2001 - 1000) (1 + ccell ns 6 % 40) = s at fs ⊢
    have f1 : Fb 1 (1 : Rat) := fb_one
    have fz : Fb 1 (0 : Rat) := fb_zero
    have tm : Tbb 10 ⟨1, -s, 0, 1⟩ := ⟨f1.mono (by decide), fs.neg, fz.mono (by decide), f1.mono (by decide)⟩
    have tl : Tbb 10 ⟨1, s, 0, 1⟩ := ⟨f1.mono (by decide), fs, fz.mono (by decide), f1.mono (by decide)⟩
    have tt : Tbb 1570 t0 := by
      rcases ht0 with ⟨rfl, rfl⟩ | ⟨rfl, rfl⟩
      · exact ⟨hL.fb, fz.mono (by decide), fz.mono (by decide), f1.mono (by decide)⟩
      · exact ⟨f1.mono (by decide), fz.mono (by decide), fz.mono (by decide), hL.fb⟩
    refine ss_set S 5 (d := tbD ((⟨1, s, 0, 1⟩ : Tb).mul (t0.mul ⟨1, -s, 0, 1⟩))) ?TC ?_
    case TC =>
      refine ev_call Se 5 (ok_product M) (ds := [tbD ⟨1, s, 0, 1⟩, tbD (t0.mul ⟨1, -s, 0, 1⟩)]) (by decide) (ar_cons ?L1 (ar_cons ?PR ar_nil)) ⟨⟨1, s, 0, 1⟩, t0.mul ⟨1, -s, 0, 1⟩, rfl, tl.pok (tt.mul tm) (by decide), rfl⟩
      case PR =>
        refine ev_call Se 5 (ok_product M) (ds := [tbD t0, tbD ⟨1, -s, 0, 1⟩]) (by decide) (ar_cons (ev_var Se 5) (ar_cons ?L2 ar_nil)) ⟨t0, ⟨1, -s, 0, 1⟩, rfl, tt.pok tm (by decide), rfl⟩
        case L2 =>
          refine ev_tup ?m0
          refine ar_cons ?ma ?m1
          case ma => exact (ev_tup (ar_cons ev_int (ar_cons ev_int ar_nil)))
          refine ar_cons ?mb ?m2
          case mb => exact (ev_tup (ar_cons (ev_neg (ev_ixT (d := .int s.num) (ev_var Se 7) ev_int rfl)) (ar_cons (ev_ixT (d := .int s.den) (ev_var Se 7) ev_int rfl) ar_nil)))
          refine ar_cons ?mc ?m3
          case mc => exact (ev_tup (ar_cons ev_int (ar_cons ev_int ar_nil)))
          refine ar_cons ?md ar_nil
          case md => exact (ev_tup (ar_cons ev_int (ar_cons ev_int ar_nil)))
      case L1 =>
        refine ev_tup ?l0
        refine ar_cons ?la ?l1
        case la => exact (ev_tup (ar_cons ev_int (ar_cons ev_int ar_nil)))
        refine ar_cons ?lb ?l2
        case lb => exact (ev_var Se 7)
        refine ar_cons ?lc ?l3
        case lc => exact (ev_tup (ar_cons ev_int (ar_cons ev_int ar_nil)))
        refine ar_cons ?ld ar_nil
        case ld => exact (ev_tup (ar_cons ev_int (ar_cons ev_int ar_nil)))
    refine ss_nil ⟨_, s, rfl, fs, ?_⟩
    rcases ht0 with ⟨rfl, rfl⟩ | ⟨rfl, rfl⟩
    · exact .inl ⟨conjA78 X s, rfl⟩
    · exact .inr ⟨conjB78 X s, rfl⟩
  rintro _ ⟨t, s, rfl, fs, ht⟩
  obtain ⟨y, m, hS, kb, hv1, hv2, hgm⟩ : ∃ y m, Sld p t y s m ∧ Kb p t y s ∧ vq p (t.a + t.d) = some 0 ∧ vq p t.det = some n ∧ ((g = 1 ∧ m = n) ∨ (g = -1 ∧ m = -n)) := by
    rcases ht with ⟨ht, rfl⟩ | ⟨ht, rfl⟩
    · obtain ⟨h1, h2, h3, h4⟩ := tabA78 hp hL n0 fs ht
      exact ⟨X, n, h1, h2, h3, h4, .inl ⟨rfl, rfl⟩⟩
    · obtain ⟨h1, h2, h3, h4⟩ := tabB78 hp hL n0 fs ht
      exact ⟨X⁻¹, -n, h1, h2, h3, h4, .inr ⟨rfl, rfl⟩⟩
  have d10 := dv10_78 hp fs
  obtain ⟨_, _, _, _, c0, c1, _⟩ := mid_is78 hp hS.vy (show m = n ∨ m = -n by omega) (by omega) n1 d10
  obtain ⟨C, D8, fI, fd, hC, ZF, hk, hb8, FI⟩ := ok_init M
  by_cases h5 : n ≤ 500
  · refine ss_set S 8 (d := .tup [.str "slides", .int n, .lst (LA p s (mid78 p y s m).1 g n)]) (ev_call Se 2 (ok_told78 M) (by decide) (ar_cons (ev_var Se 1) (ar_cons (ev_var Se 5) ar_nil)) ⟨.ok _, ⟨p, t, y, s, m, n, g, 0, n, rfl, hp, hS, hgm, by omega, n1, d10, kb, hv1, hv2, by omega, .inl ⟨h5, rfl⟩⟩, rfl⟩) ?_
    refine ss_if (te_or (te_not (te_val (ev_callHF Se.toSn 8 (ok_marks78 M) (roomH_of Se.room (by decide)) (ex_make Se 9 Z.ex ZF hC hk FI (by decide) hb8 (ev_var Se 2) (by omega)) (d := .bl true) rfl))) fun _ => te_or1 (te_neI (i := n) (j := n) (ev_farx Se.toSn hC ZF (M.e_TooFar C hC) (ex_make Se 9 Z.ex ZF hC hk FI (by decide) hb8 (ev_var Se 2) (by omega))) (ev_var Se 2))).pt (fun h => by exfalso; simp at h) (fun _ => ss_nil ?_)
    refine ss_if (te_gt (ev_var Se 2) ev_int) (fun h => absurd (of_decide_eq_true h) (by omega)) (fun _ => ss_nil ?_)
    exact ss_ret (ev_call Se 3 (ok_right78 M) (by decide) (ar_cons (ev_var Se 1) (ar_cons (ev_var Se 8) (ar_cons (ev_var Se 2) (ar_cons (ev_var Se 7) (ar_cons (ev_var Se 6) ar_nil))))) ⟨p, n, g, (mid78 p y s m).1, s, rfl, hp, by omega, by omega, h5, c0, c1, fs, rfl⟩) rfl
  · refine ss_set S 8 (d := .tup [.str "far", .int n]) (ev_call Se 2 (ok_told78 M) (by decide) (ar_cons (ev_var Se 1) (ar_cons (ev_var Se 5) ar_nil)) ⟨.far n, ⟨p, t, y, s, m, n, g, 0, n, rfl, hp, hS, hgm, by omega, n1, d10, kb, hv1, hv2, by omega, .inr ⟨by omega, rfl⟩⟩, rfl⟩) ?_
    refine ss_if (te_or (te_not (te_val (ev_callHF Se.toSn 8 (ok_marks78 M) (roomH_of Se.room (by decide)) (ex_make Se 9 Z.ex ZF hC hk FI (by decide) hb8 (ev_var Se 2) (by omega)) (d := .bl true) rfl))) fun _ => te_or1 (te_neI (i := n) (j := n) (ev_farx Se.toSn hC ZF (M.e_TooFar C hC) (ex_make Se 9 Z.ex ZF hC hk FI (by decide) hb8 (ev_var Se 2) (by omega))) (ev_var Se 2))).pt (fun h => by exfalso; simp at h) (fun _ => ss_nil ?_)
    refine ss_if (te_gt (ev_var Se 2) ev_int) (fun _ => ?_) (fun h => absurd (of_decide_eq_false h) (by omega))
    refine ss_ret (ev_eqD Se (d1 := .tup [.str "far", .int n]) (d2 := .tup [.str "far", .int n]) (ev_var Se 8) (ev_tup (ar_cons ev_str (ar_cons (ev_var Se 2) ar_nil))) (sh_far78 n) (sh_far78 n)) ?_
    show D.bl _ = D.bl true
    rw [eq_far78]
theorem all_mk {l : PySem.W.OpenLaw} {w : World} {K : PySem.W.Frag} {h : Heap} {mg : Str → Option Value} {fa f0 f1 f2 f3 f4 f5 f6 f7 f8 f9 f10 f11 f12 f13 f14 f15 f16 f17 f18 f19 f20 f21 f22 f23 f24 f25 f26 f27 f28 f29 f30 f31 f32 f33 f34 f35 f36 f37 f38 f39 f40 f41 f42 c_TreeError c_NoPrime c_NoFraction c_NoText c_NoSpot c_NoTable c_TooMany c_NoLine c_NoRow c_NothingDone c_TooFar c_NOUGHT c_ONE : Addr} (X : K.In h) (G : h.Ns mainGlobals mg) (hfa : mg "law" = some (.ref fa))
    {od0 an0 od1 an1 od2 an2 od3 an3 od4 an4 od5 an5 od6 an6 od7 an7 od8 an8 od9 an9 od10 an10 od11 an11 od12 an12 od13 an13 od14 an14 od15 an15 od16 an16 od17 an17 od18 an18 od19 an19 od20 an20 od21 an21 od22 an22 od23 an23 od24 an24 od25 an25 od26 an26 od27 an27 od28 an28 od29 an29 od30 an30 od31 an31 od32 an32 od33 an33 od34 an34 od35 an35 od36 an36 od37 an37 od38 an38 od39 an39 od40 an40 od41 an41 od42 an42 : Option Addr} {sl0 sl1 sl2 sl3 sl4 sl5 sl6 sl7 sl8 sl9 sl10 sl11 sl12 sl13 sl14 sl15 sl16 sl17 sl18 sl19 sl20 sl21 sl22 sl23 sl24 sl25 sl26 sl27 sl28 sl29 sl30 sl31 sl32 sl33 sl34 sl35 sl36 sl37 sl38 sl39 sl40 sl41 sl42 : Array (Option Value)} {oc0 kV0 dc0 pm0 cd0 ct0 oc1 kV1 dc1 pm1 cd1 ct1 oc2 kV2 dc2 pm2 cd2 ct2 oc3 kV3 dc3 pm3 cd3 ct3 oc4 kV4 dc4 pm4 cd4 ct4 oc5 toc5 kV5 dc5 pm5 cd5 ct5 oc6 kV6 dc6 pm6 cd6 ct6 oc7 kV7 dc7 pm7 cd7 ct7 oc8 kV8 dc8 pm8 cd8 ct8 oc9 kV9 dc9 pm9 cd9 ct9 oc10 kV10 dc10 pm10 cd10 ct10 oc11 kV11 dc11 pm11 cd11 ct11 oc12 kV12 dc12 pm12 cd12 ct12 oc13 kV13 dc13 pm13 cd13 ct13 oc14 kV14 dc14 pm14 cd14 ct14 oc15 kV15 dc15 pm15 cd15 ct15 oc16 kV16 dc16 pm16 cd16 ct16 oc17 kV17 dc17 pm17 cd17 ct17 oc18 kV18 dc18 pm18 cd18 ct18 oc19 kV19 dc19 pm19 cd19 ct19 oc20 kV20 dc20 pm20 cd20 ct20 oc21 kV21 dc21 pm21 cd21 ct21 oc22 kV22 dc22 pm22 cd22 ct22 oc23 kV23 dc23 pm23 cd23 ct23 oc24 kV24 dc24 pm24 cd24 ct24 oc25 kV25 dc25 pm25 cd25 ct25 oc26 kV26 dc26 pm26 cd26 ct26 oc27 kV27 dc27 pm27 cd27 ct27 oc28 kV28 dc28 pm28 cd28 ct28 oc29 kV29 dc29 pm29 cd29 ct29 oc30 kV30 dc30 pm30 cd30 ct30 oc31 kV31 dc31 pm31 cd31 ct31 oc32 kV32 dc32 pm32 cd32 ct32 oc33 kV33 dc33 pm33 cd33 ct33 oc34 kV34 dc34 pm34 cd34 ct34 oc35 kV35 dc35 pm35 cd35 ct35 oc36 kV36 dc36 pm36 cd36 ct36 oc37 kV37 dc37 pm37 cd37 ct37 oc38 kV38 dc38 pm38 cd38 ct38 oc39 kV39 dc39 pm39 cd39 ct39 oc40 kV40 dc40 pm40 cd40 ct40 oc41 kV41 dc41 pm41 cd41 ct41 oc42 kV42 dc42 pm42 cd42 ct42 : Value}
    {Td5 : Addr} {ttk5 : Tok} {tn5 : Nat} {tod5 : Option Addr} {tsl5 : Array (Option Value)}
    (a0 : PySem.W.nsIn K mainGlobals "shared" = some (some (.ref f0))) (l0 : K.lookup f0 = some ⟨oc0, od0, .func (PySem.W.fnOf "shared" "shared" (defArgs s_shared) (defBody s_shared) (defScope s_shared) .none kV0 dc0 pm0 an0 cd0 ct0), sl0⟩) (c0 : PySem.W.codeIn K cd0 "shared" = true) (k0 : PySem.W.keepIn K (.ref f0) = true)
    (a1 : PySem.W.nsIn K mainGlobals "power_of" = some (some (.ref f1))) (l1 : K.lookup f1 = some ⟨oc1, od1, .func (PySem.W.fnOf "power_of" "power_of" (defArgs s_power_of) (defBody s_power_of) (defScope s_power_of) .none kV1 dc1 pm1 an1 cd1 ct1), sl1⟩) (c1 : PySem.W.codeIn K cd1 "power_of" = true) (k1 : PySem.W.keepIn K (.ref f1) = true)
    (a2 : PySem.W.nsIn K mainGlobals "raised" = some (some (.ref f2))) (l2 : K.lookup f2 = some ⟨oc2, od2, .func (PySem.W.fnOf "raised" "raised" (defArgs s_raised) (defBody s_raised) (defScope s_raised) .none kV2 dc2 pm2 an2 cd2 ct2), sl2⟩) (c2 : PySem.W.codeIn K cd2 "raised" = true) (k2 : PySem.W.keepIn K (.ref f2) = true)
    (a3 : PySem.W.nsIn K mainGlobals "over_by" = some (some (.ref f3))) (l3 : K.lookup f3 = some ⟨oc3, od3, .func (PySem.W.fnOf "over_by" "over_by" (defArgs s_over_by) (defBody s_over_by) (defScope s_over_by) .none kV3 dc3 pm3 an3 cd3 ct3), sl3⟩) (c3 : PySem.W.codeIn K cd3 "over_by" = true) (k3 : PySem.W.keepIn K (.ref f3) = true)
    (a4 : PySem.W.nsIn K mainGlobals "over_by_prime" = some (some (.ref f4))) (l4 : K.lookup f4 = some ⟨oc4, od4, .func (PySem.W.fnOf "over_by_prime" "over_by_prime" (defArgs s_obp) (defBody s_obp) (defScope s_obp) .none kV4 dc4 pm4 an4 cd4 ct4), sl4⟩) (c4 : PySem.W.codeIn K cd4 "over_by_prime" = true) (k4 : PySem.W.keepIn K (.ref f4) = true)
    (a5 : PySem.W.nsIn K mainGlobals "fraction" = some (some (.ref f5))) (l5 : K.lookup f5 = some ⟨oc5, od5, .func (PySem.W.fnOf "fraction" "fraction" (defArgs s_fraction) (defBody s_fraction) (defScope s_fraction) (.ref Td5) kV5 dc5 pm5 an5 cd5 ct5), sl5⟩) (c5 : PySem.W.codeIn K cd5 "fraction" = true) (k5 : PySem.W.keepIn K (.ref f5) = true)
    (a6 : PySem.W.nsIn K mainGlobals "plus" = some (some (.ref f6))) (l6 : K.lookup f6 = some ⟨oc6, od6, .func (PySem.W.fnOf "plus" "plus" (defArgs s_plus) (defBody s_plus) (defScope s_plus) .none kV6 dc6 pm6 an6 cd6 ct6), sl6⟩) (c6 : PySem.W.codeIn K cd6 "plus" = true) (k6 : PySem.W.keepIn K (.ref f6) = true)
    (a7 : PySem.W.nsIn K mainGlobals "minus" = some (some (.ref f7))) (l7 : K.lookup f7 = some ⟨oc7, od7, .func (PySem.W.fnOf "minus" "minus" (defArgs s_minus) (defBody s_minus) (defScope s_minus) .none kV7 dc7 pm7 an7 cd7 ct7), sl7⟩) (c7 : PySem.W.codeIn K cd7 "minus" = true) (k7 : PySem.W.keepIn K (.ref f7) = true)
    (a8 : PySem.W.nsIn K mainGlobals "times" = some (some (.ref f8))) (l8 : K.lookup f8 = some ⟨oc8, od8, .func (PySem.W.fnOf "times" "times" (defArgs s_times) (defBody s_times) (defScope s_times) .none kV8 dc8 pm8 an8 cd8 ct8), sl8⟩) (c8 : PySem.W.codeIn K cd8 "times" = true) (k8 : PySem.W.keepIn K (.ref f8) = true)
    (a9 : PySem.W.nsIn K mainGlobals "over" = some (some (.ref f9))) (l9 : K.lookup f9 = some ⟨oc9, od9, .func (PySem.W.fnOf "over" "over" (defArgs s_over) (defBody s_over) (defScope s_over) .none kV9 dc9 pm9 an9 cd9 ct9), sl9⟩) (c9 : PySem.W.codeIn K cd9 "over" = true) (k9 : PySem.W.keepIn K (.ref f9) = true)
    (a10 : PySem.W.nsIn K mainGlobals "power_in" = some (some (.ref f10))) (l10 : K.lookup f10 = some ⟨oc10, od10, .func (PySem.W.fnOf "power_in" "power_in" (defArgs s_power_in) (defBody s_power_in) (defScope s_power_in) .none kV10 dc10 pm10 an10 cd10 ct10), sl10⟩) (c10 : PySem.W.codeIn K cd10 "power_in" = true) (k10 : PySem.W.keepIn K (.ref f10) = true)
    (a11 : PySem.W.nsIn K mainGlobals "prime_power" = some (some (.ref f11))) (l11 : K.lookup f11 = some ⟨oc11, od11, .func (PySem.W.fnOf "prime_power" "prime_power" (defArgs s_prime_power) (defBody s_prime_power) (defScope s_prime_power) .none kV11 dc11 pm11 an11 cd11 ct11), sl11⟩) (c11 : PySem.W.codeIn K cd11 "prime_power" = true) (k11 : PySem.W.keepIn K (.ref f11) = true)
    (a12 : PySem.W.nsIn K mainGlobals "rest_by" = some (some (.ref f12))) (l12 : K.lookup f12 = some ⟨oc12, od12, .func (PySem.W.fnOf "rest_by" "rest_by" (defArgs s_rest_byN) (defBody s_rest_byN) (defScope s_rest_byN) .none kV12 dc12 pm12 an12 cd12 ct12), sl12⟩) (c12 : PySem.W.codeIn K cd12 "rest_by" = true) (k12 : PySem.W.keepIn K (.ref f12) = true)
    (a13 : PySem.W.nsIn K mainGlobals "measure" = some (some (.ref f13))) (l13 : K.lookup f13 = some ⟨oc13, od13, .func (PySem.W.fnOf "measure" "measure" (defArgs s_measure) (defBody s_measure) (defScope s_measure) .none kV13 dc13 pm13 an13 cd13 ct13), sl13⟩) (c13 : PySem.W.codeIn K cd13 "measure" = true) (k13 : PySem.W.keepIn K (.ref f13) = true)
    (a14 : PySem.W.nsIn K mainGlobals "trace" = some (some (.ref f14))) (l14 : K.lookup f14 = some ⟨oc14, od14, .func (PySem.W.fnOf "trace" "trace" (defArgs s_trace) (defBody s_trace) (defScope s_trace) .none kV14 dc14 pm14 an14 cd14 ct14), sl14⟩) (c14 : PySem.W.codeIn K cd14 "trace" = true) (k14 : PySem.W.keepIn K (.ref f14) = true)
    (a15 : PySem.W.nsIn K mainGlobals "product" = some (some (.ref f15))) (l15 : K.lookup f15 = some ⟨oc15, od15, .func (PySem.W.fnOf "product" "product" (defArgs s_product) (defBody s_product) (defScope s_product) .none kV15 dc15 pm15 an15 cd15 ct15), sl15⟩) (c15 : PySem.W.codeIn K cd15 "product" = true) (k15 : PySem.W.keepIn K (.ref f15) = true)
    (a16 : PySem.W.nsIn K mainGlobals "row_by_column" = some (some (.ref f16))) (l16 : K.lookup f16 = some ⟨oc16, od16, .func (PySem.W.fnOf "row_by_column" "row_by_column" (defArgs s_row_by_column) (defBody s_row_by_column) (defScope s_row_by_column) .none kV16 dc16 pm16 an16 cd16 ct16), sl16⟩) (c16 : PySem.W.codeIn K cd16 "row_by_column" = true) (k16 : PySem.W.keepIn K (.ref f16) = true)
    (a17 : PySem.W.nsIn K mainGlobals "turned_over" = some (some (.ref f17))) (l17 : K.lookup f17 = some ⟨oc17, od17, .func (PySem.W.fnOf "turned_over" "turned_over" (defArgs s_turned_over) (defBody s_turned_over) (defScope s_turned_over) .none kV17 dc17 pm17 an17 cd17 ct17), sl17⟩) (c17 : PySem.W.codeIn K cd17 "turned_over" = true) (k17 : PySem.W.keepIn K (.ref f17) = true)
    (a18 : PySem.W.nsIn K mainGlobals "stretched" = some (some (.ref f18))) (l18 : K.lookup f18 = some ⟨oc18, od18, .func (PySem.W.fnOf "stretched" "stretched" (defArgs s_stretched) (defBody s_stretched) (defScope s_stretched) .none kV18 dc18 pm18 an18 cd18 ct18), sl18⟩) (c18 : PySem.W.codeIn K cd18 "stretched" = true) (k18 : PySem.W.keepIn K (.ref f18) = true)
    (a19 : PySem.W.nsIn K mainGlobals "spot_of" = some (some (.ref f19))) (l19 : K.lookup f19 = some ⟨oc19, od19, .func (PySem.W.fnOf "spot_of" "spot_of" (defArgs s_spot_of) (defBody s_spot_of) (defScope s_spot_of) .none kV19 dc19 pm19 an19 cd19 ct19), sl19⟩) (c19 : PySem.W.codeIn K cd19 "spot_of" = true) (k19 : PySem.W.keepIn K (.ref f19) = true)
    (a20 : PySem.W.nsIn K mainGlobals "table_at" = some (some (.ref f20))) (l20 : K.lookup f20 = some ⟨oc20, od20, .func (PySem.W.fnOf "table_at" "table_at" (defArgs s_table_at) (defBody s_table_at) (defScope s_table_at) .none kV20 dc20 pm20 an20 cd20 ct20), sl20⟩) (c20 : PySem.W.codeIn K cd20 "table_at" = true) (k20 : PySem.W.keepIn K (.ref f20) = true)
    (a21 : PySem.W.nsIn K mainGlobals "spot_above" = some (some (.ref f21))) (l21 : K.lookup f21 = some ⟨oc21, od21, .func (PySem.W.fnOf "spot_above" "spot_above" (defArgs s_above) (defBody s_above) (defScope s_above) .none kV21 dc21 pm21 an21 cd21 ct21), sl21⟩) (c21 : PySem.W.codeIn K cd21 "spot_above" = true) (k21 : PySem.W.keepIn K (.ref f21) = true)
    (a22 : PySem.W.nsIn K mainGlobals "least_power" = some (some (.ref f22))) (l22 : K.lookup f22 = some ⟨oc22, od22, .func (PySem.W.fnOf "least_power" "least_power" (defArgs s_least_power) (defBody s_least_power) (defScope s_least_power) .none kV22 dc22 pm22 an22 cd22 ct22), sl22⟩) (c22 : PySem.W.codeIn K cd22 "least_power" = true) (k22 : PySem.W.keepIn K (.ref f22) = true)
    (a23 : PySem.W.nsIn K mainGlobals "two_numbers" = some (some (.ref f23))) (l23 : K.lookup f23 = some ⟨oc23, od23, .func (PySem.W.fnOf "two_numbers" "two_numbers" (defArgs s_two_numbers) (defBody s_two_numbers) (defScope s_two_numbers) .none kV23 dc23 pm23 an23 cd23 ct23), sl23⟩) (c23 : PySem.W.codeIn K cd23 "two_numbers" = true) (k23 : PySem.W.keepIn K (.ref f23) = true)
    (a24 : PySem.W.nsIn K mainGlobals "lies_in" = some (some (.ref f24))) (l24 : K.lookup f24 = some ⟨oc24, od24, .func (PySem.W.fnOf "lies_in" "lies_in" (defArgs s_lies78) (defBody s_lies78) (defScope s_lies78) .none kV24 dc24 pm24 an24 cd24 ct24), sl24⟩) (c24 : PySem.W.codeIn K cd24 "lies_in" = true) (k24 : PySem.W.keepIn K (.ref f24) = true)
    (a25 : PySem.W.nsIn K mainGlobals "way" = some (some (.ref f25))) (l25 : K.lookup f25 = some ⟨oc25, od25, .func (PySem.W.fnOf "way" "way" (defArgs s_way78) (defBody s_way78) (defScope s_way78) .none kV25 dc25 pm25 an25 cd25 ct25), sl25⟩) (c25 : PySem.W.codeIn K cd25 "way" = true) (k25 : PySem.W.keepIn K (.ref f25) = true)
    (a26 : PySem.W.nsIn K mainGlobals "moved" = some (some (.ref f26))) (l26 : K.lookup f26 = some ⟨oc26, od26, .func (PySem.W.fnOf "moved" "moved" (defArgs s_moved78) (defBody s_moved78) (defScope s_moved78) .none kV26 dc26 pm26 an26 cd26 ct26), sl26⟩) (c26 : PySem.W.codeIn K cd26 "moved" = true) (k26 : PySem.W.keepIn K (.ref f26) = true)
    (a27 : PySem.W.nsIn K mainGlobals "road" = some (some (.ref f27))) (l27 : K.lookup f27 = some ⟨oc27, od27, .func (PySem.W.fnOf "road" "road" (defArgs s_road78) (defBody s_road78) (defScope s_road78) .none kV27 dc27 pm27 an27 cd27 ct27), sl27⟩) (c27 : PySem.W.codeIn K cd27 "road" = true) (k27 : PySem.W.keepIn K (.ref f27) = true)
    (a28 : PySem.W.nsIn K mainGlobals "spots_between" = some (some (.ref f28))) (l28 : K.lookup f28 = some ⟨oc28, od28, .func (PySem.W.fnOf "spots_between" "spots_between" (defArgs s_sb78) (defBody s_sb78) (defScope s_sb78) .none kV28 dc28 pm28 an28 cd28 ct28), sl28⟩) (c28 : PySem.W.codeIn K cd28 "spots_between" = true) (k28 : PySem.W.keepIn K (.ref f28) = true)
    (a29 : PySem.W.nsIn K mainGlobals "turn_between" = some (some (.ref f29))) (l29 : K.lookup f29 = some ⟨oc29, od29, .func (PySem.W.fnOf "turn_between" "turn_between" (defArgs s_turn78) (defBody s_turn78) (defScope s_turn78) .none kV29 dc29 pm29 an29 cd29 ct29), sl29⟩) (c29 : PySem.W.codeIn K cd29 "turn_between" = true) (k29 : PySem.W.keepIn K (.ref f29) = true)
    (a30 : PySem.W.nsIn K mainGlobals "spot_along" = some (some (.ref f30))) (l30 : K.lookup f30 = some ⟨oc30, od30, .func (PySem.W.fnOf "spot_along" "spot_along" (defArgs s_along78) (defBody s_along78) (defScope s_along78) .none kV30 dc30 pm30 an30 cd30 ct30), sl30⟩) (c30 : PySem.W.codeIn K cd30 "spot_along" = true) (k30 : PySem.W.keepIn K (.ref f30) = true)
    (a31 : PySem.W.nsIn K mainGlobals "kind" = some (some (.ref f31))) (l31 : K.lookup f31 = some ⟨oc31, od31, .func (PySem.W.fnOf "kind" "kind" (defArgs s_kind78) (defBody s_kind78) (defScope s_kind78) .none kV31 dc31 pm31 an31 cd31 ct31), sl31⟩) (c31 : PySem.W.codeIn K cd31 "kind" = true) (k31 : PySem.W.keepIn K (.ref f31) = true)
    (a32 : PySem.W.nsIn K mainGlobals "slide" = some (some (.ref f32))) (l32 : K.lookup f32 = some ⟨oc32, od32, .func (PySem.W.fnOf "slide" "slide" (defArgs s_slide78) (defBody s_slide78) (defScope s_slide78) .none kV32 dc32 pm32 an32 cd32 ct32), sl32⟩) (c32 : PySem.W.codeIn K cd32 "slide" = true) (k32 : PySem.W.keepIn K (.ref f32) = true)
    (a33 : PySem.W.nsIn K mainGlobals "_law_cell" = some (some (.ref f33))) (l33 : K.lookup f33 = some ⟨oc33, od33, .func (PySem.W.fnOf "_law_cell" "_law_cell" (defArgs s_cell78) (defBody s_cell78) (defScope s_cell78) .none kV33 dc33 pm33 an33 cd33 ct33), sl33⟩) (c33 : PySem.W.codeIn K cd33 "_law_cell" = true) (k33 : PySem.W.keepIn K (.ref f33) = true)
    (a34 : PySem.W.nsIn K mainGlobals "_law_whole" = some (some (.ref f34))) (l34 : K.lookup f34 = some ⟨oc34, od34, .func (PySem.W.fnOf "_law_whole" "_law_whole" (defArgs s_wholeI) (defBody s_wholeI) (defScope s_wholeI) .none kV34 dc34 pm34 an34 cd34 ct34), sl34⟩) (c34 : PySem.W.codeIn K cd34 "_law_whole" = true) (k34 : PySem.W.keepIn K (.ref f34) = true)
    (a35 : PySem.W.nsIn K mainGlobals "_law_low" = some (some (.ref f35))) (l35 : K.lookup f35 = some ⟨oc35, od35, .func (PySem.W.fnOf "_law_low" "_law_low" (defArgs s_low78) (defBody s_low78) (defScope s_low78) .none kV35 dc35 pm35 an35 cd35 ct35), sl35⟩) (c35 : PySem.W.codeIn K cd35 "_law_low" = true) (k35 : PySem.W.keepIn K (.ref f35) = true)
    (a36 : PySem.W.nsIn K mainGlobals "_law_prime_power" = some (some (.ref f36))) (l36 : K.lookup f36 = some ⟨oc36, od36, .func (PySem.W.fnOf "_law_prime_power" "_law_prime_power" (defArgs s_pp78) (defBody s_pp78) (defScope s_pp78) .none kV36 dc36 pm36 an36 cd36 ct36), sl36⟩) (c36 : PySem.W.codeIn K cd36 "_law_prime_power" = true) (k36 : PySem.W.keepIn K (.ref f36) = true)
    (a37 : PySem.W.nsIn K mainGlobals "_law_rest" = some (some (.ref f37))) (l37 : K.lookup f37 = some ⟨oc37, od37, .func (PySem.W.fnOf "_law_rest" "_law_rest" (defArgs s_rest78) (defBody s_rest78) (defScope s_rest78) .none kV37 dc37 pm37 an37 cd37 ct37), sl37⟩) (c37 : PySem.W.codeIn K cd37 "_law_rest" = true) (k37 : PySem.W.keepIn K (.ref f37) = true)
    (a38 : PySem.W.nsIn K mainGlobals "_law_prime" = some (some (.ref f38))) (l38 : K.lookup f38 = some ⟨oc38, od38, .func (PySem.W.fnOf "_law_prime" "_law_prime" (defArgs s_prime78) (defBody s_prime78) (defScope s_prime78) .none kV38 dc38 pm38 an38 cd38 ct38), sl38⟩) (c38 : PySem.W.codeIn K cd38 "_law_prime" = true) (k38 : PySem.W.keepIn K (.ref f38) = true)
    (a39 : PySem.W.nsIn K mainGlobals "_law_marks" = some (some (.ref f39))) (l39 : K.lookup f39 = some ⟨oc39, od39, .func (PySem.W.fnOf "_law_marks" "_law_marks" (defArgs s_marks78) (defBody s_marks78) (defScope s_marks78) .none kV39 dc39 pm39 an39 cd39 ct39), sl39⟩) (c39 : PySem.W.codeIn K cd39 "_law_marks" = true) (k39 : PySem.W.keepIn K (.ref f39) = true)
    (a40 : PySem.W.nsIn K mainGlobals "_law_told" = some (some (.ref f40))) (l40 : K.lookup f40 = some ⟨oc40, od40, .func (PySem.W.fnOf "_law_told" "_law_told" (defArgs s_told78) (defBody s_told78) (defScope s_told78) .none kV40 dc40 pm40 an40 cd40 ct40), sl40⟩) (c40 : PySem.W.codeIn K cd40 "_law_told" = true) (k40 : PySem.W.keepIn K (.ref f40) = true)
    (a41 : PySem.W.nsIn K mainGlobals "_law_right" = some (some (.ref f41))) (l41 : K.lookup f41 = some ⟨oc41, od41, .func (PySem.W.fnOf "_law_right" "_law_right" (defArgs s_right78) (defBody s_right78) (defScope s_right78) .none kV41 dc41 pm41 an41 cd41 ct41), sl41⟩) (c41 : PySem.W.codeIn K cd41 "_law_right" = true) (k41 : PySem.W.keepIn K (.ref f41) = true)
    (a42 : PySem.W.nsIn K mainGlobals "law" = some (some (.ref f42))) (l42 : K.lookup f42 = some ⟨oc42, od42, .func (PySem.W.fnOf "law" "law" (defArgs s_law) (defBody s_law) (defScope s_law) .none kV42 dc42 pm42 an42 cd42 ct42), sl42⟩) (c42 : PySem.W.codeIn K cd42 "law" = true) (k42 : PySem.W.keepIn K (.ref f42) = true)
    (d5 : K.lookup Td5 = some ⟨toc5, tod5, .seq #[.int 1 ttk5] tn5, tsl5⟩)
    (z_abs : PySem.W.nsIn K mainGlobals "abs" = some none)
    (z_min : PySem.W.nsIn K mainGlobals "min" = some none)
    (z_range : PySem.W.nsIn K mainGlobals "range" = some none)
    (z_max : PySem.W.nsIn K mainGlobals "max" = some none)
    (z_len : PySem.W.nsIn K mainGlobals "len" = some none)
    (z_int : PySem.W.nsIn K mainGlobals "int" = some none)
    (z_isinstance : PySem.W.nsIn K mainGlobals "isinstance" = some none)
    (z_bool : PySem.W.nsIn K mainGlobals "bool" = some none)
    (z_ValueError : PySem.W.nsIn K mainGlobals "ValueError" = some none)
    (z_tuple : PySem.W.nsIn K mainGlobals "tuple" = some none)
    (z_list : PySem.W.nsIn K mainGlobals "list" = some none)
    {fi_TooFar : Addr} {oc_i kV_i dc_i pm_i cd_i ct_i : Value} {od_i an_i : Option Addr} {sl_i : Array (Option Value)}
    {ko_NOUGHT : Option Addr} {kn_NOUGHT : Nat} {ks_NOUGHT : Array (Option Value)} {kt_NOUGHT_0 kt_NOUGHT_1 : Tok}
    {ko_ONE : Option Addr} {kn_ONE : Nat} {ks_ONE : Array (Option Value)} {kt_ONE_0 kt_ONE_1 : Tok}
    {c_FIRST c2_FIRST : Addr} {ko_FIRST kp_FIRST : Option Addr} {kn_FIRST kq_FIRST : Nat} {ks_FIRST kr_FIRST : Array (Option Value)} {kt_FIRST_0 kt_FIRST_1 kt_FIRST_2 : Tok}
    {kt_FURTHEST_WAY : Tok}
    {kt_KEEPS : Tok}
    {kt_TURNS : Tok}
    {kt_SLIDES : Tok}
    (g_TreeError : PySem.W.nsIn K mainGlobals "TreeError" = some (some (.ref c_TreeError)))
    (g_NoPrime : PySem.W.nsIn K mainGlobals "NoPrime" = some (some (.ref c_NoPrime)))
    (g_NoFraction : PySem.W.nsIn K mainGlobals "NoFraction" = some (some (.ref c_NoFraction)))
    (g_NoText : PySem.W.nsIn K mainGlobals "NoText" = some (some (.ref c_NoText)))
    (g_NoSpot : PySem.W.nsIn K mainGlobals "NoSpot" = some (some (.ref c_NoSpot)))
    (g_NoTable : PySem.W.nsIn K mainGlobals "NoTable" = some (some (.ref c_NoTable)))
    (g_TooMany : PySem.W.nsIn K mainGlobals "TooMany" = some (some (.ref c_TooMany)))
    (g_NoLine : PySem.W.nsIn K mainGlobals "NoLine" = some (some (.ref c_NoLine)))
    (g_NoRow : PySem.W.nsIn K mainGlobals "NoRow" = some (some (.ref c_NoRow)))
    (g_NothingDone : PySem.W.nsIn K mainGlobals "NothingDone" = some (some (.ref c_NothingDone)))
    (g_TooFar : PySem.W.nsIn K mainGlobals "TooFar" = some (some (.ref c_TooFar)))
    (fi_a_TooFar : PySem.W.findIn K (.ref c_TooFar) "__init__" = some (some (.ref fi_TooFar)))
    (fk_TooFar : farKb K c_TooFar c_TreeError fi_TooFar = true)
    (kc_TooFar : PySem.W.keepIn K (.ref c_TooFar) = true)
    (li_TooFar : K.lookup fi_TooFar = some ⟨oc_i, od_i, .func (PySem.W.fnOf "__init__" "TooFar.__init__" (defArgs s_init) (defBody s_init) (defScope s_init) .none kV_i dc_i pm_i an_i cd_i ct_i), sl_i⟩)
    (ci_TooFar : PySem.W.codeIn K cd_i "TooFar.__init__" = true)
    (ki_TooFar : PySem.W.keepIn K (.ref fi_TooFar) = true)
    (e_TooFar : excKb K c_TooFar = true)
    (v_TooFar : PySem.W.kitOne K (.ref c_TooFar) (.type "ValueError") = some true)
    (i_TooFar_TooFar : PySem.W.kitOne K (.ref c_TooFar) (.ref c_TooFar) = some true)
    (i_TooFar_NoFraction : PySem.W.kitOne K (.ref c_TooFar) (.ref c_NoFraction) = some false)
    (i_TooFar_NoLine : PySem.W.kitOne K (.ref c_TooFar) (.ref c_NoLine) = some false)
    (i_TooFar_NoPrime : PySem.W.kitOne K (.ref c_TooFar) (.ref c_NoPrime) = some false)
    (i_TooFar_NoRow : PySem.W.kitOne K (.ref c_TooFar) (.ref c_NoRow) = some false)
    (i_TooFar_NoSpot : PySem.W.kitOne K (.ref c_TooFar) (.ref c_NoSpot) = some false)
    (i_TooFar_NoTable : PySem.W.kitOne K (.ref c_TooFar) (.ref c_NoTable) = some false)
    (i_TooFar_NoText : PySem.W.kitOne K (.ref c_TooFar) (.ref c_NoText) = some false)
    (i_TooFar_NothingDone : PySem.W.kitOne K (.ref c_TooFar) (.ref c_NothingDone) = some false)
    (i_TooFar_TooMany : PySem.W.kitOne K (.ref c_TooFar) (.ref c_TooMany) = some false)
    (m_TooFar_TreeError : PySem.W.exmOne K (.ref c_TooFar) (.ref c_TreeError) = some true)
    (ka_NOUGHT : PySem.W.nsIn K mainGlobals "NOUGHT" = some (some (.ref c_NOUGHT)))
    (kl_NOUGHT : K.lookup c_NOUGHT = some ⟨.type "tuple", ko_NOUGHT, .seq #[.int 0 kt_NOUGHT_0, .int 1 kt_NOUGHT_1] kn_NOUGHT, ks_NOUGHT⟩)
    (ka_ONE : PySem.W.nsIn K mainGlobals "ONE" = some (some (.ref c_ONE)))
    (kl_ONE : K.lookup c_ONE = some ⟨.type "tuple", ko_ONE, .seq #[.int 1 kt_ONE_0, .int 1 kt_ONE_1] kn_ONE, ks_ONE⟩)
    (ka_FIRST : PySem.W.nsIn K mainGlobals "FIRST" = some (some (.ref c_FIRST)))
    (kl_FIRST : K.lookup c_FIRST = some ⟨.type "tuple", ko_FIRST, .seq #[.int 0 kt_FIRST_0, .ref c2_FIRST] kn_FIRST, ks_FIRST⟩)
    (km_FIRST : K.lookup c2_FIRST = some ⟨.type "tuple", kp_FIRST, .seq #[.int 0 kt_FIRST_1, .int 1 kt_FIRST_2] kq_FIRST, kr_FIRST⟩)
    (ka_FURTHEST_WAY : PySem.W.nsIn K mainGlobals "FURTHEST_WAY" = some (some (.int 500 kt_FURTHEST_WAY)))
    (ka_KEEPS : PySem.W.nsIn K mainGlobals "KEEPS" = some (some (.str "keeps" kt_KEEPS)))
    (ka_TURNS : PySem.W.nsIn K mainGlobals "TURNS" = some (some (.str "turns" kt_TURNS)))
    (ka_SLIDES : PySem.W.nsIn K mainGlobals "SLIDES" = some (some (.str "slides" kt_SLIDES)))
    : ∃ fd : FuncData, (∀ (s : Shared) (v : Value), BindsTo s fd ⟨[v], []⟩ [("_law_script", v)]) ∧ ∀ base : Heap, K.In base → base.Ns mainGlobals mg → FnOk l.prog w K mg base CX0 12 fa fd ["_law_script"] (spD K R_law) := by
  have e := hfa.symm.trans (PySem.W.mg_of X G a42)
  cases e
  have FL := fun_mk (st := s_law) l42 c42 k42
  refine ⟨PySem.W.fnOf "law" "law" (defArgs s_law) (defBody s_law) (defScope s_law) .none kV42 dc42 pm42 an42 cd42 ct42, fun s v => .of_eq rfl, fun base _ _ => ?_⟩
  have M : Mo ⟨l.prog, w, K, mg, base⟩ := {
    b_abs := PySem.W.mg_none_of X G z_abs
    b_min := PySem.W.mg_none_of X G z_min
    b_range := PySem.W.mg_none_of X G z_range
    b_max := PySem.W.mg_none_of X G z_max
    b_len := PySem.W.mg_none_of X G z_len
    b_int := PySem.W.mg_none_of X G z_int
    b_isinstance := PySem.W.mg_none_of X G z_isinstance
    b_bool := PySem.W.mg_none_of X G z_bool
    b_ValueError := PySem.W.mg_none_of X G z_ValueError
    b_tuple := PySem.W.mg_none_of X G z_tuple
    b_list := PySem.W.mg_none_of X G z_list
    F_shared := ⟨_, _, fun_mk (st := s_shared) l0 c0 k0, PySem.W.mg_of X G a0⟩
    F_power_of := ⟨_, _, fun_mk (st := s_power_of) l1 c1 k1, PySem.W.mg_of X G a1⟩
    F_raised := ⟨_, _, fun_mk (st := s_raised) l2 c2 k2, PySem.W.mg_of X G a2⟩
    F_over_by := ⟨_, _, fun_mk (st := s_over_by) l3 c3 k3, PySem.W.mg_of X G a3⟩
    F_obp := ⟨_, _, fun_mk (st := s_obp) l4 c4 k4, PySem.W.mg_of X G a4⟩
    F_fraction := ⟨_, _, _, _, _, _, _, _, _, _, _, _, _, _, l5, d5, rfl, c5, k5, PySem.W.mg_of X G a5⟩
    F_plus := ⟨_, _, fun_mk (st := s_plus) l6 c6 k6, PySem.W.mg_of X G a6⟩
    F_minus := ⟨_, _, fun_mk (st := s_minus) l7 c7 k7, PySem.W.mg_of X G a7⟩
    F_times := ⟨_, _, fun_mk (st := s_times) l8 c8 k8, PySem.W.mg_of X G a8⟩
    F_over := ⟨_, _, fun_mk (st := s_over) l9 c9 k9, PySem.W.mg_of X G a9⟩
    F_power_in := ⟨_, _, fun_mk (st := s_power_in) l10 c10 k10, PySem.W.mg_of X G a10⟩
    F_prime_power := ⟨_, _, fun_mk (st := s_prime_power) l11 c11 k11, PySem.W.mg_of X G a11⟩
    F_rest_byN := ⟨_, _, fun_mk (st := s_rest_byN) l12 c12 k12, PySem.W.mg_of X G a12⟩
    F_measure := ⟨_, _, fun_mk (st := s_measure) l13 c13 k13, PySem.W.mg_of X G a13⟩
    F_trace := ⟨_, _, fun_mk (st := s_trace) l14 c14 k14, PySem.W.mg_of X G a14⟩
    F_product := ⟨_, _, fun_mk (st := s_product) l15 c15 k15, PySem.W.mg_of X G a15⟩
    F_row_by_column := ⟨_, _, fun_mk (st := s_row_by_column) l16 c16 k16, PySem.W.mg_of X G a16⟩
    F_turned_over := ⟨_, _, fun_mk (st := s_turned_over) l17 c17 k17, PySem.W.mg_of X G a17⟩
    F_stretched := ⟨_, _, fun_mk (st := s_stretched) l18 c18 k18, PySem.W.mg_of X G a18⟩
    F_spot_of := ⟨_, _, fun_mk (st := s_spot_of) l19 c19 k19, PySem.W.mg_of X G a19⟩
    F_table_at := ⟨_, _, fun_mk (st := s_table_at) l20 c20 k20, PySem.W.mg_of X G a20⟩
    F_above := ⟨_, _, fun_mk (st := s_above) l21 c21 k21, PySem.W.mg_of X G a21⟩
    F_least_power := ⟨_, _, fun_mk (st := s_least_power) l22 c22 k22, PySem.W.mg_of X G a22⟩
    F_two_numbers := ⟨_, _, fun_mk (st := s_two_numbers) l23 c23 k23, PySem.W.mg_of X G a23⟩
    F_lies78 := ⟨_, _, fun_mk (st := s_lies78) l24 c24 k24, PySem.W.mg_of X G a24⟩
    F_way78 := ⟨_, _, fun_mk (st := s_way78) l25 c25 k25, PySem.W.mg_of X G a25⟩
    F_moved78 := ⟨_, _, fun_mk (st := s_moved78) l26 c26 k26, PySem.W.mg_of X G a26⟩
    F_road78 := ⟨_, _, fun_mk (st := s_road78) l27 c27 k27, PySem.W.mg_of X G a27⟩
    F_sb78 := ⟨_, _, fun_mk (st := s_sb78) l28 c28 k28, PySem.W.mg_of X G a28⟩
    F_turn78 := ⟨_, _, fun_mk (st := s_turn78) l29 c29 k29, PySem.W.mg_of X G a29⟩
    F_along78 := ⟨_, _, fun_mk (st := s_along78) l30 c30 k30, PySem.W.mg_of X G a30⟩
    F_kind78 := ⟨_, _, fun_mk (st := s_kind78) l31 c31 k31, PySem.W.mg_of X G a31⟩
    F_slide78 := ⟨_, _, fun_mk (st := s_slide78) l32 c32 k32, PySem.W.mg_of X G a32⟩
    F_cell78 := ⟨_, _, fun_mk (st := s_cell78) l33 c33 k33, PySem.W.mg_of X G a33⟩
    F_wholeI := ⟨_, _, fun_mk (st := s_wholeI) l34 c34 k34, PySem.W.mg_of X G a34⟩
    F_low78 := ⟨_, _, fun_mk (st := s_low78) l35 c35 k35, PySem.W.mg_of X G a35⟩
    F_pp78 := ⟨_, _, fun_mk (st := s_pp78) l36 c36 k36, PySem.W.mg_of X G a36⟩
    F_rest78 := ⟨_, _, fun_mk (st := s_rest78) l37 c37 k37, PySem.W.mg_of X G a37⟩
    F_prime78 := ⟨_, _, fun_mk (st := s_prime78) l38 c38 k38, PySem.W.mg_of X G a38⟩
    F_marks78 := ⟨_, _, fun_mk (st := s_marks78) l39 c39 k39, PySem.W.mg_of X G a39⟩
    F_told78 := ⟨_, _, fun_mk (st := s_told78) l40 c40 k40, PySem.W.mg_of X G a40⟩
    F_right78 := ⟨_, _, fun_mk (st := s_right78) l41 c41 k41, PySem.W.mg_of X G a41⟩
    g_TreeError := ⟨_, PySem.W.mg_of X G g_TreeError⟩
    g_NoPrime := ⟨_, PySem.W.mg_of X G g_NoPrime⟩
    g_NoFraction := ⟨_, PySem.W.mg_of X G g_NoFraction⟩
    g_NoText := ⟨_, PySem.W.mg_of X G g_NoText⟩
    g_NoSpot := ⟨_, PySem.W.mg_of X G g_NoSpot⟩
    g_NoTable := ⟨_, PySem.W.mg_of X G g_NoTable⟩
    g_TooMany := ⟨_, PySem.W.mg_of X G g_TooMany⟩
    g_NoLine := ⟨_, PySem.W.mg_of X G g_NoLine⟩
    g_NoRow := ⟨_, PySem.W.mg_of X G g_NoRow⟩
    g_NothingDone := ⟨_, PySem.W.mg_of X G g_NothingDone⟩
    g_TooFar := ⟨_, PySem.W.mg_of X G g_TooFar⟩
    z_TooFar := ⟨_, _, _, _, PySem.W.mg_of X G g_TooFar, PySem.W.mg_of X G g_TreeError, farK_of fk_TooFar, kc_TooFar, fun_mk (st := s_init) li_TooFar ci_TooFar ki_TooFar⟩
    e_TooFar := fun C h1 => by cases h1.symm.trans (PySem.W.mg_of X G g_TooFar); exact excK_of e_TooFar
    v_TooFar := fun C h1 => by cases h1.symm.trans (PySem.W.mg_of X G g_TooFar); exact v_TooFar
    i_TooFar_TooFar := fun C C' h1 h2 => by cases h1.symm.trans (PySem.W.mg_of X G g_TooFar); cases h2.symm.trans (PySem.W.mg_of X G g_TooFar); exact i_TooFar_TooFar
    i_TooFar_NoFraction := fun C C' h1 h2 => by cases h1.symm.trans (PySem.W.mg_of X G g_TooFar); cases h2.symm.trans (PySem.W.mg_of X G g_NoFraction); exact i_TooFar_NoFraction
    i_TooFar_NoLine := fun C C' h1 h2 => by cases h1.symm.trans (PySem.W.mg_of X G g_TooFar); cases h2.symm.trans (PySem.W.mg_of X G g_NoLine); exact i_TooFar_NoLine
    i_TooFar_NoPrime := fun C C' h1 h2 => by cases h1.symm.trans (PySem.W.mg_of X G g_TooFar); cases h2.symm.trans (PySem.W.mg_of X G g_NoPrime); exact i_TooFar_NoPrime
    i_TooFar_NoRow := fun C C' h1 h2 => by cases h1.symm.trans (PySem.W.mg_of X G g_TooFar); cases h2.symm.trans (PySem.W.mg_of X G g_NoRow); exact i_TooFar_NoRow
    i_TooFar_NoSpot := fun C C' h1 h2 => by cases h1.symm.trans (PySem.W.mg_of X G g_TooFar); cases h2.symm.trans (PySem.W.mg_of X G g_NoSpot); exact i_TooFar_NoSpot
    i_TooFar_NoTable := fun C C' h1 h2 => by cases h1.symm.trans (PySem.W.mg_of X G g_TooFar); cases h2.symm.trans (PySem.W.mg_of X G g_NoTable); exact i_TooFar_NoTable
    i_TooFar_NoText := fun C C' h1 h2 => by cases h1.symm.trans (PySem.W.mg_of X G g_TooFar); cases h2.symm.trans (PySem.W.mg_of X G g_NoText); exact i_TooFar_NoText
    i_TooFar_NothingDone := fun C C' h1 h2 => by cases h1.symm.trans (PySem.W.mg_of X G g_TooFar); cases h2.symm.trans (PySem.W.mg_of X G g_NothingDone); exact i_TooFar_NothingDone
    i_TooFar_TooMany := fun C C' h1 h2 => by cases h1.symm.trans (PySem.W.mg_of X G g_TooFar); cases h2.symm.trans (PySem.W.mg_of X G g_TooMany); exact i_TooFar_TooMany
    m_TooFar_TreeError := fun C C' h1 h2 => by cases h1.symm.trans (PySem.W.mg_of X G g_TooFar); cases h2.symm.trans (PySem.W.mg_of X G g_TreeError); exact m_TooFar_TreeError
    k_NOUGHT := ⟨_, PySem.W.mg_of X G ka_NOUGHT, _, _, _, kl_NOUGHT, rfl, rfl, of_decide_eq_true rfl, .cons ⟨_, rfl⟩ (.cons ⟨_, rfl⟩ (.nil))⟩
    k_ONE := ⟨_, PySem.W.mg_of X G ka_ONE, _, _, _, kl_ONE, rfl, rfl, of_decide_eq_true rfl, .cons ⟨_, rfl⟩ (.cons ⟨_, rfl⟩ (.nil))⟩
    k_FIRST := ⟨_, _, PySem.W.mg_of X G ka_FIRST, ⟨_, _, _, kl_FIRST, rfl, rfl, of_decide_eq_true rfl, .cons ⟨_, rfl⟩ (.cons rfl .nil)⟩, ⟨_, _, _, km_FIRST, rfl, rfl, of_decide_eq_true rfl, .cons ⟨_, rfl⟩ (.cons ⟨_, rfl⟩ .nil)⟩⟩
    k_FURTHEST_WAY := ⟨_, PySem.W.mg_of X G ka_FURTHEST_WAY⟩
    k_KEEPS := ⟨_, PySem.W.mg_of X G ka_KEEPS⟩
    k_TURNS := ⟨_, PySem.W.mg_of X G ka_TURNS⟩
    k_SLIDES := ⟨_, PySem.W.mg_of X G ka_SLIDES⟩
    }
  exact okk_law M FL
theorem walk {l : PySem.W.OpenLaw} {q : Program} {loose : List Str} {XP : (Str → Option Value) → Heap → Prop} {YP : World → Heap → Prop} {d : DefRec} {K : Params → PySem.W.Frag} (hn : l.most = some 63) (hdf : d.params.defaults = [])
    (hY : ∀ (w : World) (h : Heap), YP w h → (K w.params).In h)
    (F : ∀ (w : World) (mg : Str → Option Value) (fa : Addr) (h : Heap), (K w.params).In h → h.Ns mainGlobals mg → mg d.name = some (.ref fa) →
      ∃ fd : FuncData, (∀ (s : Shared) (u : Value), BindsTo s fd ⟨[u], []⟩ [("_law_script", u)]) ∧ ∀ base : Heap, (K w.params).In base → base.Ns mainGlobals mg → FnOk l.prog w (K w.params) mg base CX0 12 fa fd ["_law_script"] (spD (K w.params) R_law)) :
    PySem.W.WalkO q loose XP YP l.row.toRowW d [] (fun f vs => PySem.call f vs) :=
  L2.walk_of (n := 63) (k := 12) (x := "_law_script") (CX := fun _ => CX0) (sp := fun w => spD (K w.params) R_law) hn (by decide) hdf ⟨rfl, by decide, by decide⟩ hY F (fun w H a ns hl _ hS => law_sp _ H a ns hl hS) fun _ _ _ _ _ z => z
end R
open PySem PySem.W PyProof.Rows
def PySem.W.Fast.tw10887955444970093329 : Unit := ()
def PySem.W.Fast.tw9493848005638388405 : Unit := ()
def PySem.W.Fast.tw10918270114109291332 : Unit := ()
def PySem.W.Fast.tw17395361565852723671 : Unit := ()
def PySem.W.Fast.tw11317640144618731802 : Unit := ()
def PySem.W.Fast.tw7370960101716037506 : Unit := ()
def PySem.W.Fast.tw14840734124802265938 : Unit := ()
def PySem.W.Fast.tw15801723327235542832 : Unit := ()
def PySem.W.Fast.tw16973208660992765309 : Unit := ()
def PySem.W.Fast.tw8175048252598297806 : Unit := ()
def PySem.W.Fast.tw2236528992750521892 : Unit := ()
def PySem.W.Fast.tw11838971785044655197 : Unit := ()
def PySem.W.Fast.tw1547216186415929137 : Unit := ()
def PySem.W.Fast.tw1576638548547360014 : Unit := ()
def PySem.W.Fast.tw7041579521039617700 : Unit := ()
def PySem.W.Fast.tw12760589784494122109 : Unit := ()
set_option maxRecDepth 100000 in
set_option maxHeartbeats 0 in
theorem PySem.Challenge.cw_primetree_k78_slides_too_far_holds : PySem.Challenge.rw_primetree_k78_slides_too_far.Holds := by
  w_on; o_law; k_head; (case hw => w_witness2)
  k_fill
  refine R.walk (l := PySem.Challenge.rw_primetree_k78_slides_too_far) rfl rfl (fun w h Y => PySem.W.kIn_of Y) ?F
  case F =>
    intro w mg fa h KX G hmg
    refine' R.all_mk KX G hmg ?a0 ?l0 ?c0 ?k0 ?a1 ?l1 ?c1 ?k1 ?a2 ?l2 ?c2 ?k2 ?a3 ?l3 ?c3 ?k3 ?a4 ?l4 ?c4 ?k4 ?a5 ?l5 ?c5 ?k5 ?a6 ?l6 ?c6 ?k6 ?a7 ?l7 ?c7 ?k7 ?a8 ?l8 ?c8 ?k8 ?a9 ?l9 ?c9 ?k9 ?a10 ?l10 ?c10 ?k10 ?a11 ?l11 ?c11 ?k11 ?a12 ?l12 ?c12 ?k12 ?a13 ?l13 ?c13 ?k13 ?a14 ?l14 ?c14 ?k14 ?a15 ?l15 ?c15 ?k15 ?a16 ?l16 ?c16 ?k16 ?a17 ?l17 ?c17 ?k17 ?a18 ?l18 ?c18 ?k18 ?a19 ?l19 ?c19 ?k19 ?a20 ?l20 ?c20 ?k20 ?a21 ?l21 ?c21 ?k21 ?a22 ?l22 ?c22 ?k22 ?a23 ?l23 ?c23 ?k23 ?a24 ?l24 ?c24 ?k24 ?a25 ?l25 ?c25 ?k25 ?a26 ?l26 ?c26 ?k26 ?a27 ?l27 ?c27 ?k27 ?a28 ?l28 ?c28 ?k28 ?a29 ?l29 ?c29 ?k29 ?a30 ?l30 ?c30 ?k30 ?a31 ?l31 ?c31 ?k31 ?a32 ?l32 ?c32 ?k32 ?a33 ?l33 ?c33 ?k33 ?a34 ?l34 ?c34 ?k34 ?a35 ?l35 ?c35 ?k35 ?a36 ?l36 ?c36 ?k36 ?a37 ?l37 ?c37 ?k37 ?a38 ?l38 ?c38 ?k38 ?a39 ?l39 ?c39 ?k39 ?a40 ?l40 ?c40 ?k40 ?a41 ?l41 ?c41 ?k41 ?a42 ?l42 ?c42 ?k42 ?d5 ?z_abs ?z_min ?z_range ?z_max ?z_len ?z_int ?z_isinstance ?z_bool ?z_ValueError ?z_tuple ?z_list ?q_g_TreeError ?q_g_NoPrime ?q_g_NoFraction ?q_g_NoText ?q_g_NoSpot ?q_g_NoTable ?q_g_TooMany ?q_g_NoLine ?q_g_NoRow ?q_g_NothingDone ?q_g_TooFar ?q_fi_a_TooFar ?q_fk_TooFar ?q_kc_TooFar ?q_li_TooFar ?q_ci_TooFar ?q_ki_TooFar ?q_e_TooFar ?q_v_TooFar ?q_i_TooFar_TooFar ?q_i_TooFar_NoFraction ?q_i_TooFar_NoLine ?q_i_TooFar_NoPrime ?q_i_TooFar_NoRow ?q_i_TooFar_NoSpot ?q_i_TooFar_NoTable ?q_i_TooFar_NoText ?q_i_TooFar_NothingDone ?q_i_TooFar_TooMany ?q_m_TooFar_TreeError ?q_ka_NOUGHT ?q_kl_NOUGHT ?q_ka_ONE ?q_kl_ONE ?q_ka_FIRST ?q_kl_FIRST ?q_km_FIRST ?q_ka_FURTHEST_WAY ?q_ka_KEEPS ?q_ka_TURNS ?q_ka_SLIDES
    (case a0 => k_is); (case l0 => k_is); (case c0 => k_is); (case k0 => k_is)
    (case a1 => k_is); (case l1 => k_is); (case c1 => k_is); (case k1 => k_is)
    (case a2 => k_is); (case l2 => k_is); (case c2 => k_is); (case k2 => k_is)
    (case a3 => k_is); (case l3 => k_is); (case c3 => k_is); (case k3 => k_is)
    (case a4 => k_is); (case l4 => k_is); (case c4 => k_is); (case k4 => k_is)
    (case a5 => k_is); (case l5 => k_is); (case c5 => k_is); (case k5 => k_is)
    (case a6 => k_is); (case l6 => k_is); (case c6 => k_is); (case k6 => k_is)
    (case a7 => k_is); (case l7 => k_is); (case c7 => k_is); (case k7 => k_is)
    (case a8 => k_is); (case l8 => k_is); (case c8 => k_is); (case k8 => k_is)
    (case a9 => k_is); (case l9 => k_is); (case c9 => k_is); (case k9 => k_is)
    (case a10 => k_is); (case l10 => k_is); (case c10 => k_is); (case k10 => k_is)
    (case a11 => k_is); (case l11 => k_is); (case c11 => k_is); (case k11 => k_is)
    (case a12 => k_is); (case l12 => k_is); (case c12 => k_is); (case k12 => k_is)
    (case a13 => k_is); (case l13 => k_is); (case c13 => k_is); (case k13 => k_is)
    (case a14 => k_is); (case l14 => k_is); (case c14 => k_is); (case k14 => k_is)
    (case a15 => k_is); (case l15 => k_is); (case c15 => k_is); (case k15 => k_is)
    (case a16 => k_is); (case l16 => k_is); (case c16 => k_is); (case k16 => k_is)
    (case a17 => k_is); (case l17 => k_is); (case c17 => k_is); (case k17 => k_is)
    (case a18 => k_is); (case l18 => k_is); (case c18 => k_is); (case k18 => k_is)
    (case a19 => k_is); (case l19 => k_is); (case c19 => k_is); (case k19 => k_is)
    (case a20 => k_is); (case l20 => k_is); (case c20 => k_is); (case k20 => k_is)
    (case a21 => k_is); (case l21 => k_is); (case c21 => k_is); (case k21 => k_is)
    (case a22 => k_is); (case l22 => k_is); (case c22 => k_is); (case k22 => k_is)
    (case a23 => k_is); (case l23 => k_is); (case c23 => k_is); (case k23 => k_is)
    (case a24 => k_is); (case l24 => k_is); (case c24 => k_is); (case k24 => k_is)
    (case a25 => k_is); (case l25 => k_is); (case c25 => k_is); (case k25 => k_is)
    (case a26 => k_is); (case l26 => k_is); (case c26 => k_is); (case k26 => k_is)
    (case a27 => k_is); (case l27 => k_is); (case c27 => k_is); (case k27 => k_is)
    (case a28 => k_is); (case l28 => k_is); (case c28 => k_is); (case k28 => k_is)
    (case a29 => k_is); (case l29 => k_is); (case c29 => k_is); (case k29 => k_is)
    (case a30 => k_is); (case l30 => k_is); (case c30 => k_is); (case k30 => k_is)
    (case a31 => k_is); (case l31 => k_is); (case c31 => k_is); (case k31 => k_is)
    (case a32 => k_is); (case l32 => k_is); (case c32 => k_is); (case k32 => k_is)
    (case a33 => k_is); (case l33 => k_is); (case c33 => k_is); (case k33 => k_is)
    (case a34 => k_is); (case l34 => k_is); (case c34 => k_is); (case k34 => k_is)
    (case a35 => k_is); (case l35 => k_is); (case c35 => k_is); (case k35 => k_is)
    (case a36 => k_is); (case l36 => k_is); (case c36 => k_is); (case k36 => k_is)
    (case a37 => k_is); (case l37 => k_is); (case c37 => k_is); (case k37 => k_is)
    (case a38 => k_is); (case l38 => k_is); (case c38 => k_is); (case k38 => k_is)
    (case a39 => k_is); (case l39 => k_is); (case c39 => k_is); (case k39 => k_is)
    (case a40 => k_is); (case l40 => k_is); (case c40 => k_is); (case k40 => k_is)
    (case a41 => k_is); (case l41 => k_is); (case c41 => k_is); (case k41 => k_is)
    (case a42 => k_is); (case l42 => k_is); (case c42 => k_is); (case k42 => k_is)
    (case d5 => k_is)
    (case z_abs => k_is)
    (case z_min => k_is)
    (case z_range => k_is)
    (case z_max => k_is)
    (case z_len => k_is)
    (case z_int => k_is)
    (case z_isinstance => k_is)
    (case z_bool => k_is)
    (case z_ValueError => k_is)
    (case z_tuple => k_is)
    (case z_list => k_is)
    (case q_g_TreeError => k_is)
    (case q_g_NoPrime => k_is)
    (case q_g_NoFraction => k_is)
    (case q_g_NoText => k_is)
    (case q_g_NoSpot => k_is)
    (case q_g_NoTable => k_is)
    (case q_g_TooMany => k_is)
    (case q_g_NoLine => k_is)
    (case q_g_NoRow => k_is)
    (case q_g_NothingDone => k_is)
    (case q_g_TooFar => k_is)
    (case q_fi_a_TooFar => k_is)
    (case q_fk_TooFar => kernel_rfl)
    (case q_kc_TooFar => kernel_rfl)
    (case q_li_TooFar => k_is)
    (case q_ci_TooFar => k_is)
    (case q_ki_TooFar => k_is)
    (case q_e_TooFar => kernel_rfl)
    (case q_v_TooFar => kernel_rfl)
    (case q_i_TooFar_TooFar => kernel_rfl)
    (case q_i_TooFar_NoFraction => kernel_rfl)
    (case q_i_TooFar_NoLine => kernel_rfl)
    (case q_i_TooFar_NoPrime => kernel_rfl)
    (case q_i_TooFar_NoRow => kernel_rfl)
    (case q_i_TooFar_NoSpot => kernel_rfl)
    (case q_i_TooFar_NoTable => kernel_rfl)
    (case q_i_TooFar_NoText => kernel_rfl)
    (case q_i_TooFar_NothingDone => kernel_rfl)
    (case q_i_TooFar_TooMany => kernel_rfl)
    (case q_m_TooFar_TreeError => kernel_rfl)
    (case q_ka_NOUGHT => k_is)
    (case q_kl_NOUGHT => k_is)
    (case q_ka_ONE => k_is)
    (case q_kl_ONE => k_is)
    (case q_ka_FIRST => k_is)
    (case q_kl_FIRST => k_is)
    (case q_km_FIRST => k_is)
    (case q_ka_FURTHEST_WAY => k_is)
    (case q_ka_KEEPS => k_is)
    (case q_ka_TURNS => k_is)
    (case q_ka_SLIDES => k_is)
#print axioms PySem.Challenge.cw_primetree_k78_slides_too_far_holds
